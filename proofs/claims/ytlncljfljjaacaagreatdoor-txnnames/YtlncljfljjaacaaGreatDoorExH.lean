/- The contracts of line.Word at a word, and of work.Right at what may be. -/
import Derived.Test.YtlncljfljjaacaaGreatDoorExC
import Derived.Test.YtlncljfljjaacaaGreatDoorExG
namespace Go.Proofs.YtlncljfljjaacaaGreatDoor.E
open Go.ChangeShapes Go.WideShapes Go.ChangeAt Go.RowKit
set_option linter.unusedVariables false
set_option linter.unusedSimpArgs false

theorem row_one {p : Rd} {ks : List Nat} {s : Bs} {x : Ex} (h : p s = some (x, [])) : rowP p ks s = some (x, []) := by
  unfold rowP
  rw [h]
  show rowGo p ks 1 x [] = _
  unfold rowGo
  rw [between_none [] (.inr rfl)]

theorem parse_word {s : Bs} (h : wordS s = true) : parseP s = some (.name s) := by
  have h1 := took_none (.inl h) (.inl rfl : Tok [45])
  have h2 := took_none (.inl h) (.inr (.inl rfl) : Tok [40])
  have h4 := took_none (.inl h) (.inr (.inr (.inl rfl)) : Tok [46])
  have h' := h
  unfold wordS at h'
  simp only [Bool.and_eq_true] at h'
  obtain ⟨t1, t2⟩ := take_all h'.1
  have hs : singleP 12 s = some (.name s, []) := by
    unfold singleP
    rw [h1]
    simp only
    rw [h2]
    simp only
    rw [h4]
    simp only [Bool.false_eq_true, if_false]
    rw [t1, t2]
    unfold leafP
    rw [if_pos h'.2]
    rfl
  have hp : orsP (singleP 12) s = some (.name s, []) := row_one (row_one (row_one (row_one (row_one hs))))
  unfold parseP
  rw [hp]
  rfl

theorem wordS_len {s : Bs} (h : wordS s = true) : s.length ≤ 12 := by
  unfold wordS at h
  cases s with
  | nil => simp
  | cons c l =>
    simp only [wordP, Bool.and_eq_true, decide_eq_true_eq] at h
    exact h.2.1.1

set_option maxHeartbeats 800000 in
theorem lword_any (s : Bs) (h : wordS s = true) (w : World) (T : Tab w) :
    Calls Tryz.prog 38 #[.string (bs s)] w fun e w' => e = .returned (.bool true) ∧ Below w.heap.size w w' := by
  have hl := wordS_len h
  have P := parse_any s ⟨by omega, .inr h⟩ w T
  rw [parse_word h] at P
  have hsz := bs_size s
  have hlI : (s.length : Int) ≤ 12 := by omega
  have e1 : ((bs s).toList == (bs s).toList) = true := by simp
  clear h
  go_enter Tryz.func38, Tryz.ntmps38
  go_wp2_with fail
  refine P.mono ?_
  rintro e w1 ⟨hb, v, rfl, rfl⟩
  go_wp2
  go_ret
  exact ⟨rfl, hb.alloc hb.size _⟩

/-- A request, as a value. -/
def rqV (k : Int) (n t : Bs) : Value := .agg #[.int .i64 k, .string (bs n), .string (bs t), .int .i64 0]

/-- Put, Del, Append, of a word; no value. -/
structure Rq3 (k : Int) (n t : Bs) : Prop where
  kind : k = 1 ∨ (k = 2 ∧ t = []) ∨ k = 3
  name : wordS n = true
  text : t.length ≤ 600

set_option maxHeartbeats 800000 in
theorem rightName_any (k : Int) (n t : Bs) (R : Rq3 k n t) (w : World) (T : Tab w) :
    Calls Tryz.prog 29 #[rqV k n t] w fun e w' => e = .returned (.bool true) ∧ Below w.heap.size w w' := by
  have hb0 := below_new w (.cells #[.int .i64 k, .string (bs n), .string (bs t), .int .i64 0] 37)
  have W := lword_any n R.name _ (T.later hb0)
  have hk : (k == 7) = false := by rw [beq_eq_false_iff_ne]; have := R.kind; omega
  unfold rqV
  go_enter Tryz.func29, Tryz.ntmps29
  go_wp2_with fail
  refine W.mono ?_
  rintro e w1 ⟨rfl, hb⟩
  go_wp2
  go_ret
  exact ⟨rfl, hb0.trans (hb.mono hb0.size)⟩

set_option maxHeartbeats 800000 in
theorem rightText_any (k : Int) (n t : Bs) (R : Rq3 k n t) (w : World) :
    Calls Tryz.prog 30 #[rqV k n t] w fun e w' => e = .returned (.bool true) ∧ Below w.heap.size w w' := by
  have hsz := bs_size t
  have hl : (t.length : Int) ≤ 600 := by have := R.text; omega
  unfold rqV
  rcases R.kind with rfl | ⟨rfl, rfl⟩ | rfl
  · go_enter Tryz.func30, Tryz.ntmps30
    go_wp2
    go_ret
    exact ⟨rfl, below_new _ _⟩
  · rw [show bs [] = (⟨#[]⟩ : ByteArray) from rfl]
    go_enter Tryz.func30, Tryz.ntmps30
    go_wp2
    go_ret
    exact ⟨rfl, below_new _ _⟩
  · go_enter Tryz.func30, Tryz.ntmps30
    go_wp2
    go_ret
    exact ⟨rfl, below_new _ _⟩

set_option maxHeartbeats 800000 in
theorem rightValue_any (k : Int) (n t : Bs) (R : Rq3 k n t) (w : World) :
    Calls Tryz.prog 31 #[rqV k n t] w fun e w' => e = .returned (.bool true) ∧ Below w.heap.size w w' := by
  have hk : (k == 5) = false := by rw [beq_eq_false_iff_ne]; have := R.kind; omega
  unfold rqV
  go_enter Tryz.func31, Tryz.ntmps31
  go_wp2
  go_ret
  exact ⟨rfl, below_new _ _⟩

set_option maxHeartbeats 1600000 in
theorem right_any (k : Int) (n t : Bs) (R : Rq3 k n t) (w : World) (T : Tab w) :
    Calls Tryz.prog 23 #[rqV k n t] w fun e w' => e = .returned (.bool true) ∧ Below w.heap.size w w' := by
  have hb0 := below_new w (.cells #[.int .i64 k, .string (bs n), .string (bs t), .int .i64 0] 37)
  have N := rightName_any k n t R _ (T.later hb0)
  have X := fun w => rightText_any k n t R w
  have V := fun w => rightValue_any k n t R w
  have h1 : 1 ≤ k := by have := R.kind; omega
  have h7 : k ≤ 7 := by have := R.kind; omega
  unfold rqV at *
  go_enter Tryz.func23, Tryz.ntmps23
  go_wp2_with fail
  refine N.mono ?_
  rintro e w1 ⟨rfl, hb⟩
  have hb1 := hb0.trans (hb.mono hb0.size)
  have c : ∀ i x, #[Value.int .i64 k, .string (bs n), .string (bs t), .int .i64 0][i]? = some x → w1.cell? ⟨w.heap.size, i, none⟩ = some x := fun i x h => kept_cell hb (new_cell _ i x h)
  have c0 := c 0 _ rfl
  have c1 := c 1 _ rfl
  have c2 := c 2 _ rfl
  have c3 := c 3 _ rfl
  clear N c
  go_wp2_with fail
  refine (X w1).mono ?_
  rintro e w2 ⟨rfl, hb2⟩
  have hb3 := hb1.trans (hb2.mono hb1.size)
  have d0 := kept_cell hb2 c0
  have d1 := kept_cell hb2 c1
  have d2 := kept_cell hb2 c2
  have d3 := kept_cell hb2 c3
  clear c0 c1 c2 c3
  go_wp2_with fail
  refine (V w2).mono ?_
  rintro e w3 ⟨rfl, hb4⟩
  go_wp2
  go_ret
  exact ⟨rfl, hb3.trans (hb4.mono hb3.size)⟩
end Go.Proofs.YtlncljfljjaacaaGreatDoor.E
