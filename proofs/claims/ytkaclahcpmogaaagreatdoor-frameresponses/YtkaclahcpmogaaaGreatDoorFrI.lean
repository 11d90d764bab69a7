/- line.Word, work.Right, of whatever they are asked. -/
import Derived.Test.YtkaclahcpmogaaaGreatDoorExC
import Derived.Test.YtkaclahcpmogaaaGreatDoorFrE
namespace Go.Proofs.YtkaclahcpmogaaaGreatDoor
open Go.ChangeShapes Go.WideShapes Go.ChangeAt Go.RowKit
set_option linter.unusedVariables false
set_option linter.unusedSimpArgs false

theorem row_one {p : Rd} {ks : List Nat} {s : Bs} {x : Ex} (h : p s = some (x, [])) : rowP p ks s = some (x, []) := by
  unfold rowP
  rw [h]
  show rowGo p ks 1 x [] = _
  unfold rowGo
  rw [between_none [] (.inr rfl)]

theorem parse_word {s : Bs} (h : wordS s = true) : parseP s = some (.name s) := by
  have h1 := took_none (.inl h) (.inl rfl : Tok [45])
  have h2 := took_none (.inl h) (.inr (.inl rfl) : Tok [40])
  have h4 := took_none (.inl h) (.inr (.inr (.inl rfl)) : Tok [46])
  have h' := h
  unfold wordS at h'
  simp only [Bool.and_eq_true] at h'
  obtain ⟨t1, t2⟩ := take_all h'.1
  have hs : singleP 12 s = some (.name s, []) := by
    unfold singleP
    rw [h1]
    simp only
    rw [h2]
    simp only
    rw [h4]
    simp only [Bool.false_eq_true, if_false]
    rw [t1, t2]
    unfold leafP
    rw [if_pos h'.2]
    rfl
  have hp : orsP (singleP 12) s = some (.name s, []) := row_one (row_one (row_one (row_one (row_one hs))))
  unfold parseP
  rw [hp]
  rfl

theorem wordS_len {s : Bs} (h : wordS s = true) : s.length ≤ 12 := by
  unfold wordS at h
  cases s with
  | nil => simp
  | cons c l =>
    simp only [wordP, Bool.and_eq_true, decide_eq_true_eq] at h
    exact h.2.1.1

theorem wordL_word {s : Bs} (h : wordS s = true) : wordL s = true := by
  unfold wordL
  rw [parse_word h]
  simp [wordS_len h]

theorem bs_eq (a b : Bs) : ((bs a).toList == (bs b).toList) = decide (a = b) := by
  simp only [ByteArray.toList_eq, bs_list]
  by_cases h : a = b
  · simp [h]
  · simp [h]

theorem bs_empty (a : Bs) : (bs a).toList.isEmpty = decide (a = []) := by
  simp only [ByteArray.toList_eq, bs_list]
  cases a <;> simp

theorem parse_nil : parseP [] = none := by kernel_rfl

set_option maxHeartbeats 1600000 in
set_option maxRecDepth 20000 in
theorem lword_any (s : Bs) (hs : s.length ≤ 1000000) (w : World) (T : Tab w) :
    Calls Tryz.prog 66 #[.string (bs s)] w fun e w' => e = .returned (.bool (wordL s)) ∧ Below w.heap.size w w' := by
  have hsz := bs_size s
  have hsI : (s.length : Int) ≤ 1000000 := by omega
  unfold wordL
  by_cases hl : s.length ≤ 12
  · have hlI : ¬ (12 : Int) < (s.length : Int) := by omega
    have P := parse_any s ⟨by omega, .inl trivial⟩ w T
    rw [show (decide (s.length ≤ 12)) = true by simp [hl], Bool.true_and]
    obtain ⟨R, hR⟩ : ∃ R, parseP s = R := ⟨_, rfl⟩
    rw [hR] at P ⊢
    have hnil : s = [] → R = none := fun h => by rw [← hR, h]; exact parse_nil
    clear hR
    go_enter Tryz.func66, Tryz.ntmps66
    go_wp2_with fail
    refine P.mono ?_
    rintro e w1 ⟨hb, hP⟩
    clear P
    cases R with
    | none =>
      obtain rfl := hP
      go_wp2_with fail
      go_ret
      exact ⟨by simp, hb.alloc hb.size _⟩
    | some x =>
      obtain ⟨v, rfl, hx⟩ := hP
      cases x with
      | name t =>
        simp only [ExAt] at hx
        subst hx
        have e1 := bs_eq t s
        go_wp2_with fail
        go_ret
        refine ⟨?_, hb.alloc hb.size _⟩
        simp [bs_eq]
      | zero =>
        simp only [ExAt] at hx
        subst hx
        go_wp2_with fail
        go_ret
        exact ⟨by simp, hb.alloc hb.size _⟩
      | num n =>
        simp only [ExAt] at hx
        subst hx
        go_wp2_with fail
        go_ret
        exact ⟨by simp, hb.alloc hb.size _⟩
      | here =>
        simp only [ExAt] at hx
        subst hx
        go_wp2_with fail
        go_ret
        exact ⟨by simp, hb.alloc hb.size _⟩
      | neg y =>
        obtain ⟨k, c0, c1, c2, c3, rfl, _⟩ := hx
        go_wp2_with fail
        go_ret
        exact ⟨by simp, hb.alloc hb.size _⟩
      | two o y z =>
        obtain ⟨k, c0, c1, c2, c3, d0, d1, d2, d3, rfl, _⟩ := hx
        have hs0 : s ≠ [] := fun h => by cases hnil h
        have e1 : ((bs []).toList == (bs s).toList) = false := by rw [bs_eq]; simpa using hs0.symm
        by_cases ho : (o : Int) = 2
        · go_wp2_with fail
          go_ret
          exact ⟨by simp, hb.alloc hb.size _⟩
        · go_wp2_with fail
          go_ret
          exact ⟨by simp, hb.alloc hb.size _⟩
  · have hlI : (12 : Int) < (s.length : Int) := by omega
    rw [show (decide (s.length ≤ 12)) = false by simp; omega, Bool.false_and]
    go_enter Tryz.func66, Tryz.ntmps66
    go_wp2_with fail
    go_ret
    exact ⟨rfl, Below.refl _ _⟩

theorem rightName_gen (r : Rq) (hn : r.name.length ≤ 1000000) (w : World) (T : Tab w) :
    Calls Tryz.prog 43 #[rqVal r] w fun e w' => e = .returned (.bool (nameOk r)) ∧ Below w.heap.size w w' := by
  obtain ⟨k, n, t, v⟩ := r
  simp only at hn
  have hb0 := below_new w (.cells #[.int .i64 k, .string (bs n), .string (bs t), .int .i64 v] 27)
  have W := lword_any n hn _ (T.later hb0)
  unfold rqVal nameOk
  simp only
  by_cases h7 : k = 7
  · subst h7
    rw [if_pos rfl]
    go_enter Tryz.func43, Tryz.ntmps43
    go_wp2_with fail
    go_ret
    refine ⟨?_, hb0⟩
    simp [bs_empty]
  · rw [if_neg h7]
    have hk : (k == 7) = false := by rw [beq_eq_false_iff_ne]; exact h7
    go_enter Tryz.func43, Tryz.ntmps43
    go_wp2_with fail
    refine W.mono ?_
    rintro e w1 ⟨rfl, hb⟩
    go_wp2
    go_ret
    exact ⟨rfl, hb0.trans (hb.mono hb0.size)⟩

theorem rightText_gen (r : Rq) (ht : r.text.length ≤ 1000000) (w : World) :
    Calls Tryz.prog 44 #[rqVal r] w fun e w' => e = .returned (.bool (textOk r)) ∧ Below w.heap.size w w' := by
  obtain ⟨k, n, t, v⟩ := r
  simp only at ht
  have hsz := bs_size t
  have hb0 := below_new w (.cells #[.int .i64 k, .string (bs n), .string (bs t), .int .i64 v] 27)
  have e0 : decide (t.length ≤ 600) = decide ((t.length : Int) ≤ 600) := by rw [decide_eq_decide]; omega
  unfold rqVal textOk
  simp only
  by_cases h : k = 1 ∨ k = 3
  · rw [if_pos h, e0]
    rcases h with rfl | rfl
    · go_enter Tryz.func44, Tryz.ntmps44
      go_wp2_with fail
      go_ret
      exact ⟨rfl, hb0⟩
    · go_enter Tryz.func44, Tryz.ntmps44
      go_wp2_with fail
      go_ret
      exact ⟨rfl, hb0⟩
  · have k1 : (k == 1) = false := by rw [beq_eq_false_iff_ne]; omega
    have k3 : (k == 3) = false := by rw [beq_eq_false_iff_ne]; omega
    rw [if_neg h]
    go_enter Tryz.func44, Tryz.ntmps44
    go_wp2_with fail
    go_ret
    refine ⟨?_, hb0⟩
    simp [bs_empty]

theorem rightValue_gen (r : Rq) (w : World) :
    Calls Tryz.prog 45 #[rqVal r] w fun e w' => e = .returned (.bool (valueOk r)) ∧ Below w.heap.size w w' := by
  obtain ⟨k, n, t, v⟩ := r
  have hb0 := below_new w (.cells #[.int .i64 k, .string (bs n), .string (bs t), .int .i64 v] 27)
  unfold rqVal valueOk
  simp only
  by_cases h : k = 5
  · subst h
    rw [if_pos rfl]
    by_cases h1 : -1099511627776 ≤ v
    · rw [decide_eq_true h1, Bool.true_and]
      go_enter Tryz.func45, Tryz.ntmps45
      go_wp2_with fail
      go_ret
      exact ⟨rfl, hb0⟩
    · rw [decide_eq_false h1, Bool.false_and]
      go_enter Tryz.func45, Tryz.ntmps45
      go_wp2_with fail
      go_ret
      exact ⟨rfl, hb0⟩
  · have k5 : (k == 5) = false := by rw [beq_eq_false_iff_ne]; omega
    have e1 : decide (v = 0) = (v == 0) := by rw [Bool.eq_iff_iff]; simp
    rw [if_neg h, e1]
    go_enter Tryz.func45, Tryz.ntmps45
    go_wp2_with fail
    go_ret
    exact ⟨rfl, hb0⟩

set_option maxHeartbeats 3200000 in
theorem right_gen (r : Rq) (hn : r.name.length ≤ 1000000) (ht : r.text.length ≤ 1000000) (w : World) (T : Tab w) :
    Calls Tryz.prog 26 #[rqVal r] w fun e w' => e = .returned (.bool (rightP r)) ∧ Below w.heap.size w w' := by
  have N := fun w T => rightName_gen r hn w T
  have X := fun w => rightText_gen r ht w
  have V := fun w => rightValue_gen r w
  unfold rightP
  obtain ⟨k, n, t, v⟩ := r
  have hb0 := below_new w (.cells #[.int .i64 k, .string (bs n), .string (bs t), .int .i64 v] 27)
  have T0 := T.later hb0
  generalize nameOk ⟨k, n, t, v⟩ = no at *
  generalize textOk ⟨k, n, t, v⟩ = xo at *
  generalize valueOk ⟨k, n, t, v⟩ = vo at *
  unfold rqVal at *
  simp only at *
  by_cases h1 : 1 ≤ k
  · rw [decide_eq_true h1, Bool.true_and]
    by_cases h7 : k ≤ 7
    · rw [decide_eq_true h7, Bool.true_and]
      go_enter Tryz.func26, Tryz.ntmps26
      go_wp2_with fail
      refine (N _ T0).mono ?_
      rintro e w1 ⟨rfl, hb⟩
      have hb1 := hb0.trans (hb.mono hb0.size)
      have c : ∀ i x, #[Value.int .i64 k, .string (bs n), .string (bs t), .int .i64 v][i]? = some x → w1.cell? ⟨w.heap.size, i, none⟩ = some x := fun i x h => kept_cell hb (new_cell _ i x h)
      have c0 := c 0 _ rfl
      have c1 := c 1 _ rfl
      have c2 := c 2 _ rfl
      have c3 := c 3 _ rfl
      clear N c
      cases no with
      | false =>
        go_wp2_with fail
        go_ret
        exact ⟨rfl, hb1⟩
      | true =>
        go_wp2_with fail
        refine (X w1).mono ?_
        rintro e w2 ⟨rfl, hb2⟩
        have hb3 := hb1.trans (hb2.mono hb1.size)
        have d0 := kept_cell hb2 c0
        have d1 := kept_cell hb2 c1
        have d2 := kept_cell hb2 c2
        have d3 := kept_cell hb2 c3
        clear c0 c1 c2 c3
        cases xo with
        | false =>
          go_wp2_with fail
          go_ret
          exact ⟨rfl, hb3⟩
        | true =>
          go_wp2_with fail
          refine (V w2).mono ?_
          rintro e w3 ⟨rfl, hb4⟩
          cases vo
          all_goals
            go_wp2
            go_ret
            exact ⟨rfl, hb3.trans (hb4.mono hb3.size)⟩
    · rw [decide_eq_false h7, Bool.false_and]
      go_enter Tryz.func26, Tryz.ntmps26
      go_wp2_with fail
      go_ret
      exact ⟨rfl, hb0⟩
  · rw [decide_eq_false h1, Bool.false_and]
    go_enter Tryz.func26, Tryz.ntmps26
    go_wp2_with fail
    go_ret
    exact ⟨rfl, hb0⟩
end Go.Proofs.YtkaclahcpmogaaaGreatDoor
