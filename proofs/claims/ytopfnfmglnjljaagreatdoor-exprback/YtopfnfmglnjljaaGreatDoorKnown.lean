/- The law's own: known. -/
import Derived.Test.YtopfnfmglnjljaaGreatDoorParse
import Derived.Test.YtopfnfmglnjljaaGreatDoorText
namespace Go.Proofs.YtopfnfmglnjljaaGreatDoor
open Go.ChangeShapes Go.WideShapes Go.ChangeAt Go.RowKit
set_option linter.unusedVariables false
set_option linter.unusedSimpArgs false

theorem parse_none : parseP [] = none := by kernel_rfl
def knownX : Ex := .two 5 (.num 1) (.two 7 (.num 2) (.name [120]))
theorem parse_known : parseP [49, 32, 43, 32, 50, 42, 120] = some knownX := by kernel_rfl

theorem parse0 (w : World) (T : Tab w) : Calls Tryz.prog 12 #[.string ⟨#[]⟩] w fun e w' => Below w.heap.size w w' ∧ e = .returned (.tuple #[.agg #[.int .i64 0, .int .i64 0, .string ⟨#[]⟩, .slice none 0 0], .bool false]) := by
  have P := parse_any [] (by simp) w T
  rw [parse_none] at P
  exact P

theorem parse1 {t : ByteArray} {x : Ex} (s : Bs) (w : World) (T : Tab w) (hs : t = bs s) (hl : s.length ≤ 35184372088832) (hp : parseP s = some x) : Calls Tryz.prog 12 #[.string t] w fun e w' => Below w.heap.size w w' ∧ ∃ (k n : Int) (t : ByteArray) (q : Option Addr) (l m : Nat), e = .returned (.tuple #[.agg #[.int .i64 k, .int .i64 n, .string t, .slice q l m], .bool true]) ∧ ExAt (w.heap.size ≤ ·) w' (.agg #[.int .i64 k, .int .i64 n, .string t, .slice q l m]) x := by
  subst hs
  have P := parse_any s hl w T
  rw [hp] at P
  refine P.mono ?_
  rintro e w1 ⟨hb, v, rfl, hx⟩
  obtain ⟨k, j, t, q, l, c, rfl⟩ := hx.form
  exact ⟨hb, k, j, t, q, l, c, rfl, hx⟩

theorem syms1 (w : World) (T : TypeId) (s : Bs) (n : Int) : SymsAt (w.alloc (.cells #[.string (bs s), .int .i64 n] T)) (.slice (some ⟨w.heap.size, 0, none⟩) 1 1) [(s, n)] :=
  ⟨_, _, rfl, by simp [maxLen], fun _ => ⟨_, _, rfl, fun i s' n' hi => by
    match i, hi with
    | 0, hi => simp only [List.getElem?_cons_zero, Option.some.injEq, Prod.mk.injEq] at hi; obtain ⟨rfl, rfl⟩ := hi; exact ⟨new_cell _ 0 _ rfl, new_cell _ 1 _ rfl⟩⟩⟩

theorem syms2 (w : World) (T : TypeId) (s s' : Bs) (n n' : Int) : SymsAt (w.alloc (.cells #[.string (bs s), .int .i64 n, .string (bs s'), .int .i64 n'] T)) (.slice (some ⟨w.heap.size, 0, none⟩) 2 2) [(s, n), (s', n')] :=
  ⟨_, _, rfl, by simp [maxLen], fun _ => ⟨_, _, rfl, fun i u m hi => by
    match i, hi with
    | 0, hi => simp only [List.getElem?_cons_zero, Option.some.injEq, Prod.mk.injEq] at hi; obtain ⟨rfl, rfl⟩ := hi; exact ⟨new_cell _ 0 _ rfl, new_cell _ 1 _ rfl⟩
    | 1, hi => simp only [List.getElem?_cons_succ, List.getElem?_cons_zero, Option.some.injEq, Prod.mk.injEq] at hi; obtain ⟨rfl, rfl⟩ := hi; exact ⟨new_cell _ 2 _ rfl, new_cell _ 3 _ rfl⟩⟩⟩

theorem eval_known : evalP 0 [([120], 5)] knownX = (11, 0) := by kernel_rfl
theorem text_known : textP knownX = [49, 32, 43, 32, 40, 50, 32, 42, 32, 120, 41] := by
  simp [textP, knownX, childP, isTwo, signOf, Go.Lib.itoa, Go.Lib.decDigits]

set_option maxHeartbeats 800000 in
set_option maxRecDepth 20000 in
theorem known_any (w : World) (T : Tab w) :
    Calls Tryz.prog 8 #[] w fun e w' => e = .returned (.bool true) ∧ Below w.heap.size w w' := by
  have P0 := parse0 w T
  go_enter Tryz.func8, Tryz.ntmps8
  go_wp2_with fail
  refine P0.mono ?_
  rintro e w1 ⟨hb1, rfl⟩
  have T1 := T.later hb1
  clear P0
  go_wp2_with fail
  have n1 := below_new w1 (.cells #[.int .i64 0, .int .i64 0, .string ⟨#[]⟩, .slice none 0 0] 27)
  have P1 := parse1 (t := ⟨#[49, 32, 43, 32, 50, 42, 120]⟩) [49, 32, 43, 32, 50, 42, 120] _ (T1.later n1) rfl (by simp) parse_known
  have hb1' := hb1.trans (n1.mono hb1.size)
  have T1' := T1.later n1
  clear n1
  generalize w1.alloc (.cells #[.int .i64 0, .int .i64 0, .string ⟨#[]⟩, .slice none 0 0] 27) = w1' at *
  refine P1.mono ?_
  rintro e w2 ⟨hb2, k, n, t, q, l, m, rfl, hx⟩
  have hbw2 := hb1'.trans (hb2.mono hb1'.size)
  have T2 := T1'.later hb2
  clear P1 T1' hb1' hb2 T1 hb1
  have n2 := below_new w2 (.cells #[.int .i64 k, .int .i64 n, .string t, .slice q l m] 27)
  have X2 := Blk.new w2 27 (.int .i64 k) (.int .i64 n) (.string t) (.slice q l m)
  have hx2 := hx.below n2
  obtain ⟨x0, x1, x2, x3, _, _, _, _⟩ := id X2
  go_wp2_with fail
  have n3 := below_new (w2.alloc (.cells #[.int .i64 k, .int .i64 n, .string t, .slice q l m] 27)) (.cells #[.string ⟨#[120]⟩, .int .i64 5] 51)
  have S := syms1 (w2.alloc (.cells #[.int .i64 k, .int .i64 n, .string t, .slice q l m] 27)) 51 [120] 5
  rw [show (w2.alloc (.cells #[.int .i64 k, .int .i64 n, .string t, .slice q l m] 27)).heap.size = w2.heap.size + 1 by simp] at S
  have hx3 := hx2.below n3
  have V := eval_any 0 [([120], 5)] _ knownX (by simp [knownX, Small]) _ _ _ hx3 S
  rw [eval_known] at V
  have X3 := X2.later n3
  have hb3 := (hbw2.trans (n2.mono hbw2.size))
  replace hb3 := hb3.trans (n3.mono hb3.size)
  have T3 := (T2.later n2).later n3
  unfold pair at V
  clear S n2 n3 hx hx2 X2 x0 x1 x2 x3 T2 hbw2
  have hxs : Hid (w2.heap.size < ((w2.alloc (.cells #[.int .i64 k, .int .i64 n, .string t, .slice q l m] 27)).alloc (.cells #[.string ⟨#[120]⟩, .int .i64 5] 51)).heap.size) := X3.lt
  change Calls _ _ _ ((w2.alloc (.cells #[.int .i64 k, .int .i64 n, .string t, .slice q l m] 27)).alloc (.cells #[.string ⟨#[120]⟩, .int .i64 5] 51)) _
  have V' : Calls Tryz.prog 20 #[.agg #[.int .i64 k, .int .i64 n, .string t, .slice q l m], .int .i64 0, .slice (some ⟨w2.heap.size + 1, 0, none⟩) 1 1] ((w2.alloc (.cells #[.int .i64 k, .int .i64 n, .string t, .slice q l m] 27)).alloc (.cells #[.string ⟨#[120]⟩, .int .i64 5] 51)) _ := V
  clear V
  generalize ((w2.alloc (.cells #[.int .i64 k, .int .i64 n, .string t, .slice q l m] 27)).alloc (.cells #[.string ⟨#[120]⟩, .int .i64 5] 51)) = w3 at *
  refine V'.mono ?_
  rintro e w4 ⟨rfl, hb4⟩
  have X4 := X3.later hb4
  have T4 := T3.later hb4
  have hx4 := hx3.below hb4
  have hbw4 := hb3.trans (hb4.mono hb3.size)
  have W := text_any knownX (by simp [knownX, Small]) (by simp [knownX, Told]) _ _ w4 T4 hx4 (by rw [text_known]; decide)
  rw [text_known, show bs [49, 32, 43, 32, 40, 50, 32, 42, 32, 120, 41] = ⟨#[49, 32, 43, 32, 40, 50, 32, 42, 32, 120, 41]⟩ from rfl] at W
  obtain ⟨x0, x1, x2, x3, _, _, _, _⟩ := id X4
  clear V' hb4 hb3 T3 hx3 X3 T4 hxs hx4
  go_wp2_with fail
  refine W.mono ?_
  rintro e w5 ⟨rfl, hb5⟩
  have hb := hbw4.trans (hb5.mono hbw4.size)
  clear W X4 x0 x1 x2 x3 hbw4 hb5
  go_wp2_with fail
  go_ret
  exact ⟨rfl, hb⟩
end Go.Proofs.YtopfnfmglnjljaaGreatDoor
