/- The contracts of leaf, inside, negated, bracketed, single; of Parse. -/
import Derived.Test.YtopfnfmglnjljaaGreatDoorLeaf
namespace Go.Proofs.YtopfnfmglnjljaaGreatDoor
open Go.ChangeShapes Go.WideShapes Go.ChangeAt Go.RowKit
set_option linter.unusedVariables false
set_option linter.unusedSimpArgs false

/-- A leaf's value. -/
def leafV : Option Ex → Value
  | some (.name s) => .agg #[.int .i64 2, .int .i64 0, .string (bs s), .slice none 0 0]
  | some (.num n) => .agg #[.int .i64 1, .int .i64 n, .string ⟨#[]⟩, .slice none 0 0]
  | _ => .agg #[.int .i64 0, .int .i64 0, .string ⟨#[]⟩, .slice none 0 0]

set_option maxHeartbeats 1600000 in
set_option maxRecDepth 100000 in
theorem leaf_any (s : Bs) (hr : ∀ c ∈ s, runB c = true) (hl : s.length ≤ 35184372088832) (w : World) (T : Tab w) :
    Calls Tryz.prog 110 #[.string (bs s)] w fun e w' => Below w.heap.size w w' ∧ e = .returned (.tuple #[leafV (leafP s), .bool (leafP s).isSome]) := by
  have h0 := below_new w (.cells #[.int .i64 0, .int .i64 0, .string ⟨#[]⟩, .slice none 0 0] 27)
  have R0 := Blk.new w 27 (.int .i64 0) (.int .i64 0) (.string ⟨#[]⟩) (.slice none 0 0)
  have W := word_any s (run_ascii hr) hl (w.alloc (.cells #[.int .i64 0, .int .i64 0, .string ⟨#[]⟩, .slice none 0 0] 27))
  have T0 := T.later h0
  have hsz : w.heap.size < (w.alloc (.cells #[.int .i64 0, .int .i64 0, .string ⟨#[]⟩, .slice none 0 0] 27)).heap.size := by simp
  unfold leafP
  cases hw : wordP s with
  | true =>
    rw [hw] at W
    rw [if_pos rfl]
    go_enter Tryz.func110, Tryz.ntmps110
    go_wp2_with fail
    generalize w.alloc (.cells #[.int .i64 0, .int .i64 0, .string ⟨#[]⟩, .slice none 0 0] 27) = w0 at *
    refine W.mono ?_
    rintro e w1 ⟨rfl, hb1⟩
    have R1 := R0.later hb1
    obtain ⟨c0, c1, c2, c3, f0, f1, f2, f3⟩ := id R1
    have hl1 := R1.lt
    go_wp2
    have R2 := R1.put (.int .i64 2) (.int .i64 0) (.string (bs s)) (.slice none 0 0)
    obtain ⟨y0, y1, y2, y3, _, _, _, _⟩ := R2
    unfold put4 at y0 y1 y2 y3
    exact bodyPost_ret (v := .tuple #[.agg #[.int .i64 2, .int .i64 0, .string (bs s), .slice none 0 0], .bool true]) (by simp [results, Tryz.results110, go_sem, y0, y1, y2, y3]) rfl
      ⟨(((h0.trans (hb1.mono (by omega))).setCell (p := ⟨w.heap.size, 0, none⟩) (Nat.le_refl _) _).setCell (p := ⟨w.heap.size, 1, none⟩) (Nat.le_refl _) _).setCell (p := ⟨w.heap.size, 2, none⟩) (Nat.le_refl _) _ |>.setCell (p := ⟨w.heap.size, 3, none⟩) (Nat.le_refl _) _, rfl⟩
  | false =>
    rw [hw] at W
    rw [if_neg (by simp)]
    have N := fun W' T' => number_any s hr hl W' T'
    cases hn : numberP s with
    | some n =>
      simp only [hn] at N
      go_enter Tryz.func110, Tryz.ntmps110
      go_wp2_with fail
      generalize w.alloc (.cells #[.int .i64 0, .int .i64 0, .string ⟨#[]⟩, .slice none 0 0] 27) = w0 at *
      refine W.mono ?_
      rintro e w1 ⟨rfl, hb1⟩
      have N1 := N w1 (T0.later hb1)
      have R1 := R0.later hb1
      clear N W
      go_wp2_with (go_at_call 117; refine N1.mono ?_; rintro e w2 ⟨hb2, rfl⟩; have R2 := R1.later hb2; obtain ⟨c0, c1, c2, c3, f0, f1, f2, f3⟩ := id R2; have hl1 := R2.lt)
      have R3 := R2.put (.int .i64 1) (.int .i64 n) (.string ⟨#[]⟩) (.slice none 0 0)
      obtain ⟨y0, y1, y2, y3, _, _, _, _⟩ := R3
      unfold put4 at y0 y1 y2 y3
      exact bodyPost_ret (v := .tuple #[.agg #[.int .i64 1, .int .i64 n, .string ⟨#[]⟩, .slice none 0 0], .bool true]) (by simp [results, Tryz.results110, go_sem, y0, y1, y2, y3]) rfl
        ⟨((((h0.trans (hb1.mono (by omega))).trans (hb2.mono (by have := hb1.size; omega))).setCell (p := ⟨w.heap.size, 0, none⟩) (Nat.le_refl _) _).setCell (p := ⟨w.heap.size, 1, none⟩) (Nat.le_refl _) _).setCell (p := ⟨w.heap.size, 2, none⟩) (Nat.le_refl _) _ |>.setCell (p := ⟨w.heap.size, 3, none⟩) (Nat.le_refl _) _, rfl⟩
    | none =>
      simp only [hn] at N
      go_enter Tryz.func110, Tryz.ntmps110
      go_wp2_with fail
      generalize w.alloc (.cells #[.int .i64 0, .int .i64 0, .string ⟨#[]⟩, .slice none 0 0] 27) = w0 at *
      refine W.mono ?_
      rintro e w1 ⟨rfl, hb1⟩
      have N1 := N w1 (T0.later hb1)
      have R1 := R0.later hb1
      clear N W
      go_wp2_with (go_at_call 117; refine N1.mono ?_; rintro e w2 ⟨hb2, rfl⟩; have R2 := R1.later hb2; obtain ⟨c0, c1, c2, c3, f0, f1, f2, f3⟩ := id R2; have hl1 := R2.lt)
      have R3 := R2.put (.int .i64 0) (.int .i64 0) (.string ⟨#[]⟩) (.slice none 0 0)
      obtain ⟨y0, y1, y2, y3, _, _, _, _⟩ := R3
      unfold put4 at y0 y1 y2 y3
      exact bodyPost_ret (v := .tuple #[.agg #[.int .i64 0, .int .i64 0, .string ⟨#[]⟩, .slice none 0 0], .bool false]) (by simp [results, Tryz.results110, go_sem, y0, y1, y2, y3]) rfl
        ⟨((((h0.trans (hb1.mono (by omega))).trans (hb2.mono (by have := hb1.size; omega))).setCell (p := ⟨w.heap.size, 0, none⟩) (Nat.le_refl _) _).setCell (p := ⟨w.heap.size, 1, none⟩) (Nat.le_refl _) _).setCell (p := ⟨w.heap.size, 2, none⟩) (Nat.le_refl _) _ |>.setCell (p := ⟨w.heap.size, 3, none⟩) (Nat.le_refl _) _, rfl⟩
end Go.Proofs.YtopfnfmglnjljaaGreatDoor
