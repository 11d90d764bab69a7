/- The heap that the initialisers leave meets what the rows list; calls on what was just made. -/
import Derived.Test.YtcehfaonmiocgaaDoorKnown
import Derived.Test.YtcehfaonmiocgaaDoorLaid
import Derived.LaidMore
namespace Go.Proofs.YtcehfaonmiocgaaDoor
open Go.ChangeShapes Go.WideShapes Go.ChangeAt Go.RowKit
open Plain
set_option linter.unusedVariables false
set_option linter.unusedSimpArgs false

set_option maxRecDepth 100000 in
theorem door_met (os : Os) (args : Array Value) : laidMetH Tryd.prog laid4 ((World.doorLaid Tryd.prog 400 os).forCall (fun _ _ => 0) ⟨#[], args, []⟩).memory :=
  laidMetH_of_parts3 (fuel := 8) (laidMet_of_run' 8 (by kernel_rfl) (by kernel_rfl)) (by kernel_rfl) (by kernel_rfl)

theorem slice_new {W : World} {H : Nat} (hH : W.heap.size = H) (fs : List Int) (t : TypeId) : SliceIs (W.alloc (.cells (fs.map fun x => Value.int .i64 x).toArray t)) (.slice (some ⟨H, 0, none⟩) fs.length fs.length) fs := by
  subst hH
  refine ⟨_, _, rfl, fun _ => ⟨W.heap.size, 0, rfl, fun i x hx => ?_⟩⟩
  rw [Nat.zero_add]
  exact new_cell _ i _ (by simp [hx])

theorem right_new1 (op n : Int) (W w : World) (H : Nat) (hH : W.heap.size = H) (T : Tab w) (hW : Below w.heap.size w W) (n0 : -9223372036854775808 ≤ n) (n1 : n ≤ 9223372036854775807) :
    Calls Tryd.prog 13 #[.agg #[.int .i64 op, .slice (some ⟨H, 0, none⟩) 1 1]] (W.alloc (.cells #[.int .i64 n] 3)) fun e w' => e = .returned (.bool (codedP op [n]).2) ∧ Below w.heap.size w w' ∧ ∀ a v, W.cell? a = some v → w'.cell? a = some v := by
  have hb : Below w.heap.size w (W.alloc (.cells #[.int .i64 n] 3)) := hW.alloc hW.size _
  refine (right_any op _ [n] _ (T.later hb) (slice_new hH [n] 3) (by intro x hx; simp at hx; subst hx; exact ⟨n0, n1⟩)).mono ?_
  rintro e w' ⟨rfl, hw'⟩
  exact ⟨rfl, hb.trans (hw'.mono hb.size), fun a v h => kept_cell hw' (kept_alloc h)⟩
end Go.Proofs.YtcehfaonmiocgaaDoor
