/- The heap that the initialisers leave meets what the rows list; calls on what was just made. -/
import Derived.Test.YtnmclpphiajleaaDoorKnown
import Derived.Test.YtnmclpphiajleaaDoorLaid
import Derived.LaidMore
namespace Go.Proofs.YtnmclpphiajleaaDoor
open Go.ChangeShapes Go.WideShapes Go.ChangeAt Go.RowKit
open Plain
set_option linter.unusedVariables false
set_option linter.unusedSimpArgs false

set_option maxRecDepth 100000 in
theorem door_met (os : Os) (args : Array Value) : laidMetH Tryd.prog laid4 ((World.doorLaid Tryd.prog 400 os).forCall (fun _ _ => 0) ⟨#[], args, []⟩).memory :=
  laidMetH_of_parts3 (fuel := 8) (laidMet_of_run' 8 (by kernel_rfl) (by kernel_rfl)) (by kernel_rfl) (by kernel_rfl)

theorem slice_new {W : World} {H : Nat} (hH : W.heap.size = H) (fs : List Int) (t : TypeId) : SliceIs (W.alloc (.cells (fs.map fun x => Value.int .i64 x).toArray t)) (.slice (some ⟨H, 0, none⟩) fs.length fs.length) fs := by
  subst hH
  refine ⟨_, _, rfl, fun _ => ⟨W.heap.size, 0, rfl, fun i x hx => ?_⟩⟩
  rw [Nat.zero_add]
  exact new_cell _ i _ (by simp [hx])

end Go.Proofs.YtnmclpphiajleaaDoor
