/- The contracts of strconv.Itoa and of dis.instruction at se_blr. -/
import Derived.Test.YtagplfochalidabDoorRows2
import Derived.Test.YtagplfochalidabDoorEShelf
import Derived.Lib.QuietBelow
import Derived.Deep.RegionWith
import Derived.BigQuiet
namespace Go.Proofs.YtagplfochalidabDoor
open Go.ChangeShapes Go.WideShapes Go.ChangeAt Go.RowKit
open Plain
set_option linter.unusedVariables false
set_option linter.unusedSimpArgs false

def bs (l : List UInt8) : ByteArray := ⟨l.toArray⟩

theorem itoa_any (n : Int) (h0 : -9223372036854775808 ≤ n) (h1 : n ≤ 9223372036854775807) (w : World) (T : Tab w) :
    Calls Tryd.prog 16 #[.int .i64 n] w fun e w' => e = .returned (.string (bs (Lib.itoa n))) ∧ Below w.heap.size w w' := by
  refine (Tryd.strconv_Itoa n h0 h1 w T.pow).mono ?_
  rintro e w3 ⟨rfl, kk, os, rfl⟩
  exact ⟨rfl, rfl, rfl, rfl, by simp [Go.Sort.grow], fun j hj => by simp [Go.Sort.grow, Array.getElem?_append, hj]⟩

def blr : List UInt8 := [115, 101, 95, 98, 108, 114]

theorem row3 : rowP 3 = ⟨[115, 101, 95, 98, 108, 114], 4, []⟩ := by rfl

set_option maxHeartbeats 1600000 in
set_option maxRecDepth 20000 in
theorem inst_blr (sl : Value) (w : World) (T : Tab w) : Calls Tryd.prog 15 #[.agg #[.int .i64 3, sl]] w fun e w' => e = .returned (.string (bs blr)) ∧ Below w.heap.size w w' := by
  have h0 : Below w.heap.size w (w.alloc (.cells #[.int .i64 3, sl] 42)) := (Below.refl _ _).alloc (Nat.le_refl _) _
  have c0 := new_cell (w := w) (t := 42) #[.int .i64 3, sl] 0 (.int .i64 3) rfl
  have N := fun W (h : Below w.heap.size w W) => name_any 3 W ⟨T.later h, by omega⟩
  have KK := fun W (h : Below w.heap.size w W) => kinds_any 3 W ⟨T.later h, by omega⟩
  have F : ∀ W, Below w.heap.size w W → Calls Tryd.prog 22 #[.string ⟨(rowP 3).kinds.toArray⟩] W fun e w' => ∃ H, e = .returned (.slice (some ⟨H, 0, none⟩) 0 0) ∧ Below W.heap.size W w' := by
    intro W h
    refine (fields_any 3 W ⟨T.later h, by omega⟩).mono ?_
    rintro e w' ⟨rfl, rfl⟩
    exact ⟨_, rfl, (Below.refl _ _).alloc (Nat.le_refl _) _⟩
  rw [row3] at N KK F
  have h0d := h0.trans (⟨rfl, rfl, rfl, Nat.le_refl _, fun _ _ => rfl⟩ : Below w.heap.size (w.alloc (.cells #[.int .i64 3, sl] 42)) (w.alloc (.cells #[.int .i64 3, sl] 42)).drew)
  have c0d : (w.alloc (.cells #[.int .i64 3, sl] 42)).drew.cell? ⟨w.heap.size, 0, none⟩ = some (.int .i64 3) := c0
  go_enter Tryd.func15, Tryd.ntmps15
  go_wp2_with fail
  generalize w.alloc (.cells #[.int .i64 3, sl] 42) = wA at *
  go_region_with (first
    | (go_at_call 21; refine (N _ h0d).mono ?_; rintro e w1 ⟨rfl, hb1⟩; have h1 := h0d.trans (hb1.mono h0d.size); have c1 := kept_cell hb1 c0d)
    | (go_at_call 23; refine (KK _ h1).mono ?_; rintro e w2 ⟨rfl, hb2⟩; have h2 := h1.trans (hb2.mono h1.size))
    | (go_at_call 22; refine (F _ h2).mono ?_; rintro e w3 ⟨H, rfl, hb3⟩; have h3 := h2.trans (hb3.mono h2.size)))
  all_goals
    go_wp2
    go_ret
    exact ⟨rfl, h3⟩
end Go.Proofs.YtagplfochalidabDoor
