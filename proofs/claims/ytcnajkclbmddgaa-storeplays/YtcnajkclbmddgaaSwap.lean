/- Two of a heap exchanged. -/
import Derived.Test.YtcnajkclbmddgaaDue
namespace Go.Proofs.Ytcnajkclbmddgaa
open Go.ChangeShapes Go.WideShapes Go.ChangeAt Go.RowKit
open Go.Sort (grow)
set_option linter.unusedVariables false
set_option linter.unusedSimpArgs false

theorem ptrs_set (l : List Nat) (j b : Nat) : (ptrs l).set j (ptrV b) = ptrs (l.set j b) := by simp [ptrs, List.map_set]

set_option maxHeartbeats 1600000 in
theorem swap_any (v : Value) (l : List Nat) (i j : Nat) (w : World) (D : w.ownsRow 0 76 1 v l.length (ptrs l)) (hf : l.length < 1000000) (hil : i < l.length) (hjl : j < l.length) :
    Calls Try.prog 78 #[v, .int .i64 i, .int .i64 j] w fun e w' => e = .returned (.tuple #[]) ∧ w'.ownsRow 0 76 1 v l.length (ptrs (swapL l i j)) ∧ Only (fun k => v.ownBlock = some k) w w' := by
  obtain ⟨a, hi1⟩ : ∃ a, l[i]? = some a := ⟨_, List.getElem?_eq_getElem hil⟩
  obtain ⟨b, hj1⟩ : ∃ b, l[j]? = some b := ⟨_, List.getElem?_eq_getElem hjl⟩
  have hsw : swapL l i j = (l.set i b).set j a := by
    unfold swapL
    rw [List.getD_eq_getElem?_getD, List.getD_eq_getElem?_getD, hi1, hj1]
    rfl
  rw [hsw]
  obtain ⟨g, cap, rfl, _, hg⟩ := D.form (by omega)
  have hgw : w.drew.heap.size = w.heap.size := rfl
  have hn1 : l.length * 1 = l.length := by omega
  have c1 := D.cells (g := g) rfl _ _ (ptrs_get hi1)
  have c2 := D.cells (g := g) rfl _ _ (ptrs_get hj1)
  rw [cell_add, Nat.zero_add] at c1 c2
  have f1 := D.frozenAt i
  have f2 := D.frozenAt j
  obtain ⟨R1, G1⟩ := D.stored i (ptrV b)
  obtain ⟨R2, G2⟩ := R1.stored j (ptrV a)
  have F2 := R1.frozenAt j
  have C2 : ∃ z, (w.setCell ⟨g, i, none⟩ (ptrV b)).cell? ⟨g, j, none⟩ = some z := by
    rw [R1.cellAt j (by omega)]
    exact ⟨_, List.getElem?_eq_getElem (by simp [ptrs_len]; omega)⟩
  obtain ⟨z, C2⟩ := C2
  rw [ptrs_set, ptrs_set] at R2
  have OO : Only (fun k => (Value.slice (some ⟨g, 0, none⟩) l.length cap).ownBlock = some k) w ((w.setCell ⟨g, i, none⟩ (ptrV b)).setCell ⟨g, j, none⟩ (ptrV a)).drew :=
    ⟨G2.os.trans G1.os, G2.tape.trans G1.tape, G2.output.trans G1.output, Nat.le_trans G1.size G2.size, fun k hk hn => (G2.block k (Nat.lt_of_lt_of_le hk G1.size) (fun e => hn (by rw [e]; rfl))).trans (G1.block k hk (fun e => hn (by rw [e]; rfl)))⟩
  have RO : Hid _ := And.intro R2.drew OO
  have hiI : (i : Int) < (l.length : Int) := by omega
  have hjI : (j : Int) < (l.length : Int) := by omega
  clear D R1 G1 R2 G2 OO hil hjl hi1 hj1 hsw hf hn1 hgw
  unfold ptrV at c1 c2 C2 F2 RO
  generalize hln : l.length = ln at *
  go_enter Try.func78, Try.ntmps78
  go_wp2_with fail
  go_region
  go_wp2_with fail
  go_end0
  exact ⟨rfl, RO.out⟩
end Go.Proofs.Ytcnajkclbmddgaa
