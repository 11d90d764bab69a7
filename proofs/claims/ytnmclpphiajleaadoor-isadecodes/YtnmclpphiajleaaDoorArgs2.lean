/- What an argument that is an instruction holds; and the reference's Encode of what may not be. -/
import Derived.Test.YtnmclpphiajleaaDoorApp
namespace Go.Proofs.YtnmclpphiajleaaDoor
open Go.ChangeShapes Go.WideShapes Go.ChangeAt Go.RowKit
open Plain
set_option linter.unusedVariables false
set_option linter.unusedSimpArgs false

set_option maxRecDepth 20000 in
theorem slice_of_trod {H : Type} {enc : TypeId × Value → H} {W : World} {c : Value} {x : DataW H × List MemPlace} {fuel : Nat} (h : DataW.trod enc Tryd.prog W 0 (fun _ => true) true fuel 23 [c] = some x) :
    ∃ ns : List Int, SliceIs W c ns ∧ InRange ns ∧ ns.length ≤ maxLen := by
  rcases open_ints Tryd.underlying23 Tryd.underlying3 (by kernel_rfl) h with ⟨hcs, _⟩ | ⟨a, len, cap, zs, hcs, _, hl, hm, hz, _, hcell, hwz⟩
  · cases hcs
    exact ⟨[], ⟨none, 0, rfl, fun h => absurd rfl h⟩, fun _ h => by simp at h, by simp⟩
  · cases hcs
    simp only [if_true] at hz
    have hlen : (zs.take len).length = len := by rw [List.length_take]; omega
    refine ⟨zs.take len, ⟨some a, cap, by rw [hlen], fun hn => ?_⟩, fun n hn => Go.bounds_i64 (hwz n (List.mem_of_mem_take hn)), by rw [hlen]; omega⟩
    have hp : 0 < zs.length := by
      cases zs with
      | nil => simp at hn
      | cons => simp
    obtain ⟨b, off, rfl, hc2⟩ := ints_at hcell hp
    refine ⟨b, off, rfl, fun i x hx => ?_⟩
    rw [List.getElem?_take] at hx
    split at hx
    · obtain ⟨hi, rfl⟩ := List.getElem?_eq_some_iff.1 hx
      rw [hc2 i hi, List.getD_eq_getElem?_getD, List.getElem?_eq_getElem hi]
      rfl
    · simp at hx

set_option maxRecDepth 20000 in
theorem open_inst {H : Type} {enc : TypeId × Value → H} {W : World} {v : Value} {d : DataW H} {ps : List MemPlace} {r : Reach} {b0 : Nat}
    (hv : Value.okWide Tryd.prog W r b0 28 v) (h : DataW.Trod enc Tryd.prog W 0 (fun _ => true) true 28 v d ps) :
    ∃ (o : Int) (u : Value) (ns : List Int), v = .agg #[.int .i64 o, u] ∧ (Lit.int .i64 o).wf = true ∧ SliceIs W u ns ∧ InRange ns ∧ ns.length ≤ maxLen := by
  obtain ⟨cs, rfl, hsz⟩ := okWide_struct Tryd.underlying28 hv
  have h2 : cs.size = 2 := hsz.trans (by kernel_rfl)
  obtain ⟨c0, c1, rfl⟩ : ∃ c0 c1, cs = #[c0, c1] := by
    obtain ⟨l⟩ := cs
    match l, h2 with
    | [a, b], _ => exact ⟨a, b, rfl⟩
  obtain ⟨fuel, hf⟩ := h
  obtain ⟨xs, n, rfl, hx, _, hl, hfield⟩ := DataW.trod_struct Tryd.underlying28 hf
  have f0 := hfield 0 _ rfl
  have f1 := hfield 1 _ rfl
  have k0 : Tryd.prog.cellsOf 3 = 1 := by kernel_rfl
  have k1 : Tryd.prog.cellsOf 23 = 1 := by kernel_rfl
  have l2 : xs.length = 2 := hl
  obtain ⟨x0, x1, rfl⟩ : ∃ x0 x1, xs = [x0, x1] := by
    match xs, l2 with
    | [a, b], _ => exact ⟨a, b, rfl⟩
  simp [Value.cells, k0, k1] at f0 f1
  obtain ⟨o, e0, _, hw⟩ := DataW.trod_int Tryd.underlying3 f0
  obtain ⟨ns, g1, g2, g3⟩ := slice_of_trod f1
  cases e0
  exact ⟨o, c1, ns, rfl, hw, g1, g2, g3⟩

theorem refEncode_no (op : Int) (sl : Value) (fs : List Int) (w : World) (hF : SliceIs w sl fs) (hR : InRange fs) (hm : fs.length ≤ maxLen) (h : (codedP op fs).2 = false) :
    Calls Tryd.prog 5 #[.agg #[.int .i64 op, sl]] w fun e w' => e = .returned (.tuple #[.slice none 0 0, .bool false]) ∧ Below w.heap.size w w' := by
  have ha := (Below.refl w.heap.size w).alloc (Nat.le_refl _) (.cells #[.int .i64 op, sl] 28)
  have R := refRight_any op sl fs _ (hF.later ha) hR hm
  obtain ⟨p, cap, rfl, hj⟩ := id hF
  clear hj
  rw [h] at R
  go_enter Tryd.func5, Tryd.ntmps5
  go_wp2_with (go_at_call 15; refine R.mono ?_; rintro e w2 ⟨rfl, hb2⟩)
  go_ret2
  exact ⟨rfl, ha.trans (hb2.mono ha.size)⟩
end Go.Proofs.YtnmclpphiajleaaDoor
