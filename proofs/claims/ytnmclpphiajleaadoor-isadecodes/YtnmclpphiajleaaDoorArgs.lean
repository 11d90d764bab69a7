/- What the arguments of a law hold: a slice of numbers, of bytes. -/
import Derived.Test.YtnmclpphiajleaaDoorKnown
import Derived.OpenShut
namespace Go.Proofs.YtnmclpphiajleaaDoor
open Go.ChangeShapes Go.WideShapes Go.ChangeAt Go.RowKit
open Plain
set_option linter.unusedVariables false
set_option linter.unusedSimpArgs false

theorem laidOut : laidOutB Tryd.prog = true := by kernel_rfl

set_option maxRecDepth 20000 in
theorem open_slice {H : Type} {enc : TypeId × Value → H} {W : World} {T E : TypeId} {k : IntKind} {v : Value} {d : DataW H} {ps : List MemPlace} {r : Reach} {b0 : Nat}
    (hT : Tryd.prog.underlying T = some (.slice E)) (hE : Tryd.prog.underlying E = some (.int k)) (hc : Tryd.prog.cellsOf E = 1)
    (hv : Value.okWide Tryd.prog W r b0 T v) (h : DataW.Trod enc Tryd.prog W 0 (fun _ => true) true T v d ps) :
    ∃ (ns : List Int) (p : Option Addr) (cap : Nat), v = .slice p ns.length cap ∧ ns.length ≤ cap ∧ cap ≤ maxLen ∧
      (ns ≠ [] → ∃ b o, p = some ⟨b, o, none⟩ ∧ ∀ i x, ns[i]? = some x → W.cell? ⟨b, o + i, none⟩ = some (.int k x)) ∧ ∀ n ∈ ns, (Lit.int k n).wf = true := by
  obtain ⟨a0, len, cap, rfl⟩ := okWide_slice hT hv
  obtain ⟨fuel, hf⟩ := h
  rcases open_ints hT hE hc hf with ⟨hcs, _⟩ | ⟨a, len', cap', zs, hcs, _, hl, hm, hz, _, hcell, hwz⟩
  · simp [Value.cells] at hcs
    obtain ⟨rfl, rfl, rfl⟩ := hcs
    exact ⟨[], none, 0, rfl, by simp, by unfold maxLen; omega, fun h => absurd rfl h, fun _ h => by simp at h⟩
  · simp [Value.cells] at hcs
    obtain ⟨rfl, rfl, rfl⟩ := hcs
    simp only [if_true] at hz
    have hlen : (zs.take len).length = len := by rw [List.length_take]; omega
    refine ⟨zs.take len, some a, cap, by rw [hlen], by rw [hlen]; exact hl, hm, fun hn => ?_, fun n hn => hwz n (List.mem_of_mem_take hn)⟩
    have hp : 0 < zs.length := by
      cases zs with
      | nil => simp at hn
      | cons => simp
    obtain ⟨b, off, rfl, hc2⟩ := ints_at hcell hp
    refine ⟨b, off, rfl, fun i x hx => ?_⟩
    rw [List.getElem?_take] at hx
    split at hx
    · obtain ⟨hi, rfl⟩ := List.getElem?_eq_some_iff.1 hx
      rw [hc2 i hi, List.getD_eq_getElem?_getD, List.getElem?_eq_getElem hi]
      rfl
    · simp at hx

set_option maxRecDepth 20000 in
theorem open_ints' {H : Type} {enc : TypeId × Value → H} {W : World} {v : Value} {d : DataW H} {ps : List MemPlace} {r : Reach} {b0 : Nat}
    (hv : Value.okWide Tryd.prog W r b0 23 v) (h : DataW.Trod enc Tryd.prog W 0 (fun _ => true) true 23 v d ps) :
    ∃ ns : List Int, SliceIs W v ns ∧ InRange ns ∧ ns.length ≤ maxLen := by
  obtain ⟨ns, p, cap, rfl, h1, h2, h3, h4⟩ := open_slice Tryd.underlying23 Tryd.underlying3 (by kernel_rfl) hv h
  exact ⟨ns, ⟨p, cap, rfl, h3⟩, fun x hx => bounds_i64 (h4 x hx), Nat.le_trans h1 h2⟩

set_option maxRecDepth 20000 in
theorem open_bytes' {H : Type} {enc : TypeId × Value → H} {W : World} {v : Value} {d : DataW H} {ps : List MemPlace} {r : Reach} {b0 : Nat}
    (hv : Value.okWide Tryd.prog W r b0 22 v) (h : DataW.Trod enc Tryd.prog W 0 (fun _ => true) true 22 v d ps) :
    ∃ ns : List Int, BytesAt W v ns ∧ AreBytes ns ∧ ns.length ≤ maxLen := by
  obtain ⟨ns, p, cap, rfl, h1, h2, h3, h4⟩ := open_slice Tryd.underlying22 Tryd.underlying5 (by kernel_rfl) hv h
  exact ⟨ns, ⟨p, cap, rfl, h1, h3⟩, fun x hx => bounds_u8 (h4 x hx), Nat.le_trans h1 h2⟩
end Go.Proofs.YtnmclpphiajleaaDoor
