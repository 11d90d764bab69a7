/- What the arguments of a law hold: a slice of numbers, of bytes. -/
import Derived.Test.YtcnajkclbmddgaaKnown
import Derived.OpenShut
namespace Go.Proofs.Ytcnajkclbmddgaa
open Go.ChangeShapes Go.WideShapes Go.ChangeAt Go.RowKit
set_option linter.unusedVariables false
set_option linter.unusedSimpArgs false

def SliceIs (w : World) (v : Value) (fs : List Int) : Prop :=
  ∃ p cap, v = .slice p fs.length cap ∧ (fs ≠ [] → ∃ b o, p = some ⟨b, o, none⟩ ∧ ∀ i x, fs[i]? = some x → w.cell? ⟨b, o + i, none⟩ = some (.int .i64 x))

theorem SliceIs.later {w w' : World} {v : Value} {fs : List Int} (h : SliceIs w v fs) (hb : Below w.heap.size w w') : SliceIs w' v fs := by
  obtain ⟨p, cap, rfl, h⟩ := h
  refine ⟨p, cap, rfl, fun hn => ?_⟩
  obtain ⟨b, o, e, h2⟩ := h hn
  exact ⟨b, o, e, fun i x hx => kept_cell hb (h2 i x hx)⟩

def InRange (fs : List Int) : Prop := ∀ x ∈ fs, -9223372036854775808 ≤ x ∧ x ≤ 9223372036854775807

theorem bounds_i64 {n : Int} (h : (Lit.int .i64 n).wf = true) : -9223372036854775808 ≤ n ∧ n ≤ 9223372036854775807 := by
  simpa [Lit.wf, IntKind.min, IntKind.max, IntKind.signed, IntKind.bits] using h

theorem laidOut : laidOutB Try.prog = true := by kernel_rfl

set_option maxRecDepth 20000 in
theorem open_slice {H : Type} {enc : TypeId × Value → H} {W : World} {T E : TypeId} {k : IntKind} {v : Value} {d : DataW H} {ps : List MemPlace} {r : Reach} {b0 : Nat}
    (hT : Try.prog.underlying T = some (.slice E)) (hE : Try.prog.underlying E = some (.int k)) (hc : Try.prog.cellsOf E = 1)
    (hv : Value.okWide Try.prog W r b0 T v) (h : DataW.Trod enc Try.prog W 0 (fun _ => true) true T v d ps) :
    ∃ (ns : List Int) (p : Option Addr) (cap : Nat), v = .slice p ns.length cap ∧ ns.length ≤ cap ∧ cap ≤ maxLen ∧
      (ns ≠ [] → ∃ b o, p = some ⟨b, o, none⟩ ∧ ∀ i x, ns[i]? = some x → W.cell? ⟨b, o + i, none⟩ = some (.int k x)) ∧ ∀ n ∈ ns, (Lit.int k n).wf = true := by
  obtain ⟨a0, len, cap, rfl⟩ := okWide_slice hT hv
  obtain ⟨fuel, hf⟩ := h
  rcases open_ints hT hE hc hf with ⟨hcs, _⟩ | ⟨a, len', cap', zs, hcs, _, hl, hm, hz, _, hcell, hwz⟩
  · simp [Value.cells] at hcs
    obtain ⟨rfl, rfl, rfl⟩ := hcs
    exact ⟨[], none, 0, rfl, by simp, by unfold maxLen; omega, fun h => absurd rfl h, fun _ h => by simp at h⟩
  · simp [Value.cells] at hcs
    obtain ⟨rfl, rfl, rfl⟩ := hcs
    simp only [if_true] at hz
    have hlen : (zs.take len).length = len := by rw [List.length_take]; omega
    refine ⟨zs.take len, some a, cap, by rw [hlen], by rw [hlen]; exact hl, hm, fun hn => ?_, fun n hn => hwz n (List.mem_of_mem_take hn)⟩
    have hp : 0 < zs.length := by
      cases zs with
      | nil => simp at hn
      | cons => simp
    obtain ⟨b, off, rfl, hc2⟩ := ints_at hcell hp
    refine ⟨b, off, rfl, fun i x hx => ?_⟩
    rw [List.getElem?_take] at hx
    split at hx
    · obtain ⟨hi, rfl⟩ := List.getElem?_eq_some_iff.1 hx
      rw [hc2 i hi, List.getD_eq_getElem?_getD, List.getElem?_eq_getElem hi]
      rfl
    · simp at hx

set_option maxRecDepth 20000 in
theorem open_ints' {H : Type} {enc : TypeId × Value → H} {W : World} {v : Value} {d : DataW H} {ps : List MemPlace} {r : Reach} {b0 : Nat}
    (hv : Value.okWide Try.prog W r b0 22 v) (h : DataW.Trod enc Try.prog W 0 (fun _ => true) true 22 v d ps) :
    ∃ ns : List Int, SliceIs W v ns ∧ InRange ns ∧ ns.length ≤ maxLen := by
  obtain ⟨ns, p, cap, rfl, h1, h2, h3, h4⟩ := open_slice Try.underlying22 Try.underlying3 (by kernel_rfl) hv h
  exact ⟨ns, ⟨p, cap, rfl, h3⟩, fun x hx => bounds_i64 (h4 x hx), Nat.le_trans h1 h2⟩

end Go.Proofs.Ytcnajkclbmddgaa
