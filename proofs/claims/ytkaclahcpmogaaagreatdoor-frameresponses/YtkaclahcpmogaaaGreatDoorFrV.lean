/- What the arguments of a law hold: a slice of numbers, of bytes. -/
import Derived.Test.YtkaclahcpmogaaaGreatDoorFrU
import Derived.OpenShut
namespace Go.Proofs.YtkaclahcpmogaaaGreatDoor
open Go.ChangeShapes Go.WideShapes Go.ChangeAt Go.RowKit
set_option linter.unusedVariables false
set_option linter.unusedSimpArgs false

def SliceIs (w : World) (v : Value) (fs : List Int) : Prop :=
  ∃ p cap, v = .slice p fs.length cap ∧ (fs ≠ [] → ∃ b o, p = some ⟨b, o, none⟩ ∧ ∀ i x, fs[i]? = some x → w.cell? ⟨b, o + i, none⟩ = some (.int .i64 x))

theorem SliceIs.later {w w' : World} {v : Value} {fs : List Int} (h : SliceIs w v fs) (hb : Below w.heap.size w w') : SliceIs w' v fs := by
  obtain ⟨p, cap, rfl, h⟩ := h
  refine ⟨p, cap, rfl, fun hn => ?_⟩
  obtain ⟨b, o, e, h2⟩ := h hn
  exact ⟨b, o, e, fun i x hx => kept_cell hb (h2 i x hx)⟩

def InRange (fs : List Int) : Prop := ∀ x ∈ fs, -9223372036854775808 ≤ x ∧ x ≤ 9223372036854775807

theorem bounds_i64 {n : Int} (h : (Lit.int .i64 n).wf = true) : -9223372036854775808 ≤ n ∧ n ≤ 9223372036854775807 := by
  simpa [Lit.wf, IntKind.min, IntKind.max, IntKind.signed, IntKind.bits] using h

theorem laidOut : laidOutB Tryz.prog = true := by kernel_rfl

set_option maxRecDepth 20000 in
theorem open_slice {H : Type} {enc : TypeId × Value → H} {W : World} {T E : TypeId} {k : IntKind} {v : Value} {d : DataW H} {ps : List MemPlace} {r : Reach} {b0 : Nat}
    (hT : Tryz.prog.underlying T = some (.slice E)) (hE : Tryz.prog.underlying E = some (.int k)) (hc : Tryz.prog.cellsOf E = 1)
    (hv : Value.okWide Tryz.prog W r b0 T v) (h : DataW.Trod enc Tryz.prog W 0 (fun _ => true) true T v d ps) :
    ∃ (ns : List Int) (p : Option Addr) (cap : Nat), v = .slice p ns.length cap ∧ ns.length ≤ cap ∧ cap ≤ maxLen ∧
      (ns ≠ [] → ∃ b o, p = some ⟨b, o, none⟩ ∧ ∀ i x, ns[i]? = some x → W.cell? ⟨b, o + i, none⟩ = some (.int k x)) ∧ ∀ n ∈ ns, (Lit.int k n).wf = true := by
  obtain ⟨a0, len, cap, rfl⟩ := okWide_slice hT hv
  obtain ⟨fuel, hf⟩ := h
  rcases open_ints hT hE hc hf with ⟨hcs, _⟩ | ⟨a, len', cap', zs, hcs, _, hl, hm, hz, _, hcell, hwz⟩
  · simp [Value.cells] at hcs
    obtain ⟨rfl, rfl, rfl⟩ := hcs
    exact ⟨[], none, 0, rfl, by simp, by unfold maxLen; omega, fun h => absurd rfl h, fun _ h => by simp at h⟩
  · simp [Value.cells] at hcs
    obtain ⟨rfl, rfl, rfl⟩ := hcs
    simp only [if_true] at hz
    have hlen : (zs.take len).length = len := by rw [List.length_take]; omega
    refine ⟨zs.take len, some a, cap, by rw [hlen], by rw [hlen]; exact hl, hm, fun hn => ?_, fun n hn => hwz n (List.mem_of_mem_take hn)⟩
    have hp : 0 < zs.length := by
      cases zs with
      | nil => simp at hn
      | cons => simp
    obtain ⟨b, off, rfl, hc2⟩ := ints_at hcell hp
    refine ⟨b, off, rfl, fun i x hx => ?_⟩
    rw [List.getElem?_take] at hx
    split at hx
    · obtain ⟨hi, rfl⟩ := List.getElem?_eq_some_iff.1 hx
      rw [hc2 i hi, List.getD_eq_getElem?_getD, List.getElem?_eq_getElem hi]
      rfl
    · simp at hx

set_option maxRecDepth 20000 in
theorem open_ints' {H : Type} {enc : TypeId × Value → H} {W : World} {v : Value} {d : DataW H} {ps : List MemPlace} {r : Reach} {b0 : Nat}
    (hv : Value.okWide Tryz.prog W r b0 35 v) (h : DataW.Trod enc Tryz.prog W 0 (fun _ => true) true 35 v d ps) :
    ∃ ns : List Int, SliceIs W v ns ∧ InRange ns ∧ ns.length ≤ maxLen := by
  obtain ⟨ns, p, cap, rfl, h1, h2, h3, h4⟩ := open_slice Tryz.underlying35 Tryz.underlying3 (by kernel_rfl) hv h
  exact ⟨ns, ⟨p, cap, rfl, h3⟩, fun x hx => bounds_i64 (h4 x hx), Nat.le_trans h1 h2⟩


set_option maxRecDepth 100000 in
theorem has_bytes {W : World} {v : Value} {r : Reach} {b0 : Nat} (hv : Value.okWide Tryz.prog W r b0 23 v) : ∀ a n c, v = .slice (some a) n c → a.block < W.heap.size ∧ a.spot = none := by
  rintro a n c rfl
  unfold Value.okWide at hv
  rw [Tryz.underlying23] at hv
  simp only [Cell.okWide, Tryz.underlying23, Cell.ok] at hv
  obtain ⟨_, _, _, hs, row, cells, hsh, _⟩ := hv
  refine ⟨?_, hs⟩
  unfold World.shape? at hsh
  rcases Nat.lt_or_ge a.block W.heap.size with h | h
  · exact h
  · rw [Array.getElem?_eq_none h] at hsh
    simp at hsh

set_option maxRecDepth 100000 in
theorem okWide_none {W : World} {r : Reach} {b0 n c : Nat} (hv : Value.okWide Tryz.prog W r b0 23 (.slice none n c)) : c = 0 := by
  unfold Value.okWide at hv
  rw [Tryz.underlying23] at hv
  simp only [Cell.okWide, Tryz.underlying23] at hv
  cases n with
  | zero =>
    cases c with
    | zero => rfl
    | succ c => simp [Cell.ok, Tryz.underlying23] at hv
  | succ n => simp [Cell.ok, Tryz.underlying23] at hv

set_option maxRecDepth 100000 in
/-- A slice of bytes that is handed in. -/
theorem open_bytesB {H : Type} {enc : TypeId × Value → H} {W : World} {v : Value} {d : DataW H} {ps : List MemPlace} {r : Reach} {b0 : Nat}
    (hv : Value.okWide Tryz.prog W r b0 23 v) (h : DataW.Trod enc Tryz.prog W 0 (fun _ => true) true 23 v d ps) :
    ∃ l : Bs, BytesAt W.heap.size W v l := by
  have hh := has_bytes hv
  obtain ⟨ns, p, cap, rfl, h1, h2, h3, h4⟩ := open_slice Tryz.underlying23 Tryz.underlying5 (by kernel_rfl) hv h
  have hb : ∀ n ∈ ns, 0 ≤ n ∧ n < 256 := by
    intro n hn
    have := h4 n hn
    simp [Lit.wf, IntKind.min, IntKind.max, IntKind.signed, IntKind.bits] at this
    omega
  refine ⟨ns.map fun n => UInt8.ofNat n.toNat, p, cap, by simp, by simpa using h1, h2, ?_, ?_⟩
  · intro hp
    subst hp
    have hlit := okWide_none hv
    omega
  · intro a ha
    subst ha
    obtain ⟨hl, hsp⟩ := hh a _ _ rfl
    obtain ⟨ab, ao, asp⟩ := a
    simp only at hl hsp
    subst hsp
    refine ⟨ab, ao, rfl, hl, fun i c hi => ?_⟩
    rw [List.getElem?_map, Option.map_eq_some_iff] at hi
    obtain ⟨n, hn, rfl⟩ := hi
    have hne : ns ≠ [] := by rintro rfl; simp at hn
    obtain ⟨b', o', e, h5⟩ := h3 hne
    cases e
    rw [h5 i n hn]
    obtain ⟨n0, n1⟩ := hb n (List.mem_of_getElem? hn)
    have : ((UInt8.ofNat n.toNat).toNat : Int) = n := by
      simp
      omega
    rw [this]
end Go.Proofs.YtkaclahcpmogaaaGreatDoor
