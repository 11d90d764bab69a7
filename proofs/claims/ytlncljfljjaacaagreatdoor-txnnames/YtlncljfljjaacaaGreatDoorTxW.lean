/- What the arguments of a law hold: a slice of numbers, of bytes. -/
import Derived.Test.YtlncljfljjaacaaGreatDoorTxV
import Derived.OpenShut
import Derived.Test.YtlncljfljjaacaaGreatDoorRows
import Derived.LaidMore
import Derived.Lib.LaidTab
import Derived.MakeChecks
import Derived.Lay
namespace Go.Proofs.YtlncljfljjaacaaGreatDoor
open Go.ChangeShapes Go.WideShapes Go.ChangeAt Go.RowKit
set_option linter.unusedVariables false
set_option linter.unusedSimpArgs false

def SliceIs (w : World) (v : Value) (fs : List Int) : Prop :=
  ∃ p cap, v = .slice p fs.length cap ∧ (fs ≠ [] → ∃ b o, p = some ⟨b, o, none⟩ ∧ ∀ i x, fs[i]? = some x → w.cell? ⟨b, o + i, none⟩ = some (.int .i64 x))

theorem SliceIs.later {w w' : World} {v : Value} {fs : List Int} (h : SliceIs w v fs) (hb : Below w.heap.size w w') : SliceIs w' v fs := by
  obtain ⟨p, cap, rfl, h⟩ := h
  refine ⟨p, cap, rfl, fun hn => ?_⟩
  obtain ⟨b, o, e, h2⟩ := h hn
  exact ⟨b, o, e, fun i x hx => E.kept_cell hb (h2 i x hx)⟩

def InRange (fs : List Int) : Prop := ∀ x ∈ fs, -9223372036854775808 ≤ x ∧ x ≤ 9223372036854775807

theorem bounds_i64 {n : Int} (h : (Lit.int .i64 n).wf = true) : -9223372036854775808 ≤ n ∧ n ≤ 9223372036854775807 := by
  simpa [Lit.wf, IntKind.min, IntKind.max, IntKind.signed, IntKind.bits] using h

theorem laidOut : laidOutB Tryz.prog = true := by kernel_rfl

set_option maxRecDepth 20000 in
theorem open_slice {H : Type} {enc : TypeId × Value → H} {W : World} {T E : TypeId} {k : IntKind} {v : Value} {d : DataW H} {ps : List MemPlace} {r : Reach} {b0 : Nat}
    (hT : Tryz.prog.underlying T = some (.slice E)) (hE : Tryz.prog.underlying E = some (.int k)) (hc : Tryz.prog.cellsOf E = 1)
    (hv : Value.okWide Tryz.prog W r b0 T v) (h : DataW.Trod enc Tryz.prog W 0 (fun _ => true) true T v d ps) :
    ∃ (ns : List Int) (p : Option Addr) (cap : Nat), v = .slice p ns.length cap ∧ ns.length ≤ cap ∧ cap ≤ maxLen ∧
      (ns ≠ [] → ∃ b o, p = some ⟨b, o, none⟩ ∧ ∀ i x, ns[i]? = some x → W.cell? ⟨b, o + i, none⟩ = some (.int k x)) ∧ ∀ n ∈ ns, (Lit.int k n).wf = true := by
  obtain ⟨a0, len, cap, rfl⟩ := okWide_slice hT hv
  obtain ⟨fuel, hf⟩ := h
  rcases open_ints hT hE hc hf with ⟨hcs, _⟩ | ⟨a, len', cap', zs, hcs, _, hl, hm, hz, _, hcell, hwz⟩
  · simp [Value.cells] at hcs
    obtain ⟨rfl, rfl, rfl⟩ := hcs
    exact ⟨[], none, 0, rfl, by simp, by unfold maxLen; omega, fun h => absurd rfl h, fun _ h => by simp at h⟩
  · simp [Value.cells] at hcs
    obtain ⟨rfl, rfl, rfl⟩ := hcs
    simp only [if_true] at hz
    have hlen : (zs.take len).length = len := by rw [List.length_take]; omega
    refine ⟨zs.take len, some a, cap, by rw [hlen], by rw [hlen]; exact hl, hm, fun hn => ?_, fun n hn => hwz n (List.mem_of_mem_take hn)⟩
    have hp : 0 < zs.length := by
      cases zs with
      | nil => simp at hn
      | cons => simp
    obtain ⟨b, off, rfl, hc2⟩ := ints_at hcell hp
    refine ⟨b, off, rfl, fun i x hx => ?_⟩
    rw [List.getElem?_take] at hx
    split at hx
    · obtain ⟨hi, rfl⟩ := List.getElem?_eq_some_iff.1 hx
      rw [hc2 i hi, List.getD_eq_getElem?_getD, List.getElem?_eq_getElem hi]
      rfl
    · simp at hx

set_option maxRecDepth 20000 in
theorem open_ints' {H : Type} {enc : TypeId × Value → H} {W : World} {v : Value} {d : DataW H} {ps : List MemPlace} {r : Reach} {b0 : Nat}
    (hv : Value.okWide Tryz.prog W r b0 22 v) (h : DataW.Trod enc Tryz.prog W 0 (fun _ => true) true 22 v d ps) :
    ∃ ns : List Int, SliceIs W v ns ∧ InRange ns ∧ ns.length ≤ maxLen := by
  obtain ⟨ns, p, cap, rfl, h1, h2, h3, h4⟩ := open_slice Tryz.underlying22 Tryz.underlying3 (by kernel_rfl) hv h
  exact ⟨ns, ⟨p, cap, rfl, h3⟩, fun x hx => bounds_i64 (h4 x hx), Nat.le_trans h1 h2⟩

/-! ### What the listed variables give -/
abbrev laid3 : List (String × DataW Unit) := [("math/bits.deBruijn32tab", Rows.laid_math_bits_deBruijn32tab), ("math/bits.deBruijn64tab", Rows.laid_math_bits_deBruijn64tab), ("letterpress/expr.signs", Rows.laid_letterpress_expr_signs)]

theorem gSigns : Tryz.prog.globalNamed "letterpress/expr.signs" = some 1 := by kernel_rfl
theorem tSigns : (Tryz.prog.globals[1]?).map (·.type) = some 238 := by kernel_rfl

theorem sign_cells {W : World} {sp : Nat → Bool} {fuel n : Nat} {t : TypeId} {cs : List Value} {p : List MemPlace} (ht : Tryz.prog.underlying t = some (.array n 9))
    (h : DataW.trod (fun _ => ()) Tryz.prog W 0 sp false fuel t cs = some (Rows.laid_letterpress_expr_signs, p)) (i : Nat) (hi : i < 7) :
    cs[i]? = some (.string (E.bs (E.signOf (5 + i)))) := by
  obtain ⟨xs, m, rfl, hx, hl, hn, hel⟩ := DataW.trod_array ht h
  have c1 : Tryz.prog.cellsOf 9 = 1 := by kernel_rfl
  simp only [Rows.laid_letterpress_expr_signs, Prod.mk.injEq, DataW.agg.injEq] at hx
  have hlen : n = 7 := by have := congrArg List.length hx.1; simpa [hn] using this.symm
  have hel := hel i (by omega)
  rw [c1, Nat.mul_one] at hel
  have hxi : (xs.map (·.1))[i]? = some (.lit (.string (E.signOf (5 + i)))) := by
    rw [← hx.1]
    match i, hi with
    | 0, _ => rfl
    | 1, _ => rfl
    | 2, _ => rfl
    | 3, _ => rfl
    | 4, _ => rfl
    | 5, _ => rfl
    | 6, _ => rfl
  rw [List.getElem?_map, Option.map_eq_some_iff] at hxi
  obtain ⟨x, hx1, hx2⟩ := hxi
  rw [hx1] at hel
  obtain ⟨s0, e0, g0, _⟩ := DataW.trod_string Tryz.underlying9 hel
  subst g0
  simp only [DataW.lit.injEq, Lit.string.injEq] at hx2
  have q0 := congrArg (·[0]?) e0
  simp only [List.getElem?_take, List.getElem?_drop, List.getElem?_cons_zero] at q0
  have hs : ∀ (s : ByteArray) (l : List UInt8), s.data.toList = l → s = E.bs l := by
    intro s l h; cases s; subst h; simp [E.bs]
  rw [← hs s0 _ hx2]
  simpa using q0

theorem tab_of_laid {W : World} (h : laidMetH Tryz.prog laid3 W) : E.Tab W := by
  rw [MakeChecks.laidMetH_plain _ _ _ (by kernel_rfl)] at h
  obtain ⟨ps, ⟨_, _, _, _, _, _, _, _, _, _, ⟨_, _, _, _, _, _, _, _, _, _, ⟨g6, t6, cs6, f6, p6, q6, hg6, ht6, hv6, hd6, _, _⟩, _⟩, _⟩, _, _⟩ := h
  obtain rfl := Option.some.inj (gSigns.symm.trans hg6)
  obtain rfl := Option.some.inj (tSigns.symm.trans ht6)
  refine ⟨?_, fun h => h.elim⟩
  intro i hi
  have := sign_cells Tryz.underlying238 hd6 i hi
  simpa [World.var?_cell hg6 hv6] using this
end Go.Proofs.YtlncljfljjaacaaGreatDoor
