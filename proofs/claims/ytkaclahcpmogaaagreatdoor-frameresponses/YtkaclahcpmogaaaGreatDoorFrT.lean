/- What the listed variables give: the signs, the powers of ten, the two errors of strconv. -/
import Derived.Test.YtkaclahcpmogaaaGreatDoorExA
import Derived.Test.YtkaclahcpmogaaaGreatDoorRows
import Derived.LaidMore
import Derived.Lib.LaidTab
import Derived.OpenShut
import Derived.MakeChecks
import Derived.Lay
namespace Go.Proofs.YtkaclahcpmogaaaGreatDoor
open Go.ChangeShapes Go.WideShapes Go.ChangeAt Go.RowKit
set_option linter.unusedVariables false
set_option linter.unusedSimpArgs false

abbrev laid8 : List (String × DataW Unit) := [("math/bits.deBruijn32tab", Rows.laid_math_bits_deBruijn32tab), ("math/bits.deBruijn64tab", Rows.laid_math_bits_deBruijn64tab), ("internal/strconv.uint64pow10", Rows.laid_internal_strconv_uint64pow10), ("unicode/utf8.acceptRanges", Rows.laid_unicode_utf8_acceptRanges), ("strconv.ErrRange", Rows.laid_strconv_ErrRange), ("strconv.ErrSyntax", Rows.laid_strconv_ErrSyntax), ("letterpress/expr.signs", Rows.laid_letterpress_expr_signs), ("unicode/utf8.first", Rows.laid_unicode_utf8_first)]

theorem gRange : Tryz.prog.globalNamed "strconv.ErrRange" = some 5 := by kernel_rfl
theorem gSynt : Tryz.prog.globalNamed "strconv.ErrSyntax" = some 4 := by kernel_rfl
theorem gSigns : Tryz.prog.globalNamed "letterpress/expr.signs" = some 0 := by kernel_rfl
theorem tRange : (Tryz.prog.globals[5]?).map (·.type) = some 173 := by kernel_rfl
theorem tSynt : (Tryz.prog.globals[4]?).map (·.type) = some 173 := by kernel_rfl
theorem tSigns : (Tryz.prog.globals[0]?).map (·.type) = some 152 := by kernel_rfl

theorem sign_cells {W : World} {sp : Nat → Bool} {fuel n : Nat} {t : TypeId} {cs : List Value} {p : List MemPlace} (ht : Tryz.prog.underlying t = some (.array n 9))
    (h : DataW.trod (fun _ => ()) Tryz.prog W 0 sp false fuel t cs = some (Rows.laid_letterpress_expr_signs, p)) (i : Nat) (hi : i < 7) :
    cs[i]? = some (.string (bs (signOf (5 + i)))) := by
  obtain ⟨xs, m, rfl, hx, hl, hn, hel⟩ := DataW.trod_array ht h
  have c1 : Tryz.prog.cellsOf 9 = 1 := by kernel_rfl
  simp only [Rows.laid_letterpress_expr_signs, Prod.mk.injEq, DataW.agg.injEq] at hx
  have hlen : n = 7 := by have := congrArg List.length hx.1; simpa [hn] using this.symm
  have hel := hel i (by omega)
  rw [c1, Nat.mul_one] at hel
  have hxi : (xs.map (·.1))[i]? = some (.lit (.string (signOf (5 + i)))) := by
    rw [← hx.1]
    match i, hi with
    | 0, _ => rfl
    | 1, _ => rfl
    | 2, _ => rfl
    | 3, _ => rfl
    | 4, _ => rfl
    | 5, _ => rfl
    | 6, _ => rfl
  rw [List.getElem?_map, Option.map_eq_some_iff] at hxi
  obtain ⟨x, hx1, hx2⟩ := hxi
  rw [hx1] at hel
  obtain ⟨s0, e0, g0, _⟩ := DataW.trod_string Tryz.underlying9 hel
  subst g0
  simp only [DataW.lit.injEq, Lit.string.injEq] at hx2
  have q0 := congrArg (·[0]?) e0
  simp only [List.getElem?_take, List.getElem?_drop, List.getElem?_cons_zero] at q0
  have hs : ∀ (s : ByteArray) (l : List UInt8), s.data.toList = l → s = bs l := by
    intro s l h; cases s; subst h; simp [bs]
  rw [← hs s0 _ hx2]
  simpa using q0

theorem tab_of_laid {W : World} (h : laidMetH Tryz.prog laid8 W) : Tab W := by
  rw [MakeChecks.laidMetH_plain _ _ _ (by kernel_rfl)] at h
  obtain ⟨ps, ⟨_, _, _, _, _, _, _, _, _, _, ⟨_, _, _, _, _, _, _, _, _, _, ⟨g2, t2, cs2, f2, p2, q2, hg2, ht2, hv2, hd2, ⟨_, _, _, _, _, _, _, _, _, _, ⟨g4, t4, cs4, f4, p4, q4, hg4, ht4, hv4, hd4, ⟨g5, t5, cs5, f5, p5, q5, hg5, ht5, hv5, hd5, ⟨g6, t6, cs6, f6, p6, q6, hg6, ht6, hv6, hd6, _, _⟩, _⟩, _⟩, _⟩, _⟩, _⟩, _⟩, _, _⟩ := h
  obtain rfl := Option.some.inj (gRange.symm.trans hg4)
  obtain rfl := Option.some.inj (gSynt.symm.trans hg5)
  obtain rfl := Option.some.inj (gSigns.symm.trans hg6)
  obtain rfl := Option.some.inj (tRange.symm.trans ht4)
  obtain rfl := Option.some.inj (tSynt.symm.trans ht5)
  obtain rfl := Option.some.inj (tSigns.symm.trans ht6)
  refine ⟨?_, fun _ => ⟨?_, ?_⟩⟩
  · intro i hi
    have := sign_cells Tryz.underlying152 hd6 i hi
    simpa [World.var?_cell hg6 hv6] using this
  · obtain ⟨f', u, v, e, _, _⟩ := iface_of_trod Tryz.underlying173 hd5
    refine ⟨.iface u v, ?_, .inr ⟨_, _, rfl⟩⟩
    rw [World.var?_cell hg5 hv5, ← Array.getElem?_toList, e]; rfl
  · obtain ⟨f', u, v, e, _, _⟩ := iface_of_trod Tryz.underlying173 hd4
    refine ⟨.iface u v, ?_, .inr ⟨_, _, rfl⟩⟩
    rw [World.var?_cell hg4 hv4, ← Array.getElem?_toList, e]; rfl
end Go.Proofs.YtkaclahcpmogaaaGreatDoor
