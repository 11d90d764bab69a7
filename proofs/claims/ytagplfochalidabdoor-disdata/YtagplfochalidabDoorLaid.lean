/- What the listed variables give: the two tables of instructions, and the library's table of blanks. -/
import Derived.Test.YtagplfochalidabDoorTable
import Derived.LaidMore
import Derived.Lib.LaidTab
import Derived.Shelf.Strings.Fields
import Derived.OpenShut
import Derived.MakeChecks
import Derived.Test.YtagplfochalidabDoorEShelf
import Derived.Test.YtagplfochalidabDoorRows
namespace Go.Proofs.YtagplfochalidabDoor
open Go.ChangeShapes Go.WideShapes Go.ChangeAt Go.RowKit
open Plain
set_option linter.unusedVariables false
set_option linter.unusedSimpArgs false

/-- Block g holds the rows rs, three cells a row. -/
def HoldsRows (w : World) (g : Nat) (rs : List R) : Prop :=
  ∀ (i : Nat) (r : R), rs[i]? = some r → w.cell? ⟨g, i * 3, none⟩ = some (.string ⟨r.name.toArray⟩) ∧ w.cell? ⟨g, i * 3 + 1, none⟩ = some (.int .u32 r.bits) ∧ w.cell? ⟨g, i * 3 + 2, none⟩ = some (.string ⟨r.kinds.toArray⟩)

/-- The tables are there. -/
structure Tab (w : World) : Prop where
  short : HoldsRows w 1 short
  blanks : ∀ c : Nat, c < 256 → w.cell? ⟨0, c, none⟩ = some (.int .u8 (if Lib.isSp (UInt8.ofNat c) then 1 else 0))
  pow : Lib.TabIs Tryd.prog w "internal/strconv.uint64pow10" .u64 Lib.pow10Tab

/-- .. and what is asked for is in the table of the short ones. -/
structure TabOp (op : Int) (w : World) : Prop where
  tab : Tab w
  lt : op < 43

theorem gPow : Tryd.prog.globalNamed "internal/strconv.uint64pow10" = some 4 := by kernel_rfl
theorem kept_cell {w w' : World} (h : Below w.heap.size w w') {a : Addr} {v : Value} (hc : w.cell? a = some v) : w'.cell? a = some v := by
  rw [h.cell (block_lt_of_cell hc)]; exact hc

theorem HoldsRows.later {w w' : World} {g : Nat} {rs : List R} (h : HoldsRows w g rs) (hb : Below w.heap.size w w') : HoldsRows w' g rs :=
  fun i r hr => ⟨kept_cell hb (h i r hr).1, kept_cell hb (h i r hr).2.1, kept_cell hb (h i r hr).2.2⟩

theorem Tab.later {w w' : World} (h : Tab w) (hb : Below w.heap.size w w') : Tab w' := by
  have l2 : 4 < w.heap.size := block_lt_of_cell (v := .int .u64 1) (by rw [World.var?_cell gPow h.pow]; rfl : w.cell? ⟨4, 0, none⟩ = _)
  refine ⟨h.short.later hb, fun c hc => kept_cell hb (h.blanks c hc), ?_⟩
  exact var?_below hb gPow l2 h.pow

theorem TabOp.later {op : Int} {w w' : World} (h : TabOp op w) (hb : Below w.heap.size w w') : TabOp op w' := ⟨h.tab.later hb, h.lt⟩

def rowD (r : R) : DataW Unit := .agg [.lit (.string r.name), .lit (.int .u32 r.bits), .lit (.string r.kinds)]

theorem row_cells {W : World} {sp : Nat → Bool} {fuel n : Nat} {t : TypeId} {cs : List Value} {rs : List R} {p : List MemPlace} (ht : Tryd.prog.underlying t = some (.array n 59))
    (h : DataW.trod (fun _ => ()) Tryd.prog W 0 sp false fuel t cs = some (.agg (rs.map rowD), p)) (i : Nat) (r : R) (hr : rs[i]? = some r) :
    cs[i * 3]? = some (.string ⟨r.name.toArray⟩) ∧ cs[i * 3 + 1]? = some (.int .u32 r.bits) ∧ cs[i * 3 + 2]? = some (.string ⟨r.kinds.toArray⟩) := by
  obtain ⟨xs, m, rfl, hx, hl, hn, hel⟩ := DataW.trod_array ht h
  have c3 : Tryd.prog.cellsOf 59 = 3 := by kernel_rfl
  simp only [Prod.mk.injEq, DataW.agg.injEq] at hx
  have hlen : rs.length = n := by have := congrArg List.length hx.1; simpa [hn] using this
  have hi : i < n := by rw [← hlen]; exact (List.getElem?_eq_some_iff.1 hr).1
  have hel := hel i hi
  have hxi : (xs.map (·.1))[i]? = some (rowD r) := by rw [← hx.1]; simp [hr]
  rw [List.getElem?_map, Option.map_eq_some_iff] at hxi
  obtain ⟨x, hx1, hx2⟩ := hxi
  rw [hx1, c3] at hel
  obtain ⟨ys, m', rfl, hy, hyl, hyn, hf⟩ := DataW.trod_struct Tryd.underlying59 hel
  rw [hy] at hx2
  simp only [rowD, DataW.agg.injEq] at hx2
  have f0 : DataW.trod (fun _ => ()) Tryd.prog W 0 sp false m' 9 (List.take (Tryd.prog.cellsOf 9) (List.drop 0 (List.take 3 (List.drop (i * 3) cs)))) = ys[0]? := hf 0 _ rfl
  have f1 : DataW.trod (fun _ => ()) Tryd.prog W 0 sp false m' 49 (List.take (Tryd.prog.cellsOf 49) (List.drop 1 (List.take 3 (List.drop (i * 3) cs)))) = ys[1]? := hf 1 _ rfl
  have f2 : DataW.trod (fun _ => ()) Tryd.prog W 0 sp false m' 9 (List.take (Tryd.prog.cellsOf 9) (List.drop 2 (List.take 3 (List.drop (i * 3) cs)))) = ys[2]? := hf 2 _ rfl
  match ys, hx2, f0, f1, f2 with
  | [y0, y1, y2], hx2, f0, f1, f2 =>
    simp only [List.map_cons, List.map_nil, List.cons.injEq, and_true] at hx2
    obtain ⟨s0, e0, g0, _⟩ := DataW.trod_string Tryd.underlying9 f0
    obtain ⟨b1, e1, g1, _⟩ := DataW.trod_int Tryd.underlying49 f1
    obtain ⟨s2, e2, g2, _⟩ := DataW.trod_string Tryd.underlying9 f2
    subst g0 g1 g2
    simp only [DataW.lit.injEq, Lit.string.injEq, Lit.int.injEq, true_and] at hx2
    obtain ⟨h0, h1, h2⟩ := hx2
    have k9 : Tryd.prog.cellsOf 9 = 1 := by kernel_rfl
    have k46 : Tryd.prog.cellsOf 49 = 1 := by kernel_rfl
    rw [k9] at e0 e2
    rw [k46] at e1
    have q0 := congrArg (·[0]?) e0
    have q1 := congrArg (·[0]?) e1
    have q2 := congrArg (·[0]?) e2
    simp only [List.getElem?_take, List.getElem?_drop, List.getElem?_cons_zero] at q0 q1 q2
    have hs : ∀ (s : ByteArray) (l : List UInt8), s.data.toList = l → s = ⟨l.toArray⟩ := by
      intro s l h; cases s; subst h; simp
    rw [hs s0 _ h0, h1] at *
    refine ⟨?_, ?_, ?_⟩
    · simpa using q0
    · simpa [h1] using q1
    · rw [← hs s2 _ h2]; simpa using q2

theorem laidShort : (Rows.laid_letterpress_isa_short : DataW Unit) = .agg (short.map rowD) := by kernel_rfl
theorem laidBlanks : (Rows.laid_strings_asciiSpace : DataW Unit) = Lib.tabData .u8 ((List.range 256).map fun c => if Lib.isSp (UInt8.ofNat c) then 1 else 0) := by kernel_rfl
theorem laidPow : (Rows.laid_internal_strconv_uint64pow10 : DataW Unit) = Lib.tabData .u64 Lib.pow10Tab := by kernel_rfl

abbrev laid5 : List (String × DataW Unit) := [("math/bits.deBruijn32tab", Rows.laid_math_bits_deBruijn32tab), ("math/bits.deBruijn64tab", Rows.laid_math_bits_deBruijn64tab), ("internal/strconv.uint64pow10", Rows.laid_internal_strconv_uint64pow10), ("strings.asciiSpace", Rows.laid_strings_asciiSpace), ("letterpress/isa.short", Rows.laid_letterpress_isa_short)]

theorem gShort : Tryd.prog.globalNamed "letterpress/isa.short" = some 1 := by kernel_rfl
theorem gBlanks : Tryd.prog.globalNamed "strings.asciiSpace" = some 0 := by kernel_rfl
theorem tShort : (Tryd.prog.globals[1]?).map (·.type) = some 86 := by kernel_rfl
theorem tBlanks : (Tryd.prog.globals[0]?).map (·.type) = some 73 := by kernel_rfl
theorem tPow : (Tryd.prog.globals[4]?).map (·.type) = some 128 := by kernel_rfl

theorem tab_of_laid {W : World} (h : laidMetH Tryd.prog laid5 W) : Tab W := by
  rw [MakeChecks.laidMetH_plain _ _ _ (by kernel_rfl)] at h
  obtain ⟨ps, ⟨_, _, _, _, _, _, _, _, _, _, ⟨_, _, _, _, _, _, _, _, _, _, ⟨g3, t3, cs3, f3, p3, q3, hg3, ht3, hv3, hd3, ⟨g1, t1, cs1, f1, p1, q1, hg1, ht1, hv1, hd1, ⟨g2, t2, cs2, f2, p2, q2, hg2, ht2, hv2, hd2, _, _⟩, _⟩, _⟩, _⟩, _⟩, _, _⟩ := h
  obtain rfl := Option.some.inj (gBlanks.symm.trans hg1)
  obtain rfl := Option.some.inj (gShort.symm.trans hg2)
  obtain rfl := Option.some.inj (gPow.symm.trans hg3)
  obtain rfl := Option.some.inj (tBlanks.symm.trans ht1)
  obtain rfl := Option.some.inj (tShort.symm.trans ht2)
  obtain rfl := Option.some.inj (tPow.symm.trans ht3)
  rw [laidBlanks] at hd1
  rw [laidShort] at hd2
  rw [laidPow] at hd3
  refine ⟨?_, ?_, ?_⟩
  · intro i r hr
    have := row_cells Tryd.underlying86 hd2 i r hr
    simpa [World.var?_cell hg2 hv2] using this
  · intro c hc
    have := Lib.cells_of_tab Tryd.underlying73 Tryd.underlying5 (by kernel_rfl) (by kernel_rfl) hd1
    rw [World.var?_cell hg1 hv1, ← Array.getElem?_toList, this]
    simp [hc]
  · have := Lib.cells_of_tab Tryd.underlying128 Tryd.underlying98 (by kernel_rfl) (by kernel_rfl) hd3
    unfold Lib.TabIs
    rw [hv3, ← this]
end Go.Proofs.YtagplfochalidabDoor
