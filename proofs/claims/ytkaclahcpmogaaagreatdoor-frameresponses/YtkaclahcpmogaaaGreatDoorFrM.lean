/- Lists of diagnostics in memory. -/
import Derived.Test.YtkaclahcpmogaaaGreatDoorFrL
import Derived.Laws.MakeOwn
import Derived.Laws.CopyRow
namespace Go.Proofs.YtkaclahcpmogaaaGreatDoor
open Go.ChangeShapes Go.WideShapes Go.ChangeAt Go.RowKit
set_option linter.unusedVariables false
set_option linter.unusedSimpArgs false

def dgsCells (ds : List Dg) : List Value := ds.flatMap fun d => [.string (bs d.frag), .int .i64 d.line, .int .i64 d.e]
theorem dgsCells_len (ds : List Dg) : (dgsCells ds).length = ds.length * 3 := by
  induction ds with
  | nil => rfl
  | cons d ds ih => simp only [dgsCells, List.flatMap_cons, List.length_append, List.length_cons, List.length_nil] at *; omega
theorem dgsCells_cons (d : Dg) (ds : List Dg) : dgsCells (d :: ds) = .string (bs d.frag) :: .int .i64 d.line :: .int .i64 d.e :: dgsCells ds := rfl
theorem dgs_get (ds : List Dg) (j : Nat) (d : Dg) (h : ds[j]? = some d) : (dgsCells ds)[j * 3]? = some (.string (bs d.frag)) ∧ (dgsCells ds)[j * 3 + 1]? = some (.int .i64 d.line) ∧ (dgsCells ds)[j * 3 + 2]? = some (.int .i64 d.e) := by
  induction ds generalizing j with
  | nil => simp at h
  | cons a ds ih =>
    rw [dgsCells_cons]
    cases j with
    | zero => simp at h; subst h; simp
    | succ j =>
      have := ih j (by simpa using h)
      rw [show (j + 1) * 3 = j * 3 + 1 + 1 + 1 by omega, show j * 3 + 1 + 1 + 1 + 1 = (j * 3 + 1) + 1 + 1 + 1 by omega, show j * 3 + 1 + 1 + 1 + 2 = (j * 3 + 2) + 1 + 1 + 1 by omega]
      simpa using this
theorem dgs_set (ds : List Dg) (j : Nat) (d : Dg) (h : j < ds.length) : (((dgsCells ds).set (j * 3) (.string (bs d.frag))).set (j * 3 + 1) (.int .i64 d.line)).set (j * 3 + 2) (.int .i64 d.e) = dgsCells (ds.set j d) := by
  induction ds generalizing j with
  | nil => simp at h
  | cons a ds ih =>
    rw [dgsCells_cons]
    cases j with
    | zero => simp [dgsCells_cons]
    | succ j =>
      have := ih j (by simpa using h)
      rw [show (j + 1) * 3 = j * 3 + 1 + 1 + 1 by omega, show j * 3 + 1 + 1 + 1 + 1 = (j * 3 + 1) + 1 + 1 + 1 by omega, show j * 3 + 1 + 1 + 1 + 2 = (j * 3 + 2) + 1 + 1 + 1 by omega]
      simp only [List.set_cons_succ, dgsCells_cons, this]
theorem dgs_one (ds : List Dg) : ∀ v ∈ dgsCells ds, v.oneCell' = true := by
  induction ds with
  | nil => simp [dgsCells]
  | cons d ds ih =>
    rw [dgsCells_cons]
    intro v hv
    simp only [List.mem_cons] at hv
    rcases hv with rfl | rfl | rfl | hv
    · rfl
    · rfl
    · rfl
    · exact ih v hv

def DiagsAt (L : Nat) (w : World) (v : Value) (ds : List Dg) : Prop :=
  ∃ p cap, v = .slice p ds.length cap ∧ ds.length ≤ cap ∧ cap ≤ maxLen ∧ (p = none → cap = 0) ∧ ∀ a, p = some a → ∃ b o, a = ⟨b, o, none⟩ ∧ b < L ∧ ∀ i x, (dgsCells ds)[i]? = some x → w.cell? ⟨b, o + i, none⟩ = some x
theorem DiagsAt.later {L : Nat} {w w' : World} {v : Value} {ds : List Dg} (h : DiagsAt L w v ds) (hb : Below L w w') : DiagsAt L w' v ds := by
  obtain ⟨p, cap, rfl, hc, hm, hn, h⟩ := h
  refine ⟨p, cap, rfl, hc, hm, hn, fun a ha => ?_⟩
  obtain ⟨b, o, e, hl, h2⟩ := h a ha
  exact ⟨b, o, e, hl, fun i c hi => by rw [cell_of_block (hb.block _ hl)]; exact h2 i c hi⟩
theorem DiagsAt.mono {L L' : Nat} {w : World} {v : Value} {ds : List Dg} (h : DiagsAt L w v ds) (hL : L ≤ L') : DiagsAt L' w v ds := by
  obtain ⟨p, cap, rfl, hc, hm, hn, h⟩ := h
  refine ⟨p, cap, rfl, hc, hm, hn, fun a ha => ?_⟩
  obtain ⟨b, o, e, hl, h2⟩ := h a ha
  exact ⟨b, o, e, by omega, h2⟩
theorem diagsAt_none (L : Nat) (w : World) : DiagsAt L w (.slice none 0 0) [] := ⟨_, 0, rfl, Nat.le_refl _, by unfold maxLen; omega, fun _ => rfl, fun a h => by cases h⟩

/-- n of them, each none. -/
def zeroD (n : Nat) : List Dg := List.replicate n ⟨[], 0, 0⟩
theorem zeroD_cells (n : Nat) : (madeCells (Value.agg #[.string ⟨#[]⟩, .int .i64 0, .int .i64 0]).cells (n * 3)).toList = dgsCells (zeroD n) := by
  apply List.ext_getElem?
  intro i
  by_cases hi : i < n * 3
  · have hj : i / 3 < n := by omega
    have hz : (zeroD n)[i / 3]? = some ⟨[], 0, 0⟩ := by unfold zeroD; rw [List.getElem?_replicate, if_pos hj]
    obtain ⟨h0, h1, h2⟩ := dgs_get (zeroD n) (i / 3) _ hz
    have hm : i % 3 = 0 ∨ i % 3 = 1 ∨ i % 3 = 2 := by omega
    have hL : (madeCells (Value.agg #[.string ⟨#[]⟩, .int .i64 0, .int .i64 0]).cells (n * 3)).toList[i]? = some (#[Value.string ⟨#[]⟩, .int .i64 0, .int .i64 0][i % 3]!) := by
      simp [madeCells, Value.cells, hi]
    rw [hL]
    rcases hm with hm | hm | hm
    · rw [hm, show i = i / 3 * 3 by omega, h0]; rfl
    · rw [hm]; conv => rhs; rw [show i = i / 3 * 3 + 1 by omega, h1]
      rfl
    · rw [hm]; conv => rhs; rw [show i = i / 3 * 3 + 2 by omega, h2]
      rfl
  · rw [List.getElem?_eq_none (by simp [madeCells]; omega), List.getElem?_eq_none (by rw [dgsCells_len]; unfold zeroD; simp; omega)]

theorem info_diag : (Tryz.prog.info? 75).map (fun i => (i.zero, i.size, i.bytes)) = some (some (.agg #[.string ⟨#[]⟩, .int .i64 0, .int .i64 0]), 3, 32) := by kernel_rfl

theorem run_make_diag (n : Nat) (hn : n ≤ 16777216) (W : World) : (Instr.makeSlice 40 (.int .i64 n) (.int .i64 n)).run Tryz.prog W = .ok (.slice (some ⟨W.heap.size, 0, none⟩) n n) (W.alloc (.cells (dgsCells (zeroD n)).toArray 75)) := by
  obtain ⟨i0, hi, hz, hs, hb⟩ := info_parts info_diag
  have := run_make (P := Tryz.prog) W 40 75 i0 _ Tryz.underlying40 hi hz .i64 .i64 n n (by omega) (Int.le_refl _) (by rw [hb]; omega) (by omega)
  rw [this]
  simp only [Int.toNat_natCast, hs]
  rw [← zeroD_cells, Array.toArray_toList]

theorem run_copy_diag0 (W : World) (ty : TypeId) (g n c : Nat) (p : Option Addr) (sn sc : Nat) (h : n = 0 ∨ sn = 0) :
    (Builtin.copy_ #[40, 40] ty #[.slice (some ⟨g, 0, none⟩) n c, .slice p sn sc]).run Tryz.prog W = .ok (goInt 0) W := by
  obtain ⟨i0, hi, hz, hs, hb⟩ := info_parts info_diag
  have hm : Nat.min sn n = 0 := by rcases h with rfl | rfl <;> simp
  have hm2 : min sn n = 0 := hm
  cases p with
  | none => simp [Builtin.copy_, run_underlying Tryz.underlying40, Builtin.lenOf, Builtin.firstCells, sizeOf, typeInfo, hi, hs, hm2, storeCells]
  | some a => simp [Builtin.copy_, run_underlying Tryz.underlying40, Builtin.lenOf, Builtin.firstCells, sizeOf, typeInfo, hi, hs, hm2, storeCells, loadCells, loadCellsFrom]

theorem run_copy_diag (W : World) (ty : TypeId) (g n c : Nat) (a : Addr) (sc : Nat) (cur : Array Value) (cs : List Value) (hg : W.heap[g]? = some (.cells cur 75 (0, 0))) (hcl : cs.length = n * 3) (hcur : cur.size = n * 3)
    (hsrc : ∀ j v, cs[j]? = some v → W.cell? (a.add j) = some v) (h1 : ∀ v ∈ cs, v.oneCell' = true) :
    (Builtin.copy_ #[40, 40] ty #[.slice (some ⟨g, 0, none⟩) n c, .slice (some a) n sc]).run Tryz.prog W = .ok (goInt n) (W.setRow g cs.toArray) := by
  obtain ⟨i0, hi, hz, hs, hb⟩ := info_parts info_diag
  have hl := run_loadCells_list (P := Tryz.prog) W a cs hsrc
  have hst := run_storeCells_at Tryz.prog g 0 75 cs 0 cur W hg (by omega) h1
  rw [hcl] at hl
  have hd : cur.toList.drop (0 + 0 + cs.length) = [] := List.drop_eq_nil_of_le (by rw [Array.length_toList]; omega)
  simp only [Nat.zero_add, List.take_zero, List.nil_append] at hst hd
  rw [hd, List.append_nil] at hst
  simp [Builtin.copy_, run_underlying Tryz.underlying40, Builtin.lenOf, Builtin.firstCells, sizeOf, typeInfo, hi, hs, hl, hst]
end Go.Proofs.YtkaclahcpmogaaaGreatDoor
