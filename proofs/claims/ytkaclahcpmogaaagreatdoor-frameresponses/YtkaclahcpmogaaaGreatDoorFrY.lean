/- The laws' responses as plain data; lists of diagnostics that grow. -/
import Derived.Test.YtkaclahcpmogaaaGreatDoorFrX
namespace Go.Proofs.YtkaclahcpmogaaaGreatDoor
open Go.ChangeShapes Go.WideShapes Go.ChangeAt Go.RowKit
set_option linter.unusedVariables false
set_option linter.unusedSimpArgs false

def frags4 : List Bs := [[], [109, 97, 105, 110], [97], [116, 119, 101, 108, 118, 101, 95, 98, 121, 116, 101, 115]]
def fragAt (k : Nat) : Bs := frags4.getD k []
def dgOf (n : Int) : Dg := ⟨fragAt (n % 4).toNat, n.tdiv 4 % 5001, n.tdiv 7 % 15⟩
def dgsOf (ns : List Int) : List Dg := (ns.take 20).map dgOf
def rpOf (ns : List Int) (text image : Bs) : Rp := ⟨(ns.length : Int) % 15, text, image, dgsOf ns⟩

theorem frag_ok (k : Nat) : fragOk (fragAt k) = true := by
  have h1 : wordL [109, 97, 105, 110] = true := wordL_word (by decide)
  have h2 : wordL [97] = true := wordL_word (by decide)
  have h3 : wordL [116, 119, 101, 108, 118, 101, 95, 98, 121, 116, 101, 115] = true := wordL_word (by decide)
  unfold fragOk fragAt frags4
  match k with
  | 0 => simp
  | 1 => simp [rightP, nameOk, textOk, valueOk, h1]
  | 2 => simp [rightP, nameOk, textOk, valueOk, h2]
  | 3 => simp [rightP, nameOk, textOk, valueOk, h3]
  | k + 4 => simp

theorem dgOf_right (n : Int) : wrongP (dgOf n) = false := by
  have h0 := Int.emod_nonneg (n.tdiv 4) (show (5001 : Int) ≠ 0 by decide)
  have h1 := Int.emod_lt_of_pos (n.tdiv 4) (show (0 : Int) < 5001 by decide)
  have h2 := Int.emod_nonneg (n.tdiv 7) (show (15 : Int) ≠ 0 by decide)
  have h3 := Int.emod_lt_of_pos (n.tdiv 7) (show (0 : Int) < 15 by decide)
  unfold wrongP errOk dgOf
  simp only [frag_ok, Bool.not_true, Bool.false_or, Bool.or_eq_false_iff, decide_eq_false_iff_not, Bool.not_eq_false', Bool.and_eq_true, decide_eq_true_eq]
  omega

theorem dgsOf_len (ns : List Int) : (dgsOf ns).length = min 20 ns.length := by unfold dgsOf; simp
theorem dgsOf_right (ns : List Int) : (dgsOf ns).any wrongP = false := by
  rw [List.any_eq_false]
  intro d hd
  obtain ⟨n, _, rfl⟩ := List.mem_map.1 hd
  simp [dgOf_right]

theorem rpOf_right (ns : List Int) (text image : Bs) (ht : text.length ≤ 600) (hi : image.length ≤ 4096) : rpRight (rpOf ns text image) = true := by
  have h0 := Int.emod_nonneg (ns.length : Int) (show (15 : Int) ≠ 0 by decide)
  have h1 := Int.emod_lt_of_pos (ns.length : Int) (show (0 : Int) < 15 by decide)
  have h2 := dgsOf_len ns
  have h3 : (dgsOf ns).length ≤ 5000 := by omega
  unfold rpRight errOk rpOf
  simp only [dgsOf_right, Bool.and_eq_true, decide_eq_true_eq, Bool.not_false, and_true]
  omega

/-- A list of diagnostics in a row of its own. -/
def OwnD (B : Nat) (w : World) (v : Value) (ds : List Dg) : Prop := w.ownsRow B 75 3 v ds.length (dgsCells ds)
theorem ownD_nil (B : Nat) (w : World) : OwnD B w (.slice none 0 0) [] := ⟨rfl, .inl ⟨rfl, rfl⟩⟩

theorem dgs_cell (ds : List Dg) (i : Nat) (v : Value) (h : (dgsCells ds)[i]? = some v) : i < ds.length * 3 := by
  have := (List.getElem?_eq_some_iff.1 h).1
  rwa [dgsCells_len] at this

theorem OwnD.diags {B L : Nat} {w : World} {v : Value} {ds : List Dg} (h : OwnD B w v ds) (hL : w.heap.size ≤ L) : DiagsAt L w v ds := by
  rcases h.2 with ⟨rfl, h0⟩ | ⟨g, cap, cur, rfl, h1, h2, h3, h4, h5, h6⟩
  · rw [List.eq_nil_of_length_eq_zero h0]; exact diagsAt_none _ _
  · have hgl := (Array.getElem?_eq_some_iff.1 h2).1
    refine ⟨_, cap, rfl, h3, h4, (fun h => by cases h), fun a ha => ?_⟩
    cases ha
    refine ⟨g, 0, rfl, by omega, fun i c hi => ?_⟩
    have hil := dgs_cell ds i c hi
    have := hi
    rw [← h6, List.getElem?_take, if_pos (by omega), Array.getElem?_toList] at this
    rw [Lib.cell_of_heap h2, Nat.zero_add]
    exact this

theorem OwnD.later {B : Nat} {w w' : World} {v : Value} {ds : List Dg} (h : OwnD B w v ds) (hb : Below w.heap.size w w') : OwnD B w' v ds := by
  refine ⟨h.1, ?_⟩
  rcases h.2 with hn | ⟨g, cap, cur, h1, h2, h3, h4⟩
  · exact .inl hn
  · exact .inr ⟨g, cap, cur, h1, h2, (hb.block g (Array.getElem?_eq_some_iff.1 h3).1).trans h3, h4⟩
theorem OwnD.low {B B' : Nat} {w : World} {v : Value} {ds : List Dg} (h : OwnD B w v ds) (hB : B' ≤ B) : OwnD B' w v ds := own_low h hB
theorem OwnD.below {B : Nat} {w w' : World} {v : Value} {ds : List Dg} (h : OwnD B w v ds) (hg : w.grownBy w' v.ownBlock) (hB : B ≤ w.heap.size) : Below B w w' :=
  ⟨hg.os, hg.tape, hg.output, hg.size, fun i hi => hg.block i (by omega) (fun e => by have := (h.lt _ e.symm).1; omega)⟩

theorem ownD_slice {B : Nat} {w : World} {v : Value} {ds : List Dg} (h : OwnD B w v ds) : ∃ p cap, v = .slice p ds.length cap ∧ ds.length ≤ cap := by
  rcases h.2 with ⟨rfl, h0⟩ | ⟨g, cap, cur, rfl, _, _, h3, _⟩
  · exact ⟨none, 0, by rw [h0], by omega⟩
  · exact ⟨_, cap, rfl, h3⟩
theorem ownD_put {B k : Nat} {w : World} {v : Value} {ds : List Dg} (h : OwnD B w v ds) (hk : k < B) (a0 a1 a2 a3 : Value) : DiagsAt (put4 w k a0 a1 a2 a3).heap.size (put4 w k a0 a1 a2 a3) v ds := by
  refine OwnD.diags (B := B) ⟨h.1, ?_⟩ (Nat.le_refl _)
  rcases h.2 with hn | ⟨g, cap, cur, h1, h2, h3, h4⟩
  · exact .inl hn
  · exact .inr ⟨g, cap, cur, h1, h2, (put4_block _ _ _ _ _ _ _ (by omega)).trans h3, h4⟩

theorem dgsCells_append (a b : List Dg) : dgsCells (a ++ b) = dgsCells a ++ dgsCells b := by unfold dgsCells; exact List.flatMap_append

theorem run_app_diag (w : World) (B : Nat) (v : Value) (ds : List Dg) (d : Dg) (g : Nat) (hown : OwnD B w v ds) (hg : w.heap[g]? = some (.cells #[.string (bs d.frag), .int .i64 d.line, .int .i64 d.e] 75 (0, 0))) (hx : ds.length ≤ 1000000) (hB : B ≤ w.heap.size) :
    ∃ v' w', (∀ ty, (Builtin.append_ #[40, 40] ty #[v, .slice (some ⟨g, 0, none⟩) 1 1]).run Tryz.prog w = .ok v' w') ∧ OwnD B w' v' (ds ++ [d]) ∧ w.grownBy w' v.ownBlock := by
  obtain ⟨i0, hi, hz, hs, hb⟩ := info_parts info_diag
  have hnews : ∀ j u, (dgsCells [d])[j]? = some u → w.cell? ((⟨g, 0, none⟩ : Addr).add j) = some u := by
    intro j u hj
    have hj2 := hj
    have hjl := dgs_cell [d] j u hj
    have e : (⟨g, 0, none⟩ : Addr).add j = ⟨g, j, none⟩ := by unfold Addr.add; split <;> simp_all
    rw [e, Lib.cell_of_heap hg]
    rw [← hj2, ← Array.getElem?_toList]
    rfl
  have hex : ∀ ty, ∃ v' w', (Builtin.append_ #[40, 40] ty #[v, .slice (some ⟨g, 0, none⟩) 1 1]).run Tryz.prog w = .ok v' w' ∧ w'.ownsRow B 75 3 v' (ds.length + 1) (dgsCells ds ++ dgsCells [d]) ∧ w.grownBy w' v.ownBlock := by
    intro ty
    obtain ⟨v', w', h1, h3, h4, _⟩ := run_append_own (P := Tryz.prog) w B 40 ty 75 i0 (.agg #[.string ⟨#[]⟩, .int .i64 0, .int .i64 0]) 3 32 Tryz.underlying40 hi hz hs hb rfl (by decide) v ds.length (dgsCells ds) hown ⟨g, 0, none⟩ 1 1 (dgsCells [d]) rfl hnews (dgs_one [d]) (by unfold maxLen; omega) (by omega) hB
    exact ⟨v', w', h1, h3, h4⟩
  obtain ⟨v', w', h1, h3, h4⟩ := hex 0
  refine ⟨v', w', fun ty => h1, ?_, h4⟩
  unfold OwnD
  rw [List.length_append, dgsCells_append]
  exact h3

theorem headR_len (r : Rp) : (headed 3 (respB r)).length = 10 + r.text.length + r.image.length + (r.diags.flatMap diagB).length := by
  unfold headed respB
  simp only [List.length_append, numB_len, textB_len]
  omega
theorem headQ_len (r : Rq) : (headed 2 (reqB r)).length = 4 + r.name.length + (tailB r).length := by
  unfold headed reqB
  simp only [List.length_append, numB_len, textB_len]
  omega
theorem headQ_inj {a b : Rq} (ha : rightP a = true) (hb : rightP b = true) : (headed 2 (reqB a) = headed 2 (reqB b)) ↔ a = b := by
  constructor
  · intro h
    have e1 := read_back ha []
    have e2 := read_back hb []
    rw [List.append_nil] at e1 e2
    rw [h] at e1
    have := e1.symm.trans e2
    exact congrArg (fun x => x.1) this
  · intro h; rw [h]
theorem headR_inj {a b : Rp} (ha : rpRight a = true) (hb : rpRight b = true) : (headed 3 (respB a) = headed 3 (respB b)) ↔ a = b := by
  constructor
  · intro h
    have e1 := resp_read ha []
    have e2 := resp_read hb []
    rw [List.append_nil] at e1 e2
    rw [h] at e1
    have := e1.symm.trans e2
    exact congrArg (fun x => x.1) this
  · intro h; rw [h]
end Go.Proofs.YtkaclahcpmogaaaGreatDoor
