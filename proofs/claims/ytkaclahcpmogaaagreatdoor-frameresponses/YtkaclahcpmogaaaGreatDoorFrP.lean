/- frame.right. -/
import Derived.Test.YtkaclahcpmogaaaGreatDoorFrM
import Derived.Test.YtkaclahcpmogaaaGreatDoorFrI
namespace Go.Proofs.YtkaclahcpmogaaaGreatDoor
open Go.ChangeShapes Go.WideShapes Go.ChangeAt Go.RowKit
set_option linter.unusedVariables false
set_option linter.unusedSimpArgs false

theorem rightErrno_any (n : Int) (w : World) : Calls Tryz.prog 51 #[.int .i64 n] w fun e w' => e = .returned (.bool (errOk n)) ∧ w' = w := by
  unfold errOk
  by_cases h : 0 ≤ n
  · rw [decide_eq_true h, Bool.true_and]
    go_enter Tryz.func51, Tryz.ntmps51
    go_wp2_with fail
    go_ret
    exact ⟨rfl, rfl⟩
  · rw [decide_eq_false h, Bool.false_and]
    go_enter Tryz.func51, Tryz.ntmps51
    go_wp2_with fail
    go_ret
    exact ⟨rfl, rfl⟩

theorem rightFrag_any (s : Bs) (hs : s.length ≤ 1000000) (w : World) (T : Tab w) : Calls Tryz.prog 73 #[.string (bs s)] w fun e w' => e = .returned (.bool (fragOk s)) ∧ Below w.heap.size w w' := by
  unfold fragOk
  by_cases h : s = []
  · have e1 : (bs s).toList.isEmpty = true := by rw [bs_empty]; exact decide_eq_true h
    have e2 : (bs s).toList = [] := by rw [ByteArray.toList_eq, bs_list]; exact h
    rw [decide_eq_true h, Bool.true_or]
    clear h
    go_enter Tryz.func73, Tryz.ntmps73
    go_wp2_with fail
    go_ret
    exact ⟨rfl, Below.refl _ _⟩
  · have e1 : (bs s).toList.isEmpty = false := by rw [bs_empty]; exact decide_eq_false h
    have R := right_gen ⟨4, s, [], 0⟩ hs (by simp) w T
    rw [decide_eq_false h, Bool.false_or]
    unfold rqVal at R
    simp only at R
    go_enter Tryz.func73, Tryz.ntmps73
    go_wp2_with fail
    refine R.mono ?_
    rintro e w1 ⟨rfl, hb⟩
    go_wp2_with fail
    go_ret
    exact ⟨rfl, hb⟩

set_option maxHeartbeats 1600000 in
theorem wrongDiag_any (d : Dg) (hd : d.frag.length ≤ 1000000) (w : World) (T : Tab w) : Calls Tryz.prog 53 #[dgVal d] w fun e w' => e = .returned (.bool (wrongP d)) ∧ Below w.heap.size w w' := by
  obtain ⟨f, ln, er⟩ := d
  simp only at hd
  have hb0 := below_new w (.cells #[.string (bs f), .int .i64 ln, .int .i64 er] 75)
  have F := rightFrag_any f hd _ (T.later hb0)
  have E := fun W => rightErrno_any er W
  unfold dgVal dgCells wrongP
  simp only
  generalize fragOk f = fo at *
  generalize errOk er = eo at *
  go_enter Tryz.func53, Tryz.ntmps53
  go_wp2_with fail
  refine F.mono ?_
  rintro e w1 ⟨rfl, hb⟩
  have hB := hb0.trans (hb.mono hb0.size)
  have c1 := kept_cell hb (new_cell (w := w) (t := 75) #[.string (bs f), .int .i64 ln, .int .i64 er] 1 _ rfl)
  have c2 := kept_cell hb (new_cell (w := w) (t := 75) #[.string (bs f), .int .i64 ln, .int .i64 er] 2 _ rfl)
  clear F hb0 hb
  cases fo with
  | false =>
    go_wp2_with fail
    go_ret
    exact ⟨rfl, hB⟩
  | true =>
    by_cases h0 : ln < 0
    · go_wp2_with fail
      go_ret
      exact ⟨by simp [h0], hB⟩
    · by_cases h5 : 5000 < ln
      · go_wp2_with fail
        go_ret
        exact ⟨by simp [h5], hB⟩
      · have b5 : decide (5000 < ln) = false := decide_eq_false h5
        go_wp2_with fail
        refine (E w1).mono ?_
        rintro e w2 ⟨rfl, rfl⟩
        go_wp2_with fail
        go_ret
        exact ⟨by rw [show decide (ln < 0) = false from decide_eq_false (by omega), b5]; rfl, hB⟩

def wrongF : Value := .func (.func 53) #[] #[]

set_option maxHeartbeats 1600000 in
theorem index_any (L : Nat) (dv : Value) (ds : List Dg) (w : World) (T : Tab w) (hD : DiagsAt L w dv ds) (hL : L ≤ w.heap.size) (hf : ∀ d ∈ ds, d.frag.length ≤ 1000000) (hn : ds.length ≤ 16777216) :
    Calls Tryz.prog 72 #[dv, wrongF] w fun e w' => (∃ z : Int, e = .returned (.int .i64 z) ∧ decide (0 ≤ z) = ds.any wrongP) ∧ Below w.heap.size w w' := by
  obtain ⟨p, cap, rfl, hc, hm, hnone, hcells⟩ := hD
  unfold wrongF
  go_enter Tryz.func72, Tryz.ntmps72
  go_wp2_with fail
  go_loopw [8] (fun i wr => ∃ j : Nat, j ≤ ds.length ∧ i = .int .i64 j ∧ Below w.heap.size w wr ∧ Hid (ds.any wrongP = (ds.drop j).any wrongP)) (fun i _ => ds.length - (intW i).toNat)
  case atStart => exact ⟨0, by omega, rfl, Below.refl _ _, rfl⟩
  case round =>
    obtain ⟨j, hj, rfl, hb, hH⟩ := hrel
    by_cases hjl : j < ds.length
    · obtain ⟨d, hdj⟩ : ∃ d, ds[j]? = some d := ⟨_, List.getElem?_eq_getElem hjl⟩
      have hdrop : ds.drop j = d :: ds.drop (j + 1) := by
        rw [List.drop_eq_getElem_cons hjl]
        congr 1
        rw [List.getElem?_eq_getElem hjl] at hdj
        exact Option.some.inj hdj
      have hH2 : Hid (ds.any wrongP = (wrongP d || (ds.drop (j + 1)).any wrongP)) := by
        have := hH.out
        rw [hdrop, List.any_cons] at this
        exact this
      obtain ⟨e0, e1, e2⟩ := dgs_get ds j d hdj
      have C := wrongDiag_any d (hf d (List.mem_of_getElem? hdj)) wr (T.later hb)
      have hjI : (j : Int) < (ds.length : Int) := by omega
      have hj0 : (0 : Int) ≤ (j : Int) := by omega
      cases p with
      | none => have := hnone rfl; omega
      | some a =>
        obtain ⟨g, o, rfl, hgL, hcl⟩ := hcells a rfl
        have hcb := fun i x h => (cell_of_block (a := ⟨g, o + i, none⟩) (hb.block g (by omega))).trans (hcl i x h)
        have c0 := hcb _ _ e0
        have c1 := hcb _ _ e1
        have c2 := hcb _ _ e2
        rw [← Nat.add_assoc] at c1 c2
        unfold dgVal dgCells at C
        clear hcl hcb hcells hH
        go_wp2_with fail
        refine C.mono ?_
        rintro e w2 ⟨rfl, hb2⟩
        have hB2 := hb.trans (hb2.mono hb.size)
        cases hw : wrongP d with
        | true =>
          go_wp2_with fail
          go_ret
          exact ⟨⟨j, rfl, by rw [hH2.out, hw]; simp⟩, hB2⟩
        | false =>
          have hH3 : Hid (ds.any wrongP = (ds.drop (j + 1)).any wrongP) := by
            have := hH2.out
            rw [hw, Bool.false_or] at this
            exact this
          go_wp2_with fail
          go_roundw
          case rel => exact ⟨j + 1, by omega, by go_num, hB2, hH3⟩
          case measure => simp [intW]; omega
    · have hjl' : j = ds.length := by omega
      subst hjl'
      have h0 : ds.any wrongP = false := by have := hH.out; rw [List.drop_length] at this; exact this
      have hjI : ¬ (ds.length : Int) < (ds.length : Int) := by omega
      go_wp2_with fail
      go_ret
      exact ⟨⟨-1, rfl, by simp [h0]⟩, hb⟩

theorem contains_any (L : Nat) (dv : Value) (ds : List Dg) (w : World) (T : Tab w) (hD : DiagsAt L w dv ds) (hL : L ≤ w.heap.size) (hf : ∀ d ∈ ds, d.frag.length ≤ 1000000) (hn : ds.length ≤ 16777216) :
    Calls Tryz.prog 52 #[dv, wrongF] w fun e w' => e = .returned (.bool (ds.any wrongP)) ∧ Below w.heap.size w w' := by
  have C := index_any L dv ds w T hD hL hf hn
  obtain ⟨p, cap, rfl, _⟩ := hD
  unfold wrongF at *
  go_enter Tryz.func52, Tryz.ntmps52
  go_wp2_with fail
  refine C.mono ?_
  rintro e w1 ⟨⟨z, rfl, hz⟩, hb⟩
  go_wp2_with fail
  go_ret
  exact ⟨by rw [← hz]; rfl, hb⟩

set_option maxHeartbeats 3200000 in
theorem rpRight_any (L : Nat) (r : Rp) (iv dv : Value) (w : World) (T : Tab w) (hI : BytesAt L w iv r.image) (hD : DiagsAt L w dv r.diags) (hL : L ≤ w.heap.size) (hf : ∀ d ∈ r.diags, d.frag.length ≤ 1000000) (hn : r.diags.length ≤ 16777216) (ht : r.text.length ≤ 100000000) (hi : r.image.length ≤ 100000000) :
    Calls Tryz.prog 36 #[.agg #[.int .i64 r.e, .string (bs r.text), iv, dv]] w fun e w' => e = .returned (.bool (rpRight r)) ∧ Below w.heap.size w w' := by
  obtain ⟨er, t, im, ds⟩ := r
  simp only at *
  have hsz := bs_size t
  have hb0 := below_new w (.cells #[.int .i64 er, .string (bs t), iv, dv] 42)
  have E := fun W => rightErrno_any er W
  have C := contains_any L dv ds _ (T.later hb0) (hD.later (hb0.mono hL)) (by simp; omega) hf hn
  obtain ⟨ip, ic, rfl, _⟩ := hI
  obtain ⟨dp, dc, rfl, _⟩ := hD
  unfold rpRight wrongF at *
  simp only
  generalize errOk er = eo at *
  generalize ds.any wrongP = wo at *
  have d1 : decide (t.length ≤ 600) = decide ((t.length : Int) ≤ 600) := by rw [decide_eq_decide]; omega
  have d2 : decide (im.length ≤ 4096) = decide ((im.length : Int) ≤ 4096) := by rw [decide_eq_decide]; omega
  have d3 : decide (ds.length ≤ 5000) = decide ((ds.length : Int) ≤ 5000) := by rw [decide_eq_decide]; omega
  rw [d1, d2, d3]
  clear d1 d2 d3
  cases eo with
  | false =>
    go_enter Tryz.func36, Tryz.ntmps36
    go_wp2_with fail
    refine (E _).mono ?_
    rintro e w2 ⟨rfl, rfl⟩
    go_wp2_with fail
    go_ret
    exact ⟨by simp, hb0⟩
  | true =>
    rw [Bool.true_and]
    by_cases h1 : (t.length : Int) ≤ 600
    · rw [decide_eq_true h1, Bool.true_and]
      by_cases h2 : (im.length : Int) ≤ 4096
      · rw [decide_eq_true h2, Bool.true_and]
        by_cases h3 : (ds.length : Int) ≤ 5000
        · rw [decide_eq_true h3, Bool.true_and]
          go_enter Tryz.func36, Tryz.ntmps36
          go_wp2_with fail
          refine (E _).mono ?_
          rintro e w2 ⟨rfl, rfl⟩
          go_wp2_with fail
          refine C.mono ?_
          rintro e w3 ⟨rfl, hb⟩
          have hB := hb0.trans (hb.mono hb0.size)
          go_wp2_with fail
          go_ret
          exact ⟨rfl, hB⟩
        · rw [decide_eq_false h3, Bool.false_and]
          go_enter Tryz.func36, Tryz.ntmps36
          go_wp2_with fail
          refine (E _).mono ?_
          rintro e w2 ⟨rfl, rfl⟩
          go_wp2_with fail
          go_ret
          exact ⟨by simp, hb0⟩
      · rw [decide_eq_false h2, Bool.false_and]
        go_enter Tryz.func36, Tryz.ntmps36
        go_wp2_with fail
        refine (E _).mono ?_
        rintro e w2 ⟨rfl, rfl⟩
        go_wp2_with fail
        go_ret
        exact ⟨by simp, hb0⟩
    · rw [decide_eq_false h1, Bool.false_and]
      go_enter Tryz.func36, Tryz.ntmps36
      go_wp2_with fail
      refine (E _).mono ?_
      rintro e w2 ⟨rfl, rfl⟩
      go_wp2_with fail
      go_ret
      exact ⟨by simp, hb0⟩
end Go.Proofs.YtkaclahcpmogaaaGreatDoor
