/- The reference's Parse tells what parseP tells. -/
import Derived.Test.YtopfnfmglnjljaaGreatDoorRefOne2
import Derived.Test.YtopfnfmglnjljaaGreatDoorParse
namespace Go.Proofs.YtopfnfmglnjljaaGreatDoor.Rf
open Go.Proofs.YtopfnfmglnjljaaGreatDoor
open Go.ChangeShapes Go.WideShapes Go.ChangeAt Go.RowKit
set_option linter.unusedVariables false
set_option linter.unusedSimpArgs false

theorem numGo_le (base : Nat) : ∀ (s : Bs) (n m : Nat) (s' : Bs), rnumGo base n s = some (m, s') → s'.length ≤ s.length
  | [], n, m, s', h => by simp [rnumGo] at h; rw [← h.2]; simp
  | c :: t, n, m, s', h => by
    unfold rnumGo at h
    split at h
    · simp at h; rw [← h.2]; simp
    · split at h
      · cases h
      · have := numGo_le base t _ m s' h; simp; omega
theorem num_le (base : Nat) (s : Bs) (x : Ex) (s' : Bs) (h : asNum (rnumP base s) = some (x, s')) : s'.length ≤ s.length := by
  unfold asNum rnumP at h
  cases s with
  | nil => simp at h
  | cons c t =>
    simp only at h
    split at h
    · simp at h
    · simp only [Option.map_eq_some_iff] at h
      obtain ⟨⟨m, s2⟩, h1, h2⟩ := h
      cases h2
      exact numGo_le base _ _ _ _ h1

theorem leaf_le : Shrinks rleafP := by
  intro s x s' h
  have l := tookP_le s [48, 120]
  unfold rleafP at h
  split at h
  · have := num_le _ _ _ _ h; omega
  · split at h
    · have := num_le _ _ _ _ h; omega
    · split at h
      · simp at h
        rw [← h.2]
        have : ((tookP s [48, 120]).1.dropWhile runB).length ≤ (tookP s [48, 120]).1.length := List.Sublist.length_le (List.dropWhile_sublist _)
        omega
      · cases h

theorem oneG_le {PB PN : Rd} (hB : Shrinks PB) (hN : Shrinks PN) : Shrinks (oneG PB PN) := by
  intro s x s' h
  have l1 := tookP_le s [40]
  have l2 := tookP_le (tookP s [40]).1 [45]
  have l3 := tookP_le (tookP (tookP s [40]).1 [45]).1 [46]
  unfold oneG at h
  split at h
  · have := hB _ _ _ h; omega
  · unfold oneG2 at h
    split at h
    · have := hN _ _ _ h; omega
    · unfold oneG3 at h
      split at h
      · simp at h; rw [← h.2]; omega
      · have := leaf_le _ _ _ h; omega

theorem brP_le {P : Rd} (h : Shrinks P) : Shrinks (brP P) := by
  intro s x s' e
  unfold brP at e
  split at e
  · cases e
  · rename_i y s1 hp
    have l1 := h _ _ _ hp
    have l2 := tookP_le s1 [41]
    split at e
    · simp at e; rw [← e.2]; omega
    · cases e
theorem neg_le {P : Rd} (h : Shrinks P) : Shrinks (fun s => (P s).map fun r => (.neg r.1, r.2)) := by
  intro s x s' e
  simp only [Option.map_eq_some_iff] at e
  obtain ⟨⟨y, s1⟩, h1, h2⟩ := e
  cases h2
  exact h _ _ _ h1
theorem none_le : Shrinks (fun _ => none) := fun _ _ _ e => by cases e

theorem single_zero : rsingleP 0 = oneG (fun _ => none) (fun _ => none) := by
  funext s; unfold rsingleP oneG oneG2 oneG3; rfl
theorem single_succ (n : Nat) : rsingleP (n + 1) = oneG (brP (orsP (rsingleP n))) (fun s => (rsingleP n s).map fun r => (.neg r.1, r.2)) := by
  funext s; unfold oneG oneG2 oneG3 brP; rw [rsingleP]; cases orsP (rsingleP n) (tookP s [40]).1 <;> rfl

theorem ors_le {P : Rd} (h : Shrinks P) : Shrinks (orsP P) := rowP_shrinks (rowP_shrinks (rowP_shrinks (rowP_shrinks (rowP_shrinks h [7]) [5, 6]) [10, 11]) [8]) [9]

theorem two_all (S : Bs) (hl : S.length ≤ 35184372088832) (b d : Nat) (P : Rd) (hp : OneOk S b d P) (hs : Shrinks P) : TwoOk S b d 0 (orsP P) := by
  have t5 := two_leaf S b d P hp
  have t4 := two_row S hl b d 4 (by omega) P t5 hs
  have s4 := rowP_shrinks hs [7]
  have t3 := two_row S hl b d 3 (by omega) _ t4 s4
  have s3 := rowP_shrinks s4 [5, 6]
  have t2 := two_row S hl b d 2 (by omega) _ t3 s3
  have s2 := rowP_shrinks s3 [10, 11]
  have t1 := two_row S hl b d 1 (by omega) _ t2 s2
  have s1 := rowP_shrinks s2 [8]
  exact two_row S hl b d 0 (by omega) _ t1 s1

theorem one_all (S : Bs) (hl : S.length ≤ 35184372088832) (b : Nat) : ∀ (n d : Nat), d + n = 12 → OneOk S b d (rsingleP n) ∧ Shrinks (rsingleP n)
  | 0, d, h => by
    obtain rfl : d = 12 := by omega
    rw [single_zero]
    exact ⟨one_ok S hl b 12 _ _ (inner_deep S b true) (inner_deep S b false), oneG_le none_le none_le⟩
  | n + 1, d, h => by
    obtain ⟨h1, h2⟩ := one_all S hl b n (d + 1) (by omega)
    rw [single_succ]
    exact ⟨one_ok S hl b d _ _ (inner_br S hl b d (by omega) _ (two_all S hl b (d + 1) _ h1 h2)) (inner_neg S b d (by omega) _ h1), oneG_le (brP_le (ors_le h2)) (neg_le h2)⟩

set_option maxHeartbeats 4000000 in
set_option maxRecDepth 20000 in
theorem rparse_any (s : Bs) (hl : s.length ≤ 35184372088832) (w : World) :
    Calls Tryz.prog 18 #[.string (bs s)] w fun e w' => Below w.heap.size w w' ∧ Parsed w.heap.size w' e (parseP s) := by
  obtain ⟨out, hout⟩ : ∃ out, out = parseP s := ⟨_, rfl⟩
  rw [← hout]
  have HO : Hid (out = rparseP s) := hout.trans (parse_like s).symm
  clear hout
  have n0 := below_new w (.cells #[.int .i64 0, .int .i64 0, .string ⟨#[]⟩, .slice none 0 0] 27)
  have n1 := below_new (w.alloc (.cells #[.int .i64 0, .int .i64 0, .string ⟨#[]⟩, .slice none 0 0] 27)) (.cells #[.string (bs s), .int .i64 0, .int .i64 0, .bool false] 77)
  have R1 := (Blk.new w 27 (.int .i64 0) (.int .i64 0) (.string ⟨#[]⟩) (.slice none 0 0)).later n1
  have hR : RR ((w.alloc (.cells #[.int .i64 0, .int .i64 0, .string ⟨#[]⟩, .slice none 0 0] 27)).alloc (.cells #[.string (bs s), .int .i64 0, .int .i64 0, .bool false] 77)) (w.heap.size + 1) s 0 0 false := by
    constructor <;> simp
  have hz : ((w.alloc (.cells #[.int .i64 0, .int .i64 0, .string ⟨#[]⟩, .slice none 0 0] 27)).alloc (.cells #[.string (bs s), .int .i64 0, .int .i64 0, .bool false] 77)).heap.size = w.heap.size + 2 := by simp
  have hb1 := n0.trans (n1.mono n0.size)
  obtain ⟨o1, o2⟩ := one_all s hl (w.heap.size + 1) 12 0 rfl
  have C : Calls Tryz.prog 35 #[.pointer (some ⟨w.heap.size + 1, 0, none⟩), .int .i64 0] _ _ := two_all s hl (w.heap.size + 1) 0 _ o1 o2 _ 0 hR
  rw [List.drop_zero] at C
  have hsz := bs_size s
  go_enter Tryz.func18, Tryz.ntmps18
  go_wp2_with fail
  generalize ((w.alloc (.cells #[.int .i64 0, .int .i64 0, .string ⟨#[]⟩, .slice none 0 0] 27)).alloc (.cells #[.string (bs s), .int .i64 0, .int .i64 0, .bool false] 77)) = W1 at *
  clear n0 n1 hR o1 o2
  refine C.mono ?_
  rintro e w2 ⟨hb2, hE⟩
  obtain ⟨k, j, t, q, l, c, rfl⟩ := hE.form
  have R2 := R1.beside hb2 (by omega)
  have nx := below_new w2 (.cells #[.int .i64 k, .int .i64 j, .string t, .slice q l c] 27)
  have X2 := Blk.new w2 27 (.int .i64 k) (.int .i64 j) (.string t) (.slice q l c)
  have hz2 : w.heap.size + 2 ≤ w2.heap.size := by have := hb2.size; omega
  have R3 := R2.later nx
  have hB3 : Below w.heap.size w (w2.alloc (.cells #[.int .i64 k, .int .i64 j, .string t, .slice q l c] 27)) := (hb1.trans (hb2.below.mono (by omega))).trans (nx.mono (by omega))
  obtain ⟨res, hres⟩ : ∃ res, res = orsP (rsingleP 12) s := ⟨_, rfl⟩
  rw [← hres] at hE
  have HR : Hid (res = orsP (rsingleP 12) s) := hres
  clear hres C R1 R2 hb1
  obtain ⟨bad, p4, hbad, hR⟩ : ∃ (bad : Bool) (p4 : Nat), (bad = res.isNone) ∧ RR w2 (w.heap.size + 1) s p4 0 bad := by
    cases res with
    | none => obtain ⟨_, p4, _, _, hR⟩ := hE; exact ⟨true, p4, rfl, hR⟩
    | some r => obtain ⟨x, s⟩ := r; obtain ⟨_, p4, _, _, hR, _⟩ := hE; exact ⟨false, p4, rfl, hR⟩
  have HT : Hid (∀ x s1, res = some (x, s1) → s1 = s.drop p4 ∧ ExAt (W1.heap.size ≤ ·) (w2.alloc (.cells #[.int .i64 k, .int .i64 j, .string t, .slice q l c] 27)) (.agg #[.int .i64 k, .int .i64 j, .string t, .slice q l c]) x) := fun x s1 e => by
    rw [e] at hE
    obtain ⟨_, p6, e', hx, hR6, hq6⟩ := hE
    cases e'
    obtain rfl := RR.same hR6 hR
    exact ⟨hq6.symm, hx.below nx⟩
  have PA := past_any (w.heap.size + 1) s hl p4 0 bad _ (hR.later nx)
  clear hE hR
  clear hl
  go_wp2_with fail
  generalize (w2.alloc (.cells #[.int .i64 k, .int .i64 j, .string t, .slice q l c] 27)) = W3 at *
  refine PA.mono ?_
  rintro e w4 ⟨rfl, hb4, p5, hR4, hq5⟩
  have R4 := R3.beside hb4 (by omega)
  have X4 := X2.beside hb4 (by omega)
  have hB4 := hB3.trans (hb4.below.mono (by omega))
  obtain ⟨x0, x1, x2, x3, _, _, _, _⟩ := id X4
  obtain ⟨r0, r1, r2, r3, k0, k1, k2, k3⟩ := id R4
  have hlR := R4.lt
  obtain ⟨c0, c1, c2, c3, f0, f1, f2, f3, le⟩ := id hR4
  have hW1 : W1.heap.size = w.heap.size + 2 := hz
  clear PA R3 X2 hB3 hz hsz
  have Pz := (R4.put (.int .i64 0) (.int .i64 0) (.string ⟨#[]⟩) (.slice none 0 0))
  have Pk := (R4.put (.int .i64 k) (.int .i64 j) (.string t) (.slice q l c))
  have hBz := below_put hB4 (k := w.heap.size) (Nat.le_refl _) (.int .i64 0) (.int .i64 0) (.string ⟨#[]⟩) (.slice none 0 0)
  have hBk := below_put hB4 (k := w.heap.size) (Nat.le_refl _) (.int .i64 k) (.int .i64 j) (.string t) (.slice q l c)
  cases bad with
  | true =>
    have E : Hid (out = none) := by
      rw [Hid, HO.out]
      unfold rparseP
      rw [← HR.out]
      cases res with
      | none => rfl
      | some r => cases hbad
    clear HO HR HT hbad
    go_wp2_with fail
    obtain ⟨y0, y1, y2, y3, _, _, _, _⟩ := Pz
    unfold put4 at y0 y1 y2 y3
    refine bodyPost_ret (v := .tuple #[.agg #[.int .i64 0, .int .i64 0, .string ⟨#[]⟩, .slice none 0 0], .bool false]) (by simp [results, Tryz.results18, go_sem, y0, y1, y2, y3]) rfl ⟨hBz, ?_⟩
    rw [E.out]
    rfl
  | false =>
    obtain ⟨x, s1, rfl⟩ : ∃ x s1, res = some (x, s1) := by
      cases res with
      | none => cases hbad
      | some r => exact ⟨r.1, r.2, rfl⟩
    clear hbad
    obtain ⟨e1, hx⟩ := HT.out x s1 rfl
    have hx4 := hx.beside hb4 (fun i hi => by omega)
    by_cases hpn : p5 < s.length
    · have hI : (p5 : Int) < (s.length : Int) := by omega
      have E : Hid (out = none) := by
        rw [Hid, HO.out]
        unfold rparseP
        rw [← HR.out]
        simp only
        rw [e1, ← hq5, if_neg]
        simp
        omega
      clear HO HR HT e1 hq5 hx
      go_wp2_with fail
      obtain ⟨y0, y1, y2, y3, _, _, _, _⟩ := Pz
      unfold put4 at y0 y1 y2 y3
      refine bodyPost_ret (v := .tuple #[.agg #[.int .i64 0, .int .i64 0, .string ⟨#[]⟩, .slice none 0 0], .bool false]) (by simp [results, Tryz.results18, go_sem, y0, y1, y2, y3]) rfl ⟨hBz, ?_⟩
      rw [E.out]
      rfl
    · have hI : ¬ (p5 : Int) < (s.length : Int) := by omega
      have E : Hid (out = some x) := by
        rw [Hid, HO.out]
        unfold rparseP
        rw [← HR.out]
        simp only
        rw [e1, ← hq5, if_pos]
        simp
        omega
      clear HO HR HT e1 hq5 hx
      go_wp2_with fail
      obtain ⟨y0, y1, y2, y3, _, _, _, _⟩ := Pk
      unfold put4 at y0 y1 y2 y3
      refine bodyPost_ret (v := .tuple #[.agg #[.int .i64 k, .int .i64 j, .string t, .slice q l c], .bool true]) (by simp [results, Tryz.results18, go_sem, y0, y1, y2, y3]) rfl ⟨hBk, ?_⟩
      rw [E.out]
      exact ⟨_, rfl, (hx4.put w.heap.size (.int .i64 k) (.int .i64 j) (.string t) (.slice q l c) (fun i hi => by omega)).imp fun i hi _ => by omega⟩
end Go.Proofs.YtopfnfmglnjljaaGreatDoor.Rf
