/- The form of a response, by the reader. -/
import Derived.Test.YtkaclahcpmogaaaGreatDoorFrN
import Derived.Test.YtkaclahcpmogaaaGreatDoorFrJ
namespace Go.Proofs.YtkaclahcpmogaaaGreatDoor
open Go.ChangeShapes Go.WideShapes Go.ChangeAt Go.RowKit
set_option linter.unusedVariables false
set_option linter.unusedSimpArgs false

/-- What holds between the form's steps, where it is read. -/
structure MidQ (x k b : Nat) (w0 : World) (e : Int) (t : Bs) (iv dv : Value) (s : Rs) (w : World) : Prop where
  rp : w.heap[x]? = some (.cells #[.int .i64 e, .string (bs t), iv, dv] 77 (0, 0))
  rd : Rdf x k w s
  way : WayAtR b w k
  bel : Below x w0 w

theorem MidQ.step {x k b : Nat} {w0 : World} {e : Int} {t : Bs} {iv dv : Value} {s s' : Rs} {w w' : World} (h : MidQ x k b w0 e t iv dv s w) (hx : x < k) (hbk : b ≠ k) (hR : Rdf x k w' s') (S : But (fun i => i = k) w w') : MidQ x k b w0 e t iv dv s' w' :=
  have lt : ∀ {j o}, w.heap[j]? = some o → j < w.heap.size := fun h => (Array.getElem?_eq_some_iff.1 h).1
  ⟨(S.block _ (lt h.rp) (by omega)).trans h.rp, hR, (S.block _ (lt h.way) hbk).trans h.way, h.bel.trans ⟨S.os, S.tape, S.output, S.size, fun i hi => S.block i (by have := lt h.rp; omega) (by omega)⟩⟩
theorem MidQ.set {x k b : Nat} {w0 : World} {e e' : Int} {t t' : Bs} {iv dv iv' dv' : Value} {s : Rs} {w : World} (h : MidQ x k b w0 e t iv dv s w) (hx : x < k) (hb : x < b) (i : Nat) (u : Value) (hr : #[.int .i64 e, .string (bs t), iv, dv].setIfInBounds i u = #[.int .i64 e', .string (bs t'), iv', dv']) : MidQ x k b w0 e' t' iv' dv' s (w.setCell ⟨x, i, none⟩ u) :=
  ⟨by rw [← hr]; exact set_at h.rp i u, h.rd.later ((Below.refl _ _).setCell (p := ⟨x, i, none⟩) (Nat.le_refl _) u) (Below.heap_setCell _ _ _ _ (by simp only; omega)), (Below.heap_setCell _ _ _ _ (by simp only; omega)).trans h.way, h.bel.setCell (p := ⟨x, i, none⟩) (Nat.le_refl _) u⟩
theorem MidQ.drew {x k b : Nat} {w0 : World} {e : Int} {t : Bs} {iv dv : Value} {s : Rs} {w : World} (h : MidQ x k b w0 e t iv dv s w) : MidQ x k b w0 e t iv dv s w.drew :=
  ⟨h.rp, h.rd.later ⟨rfl, rfl, rfl, Nat.le_refl _, fun _ _ => rfl⟩ rfl, h.way, ⟨h.bel.os, h.bel.tape, h.bel.output, h.bel.size, h.bel.block⟩⟩
theorem MidQ.later {x k b : Nat} {w0 : World} {e : Int} {t : Bs} {iv dv : Value} {s : Rs} {w w' : World} (h : MidQ x k b w0 e t iv dv s w) (hb : Below w.heap.size w w') : MidQ x k b w0 e t iv dv s w' :=
  have lt : ∀ {j o}, w.heap[j]? = some o → j < w.heap.size := fun h => (Array.getElem?_eq_some_iff.1 h).1
  ⟨(hb.block _ (lt h.rp)).trans h.rp, h.rd.later (hb.mono (by have := lt h.rp; omega)) (hb.block _ h.rd.lt), (hb.block _ (lt h.way)).trans h.way, h.bel.trans (hb.mono (by have := lt h.rp; omega))⟩
theorem MidQ.setG {x k b g : Nat} {w0 : World} {e : Int} {t : Bs} {iv dv : Value} {s : Rs} {w : World} (h : MidQ x k b w0 e t iv dv s w) (hgk : k < g) (hgb : g ≠ b) (hx : x < k) (i : Nat) (u : Value) : MidQ x k b w0 e t iv dv s (w.setCell ⟨g, i, none⟩ u) :=
  ⟨(Below.heap_setCell _ _ _ _ (by simp only; omega)).trans h.rp, h.rd.setNew _ _ hgk u, (Below.heap_setCell _ _ _ _ (by simp only; omega)).trans h.way, h.bel.setCell (p := ⟨g, i, none⟩) (by simp only; omega) u⟩

/-- A response at x, its lists in blocks at or behind N. -/
def RpAt (T : TypeId) (x N : Nat) (w : World) (r : Rp) : Prop :=
  ∃ iv dv, w.heap[x]? = some (.cells #[.int .i64 r.e, .string (bs r.text), iv, dv] T (0, 0)) ∧ BytesAt w.heap.size w iv r.image ∧ DiagsAt w.heap.size w dv r.diags ∧ (∀ g, iv.ownBlock = some g → N ≤ g) ∧ (∀ g, dv.ownBlock = some g → N ≤ g)

theorem bytesWorld_bytes (W0 : World) (s : Bs) (hs : s.length ≤ 100000000) (W : World) (L : Nat) (hW : W.heap[W0.heap.size]? = (Lib.bytesWorld W0 5 (bs s)).heap[W0.heap.size]?) (hL : W0.heap.size < L) : BytesAt L W (.slice (some ⟨W0.heap.size, 0, none⟩) s.length (grownCap W0 s.length 0 5)) s := by
  refine ⟨_, _, rfl, grownCap_ge _ _ _ _, grownCap_le_maxLen _ _ _ _ (by unfold maxLen; omega), (fun h => by cases h), fun a ha => ?_⟩
  cases ha
  refine ⟨_, 0, rfl, hL, fun i c hi => ?_⟩
  have hil := (List.getElem?_eq_some_iff.1 hi).1
  rw [cell_of_block hW, Nat.zero_add, Lib.bytesWorld_cell W0 5 (bs s) i (by rw [bs_size]; exact hil), bs_list]
  rw [List.getD_eq_getElem?_getD, hi]
  rfl

/-- These bytes, in block gi, which holds o. -/
def ImgAt (k gi : Nat) (o : Obj) (iv : Value) (im : Bs) : Prop := k < gi ∧ iv.ownBlock = some gi ∧ ∀ W L, W.heap[gi]? = some o → gi < L → BytesAt L W iv im

theorem diags_row {w : World} {g n : Nat} {ds : List Dg} (hg : w.heap[g]? = some (.cells (dgsCells ds).toArray 75 (0, 0))) (hn : ds.length = n) (hm : n ≤ 16777216) (L : Nat) (hL : g < L) : DiagsAt L w (.slice (some ⟨g, 0, none⟩) n n) ds := by
  subst hn
  refine ⟨_, _, rfl, Nat.le_refl _, by unfold maxLen; omega, (fun h => by cases h), fun a ha => ?_⟩
  cases ha
  refine ⟨g, 0, rfl, hL, fun i x hi => ?_⟩
  rw [Nat.zero_add]
  exact cell_at hg i x (by simpa using hi)

theorem set_done (done : List Dg) (j m : Nat) (d : Dg) (hd : done.length = j) : (done ++ zeroD (m + 1)).set j d = (done ++ [d]) ++ zeroD m := by
  subst hd
  unfold zeroD
  rw [List.replicate_succ, List.set_append]
  simp

set_option maxHeartbeats 6400000 in
set_option maxRecDepth 20000 in
theorem rformP_any (x k : Nat) (s : Rs) (w : World) (hx : x < k) (X : w.heap[x]? = some (.cells #[.int .i64 0, .string (bs []), .slice none 0 0, .slice none 0 0] 77 (0, 0))) (h : Rdf x k w s) (hsl : s.left.length ≤ 100000000) :
    Calls Tryz.prog 37 #[.pointer (some ⟨x, 0, none⟩), wayR k] w fun e w' => e = .returned (.tuple #[]) ∧ RpAt 77 x k w' (respR s).1 ∧ Rdf x k w' (respR s).2 ∧ Below x w w' := by
  have hklt := h.lt
  have hbk : w.heap.size ≠ k := by omega
  have hBb : x < w.heap.size := by omega
  have hkb : k < w.heap.size := by omega
  have M : MidQ x k w.heap.size w 0 [] (.slice none 0 0) (.slice none 0 0) s (w.alloc (.cells #[bndV 48 k, bndV 69 k, bndV 70 k] 90)) :=
    ⟨(Below.heap_alloc _ _ _ (by omega)).trans X, h.later ((below_new w _).mono (by omega)) (Below.heap_alloc _ _ _ (by omega)), heap_alloc_new w _, (below_new w _).mono (by omega)⟩
  unfold wayR
  obtain ⟨R, hR⟩ : ∃ R, respR s = R := ⟨_, rfl⟩
  rw [hR]
  have hle1 : (numP 1 s).2.left.length ≤ s.left.length := (takeP_le 1 s).2
  have hle2 := textR_le 2 (numP 1 s).2
  have hle3 := textR_le 2 (textR 2 (numP 1 s).2).2
  unfold respR at hR
  obtain ⟨⟨er, s1⟩, hK⟩ : ∃ K, numP 1 s = K := ⟨_, rfl⟩
  rw [hK] at hR hle1 hle2 hle3
  simp only at hR hle1 hle2 hle3
  obtain ⟨⟨t, s2⟩, hT⟩ : ∃ K, textR 2 s1 = K := ⟨_, rfl⟩
  rw [hT] at hR hle2 hle3
  simp only at hR hle2 hle3
  obtain ⟨⟨im, s3⟩, hI⟩ : ∃ K, textR 2 s2 = K := ⟨_, rfl⟩
  rw [hI] at hR hle3
  simp only at hR hle3
  obtain ⟨⟨nI, s4⟩, hN⟩ : ∃ K, countP 2 s3 = K := ⟨_, rfl⟩
  have hnb : 0 ≤ nI ∧ nI < 16777216 := by
    have h1 := numP_bound 2 s3 (by omega)
    unfold countP at hN
    split at hN
    · cases hN; omega
    · have e : (numP 2 s3).1 = nI := by rw [hN]
      rw [← e]; exact h1
  rw [hN] at hR
  simp only at hR
  obtain ⟨n, rfl⟩ : ∃ n : Nat, nI = n := ⟨nI.toNat, by omega⟩
  simp only [Int.toNat_natCast] at hR
  have hn5 : n ≤ 16777216 := by omega
  have hil : im.length ≤ 100000000 := by omega
  replace hR : Hid _ := hR
  clear hle1 hle2 hle3 hnb hsl
  go_enter Tryz.func37, Tryz.ntmps37
  go_upto_region 1 with fail
  generalize hz : w.heap.size = b at *
  generalize w.alloc (.cells #[bndV 48 k, bndV 69 k, bndV 70 k] 90) = w1 at *
  clear h X hz hklt
  go_cut [] from 7 to 15 (fun wx => MidQ x k b w er [] (.slice none 0 0) (.slice none 0 0) s1 wx)
  case first =>
    have a0 := cell_at M.drew.rp 0 _ rfl
    have p0 := cell_at M.drew.way 0 _ rfl
    have p1 := cell_at M.drew.way 1 _ rfl
    have p2 := cell_at M.drew.way 2 _ rfl
    have W := rerrno_any x k 0 s w1.drew M.drew.rd
    rw [hK] at W
    go_region_with (go_at_call 54; refine W.mono ?_; rintro e w2 ⟨rfl, hW2, S2⟩; have M2 := M.drew.step hx hbk hW2 S2; have d0 := cell_at M2.rp 0 _ rfl; have g0 := froz_at M2.rp 0)
    all_goals
      have M3 := M2.set hx hBb 0 (.int .i64 er) rfl
      clear M M2 hW2 S2 W
      go_wp2_with fail
      go_meet
      exact M3
  case rest =>
  have M := hcut
  clear hcut
  go_upto_region 2 with fail
  go_cut [] from 16 to 25 (fun wx => MidQ x k b w er t (.slice none 0 0) (.slice none 0 0) s2 wx)
  case first =>
    have a1 := cell_at M.drew.rp 1 _ rfl
    have p2 := M.drew.way.c2
    have W := rtext_any x k 2 (bs []) s1 wc.drew M.drew.rd (by omega)
    rw [hT] at W
    go_region_with (go_at_call 70; refine W.mono ?_; rintro e w2 ⟨rfl, hW2, hj2⟩; have M2 := M.drew.step hx hbk hW2 hj2.but; have d0 := cell_at M2.rp 1 _ rfl; have g0 := froz_at M2.rp 1)
    all_goals
      have M3 := M2.set hx hBb 1 (.string (bs t)) rfl
      clear M M2 hW2 hj2 W
      go_wp2_with fail
      go_meet
      exact M3
  case rest =>
  have M := hcut
  clear hcut
  go_upto_region 3 with fail
  go_cut [] from 26 to 37 (fun wx => ∃ gi o iv, ImgAt k gi o iv im ∧ wx.heap[gi]? = some o ∧ MidQ x k b w er t iv (.slice none 0 0) s3 wx)
  case first =>
    have a1 := cell_at M.drew.rp 2 _ rfl
    have p2 := M.drew.way.c2
    have S1 := str_of_bytes (bytesAt_none x wc.drew)
    have S2 := str_to_bytes im
    have W := rtext_any x k 2 (bs []) s2 wc.drew M.drew.rd (by omega)
    rw [hI] at W
    go_region_with (go_at_call 70; refine W.mono ?_; rintro e w2 ⟨rfl, hW2, hj2⟩; have M2 := (M.drew.step hx hbk hW2 hj2.but); have hk2 := M2.rd.lt; have M2 := M2.later (bytesWorld_below w2 (bs im)); have d0 := cell_at M2.rp 2 _ rfl; have g0 := froz_at M2.rp 2)
    all_goals
      have hx2 : x < w2.heap.size := by omega
      have M3 := M2.set hx hBb 2 (.slice (some ⟨w2.heap.size, 0, none⟩) im.length (grownCap w2 im.length 0 5)) rfl
      obtain ⟨o, ho⟩ : ∃ o, (Lib.bytesWorld w2 5 (bs im)).heap[w2.heap.size]? = some o := ⟨_, Lib.bytesWorld_at_new w2 5 (bs im)⟩
      have hIm : ImgAt k w2.heap.size o (.slice (some ⟨w2.heap.size, 0, none⟩) im.length (grownCap w2 im.length 0 5)) im := ⟨hk2, rfl, fun W L hW hL => bytesWorld_bytes w2 im hil W L (hW.trans ho.symm) hL⟩
      have ho2 : ((Lib.bytesWorld w2 5 (bs im)).setCell ⟨x, 2, none⟩ (.slice (some ⟨w2.heap.size, 0, none⟩) im.length (grownCap w2 im.length 0 5))).heap[w2.heap.size]? = some o := (Below.heap_setCell _ _ _ _ (by simp only; omega)).trans ho
      clear M M2 hW2 hj2 W
      go_wp2_with fail
      go_meet
      exact ⟨_, o, _, hIm, ho2, M3⟩
  case rest =>
  obtain ⟨gi, o, iv, hIm, ho, M⟩ := hcut
  have hgi := (Array.getElem?_eq_some_iff.1 ho).1
  go_upto_region 4 with fail
  go_cut [4] from 38 to 46 (fun v4 wx => ∃ g, v4 = .slice (some ⟨g, 0, none⟩) n n ∧ wx.heap[g]? = some (.cells (dgsCells (zeroD n)).toArray 75 (0, 0)) ∧ k < g ∧ g ≠ gi ∧ wx.heap[gi]? = some o ∧ MidQ x k b w er t iv (.slice none 0 0) s4 wx)
  case first =>
    have a3 := cell_at M.drew.rp 3 _ rfl
    have p1 : wc.drew.cell? ⟨b, 1, none⟩ = some (.func (.func 69) #[.pointer (some ⟨k, 0, none⟩)] #[]) := cell_at M.drew.way 1 _ rfl
    have hmk := run_make_diag n hn5
    have W := rcount_any x k 2 0 s3 wc.drew M.drew.rd (by omega)
    rw [hN] at W
    go_region_with (go_at_call 69; refine W.mono ?_; rintro e w2 ⟨rfl, hW2, hj2⟩)
    all_goals
      have M2 := M.drew.step hx hbk hW2 hj2.but
      have hk2 := M2.rd.lt
      have hoa : w2.heap[gi]? = some o := (hj2.other gi (by have := hIm.1; omega)).trans ho
      have hgi2 := (Array.getElem?_eq_some_iff.1 hoa).1
      have M3 := M2.later (below_new w2 (.cells (dgsCells (zeroD n)).toArray 75))
      have hg3 := heap_alloc_new w2 (.cells (dgsCells (zeroD n)).toArray 75)
      have ho3 := (Below.heap_alloc w2 (.cells (dgsCells (zeroD n)).toArray 75) gi hgi2).trans hoa
      clear M M2 hW2 hj2 W
      go_wp2_with fail
      go_meet
      exact ⟨_, rfl, hg3, hk2, by omega, ho3, M3⟩
  case rest =>
  obtain ⟨g, rfl, hg, hkg, hggi, ho5, M5⟩ := hcut
  have hgl := (Array.getElem?_eq_some_iff.1 hg).1
  have hgb : g ≠ b := by
    rintro rfl
    have hk := M5.way
    unfold WayAtR at hk
    rw [hg] at hk
    injection hk with hk
    injection hk with _ h4
    exact absurd h4 (by decide)
  have hcp := fun ty => run_copy_diag0 wc ty g n n none 0 0 (.inr rfl)
  have a3 := cell_at M5.rp 3 _ rfl
  go_wp2_with (at_builtin; refine wpList_run_copy rfl _ _ _ _ rfl _ _ _ rfl rfl (hcp _) ?_)
  clear hcp a3 M ho
  go_loopw [55] (fun i wr => ∃ (j : Nat) (done : List Dg) (sj : Rs), j ≤ n ∧ i = .int .i64 j ∧ done.length = j ∧ wr.heap[g]? = some (.cells (dgsCells (done ++ zeroD (n - j))).toArray 75 (0, 0)) ∧ wr.heap[gi]? = some o ∧ MidQ x k b w er t iv (.slice none 0 0) sj wr ∧ Hid (done ++ (diagsR (n - j) sj).1 = (diagsR n s4).1 ∧ (diagsR (n - j) sj).2 = (diagsR n s4).2)) (fun i _ => n - (intW i).toNat)
  case atStart => exact ⟨0, [], s4, by omega, rfl, rfl, by simpa using hg, ho5, M5, ⟨by simp, by simp⟩⟩
  case round =>
    obtain ⟨j, done, sj, hj, rfl, hdl, hgr, hor, Mr, hH⟩ := hrel
    by_cases hjl : j < n
    · obtain ⟨m, hm⟩ : ∃ m, n - j = m + 1 := ⟨n - j - 1, by omega⟩
      rw [hm] at hgr hH
      have hzl : (done ++ zeroD (m + 1))[j]? = some ⟨[], 0, 0⟩ := by
        rw [List.getElem?_append_right (by omega), hdl, Nat.sub_self]
        rfl
      obtain ⟨e0, e1, e2⟩ := dgs_get _ j _ hzl
      have c0 := cell_at hgr (j * 3) _ (by simpa using e0)
      have c1 := cell_at hgr (j * 3 + 1) _ (by simpa using e1)
      have c2 := cell_at hgr (j * 3 + 2) _ (by simpa using e2)
      have hjI : (j : Int) < (n : Int) := by omega
      have hj0 : (0 : Int) ≤ (j : Int) := by omega
      have p0 := cell_at Mr.way 0 _ rfl
      have p1 := cell_at Mr.way 1 _ rfl
      have p2 := cell_at Mr.way 2 _ rfl
      have hgrl : g < wr.heap.size := (Array.getElem?_eq_some_iff.1 hgr).1
      have hgil : gi < wr.heap.size := (Array.getElem?_eq_some_iff.1 hor).1
      have hbrl : b < wr.heap.size := (Array.getElem?_eq_some_iff.1 Mr.way).1
      have hset := set_done done j m (diagR sj).1 hdl
      have hjs : j < (done ++ zeroD (m + 1)).length := by simp [zeroD]; omega
      have hH2 : Hid ((done ++ [(diagR sj).1]) ++ (diagsR m (diagR sj).2).1 = (diagsR n s4).1 ∧ (diagsR m (diagR sj).2).2 = (diagsR n s4).2) := by
        obtain ⟨h1, h2⟩ := hH.out
        refine ⟨?_, h2⟩
        rw [List.append_assoc]
        exact h1
      go_wp2_with fail
      have Ma := Mr.later (below_new wr (.cells #[.string (bs []), .int .i64 0, .int .i64 0] 75))
      have hga := (Below.heap_alloc wr (.cells #[.string (bs []), .int .i64 0, .int .i64 0] 75) g hgrl).trans hgr
      have hoa := (Below.heap_alloc wr (.cells #[.string (bs []), .int .i64 0, .int .i64 0] 75) gi hgil).trans hor
      clear c0 c1 c2 p0 p1 p2 hgr Mr hor hH
      generalize wr.alloc (.cells #[.string (bs []), .int .i64 0, .int .i64 0] 75) = w6 at *
      refine (rdiag_any x k sj w6 Ma.rd).mono ?_
      rintro e w7 ⟨rfl, W7, S7⟩
      have M7 := Ma.step hx hbk W7 S7
      have hg7 := (S7.block g (Array.getElem?_eq_some_iff.1 hga).1 (by omega)).trans hga
      have ho7 := (S7.block gi (Array.getElem?_eq_some_iff.1 hoa).1 (by have := hIm.1; omega)).trans hoa
      clear Ma hga hoa W7 S7
      generalize diagR sj = dr at *
      obtain ⟨d, sj'⟩ := dr
      simp only at *
      have c0 := cell_at hg7 (j * 3) _ (by simpa using e0)
      have c1 := cell_at hg7 (j * 3 + 1) _ (by simpa using e1)
      have c2 := cell_at hg7 (j * 3 + 2) _ (by simpa using e2)
      have f0 := froz_at hg7 (j * 3)
      have f1 := froz_at hg7 (j * 3 + 1)
      have f2 := froz_at hg7 (j * 3 + 2)
      have hg8 := dgs_put hg7 j hjs d
      rw [hset] at hg8
      have M8 := ((M7.setG hkg hgb hx (j * 3) (.string (bs d.frag))).setG hkg hgb hx (j * 3 + 1) (.int .i64 d.line)).setG hkg hgb hx (j * 3 + 2) (.int .i64 d.e)
      have ho8 : (((w7.setCell ⟨g, j * 3, none⟩ (.string (bs d.frag))).setCell ⟨g, j * 3 + 1, none⟩ (.int .i64 d.line)).setCell ⟨g, j * 3 + 2, none⟩ (.int .i64 d.e)).heap[gi]? = some o := by
        rw [Below.heap_setCell _ _ _ _ hggi.symm, Below.heap_setCell _ _ _ _ hggi.symm, Below.heap_setCell _ _ _ _ hggi.symm]; exact ho7
      have hm2 : n - (j + 1) = m := by omega
      clear hg7 M7 ho7
      unfold dgVal dgCells
      go_wp2_with fail
      go_roundw
      case rel => exact ⟨j + 1, done ++ [d], sj', by omega, by go_num, by simp [hdl], by rw [hm2]; exact hg8, ho8, M8, by rw [hm2]; exact hH2⟩
      case measure => simp [intW]; omega
    · have hjl' : j = n := by omega
      subst hjl'
      have hz0 : zeroD (j - j) = [] := by rw [Nat.sub_self]; rfl
      rw [hz0, List.append_nil] at hgr
      rw [Nat.sub_self] at hH
      obtain ⟨h1, h2⟩ := hH.out
      simp only [diagsR, List.append_nil] at h1 h2
      have hjI : ¬ (j : Int) < (j : Int) := by omega
      have a3 := cell_at Mr.rp 3 _ rfl
      have f3 := froz_at Mr.rp 3
      have M9 := Mr.set hx hBb 3 (.slice (some ⟨g, 0, none⟩) j j) rfl
      have hgrl : g < wr.heap.size := (Array.getElem?_eq_some_iff.1 hgr).1
      have hgil : gi < wr.heap.size := (Array.getElem?_eq_some_iff.1 hor).1
      have hgx : g ≠ x := by omega
      have hgix : gi ≠ x := by have := hIm.1; omega
      have hg9 := (Below.heap_setCell wr ⟨x, 3, none⟩ (.slice (some ⟨g, 0, none⟩) j j) g hgx).trans hgr
      have ho9 := (Below.heap_setCell wr ⟨x, 3, none⟩ (.slice (some ⟨g, 0, none⟩) j j) gi hgix).trans hor
      have hsz9 : (wr.setCell ⟨x, 3, none⟩ (.slice (some ⟨g, 0, none⟩) j j)).heap.size = wr.heap.size := by simp [World.setCell]
      have hRp : RpAt 77 x k (wr.setCell ⟨x, 3, none⟩ (.slice (some ⟨g, 0, none⟩) j j)) ⟨er, t, im, done⟩ :=
        ⟨iv, .slice (some ⟨g, 0, none⟩) j j, M9.rp, hIm.2.2 _ _ ho9 (by rw [hsz9]; exact hgil), diags_row hg9 hdl hn5 _ (by rw [hsz9]; exact hgrl), fun q hq => by rw [hIm.2.1] at hq; cases hq; exact Nat.le_of_lt hIm.1, fun q hq => by cases hq; exact Nat.le_of_lt hkg⟩
      have hR2 : Hid (((⟨er, t, im, done⟩ : Rp), sj) = R) := by
        have h3 := hR.out
        rw [← h1, ← h2] at h3
        exact h3
      clear Mr hgr hg M5 hR hH h1 h2 hg9 ho9 hor ho5
      go_wp2_with fail
      go_end0
      rw [← hR2.out]
      exact ⟨rfl, hRp, M9.rd, M9.bel⟩
end Go.Proofs.YtkaclahcpmogaaaGreatDoor
