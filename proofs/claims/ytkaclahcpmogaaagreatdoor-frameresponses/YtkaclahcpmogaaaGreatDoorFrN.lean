/- The form of a response, by the writer. -/
import Derived.Test.YtkaclahcpmogaaaGreatDoorFrM
import Derived.Test.YtkaclahcpmogaaaGreatDoorFrH
import Derived.Lib.ConvBytes
namespace Go.Proofs.YtkaclahcpmogaaaGreatDoor
open Go.ChangeShapes Go.WideShapes Go.ChangeAt Go.RowKit
set_option linter.unusedVariables false
set_option linter.unusedSimpArgs false

/-- What holds between the form's steps. -/
structure MidP (B x k b : Nat) (w0 : World) (e : Int) (t : Bs) (iv dv : Value) (l : Bs) (w : World) : Prop where
  rp : w.heap[x]? = some (.cells #[.int .i64 e, .string (bs t), iv, dv] 77 (0, 0))
  wr : Wr B k w l
  way : WayAt b w k
  bel : Below x w0 w

theorem MidP.step {B x k b : Nat} {w0 : World} {e : Int} {t : Bs} {iv dv : Value} {l l' : Bs} {w w' : World} (h : MidP B x k b w0 e t iv dv l w) (hx : x < B) (hbk : b ≠ k) (hW : Wr B k w' l') (S : WStep B k w w') : MidP B x k b w0 e t iv dv l' w' :=
  ⟨(S.below.block _ hx).trans h.rp, hW, S.kept h.way hbk (by decide), h.bel.trans (S.below.mono (Nat.le_of_lt hx))⟩
theorem MidP.set {B x k b : Nat} {w0 : World} {e e' : Int} {t t' : Bs} {iv dv iv' dv' : Value} {l : Bs} {w : World} (h : MidP B x k b w0 e t iv dv l w) (hx : x < B) (hb : B ≤ b) (i : Nat) (u : Value) (hr : #[.int .i64 e, .string (bs t), iv, dv].setIfInBounds i u = #[.int .i64 e', .string (bs t'), iv', dv']) : MidP B x k b w0 e' t' iv' dv' l (w.setCell ⟨x, i, none⟩ u) :=
  ⟨by rw [← hr]; exact set_at h.rp i u, h.wr.set hx u, (Below.heap_setCell _ _ _ _ (by simp only; omega)).trans h.way, h.bel.setCell (p := ⟨x, i, none⟩) (Nat.le_refl _) u⟩
theorem MidP.drew {B x k b : Nat} {w0 : World} {e : Int} {t : Bs} {iv dv : Value} {l : Bs} {w : World} (h : MidP B x k b w0 e t iv dv l w) : MidP B x k b w0 e t iv dv l w.drew :=
  ⟨h.rp, h.wr, h.way, ⟨h.bel.os, h.bel.tape, h.bel.output, h.bel.size, h.bel.block⟩⟩
theorem MidP.size {B x k b : Nat} {w0 : World} {e : Int} {t : Bs} {iv dv : Value} {l : Bs} {w : World} (h : MidP B x k b w0 e t iv dv l w) : B ≤ w.heap.size := by have := h.wr.1; have := h.wr.lt; omega
theorem bytesWorld_below (w : World) (s : ByteArray) : Below w.heap.size w (Lib.bytesWorld w 5 s) := by
  refine ⟨?_, ?_, ?_, by rw [Lib.bytesWorld_size]; omega, fun j hj => Lib.bytesWorld_at_old w 5 s j hj⟩
  · unfold Lib.bytesWorld World.freeze; split <;> rfl
  · unfold Lib.bytesWorld World.freeze; split <;> rfl
  · unfold Lib.bytesWorld World.freeze; split <;> rfl
theorem MidP.later {B x k b : Nat} {w0 : World} {e : Int} {t : Bs} {iv dv : Value} {l : Bs} {w w' : World} (h : MidP B x k b w0 e t iv dv l w) (hb : Below w.heap.size w w') (hbs : b < w.heap.size) (hx : x < w.heap.size) : MidP B x k b w0 e t iv dv l w' :=
  ⟨(hb.block _ hx).trans h.rp, h.wr.later (fun i _ hi => hb.block i hi), (hb.block _ hbs).trans h.way, h.bel.trans (hb.mono (Nat.le_of_lt hx))⟩
theorem WayAt.lt {b k : Nat} {w : World} (h : WayAt b w k) : b < w.heap.size := (Array.getElem?_eq_some_iff.1 h).1

/-- A copy whose run is known. -/
theorem wpList_run_copy {ops : Array Oper} {rest : List Oper} {o : Oper} {a : Act} {Q : Exit → Act → World → Prop} {w w' : World} (hgd : o.guard = none) (d s : Operand) (dT sT : TypeId)
    (ho : o.op = .call { callee := .builtin .copy, args := #[d, s], argTypes := #[dT, sT] }) (dv sv r : Value) (hd : a.eval d = dv) (hs : a.eval s = sv)
    (hrun : (Builtin.copy_ #[dT, sT] o.type #[dv, sv]).run Tryz.prog w = .ok r w') (h : wpList Tryz.prog ops Q rest (a.put o.dst r) w') : wpList Tryz.prog ops Q (o :: rest) a w := by
  refine wpList_plain hgd fun K hK => ?_
  unfold Oper.wp
  simp [execOp, ho, resolve, invoke, builtin, hd, hs, hrun, Result.andThen]
  exact hK _ _ h

theorem str_to_bytes (s : Bs) (W : World) : (convert 9 23 (.string (bs s))).run Tryz.prog W = .ok (.slice (some ⟨W.heap.size, 0, none⟩) s.length (grownCap W s.length 0 5)) (Lib.bytesWorld W 5 (bs s)) := by
  have := Lib.run_convert_string_bytes (P := Tryz.prog) W 9 23 5 (bs s) Tryz.underlying9 Tryz.underlying23 Tryz.underlying5
  rw [bs_size] at this
  exact this

theorem MidP.setG {B x k b g : Nat} {w0 : World} {e : Int} {t : Bs} {iv dv : Value} {l : Bs} {w : World} (h : MidP B x k b w0 e t iv dv l w) {cs : Array Value} {T : TypeId} (hg : w.heap[g]? = some (.cells cs T (0, 0))) (hT : T ≠ 5) (hgk : g ≠ k) (hgb : g ≠ b) (hx : x < g) (i : Nat) (u : Value) : MidP B x k b w0 e t iv dv l (w.setCell ⟨g, i, none⟩ u) :=
  ⟨(Below.heap_setCell _ _ _ _ (by simp only; omega)).trans h.rp, h.wr.setNew hg hT hgk u, (Below.heap_setCell _ _ _ _ (by simp only; omega)).trans h.way, h.bel.setCell (p := ⟨g, i, none⟩) (by simp only; omega) u⟩

theorem diagsB_max (ds : List Dg) (hf : ∀ d ∈ ds, d.frag.length ≤ 12) : (ds.flatMap diagB).length ≤ ds.length * 16 := by
  induction ds with
  | nil => simp
  | cons d ds ih =>
    have h1 := hf d (by simp)
    have h2 := ih (fun d hd => hf d (by simp [hd]))
    simp only [List.flatMap_cons, List.length_append, List.length_cons, diagB_len]
    omega

theorem dgs_put {w : World} {g : Nat} {ds : List Dg} (hg : w.heap[g]? = some (.cells (dgsCells ds).toArray 75 (0, 0))) (j : Nat) (hj : j < ds.length) (d : Dg) :
    (((w.setCell ⟨g, j * 3, none⟩ (.string (bs d.frag))).setCell ⟨g, j * 3 + 1, none⟩ (.int .i64 d.line)).setCell ⟨g, j * 3 + 2, none⟩ (.int .i64 d.e)).heap[g]? = some (.cells (dgsCells (ds.set j d)).toArray 75 (0, 0)) := by
  have h1 := set_at (set_at (set_at hg (j * 3) (.string (bs d.frag))) (j * 3 + 1) (.int .i64 d.line)) (j * 3 + 2) (.int .i64 d.e)
  rw [h1, ← dgs_set ds j d hj]
  simp

set_option maxHeartbeats 6400000 in
set_option maxRecDepth 20000 in
theorem wformP_any (B x k : Nat) (r : Rp) (iv dv : Value) (l : Bs) (w : World) (hx : x < B) (X : w.heap[x]? = some (.cells #[.int .i64 r.e, .string (bs r.text), iv, dv] 77 (0, 0))) (hI : BytesAt x w iv r.image) (hD : DiagsAt x w dv r.diags)
    (h : Wr B k w l) (hl : l.length ≤ 1000) (ht : r.text.length ≤ 1000) (hi : r.image.length ≤ 5000) (hd : r.diags.length ≤ 5000) (hf : ∀ d ∈ r.diags, d.frag.length ≤ 12) :
    Calls Tryz.prog 37 #[.pointer (some ⟨x, 0, none⟩), wayW k] w fun e w' => e = .returned (.tuple #[]) ∧ Wr B k w' (l ++ respB r) ∧ Below x w w' := by
  obtain ⟨er, t, im, ds⟩ := r
  simp only at X ht hi hd hf hI hD
  have hklt := h.lt
  have hBk := h.1
  have hbk : w.heap.size ≠ k := by omega
  have hBb : B ≤ w.heap.size := by omega
  have M : MidP B x k w.heap.size w er t iv dv l (w.alloc (.cells #[bndV 47 k, bndV 47 k, bndV 67 k] 90)) :=
    ⟨(Below.heap_alloc _ _ _ (by omega)).trans X, h.later (fun i _ hi => Below.heap_alloc _ _ _ hi), heap_alloc_new w _, (below_new w _).mono (by omega)⟩
  unfold wayW
  have hfin : l ++ respB ⟨er, t, im, ds⟩ = (((l ++ numB 1 er) ++ textB 2 t) ++ textB 2 im) ++ numB 2 ds.length ++ ds.flatMap diagB := by unfold respB; simp only [List.append_assoc]
  rw [hfin]
  clear hfin
  have l1 : (l ++ numB 1 er).length ≤ 1001 := by rw [List.length_append, numB_len]; omega
  have l2 : ((l ++ numB 1 er) ++ textB 2 t).length ≤ 3000 := by rw [List.length_append, textB_len]; omega
  have l3 : (((l ++ numB 1 er) ++ textB 2 t) ++ textB 2 im).length ≤ 9000 := by rw [List.length_append, textB_len]; omega
  have l4 : ((((l ++ numB 1 er) ++ textB 2 t) ++ textB 2 im) ++ numB 2 ds.length).length ≤ 9002 := by rw [List.length_append, numB_len]; omega
  go_enter Tryz.func37, Tryz.ntmps37
  go_upto_region 1 with fail
  generalize hz : w.heap.size = b at *
  generalize w.alloc (.cells #[bndV 47 k, bndV 47 k, bndV 67 k] 90) = w1 at *
  clear h X hz hklt
  go_cut [] from 7 to 15 (fun wx => MidP B x k b w er t iv dv (l ++ numB 1 er) wx)
  case first =>
    have a0 := cell_at M.drew.rp 0 _ rfl
    have p0 := cell_at M.drew.way 0 _ rfl
    have p1 := cell_at M.drew.way 1 _ rfl
    have p2 := cell_at M.drew.way 2 _ rfl
    have W := werrno_any B k er l w1.drew M.drew.wr (by omega)
    go_region_with (go_at_call 54; refine W.mono ?_; rintro e w2 ⟨rfl, hW2, S2⟩; have M2 := M.drew.step hx hbk hW2 S2; have d0 := cell_at M2.rp 0 _ rfl; have g0 := froz_at M2.rp 0)
    all_goals
      have M3 := M2.set hx hBb 0 (.int .i64 er) rfl
      clear M M2 hW2 S2 W
      go_wp2_with fail
      go_meet
      exact M3
  case rest =>
  have M := hcut
  clear hcut
  go_upto_region 2 with fail
  go_cut [] from 16 to 25 (fun wx => MidP B x k b w er t iv dv ((l ++ numB 1 er) ++ textB 2 t) wx)
  case first =>
    have a1 := cell_at M.drew.rp 1 _ rfl
    have p2 := M.drew.way.c2
    have W := wtext_any B k 2 t _ wc.drew M.drew.wr (by omega) (by omega) (by omega)
    go_region_with (go_at_call 67; refine W.mono ?_; rintro e w2 ⟨rfl, hW2, hb2, ho2⟩; have M2 := M.drew.step hx hbk hW2 ⟨hb2, ho2⟩; have d0 := cell_at M2.rp 1 _ rfl; have g0 := froz_at M2.rp 1)
    all_goals
      have M3 := M2.set hx hBb 1 (.string (bs t)) rfl
      clear M M2 hW2 hb2 ho2 W
      go_wp2_with fail
      go_meet
      exact M3
  case rest =>
  have M := hcut
  clear hcut
  go_upto_region 3 with fail
  go_cut [] from 26 to 37 (fun wx => ∃ iv', MidP B x k b w er t iv' dv (((l ++ numB 1 er) ++ textB 2 t) ++ textB 2 im) wx)
  case first =>
    have a1 := cell_at M.drew.rp 2 _ rfl
    have p2 := M.drew.way.c2
    have S1 := str_of_bytes (hI.later M.drew.bel)
    have S2 := str_to_bytes im
    have W := wtext_any B k 2 im _ wc.drew M.drew.wr (by omega) (by omega) (by omega)
    obtain ⟨ip, icap, rfl, _⟩ := id hI
    go_region_with (go_at_call 67; refine W.mono ?_; rintro e w2 ⟨rfl, hW2, hb2, ho2⟩; have M2 := (M.drew.step hx hbk hW2 ⟨hb2, ho2⟩); have M2 := M2.later (bytesWorld_below w2 (bs im)) M2.way.lt (Nat.lt_of_lt_of_le hx M2.size); have d0 := cell_at M2.rp 2 _ rfl; have g0 := froz_at M2.rp 2)
    all_goals
      have M3 := M2.set hx hBb 2 (.slice (some ⟨w2.heap.size, 0, none⟩) im.length (grownCap w2 im.length 0 5)) rfl
      clear M M2 hW2 hb2 ho2 W
      go_wp2_with fail
      go_meet
      exact ⟨_, M3⟩
  case rest =>
  obtain ⟨iv', M⟩ := hcut
  obtain ⟨dp, dcap, rfl, hdc, hdm, hdn, hdcells⟩ := hD.later M.bel
  go_upto_region 4 with fail
  go_cut [4] from 38 to 46 (fun v4 wx => ∃ g, v4 = .slice (some ⟨g, 0, none⟩) ds.length ds.length ∧ wx.heap[g]? = some (.cells (dgsCells (zeroD ds.length)).toArray 75 (0, 0)) ∧ B ≤ g ∧ MidP B x k b w er t iv' (.slice dp ds.length dcap) ((((l ++ numB 1 er) ++ textB 2 t) ++ textB 2 im) ++ numB 2 ds.length) wx)
  case first =>
    have a3 := cell_at M.drew.rp 3 _ rfl
    have p1 : wc.drew.cell? ⟨b, 1, none⟩ = some (.func (.func 47) #[.pointer (some ⟨k, 0, none⟩)] #[]) := cell_at M.drew.way 1 _ rfl
    have hmk := run_make_diag ds.length (by omega)
    have W := wnumber_any B k 2 ds.length _ wc.drew M.drew.wr (by omega) (by omega)
    go_region_with (go_at_call 47; refine W.mono ?_; rintro e w2 ⟨rfl, hW2, hb2, ho2⟩)
    all_goals
      have M2 := M.drew.step hx hbk hW2 ⟨hb2, ho2⟩
      have M3 := M2.later (below_new w2 (.cells (dgsCells (zeroD ds.length)).toArray 75)) M2.way.lt (Nat.lt_of_lt_of_le hx M2.size)
      have hg3 := heap_alloc_new w2 (.cells (dgsCells (zeroD ds.length)).toArray 75)
      have hBg := M2.size
      clear M M2 hW2 hb2 ho2 W
      go_wp2_with fail
      go_meet
      exact ⟨_, rfl, hg3, hBg, M3⟩
  case rest =>
  obtain ⟨g, rfl, hg, hBg, M⟩ := hcut
  have hgl := (Array.getElem?_eq_some_iff.1 hg).1
  have hgk : g ≠ k := by
    rintro rfl
    obtain ⟨_, u, hk, _⟩ := M.wr
    rw [hg] at hk
    injection hk with hk
    injection hk with _ h4
    exact absurd h4 (by decide)
  have hgb : g ≠ b := by
    rintro rfl
    have hk := M.way
    unfold WayAt at hk
    rw [hg] at hk
    injection hk with hk
    injection hk with _ h4
    exact absurd h4 (by decide)
  -- the copy
  obtain ⟨dp, dcap, e, hdc, hdm, hdn, hdcells⟩ := hD.later M.bel
  cases e
  have hcp : ∃ w5, (∀ ty, (Builtin.copy_ #[40, 40] ty #[.slice (some ⟨g, 0, none⟩) ds.length ds.length, .slice dp ds.length dcap]).run Tryz.prog wc = .ok (goInt ds.length) w5) ∧ w5.heap[g]? = some (.cells (dgsCells ds).toArray 75 (0, 0)) ∧ MidP B x k b w er t iv' (.slice dp ds.length dcap) ((((l ++ numB 1 er) ++ textB 2 t) ++ textB 2 im) ++ numB 2 ds.length) w5 := by
    by_cases h0 : ds = []
    · subst h0
      exact ⟨wc, fun ty => run_copy_diag0 wc ty g 0 0 dp 0 dcap (.inl rfl), hg, M⟩
    · have hp := List.length_pos_iff.2 h0
      cases dp with
      | none => have := hdn rfl; omega
      | some a =>
        obtain ⟨db, o, rfl, hdb, hcells⟩ := hdcells a rfl
        refine ⟨wc.setRow g (dgsCells ds).toArray, fun ty => ?_, setRow_heap _ _ _ _ _ _ hg, ?_⟩
        · refine run_copy_diag wc ty g ds.length ds.length ⟨db, o, none⟩ dcap _ (dgsCells ds) hg (dgsCells_len ds) (by rw [List.size_toArray, dgsCells_len]; simp [zeroD]) (fun j v hj => ?_) (dgs_one ds)
          have := hcells j v hj
          rw [← this]
          congr 1
          unfold Addr.add
          split <;> simp_all
        · obtain ⟨hBk', u, hk', hown⟩ := M.wr
          refine ⟨(setRow_other _ _ _ _ (by omega)).trans M.rp, ⟨hBk', u, (setRow_other _ _ _ _ hgk.symm).trans hk', hown.1, ?_⟩, (setRow_other _ _ _ _ hgb.symm).trans M.way, M.bel.trans ⟨rfl, rfl, rfl, by simp, fun i hi => setRow_other _ _ _ _ (by omega)⟩⟩
          rcases hown.2 with h1 | ⟨g', cap, cur, h1, h2, h3, h4⟩
          · exact .inl h1
          · refine .inr ⟨g', cap, cur, h1, h2, (setRow_other _ _ _ _ ?_).trans h3, h4⟩
            rintro rfl
            rw [hg] at h3
            injection h3 with h3
            injection h3 with _ h5
            exact absurd h5 (by decide)
  obtain ⟨w5, hcp, hg5, M5⟩ := hcp
  have a3 := cell_at M.rp 3 _ rfl
  have a35 := cell_at M5.rp 3 _ rfl
  clear M hg hdcells
  go_wp2_with (at_builtin; refine wpList_run_copy rfl _ _ _ _ rfl _ _ _ rfl rfl (hcp _) ?_)
  clear hcp a3 a35 hdc hdm hdn
  have hgl5 : g < w5.heap.size := (Array.getElem?_eq_some_iff.1 hg5).1
  go_loopw [55] (fun i wr => ∃ j : Nat, j ≤ ds.length ∧ i = .int .i64 j ∧ wr.heap[g]? = some (.cells (dgsCells ds).toArray 75 (0, 0)) ∧ MidP B x k b w er t iv' (.slice dp ds.length dcap) (((((l ++ numB 1 er) ++ textB 2 t) ++ textB 2 im) ++ numB 2 ds.length) ++ (ds.take j).flatMap diagB) wr) (fun i _ => ds.length - (intW i).toNat)
  case atStart => exact ⟨0, by omega, rfl, hg5, by simpa using M5⟩
  case round =>
    obtain ⟨j, hj, rfl, hgr, Mr⟩ := hrel
    by_cases hjl : j < ds.length
    · obtain ⟨d, hdj⟩ : ∃ d, ds[j]? = some d := ⟨_, List.getElem?_eq_getElem hjl⟩
      obtain ⟨e0, e1, e2⟩ := dgs_get ds j d hdj
      have c0 := cell_at hgr (j * 3) _ (by simpa using e0)
      have c1 := cell_at hgr (j * 3 + 1) _ (by simpa using e1)
      have c2 := cell_at hgr (j * 3 + 2) _ (by simpa using e2)
      have hjI : (j : Int) < (ds.length : Int) := by omega
      have hj0 : (0 : Int) ≤ (j : Int) := by omega
      have p0 := cell_at Mr.way 0 _ rfl
      have p1 := cell_at Mr.way 1 _ rfl
      have p2 := cell_at Mr.way 2 _ rfl
      have hgrl : g < wr.heap.size := (Array.getElem?_eq_some_iff.1 hgr).1
      have hbrl := Mr.way.lt
      have hxr : x < wr.heap.size := by omega
      go_wp2_with fail
      have Ma := Mr.later (below_new wr (.cells #[.string (bs d.frag), .int .i64 d.line, .int .i64 d.e] 75)) hbrl hxr
      have hga := (Below.heap_alloc wr (.cells #[.string (bs d.frag), .int .i64 d.line, .int .i64 d.e] 75) g hgrl).trans hgr
      have htk : (ds.take (j + 1)).flatMap diagB = (ds.take j).flatMap diagB ++ diagB d := by
        rw [List.take_add_one, hdj]; simp
      have hlen : (((((l ++ numB 1 er) ++ textB 2 t) ++ textB 2 im) ++ numB 2 ds.length) ++ (ds.take j).flatMap diagB).length ≤ 800000 := by
        have := diagsB_max (ds.take j) (fun d hd => hf d (List.mem_of_mem_take hd))
        rw [List.length_take] at this
        rw [List.length_append]
        omega
      have hfd := hf d (List.mem_of_getElem? hdj)
      clear c0 c1 c2 p0 p1 p2 hgr Mr
      generalize wr.alloc (.cells #[.string (bs d.frag), .int .i64 d.line, .int .i64 d.e] 75) = w6 at *
      refine (wdiag_any B k d _ w6 Ma.wr hlen (by omega)).mono ?_
      rintro e w7 ⟨rfl, W7, S7⟩
      have M7 := Ma.step hx hbk W7 S7
      have hg7 := S7.kept hga hgk (by decide)
      clear Ma hga W7 S7
      have c0 := cell_at hg7 (j * 3) _ (by simpa using e0)
      have c1 := cell_at hg7 (j * 3 + 1) _ (by simpa using e1)
      have c2 := cell_at hg7 (j * 3 + 2) _ (by simpa using e2)
      have f0 := froz_at hg7 (j * 3)
      have f1 := froz_at hg7 (j * 3 + 1)
      have f2 := froz_at hg7 (j * 3 + 2)
      have hg8 := dgs_put hg7 j hjl d
      have hself : ds.set j d = ds := by
        have : d = ds[j] := by rw [List.getElem?_eq_getElem hjl] at hdj; exact (Option.some.inj hdj).symm
        rw [this, List.set_getElem_self]
      rw [hself] at hg8
      have R1 := set_at hg7 (j * 3) (.string (bs d.frag))
      have R2 := set_at R1 (j * 3 + 1) (.int .i64 d.line)
      have M8 := ((M7.setG hg7 (by decide) hgk hgb (by omega) (j * 3) (.string (bs d.frag))).setG R1 (by decide) hgk hgb (by omega) (j * 3 + 1) (.int .i64 d.line)).setG R2 (by decide) hgk hgb (by omega) (j * 3 + 2) (.int .i64 d.e)
      rw [List.append_assoc, ← htk] at M8
      clear R1 R2 hg7 M7
      unfold dgVal dgCells
      go_wp2_with fail
      go_roundw
      case rel => exact ⟨j + 1, by omega, by go_num, hg8, M8⟩
      case measure => simp [intW]; omega
    · have hjl' : j = ds.length := by omega
      subst hjl'
      rw [List.take_length] at Mr
      have hjI : ¬ (ds.length : Int) < (ds.length : Int) := by omega
      have a3 := cell_at Mr.rp 3 _ rfl
      have f3 := froz_at Mr.rp 3
      have M9 := Mr.set hx hBb 3 (.slice (some ⟨g, 0, none⟩) ds.length ds.length) rfl
      clear Mr hgr hg5 M5
      go_wp2_with fail
      go_end0
      refine ⟨rfl, ?_, M9.bel⟩
      have h9 := M9.wr
      simp only [List.append_assoc] at h9 ⊢
      exact h9
end Go.Proofs.YtkaclahcpmogaaaGreatDoor
