/- Clean. -/
import Derived.Test.YtcnajkclbmddgaaFirst
import Derived.Test.YtcnajkclbmddgaaLow
import Derived.Deep.LoopGhost
namespace Go.Proofs.Ytcnajkclbmddgaa
open Go.ChangeShapes Go.WideShapes Go.ChangeAt Go.RowKit
open Go.ChangeMaps Go.MapKept
set_option linter.unusedVariables false
set_option linter.unusedSimpArgs false

theorem heap_min {K : Nat → Int} {n : Nat} (H : HeapOn K n) : ∀ j, j < n → K 0 ≤ K j := by
  intro j
  induction j using Nat.strongRecOn with
  | ind j ih =>
    intro hj
    rcases Nat.eq_zero_or_pos j with rfl | h0
    · exact Int.le_refl _
    · have h1 := H j h0 hj
      have h2 := ih ((j - 1) / 2) (by omega) (by omega)
      omega

/-- Under way: some have gone. -/
structure Swept (S Si : St) (low : Int) (v vi : List Ver) (went : Nat) : Prop where
  lim : Si.lim = S.lim
  now : Si.now = S.now
  cnt : Si.cnt = S.cnt
  tot : Si.tot = S.tot
  pins : Si.pins = S.pins
  live : ∀ k, Si.live k = vers k vi
  rising : Rising vi
  keep : keepP low vi = keepP low v
  len : vi.length + went = v.length
  mem : ∀ x ∈ vi, x ∈ v

theorem Swept.step {S Si Sj : St} {low : Int} {v vi : List Ver} {went : Nat} {k : ByteArray} (W : Swept S Si low v vi went) (T : Trimmed Si Sj k (trimN low (Si.live k))) : Swept S Sj low v (keepK low k vi) (went + trimN low (Si.live k)) := by
  obtain ⟨h1, h2⟩ := vers_keepK (low := low) (k := k) vi W.rising
  refine ⟨T.lim.trans W.lim, T.now.trans W.now, T.cnt.trans W.cnt, T.tot.trans W.tot, T.pins.trans W.pins, fun k2 => ?_, rising_keepK W.rising, (keepP_keepK vi).trans W.keep, ?_, fun x hx => W.mem x (keepK_mem hx)⟩
  · by_cases e : k2 = k
    · subst e
      rw [T.same, W.live, h1]
    · rw [T.other k2 e, W.live, vers_keepK_other e]
  · have := W.len
    rw [W.live]
    omega

theorem Swept.quiet {S Si : St} {low : Int} {v vi : List Ver} {went : Nat} (W : Swept S Si low v vi went) (G : Good Si) {w : World} (A : StoreAt w Si) (h : 0 < Si.due.length → low < (nextP (Si.hb (Si.due.getD 0 0)).live)) : vi = keepP low v := by
  rw [← W.keep]
  refine (keepP_all vi W.rising (fun k => ?_)).symm
  have hr : Rise (vers k vi) := rise_vers W.rising
  rw [← W.live] at hr ⊢
  refine trim_quiet hr (fun hw => ?_)
  unfold St.live at hw ⊢
  cases hh : Si.hs k with
  | none => rw [hh] at hw; cases hw
  | some h2 =>
    rw [hh] at hw
    have hm := G.wait k h2 hh hw
    obtain ⟨j, hj, he⟩ := List.getElem_of_mem hm
    have h3 := heap_min G.heap j hj
    have h4 := h (by omega)
    have e0 : keyL (nx Si.hb) Si.due 0 = nextP (Si.hb (Si.due.getD 0 0)).live := rfl
    have ej : keyL (nx Si.hb) Si.due j = nextP h2.live := by
      unfold keyL nx
      rw [List.getD_eq_getElem?_getD, List.getElem?_eq_getElem hj, Option.getD_some, he, (A.his k h2 hh).2.2]
    rw [e0, ej] at h3
    simp only
    omega

theorem Swept.some {S Si : St} {low : Int} {v vi : List Ver} {went : Nat} (W : Swept S Si low v vi went) {k : ByteArray} (hw : waitsP (Si.live k) = true) (h : nextP (Si.live k) ≤ low) : 0 < trimN low (Si.live k) ∧ trimN low (Si.live k) ≤ vi.length := by
  have hr : Rise (vers k vi) := rise_vers W.rising
  obtain ⟨h1, h2⟩ := vers_keepK (low := low) (k := k) vi W.rising
  rw [← W.live] at hr h2
  exact ⟨trim_some hr hw h, by omega⟩

theorem Swept.start {S : St} {s : Sto} {low : Int} (H : Abs S s) : Swept S S low s.v s.v 0 := ⟨rfl, rfl, rfl, rfl, rfl, H.live, H.rising, rfl, rfl, fun x h => h⟩

/-- Cleaned. -/
theorem Swept.abs {S Si : St} {s : Sto} {low : Int} {vi : List Ver} {went : Nat} (H : Abs S s) (W : Swept S Si low s.v vi went) (he : vi = keepP low s.v) : Abs (Si.nums Si.now (Si.cnt - went)) { s with v := keepP low s.v } := by
  subst he
  have hl := W.len
  exact ⟨W.lim.trans H.all, W.now.trans H.stamp, by show Si.cnt - went = _; rw [W.cnt, H.cnt]; simp only; omega, fun k => W.live k, W.rising, fun x hx => H.le x (W.mem x hx), fun x hx => H.size x (W.mem x hx), by have := H.tot; have : Si.tot = S.tot := W.tot; show _ ≤ Si.tot; simp only; omega, H.nonneg⟩

def CleanEnd (S : St) (s : Sto) (low : Int) (w : World) (e : Ending) (w' : World) : Prop :=
  ∃ (S' : St) (n : Nat), e = .returned (.int .i64 n) ∧ (n : Int) = (s.v.length : Int) - ((keepP low s.v).length : Int) ∧ StoreAt w' S' ∧ Step w w' S S' ∧ Good S' ∧ Abs S' { s with v := keepP low s.v } ∧ S'.tot = S.tot ∧ S'.pins = S.pins

theorem clean_end {S Si : St} {s : Sto} {low : Int} {w wr : World} {vi : List Ver} {went : Nat} (H : Abs S s) (A : StoreAt wr Si) (T : Step w wr S Si) (G : Good Si) (W : Swept S Si low s.v vi went) (he : vi = keepP low s.v) :
    CleanEnd S s low w (.returned (.int .i64 went)) (wr.setCell ⟨S.p, 2, none⟩ (.int .i64 (Si.cnt - went))) := by
  have hp : Si.p = S.p := T.p
  rw [← hp]
  have hO : Only (fun b => b = Si.p) wr (wr.setCell ⟨Si.p, 2, none⟩ (.int .i64 (Si.cnt - went))) := ⟨rfl, rfl, rfl, by simp [World.setCell], fun k h1 h2 => Below.heap_setCell _ _ _ _ h2⟩
  have hB : Blk (wr.setCell ⟨Si.p, 2, none⟩ (.int .i64 (Si.cnt - went))) Si.p (Si.nums Si.now (Si.cnt - went)).cs 62 := A.blk.set 2 _
  refine ⟨Si.nums Si.now (Si.cnt - went), went, rfl, ?_, A.nums _ _ hB hO, T.trans (Step.nums A _ _ hO), G.nums _ _, W.abs H he, W.tot, W.pins⟩
  have := W.len
  rw [← he]
  omega

set_option maxHeartbeats 3200000 in
set_option maxRecDepth 20000 in
theorem clean_any (S : St) (s : Sto) (w : World) (A : StoreAt w S) (G : Good S) (H : Abs S s) :
    Calls Try.prog 21 #[.pointer (some ⟨S.p, 0, none⟩)] w (CleanEnd S s S.low w) := by
  have LW := low_any S w A
  have hcnt : Hid (S.cnt = s.v.length ∧ s.v.length ≤ 900000) := ⟨H.cnt, by have := H.tot; have := A.few; omega⟩
  have hQ : Hid (∀ n, StoreAt (w.drewN n) S ∧ Step w (w.drewN n) S S ∧ Good S ∧ Swept S S S.low s.v s.v 0) := fun n => ⟨A.drewN n, Step.of_below (below_drewN w n) S, G, Swept.start H⟩
  have hX : Hid (∀ wr Si vi went, StoreAt wr Si → Step w wr S Si → Good Si → Swept S Si S.low s.v vi went → vi = keepP S.low s.v → CleanEnd S s S.low w (.returned (.int .i64 went)) (wr.setCell ⟨S.p, 2, none⟩ (.int .i64 (Si.cnt - went)))) := fun wr Si vi went a b c d e => clean_end H a b c d e
  generalize CleanEnd S s S.low w = FE at *
  generalize S.low = low at *
  clear A G H
  go_enter Try.func21, Try.ntmps21
  go_wp2_with fail
  refine LW.mono ?_
  rintro e w1 ⟨rfl, n1, rfl⟩
  clear LW
  replace hQ : Hid _ := hQ.out n1
  generalize w.drewN n1 = w1 at *
  go_wp2_with fail
  go_loopg [3] s.v.length (fun kx s3 wr => ∃ (Si : St) (vi : List Ver) (went : Nat), s3 = .int .i64 went ∧ vi.length ≤ kx ∧ Hid (StoreAt wr Si ∧ Step w wr S Si ∧ Good Si ∧ Swept S Si low s.v vi went))
  case atStart => exact ⟨S, s.v, 0, rfl, Nat.le_refl _, hQ⟩
  case round =>
    clear hQ
    obtain ⟨Si, vi, went, rfl, hg, Q⟩ := hrel
    obtain ⟨A, T, G, W⟩ := Q.out
    have hp : Si.p = S.p := T.p
    have c5 := A.blk.cell (i := 5) (v := Si.dueV) rfl
    have hcn : Hid (Si.cnt = s.v.length ∧ vi.length + went = s.v.length ∧ s.v.length ≤ 900000) := ⟨W.cnt.trans hcnt.out.1, W.len, hcnt.out.2⟩
    obtain ⟨rest, hr1, hr2, hr3⟩ : ∃ rest : Nat, Si.cnt - (went : Int) = (rest : Int) ∧ (rest : Int) ≤ 900000 ∧ (went : Int) ≤ 900000 := ⟨vi.length, by have := hcn.out; omega, by have := hcn.out; omega, by have := hcn.out; omega⟩
    rw [hp] at c5
    rcases Nat.eq_zero_or_pos Si.due.length with hd | hd
    · -- nothing waits
      have hE := W.quiet G A (fun h => by omega)
      have FX : Hid _ := hX.out wr Si vi went A T G W hE
      have c2 := A.blk.cell (i := 2) (v := .int .i64 Si.cnt) rfl
      have f2 := A.blk.thawed 2
      rw [hp] at c2 f2
      obtain ⟨a, c, hv⟩ := own_slice A.dueD.row
      rw [hd] at hv
      rw [hv] at c5
      rw [hr1] at FX
      clear Q A T G W hE hcn hd hv hp hg
      generalize Si.cnt = cn at *
      go_wp2_with fail
      exact FX.out
    · obtain ⟨g, cap, hv, _, hgl⟩ := A.dueD.row.form hd
      obtain ⟨b, hb⟩ : ∃ b, Si.due[0]? = some b := ⟨_, List.getElem?_eq_getElem hd⟩
      have cb := A.dueD.row.cells (g := g) (by rw [hv]; rfl) _ _ (ptrs_get hb)
      rw [cell_add, Nat.zero_add] at cb
      have hb0 : Si.due.getD 0 0 = b := by rw [List.getD_eq_getElem?_getD, hb]; rfl
      obtain ⟨d1, d2, d3⟩ := A.dueD.his b (List.mem_of_getElem? hb)
      have NX := next_any (Si.hb b) wr d2 d3
      rw [d1] at NX
      rw [hv] at c5
      have hdI : (0 : Int) < (Si.due.length : Int) := by omega
      have HD : Hid (0 < Si.due.length ∧ Si.due.getD 0 0 = b ∧ waitsP (Si.hb b).live = true) := ⟨hd, hb0, d3⟩
      unfold ptrV at cb
      obtain ⟨nv, hnv⟩ : ∃ nv, nextP (Si.hb b).live = nv := ⟨_, rfl⟩
      rw [hnv] at NX
      replace hnv : Hid (nextP (Si.hb b).live = nv) := hnv
      have c2 := A.blk.cell (i := 2) (v := .int .i64 Si.cnt) rfl
      have f2 := A.blk.thawed 2
      rw [hp] at c2 f2
      replace hp : Hid (Si.p = S.p) := hp
      clear A T G W hd hb hb0 d1 d2 d3 hv hgl
      generalize Si.due.length = dl at hdI c5
      by_cases hle : nv ≤ low
      · clear c2 f2 hr1 hr2
        have RST : Hid (∀ n, Calls Try.prog 36 #[.pointer (some ⟨S.p, 0, none⟩), .int .i64 low] (wr.drewN n) fun e w' => ∃ (S' : St) (tn : Nat), e = .returned (.int .i64 tn) ∧ 0 < tn ∧ went + tn ≤ s.v.length ∧ ∃ vi' : List Ver, vi'.length + tn = vi.length ∧ Hid (StoreAt w' S' ∧ Step w w' S S' ∧ Good S' ∧ Swept S S' low s.v vi' (went + tn))) := by
          intro n
          obtain ⟨A, T, G, W⟩ := Q.out
          have TF := trimFirst_any Si low (wr.drewN n) (A.drewN n) G HD.out.1 (fun k => by rw [W.live]; exact rise_vers W.rising)
          rw [hp.out] at TF
          refine TF.mono ?_
          rintro e w' ⟨S', k, rfl, a1, a2, a3, a4, a5⟩
          rw [HD.out.2.1] at a5
          obtain ⟨q1, q2⟩ := W.some (k := k) (by rw [a5]; exact HD.out.2.2) (by rw [a5, hnv.out]; exact hle)
          have W' := W.step a4
          obtain ⟨_, q3⟩ := vers_keepK (low := low) (k := k) vi W.rising
          rw [← W.live] at q3
          exact ⟨S', _, rfl, q1, by have := W'.len; omega, _, q3, a1, (T.trans (Step.of_below (below_drewN wr n) Si)).trans a2, a3, W'⟩
        clear Q
        go_wp2_with fail
        refine NX.mono ?_
        rintro e w2 ⟨rfl, n2, rfl⟩
        clear NX
        have TF := RST.out n2
        clear RST c5 cb
        generalize wr.drewN n2 = w2 at *
        go_wp2_with fail
        refine TF.mono ?_
        rintro e w3 ⟨S', tn, rfl, ht0, htl, vi', hvl, Q'⟩
        clear TF
        have hadd : (went : Int) + (tn : Int) = ((went + tn : Nat) : Int) := by omega
        have hb1 : ((went + tn : Nat) : Int) ≤ 900000 := by have := hcn.out; omega
        have hb0 : (0 : Int) ≤ ((went + tn : Nat) : Int) := by omega
        replace hvl : Hid (vi'.length + tn = vi.length ∧ 0 < tn ∧ vi.length ≤ gk) := ⟨hvl, ht0, hg⟩
        clear hr3 ht0 htl hcn hnv hg
        generalize went + tn = we at *
        go_wp2_with fail
        clear hadd hb1 hb0
        go_roundg vi'.length
        case rel => exact ⟨S', vi', we, rfl, Nat.le_refl _, Q'⟩
        case measure => have := hvl.out; omega
      · have FX : Hid (∀ n, FE (.returned (.int .i64 went)) ((wr.drewN n).setCell ⟨S.p, 2, none⟩ (.int .i64 rest))) := by
          intro n
          obtain ⟨A, T, G, W⟩ := Q.out
          have hE := W.quiet G A (fun _ => by rw [HD.out.2.1, hnv.out]; omega)
          have := hX.out (wr.drewN n) Si vi went (A.drewN n) (T.trans (Step.of_below (below_drewN wr n) Si)) G W hE
          rw [hr1] at this
          exact this
        clear Q hcn hnv hg HD hp hX
        generalize Si.cnt = cn at *
        go_wp2_with fail
        refine NX.mono ?_
        rintro e w2 ⟨rfl, n2, rfl⟩
        clear NX
        replace FX : Hid _ := FX.out n2
        have c2' : (wr.drewN n2).cell? ⟨S.p, 2, none⟩ = some (.int .i64 cn) := c2
        have f2' : (wr.drewN n2).frozen? ⟨S.p, 2, none⟩ = false := f2
        clear c2 f2 c5 cb
        generalize wr.drewN n2 = w2 at *
        go_wp2_with fail
        exact FX.out
end Go.Proofs.Ytcnajkclbmddgaa
