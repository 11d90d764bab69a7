/- The history that is due first, trimmed. -/
import Derived.Test.YtcnajkclbmddgaaHalf
namespace Go.Proofs.Ytcnajkclbmddgaa
open Go.ChangeShapes Go.WideShapes Go.ChangeAt Go.RowKit
open Go.ChangeMaps Go.MapKept
set_option linter.unusedVariables false
set_option linter.unusedSimpArgs false

def FirstEnd (S : St) (low : Int) (w : World) (e : Ending) (w' : World) : Prop :=
  ∃ S' k, e = .returned (.int .i64 (trimN low (S.live k) : Nat)) ∧ StoreAt w' S' ∧ Step w w' S S' ∧ Good S' ∧ Trimmed S S' k (trimN low (S.live k)) ∧ S.live k = (S.hb (S.due.getD 0 0)).live

theorem live_of {S : St} {k : ByteArray} {h : Hi} (e : S.hs k = some h) : S.live k = h.live := by unfold St.live; rw [e]

set_option maxHeartbeats 3200000 in
set_option maxRecDepth 20000 in
theorem trimFirst_any (S : St) (low : Int) (w : World) (A : StoreAt w S) (G : Good S) (h0 : 0 < S.due.length) (hr : ∀ k, Rise (S.live k)) :
    Calls Try.prog 36 #[.pointer (some ⟨S.p, 0, none⟩), .int .i64 low] w (FirstEnd S low w) := by
  have TK := take_any S.p S.cs S.dueV S.due S.hb w A.blk rfl A.dueD (A.apt (fun b m => by
    obtain ⟨k, e⟩ := A.dueIn b m
    exact ⟨k, e, (A.dueD.his b m).1⟩)) G.heap h0
  have HA : Hid (StoreAt w S ∧ Good S ∧ 0 < S.due.length ∧ ∀ k, Rise (S.live k)) := ⟨A, G, h0, hr⟩
  clear A G h0 hr
  obtain ⟨FE, hFE⟩ : ∃ FE, FE = FirstEnd S low w := ⟨_, rfl⟩
  rw [← hFE]
  replace hFE : Hid (FE = FirstEnd S low w) := hFE
  go_enter Try.func36, Try.ntmps36
  go_wp2_with fail
  refine TK.mono ?_
  rintro e w1 ⟨rfl, v, l, hp, hh, B, D, O, R⟩
  clear TK
  obtain ⟨A, G, h0, hr⟩ := HA.out
  obtain ⟨k, M, T, hb, hw⟩ := half_take A G h0 hp hh B D O R
  have hlk : S.live k = (S.hb (S.due.getD 0 0)).live := live_of M.hs
  have hrk := hr k
  rw [hlk] at hrk
  have HFE : Hid (∀ S' w' (n : Nat), n = trimN low (S.live k) → StoreAt w' S' → Step (S := S.dued v l) (S' := S') w1 w' → Good S' → Trimmed (S.dued v l) S' k n → FE (.returned (.int .i64 n)) w') := by
    intro S' w' n hn a1 a2 a3 a4
    rw [hFE.out]
    subst hn
    exact ⟨S', k, rfl, a1, T.trans a2, a3, ⟨a4.lim, a4.now, a4.cnt, a4.tot, a4.pins, a4.same, a4.other⟩, hlk⟩
  rw [← hb]
  rw [hlk] at HFE
  clear hp hh B D O R A G h0 hr hlk HA T hFE
  generalize S.hb (S.due.getD 0 0) = h at *
  clear hb
  have hpp : (S.dued v l).p = S.p := rfl
  generalize S.dued v l = S1 at *
  rw [← hpp]
  clear hpp
  have hne : 0 < h.live.length := List.length_pos_iff.2 (M.ne k h M.hs)
  have TR := trim_any h low w1 (M.store.his _ _ M.hs).1 hrk hne
  replace hw : Hid (waitsP h.live = true) := hw
  replace hne : Hid (0 < h.live.length) := hne
  replace M : Hid (Half w1 S1 k h) := M
  replace hrk : Hid (Rise h.live) := hrk
  generalize trimN low h.live = tn at *
  go_wp2_with fail
  refine TR.mono ?_
  rintro e w2 ⟨rfl, O2, D2⟩
  clear TR
  have hT0 : ∀ tot S2, S2 = S1.turn k h tot → True := fun _ _ _ => trivial
  rcases D2 with ⟨hlt, row, all, off, H2, hd2, hl2, R2⟩ | ⟨heq, SP⟩
  · have hlv : ({ h with row := row, all := all, off := off } : Hi).live = h.live.drop tn := hd2
    have hln : 0 < ({ h with row := row, all := all, off := off } : Hi).live.length := by rw [hlv, List.length_drop]; omega
    obtain ⟨M2, T2⟩ := M.out.turn H2 rfl rfl O2 R2 hl2 (List.length_pos_iff.1 hln)
    have hp2 : (S1.turn k { h with row := row, all := all, off := off } S1.tot).p = S1.p := rfl
    have TRM : Hid (Trimmed S1 (S1.turn k { h with row := row, all := all, off := off } S1.tot) k tn) := by
      refine ⟨rfl, rfl, rfl, rfl, rfl, ?_, fun k2 n => ?_⟩
      · rw [live_of M2.hs, live_of M.out.hs]; exact hlv
      · unfold St.live
        show (match (if k2 = k then _ else S1.hs k2) with | some h => h.live | none => []) = _
        rw [if_neg n]
        cases S1.hs k2 <;> rfl
    generalize S1.turn k { h with row := row, all := all, off := off } S1.tot = S2 at *
    have hblk : ({ h with row := row, all := all, off := off } : Hi).blk = h.blk := rfl
    generalize ({ h with row := row, all := all, off := off } : Hi) = h2 at *
    clear hd2 hl2 R2 O2 hlt hT0 hlv
    have W := waits_any h2 w2 H2
    rw [← hblk, ← hp2]
    clear hblk hp2 M hw hne hrk
    replace hln : Hid (0 < h2.live.length) := hln
    replace M2 : Hid (Half w2 S2 k h2) := M2
    replace T2 : Hid (Step w1 w2 S1 S2) := T2
    clear H2
    cases hwt : waitsP h2.live with
    | true =>
      rw [hwt] at W
      go_wp2_with fail
      refine W.mono ?_
      rintro e w3 ⟨rfl, n3, rfl⟩
      clear W
      have P := (M2.out.later (below_drewN w2 n3)).put hwt
      clear hwt
      go_wp2_with fail
      refine P.mono ?_
      rintro e w4 ⟨rfl, v4, l4, A4, T4, G4⟩
      clear P
      have E4 := empty_any h2 w4 (A4.his k h2 M2.out.hs).1
      have he : h2.live.isEmpty = false := by
        have := hln.out
        cases hq : h2.live with
        | nil => rw [hq] at this; simp at this
        | cons => rfl
      rw [he] at E4
      have HE : Hid (∀ n, FE (.returned (.int .i64 tn)) (w4.drewN n)) := fun n =>
        HFE.out _ _ tn rfl (A4.drewN n) ((T2.out.trans (Step.of_below (below_drewN w2 n3) S2)).trans (T4.trans (Step.of_below (below_drewN w4 n) _))) G4 ⟨TRM.out.lim, TRM.out.now, TRM.out.cnt, TRM.out.tot, TRM.out.pins, TRM.out.same, TRM.out.other⟩
      clear A4 T4 G4 he
      go_wp2_with fail
      refine E4.mono ?_
      rintro e w5 ⟨rfl, n5, rfl⟩
      clear E4
      go_wp2_with fail
      exact HE.out n5
    | false =>
      rw [hwt] at W
      go_wp2_with fail
      refine W.mono ?_
      rintro e w3 ⟨rfl, n3, rfl⟩
      clear W
      have G3 := M2.out.done hwt
      have A3 := M2.out.store.drewN n3
      clear hwt
      have T3 : Step w1 (w2.drewN n3) S1 S2 := T2.out.trans (Step.of_below (below_drewN w2 n3) S2)
      generalize w2.drewN n3 = w3 at *
      have E4 := empty_any h2 w3 (A3.his k h2 M2.out.hs).1
      have he : h2.live.isEmpty = false := by
        have := hln.out
        cases hq : h2.live with
        | nil => rw [hq] at this; simp at this
        | cons => rfl
      rw [he] at E4
      have HE : Hid (∀ n, FE (.returned (.int .i64 tn)) (w3.drewN n)) := fun n =>
        HFE.out _ _ tn rfl (A3.drewN n) (T3.trans (Step.of_below (below_drewN w3 n) _)) G3 TRM.out
      clear A3 G3 he T3
      go_wp2_with fail
      refine E4.mono ?_
      rintro e w5 ⟨rfl, n5, rfl⟩
      clear E4
      go_wp2_with fail
      exact HE.out n5
  · replace heq : Hid (tn = h.live.length) := heq
    have W := waits0_any h.blk h.key w2 SP
    go_wp2_with fail
    refine W.mono ?_
    rintro e w3 ⟨rfl, n3, rfl⟩
    clear W
    have SP3 : Spent (w2.drewN n3) h.blk h.key := SP
    have O3 : Only (fun k => k = h.blk ∨ h.row.ownBlock = some k) w1 (w2.drewN n3) := ⟨O2.os, O2.tape, O2.output, O2.size, O2.block⟩
    generalize w2.drewN n3 = w3 at *
    clear SP O2
    have E4 := empty0_any h.blk h.key w3 SP3
    go_wp2_with fail
    refine E4.mono ?_
    rintro e w4 ⟨rfl, n4, rfl⟩
    clear E4
    have SP4 : Spent (w3.drewN n4) h.blk h.key := SP3
    have O4 : Only (fun k => k = h.blk ∨ h.row.ownBlock = some k) w1 (w3.drewN n4) := ⟨O3.os, O3.tape, O3.output, O3.size, O3.block⟩
    generalize w3.drewN n4 = w4 at *
    clear SP3 O3
    have A1 := M.out.store
    have hml := A1.map.lt
    have hkh := (A1.his k h M.out.hs).2.1
    have hkl := (A1.his k h M.out.hs).1.key
    have lk1 := A1.labHis k h M.out.hs
    have hmb : S1.m ≠ h.blk := ne_role A1.labM lk1 (by simp)
    have hmk : ¬ (S1.m = h.blk ∨ h.row.ownBlock = some S1.m) := by
      rintro (e | e)
      · exact hmb e
      · have := A1.labRow k h _ M.out.hs e
        rw [A1.labM] at this
        cases this
    have hpk : ¬ (S1.p = h.blk ∨ h.row.ownBlock = some S1.p) := by
      rintro (e | e)
      · exact ne_role A1.labP lk1 (by simp) e
      · have := A1.labRow k h _ M.out.hs e
        rw [A1.labP] at this
        cases this
    have K4 : KMap w4.drew S1.m S1.n S1.f := A1.map.of_block (O4.block S1.m hml hmk)
    have B4 : Blk w4 S1.p S1.cs 62 := A1.blk.of_block (O4.block S1.p A1.blk.lt hpk)
    have c3 : w4.drew.cell? ⟨S1.p, 3, none⟩ = some (.map (some S1.m)) := B4.cell (i := 3) rfl
    obtain ⟨g5, cc5, BS⟩ := SP4
    have c0 : w4.drew.cell? ⟨h.blk, 0, none⟩ = some (.string h.key) := BS.cell (i := 0) rfl
    have c3' : w4.cell? ⟨S1.p, 3, none⟩ = some (.map (some S1.m)) := c3
    have c0' : w4.cell? ⟨h.blk, 0, none⟩ = some (.string h.key) := c0
    obtain ⟨ob, hdel, KM⟩ := K4.del (k := h.key) hkl 0
    have hEND : Hid (FE (.returned (.int .i64 tn)) (setBlock w4.drew S1.m ob)) := by
      rw [hkh] at KM
      have OO : Only (fun b => (b = h.blk ∨ h.row.ownBlock = some b) ∨ b = S1.m) w1 (setBlock w4.drew S1.m ob) :=
        ⟨O4.os, O4.tape, O4.output, by simp [setBlock]; exact O4.size, fun b hb hn => (setBlock_other _ _ (fun e => hn (.inr e))).trans (O4.block b hb (fun e => hn (.inl e)))⟩
      obtain ⟨r1, r2, r3⟩ := M.out.forget KM OO
      refine HFE.out _ _ tn rfl r1 r3 r2 ⟨rfl, rfl, rfl, rfl, rfl, ?_, fun k2 n => ?_⟩
      · rw [live_of M.out.hs, heq.out, List.drop_length]
        show (match (if k = k then none else S1.hs k) with | some h => h.live | none => []) = _
        rw [if_pos rfl]
      · unfold St.live
        show (match (if k2 = k then none else S1.hs k2) with | some h => h.live | none => []) = _
        rw [if_neg n]
        cases S1.hs k2 <;> rfl
    clear KM hmb hmk hpk K4 B4 A1 hml hkh hkl lk1 BS O4 heq HFE hT0
    go_wp2_with fail
    go_region
    go_wp2_with fail
    exact hEND.out
end Go.Proofs.Ytcnajkclbmddgaa
