/- A history trimmed. -/
import Derived.Test.YtcnajkclbmddgaaDrop
import Derived.Test.YtcnajkclbmddgaaKeep
namespace Go.Proofs.Ytcnajkclbmddgaa
open Go.ChangeShapes Go.WideShapes Go.ChangeAt Go.RowKit
set_option linter.unusedVariables false
set_option linter.unusedSimpArgs false

theorem Dropped.later {w0 w w' : World} {h : Hi} {n : Nat} (D : Dropped w w' h n) (hb : Below w0.heap.size w0 w) : Dropped w0 w' h n := by
  rcases D with ⟨h1, row, all, off, h2, h3, h4, h5⟩ | D
  · exact .inl ⟨h1, row, all, off, h2, h3, h4, fun g hg => (h5 g hg).imp id (fun x => Nat.le_trans hb.size x)⟩
  · exact .inr D

theorem Only.behind {F : Nat → Prop} {w0 w w' : World} (O : Only F w w') (hb : Below w0.heap.size w0 w) : Only F w0 w' :=
  ⟨O.os.trans hb.os, O.tape.trans hb.tape, O.output.trans hb.output, Nat.le_trans hb.size O.size, fun k hk hn => (O.block k (Nat.lt_of_lt_of_le hk hb.size) hn).trans (hb.block k hk)⟩

set_option maxHeartbeats 1600000 in
set_option maxRecDepth 20000 in
theorem trim_any (h : Hi) (low : Int) (w : World) (H : HistAt w h) (hs : Rise h.live) (h0 : 0 < h.live.length) :
    Calls Try.prog 48 #[.pointer (some ⟨h.blk, 0, none⟩), .int .i64 low] w fun e w' => e = .returned (.int .i64 (trimN low h.live : Nat)) ∧ Only (fun k => k = h.blk ∨ h.row.ownBlock = some k) w w' ∧ Dropped w w' h (trimN low h.live) := by
  have U := upTo_any h low w H hs
  have hle := upTo_le low h.live
  have hfew := live_len H.few
  have HL : Hid (∀ w1, Below w.heap.size w w1 → Calls Try.prog 46 #[.pointer (some ⟨h.blk, 0, none⟩)] w1 fun e w' => e = .returned (liveV h.off h.row) ∧ ∃ n, w' = w1.drewN n) := fun w1 hb => live_any h w1 (H.below hb)
  have HA : Hid (∀ w1, Below w.heap.size w w1 → LiveAt w1 (liveV h.off h.row) h.live) := fun w1 hb => (H.below hb).liveAt
  have HD : Hid (∀ w1, Below w.heap.size w w1 → trimN low h.live ≤ h.live.length → Calls Try.prog 54 #[.pointer (some ⟨h.blk, 0, none⟩), .int .i64 (trimN low h.live : Nat)] w1 fun e w' => e = .returned (.tuple #[]) ∧ Only (fun k => k = h.blk ∨ h.row.ownBlock = some k) w w' ∧ Dropped w w' h (trimN low h.live)) := fun w1 hb hn =>
    (drop_any h _ w1 (H.below hb) h0 hn).mono fun e w' ⟨h1, h2, h3⟩ => ⟨h1, h2.behind hb, h3.later hb⟩
  have hT : Hid (trimN low h.live ≤ h.live.length) := Nat.le_trans (trimN_le low h.live) hle
  have hzero : upToP low h.live = 0 → trimN low h.live = 0 := trimN_zero
  have hmore : ∀ k, upToP low h.live = k + 1 → ∃ x, h.live[k]? = some x ∧ trimN low h.live = if x.gone then k + 1 else k := by
    intro k hk
    have hkl : k < h.live.length := by omega
    refine ⟨h.live[k], List.getElem?_eq_getElem hkl, ?_⟩
    unfold trimN
    rw [hk]
    simp only [List.getElem?_eq_getElem hkl]
  generalize Dropped w = DD at *
  generalize (fun k => k = h.blk ∨ h.row.ownBlock = some k) = FF at *
  generalize hbk : h.blk = hb at *
  generalize liveV h.off h.row = lv at HL HA
  generalize upToP low h.live = u at *
  generalize hl : h.live = l at *
  generalize htn : trimN low l = tn at *
  clear H hs h0 hl htn hbk
  go_enter Try.func48, Try.ntmps48
  go_wp2_with fail
  refine U.mono ?_
  rintro e w1 ⟨rfl, hb1⟩
  clear U
  by_cases hu0 : u = 0
  · subst hu0
    obtain rfl := hzero rfl
    have D := HD.out w1 hb1 hT.out
    clear HD HL HA hzero hmore hT hle hfew
    rw [show ((0 : Nat) : Int) = 0 from rfl] at D
    go_wp2_with fail
    refine D.mono ?_
    rintro e w2 ⟨rfl, h2, h3⟩
    go_wp2_with fail
    go_ret
    exact ⟨rfl, h2, h3⟩
  · obtain ⟨k, hk⟩ : ∃ k, u = k + 1 := ⟨u - 1, by omega⟩
    obtain ⟨x, hx, ht⟩ := hmore k hk
    have L := HL.out w1 hb1
    have hk1 : (u : Int) - 1 = (k : Int) := by omega
    have hkp : (0 : Int) < (u : Int) := by omega
    have hkI : (k : Int) < 1000000 := by omega
    have hk0 : (0 : Int) ≤ (k : Int) := by omega
    have HK : Hid (k < l.length ∧ u = k + 1 ∧ l.length < 1000000) := ⟨by omega, hk, hfew⟩
    clear HL hzero hmore hle hfew hu0 hk
    replace ht : Hid (tn = if x.gone then k + 1 else k) := ht
    have HX : Hid _ := And.intro hk1 (And.intro hkI (And.intro hk0 hx))
    clear hk1 hkI hk0 hx
    go_wp2_with fail
    refine L.mono ?_
    rintro e w2 ⟨rfl, n, rfl⟩
    clear L
    have hb2 : Below w.heap.size w (w1.drewN n) := hb1.trans ((below_drewN w1 n).mono hb1.size)
    have A := HA.out _ hb2
    have D := HD.out _ hb2 hT.out
    clear hb1 HA HD hT
    generalize w1.drewN n = w2 at *
    obtain ⟨hk1, hkI, hk0, hx⟩ := HX.out
    obtain ⟨q1, q2, q3⟩ := HK.out
    have hkl : (k : Int) < (l.length : Int) := by omega
    have hll : (l.length : Int) < 1000000 := by omega
    rcases A with ⟨rfl, _⟩ | ⟨g, o, c, rfl, _, _, hg, hcell⟩
    · simp at hx
    · obtain ⟨a1, a2, a3⟩ := hcell k x hx
      clear hcell hx q1 q3 HX HK hb2 hg a1 a2 hkp
      generalize l.length = ln at *
      replace q2 : Hid (u = k + 1) := q2
      cases hgn : x.gone with
      | true =>
        rw [hgn] at a3
        have e : tn = u := by rw [ht.out, if_pos hgn, q2.out]
        rw [e] at D
        replace e : Hid (tn = _) := e
        clear hgn ht q2
        go_wp2_with fail
        refine D.mono ?_
        rintro e w3 ⟨rfl, h2, h3⟩
        go_wp2_with fail
        go_ret
        exact ⟨by rw [e.out]; rfl, h2, by rw [e.out]; exact h3⟩
      | false =>
        rw [hgn] at a3
        have e : tn = k := by rw [ht.out, if_neg (by rw [hgn]; decide)]
        rw [e] at D
        replace e : Hid (tn = _) := e
        clear hgn ht q2
        go_wp2_with fail
        refine D.mono ?_
        rintro e w3 ⟨rfl, h2, h3⟩
        go_wp2_with fail
        go_ret
        exact ⟨by rw [e.out]; rfl, h2, by rw [e.out]; exact h3⟩
end Go.Proofs.Ytcnajkclbmddgaa
