/- What a history tells: how many are no newer, whether it waits, its newest, its next. -/
import Derived.Test.YtcnajkclbmddgaaSearch
namespace Go.Proofs.Ytcnajkclbmddgaa
open Go.ChangeShapes Go.WideShapes Go.ChangeAt Go.RowKit
set_option linter.unusedVariables false
set_option linter.unusedSimpArgs false

def waitsP : List Vr → Bool
  | [] => false
  | [x] => x.gone
  | _ :: _ :: _ => true

def nextP : List Vr → Int
  | [] => 0
  | [x] => x.at'
  | x :: y :: _ => if x.gone then x.at' else y.at'

theorem live_len {h : Hi} (hf : h.all.length < 1000000) : h.live.length < 1000000 := by unfold Hi.live; simp; omega

set_option maxHeartbeats 800000 in
theorem upTo_any (h : Hi) (t : Int) (w : World) (H : HistAt w h) (hs : Rise h.live) :
    Calls Try.prog 50 #[.pointer (some ⟨h.blk, 0, none⟩), .int .i64 t] w fun e w' => e = .returned (.int .i64 (upToP t h.live : Nat)) ∧ Below w.heap.size w w' := by
  have L := live_any h w H
  have S := fun n => search_any (liveV h.off h.row) h.live t (w.drewN n) (H.drewN n).liveAt hs (live_len H.few)
  generalize liveV h.off h.row = lv at L S
  generalize upToP t h.live = u at S
  generalize h.blk = hb at L
  clear H hs
  go_enter Try.func50, Try.ntmps50
  go_wp2_with fail
  refine L.mono ?_
  rintro e w1 ⟨rfl, n, rfl⟩
  clear L
  have S := S n
  unfold pastV at S
  go_wp2_with fail
  refine S.mono ?_
  rintro e w1 ⟨⟨b, rfl⟩, hb⟩
  clear S
  go_wp2_with fail
  go_ret
  exact ⟨rfl, (below_drewN w n).trans hb⟩

theorem row_live {w : World} {row : Value} {all : List Vr} {off : Nat} (hrow : w.ownsRow 0 81 3 row all.length (encVs all)) (ho : off < all.length) : LiveAt w (liveV off row) (all.drop off) := by
  right
  obtain ⟨hl, hr⟩ := hrow
  have hcells : ∀ g, row.ownBlock = some g → _ := fun g => World.ownsRow.cells ⟨hl, hr⟩ (g := g)
  rcases hr with ⟨rfl, hn⟩ | ⟨g, cap, cur, rfl, _, hg, hnc, hcm, _⟩
  · omega
  · refine ⟨g, off * 3, cap - off, ?_, ?_, ?_, (Array.getElem?_eq_some_iff.1 hg).1, fun j x hx => ?_⟩
    · simp [liveV]
    · simp; omega
    · simp; omega
    · rw [List.getElem?_drop] at hx
      obtain ⟨a1, a2, a3⟩ := encVs_get all (off + j) x hx
      have b1 := hcells g rfl _ _ a1
      have b2 := hcells g rfl _ _ a2
      have b3 := hcells g rfl _ _ a3
      rw [cell_add] at b1 b2 b3
      rw [show off * 3 + j * 3 = 0 + (off + j) * 3 by omega, show 0 + (off + j) * 3 + 1 = 0 + ((off + j) * 3 + 1) by omega, show 0 + (off + j) * 3 + 2 = 0 + ((off + j) * 3 + 2) by omega]
      exact ⟨b1, b2, b3⟩

theorem HistAt.rowAt {w : World} {h : Hi} (H : HistAt w h) : LiveAt w h.row h.all := by
  rcases H.off with ho | ⟨_, ha, hr⟩
  · have := row_live (off := 0) H.row (by omega)
    obtain ⟨g, cap, hv, _⟩ := H.row.form (by omega)
    rw [List.drop_zero] at this
    rw [hv] at this ⊢
    simpa [liveV] using this
  · exact .inl ⟨ha, hr⟩

set_option maxHeartbeats 800000 in
theorem waits_any (h : Hi) (w : World) (H : HistAt w h) :
    Calls Try.prog 43 #[.pointer (some ⟨h.blk, 0, none⟩)] w fun e w' => e = .returned (.bool (waitsP h.live)) ∧ ∃ n, w' = w.drewN n := by
  have L := live_any h w H
  have A := fun n => (H.drewN n).liveAt
  generalize liveV h.off h.row = lv at L A
  generalize h.live = l at A
  generalize h.blk = hb at L
  obtain ⟨wv, hwv⟩ : ∃ wv, wv = waitsP l := ⟨_, rfl⟩
  rw [← hwv]
  have hwv : Hid (wv = waitsP l) := hwv
  clear H
  go_enter Try.func43, Try.ntmps43
  go_wp2_with fail
  refine L.mono ?_
  rintro e w1 ⟨rfl, n, rfl⟩
  clear L
  have A := A n
  have hn : ∃ m, w.drewN n = w.drewN m := ⟨n, rfl⟩
  generalize w.drewN n = w1 at A hn
  rcases A with ⟨rfl, rfl⟩ | ⟨g, o, c, rfl, hc, h0, hg, hcell⟩
  · go_wp2_with fail
    go_ret
    exact ⟨by rw [hwv.out]; rfl, hn⟩
  · match l, hc, h0, hcell, hwv with
    | [], hc, h0, hcell, hwv => simp at h0
    | [x], hc, h0, hcell, hwv =>
      obtain ⟨a1, a2, a3⟩ := hcell 0 x rfl
      simp only [Nat.zero_mul, Nat.add_zero] at a1 a2 a3
      clear hcell hc h0
      go_wp2_with fail
      go_ret
      exact ⟨by rw [hwv.out]; rfl, hn⟩
    | x :: y :: l, hc, h0, hcell, hwv =>
      have hl : (1 : Int) < ((x :: y :: l).length : Int) := by simp; omega
      generalize (x :: y :: l).length = ln at hl
      clear hcell hc h0
      go_wp2_with fail
      go_ret
      exact ⟨by rw [hwv.out]; rfl, hn⟩

set_option maxHeartbeats 800000 in
theorem next_any (h : Hi) (w : World) (H : HistAt w h) (hw : waitsP h.live = true) :
    Calls Try.prog 35 #[.pointer (some ⟨h.blk, 0, none⟩)] w fun e w' => e = .returned (.int .i64 (nextP h.live)) ∧ ∃ n, w' = w.drewN n := by
  have L := live_any h w H
  have A := fun n => (H.drewN n).liveAt
  generalize liveV h.off h.row = lv at L A
  generalize h.live = l at A hw
  generalize h.blk = hb at L
  obtain ⟨wv, hwv⟩ : ∃ wv, wv = nextP l := ⟨_, rfl⟩
  rw [← hwv]
  have hwv : Hid (wv = nextP l) := hwv
  clear H
  go_enter Try.func35, Try.ntmps35
  go_wp2_with fail
  refine L.mono ?_
  rintro e w1 ⟨rfl, n, rfl⟩
  clear L
  have A := A n
  have hn : ∃ m, w.drewN n = w.drewN m := ⟨n, rfl⟩
  generalize w.drewN n = w1 at A hn
  rcases A with ⟨rfl, rfl⟩ | ⟨g, o, c, rfl, hc, h0, hg, hcell⟩
  · cases hw
  · match l, hc, h0, hcell, hwv, hw with
    | [], hc, h0, hcell, hwv, hw => simp at h0
    | [x], hc, h0, hcell, hwv, hw =>
      obtain ⟨a1, a2, a3⟩ := hcell 0 x rfl
      simp only [Nat.zero_mul, Nat.add_zero] at a1 a2 a3
      have hg : x.gone = true := hw
      rw [hg] at a3
      clear hcell hc h0 hg hw
      go_wp2_with fail
      go_ret
      exact ⟨by rw [hwv.out]; rfl, hn⟩
    | x :: y :: l, hc, h0, hcell, hwv, hw =>
      have hl : (1 : Int) < ((x :: y :: l).length : Int) := by simp; omega
      have hl0 : (0 : Int) < ((x :: y :: l).length : Int) := by omega
      obtain ⟨a1, a2, a3⟩ := hcell 0 x rfl
      obtain ⟨b1, b2, b3⟩ := hcell 1 y rfl
      simp only [Nat.zero_mul, Nat.add_zero, Nat.one_mul] at a1 a2 a3 b1 b2 b3
      generalize (x :: y :: l).length = ln at hl hl0
      clear hcell hc h0 hw
      cases hg : x.gone with
      | true =>
        rw [hg] at a3
        have hwv : Hid (wv = x.at') := hwv.out.trans (by simp [nextP, hg])
        clear hg
        go_wp2_with fail
        go_ret
        exact ⟨by rw [hwv.out]; rfl, hn⟩
      | false =>
        rw [hg] at a3
        have hwv : Hid (wv = y.at') := hwv.out.trans (by simp [nextP, hg])
        clear hg
        go_wp2_with fail
        go_ret
        exact ⟨by rw [hwv.out]; rfl, hn⟩

def newestP (l : List Vr) : Int := (l.getLast?.map Vr.at').getD 0

set_option maxHeartbeats 800000 in
theorem newest_any (h : Hi) (w : World) (H : HistAt w h) (hl : h.live ≠ []) :
    Calls Try.prog 40 #[.pointer (some ⟨h.blk, 0, none⟩)] w fun e w' => e = .returned (.int .i64 (newestP h.live)) ∧ ∃ n, w' = w.drewN n := by
  have c1 := H.blk.cell (i := 1) (v := h.row) rfl
  have A := H.rowAt
  have hfew := H.few
  obtain ⟨blk, key, row, all, off⟩ := h
  unfold Hi.live at *
  simp only at *
  have ha : 0 < all.length := by
    rcases Nat.eq_zero_or_pos all.length with h0 | h0
    · exact absurd (by rw [List.length_eq_zero_iff.1 h0]; simp) hl
    · exact h0
  obtain ⟨x, hx⟩ : ∃ x, all[all.length - 1]? = some x := ⟨_, List.getElem?_eq_getElem (by omega)⟩
  have hlast : (all.drop off).getLast? = some x := by
    rw [List.getLast?_drop, if_neg, List.getLast?_eq_getElem?, hx]
    intro hle
    exact hl (List.drop_eq_nil_of_le hle)
  have e : newestP (all.drop off) = x.at' := by unfold newestP; rw [hlast]; rfl
  rw [e]
  clear e hlast hl H
  rcases A with ⟨rfl, rfl⟩ | ⟨g, o, c, rfl, hc, h0, hg, hcell⟩
  · simp at ha
  · obtain ⟨a1, a2, a3⟩ := hcell _ x hx
    have hn1 : (all.length : Int) - 1 = ((all.length - 1 : Nat) : Int) := by omega
    clear hcell hx
    generalize all.length - 1 = k at *
    generalize all.length = ln at *
    have hk : (k : Int) < (ln : Int) := by omega
    have hlnI : (ln : Int) < 1000000 := by omega
    have hk0 : (0 : Int) ≤ (k : Int) := by omega
    clear h0 ha hc hfew
    go_enter Try.func40, Try.ntmps40
    go_wp2_with fail
    go_region
    go_wp2_with fail
    go_ret
    exact ⟨rfl, 1, rfl⟩
end Go.Proofs.Ytcnajkclbmddgaa
