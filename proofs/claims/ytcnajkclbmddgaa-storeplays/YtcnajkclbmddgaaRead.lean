/- A history read, made longer. -/
import Derived.Test.YtcnajkclbmddgaaLooks
import Derived.Test.YtcnajkclbmddgaaEShelf
import Derived.Deep.AppendLies
import Derived.Lib.QuietBelow
import Derived.Deep.RegionLaw
import Derived.BigQuiet
namespace Go.Proofs.Ytcnajkclbmddgaa
open Go.ChangeShapes Go.WideShapes Go.ChangeAt Go.RowKit
open Go.Sort (grow)
set_option linter.unusedVariables false
set_option linter.unusedSimpArgs false

theorem block_lt {w : World} {a : Addr} {v : Value} (hc : w.cell? a = some v) : a.block < w.heap.size := World.block_lt_of_cell? w a hc
theorem kept_cell {w w' : World} (h : Below w.heap.size w w') {a : Addr} {v : Value} (hc : w.cell? a = some v) : w'.cell? a = some v := by
  rw [h.cell (block_lt hc)]; exact hc
theorem kept_thawed {w w' : World} (h : Below w.heap.size w w') {a : Addr} (ha : a.block < w.heap.size) (hc : w.frozen? a = false) : w'.frozen? a = false := by
  rw [h.frozen ha]; exact hc
theorem kept_alloc {w : World} {o : Obj} {a : Addr} {v : Value} (h : w.cell? a = some v) : (w.alloc o).cell? a = some v := kept_cell ((Below.refl _ _).alloc (Nat.le_refl _) _) h
theorem grown_of_below {w w' : World} (h : Below w.heap.size w w') (row : Option Nat) : w.grownBy w' row := ⟨h.os, h.tape, h.output, h.size, fun k hk _ => h.block k hk⟩
theorem info_ver : (Try.prog.info? 81).map (fun i => (i.zero, i.size, i.bytes)) = some (some (.agg #[.int .i64 0, .string ⟨#[]⟩, .bool false]), 3, 32) := by kernel_rfl

theorem clone_any (s : ByteArray) (hs : s.size ≤ 281474976710656) (w : World) : Calls Try.prog 41 #[.string s] w fun e w' => e = .returned (.string s) ∧ Below w.heap.size w w' := by
  have C : Calls Try.prog 51 #[.string s] w fun e w' => e = .returned (.string s) ∧ Below w.heap.size w w' := Try.stringslite_Clone s w hs
  clear hs
  go_enter Try.func41, Try.ntmps41
  go_wp2_with fail
  refine C.mono ?_
  rintro e w2 ⟨rfl, hb⟩
  go_wp2_with fail
  go_ret
  exact ⟨rfl, hb⟩

def readL (t : Int) (l : List Vr) : ByteArray × Bool :=
  match upToP t l with
  | 0 => (ByteArray.empty, false)
  | k + 1 => match l[k]? with
    | some x => (x.val, !x.gone)
    | none => (ByteArray.empty, false)

theorem upTo_le (t : Int) (l : List Vr) : upToP t l ≤ l.length := List.countP_le_length

set_option maxHeartbeats 800000 in
theorem empty_any (h : Hi) (w : World) (H : HistAt w h) :
    Calls Try.prog 49 #[.pointer (some ⟨h.blk, 0, none⟩)] w fun e w' => e = .returned (.bool h.live.isEmpty) ∧ ∃ n, w' = w.drewN n := by
  have L := live_any h w H
  have A := fun n => (H.drewN n).liveAt
  generalize liveV h.off h.row = lv at L A
  generalize h.live = l at A
  generalize h.blk = hb at L
  have e1 : l.isEmpty = ((l.length : Int) == 0) := by
    cases l with
    | nil => rfl
    | cons x l => simp; omega
  rw [e1]
  obtain ⟨ev, hev⟩ : ∃ ev, ev = ((l.length : Int) == 0) := ⟨_, rfl⟩
  rw [← hev]
  have hev : Hid (ev = ((l.length : Int) == 0)) := hev
  clear H e1
  go_enter Try.func49, Try.ntmps49
  go_wp2_with fail
  refine L.mono ?_
  rintro e w1 ⟨rfl, n, rfl⟩
  clear L
  obtain ⟨a, c, rfl, -, -⟩ := (A n).atL
  clear A
  generalize l.length = ln at hev
  go_wp2_with fail
  go_ret
  exact ⟨by rw [hev.out]; rfl, n, rfl⟩

set_option maxHeartbeats 1600000 in
theorem hread_any (h : Hi) (t : Int) (w : World) (H : HistAt w h) (hs : Rise h.live) (hsz : ∀ x ∈ h.live, x.val.size ≤ 281474976710656) :
    Calls Try.prog 39 #[.pointer (some ⟨h.blk, 0, none⟩), .int .i64 t] w fun e w' => e = .returned (.tuple #[.string (readL t h.live).1, .bool (readL t h.live).2]) ∧ Below w.heap.size w w' := by
  replace hsz : Hid (∀ x ∈ h.live, x.val.size ≤ 281474976710656) := hsz
  have U := upTo_any h t w H hs
  have LL := fun w1 (H1 : HistAt w1 h) => live_any h w1 H1
  have hlt : h.blk < w.heap.size := H.blk.lt
  have HB : ∀ w1, Below w.heap.size w w1 → HistAt w1 h := fun w1 hb => H.of_block (hb.block _ hlt) (fun g hg => hb.block _ (H.row.lt g hg).2)
  have AA := fun w1 (H1 : HistAt w1 h) => H1.liveAt
  obtain ⟨rv, hrv⟩ : ∃ rv, rv = readL t h.live := ⟨_, rfl⟩
  rw [← hrv]
  have hrv : Hid (rv = readL t h.live) := hrv
  have hfew := live_len H.few
  have hle := upTo_le t h.live
  have hread : ∀ k, upToP t h.live = k + 1 → ∃ x, h.live[k]? = some x ∧ rv = (x.val, !x.gone) := by
    intro k hk
    have hkl : k < h.live.length := by omega
    refine ⟨h.live[k], List.getElem?_eq_getElem hkl, ?_⟩
    rw [hrv.out]
    unfold readL
    rw [hk]
    simp [List.getElem?_eq_getElem hkl]
  have hzero : upToP t h.live = 0 → rv = (ByteArray.empty, false) := by
    intro hk
    rw [hrv.out]
    unfold readL
    rw [hk]
  generalize liveV h.off h.row = lv at LL AA
  generalize hu : upToP t h.live = u at *
  clear hu hrv H hs
  generalize h.live = l at *
  generalize hbk : h.blk = hb at *
  go_enter Try.func39, Try.ntmps39
  go_wp2_with fail
  refine U.mono ?_
  rintro e w1 ⟨rfl, hb1⟩
  clear U
  by_cases hu0 : u = 0
  · subst hu0
    obtain rfl := hzero rfl
    clear hzero hread LL HB AA hle hfew hsz
    go_wp2_with fail
    exact bodyPost_ret (v := .tuple #[.string ⟨#[]⟩, .bool false]) (by simp [results, Try.results39, go_sem]) rfl ⟨rfl, hb1⟩
  · obtain ⟨k, hk⟩ : ∃ k, u = k + 1 := ⟨u - 1, by omega⟩
    obtain ⟨x, hx, rfl⟩ := hread k hk
    have L := LL w1 (HB w1 hb1)
    replace hsz : Hid (x.val.size ≤ 281474976710656) := hsz.out x (List.mem_of_getElem? hx)
    have A := fun n => AA (w1.drewN n) ((HB w1 hb1).drewN n)
    have HK : Hid (u = k + 1 ∧ k < l.length ∧ l.length < 1000000) := ⟨hk, by have := (List.getElem?_eq_some_iff.1 hx).1; exact this, hfew⟩
    have hun : ¬ ((u : Int) = 0) := by omega
    clear LL HB AA hread hzero hle hfew hrv hk hu0
    go_wp2_with fail
    refine L.mono ?_
    rintro e w2 ⟨rfl, n, rfl⟩
    clear L
    have hb2 : Below w.heap.size w (w1.drewN n) := hb1.trans ((below_drewN w1 n).mono hb1.size)
    have A := A n
    generalize w1.drewN n = w2 at A hb2
    clear hb1
    rcases A with ⟨rfl, _⟩ | ⟨g, o, c, rfl, _, _, hg, hcell⟩
    · simp at hx
    · obtain ⟨a1, a2, a3⟩ := hcell k x hx
      clear hcell hx
      obtain ⟨hk1, hk2, hk3⟩ := HK.out
      generalize l.length = ln at *
      have hk1 : (u : Int) - 1 = (k : Int) := by omega
      have hkI : (k : Int) < (ln : Int) := by omega
      have hk0 : (0 : Int) ≤ (k : Int) := by omega
      have hlI : (ln : Int) < 1000000 := by omega
      clear HK hk2 hk3
      go_wp2_with fail
      have hb3 : Below w.heap.size w (w2.alloc (.cells #[.int .i64 x.at', .string x.val, .bool x.gone] 81)) := hb2.alloc hb2.size _
      have d0 : (w2.alloc (.cells #[.int .i64 x.at', .string x.val, .bool x.gone] 81)).cell? ⟨w2.heap.size, 1, none⟩ = some (.string x.val) := (Blk.new w2 _ _).cell (i := 1) rfl
      have d1 : (w2.alloc (.cells #[.int .i64 x.at', .string x.val, .bool x.gone] 81)).cell? ⟨w2.heap.size, 2, none⟩ = some (.bool x.gone) := (Blk.new w2 _ _).cell (i := 2) rfl
      clear a1 a2 a3 hb2 hk1 hkI hk0 hlI A hun
      generalize w2.alloc (.cells #[.int .i64 x.at', .string x.val, .bool x.gone] 81) = w3 at *
      generalize w2.heap.size = xb at *
      have e0 := cell_regrown d0
      have e1 := cell_regrown d1
      have Q0 := fun d os => Calls.regrown_of (clone_any x.val hsz.out (grow (redrawn w3 d) os))
      clear hsz
      refine wp_region_quiet_below (by kernel_rfl) (by kernel_rfl) ?_
      repeat (quiet_step (first | with_reducible exact Q0 _ _))
      refine wpQuiet_nil ?_
      intro _ hw'
      obtain ⟨⟨dq, osq⟩, hw''⟩ := hw'
      subst hw''
      have hb4 := below_regrown w3 dq osq
      clear Q0 e0 e1
      generalize grow (redrawn w3 dq) osq = w4 at *
      go_wp2_with fail
      exact bodyPost_ret (v := .tuple #[.string x.val, .bool (!x.gone)]) (by simp [results, Try.results39, go_sem]) rfl ⟨rfl, hb3.trans (hb4.mono hb3.size)⟩

set_option maxHeartbeats 1600000 in
/-- One version more. -/
theorem add_any (h : Hi) (x : Vr) (w : World) (H : HistAt w h) (hf : h.all.length < 999999) :
    Calls Try.prog 44 #[.pointer (some ⟨h.blk, 0, none⟩), .agg #[.int .i64 x.at', .string x.val, .bool x.gone]] w fun e w' => e = .returned (.tuple #[]) ∧
      ∃ row, HistAt w' { h with row := row, all := h.all ++ [x] } ∧ Only (fun k => k = h.blk ∨ h.row.ownBlock = some k) w w' ∧ ∀ g, row.ownBlock = some g → h.row.ownBlock = some g ∨ w.heap.size ≤ g := by
  obtain ⟨blk, key, row, all, off⟩ := h
  simp only at *
  have c1 := H.blk.cell (i := 1) (v := row) rfl
  have f1 := H.blk.thawed 1
  have hblk := H.blk
  have hrow := H.row
  have hX : blk < w.heap.size := H.blk.lt
  have hkey := H.key
  have hoff := H.off
  simp only at hblk hrow hkey hoff
  have hne : row.ownBlock ≠ some blk := by
    intro e
    rcases hrow.2 with ⟨rfl, _⟩ | ⟨g, cap, cur, rfl, _, hg, _⟩
    · cases e
    · simp [Value.ownBlock] at e
      subst e
      rw [hblk] at hg
      simp at hg
  have hoff2 : off ≤ all.length := by rcases hoff with h | ⟨h, _⟩ <;> omega
  clear H hoff
  obtain ⟨i0, hi0, hz0, hz2, hz3⟩ := info_parts info_ver
  go_enter Try.func44, Try.ntmps44
  go_wp2_with fail
  have B1 := below_new w (.cells #[.int .i64 x.at', .string x.val, .bool x.gone] 81)
  have x0 : (w.alloc (.cells #[.int .i64 x.at', .string x.val, .bool x.gone] 81)).cell? ⟨w.heap.size, 0, none⟩ = some (.int .i64 x.at') := (Blk.new w _ _).cell (i := 0) rfl
  have x1 : (w.alloc (.cells #[.int .i64 x.at', .string x.val, .bool x.gone] 81)).cell? ⟨w.heap.size, 1, none⟩ = some (.string x.val) := (Blk.new w _ _).cell (i := 1) rfl
  have x2 : (w.alloc (.cells #[.int .i64 x.at', .string x.val, .bool x.gone] 81)).cell? ⟨w.heap.size, 2, none⟩ = some (.bool x.gone) := (Blk.new w _ _).cell (i := 2) rfl
  have hs : (w.alloc (.cells #[.int .i64 x.at', .string x.val, .bool x.gone] 81)).heap.size = w.heap.size + 1 := by simp
  generalize w.alloc (.cells #[.int .i64 x.at', .string x.val, .bool x.gone] 81) = w1 at *
  have c1 := kept_cell B1 c1
  have f1 := kept_thawed B1 hX f1
  have hrow1 := row_thru hrow (fun g hg => B1.block g (hrow.lt g hg).2)
  have hXX : blk ≠ w.heap.size := by omega
  have hXw1 : blk < w1.heap.size := by omega
  have c1d : w1.drew.cell? ⟨blk, 1, none⟩ = some row := c1
  have f1d : w1.drew.frozen? ⟨blk, 1, none⟩ = false := f1
  generalize hXb : w.heap.size = X at *
  clear hs
  go_region_law
    (first
      | (refine step_append_lies _ (by rfl) _ _ _ (by rfl) 0 81 i0 _ 3 32 Try.underlying87 hi0 hz0 hz2 hz3 rfl (by omega) row all.length (encVs all) (by rfl) (hrow1.drew.alloc _)
          ⟨w1.heap.size, 0, none⟩ 1 1 [.int .i64 x.at', .string x.val, .bool x.gone] (by rfl) (by rfl) (World.news_of_block (cs := #[.int .i64 x.at', .string x.val, .bool x.gone]) (t := 81) (fr := (0, 0)) (heap_alloc_new w1.drew _)) (by simp [Value.oneCell']) (by omega) (by unfold maxLen; omega) (by omega) (Nat.zero_le _) (w1.heap.size + 1) (by simp) ?_; intro gg cap w6 hown6 hgrow hat hlt6; have x6 := hgrow.cell (kept_alloc c1d) (Ne.symm hne); have th6 : w6.frozen? ⟨blk, 1, none⟩ = false := (hgrow.frozen_far ⟨blk, 1, none⟩ (Nat.lt_of_lt_of_le hXw1 (by simp)) (Ne.symm hne)).trans (kept_thawed ((Below.refl _ _).alloc (Nat.le_refl _) _) hXw1 f1d)))
  all_goals
    clear c1d f1d c1 f1 x0 x1 x2
    have O1 : Only (fun k => k = blk ∨ row.ownBlock = some k) w w6 := by
      have g1 : (w1.alloc (Obj.cells #[.int .i64 x.at', .string x.val, .bool x.gone] 81)).grownBy w6 row.ownBlock := ⟨hgrow.os, hgrow.tape, hgrow.output, hgrow.size, hgrow.block⟩
      have b2 := B1.alloc (by have := B1.size; omega) (Obj.cells #[.int .i64 x.at', .string x.val, .bool x.gone] 81)
      refine ⟨g1.os.trans b2.os, g1.tape.trans b2.tape, g1.output.trans b2.output, Nat.le_trans b2.size g1.size, fun k hk hn => ?_⟩
      rw [hXb] at hk
      rw [g1.block k (by have := b2.size; omega) (fun e => hn (.inr e.symm)), b2.block k hk]
    have O2 : Only (fun k => k = blk ∨ row.ownBlock = some k) w (w6.setCell ⟨blk, 1, none⟩ (.slice (some ⟨gg, 0, none⟩) (all.length + 1) cap)) :=
      ⟨O1.os, O1.tape, O1.output, by simp [World.setCell]; exact O1.size, fun k hk hn => (Below.heap_setCell _ _ _ _ (fun e => hn (.inl e))).trans (O1.block k hk hn)⟩
    have hb6 : Blk w6 blk #[.string key, row, .int .i64 off] 91 := hblk.of_block ((hgrow.block blk (by simp; omega) (Ne.symm hne)).trans ((below_new w1 _).block blk hXw1 |>.trans (B1.block blk hX)))
    have hb7 : Blk (w6.setCell ⟨blk, 1, none⟩ (.slice (some ⟨gg, 0, none⟩) (all.length + 1) cap)) blk #[.string key, .slice (some ⟨gg, 0, none⟩) (all.length + 1) cap, .int .i64 off] 91 := hb6.set 1 _
    have hgb : blk ≠ gg := by
      rintro rfl
      rcases hat with h | h
      · exact hne h
      · omega
    have hr7 := ownsRow_setCell_other hown6 (a := ⟨blk, 1, none⟩) (by simpa [Value.ownBlock] using Ne.symm hgb) (.slice (some ⟨gg, 0, none⟩) (all.length + 1) cap)
    go_wp2_with fail
    go_end0
    refine ⟨rfl, _, ⟨hb7, ?_, .inl ?_, ?_, hkey⟩, O2, ?_⟩
    · simp only [encVs_append, List.length_append, List.length_cons, List.length_nil]
      exact hr7
    · simp; omega
    · simp; omega
    · intro g hg
      simp [Value.ownBlock] at hg
      subst hg
      rcases hat with h | h
      · exact .inl h
      · right
        have := B1.size
        omega
end Go.Proofs.Ytcnajkclbmddgaa
