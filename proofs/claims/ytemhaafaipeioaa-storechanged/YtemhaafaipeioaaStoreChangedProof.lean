/- For every list of numbers the law StoreChanged returns true, and the list reads afterwards as before: a key has changed since a stamp just if it was written behind that. -/
import Derived.Test.YtemhaafaipeioaaRows
import Derived.WalkKit
import Derived.ProofKit
import Derived.OpenShut
import Derived.Carry
import Derived.BigQuiet
import Derived.BigRegion
import Derived.Deep.LoopGhost
import Derived.Lib.QuietBelow
import Derived.Test.YtemhaafaipeioaaKnown
import Derived.Test.YtemhaafaipeioaaArgs
import Derived.Test.YtemhaafaipeioaaWrites
import Derived.Test.YtemhaafaipeioaaLaws
namespace Go.Proofs.Ytemhaafaipeioaa.storeChanged
open Go.ChangeShapes Go.WideShapes Go.ChangeAt Go.RowKit
open Go.ChangeMaps (open_string shut_string)
open Go.Sort (grow)
set_option linter.unusedVariables false
set_option linter.unusedSimpArgs false

theorem own : ownKnob Try.prog.godebug = none := by kernel_rfl

theorem letK_lit : letK 0 = ⟨#[97]⟩ ∧ letK 1 = ⟨#[98]⟩ ∧ letK 2 = ⟨#[99]⟩ ∧ letK 3 = ⟨#[100]⟩ ∧ letK 4 = ⟨#[101]⟩ := ⟨rfl, rfl, rfl, rfl, rfl⟩

/-! ### The walk -/
set_option maxHeartbeats 8000000 in
set_option maxRecDepth 20000 in
theorem walk (v0 : Value) (a0 : List Int) (w0 : InRange a0) (l0 : a0.length ≤ maxLen) (w : World) (s0 : SliceIs w v0 a0) :
    Calls Try.prog 6 #[v0] w fun e w' => e = .returned (.bool true) ∧ Below w.heap.size w w' := by
  have K := known_any w
  obtain ⟨pn, cap, rfl, hns⟩ := s0
  go_enter Try.func6, Try.ntmps6
  go_wp2_with fail
  refine K.mono ?_
  rintro e w1 ⟨rfl, hb1⟩
  clear K
  have N := new_own w.heap.size w w1 10000 (by omega) hb1 hb1.size
  clear hb1
  go_wp2_with fail
  refine N.mono ?_
  rintro e w2 ⟨p, S, rfl, O, ht, hp, -, -⟩
  clear N
  go_wp2_with fail
  have hnl : ¬ (S.lab w2.heap.size).isSome := fun e => by have := O.store.lt _ e; omega
  have O2 := O.later (below_new w2 (.cells (cellsA fun _ => 0) 55))
  have hB := Blk.new w2 (cellsA fun _ => 0) 55
  have hge : w.heap.size ≤ w2.heap.size := O.size
  have hR : Hid (∃ (S : St) (s : Sto) (A : Nat → Int), Own w.heap.size p w (w2.alloc (.cells (cellsA fun _ => 0) 55)) S s ∧ S.tot ≤ 3 * 0 ∧ s.stamp = ((0 : Nat) : Int) ∧ s.all = 10000 ∧ Blk (w2.alloc (.cells (cellsA fun _ => 0) 55)) w2.heap.size (cellsA A) 55 ∧ ¬ (S.lab w2.heap.size).isSome ∧ ∀ k, k < 5 → ∀ since, 0 ≤ since → changedP s (letK k) since = decide (since < A k)) :=
    ⟨S, _, fun _ => 0, O2, by omega, rfl, rfl, hB, hnl, fun k hk since hs => by simp [changedP, lastP]; omega⟩
  clear O O2 ht hp hnl hB
  show Code.wp _ _ _ _ (w2.alloc (.cells (cellsA fun _ => 0) 55))
  generalize hW : w2.alloc (.cells (cellsA fun _ => 0) 55) = W at *
  clear hW
  generalize w2.heap.size = ab at *
  replace hge : Hid (w.heap.size ≤ ab) := hge
  have hns : Hid _ := hns
  have hrg : Hid (InRange a0) := w0
  clear w0 l0
  generalize hln : a0.length = ln
  replace hln : Hid (a0.length = ln) := hln
  go_loopg [5] ln (fun kx s5 wr => ∃ i : Nat, s5 = .int .i64 i ∧ i ≤ ln ∧ ln - i ≤ kx ∧ i ≤ 50 ∧ Hid (∃ (S : St) (s : Sto) (A : Nat → Int), Own w.heap.size p w wr S s ∧ S.tot ≤ 3 * i ∧ s.stamp = ((i : Nat) : Int) ∧ s.all = 10000 ∧ Blk wr ab (cellsA A) 55 ∧ ¬ (S.lab ab).isSome ∧ ∀ k, k < 5 → ∀ since, 0 ≤ since → changedP s (letK k) since = decide (since < A k)))
  case atStart => exact ⟨0, rfl, Nat.zero_le _, by omega, by omega, hR⟩
  case round =>
    clear hR
    obtain ⟨i, rfl, hi, hg, hi50, Q⟩ := hrel
    by_cases hin : i < ln
    · have hinI : (i : Int) < (ln : Int) := by omega
      have hi0 : (0 : Int) ≤ (i : Int) := by omega
      by_cases h50 : i < 50
      · have h50I : (i : Int) < 50 := by omega
        obtain ⟨x, hx⟩ : ∃ x, a0[i]? = some x := ⟨_, List.getElem?_eq_getElem (by rw [hln.out]; exact hin)⟩
        obtain ⟨S, s, A, O, ht, hst, hall, hB, hl, hch⟩ := Q.out
        obtain ⟨gb, go, rfl, hcell⟩ := hns.out (by rintro rfl; simp at hx)
        have cx : wr.cell? ⟨gb, go + i, none⟩ = some (.int .i64 x) := by
          have := hcell i x hx
          rw [O.below.cell (block_lt this)]; exact this
        have hxr := hrg.out x (List.mem_of_getElem? hx)
        have W1 := within_any x 1073741824 (by omega) (by omega) wr
        obtain ⟨n, hn, hn2⟩ : ∃ n : Nat, x % 1073741824 = (n : Int) ∧ n < 1073741824 := ⟨(x % 1073741824).toNat, by omega, by omega⟩
        rw [hn] at W1
        have WR := writes_any n hn2 wr
        have hxx : Hid (a0[i]? = some x) := hx
        have HN2 : Hid (n < 1073741824) := hn2
        have HX : Hid (-9223372036854775808 ≤ x ∧ x ≤ 9223372036854775807) := hxr
        have HF : Hid (i < ln ∧ i < 50 ∧ ln - i ≤ gk ∧ S.tot ≤ 3 * i ∧ s.stamp = (i : Int) ∧ s.all = 10000) := ⟨hin, h50, hg, ht, hst, hall⟩
        clear hx hcell hxr hn hn2 hi hg hi50 hin h50 ht hst hall Q
        go_wp2_with fail
        refine W1.mono ?_
        rintro e w4 ⟨rfl, rfl⟩
        clear W1
        go_wp2_with fail
        refine WR.mono ?_
        rintro e w5 ⟨u, v, rfl, hb5, hu, -⟩
        clear WR
        obtain ⟨g, c, rfl, hg1, hg2, WS⟩ := ws_own hu (by rw [writes_len]; omega)
        have hws3 : Hid ((writesP n).length ≤ 3 ∧ 0 < (writesP n).length) := by rw [writes_len]; exact ⟨by omega, by omega⟩
        have hwk : Hid (∀ j x, (writesP n)[j]? = some x → x.key = letK (n / 3 + j) ∧ x.key.size = 1 ∧ x.val.size ≤ 1) := fun j x => writes_key
        have hd3 : Hid (n / 3 ≤ 1073741824) := by have := Nat.div_le_self n 3; have := HN2.out; exact (by omega : n / 3 ≤ 1073741824)
        generalize writesP n = ws at *
        generalize n / 3 = nq at *
        have hgl : ¬ (S.lab g).isSome := fun e => by have := O.store.lt g e; omega
        have habw : ab < w4.heap.size := hB.lt
        have hab5 : ab < w5.heap.size := Nat.lt_of_lt_of_le habw hb5.size
        have O5 := O.later hb5
        have hF := HF.out
        have hvl : (s.v.length : Int) ≤ 150 := by have := O.abs.tot; omega
        have hW3 := hws3.out
        have hroom : (s.v.length : Int) + (ws.length : Int) ≤ s.all := by omega
        have hsz : ∀ x ∈ ws, x.key.size ≤ 281474976710656 ∧ x.val.size ≤ 281474976710656 := fun y hy => by
          obtain ⟨j, hj⟩ := List.getElem?_of_mem hy
          obtain ⟨_, h1, h2⟩ := hwk.out j y hj
          omega
        have CM := commit_own O5 (some ⟨g, 0, none⟩) c ws WS (fun g' o' e => by injection e with e; injection e with e1 e2; rw [← e1]; exact hgl) hsz (by omega) (by omega)
        have hcm : commitP s ws = ((commitP s ws).1, (i : Int) + 1, 0) := by
          unfold commitP
          rw [if_neg (by omega)]
          simp [hF.2.2.2.2.1]
        have hst1 : (commitP s ws).1.stamp = (i : Int) + 1 := by
          unfold commitP
          rw [if_neg (by omega)]
          simp [hF.2.2.2.2.1]
        have hal1 : (commitP s ws).1.all = 10000 := by
          unfold commitP
          rw [if_neg (by omega)]
          exact hF.2.2.2.2.2
        have hch1 : Hid (∀ k, k < 5 → ∀ since, 0 ≤ since → changedP (commitP s ws).1 (letK k) since = decide (since < setA ((i : Int) + 1) A ws k)) := fun k hk => by
          have := changed_commit O.abs hroom A k (hch k hk)
          rwa [hF.2.2.2.2.1] at this
        rw [show (commitP s ws).2.1 = (i : Int) + 1 by rw [hcm], show (commitP s ws).2.2 = 0 by rw [hcm]] at CM
        generalize hs1 : (commitP s ws).1 = s1 at *
        replace hg1 : Hid (w4.heap.size ≤ g) := hg1
        clear hcm hs1 hvl hroom hsz hF hch hu O
        have hKEEP : Hid (∀ w6 S1, Own w.heap.size p w w6 S1 s1 → Step w5 w6 S S1 → WsAt w6 (some ⟨g, 0, none⟩) ws ∧ Blk w6 ab (cellsA A) 55 ∧ ¬ (S1.lab ab).isSome) := fun w6 S1 O1 ST =>
          ⟨WS.step (fun g' o' e hg' => by injection e with e; injection e with e1 e2; exact ST.only.block g' hg' (by rw [← e1]; exact hgl)) ST.only.size,
           (hB.of_block (hb5.block ab habw)).of_block (ST.only.block ab hab5 hl), ST.unl hab5 hl⟩
        have hkeepc : ∀ w6 S1, Own w.heap.size p w w6 S1 s1 → w6.cell? ⟨gb, go + i, none⟩ = some (.int .i64 x) := fun w6 S1 O1 => by
          have h1 : w.cell? ⟨gb, go + i, none⟩ = some (.int .i64 x) := by
            obtain ⟨b', o', e, hcell⟩ := hns.out (by rintro rfl; have := HF.out; have := hln.out; simp at this; omega)
            injection e with e
            injection e with e1 e2
            subst e1 e2
            exact hcell i x hxx.out
          rw [O1.below.cell (block_lt h1)]; exact h1
        replace hkeepc : Hid _ := hkeepc
        have hl' : Hid (¬ (S.lab ab).isSome) := hl
        have hgab : Hid (g ≠ ab) := by have := hg1.out; exact (by omega : g ≠ ab)
        clear hl hg1 WS hB hgl O5 hb5 hW3 cx habw hab5 hg2
        generalize hwl : ws.length = wl at CM
        go_wp2_with fail
        refine CM.mono ?_
        rintro e w6 ⟨S1, rfl, O1, ST, ht1, -⟩
        clear CM
        obtain ⟨WS6, B6, hl6⟩ := hKEEP.out w6 S1 O1 ST
        have hA0 : setA ((i : Int) + 1) A (ws.take 0) = A := by
          funext k
          simp [setA]
        have hQ1 : Hid (Own w.heap.size p w w6 S1 s1 ∧ Blk w6 ab (cellsA (setA ((i : Int) + 1) A (ws.take 0))) 55 ∧ WsAt w6 (some ⟨g, 0, none⟩) ws) := ⟨O1, by rw [hA0]; exact B6, WS6⟩
        clear hA0
        have hT1 : Hid (S1.tot ≤ 3 * (i + 1) ∧ s1.stamp = (i : Int) + 1 ∧ s1.all = 10000 ∧ ¬ (S1.lab ab).isSome) := ⟨by have := HF.out; have := hws3.out; omega, hst1, hal1, hl6⟩
        clear O1 ST ht1 WS6 B6 hl6 hKEEP hl' hst1 hal1
        replace hwl : Hid (ws.length = wl) := hwl
        go_wp2_with fail
        go_loopg [10] wl (fun kx s10 wr => ∃ j : Nat, s10 = .int .i64 j ∧ j ≤ wl ∧ wl - j ≤ kx ∧ Hid (Own w.heap.size p w wr S1 s1 ∧ Blk wr ab (cellsA (setA ((i : Int) + 1) A (ws.take j))) 55 ∧ WsAt wr (some ⟨g, 0, none⟩) ws))
        case atStart => exact ⟨0, rfl, Nat.zero_le _, by omega, hQ1⟩
        case round =>
          clear hQ1
          obtain ⟨j, rfl, hj, hgj, Qj⟩ := hrel
          by_cases hjl : j < wl
          · have hjI : (j : Int) < (wl : Int) := by omega
            have hj0 : (0 : Int) ≤ (j : Int) := by omega
            have hj3 : (j : Int) < 3 := by have := hws3.out; have := hwl.out; omega
            obtain ⟨Oj, Bj, WSj⟩ := Qj.out
            obtain ⟨y, hy⟩ : ∃ y, ws[j]? = some y := ⟨_, List.getElem?_eq_getElem (by rw [hwl.out]; exact hjl)⟩
            obtain ⟨g', o', e, hg', hcell⟩ := WSj.cells (by rw [hwl.out]; omega)
            obtain ⟨y1, y2, y3⟩ := hcell j y hy
            injection e with e
            injection e with e1 e2
            subst e1 e2
            rw [Nat.zero_add] at y1
            clear y2 y3 hcell hg'
            obtain ⟨hyk, hys, -⟩ := hwk.out j y hy
            obtain ⟨m, hm5, hym⟩ : ∃ m, m < 5 ∧ y.key = letK m := ⟨(nq + j) % 5, by omega, by rw [hyk]; exact letK_mod _⟩
            rw [hym] at y1
            have hbm := Bj.cell (i := m) (cellsA_get _ hm5)
            have hfm := Bj.thawed m
            have HY : Hid (ws[j]? = some y ∧ y.key = letK m ∧ m < 5) := ⟨hy, hym, hm5⟩
            have HJ : Hid (j < wl ∧ wl - j ≤ gk) := ⟨hjl, hgj⟩
            have hmI : (m : Int) < 5 := by omega
            have hm0 : (0 : Int) ≤ (m : Int) := by omega
            clear Qj hj hgj hjl hy hyk hys hym hmI hm0
            have hH := HY.out
            have hT := hT1.out
            have Q2 : Hid (Own w.heap.size p w (wr.setCell ⟨ab, m, none⟩ (.int .i64 ((i : Int) + 1))) S1 s1 ∧ Blk (wr.setCell ⟨ab, m, none⟩ (.int .i64 ((i : Int) + 1))) ab (cellsA (setA ((i : Int) + 1) A (ws.take (j + 1)))) 55 ∧ WsAt (wr.setCell ⟨ab, m, none⟩ (.int .i64 ((i : Int) + 1))) (some ⟨g, 0, none⟩) ws) := by
              refine ⟨Oj.poke _ _ hge.out hT.2.2.2, ?_, ?_⟩
              · have htk : ws.take (j + 1) = ws.take j ++ [y] := by rw [List.take_add_one, hH.1]; rfl
                rw [htk, ← cellsA_set _ _ _ _ m hH.2.2 hH.2.1]
                exact Bj.set m _
              · exact WSj.step (fun g' o' e hg' => by injection e with e; injection e with e1 e2; exact Below.heap_setCell _ _ _ _ (by rw [← e1]; exact hgab.out)) (by simp [World.setCell])
            clear Oj Bj WSj hH hT HY
            obtain ⟨k0, k1, k2, k3, k4⟩ := letK_lit
            rcases (by omega : m = 0 ∨ m = 1 ∨ m = 2 ∨ m = 3 ∨ m = 4) with rfl | rfl | rfl | rfl | rfl
            all_goals
              clear hm5
              first | rw [k0] at y1 | rw [k1] at y1 | rw [k2] at y1 | rw [k3] at y1 | rw [k4] at y1
              clear k0 k1 k2 k3 k4
              have b97 : ∀ (v : UInt8) (h : 0 < (⟨#[v]⟩ : ByteArray).size), (⟨#[v]⟩ : ByteArray)[0]'h = v := fun _ _ => rfl
              have c97 : ∀ (v : UInt8) (h : 0 < (⟨#[v]⟩ : ByteArray).size), ((⟨#[v]⟩ : ByteArray).get 0 h) = v := fun _ _ => rfl
              have d97 : ∀ (v : UInt8), ((⟨#[v]⟩ : ByteArray).get! 0) = v := fun _ => rfl
              go_wp2_with fail
              obtain ⟨hJ1, hJ2⟩ := HJ.out
              clear y1 hbm hfm
              go_roundg (wl - (j + 1))
              case rel => exact ⟨j + 1, by go_num, by omega, Nat.le_refl _, Q2⟩
              case measure => omega
          · obtain rfl : j = wl := by omega
            have hQ2 : Hid (Own w.heap.size p w wr S1 s1 ∧ Blk wr ab (cellsA (setA ((i : Int) + 1) A ws)) 55) := by
              have h := Qj.out
              have htk : ws.take j = ws := List.take_of_length_le (by rw [hwl.out]; exact Nat.le_refl _)
              rw [htk] at h
              exact ⟨h.1, h.2.1⟩
            clear Qj hj hgj hjl
            clear hwl hws3 hwk hd3 hln
            generalize hA2 : setA ((i : Int) + 1) A ws = A2 at *
            clear hA2
            have cxx := hkeepc.out
            have hstart : Hid (∃ wr, Own w.heap.size p w wr S1 s1 ∧ Blk wr ab (cellsA A2) 55) := ⟨wr, hQ2.out⟩
            go_wp2_with fail
            go_loopg [11] 5 (fun kx s11 wr => ∃ j : Nat, s11 = .int .i64 j ∧ j ≤ 5 ∧ 5 - j ≤ kx ∧ Hid (Own w.heap.size p w wr S1 s1 ∧ Blk wr ab (cellsA A2) 55))
            case atStart => exact ⟨0, rfl, by omega, by omega, hQ2⟩
            case round =>
              clear hQ2 hstart cxx
              obtain ⟨j, rfl, hj, hgj, Qj⟩ := hrel
              obtain ⟨Oj, Bj⟩ := Qj.out
              by_cases hj5 : j < 5
              · have hj5I : (j : Int) < 5 := by omega
                have hj0 : (0 : Int) ≤ (j : Int) := by omega
                have cx := hkeepc.out wr S1 Oj
                have SL := slice_key j hj5 wr
                have hbj := Bj.cell (i := j) (cellsA_get _ hj5)
                have HJ : Hid (j < 5 ∧ 5 - j ≤ gk) := ⟨hj5, hgj⟩
                clear SL
                have SL := fun w => slice_key j hj5 w
                have HC : Hid (∀ since n, 0 ≤ since → Calls Try.prog 27 #[.pointer (some ⟨p, 0, none⟩), .string (letK j), .int .i64 since] (wr.drewN n) fun e w' => e = .returned (.bool (decide (since < A2 j))) ∧ ∃ m, w' = (wr.drewN n).drewN m) := fun since n hs => by
                  have := changed_own (Oj.later (below_drewN wr n)) (letK j) since (by show (1 : Nat) ≤ _; unfold maxLen; omega)
                  rw [hch1.out j hj5 since hs] at this
                  exact this
                have hyw := iwrap ((j : Int) + 1) (by omega) (by omega)
                have WI := fun y => within_any y ((i : Int) + 1 + 1) (by omega) (by omega) wr
                have QK : Hid (∀ n, Own w.heap.size p w (wr.drewN n) S1 s1 ∧ Blk (wr.drewN n) ab (cellsA A2) 55) := fun n => ⟨Oj.later (below_drewN wr n), Bj⟩
                clear Qj hj hgj hj5 Oj Bj
                go_wp2_with fail
                generalize wrap64 (x.tdiv 7) = yy
                refine (WI yy).mono ?_
                rintro e w8 ⟨rfl, rfl⟩
                clear WI
                obtain ⟨since, hsc, hs0⟩ : ∃ since, yy % ((i : Int) + 1 + 1) = since ∧ 0 ≤ since := ⟨_, rfl, Int.emod_nonneg _ (by omega)⟩
                rw [hsc]
                clear hsc
                have CH := fun n => HC.out since n hs0
                clear HC
                generalize A2 j = aj at *
                go_wp2_with fail
                go_big_quiet ((go_at_call 27; exact Calls.quiet_of (CH _)))
                clear CH SL hyw cx hbj
                have HQn : Hid _ := QK.out nq
                clear QK
                generalize w8.drewN nq = w9 at *
                obtain ⟨f1, f2⟩ := HJ.out
                go_wp2_with fail
                go_roundg (5 - (j + 1))
                case rel => exact ⟨j + 1, by go_num, by omega, Nat.le_refl _, HQn⟩
                case measure => omega
              · obtain rfl : j = 5 := by omega
                have hF := HF.out
                have hT := hT1.out
                have QN : Hid (∃ (S : St) (s : Sto) (A : Nat → Int), Own w.heap.size p w wr S s ∧ S.tot ≤ 3 * (i + 1) ∧ s.stamp = ((i + 1 : Nat) : Int) ∧ s.all = 10000 ∧ Blk wr ab (cellsA A) 55 ∧ ¬ (S.lab ab).isSome ∧ ∀ k, k < 5 → ∀ since, 0 ≤ since → changedP s (letK k) since = decide (since < A k)) :=
                  ⟨S1, s1, A2, Oj, hT.1, by rw [hT.2.1]; omega, hT.2.2.1, Bj, hT.2.2.2, hch1.out⟩
                obtain ⟨f1, f2, f3, -, -, -⟩ := hF
                clear Qj Oj Bj hT hj5 hj hgj
                go_wp2_with fail
                go_roundg (ln - (i + 1))
                case rel => exact ⟨i + 1, by go_num, by omega, Nat.le_refl _, by omega, QN⟩
                case measure => omega
      · have hex : Hid (Below w.heap.size w wr) := by
          obtain ⟨_, _, _, O, _⟩ := Q.out
          exact O.below
        have h50I : ¬ ((i : Int) < 50) := by omega
        clear Q hi hg hi50 hin h50
        go_wp2_with fail
        go_ret
        exact ⟨rfl, hex.out⟩
    · have hex : Hid (Below w.heap.size w wr) := by
        obtain ⟨_, _, _, O, _⟩ := Q.out
        exact O.below
      have hinI : ¬ ((i : Int) < (ln : Int)) := by omega
      clear Q hi hg hi50 hin
      go_wp2_with fail
      go_ret
      exact ⟨rfl, hex.out⟩

/-! ### The row's step -/
set_option maxRecDepth 100000 in
theorem lifted (os : Os) (started : os.Started) (H : Type) (enc : TypeId × Value → H) :
    ReturnsInHanded {} Try.checked os 6 .any (Rows.storeChangedSpec.pre6 enc Try.prog Try.f6 Rows.storeChangedRow.domain false) (Rows.storeChangedSpec.post enc Try.prog Try.f6 false true false false) := by
  refine returnsInHanded_of_change (C := Try.checked) own started (by kernel_rfl) Try.func6
    (ChangeSpec.witness6 (enc := enc) (C := Try.checked) false ⟨#[], #[.slice none 0 0], []⟩ 8 (by kernel_rfl) (by kernel_rfl) (by kernel_rfl) (by kernel_rfl)) ?_
  intro W base args ds gs before hval0 hW hcnd _
  have hval : ∀ (j : Nat) t v, Try.f6.params[j]? = some t → args[j]? = some v → Value.okWide Try.prog W .any base t v := hval0
  have hW' := hW
  obtain ⟨p, q, hA0, hV, rfl, hfz, hnd⟩ := hW
  have hA : DataW.TrodAll enc Try.prog W 0 (fun _ => true) true Try.f6.params.toList args.toList ds p := hA0
  rw [Try.params6] at hA hval
  obtain ⟨v0, vs0, d0, ds0, p0, q0, hargs, rfl, rfl, h0, r0⟩ := trodAll_cons hA
  obtain ⟨rfl, rfl, rfl⟩ := trodAll_nil r0
  obtain rfl : args = #[v0] := by cases args; simp_all
  obtain ⟨rfl, rfl⟩ := trodVars_none hV
  have k0 := h0
  obtain ⟨a0, s0, w0, l0⟩ := open_ints' (hval 0 22 v0 rfl rfl) h0
  clear hA0 hval0
  simp only [List.append_nil, List.nil_append] at hW'
  have hlt : ∀ x ∈ p0, x.block < W.heap.size := fun x hx => by simpa using hW'.lt x (by simpa [or_assoc] using hx)
  refine (walk v0 a0 w0 l0 W s0).mono fun e W' ⟨he, hg⟩ => ?_
  subst he
  exact ⟨_, rfl, _, _, _, [], _, [], hW', (trodAll_cons_mk (shut_bool Try.underlying4 _) trodAll_mk0), (trodAll_cons_mk (Below.trod laidOut (by kernel_rfl) (of_decide_eq_true (by kernel_rfl)) k0 hg (fun x hx => hlt x (by simp [hx]))) trodAll_mk0), rfl, hg.frame _, fun h => by cases h⟩

theorem row : Rows.StoreChangedSaid :=
  OpenClaim.holds_of_wide 6 Try.f6 rfl rfl rfl rfl rfl rfl rfl ⟨rfl, rfl, rfl, rfl, rfl⟩ rfl rfl rfl rfl rfl (by kernel_rfl) Try.func6 (by kernel_rfl)
    (of_decide_eq_true (by kernel_rfl)) (by unfold Func.isWrapper; first | (rw [if_pos (by decide +kernel)]; kernel_rfl) | (rw [if_neg (by decide +kernel)]; exact ⟨rfl, rfl⟩))
    (fun os started H enc _ => lifted os started H enc)

/-- The statement. -/
theorem proved : Rows.StoreChangedSaid :=
  row
#print axioms proved
end Go.Proofs.Ytemhaafaipeioaa.storeChanged
