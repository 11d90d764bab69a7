/- For every list of numbers the law StoreLast returns true, and the list reads afterwards as before: what was written last is read now, what is gone is not, what was before is read at its stamp. -/
import Derived.Test.YtemhaafaipeioaaRows
import Derived.WalkKit
import Derived.ProofKit
import Derived.OpenShut
import Derived.Carry
import Derived.BigQuiet
import Derived.BigRegion
import Derived.Deep.LoopGhost
import Derived.Lib.QuietBelow
import Derived.Test.YtemhaafaipeioaaKnown
import Derived.Test.YtemhaafaipeioaaArgs
import Derived.Test.YtemhaafaipeioaaWrites
import Derived.Test.YtemhaafaipeioaaLaws
import Derived.Test.YtemhaafaipeioaaLawsL
namespace Go.Proofs.Ytemhaafaipeioaa.storeLast
open Go.ChangeShapes Go.WideShapes Go.ChangeAt Go.RowKit
open Go.ChangeMaps (open_string shut_string)
open Go.Sort (grow)
set_option linter.unusedVariables false
set_option linter.unusedSimpArgs false

theorem own : ownKnob Try.prog.godebug = none := by kernel_rfl

theorem letK_lit : letK 0 = ⟨#[97]⟩ ∧ letK 1 = ⟨#[98]⟩ ∧ letK 2 = ⟨#[99]⟩ ∧ letK 3 = ⟨#[100]⟩ ∧ letK 4 = ⟨#[101]⟩ := ⟨rfl, rfl, rfl, rfl, rfl⟩

/-! ### The walk -/
set_option maxHeartbeats 8000000 in
set_option maxRecDepth 20000 in
theorem walk (v0 : Value) (a0 : List Int) (w0 : InRange a0) (l0 : a0.length ≤ maxLen) (w : World) (s0 : SliceIs w v0 a0) :
    Calls Try.prog 5 #[v0] w fun e w' => e = .returned (.bool true) ∧ Below w.heap.size w w' := by
  have K := known_any w
  obtain ⟨pn, cap, rfl, hns⟩ := s0
  go_enter Try.func5, Try.ntmps5
  go_wp2_with fail
  refine K.mono ?_
  rintro e w1 ⟨rfl, hb1⟩
  clear K
  have N := new_own w.heap.size w w1 10000 (by omega) hb1 hb1.size
  clear hb1
  go_wp2_with fail
  refine N.mono ?_
  rintro e w2 ⟨p, S, rfl, O, ht, hp, -, -⟩
  clear N
  go_wp2_with fail
  have hnl : ¬ (S.lab w2.heap.size).isSome := fun e => by have := O.store.lt _ e; omega
  have O2 := O.later (below_new w2 (.cells (cellsL fun _ => ⟨#[]⟩) 51))
  have hB := Blk.new w2 (cellsL fun _ => ⟨#[]⟩) 51
  have hge : w.heap.size ≤ w2.heap.size := O.size
  have hR : Hid (∃ (S : St) (s : Sto) (L : Nat → ByteArray), Own w.heap.size p w (w2.alloc (.cells (cellsL fun _ => ⟨#[]⟩) 51)) S s ∧ S.tot ≤ 3 * 0 ∧ s.stamp = ((0 : Nat) : Int) ∧ s.all = 10000 ∧ Blk (w2.alloc (.cells (cellsL fun _ => ⟨#[]⟩) 51)) w2.heap.size (cellsL L) 51 ∧ ¬ (S.lab w2.heap.size).isSome ∧ ∀ k, k < 5 → readP s (letK k) s.stamp = seen (L k)) :=
    ⟨S, _, fun _ => ⟨#[]⟩, O2, by omega, rfl, rfl, hB, hnl, fun k hk => rfl⟩
  clear O O2 ht hp hnl hB
  show Code.wp _ _ _ _ (w2.alloc (.cells (cellsL fun _ => ⟨#[]⟩) 51))
  generalize hW : w2.alloc (.cells (cellsL fun _ => ⟨#[]⟩) 51) = W at *
  clear hW
  generalize w2.heap.size = ab at *
  replace hge : Hid (w.heap.size ≤ ab) := hge
  have hns : Hid _ := hns
  have hrg : Hid (InRange a0) := w0
  clear w0 l0
  generalize hln : a0.length = ln
  replace hln : Hid (a0.length = ln) := hln
  go_loopg [5] ln (fun kx s5 wr => ∃ i : Nat, s5 = .int .i64 i ∧ i ≤ ln ∧ ln - i ≤ kx ∧ i ≤ 50 ∧ Hid (∃ (S : St) (s : Sto) (L : Nat → ByteArray), Own w.heap.size p w wr S s ∧ S.tot ≤ 3 * i ∧ s.stamp = ((i : Nat) : Int) ∧ s.all = 10000 ∧ Blk wr ab (cellsL L) 51 ∧ ¬ (S.lab ab).isSome ∧ ∀ k, k < 5 → readP s (letK k) s.stamp = seen (L k)))
  case atStart => exact ⟨0, rfl, Nat.zero_le _, by omega, by omega, hR⟩
  case round =>
    clear hR
    obtain ⟨i, rfl, hi, hg, hi50, Q⟩ := hrel
    by_cases hin : i < ln
    · have hinI : (i : Int) < (ln : Int) := by omega
      have hi0 : (0 : Int) ≤ (i : Int) := by omega
      by_cases h50 : i < 50
      · have h50I : (i : Int) < 50 := by omega
        obtain ⟨x, hx⟩ : ∃ x, a0[i]? = some x := ⟨_, List.getElem?_eq_getElem (by rw [hln.out]; exact hin)⟩
        obtain ⟨S, s, L, O, ht, hst, hall, hB, hl, hch⟩ := Q.out
        obtain ⟨gb, go, rfl, hcell⟩ := hns.out (by rintro rfl; simp at hx)
        have cx : wr.cell? ⟨gb, go + i, none⟩ = some (.int .i64 x) := by
          have := hcell i x hx
          rw [O.below.cell (block_lt this)]; exact this
        have hxr := hrg.out x (List.mem_of_getElem? hx)
        have W1 := within_any x 1073741824 (by omega) (by omega) wr
        obtain ⟨n, hn, hn2⟩ : ∃ n : Nat, x % 1073741824 = (n : Int) ∧ n < 1073741824 := ⟨(x % 1073741824).toNat, by omega, by omega⟩
        rw [hn] at W1
        have WR := writes_any n hn2 wr
        have hxx : Hid (a0[i]? = some x) := hx
        have HN2 : Hid (n < 1073741824) := hn2
        have HX : Hid (-9223372036854775808 ≤ x ∧ x ≤ 9223372036854775807) := hxr
        have HF : Hid (i < ln ∧ i < 50 ∧ ln - i ≤ gk ∧ S.tot ≤ 3 * i ∧ s.stamp = (i : Int) ∧ s.all = 10000) := ⟨hin, h50, hg, ht, hst, hall⟩
        clear hx hcell hxr hn hn2 hi hg hi50 hin h50 ht hst hall Q
        go_wp2_with fail
        refine W1.mono ?_
        rintro e w4 ⟨rfl, rfl⟩
        clear W1
        go_wp2_with fail
        refine WR.mono ?_
        rintro e w5 ⟨u, v, rfl, hb5, hu, -⟩
        clear WR
        obtain ⟨g, c, rfl, hg1, hg2, WS⟩ := ws_own hu (by rw [writes_len]; omega)
        have hws3 : Hid ((writesP n).length ≤ 3 ∧ 0 < (writesP n).length) := by rw [writes_len]; exact ⟨by omega, by omega⟩
        have hwk : Hid (∀ j x, (writesP n)[j]? = some x → x.key = letK (n / 3 + j) ∧ x.key.size = 1 ∧ x.val.size ≤ 1) := fun j x => writes_key
        have hwo : Hid (∀ x ∈ writesP n, WrOk x) := writes_ok
        have hd3 : Hid (n / 3 ≤ 1073741824) := by have := Nat.div_le_self n 3; have := HN2.out; exact (by omega : n / 3 ≤ 1073741824)
        generalize writesP n = ws at *
        generalize n / 3 = nq at *
        have hgl : ¬ (S.lab g).isSome := fun e => by have := O.store.lt g e; omega
        have habw : ab < w4.heap.size := hB.lt
        have hab5 : ab < w5.heap.size := Nat.lt_of_lt_of_le habw hb5.size
        have O5 := O.later hb5
        have hF := HF.out
        have hvl : (s.v.length : Int) ≤ 150 := by have := O.abs.tot; omega
        have hW3 := hws3.out
        have hroom : (s.v.length : Int) + (ws.length : Int) ≤ s.all := by omega
        have hsz : ∀ x ∈ ws, x.key.size ≤ 281474976710656 ∧ x.val.size ≤ 281474976710656 := fun y hy => by
          obtain ⟨j, hj⟩ := List.getElem?_of_mem hy
          obtain ⟨_, h1, h2⟩ := hwk.out j y hj
          omega
        have TN := now_own O5
        have B5 := hB.of_block (hb5.block ab habw)
        have e0 := B5.cell (i := 0) (cellsL_get L (by omega))
        have e1 := B5.cell (i := 1) (cellsL_get L (by omega))
        have e2 := B5.cell (i := 2) (cellsL_get L (by omega))
        have e3 := B5.cell (i := 3) (cellsL_get L (by omega))
        have e4 := B5.cell (i := 4) (cellsL_get L (by omega))
        have HQ5 : Hid _ := And.intro O5 (And.intro WS hroom)
        have HSZ : Hid _ := hsz
        rw [hF.2.2.2.2.1] at TN
        clear hsz hroom hvl hW3 hu hb5 WS O5
        generalize hwl : ws.length = wl at *
        go_wp2_with fail
        refine TN.mono ?_
        rintro e w51 ⟨rfl, rfl⟩
        clear TN
        go_wp2_with fail
        obtain ⟨O5, WS, hroom⟩ := HQ5.out
        have hsz := HSZ.out
        have bn := below_new w51 (.cells (cellsL L) 51)
        have O6 := O5.later bn
        have hqn : ¬ (S.lab w51.heap.size).isSome := fun e => by have := O5.store.lt _ e; omega
        have hBq := Blk.new w51 (cellsL L) 51
        have WS6 := WS.step (fun g' o' e hg' => bn.block g' hg') bn.size
        have hab6 : ab < w51.heap.size := hab5
        have B6 := B5.of_block (bn.block ab hab6)
        clear e0 e1 e2 e3 e4
        show Calls _ _ _ (w51.alloc (.cells (cellsL L) 51)) _
        have hsz6 : w51.heap.size < (w51.alloc (.cells (cellsL L) 51)).heap.size := by simp
        generalize w51.alloc (.cells (cellsL L) 51) = W6 at *
        generalize hqb : w51.heap.size = qb at *
        have CM := commit_own O6 (some ⟨g, 0, none⟩) c ws WS6 (fun g' o' e => by injection e with e; injection e with e1 e2; rw [← e1]; exact hgl) hsz (by have := HF.out; have := hws3.out; omega) (by have := HF.out; omega)
        have hcm : commitP s ws = ((commitP s ws).1, (i : Int) + 1, 0) := by
          unfold commitP
          rw [if_neg (by omega)]
          simp [hF.2.2.2.2.1]
        have hst1 : (commitP s ws).1.stamp = (i : Int) + 1 := by
          unfold commitP
          rw [if_neg (by omega)]
          simp [hF.2.2.2.2.1]
        have hal1 : (commitP s ws).1.all = 10000 := by
          unfold commitP
          rw [if_neg (by omega)]
          exact hF.2.2.2.2.2
        have hch1 : Hid (∀ k, k < 5 → readP (commitP s ws).1 (letK k) ((i : Int) + 1) = seen (setL L ws k)) := fun k hk => by
          have := read_now_commit (ws := ws) O6.abs (by rw [hwl]; exact hroom) L k (hch k hk) hwo.out
          rwa [hF.2.2.2.2.1] at this
        have hch0 : Hid (∀ k, k < 5 → readP (commitP s ws).1 (letK k) (i : Int) = seen (L k)) := fun k hk => by
          rw [read_commit (by omega), ← hF.2.2.2.2.1]
          exact hch k hk
        rw [show (commitP s ws).2.1 = (i : Int) + 1 by rw [hcm], show (commitP s ws).2.2 = 0 by rw [hcm], hwl] at CM
        generalize hs1 : (commitP s ws).1 = s1 at *
        clear hcm hs1 hroom hsz hF hch O O5 WS B5
        have hKEEP : Hid (∀ w7 S1, Own w.heap.size p w w7 S1 s1 → Step W6 w7 S S1 → WsAt w7 (some ⟨g, 0, none⟩) ws ∧ Blk w7 ab (cellsL L) 51 ∧ Blk w7 qb (cellsL L) 51 ∧ ¬ (S1.lab ab).isSome) := fun w7 S1 O1 ST =>
          ⟨WS6.step (fun g' o' e hg' => by injection e with e; injection e with e1 e2; exact ST.only.block g' hg' (by rw [← e1]; exact hgl)) ST.only.size,
           B6.of_block (ST.only.block ab (by omega) hl), hBq.of_block (ST.only.block qb hsz6 hqn), ST.unl (by omega) hl⟩
        have hgab : Hid (g ≠ ab) := by have := hg1; exact (by omega : g ≠ ab)
        have hqab : Hid (ab ≠ qb) := by exact (by omega : ab ≠ qb)
        have HU : Hid (S.tot ≤ 3 * i ∧ i < ln ∧ i < 50 ∧ ln - i ≤ gk) := by have := HF.out; exact ⟨by omega, by omega, by omega, by omega⟩
        clear hl hg1 WS6 B6 hBq hgl O6 hB cx habw hab5 hg2 bn hqn hab6 hsz6 hqb HQ5 HSZ
        refine CM.mono ?_
        rintro e w7 ⟨S1, rfl, O1, ST, ht1, -⟩
        clear CM
        obtain ⟨WS7, B7, Q7, hl7⟩ := hKEEP.out w7 S1 O1 ST
        have hA0 : setL L (ws.take 0) = L := by
          funext k
          simp [setL]
        have hT1 : Hid (S1.tot ≤ 3 * (i + 1) ∧ s1.stamp = (i : Int) + 1 ∧ s1.all = 10000 ∧ ¬ (S1.lab ab).isSome) := ⟨by have := HF.out; have := hws3.out; omega, hst1, hal1, hl7⟩
        have TN := now_own O1
        rw [hst1] at TN
        have hQ1 : Hid (Own w.heap.size p w w7 S1 s1 ∧ Blk w7 ab (cellsL (setL L (ws.take 0))) 51 ∧ Blk w7 qb (cellsL L) 51 ∧ WsAt w7 (some ⟨g, 0, none⟩) ws) := ⟨O1, by rw [hA0]; exact B7, Q7, WS7⟩
        clear O1 ST ht1 WS7 B7 Q7 hl7 hKEEP hst1 hal1 hA0
        replace hwl : Hid (ws.length = wl) := hwl
        go_wp2_with fail
        refine TN.mono ?_
        rintro e w71 ⟨rfl, rfl⟩
        clear TN
        go_wp2_with fail
        go_loopg [12] wl (fun kx s12 wr => ∃ j : Nat, s12 = .int .i64 j ∧ j ≤ wl ∧ wl - j ≤ kx ∧ Hid (Own w.heap.size p w wr S1 s1 ∧ Blk wr ab (cellsL (setL L (ws.take j))) 51 ∧ Blk wr qb (cellsL L) 51 ∧ WsAt wr (some ⟨g, 0, none⟩) ws))
        case atStart => exact ⟨0, rfl, Nat.zero_le _, by omega, hQ1⟩
        case round =>
          clear hQ1
          obtain ⟨j, rfl, hj, hgj, Qj⟩ := hrel
          by_cases hjl : j < wl
          · have hjI : (j : Int) < (wl : Int) := by omega
            have hj0 : (0 : Int) ≤ (j : Int) := by omega
            have hj3 : (j : Int) < 3 := by have := hws3.out; have := hwl.out; omega
            obtain ⟨Oj, Bj, Qqj, WSj⟩ := Qj.out
            obtain ⟨y, hy⟩ : ∃ y, ws[j]? = some y := ⟨_, List.getElem?_eq_getElem (by rw [hwl.out]; exact hjl)⟩
            obtain ⟨g', o', e, hg', hcell⟩ := WSj.cells (by rw [hwl.out]; omega)
            obtain ⟨y1, y2, y3⟩ := hcell j y hy
            injection e with e
            injection e with e1 e2
            subst e1 e2
            rw [Nat.zero_add] at y1 y2
            clear y3 hcell hg'
            obtain ⟨hyk, hys, -⟩ := hwk.out j y hy
            obtain ⟨m, hm5, hym⟩ : ∃ m, m < 5 ∧ y.key = letK m := ⟨(nq + j) % 5, by omega, by rw [hyk]; exact letK_mod _⟩
            rw [hym] at y1
            have hbm := Bj.cell (i := m) (cellsL_get _ hm5)
            have hfm := Bj.thawed m
            have HJ : Hid (j < wl ∧ wl - j ≤ gk) := ⟨hjl, hgj⟩
            have hT := hT1.out
            have Q2 : Hid (Own w.heap.size p w (wr.setCell ⟨ab, m, none⟩ (.string y.val)) S1 s1 ∧ Blk (wr.setCell ⟨ab, m, none⟩ (.string y.val)) ab (cellsL (setL L (ws.take (j + 1)))) 51 ∧ Blk (wr.setCell ⟨ab, m, none⟩ (.string y.val)) qb (cellsL L) 51 ∧ WsAt (wr.setCell ⟨ab, m, none⟩ (.string y.val)) (some ⟨g, 0, none⟩) ws) := by
              refine ⟨Oj.poke _ _ hge.out hT.2.2.2, ?_, ?_, ?_⟩
              · have htk : ws.take (j + 1) = ws.take j ++ [y] := by rw [List.take_add_one, hy]; rfl
                rw [htk, ← cellsL_set _ _ _ m hm5 hym]
                exact Bj.set m _
              · exact Qqj.of_block (Below.heap_setCell _ _ _ _ (Ne.symm hqab.out))
              · exact WSj.step (fun g' o' e hg' => by injection e with e; injection e with e1 e2; exact Below.heap_setCell _ _ _ _ (by rw [← e1]; exact hgab.out)) (by simp [World.setCell])
            have Q3 : Hid (Own w.heap.size p w (wr.setCell ⟨ab, m, none⟩ (.string y.val)).drew S1 s1 ∧ Blk (wr.setCell ⟨ab, m, none⟩ (.string y.val)).drew ab (cellsL (setL L (ws.take (j + 1)))) 51 ∧ Blk (wr.setCell ⟨ab, m, none⟩ (.string y.val)).drew qb (cellsL L) 51 ∧ WsAt (wr.setCell ⟨ab, m, none⟩ (.string y.val)).drew (some ⟨g, 0, none⟩) ws) :=
              ⟨Q2.out.1.later ((Below.refl _ _).drew), Q2.out.2.1, Q2.out.2.2.1, Q2.out.2.2.2.step (fun _ _ _ _ => rfl) (Nat.le_refl _)⟩
            clear Q2 Oj Bj Qqj WSj hT Qj hj hgj hjl hy hyk hys hym
            generalize y.val = yv at *
            obtain ⟨k0, k1, k2, k3, k4⟩ := letK_lit
            rcases (by omega : m = 0 ∨ m = 1 ∨ m = 2 ∨ m = 3 ∨ m = 4) with rfl | rfl | rfl | rfl | rfl
            all_goals
              clear hm5
              first | rw [k0] at y1 | rw [k1] at y1 | rw [k2] at y1 | rw [k3] at y1 | rw [k4] at y1
              clear k0 k1 k2 k3 k4
              have b97 : ∀ (v : UInt8) (h : 0 < (⟨#[v]⟩ : ByteArray).size), (⟨#[v]⟩ : ByteArray)[0]'h = v := fun _ _ => rfl
              have c97 : ∀ (v : UInt8) (h : 0 < (⟨#[v]⟩ : ByteArray).size), ((⟨#[v]⟩ : ByteArray).get 0 h) = v := fun _ _ => rfl
              have d97 : ∀ (v : UInt8), ((⟨#[v]⟩ : ByteArray).get! 0) = v := fun _ => rfl
              go_wp2_with fail
              go_region
              go_wp2_with fail
              obtain ⟨hJ1, hJ2⟩ := HJ.out
              clear y1 y2 hbm hfm
              go_roundg (wl - (j + 1))
              case rel => exact ⟨j + 1, by go_num, by omega, Nat.le_refl _, Q3⟩
              case measure => omega
          · obtain rfl : j = wl := by omega
            have hQ2 : Hid (Own w.heap.size p w wr S1 s1 ∧ Blk wr ab (cellsL (setL L ws)) 51 ∧ Blk wr qb (cellsL L) 51) := by
              have h := Qj.out
              have htk : ws.take j = ws := List.take_of_length_le (by rw [hwl.out]; exact Nat.le_refl _)
              rw [htk] at h
              exact ⟨h.1, h.2.1, h.2.2.1⟩
            clear Qj hj hgj hjl
            clear hwl hws3 hwk hwo hd3 hln
            generalize hA2 : setL L ws = L2 at *
            clear hA2
            go_wp2_with fail
            go_loopg [13] 5 (fun kx s13 wr => ∃ j : Nat, s13 = .int .i64 j ∧ j ≤ 5 ∧ 5 - j ≤ kx ∧ Hid (Own w.heap.size p w wr S1 s1 ∧ Blk wr ab (cellsL L2) 51 ∧ Blk wr qb (cellsL L) 51))
            case atStart => exact ⟨0, rfl, by omega, by omega, hQ2⟩
            case round =>
              clear hQ2
              obtain ⟨j, rfl, hj, hgj, Qj⟩ := hrel
              obtain ⟨Oj, Bj, Qqj⟩ := Qj.out
              by_cases hj5 : j < 5
              · have hj5I : (j : Int) < 5 := by omega
                have hj0 : (0 : Int) ≤ (j : Int) := by omega
                have SL := fun w => slice_key j hj5 w
                have HJ : Hid (j < 5 ∧ 5 - j ≤ gk) := ⟨hj5, hgj⟩
                have R1 := read_own Oj (letK j) ((i : Int) + 1) (by show (1 : Nat) ≤ _; unfold maxLen; omega)
                rw [hch1.out j hj5] at R1
                have hK2 : Hid (∀ w8, Below wr.heap.size wr w8 → Calls Try.prog 24 #[.pointer (some ⟨p, 0, none⟩), .string (letK j), .int .i64 (i : Int)] w8 fun e w' => e = .returned (.tuple #[.string (seen (L j)).1, .bool (seen (L j)).2]) ∧ Below w8.heap.size w8 w') := fun w8 hb => by
                  have := read_own (Oj.later hb) (letK j) (i : Int) (by show (1 : Nat) ≤ _; unfold maxLen; omega)
                  rwa [hch0.out j hj5] at this
                have hK3 : Hid (∀ w8, Below wr.heap.size wr w8 → Own w.heap.size p w w8 S1 s1 ∧ Blk w8 ab (cellsL L2) 51 ∧ Blk w8 qb (cellsL L) 51) := fun w8 hb => ⟨Oj.later hb, Bj.of_block (hb.block _ Bj.lt), Qqj.of_block (hb.block _ Qqj.lt)⟩
                have hg5 : ∀ (M : Nat → ByteArray), (cellsL M)[j]? = some (.string (M j)) := fun M => cellsL_get M hj5
                replace hg5 : Hid _ := hg5
                clear Qj hj hgj hj5 Oj Bj Qqj
                unfold seen at R1
                go_wp2_with fail
                refine R1.mono ?_
                rintro e w8 ⟨rfl, hb8⟩
                clear R1
                have R2 := hK2.out w8 hb8
                unfold seen at R2
                go_wp2_with fail
                refine R2.mono ?_
                rintro e w9 ⟨rfl, hb9⟩
                clear R2
                have hb : Below wr.heap.size wr w9 := hb8.trans (hb9.mono hb8.size)
                have HQn := hK3.out w9 hb
                have l2 := HQn.2.1.cell (i := j) (hg5.out L2)
                have l1 := HQn.2.2.cell (i := j) (hg5.out L)
                replace HQn : Hid _ := HQn
                clear hb8 hb9 hb hK2 hK3 hg5 SL
                generalize L2 j = lj at *
                generalize L j = kj at *
                obtain ⟨f1, f2⟩ := HJ.out
                by_cases he : lj = ⟨#[]⟩
                · subst he
                  go_wp2_with fail
                  go_roundg (5 - (j + 1))
                  case rel => exact ⟨j + 1, by go_num, by omega, Nat.le_refl _, HQn⟩
                  case measure => omega
                · have hd0 : decide (lj = ⟨#[]⟩) = false := decide_eq_false he
                  have hd2 : lj.toList ≠ [] := fun h => he (by
                    rw [ByteArray.toList_eq] at h
                    cases lj
                    congr 1
                    exact Array.toList_inj.1 (by simpa using h))
                  have hd3 : (lj.toList == []) = false := by simpa using hd2
                  have hd4 : (lj.toList == (⟨#[]⟩ : ByteArray).toList) = false := by rw [ByteArray.toList_eq ⟨#[]⟩]; exact hd3
                  go_wp2_with fail
                  go_roundg (5 - (j + 1))
                  case rel => exact ⟨j + 1, by go_num, by omega, Nat.le_refl _, HQn⟩
                  case measure => omega
              · obtain rfl : j = 5 := by omega
                have hU := HU.out
                have hT := hT1.out
                have QN : Hid (∃ (S : St) (s : Sto) (L : Nat → ByteArray), Own w.heap.size p w wr S s ∧ S.tot ≤ 3 * (i + 1) ∧ s.stamp = ((i + 1 : Nat) : Int) ∧ s.all = 10000 ∧ Blk wr ab (cellsL L) 51 ∧ ¬ (S.lab ab).isSome ∧ ∀ k, k < 5 → readP s (letK k) s.stamp = seen (L k)) :=
                  ⟨S1, s1, L2, Oj, hT.1, by rw [hT.2.1]; omega, hT.2.2.1, Bj, hT.2.2.2, fun k hk => by rw [hT.2.1]; exact hch1.out k hk⟩
                obtain ⟨-, f1, f2, f3⟩ := hU
                clear Qj Oj Bj Qqj hT hj5 hj hgj
                go_wp2_with fail
                go_roundg (ln - (i + 1))
                case rel => exact ⟨i + 1, by go_num, by omega, Nat.le_refl _, by omega, QN⟩
                case measure => omega
      · have hex : Hid (Below w.heap.size w wr) := by
          obtain ⟨_, _, _, O, _⟩ := Q.out
          exact O.below
        have h50I : ¬ ((i : Int) < 50) := by omega
        clear Q hi hg hi50 hin h50
        go_wp2_with fail
        go_ret
        exact ⟨rfl, hex.out⟩
    · have hex : Hid (Below w.heap.size w wr) := by
        obtain ⟨_, _, _, O, _⟩ := Q.out
        exact O.below
      have hinI : ¬ ((i : Int) < (ln : Int)) := by omega
      clear Q hi hg hi50 hin
      go_wp2_with fail
      go_ret
      exact ⟨rfl, hex.out⟩

/-! ### The row's step -/
set_option maxRecDepth 100000 in
theorem lifted (os : Os) (started : os.Started) (H : Type) (enc : TypeId × Value → H) :
    ReturnsInHanded {} Try.checked os 5 .any (Rows.storeLastSpec.pre6 enc Try.prog Try.f5 Rows.storeLastRow.domain false) (Rows.storeLastSpec.post enc Try.prog Try.f5 false true false false) := by
  refine returnsInHanded_of_change (C := Try.checked) own started (by kernel_rfl) Try.func5
    (ChangeSpec.witness6 (enc := enc) (C := Try.checked) false ⟨#[], #[.slice none 0 0], []⟩ 8 (by kernel_rfl) (by kernel_rfl) (by kernel_rfl) (by kernel_rfl)) ?_
  intro W base args ds gs before hval0 hW hcnd _
  have hval : ∀ (j : Nat) t v, Try.f5.params[j]? = some t → args[j]? = some v → Value.okWide Try.prog W .any base t v := hval0
  have hW' := hW
  obtain ⟨p, q, hA0, hV, rfl, hfz, hnd⟩ := hW
  have hA : DataW.TrodAll enc Try.prog W 0 (fun _ => true) true Try.f5.params.toList args.toList ds p := hA0
  rw [Try.params5] at hA hval
  obtain ⟨v0, vs0, d0, ds0, p0, q0, hargs, rfl, rfl, h0, r0⟩ := trodAll_cons hA
  obtain ⟨rfl, rfl, rfl⟩ := trodAll_nil r0
  obtain rfl : args = #[v0] := by cases args; simp_all
  obtain ⟨rfl, rfl⟩ := trodVars_none hV
  have k0 := h0
  obtain ⟨a0, s0, w0, l0⟩ := open_ints' (hval 0 22 v0 rfl rfl) h0
  clear hA0 hval0
  simp only [List.append_nil, List.nil_append] at hW'
  have hlt : ∀ x ∈ p0, x.block < W.heap.size := fun x hx => by simpa using hW'.lt x (by simpa [or_assoc] using hx)
  refine (walk v0 a0 w0 l0 W s0).mono fun e W' ⟨he, hg⟩ => ?_
  subst he
  exact ⟨_, rfl, _, _, _, [], _, [], hW', (trodAll_cons_mk (shut_bool Try.underlying4 _) trodAll_mk0), (trodAll_cons_mk (Below.trod laidOut (by kernel_rfl) (of_decide_eq_true (by kernel_rfl)) k0 hg (fun x hx => hlt x (by simp [hx]))) trodAll_mk0), rfl, hg.frame _, fun h => by cases h⟩

theorem row : Rows.StoreLastSaid :=
  OpenClaim.holds_of_wide 5 Try.f5 rfl rfl rfl rfl rfl rfl rfl ⟨rfl, rfl, rfl, rfl, rfl⟩ rfl rfl rfl rfl rfl (by kernel_rfl) Try.func5 (by kernel_rfl)
    (of_decide_eq_true (by kernel_rfl)) (by unfold Func.isWrapper; first | (rw [if_pos (by decide +kernel)]; kernel_rfl) | (rw [if_neg (by decide +kernel)]; exact ⟨rfl, rfl⟩))
    (fun os started H enc _ => lifted os started H enc)

/-- The statement. -/
theorem proved : Rows.StoreLastSaid :=
  row
#print axioms proved
end Go.Proofs.Ytemhaafaipeioaa.storeLast
