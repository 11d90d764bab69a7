/- For every list of numbers (nil too) and every number, with no condition, StoreCleans holds: with nothing pinned there is, cleaned, one version of each key that is there, and no other; cleaned again nothing goes; it changes nothing that was there. -/
import Derived.Test.YtcnajkclbmddgaaRows
import Derived.WalkKit
import Derived.ProofKit
import Derived.OpenShut
import Derived.Carry
import Derived.BigQuiet
import Derived.BigRegion
import Derived.Deep.LoopGhost
import Derived.Lib.QuietBelow
import Derived.Test.YtcnajkclbmddgaaLawsP
import Derived.Test.YtcnajkclbmddgaaLawsF
import Derived.Test.YtcnajkclbmddgaaLawsC
namespace Go.Proofs.Ytcnajkclbmddgaa.storeCleans
open Go.ChangeShapes Go.WideShapes Go.ChangeAt Go.RowKit
open Go.ChangeMaps (open_string shut_string)
open Go.Sort (grow)
set_option linter.unusedVariables false
set_option linter.unusedSimpArgs false

theorem own : ownKnob Try.prog.godebug = none := by kernel_rfl

theorem letK_lit : letK 0 = ⟨#[97]⟩ ∧ letK 1 = ⟨#[98]⟩ ∧ letK 2 = ⟨#[99]⟩ ∧ letK 3 = ⟨#[100]⟩ ∧ letK 4 = ⟨#[101]⟩ := ⟨rfl, rfl, rfl, rfl, rfl⟩

theorem text_ne {b : ByteArray} (he : ¬ b = ⟨#[]⟩) : (b.toList == []) = false ∧ (b.toList == (⟨#[]⟩ : ByteArray).toList) = false := by
  have hd2 : b.toList ≠ [] := fun h => he (by
    rw [ByteArray.toList_eq] at h
    cases b
    congr 1
    exact Array.toList_inj.1 (by simpa using h))
  have hd3 : (b.toList == []) = false := by simpa using hd2
  exact ⟨hd3, by rw [ByteArray.toList_eq ⟨#[]⟩]; exact hd3⟩

/-! ### The walk -/
set_option maxHeartbeats 8000000 in
set_option maxRecDepth 20000 in
theorem walk (v0 : Value) (a0 : List Int) (w0 : InRange a0) (l0 : a0.length ≤ maxLen) (a1 : Int) (w1 : (Lit.int .i64 a1).wf = true) (w : World) (s0 : SliceIs w v0 a0) :
    Calls Try.prog 6 #[v0, .int .i64 a1] w fun e w' => e = .returned (.bool true) ∧ Below w.heap.size w w' := by
  have K := known_any w
  obtain ⟨pn, cap, rfl, hns⟩ := s0
  go_enter Try.func6, Try.ntmps6
  go_wp2_with fail
  refine K.mono ?_
  rintro e w1 ⟨rfl, hb1⟩
  clear K
  have N := new_own w.heap.size w w1 10000 (by omega) hb1 hb1.size
  clear hb1
  go_wp2_with fail
  refine N.mono ?_
  rintro e w2 ⟨p, S, rfl, O, ht, hp, -, -⟩
  clear N
  go_wp2_with fail
  have hR : Hid (∃ (L : Nat → ByteArray) (S : St) (s : Sto), Lastly w.heap.size p w2.heap.size w (w2.alloc (.cells (cellsL fun _ => ⟨#[]⟩) 52)) 0 [] L L S s) := ⟨_, S, _, Lastly.start O rfl hp ht⟩
  clear O ht hp
  show Code.wp _ _ _ _ (w2.alloc (.cells (cellsL fun _ => ⟨#[]⟩) 52))
  generalize w2.alloc (.cells (cellsL fun _ => ⟨#[]⟩) 52) = W at *
  generalize w2.heap.size = ab at *
  have hns : Hid _ := hns
  clear w0 w1 l0
  generalize hln : a0.length = ln
  replace hln : Hid (a0.length = ln) := hln
  go_loopg [7] ln (fun kx s7 wr => ∃ i : Nat, s7 = .int .i64 i ∧ i ≤ ln ∧ ln - i ≤ kx ∧ i ≤ 40 ∧ Hid (∃ (L : Nat → ByteArray) (S : St) (s : Sto), Lastly w.heap.size p ab w wr i [] L L S s))
  case atStart => exact ⟨0, rfl, Nat.zero_le _, by omega, by omega, hR⟩
  case round =>
    clear hR
    obtain ⟨i, rfl, hi, hg, hi40, Q⟩ := hrel
    obtain ⟨L, S, s, Q0⟩ := Q.out
    clear Q
    by_cases hgo : i < ln ∧ i < 40
    · have hinI : (i : Int) < (ln : Int) := by omega
      have hi0 : (0 : Int) ≤ (i : Int) := by omega
      have h40I : (i : Int) < 40 := by omega
      obtain ⟨x, hx⟩ : ∃ x, a0[i]? = some x := ⟨_, List.getElem?_eq_getElem (by rw [hln.out]; exact hgo.1)⟩
      obtain ⟨gb, go, rfl, hcell⟩ := hns.out (by rintro rfl; simp at hx)
      have cx : wr.cell? ⟨gb, go + i, none⟩ = some (.int .i64 x) := by
        have := hcell i x hx
        rw [Q0.own.own.below.cell (block_lt this)]; exact this
      have W1 := within_any x 1073741824 (by omega) (by omega) wr
      obtain ⟨n, hn, hn2⟩ : ∃ n : Nat, x % 1073741824 = (n : Int) ∧ n < 1073741824 := ⟨(x % 1073741824).toNat, by omega, by omega⟩
      rw [hn] at W1
      have WR := writes_any n hn2 wr
      have HF : Hid (i < ln ∧ i < 40 ∧ ln - i ≤ gk) := ⟨hgo.1, hgo.2, hg⟩
      replace Q0 : Hid (Lastly w.heap.size p ab w wr i [] L L S s) := Q0
      clear hx hcell hn hn2 hi hg hi40 hgo
      go_wp2_with fail
      refine W1.mono ?_
      rintro e w4 ⟨rfl, rfl⟩
      clear W1
      go_wp2_with fail
      refine WR.mono ?_
      rintro e w5 ⟨u, v, rfl, hb5, hu, -⟩
      clear WR
      obtain ⟨g, c, hux, hg1, hg2, WS⟩ := ws_own hu (by rw [writes_len]; omega)
      have CM := Q0.out.commit (by have := HF.out; omega) hb5 hu
      have hgl : ¬ (S.lab g).isSome := fun e => by have := Q0.out.own.own.store.lt g e; omega
      have hgab : Hid (g ≠ ab) := by have := Q0.out.blk.lt; exact (by omega : g ≠ ab)
      subst hux
      have hws3 : Hid ((writesP n).length ≤ 3 ∧ 0 < (writesP n).length) := by rw [writes_len]; exact ⟨by omega, by omega⟩
      have hwk : Hid (∀ j x, (writesP n)[j]? = some x → x.key = letK (n / 3 + j) ∧ x.key.size = 1 ∧ x.val.size ≤ 1) := fun j x => writes_key
      generalize writesP n = ws at *
      generalize n / 3 = nq at *
      replace CM := CM.mono (fun e w' h => by
        obtain ⟨h1, S', s', h2, T⟩ := h
        exact (⟨h1, ⟨⟨S', s', h2⟩, WS.step (fun g' o' e hg' => by injection e with e; injection e with e1 e2; exact T.only.block g' hg' (by rw [← e1]; exact hgl)) T.only.size⟩⟩ : (∃ v, e = .returned (.tuple #[v, .int .i64 0])) ∧ Hid ((∃ (S' : St) (s' : Sto), Lastly w.heap.size p ab w w' (i + 1) [] (setL L ws) L S' s') ∧ WsAt w' (some ⟨g, 0, none⟩) ws)))
      clear hu hb5 Q0 WS hgl hg1 hg2
      generalize hwl : ws.length = wl at *
      replace hwl : Hid (ws.length = wl) := hwl
      go_wp2_with fail
      refine CM.mono ?_
      rintro e w6 ⟨⟨v6, rfl⟩, Q6⟩
      clear CM
      go_wp2_with fail
      have hA0 : setL L (ws.take 0) = L := by
        funext k
        simp [setL]
      replace Q6 : Hid ((∃ (S' : St) (s' : Sto), Lastly w.heap.size p ab w w6 (i + 1) [] (setL L ws) (setL L (ws.take 0)) S' s') ∧ WsAt w6 (some ⟨g, 0, none⟩) ws) := by rw [hA0]; exact Q6
      clear hA0 cx
      go_loopg [10] wl (fun kx s10 wr => ∃ j : Nat, s10 = .int .i64 j ∧ j ≤ wl ∧ wl - j ≤ kx ∧ Hid ((∃ (S' : St) (s' : Sto), Lastly w.heap.size p ab w wr (i + 1) [] (setL L ws) (setL L (ws.take j)) S' s') ∧ WsAt wr (some ⟨g, 0, none⟩) ws))
      case atStart => exact ⟨0, rfl, Nat.zero_le _, by omega, Q6⟩
      case round =>
        clear Q6
        obtain ⟨j, rfl, hj, hgj, Qj⟩ := hrel
        by_cases hjl : j < wl
        · have hjI : (j : Int) < (wl : Int) := by omega
          have hj0 : (0 : Int) ≤ (j : Int) := by omega
          have hj3 : (j : Int) < 3 := by have := hws3.out; have := hwl.out; omega
          obtain ⟨⟨S6, s6, Oj⟩, WSj⟩ := Qj.out
          obtain ⟨y, hy⟩ : ∃ y, ws[j]? = some y := ⟨_, List.getElem?_eq_getElem (by rw [hwl.out]; exact hjl)⟩
          obtain ⟨g', o', e, hg', hcell⟩ := WSj.cells (by rw [hwl.out]; omega)
          obtain ⟨y1, y2, y3⟩ := hcell j y hy
          injection e with e
          injection e with e1 e2
          subst e1 e2
          rw [Nat.zero_add] at y1 y2
          clear y3 hcell hg'
          obtain ⟨hyk, hys, -⟩ := hwk.out j y hy
          obtain ⟨m, hm5, hym⟩ : ∃ m, m < 5 ∧ y.key = letK m := ⟨(nq + j) % 5, by omega, by rw [hyk]; exact letK_mod _⟩
          have hbm := Oj.blk.cell (i := m) (cellsL_get _ hm5)
          have hfm := Oj.blk.thawed m
          have HJ : Hid (j < wl ∧ wl - j ≤ gk) := ⟨hjl, hgj⟩
          have Q2 : Hid ((∃ (S' : St) (s' : Sto), Lastly w.heap.size p ab w (wr.setCell ⟨ab, m, none⟩ (.string y.val)).drew (i + 1) [] (setL L ws) (setL L (ws.take (j + 1))) S' s') ∧ WsAt (wr.setCell ⟨ab, m, none⟩ (.string y.val)).drew (some ⟨g, 0, none⟩) ws) := by
            have htk : ws.take (j + 1) = ws.take j ++ [y] := by rw [List.take_add_one, hy]; rfl
            rw [htk]
            exact ⟨⟨S6, s6, (Oj.poke y m hm5 hym).later ((Below.refl _ _).drew)⟩, (WSj.step (fun g' o' e hg' => by injection e with e; injection e with e1 e2; exact Below.heap_setCell _ _ _ _ (by rw [← e1]; exact hgab.out)) (by simp [World.setCell])).step (fun _ _ _ _ => rfl) (Nat.le_refl _)⟩
          rw [hym] at y1
          clear Oj WSj Qj hj hgj hjl hy hyk hys hym
          generalize y.val = yv at *
          obtain ⟨k0, k1, k2, k3, k4⟩ := letK_lit
          rcases (by omega : m = 0 ∨ m = 1 ∨ m = 2 ∨ m = 3 ∨ m = 4) with rfl | rfl | rfl | rfl | rfl
          all_goals
            clear hm5
            first | rw [k0] at y1 | rw [k1] at y1 | rw [k2] at y1 | rw [k3] at y1 | rw [k4] at y1
            clear k0 k1 k2 k3 k4
            have b97 : ∀ (v : UInt8) (h : 0 < (⟨#[v]⟩ : ByteArray).size), (⟨#[v]⟩ : ByteArray)[0]'h = v := fun _ _ => rfl
            have c97 : ∀ (v : UInt8) (h : 0 < (⟨#[v]⟩ : ByteArray).size), ((⟨#[v]⟩ : ByteArray).get 0 h) = v := fun _ _ => rfl
            have d97 : ∀ (v : UInt8), ((⟨#[v]⟩ : ByteArray).get! 0) = v := fun _ => rfl
            go_wp2_with fail
            go_region
            go_wp2_with fail
            obtain ⟨hJ1, hJ2⟩ := HJ.out
            clear y1 y2 hbm hfm
            go_roundg (wl - (j + 1))
            case rel => exact ⟨j + 1, by go_num, by omega, Nat.le_refl _, Q2⟩
            case measure => omega
        · obtain rfl : j = wl := by omega
          obtain ⟨⟨S6, s6, O6⟩, -⟩ := Qj.out
          have htk : ws.take j = ws := List.take_of_length_le (by rw [hwl.out]; exact Nat.le_refl _)
          rw [htk] at O6
          have PN := O6.pin
          generalize setL L ws = L2 at *
          replace PN := PN.mono (fun e w' h => by
            obtain ⟨h1, S', s', h2⟩ := h
            exact (⟨h1, ⟨S', s', h2⟩⟩ : e = .returned (.int .i64 ((i + 1 : Nat) : Int)) ∧ Hid (∃ (S' : St) (s' : Sto), Lastly w.heap.size p ab w w' (i + 1) [((i + 1 : Nat) : Int)] L2 L2 S' s')))
          clear Qj hj hgj hjl hwl hws3 hwk htk O6 hgab
          obtain ⟨i1, hi1⟩ : ∃ i1 : Nat, i + 1 = i1 := ⟨_, rfl⟩
          rw [hi1] at PN
          go_wp2_with fail
          refine PN.mono ?_
          rintro e w7 ⟨rfl, Q7⟩
          clear PN
          obtain ⟨S7, s7, O7⟩ := Q7.out
          have UN := O7.unpin (i1 : Int)
          rw [show ([(i1 : Int)].erase (i1 : Int)) = [] by simp] at UN
          replace UN := UN.mono (fun e w' h => by
            obtain ⟨h1, S', s', h2⟩ := h
            exact (⟨h1, ⟨_, S', s', h2⟩⟩ : e = .returned (.tuple #[]) ∧ Hid (∃ (L : Nat → ByteArray) (S : St) (s : Sto), Lastly w.heap.size p ab w w' i1 [] L L S s)))
          clear O7 Q7
          go_wp2_with fail
          refine UN.mono ?_
          rintro e w8 ⟨rfl, Q8⟩
          clear UN
          rw [← hi1] at Q8
          clear hi1
          obtain ⟨f1, f2, f3⟩ := HF.out
          go_wp2_with fail
          go_roundg (ln - (i + 1))
          case rel => exact ⟨i + 1, by go_num, by omega, Nat.le_refl _, by omega, Q8⟩
          case measure => omega
    · have UN := Q0.unpin a1
      rw [show (([] : List Int).erase a1) = [] from rfl] at UN
      replace UN := UN.mono (fun e w' h => by
        obtain ⟨h1, S', s', h2⟩ := h
        exact (⟨h1, ⟨S', s', h2⟩⟩ : e = .returned (.tuple #[]) ∧ Hid (∃ (S : St) (s : Sto), Lastly w.heap.size p ab w w' i [] L L S s)))
      have hiB : Hid (i ≤ 40 ∧ S.tot ≤ 3 * i) := ⟨hi40, Q0.tot⟩
      have hstop : (¬ (i : Int) < (ln : Int)) ∨ ((i : Int) < (ln : Int) ∧ ¬ (i : Int) < 40) := by omega
      clear Q0 hi hg hi40 hgo
      rcases hstop with hinI | ⟨hinI, h40I⟩
      all_goals
        go_wp2_with fail
        refine UN.mono ?_
        rintro e w3 ⟨rfl, Q3⟩
        clear UN hns hln
        obtain ⟨S3, s3, O3⟩ := Q3.out
        clear Q3
        have CN := count_own O3.own.own
        have TN := now_own O3.own.own
        rw [O3.stamp] at TN
        have hv3 : Hid (s3.v.length ≤ 120) := by have := O3.own.own.abs.tot; have := O3.tot; have := hiB.out; exact (by omega : s3.v.length ≤ 120)
        replace O3 : Hid (Lastly w.heap.size p ab w w3 i [] L L S3 s3) := O3
        generalize hvl : s3.v.length = vl at *
        replace hvl : Hid (s3.v.length = vl) := hvl
        go_wp2_with fail
        refine CN.mono ?_
        rintro e w4 ⟨rfl, rfl⟩
        clear CN
        go_wp2_with fail
        refine TN.mono ?_
        rintro e w5 ⟨rfl, rfl⟩
        clear TN
        go_wp2_with fail
        have hQ3 : Hid (w5 = w5) := rfl
        go_loopg [13, 14] 5 (fun kx s13 s14 wr => ∃ j : Nat, s14 = .int .i64 j ∧ s13 = .int .i64 (wantN L j : Nat) ∧ j ≤ 5 ∧ 5 - j ≤ kx ∧ Hid (wr = w5))
        case atStart => exact ⟨0, rfl, rfl, by omega, by omega, hQ3⟩
        case round =>
          clear hQ3
          obtain ⟨j, rfl, rfl, hj, hgj, Qj⟩ := hrel
          obtain rfl := Qj.out
          clear Qj
          by_cases hj5 : j < 5
          · have hj5I : (j : Int) < 5 := by omega
            have hj0 : (0 : Int) ≤ (j : Int) := by omega
            have HJ : Hid (j < 5 ∧ 5 - j ≤ gk) := ⟨hj5, hgj⟩
            have l2 := O3.out.blk.cell (i := j) (cellsL_get L hj5)
            have hst := wantN_step L j
            have hwb := wantN_le L j
            obtain ⟨wn, hwn⟩ : ∃ wn, wantN L j = wn := ⟨_, rfl⟩
            rw [hwn] at hst hwb ⊢
            have hw1 : wrap64 ((wn : Int) + 1) = (wn : Int) + 1 := IntWalk.wrap64_in _ (by omega)
            have HW : Hid (wrap64 ((wn : Int) + 1) = ((wn + 1 : Nat) : Int)) := hw1.trans (by omega)
            have hw2 : Hid (wantN L (j + 1) = wn + if L j ≠ ⟨#[]⟩ then 1 else 0) := hst
            have hj1 : wrap64 ((j : Int) + 1) = (j : Int) + 1 := IntWalk.wrap64_in _ (by omega)
            clear hj hgj hj5 hst hwb hwn
            generalize L j = lj at *
            by_cases he : lj = ⟨#[]⟩
            · subst he
              have hw3' : wantN L (j + 1) = wn := by rw [hw2.out]; simp
              replace hw3' : Hid (wantN L (j + 1) = wn) := hw3'
              go_wp2_with fail
              obtain ⟨f1, f2⟩ := HJ.out
              clear hw1 hj1
              go_roundg (5 - (j + 1))
              case rel => exact ⟨j + 1, by go_num, by rw [hw3'.out], by omega, Nat.le_refl _, (rfl : wr = wr)⟩
              case measure => omega
            · have hw3' : wantN L (j + 1) = wn + 1 := by rw [hw2.out, if_pos he]
              have hw3 : Hid (wantN L (j + 1) = wn + 1) := hw3'
              clear hw3'
              obtain ⟨hd3, hd4⟩ := text_ne he
              have hd0 : decide (lj = ⟨#[]⟩) = false := decide_eq_false he
              go_wp2_with fail
              obtain ⟨f1, f2⟩ := HJ.out
              clear hw1 hj1
              go_roundg (5 - (j + 1))
              case rel => exact ⟨j + 1, by go_num, by rw [hw3.out]; first | exact congrArg (Value.int .i64) HW.out | rfl, by omega, Nat.le_refl _, (rfl : wr = wr)⟩
              case measure => omega
          · obtain rfl : j = 5 := by omega
            clear hj hgj hj5
            have CL := O3.out.clean
            have hwb := wantN_le L 5
            rw [hvl.out] at CL
            replace CL := CL.mono (fun e w' h => by
              obtain ⟨h1, S', s', h2, h3⟩ := h
              exact (⟨h1, ⟨S', s', h2, h3⟩⟩ : e = .returned (.int .i64 ((vl : Int) - ((wantN L 5 : Nat) : Int))) ∧ Hid (∃ (S' : St) (s' : Sto), Lastly w.heap.size p ab w w' i [] L L S' s' ∧ s'.v.length = wantN L 5)))
            obtain ⟨wn, hwn⟩ : ∃ wn, wantN L 5 = wn := ⟨_, rfl⟩
            rw [hwn] at CL hwb ⊢
            have hsubB : wrap64 ((vl : Int) - (wn : Int)) = (vl : Int) - (wn : Int) := IntWalk.wrap64_in _ (by have := hv3.out; omega)
            replace hwn : Hid (wantN L 5 = wn) := hwn
            clear hwb
            go_wp2_with fail
            refine CL.mono ?_
            rintro e w6 ⟨rfl, Q6⟩
            clear CL
            go_wp2_with fail
            replace Q6 : Hid (∃ (S' : St) (s' : Sto), Lastly w.heap.size p ab w w6 i [] L L S' s' ∧ s'.v.length = wn) := Q6
            go_loopg [16] 5 (fun kx s16 wr => ∃ j : Nat, s16 = .int .i64 j ∧ j ≤ 5 ∧ 5 - j ≤ kx ∧ Hid (∃ (S' : St) (s' : Sto), Lastly w.heap.size p ab w wr i [] L L S' s' ∧ s'.v.length = wn))
            case atStart => exact ⟨0, rfl, by omega, by omega, Q6⟩
            case round =>
              clear Q6
              obtain ⟨j, rfl, hj, hgj, Qj⟩ := hrel
              obtain ⟨S6, s6, O6, hl6⟩ := Qj.out
              clear Qj
              by_cases hj5 : j < 5
              · have hj5I : (j : Int) < 5 := by omega
                have hj0 : (0 : Int) ≤ (j : Int) := by omega
                have SL := fun w => slice_key j hj5 w
                have HJ : Hid (j < 5 ∧ 5 - j ≤ gk) := ⟨hj5, hgj⟩
                have R1 := O6.read hj5
                have hK3 : Hid (∀ w8, Below wr.heap.size wr w8 → Lastly w.heap.size p ab w w8 i [] L L S6 s6) := fun w8 hb => O6.later hb
                have hg5 : Hid ((cellsL L)[j]? = some (.string (L j))) := cellsL_get L hj5
                have hl6 : Hid (s6.v.length = wn) := hl6
                clear O6 hj hgj hj5
                go_wp2_with fail
                refine R1.mono ?_
                rintro e w8 ⟨rfl, hb8⟩
                clear R1
                have O8 := hK3.out w8 hb8
                have l2 := O8.blk.cell (i := j) hg5.out
                have Q8 : Hid (∃ (S' : St) (s' : Sto), Lastly w.heap.size p ab w w8 i [] L L S' s' ∧ s'.v.length = wn) := ⟨_, _, O8, hl6.out⟩
                clear hb8 hK3 hg5 SL O8 hl6
                generalize L j = lj at *
                obtain ⟨f1, f2⟩ := HJ.out
                by_cases he : lj = ⟨#[]⟩
                · subst he
                  go_wp2_with fail
                  go_roundg (5 - (j + 1))
                  case rel => exact ⟨j + 1, by go_num, by omega, Nat.le_refl _, Q8⟩
                  case measure => omega
                · have hd0 : decide (lj = ⟨#[]⟩) = false := decide_eq_false he
                  obtain ⟨hd3, hd4⟩ := text_ne he
                  go_wp2_with fail
                  go_roundg (5 - (j + 1))
                  case rel => exact ⟨j + 1, by go_num, by omega, Nat.le_refl _, Q8⟩
                  case measure => omega
              · have CN := count_own O6.own.own
                rw [hl6] at CN
                have CL := O6.clean
                rw [hl6, hwn.out, Int.sub_self] at CL
                replace CL := CL.mono (fun e w' h => by
                  obtain ⟨h1, S', s', h2, h3⟩ := h
                  have := now_own h2.own.own
                  rw [h2.stamp] at this
                  exact (⟨h1, this, h2.own.own.below⟩ : e = .returned (.int .i64 0) ∧ Calls Try.prog 25 #[.pointer (some ⟨p, 0, none⟩)] w' (fun e w9 => e = .returned (.int .i64 (i : Int)) ∧ w9 = w') ∧ Hid (Below w.heap.size w w')))
                have hj5I : ¬ ((j : Int) < 5) := by omega
                clear O6 hl6 hj hgj hj5
                go_wp2_with fail
                refine CN.mono ?_
                rintro e w7 ⟨rfl, rfl⟩
                clear CN
                go_wp2_with fail
                refine CL.mono ?_
                rintro e w8 ⟨rfl, TN, hb8⟩
                clear CL
                go_wp2_with fail
                refine TN.mono ?_
                rintro e w9 ⟨rfl, rfl⟩
                clear TN
                go_wp2_with fail
                go_ret
                exact ⟨rfl, hb8.out⟩

/-! ### The row's step -/
set_option maxRecDepth 100000 in
theorem lifted (os : Os) (started : os.Started) (H : Type) (enc : TypeId × Value → H) :
    ReturnsInHanded {} Try.checked os 6 .any (Rows.storeCleansSpec.pre6 enc Try.prog Try.f6 Rows.storeCleansRow.domain false) (Rows.storeCleansSpec.post enc Try.prog Try.f6 false true false false) := by
  refine returnsInHanded_of_change (C := Try.checked) own started (by kernel_rfl) Try.func6
    (ChangeSpec.witness6 (enc := enc) (C := Try.checked) false ⟨#[], #[.slice none 0 0, .int .i64 0], []⟩ 8 (by kernel_rfl) (by kernel_rfl) (by kernel_rfl) (by kernel_rfl)) ?_
  intro W base args ds gs before hval0 hW hcnd _
  have hval : ∀ (j : Nat) t v, Try.f6.params[j]? = some t → args[j]? = some v → Value.okWide Try.prog W .any base t v := hval0
  have hW' := hW
  obtain ⟨p, q, hA0, hV, rfl, hfz, hnd⟩ := hW
  have hA : DataW.TrodAll enc Try.prog W 0 (fun _ => true) true Try.f6.params.toList args.toList ds p := hA0
  rw [Try.params6] at hA hval
  obtain ⟨v0, vs0, d0, ds0, p0, q0, hargs, rfl, rfl, h0, r0⟩ := trodAll_cons hA
  obtain ⟨v1, vs1, d1, ds1, p1, q1, rfl, rfl, rfl, h1, r1⟩ := trodAll_cons r0
  obtain ⟨rfl, rfl, rfl⟩ := trodAll_nil r1
  obtain rfl : args = #[v0, v1] := by cases args; simp_all
  obtain ⟨rfl, rfl⟩ := trodVars_none hV
  have k0 := h0
  obtain ⟨a0, s0, w0, l0⟩ := open_ints' (hval 0 22 v0 rfl rfl) h0
  obtain ⟨a1, rfl, rfl, rfl, w1⟩ := open_int Try.underlying3 (hval 1 3 v1 rfl rfl) h1
  clear hA0 hval0
  simp only [List.append_nil, List.nil_append] at hW'
  have hlt : ∀ x ∈ p0, x.block < W.heap.size := fun x hx => by simpa using hW'.lt x (by simpa [or_assoc] using hx)
  refine (walk v0 a0 w0 l0 a1 w1 W s0).mono fun e W' ⟨he, hg⟩ => ?_
  subst he
  exact ⟨_, rfl, _, _, _, [], _, [], hW', (trodAll_cons_mk (shut_bool Try.underlying4 _) trodAll_mk0), (trodAll_cons_mk (Below.trod laidOut (by kernel_rfl) (of_decide_eq_true (by kernel_rfl)) k0 hg (fun x hx => hlt x (by simp [hx]))) (trodAll_cons_mk (shut_int Try.underlying3 w1) trodAll_mk0)), rfl, hg.frame _, fun h => by cases h⟩

theorem row : Rows.StoreCleansSaid :=
  OpenClaim.holds_of_wide 6 Try.f6 rfl rfl rfl rfl rfl rfl rfl ⟨rfl, rfl, rfl, rfl, rfl⟩ rfl rfl rfl rfl rfl (by kernel_rfl) Try.func6 (by kernel_rfl)
    (of_decide_eq_true (by kernel_rfl)) (by unfold Func.isWrapper; first | (rw [if_pos (by decide +kernel)]; kernel_rfl) | (rw [if_neg (by decide +kernel)]; exact ⟨rfl, rfl⟩))
    (fun os started H enc _ => lifted os started H enc)

/-- The statement. -/
theorem proved : Rows.StoreCleansSaid :=
  row
#print axioms proved
end Go.Proofs.Ytcnajkclbmddgaa.storeCleans
