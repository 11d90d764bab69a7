/- container/heap's down. -/
import Derived.Test.YtcnajkclbmddgaaUp
namespace Go.Proofs.Ytcnajkclbmddgaa
open Go.ChangeShapes Go.WideShapes Go.ChangeAt Go.RowKit
open Go.Sort (grow)
set_option linter.unusedVariables false
set_option linter.unusedSimpArgs false

theorem keyL_at {hi : Nat → Hi} {l : List Nat} {j a : Nat} (h : l[j]? = some a) : keyL (nx hi) l j = nextP (hi a).live := by
  unfold keyL nx; rw [List.getD_eq_getElem?_getD, h]; rfl

set_option maxHeartbeats 4000000 in
set_option maxRecDepth 20000 in
theorem down_any (q : Addr) (v : Value) (l : List Nat) (hi : Nat → Hi) (n : Nat) (w : World) (hq : w.cell? q = some v) (D : DueAt w v l hi) (A : ApartD v q l hi) (h0 : 0 < l.length) (hn : n ≤ l.length) (U : DownInv (keyL (nx hi) l) 0 n) :
    Calls Try.prog 57 #[.iface 92 (.pointer (some q)), .int .i64 0, .int .i64 n] w fun e w' => (∃ r, e = .returned (.bool r)) ∧
      ∃ l', l'.Perm l ∧ HeapOn (keyL (nx hi) l') n ∧ l'.getD n 0 = l.getD n 0 ∧ w'.ownsRow 0 76 1 v l.length (ptrs l') ∧ Only (fun k => v.ownBlock = some k) w w' := by
  have hfew := D.few
  go_enter Try.func57, Try.ntmps57
  go_wp2_with fail
  go_loopg [7] n (fun kx s7 wr => ∃ (i1 : Nat) (l1 : List Nat), s7 = .int .i64 i1 ∧ n - i1 ≤ kx ∧ i1 < l.length ∧ l1.Perm l ∧ Hid (DownInv (keyL (nx hi) l1) i1 n) ∧ Hid (l1.getD n 0 = l.getD n 0) ∧ Hid (wr.ownsRow 0 76 1 v l.length (ptrs l1)) ∧ Hid (Only (fun k => v.ownBlock = some k) w wr))
  case atStart => exact ⟨0, l, rfl, by omega, h0, List.Perm.refl _, U, rfl, D.row, Only.refl _ _⟩
  case round =>
    obtain ⟨i1, l1, rfl, hg, hil, hp, U1, N1, R1, O1⟩ := hrel
    have hl1 := hp.length_eq
    have D1 := D.swapped A hp R1.out O1.out
    have hq1 : wr.cell? q = some v := O1.out.cell hq (fun e => (A _ e).1 rfl)
    have hmulI : wrap64 (2 * (i1 : Int)) = ((2 * i1 : Nat) : Int) := by rw [IntWalk.wrap64_in _ (by omega)]; omega
    have haddI : wrap64 (((2 * i1 : Nat) : Int) + 1) = ((2 * i1 + 1 : Nat) : Int) := by rw [IntWalk.wrap64_in _ (by omega)]; omega
    generalize hm : 2 * i1 = m at hmulI haddI
    generalize hjj : m + 1 = jj at haddI
    by_cases hjn : jj < n
    · have hjnI : (jj : Int) < (n : Int) := by omega
      have hadd2 : wrap64 ((jj : Int) + 1) = ((jj + 1 : Nat) : Int) := by rw [IntWalk.wrap64_in _ (by omega)]; omega
      generalize hj2 : jj + 1 = j2 at hadd2
      have HF : Hid (l.length < 1000000 ∧ 2 * i1 + 1 = jj ∧ jj + 1 = j2 ∧ n - i1 ≤ gk ∧ jj < n ∧ n ≤ l.length ∧ l1.length = l.length ∧ i1 < l.length) := ⟨hfew, by omega, hj2, hg, hjn, hn, hl1, hil⟩
      have HP : Hid (l1.Perm l) := hp
      have hj0 : (0 : Int) ≤ (jj : Int) := by omega
      obtain ⟨ei, hei⟩ : ∃ a, l1[i1]? = some a := ⟨_, List.getElem?_eq_getElem (by omega)⟩
      obtain ⟨ej, hej⟩ : ∃ a, l1[jj]? = some a := ⟨_, List.getElem?_eq_getElem (by omega)⟩
      by_cases hjn2 : j2 < n
      · have hjn2I : (j2 : Int) < (n : Int) := by omega
        obtain ⟨e2, he2⟩ : ∃ a, l1[j2]? = some a := ⟨_, List.getElem?_eq_getElem (by omega)⟩
        have LM := less_m wr q v hq1
        have L := less_any v l1 hi j2 jj e2 ej wr D1 he2 hej
        have HN : Hid (j2 < n) := hjn2
        clear hm hjj hj2 hfew hg hjn hn hl1 hil hp h0 D U hjn2
        go_wp2_with fail
        refine L.mono ?_
        rintro e w2 ⟨rfl, hb2⟩
        have Ox : Hid (Only (fun k => v.ownBlock = some k) w w2) := O1.out.then (Only.of_below' hb2 _)
        have Rx : Hid (w2.ownsRow 0 76 1 v l.length (ptrs l1)) := row_thru R1.out (fun g hg => hb2.block g (R1.out.lt g hg).2)
        have hqx := kept_cell hb2 hq1
        have Dx := D1.below hb2
        clear hq1 O1 R1 hb2
        by_cases hlt0 : nextP (hi e2).live < nextP (hi ej).live
        · have hd0 : decide (nextP (hi e2).live < nextP (hi ej).live) = true := decide_eq_true hlt0
          rw [hd0]
          have HC : Hid ((j2 - 1) / 2 = i1 ∧ j2 < n ∧ ∀ k, 0 < k → k < n → (k - 1) / 2 = i1 → keyL (nx hi) l1 j2 ≤ keyL (nx hi) l1 k) := by
            obtain ⟨f1, f2, f3, f4, f5, f6, f7, f8⟩ := HF.out
            have k2 := keyL_at (hi := hi) he2
            have kj := keyL_at (hi := hi) hej
            refine ⟨by omega, HN.out, fun k k0 kn ke => ?_⟩
            have : k = jj ∨ k = j2 := by omega
            rcases this with rfl | rfl
            · omega
            · exact Int.le_refl _
          clear hd0 hlt0 hej HN
          have LM2 := less_m w2 q v hqx
          have L2 := less_any v l1 hi j2 i1 e2 ei w2 Dx he2 hei
          have HK : Hid (keyL (nx hi) l1 j2 = nextP (hi e2).live ∧ keyL (nx hi) l1 i1 = nextP (hi ei).live) := ⟨keyL_at he2, keyL_at hei⟩
          clear he2 hei Dx D1 L LM
          go_wp2_with fail
          refine L2.mono ?_
          rintro e w3 ⟨rfl, hb3⟩
          have O3 : Only (fun k => v.ownBlock = some k) w w3 := Ox.out.then (Only.of_below' hb3 _)
          have R3 : w3.ownsRow 0 76 1 v l.length (ptrs l1) := row_thru Rx.out (fun g hg => hb3.block g (Rx.out.lt g hg).2)
          have hq3 := kept_cell hb3 hqx
          clear L2 LM2 hqx Ox Rx hb3
          by_cases hlt : nextP (hi e2).live < nextP (hi ei).live
          · have hd : decide (nextP (hi e2).live < nextP (hi ei).live) = true := decide_eq_true hlt
            rw [hd]
            have S := swap_any v l1 i1 j2 w3 (by rw [HF.out.2.2.2.2.2.2.1]; exact R3) (by have := HF.out; omega) (by have := HF.out; omega) (by have := HF.out; have := HC.out; omega)
            have SM := swap_m w3 q v hq3
            have HL : Hid (keyL (nx hi) l1 j2 < keyL (nx hi) l1 i1) := by rw [HK.out.1, HK.out.2]; exact hlt
            have O3 : Hid (Only (fun k => v.ownBlock = some k) w w3) := O3
            clear hd hlt HK R3
            go_wp2_with fail
            refine S.mono ?_
            rintro e w4 ⟨rfl, R4, O4⟩
            clear S SM
            obtain ⟨f1, f2, f3, f4, f5, f6, f7, f8⟩ := HF.out
            obtain ⟨g1, g2, g3⟩ := HC.out
            go_wp2_with fail
            go_roundg (n - j2)
            case rel =>
              refine ⟨j2, swapL l1 i1 j2, rfl, Nat.le_refl _, by omega, (swapL_perm (by omega) (by omega)).trans HP.out, ?_, ?_, ?_, O3.out.then O4⟩
              · show DownInv _ _ _
                rw [keyL_swap _ (by omega) (by omega)]
                exact down_step U1.out g1 (by omega) g2 g3 HL.out
              · show (swapL l1 i1 j2).getD n 0 = _
                rw [swapL_get (by omega) (by omega), if_neg (by omega), if_neg (by omega)]
                exact N1.out
              · rw [f7] at R4
                exact R4
            case measure => omega
          · have hd : decide (nextP (hi e2).live < nextP (hi ei).live) = false := decide_eq_false hlt
            rw [hd]
            have hh : Hid (∃ l', l'.Perm l ∧ HeapOn (keyL (nx hi) l') n ∧ l'.getD n 0 = l.getD n 0 ∧ w3.ownsRow 0 76 1 v l.length (ptrs l') ∧ Only (fun k => v.ownBlock = some k) w w3) :=
              ⟨l1, HP.out, down_done U1.out (fun k k0 kn e => by have h1 := HC.out.2.2 k k0 kn e; have h2 := HK.out; omega), N1.out, R3, O3⟩
            clear hd hlt R3 O3 HK HP HC U1 N1
            go_wp2_with fail
            go_ret
            exact ⟨⟨_, rfl⟩, hh.out⟩
        · have hd0 : decide (nextP (hi e2).live < nextP (hi ej).live) = false := decide_eq_false hlt0
          rw [hd0]
          have HC : Hid ((jj - 1) / 2 = i1 ∧ jj < n ∧ ∀ k, 0 < k → k < n → (k - 1) / 2 = i1 → keyL (nx hi) l1 jj ≤ keyL (nx hi) l1 k) := by
            obtain ⟨f1, f2, f3, f4, f5, f6, f7, f8⟩ := HF.out
            have k2 := keyL_at (hi := hi) he2
            have kj := keyL_at (hi := hi) hej
            refine ⟨by omega, f5, fun k k0 kn ke => ?_⟩
            have : k = jj ∨ k = j2 := by omega
            rcases this with rfl | rfl
            · exact Int.le_refl _
            · omega
          clear hd0 hlt0 he2 HN
          have LM2 := less_m w2 q v hqx
          have L2 := less_any v l1 hi jj i1 ej ei w2 Dx hej hei
          have HK : Hid (keyL (nx hi) l1 jj = nextP (hi ej).live ∧ keyL (nx hi) l1 i1 = nextP (hi ei).live) := ⟨keyL_at hej, keyL_at hei⟩
          clear hej hei Dx D1 L LM
          go_wp2_with fail
          refine L2.mono ?_
          rintro e w3 ⟨rfl, hb3⟩
          have O3 : Only (fun k => v.ownBlock = some k) w w3 := Ox.out.then (Only.of_below' hb3 _)
          have R3 : w3.ownsRow 0 76 1 v l.length (ptrs l1) := row_thru Rx.out (fun g hg => hb3.block g (Rx.out.lt g hg).2)
          have hq3 := kept_cell hb3 hqx
          clear L2 LM2 hqx Ox Rx hb3
          by_cases hlt : nextP (hi ej).live < nextP (hi ei).live
          · have hd : decide (nextP (hi ej).live < nextP (hi ei).live) = true := decide_eq_true hlt
            rw [hd]
            have S := swap_any v l1 i1 jj w3 (by rw [HF.out.2.2.2.2.2.2.1]; exact R3) (by have := HF.out; omega) (by have := HF.out; omega) (by have := HF.out; have := HC.out; omega)
            have SM := swap_m w3 q v hq3
            have HL : Hid (keyL (nx hi) l1 jj < keyL (nx hi) l1 i1) := by rw [HK.out.1, HK.out.2]; exact hlt
            have O3 : Hid (Only (fun k => v.ownBlock = some k) w w3) := O3
            clear hd hlt HK R3
            go_wp2_with fail
            refine S.mono ?_
            rintro e w4 ⟨rfl, R4, O4⟩
            clear S SM
            obtain ⟨f1, f2, f3, f4, f5, f6, f7, f8⟩ := HF.out
            obtain ⟨g1, g2, g3⟩ := HC.out
            go_wp2_with fail
            go_roundg (n - jj)
            case rel =>
              refine ⟨jj, swapL l1 i1 jj, rfl, Nat.le_refl _, by omega, (swapL_perm (by omega) (by omega)).trans HP.out, ?_, ?_, ?_, O3.out.then O4⟩
              · show DownInv _ _ _
                rw [keyL_swap _ (by omega) (by omega)]
                exact down_step U1.out g1 (by omega) g2 g3 HL.out
              · show (swapL l1 i1 jj).getD n 0 = _
                rw [swapL_get (by omega) (by omega), if_neg (by omega), if_neg (by omega)]
                exact N1.out
              · rw [f7] at R4
                exact R4
            case measure => omega
          · have hd : decide (nextP (hi ej).live < nextP (hi ei).live) = false := decide_eq_false hlt
            rw [hd]
            have hh : Hid (∃ l', l'.Perm l ∧ HeapOn (keyL (nx hi) l') n ∧ l'.getD n 0 = l.getD n 0 ∧ w3.ownsRow 0 76 1 v l.length (ptrs l') ∧ Only (fun k => v.ownBlock = some k) w w3) :=
              ⟨l1, HP.out, down_done U1.out (fun k k0 kn e => by have h1 := HC.out.2.2 k k0 kn e; have h2 := HK.out; omega), N1.out, R3, O3⟩
            clear hd hlt R3 O3 HK HP HC U1 N1
            go_wp2_with fail
            go_ret
            exact ⟨⟨_, rfl⟩, hh.out⟩
      · have hjn2I : (n : Int) ≤ (j2 : Int) := by omega
        have HC : Hid ((jj - 1) / 2 = i1 ∧ jj < n ∧ ∀ k, 0 < k → k < n → (k - 1) / 2 = i1 → keyL (nx hi) l1 jj ≤ keyL (nx hi) l1 k) := by
          obtain ⟨f1, f2, f3, f4, f5, f6, f7, f8⟩ := HF.out
          refine ⟨by omega, f5, fun k k0 kn ke => ?_⟩
          obtain rfl : k = jj := by omega
          exact Int.le_refl _
        have Ox := O1
        have Rx := R1
        have hqx := hq1
        have Dx := D1
        have L := trivial
        have LM := trivial
        clear hm hjj hj2 hfew hg hjn hn hl1 hil hp h0 D U hjn2 hq1 O1 R1
        have LM2 := less_m wr q v hqx
        have L2 := less_any v l1 hi jj i1 ej ei wr Dx hej hei
        have HK : Hid (keyL (nx hi) l1 jj = nextP (hi ej).live ∧ keyL (nx hi) l1 i1 = nextP (hi ei).live) := ⟨keyL_at hej, keyL_at hei⟩
        clear hej hei Dx D1 L LM
        go_wp2_with fail
        refine L2.mono ?_
        rintro e w3 ⟨rfl, hb3⟩
        have O3 : Only (fun k => v.ownBlock = some k) w w3 := Ox.out.then (Only.of_below' hb3 _)
        have R3 : w3.ownsRow 0 76 1 v l.length (ptrs l1) := row_thru Rx.out (fun g hg => hb3.block g (Rx.out.lt g hg).2)
        have hq3 := kept_cell hb3 hqx
        clear L2 LM2 hqx Ox Rx hb3
        by_cases hlt : nextP (hi ej).live < nextP (hi ei).live
        · have hd : decide (nextP (hi ej).live < nextP (hi ei).live) = true := decide_eq_true hlt
          rw [hd]
          have S := swap_any v l1 i1 jj w3 (by rw [HF.out.2.2.2.2.2.2.1]; exact R3) (by have := HF.out; omega) (by have := HF.out; omega) (by have := HF.out; have := HC.out; omega)
          have SM := swap_m w3 q v hq3
          have HL : Hid (keyL (nx hi) l1 jj < keyL (nx hi) l1 i1) := by rw [HK.out.1, HK.out.2]; exact hlt
          have O3 : Hid (Only (fun k => v.ownBlock = some k) w w3) := O3
          clear hd hlt HK R3
          go_wp2_with fail
          refine S.mono ?_
          rintro e w4 ⟨rfl, R4, O4⟩
          clear S SM
          obtain ⟨f1, f2, f3, f4, f5, f6, f7, f8⟩ := HF.out
          obtain ⟨g1, g2, g3⟩ := HC.out
          go_wp2_with fail
          go_roundg (n - jj)
          case rel =>
            refine ⟨jj, swapL l1 i1 jj, rfl, Nat.le_refl _, by omega, (swapL_perm (by omega) (by omega)).trans HP.out, ?_, ?_, ?_, O3.out.then O4⟩
            · show DownInv _ _ _
              rw [keyL_swap _ (by omega) (by omega)]
              exact down_step U1.out g1 (by omega) g2 g3 HL.out
            · show (swapL l1 i1 jj).getD n 0 = _
              rw [swapL_get (by omega) (by omega), if_neg (by omega), if_neg (by omega)]
              exact N1.out
            · rw [f7] at R4
              exact R4
          case measure => omega
        · have hd : decide (nextP (hi ej).live < nextP (hi ei).live) = false := decide_eq_false hlt
          rw [hd]
          have hh : Hid (∃ l', l'.Perm l ∧ HeapOn (keyL (nx hi) l') n ∧ l'.getD n 0 = l.getD n 0 ∧ w3.ownsRow 0 76 1 v l.length (ptrs l') ∧ Only (fun k => v.ownBlock = some k) w w3) :=
            ⟨l1, HP.out, down_done U1.out (fun k k0 kn e => by have h1 := HC.out.2.2 k k0 kn e; have h2 := HK.out; omega), N1.out, R3, O3⟩
          clear hd hlt R3 O3 HK HP HC U1 N1
          go_wp2_with fail
          go_ret
          exact ⟨⟨_, rfl⟩, hh.out⟩
    · have hh : Hid (∃ l', l'.Perm l ∧ HeapOn (keyL (nx hi) l') n ∧ l'.getD n 0 = l.getD n 0 ∧ wr.ownsRow 0 76 1 v l.length (ptrs l') ∧ Only (fun k => v.ownBlock = some k) w wr) :=
        ⟨l1, hp, down_done U1.out (fun k k0 kn e => by omega), N1.out, R1.out, O1.out⟩
      have hjnI : (n : Int) ≤ (jj : Int) := by omega
      clear U1 N1 R1 O1 D1 hq1 D A U hq hfew hil hl1 hp hg hm hjj hjn hn h0
      go_wp2_with fail
      go_ret
      exact ⟨⟨_, rfl⟩, hh.out⟩
end Go.Proofs.Ytcnajkclbmddgaa
