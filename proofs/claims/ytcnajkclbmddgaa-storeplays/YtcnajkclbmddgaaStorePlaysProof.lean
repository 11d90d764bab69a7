/- For every limit, every list of numbers (nil too) and every string, with no condition, StorePlays holds: whatever is played, the store answers as the document says at every step; it changes nothing that was there. -/
import Derived.Test.YtcnajkclbmddgaaRows
import Derived.WalkKit
import Derived.ProofKit
import Derived.OpenShut
import Derived.Carry
import Derived.BigQuiet
import Derived.BigRegion
import Derived.Deep.LoopGhost
import Derived.Lib.QuietBelow
import Derived.Test.YtcnajkclbmddgaaLawsP
import Derived.Test.YtcnajkclbmddgaaRefS
import Derived.Test.YtcnajkclbmddgaaRefT
namespace Go.Proofs.Ytcnajkclbmddgaa.storePlays
open Go.ChangeShapes Go.WideShapes Go.ChangeAt Go.RowKit
open Go.ChangeMaps (open_string shut_string)
open Go.Sort (grow)
set_option linter.unusedVariables false
set_option linter.unusedSimpArgs false

theorem own : ownKnob Try.prog.godebug = none := by kernel_rfl

/-! ### The walk -/
set_option maxHeartbeats 8000000 in
set_option maxRecDepth 20000 in
theorem walk (a0 : Int) (w0 : (Lit.int .i64 a0).wf = true) (v1 : Value) (a1 : List Int) (w1 : InRange a1) (l1 : a1.length ≤ maxLen) (a2 : ByteArray) (w2 : a2.size ≤ maxLen) (w : World) (s1 : SliceIs w v1 a1) :
    Calls Try.prog 3 #[.int .i64 a0, v1, .string a2] w fun e w' => e = .returned (.bool true) ∧ Below w.heap.size w w' := by
  have K := known_any w
  obtain ⟨pn, cap, rfl, hns⟩ := s1
  have hns : Hid _ := hns
  have W60 := fun w => within_any a0 60 (by omega) (by omega) w
  obtain ⟨kk, hkk, hk60⟩ : ∃ kk : Nat, a0 % 60 = (kk : Int) ∧ kk < 60 := ⟨(a0 % 60).toNat, by omega, by omega⟩
  rw [hkk] at W60
  have hk60 : Hid (kk < 60) := hk60
  have hsz : Hid (a2.size ≤ maxLen) := w2
  clear w0 w1 l1 hkk w2
  generalize hs2 : a2.size = sz at *
  go_enter Try.func3, Try.ntmps3
  go_wp2_with fail
  refine K.mono ?_
  rintro e w1 ⟨rfl, hb1⟩
  clear K
  by_cases h60 : (60 : Int) < (sz : Int)
  · go_wp2_with fail
    go_ret
    exact ⟨rfl, hb1⟩
  go_wp2_with fail
  refine (W60 w1).mono ?_
  rintro e w10 ⟨rfl, rfl⟩
  clear W60
  have N := new_own w.heap.size w w10 kk (by have := hk60.out; omega) hb1 hb1.size
  clear hb1
  go_wp2_with fail
  refine N.mono ?_
  rintro e w2 ⟨p, S, rfl, O, ht, hp, -, -⟩
  clear N
  have NR := rnew_any kk w2
  replace O : Hid _ := O
  go_wp2_with fail
  refine NR.mono ?_
  rintro e w3 ⟨rfl, R, hb23⟩
  clear NR
  have hR : Hid (∃ (v pv : Value) (S : St) (s x : Sto), Both w.heap.size p w2.heap.size w w3 0 kk v pv S s x) := ⟨_, _, _, _, _, Both.start O.out hp ht hb23 R (by have := hk60.out; omega)⟩
  clear O R hb23 ht hp
  generalize w2.heap.size = q at *
  go_wp2_with fail
  generalize hln : a1.length = ln at *
  replace hln : Hid (a1.length = ln) := hln
  go_loopg [10, 11] ln (fun kx s10 s11 wr => ∃ (i : Nat) (lw : Int), s10 = .int .i64 lw ∧ s11 = .int .i64 i ∧ i ≤ ln ∧ ln - i ≤ kx ∧ i ≤ 60 ∧ Hid (∃ (v pv : Value) (S : St) (s x : Sto) (j : Nat), j ≤ i ∧ Both w.heap.size p q w wr j kk v pv S s x))
  case atStart => exact ⟨0, 0, rfl, rfl, Nat.zero_le _, by omega, by omega, by obtain ⟨v, pv, S, s, x, h⟩ := hR.out; exact ⟨v, pv, S, s, x, 0, Nat.le_refl _, h⟩⟩
  case round =>
    clear hR
    obtain ⟨i, lw, rfl, rfl, hi, hg, hi60, Q⟩ := hrel
    obtain ⟨v, pv, S, s, xx, j, hji, Q0⟩ := Q.out
    clear Q
    by_cases hgo : i < ln ∧ i < 60
    · have hinI : (i : Int) < (ln : Int) := by omega
      have hi0 : (0 : Int) ≤ (i : Int) := by omega
      have h60I : (i : Int) < 60 := by omega
      obtain ⟨x, hx⟩ : ∃ x, a1[i]? = some x := ⟨_, List.getElem?_eq_getElem (by rw [hln.out]; exact hgo.1)⟩
      obtain ⟨gb, go, rfl, hcell⟩ := hns.out (by rintro rfl; simp at hx)
      have cx : wr.cell? ⟨gb, go + i, none⟩ = some (.int .i64 x) := by
        have := hcell i x hx
        rw [Q0.below.cell (block_lt this)]; exact this
      have W1 := within_any x 1073741824 (by omega) (by omega) wr
      obtain ⟨n, hn, hn2⟩ : ∃ n : Nat, x % 1073741824 = (n : Int) ∧ n < 1073741824 := ⟨(x % 1073741824).toNat, by omega, by omega⟩
      rw [hn] at W1
      have W8 := within_any (n : Int) 8 (by omega) (by omega) wr
      obtain ⟨m, hm, hm8⟩ : ∃ m : Nat, n % 8 = m ∧ m < 8 := ⟨_, rfl, by omega⟩
      rw [show (n : Int) % 8 = (m : Int) by omega] at W8
      obtain ⟨q8, hq8, hq9⟩ : ∃ q8 : Nat, wrap64 ((n : Int) / 8) = (q8 : Int) ∧ q8 < 1073741824 := ⟨n / 8, by rw [IntWalk.wrap64_in _ (by omega)]; omega, by omega⟩
      have WR := fun w => writes_any q8 hq9 w
      replace WR : Hid _ := WR
      have HF : Hid (i < ln ∧ i < 60 ∧ ln - i ≤ gk ∧ j ≤ i) := ⟨hgo.1, hgo.2, hg, hji⟩
      replace Q0 : Hid (Both w.heap.size p q w wr j kk v pv S s xx) := Q0
      clear hx hcell hn hn2 hi hg hi60 hgo hji hm hq9
      go_wp2_with fail
      refine W1.mono ?_
      rintro e w5 ⟨rfl, rfl⟩
      clear W1
      go_wp2_with fail
      refine W8.mono ?_
      rintro e w6 ⟨rfl, rfl⟩
      clear W8 cx
      have hm : m = 0 ∨ m = 1 ∨ m = 2 ∨ m = 3 ∨ m = 4 ∨ m = 5 ∨ m = 6 ∨ m = 7 := by omega
      clear hm8
      rcases hm with rfl | rfl | rfl | rfl | rfl | rfl | rfl | rfl
      · have WR0 := WR.out w6
        go_wp2_with fail
        refine WR0.mono ?_
        rintro e w7 ⟨ua, ub, rfl, hb7, ha7, hbb7⟩
        clear WR WR0
        obtain ⟨r1, r2, CM⟩ := Q0.out.commit (by have := HF.out; omega) hb7 ha7 hbb7
        clear Q0 hb7 ha7 hbb7
        go_wp2_with fail
        refine CM.mono ?_
        rintro e w8 ⟨rfl, CX⟩
        clear CM
        go_wp2_with fail
        refine CX.mono ?_
        rintro e w9 ⟨rfl, v1, S1, s1, x1, Q1⟩
        clear CX
        have QE : Hid (j + 1 ≤ i + 1 ∧ Both w.heap.size p q w w9 (j + 1) kk v1 pv S1 s1 x1) := ⟨by have := HF.out; omega, Q1⟩
        clear Q1
        have SM := QE.out.2.same (by have := HF.out; have := QE.out.1; omega) lw
        replace SM := SM.mono (fun e w' h => (⟨h.1, ⟨_, _, _, _, _, _, QE.out.1, h.2⟩⟩ : e = .returned (.bool true) ∧ Hid (∃ (v pv : Value) (S : St) (s x : Sto) (j : Nat), j ≤ i + 1 ∧ Both w.heap.size p q w w' j kk v pv S s x)))
        clear QE
        go_wp2_with fail
        refine SM.mono ?_
        rintro e w21 ⟨rfl, QX⟩
        clear SM
        obtain ⟨f1, f2, f3, -⟩ := HF.out
        go_wp2_with fail
        go_roundg (ln - (i + 1))
        case rel => exact ⟨i + 1, _, rfl, by first | rfl | (rw [IntWalk.wrap64_in _ (by omega)]; rfl), by omega, Nat.le_refl _, by omega, QX⟩
        case measure => omega
      · have WR0 := WR.out w6
        go_wp2_with fail
        refine WR0.mono ?_
        rintro e w7 ⟨ua, ub, rfl, hb7, ha7, hbb7⟩
        clear WR WR0
        obtain ⟨r1, r2, CM⟩ := Q0.out.commit (by have := HF.out; omega) hb7 ha7 hbb7
        clear Q0 hb7 ha7 hbb7
        go_wp2_with fail
        refine CM.mono ?_
        rintro e w8 ⟨rfl, CX⟩
        clear CM
        go_wp2_with fail
        refine CX.mono ?_
        rintro e w9 ⟨rfl, v1, S1, s1, x1, Q1⟩
        clear CX
        have QE : Hid (j + 1 ≤ i + 1 ∧ Both w.heap.size p q w w9 (j + 1) kk v1 pv S1 s1 x1) := ⟨by have := HF.out; omega, Q1⟩
        clear Q1
        have SM := QE.out.2.same (by have := HF.out; have := QE.out.1; omega) lw
        replace SM := SM.mono (fun e w' h => (⟨h.1, ⟨_, _, _, _, _, _, QE.out.1, h.2⟩⟩ : e = .returned (.bool true) ∧ Hid (∃ (v pv : Value) (S : St) (s x : Sto) (j : Nat), j ≤ i + 1 ∧ Both w.heap.size p q w w' j kk v pv S s x)))
        clear QE
        go_wp2_with fail
        refine SM.mono ?_
        rintro e w21 ⟨rfl, QX⟩
        clear SM
        obtain ⟨f1, f2, f3, -⟩ := HF.out
        go_wp2_with fail
        go_roundg (ln - (i + 1))
        case rel => exact ⟨i + 1, _, rfl, by first | rfl | (rw [IntWalk.wrap64_in _ (by omega)]; rfl), by omega, Nat.le_refl _, by omega, QX⟩
        case measure => omega
      · have WR0 := WR.out w6
        go_wp2_with fail
        refine WR0.mono ?_
        rintro e w7 ⟨ua, ub, rfl, hb7, ha7, hbb7⟩
        clear WR WR0
        obtain ⟨r1, r2, CM⟩ := Q0.out.commit (by have := HF.out; omega) hb7 ha7 hbb7
        clear Q0 hb7 ha7 hbb7
        go_wp2_with fail
        refine CM.mono ?_
        rintro e w8 ⟨rfl, CX⟩
        clear CM
        go_wp2_with fail
        refine CX.mono ?_
        rintro e w9 ⟨rfl, v1, S1, s1, x1, Q1⟩
        clear CX
        have QE : Hid (j + 1 ≤ i + 1 ∧ Both w.heap.size p q w w9 (j + 1) kk v1 pv S1 s1 x1) := ⟨by have := HF.out; omega, Q1⟩
        clear Q1
        have SM := QE.out.2.same (by have := HF.out; have := QE.out.1; omega) lw
        replace SM := SM.mono (fun e w' h => (⟨h.1, ⟨_, _, _, _, _, _, QE.out.1, h.2⟩⟩ : e = .returned (.bool true) ∧ Hid (∃ (v pv : Value) (S : St) (s x : Sto) (j : Nat), j ≤ i + 1 ∧ Both w.heap.size p q w w' j kk v pv S s x)))
        clear QE
        go_wp2_with fail
        refine SM.mono ?_
        rintro e w21 ⟨rfl, QX⟩
        clear SM
        obtain ⟨f1, f2, f3, -⟩ := HF.out
        go_wp2_with fail
        go_roundg (ln - (i + 1))
        case rel => exact ⟨i + 1, _, rfl, by first | rfl | (rw [IntWalk.wrap64_in _ (by omega)]; rfl), by omega, Nat.le_refl _, by omega, QX⟩
        case measure => omega
      · have WR0 := WR.out w6
        go_wp2_with fail
        refine WR0.mono ?_
        rintro e w7 ⟨ua, ub, rfl, hb7, ha7, hbb7⟩
        clear WR WR0
        obtain ⟨r1, r2, CM⟩ := Q0.out.commit (by have := HF.out; omega) hb7 ha7 hbb7
        clear Q0 hb7 ha7 hbb7
        go_wp2_with fail
        refine CM.mono ?_
        rintro e w8 ⟨rfl, CX⟩
        clear CM
        go_wp2_with fail
        refine CX.mono ?_
        rintro e w9 ⟨rfl, v1, S1, s1, x1, Q1⟩
        clear CX
        have QE : Hid (j + 1 ≤ i + 1 ∧ Both w.heap.size p q w w9 (j + 1) kk v1 pv S1 s1 x1) := ⟨by have := HF.out; omega, Q1⟩
        clear Q1
        have SM := QE.out.2.same (by have := HF.out; have := QE.out.1; omega) lw
        replace SM := SM.mono (fun e w' h => (⟨h.1, ⟨_, _, _, _, _, _, QE.out.1, h.2⟩⟩ : e = .returned (.bool true) ∧ Hid (∃ (v pv : Value) (S : St) (s x : Sto) (j : Nat), j ≤ i + 1 ∧ Both w.heap.size p q w w' j kk v pv S s x)))
        clear QE
        go_wp2_with fail
        refine SM.mono ?_
        rintro e w21 ⟨rfl, QX⟩
        clear SM
        obtain ⟨f1, f2, f3, -⟩ := HF.out
        go_wp2_with fail
        go_roundg (ln - (i + 1))
        case rel => exact ⟨i + 1, _, rfl, by first | rfl | (rw [IntWalk.wrap64_in _ (by omega)]; rfl), by omega, Nat.le_refl _, by omega, QX⟩
        case measure => omega
      · clear WR
        obtain ⟨st, PN⟩ := Q0.out.pin (by have := HF.out; omega)
        clear Q0
        go_wp2_with fail
        refine PN.mono ?_
        rintro e w8 ⟨rfl, PX⟩
        clear PN
        go_wp2_with fail
        refine PX.mono ?_
        rintro e w9 ⟨rfl, pv1, S1, s1, x1, Q1⟩
        clear PX
        have QE : Hid (j + 1 ≤ i + 1 ∧ Both w.heap.size p q w w9 (j + 1) kk v pv1 S1 s1 x1) := ⟨by have := HF.out; omega, Q1⟩
        clear Q1
        have SM := QE.out.2.same (by have := HF.out; have := QE.out.1; omega) lw
        replace SM := SM.mono (fun e w' h => (⟨h.1, ⟨_, _, _, _, _, _, QE.out.1, h.2⟩⟩ : e = .returned (.bool true) ∧ Hid (∃ (v pv : Value) (S : St) (s x : Sto) (j : Nat), j ≤ i + 1 ∧ Both w.heap.size p q w w' j kk v pv S s x)))
        clear QE
        go_wp2_with fail
        refine SM.mono ?_
        rintro e w21 ⟨rfl, QX⟩
        clear SM
        obtain ⟨f1, f2, f3, -⟩ := HF.out
        go_wp2_with fail
        go_roundg (ln - (i + 1))
        case rel => exact ⟨i + 1, _, rfl, by first | rfl | (rw [IntWalk.wrap64_in _ (by omega)]; rfl), by omega, Nat.le_refl _, by omega, QX⟩
        case measure => omega
      · clear WR
        have NX := rnow_any q v pv xx w6 Q0.out.pair.ref
        obtain ⟨st, hst, hst0⟩ : ∃ st, xx.stamp = st ∧ 0 ≤ st ∧ st ≤ 60 := ⟨_, rfl, by rw [Q0.out.eq]; have := Q0.out.stamp; have := HF.out; omega⟩
        rw [hst] at NX
        have h2w : wrap64 (st + 2) = st + 2 := IntWalk.wrap64_in _ (by omega)
        have WS := within_any (q8 : Int) (st + 2) (by omega) (by omega) w6
        have hr0 := Int.emod_nonneg (q8 : Int) (show st + 2 ≠ 0 by omega)
        have hr1 := Int.emod_lt_of_pos (q8 : Int) (show 0 < st + 2 by omega)
        generalize (q8 : Int) % (st + 2) = rr at *
        have h1w : wrap64 (rr - 1) = rr - 1 := IntWalk.wrap64_in _ (by omega)
        clear hst hst0 hr0 hr1
        go_wp2_with fail
        refine NX.mono ?_
        rintro e w7 ⟨rfl, rfl⟩
        clear NX
        go_wp2_with fail
        refine WS.mono ?_
        rintro e w8 ⟨rfl, rfl⟩
        clear WS
        obtain UN := Q0.out.unpin (by have := HF.out; omega) (rr - 1)
        clear Q0
        go_wp2_with fail
        refine UN.mono ?_
        rintro e w8 ⟨rfl, UX⟩
        clear UN
        go_wp2_with fail
        refine UX.mono ?_
        rintro e w9 ⟨rfl, pv1, S1, s1, x1, Q1⟩
        clear UX
        have QE : Hid (j ≤ i + 1 ∧ Both w.heap.size p q w w9 j kk v pv1 S1 s1 x1) := ⟨by have := HF.out; omega, Q1⟩
        clear Q1
        have SM := QE.out.2.same (by have := HF.out; have := QE.out.1; omega) lw
        replace SM := SM.mono (fun e w' h => (⟨h.1, ⟨_, _, _, _, _, _, QE.out.1, h.2⟩⟩ : e = .returned (.bool true) ∧ Hid (∃ (v pv : Value) (S : St) (s x : Sto) (j : Nat), j ≤ i + 1 ∧ Both w.heap.size p q w w' j kk v pv S s x)))
        clear QE
        go_wp2_with fail
        refine SM.mono ?_
        rintro e w21 ⟨rfl, QX⟩
        clear SM
        obtain ⟨f1, f2, f3, -⟩ := HF.out
        go_wp2_with fail
        go_roundg (ln - (i + 1))
        case rel => exact ⟨i + 1, _, rfl, by first | rfl | (rw [IntWalk.wrap64_in _ (by omega)]; rfl), by omega, Nat.le_refl _, by omega, QX⟩
        case measure => omega
      · clear WR
        have NX := rnow_any q v pv xx w6 Q0.out.pair.ref
        obtain ⟨st, hst, hst0⟩ : ∃ st, xx.stamp = st ∧ 0 ≤ st ∧ st ≤ 60 := ⟨_, rfl, by rw [Q0.out.eq]; have := Q0.out.stamp; have := HF.out; omega⟩
        rw [hst] at NX
        have h2w : wrap64 (st + 2) = st + 2 := IntWalk.wrap64_in _ (by omega)
        have WS := within_any (q8 : Int) (st + 2) (by omega) (by omega) w6
        have hr0 := Int.emod_nonneg (q8 : Int) (show st + 2 ≠ 0 by omega)
        have hr1 := Int.emod_lt_of_pos (q8 : Int) (show 0 < st + 2 by omega)
        generalize (q8 : Int) % (st + 2) = rr at *
        have h1w : wrap64 (rr - 1) = rr - 1 := IntWalk.wrap64_in _ (by omega)
        clear hst hst0 hr0 hr1
        go_wp2_with fail
        refine NX.mono ?_
        rintro e w7 ⟨rfl, rfl⟩
        clear NX
        go_wp2_with fail
        refine WS.mono ?_
        rintro e w8 ⟨rfl, rfl⟩
        clear WS
        obtain UN := Q0.out.unpin (by have := HF.out; omega) (rr - 1)
        clear Q0
        go_wp2_with fail
        refine UN.mono ?_
        rintro e w8 ⟨rfl, UX⟩
        clear UN
        go_wp2_with fail
        refine UX.mono ?_
        rintro e w9 ⟨rfl, pv1, S1, s1, x1, Q1⟩
        clear UX
        have QE : Hid (j ≤ i + 1 ∧ Both w.heap.size p q w w9 j kk v pv1 S1 s1 x1) := ⟨by have := HF.out; omega, Q1⟩
        clear Q1
        have SM := QE.out.2.same (by have := HF.out; have := QE.out.1; omega) lw
        replace SM := SM.mono (fun e w' h => (⟨h.1, ⟨_, _, _, _, _, _, QE.out.1, h.2⟩⟩ : e = .returned (.bool true) ∧ Hid (∃ (v pv : Value) (S : St) (s x : Sto) (j : Nat), j ≤ i + 1 ∧ Both w.heap.size p q w w' j kk v pv S s x)))
        clear QE
        go_wp2_with fail
        refine SM.mono ?_
        rintro e w21 ⟨rfl, QX⟩
        clear SM
        obtain ⟨f1, f2, f3, -⟩ := HF.out
        go_wp2_with fail
        go_roundg (ln - (i + 1))
        case rel => exact ⟨i + 1, _, rfl, by first | rfl | (rw [IntWalk.wrap64_in _ (by omega)]; rfl), by omega, Nat.le_refl _, by omega, QX⟩
        case measure => omega
      · clear WR
        have NX := rnow_any q v pv xx w6 Q0.out.pair.ref
        obtain ⟨ap, cp, hpv, hpc⟩ := own_ints Q0.out.pair.ref.rp
        have c3 := Q0.out.pair.ref.blk.cell (i := 3) (v := pv) rfl
        rw [hpv] at c3
        have hpf : Hid (xx.p.length ≤ 60) := by
          have := Q0.out.pair.own.few.2
          have e := Q0.out.eq
          rw [← e] at this
          exact (by have := HF.out; omega : xx.p.length ≤ 60)
        replace hpv : Hid _ := hpv
        replace hpc : Hid _ := hpc
        obtain ⟨st, hst⟩ : ∃ st, xx.stamp = st := ⟨_, rfl⟩
        rw [hst] at NX
        generalize hpl : xx.p.length = pl at *
        replace hpl : Hid (xx.p.length = pl) := hpl
        clear hst
        go_wp2_with fail
        refine NX.mono ?_
        rintro e w7 ⟨rfl, rfl⟩
        clear NX
        go_wp2_with fail
        go_loopg [10, 20] pl (fun kx s10 s20 w2 => ∃ (jj : Nat) (lw : Int), s20 = .int .i64 jj ∧ s10 = .int .i64 lw ∧ jj ≤ pl ∧ pl - jj ≤ kx ∧ Hid (w2 = w7))
        case atStart => exact ⟨0, st, rfl, rfl, Nat.zero_le _, by omega, (rfl : w7 = w7)⟩
        case round =>
          obtain ⟨jj, lw, rfl, rfl, hjj, hgj, hw⟩ := hrel
          obtain rfl := hw.out
          clear hw
          by_cases hjp : jj < pl
          · have hjI : (jj : Int) < (pl : Int) := by omega
            have hj0 : (0 : Int) ≤ (jj : Int) := by omega
            obtain ⟨y, hy⟩ : ∃ y, xx.p[jj]? = some y := ⟨_, List.getElem?_eq_getElem (by rw [hpl.out]; exact hjp)⟩
            obtain ⟨g, rfl, d0⟩ := hpc.out jj y hy
            have HJ : Hid (jj < pl ∧ pl - jj ≤ gk ∧ jj < 60) := ⟨hjp, hgj, by have := hpf.out; omega⟩
            clear hjj hgj hjp hy hpc
            go_wp2_with fail
            obtain ⟨f1, f2, f3⟩ := HJ.out
            clear d0
            go_roundg (pl - (jj + 1))
            case rel => exact ⟨jj + 1, _, by first | rfl | (rw [IntWalk.wrap64_in _ (by omega)]; rfl), rfl, by omega, Nat.le_refl _, (rfl : wr = wr)⟩
            case measure => omega
          · have hjI : ¬ ((jj : Int) < (pl : Int)) := by omega
            obtain ⟨cc, CL⟩ := Q0.out.clean (by have := HF.out; omega)
            clear hjj hgj hjp hpc hpf hpl
            go_wp2_with fail
            refine CL.mono ?_
            rintro e w8 ⟨rfl, CX⟩
            clear CL c3 hpv
            go_wp2_with fail
            refine CX.mono ?_
            rintro e w9 ⟨rfl, v7, S7, Q7⟩
            clear CX Q0
            have QE : Hid (j ≤ i + 1 ∧ Both w.heap.size p q w w9 j kk v7 pv S7 (cleanP s).1 (cleanP s).1) := ⟨by have := HF.out; omega, Q7⟩
            clear Q7
            have SM := QE.out.2.same (by have := HF.out; have := QE.out.1; omega) lw
            replace SM := SM.mono (fun e w' h => (⟨h.1, ⟨_, _, _, _, _, _, QE.out.1, h.2⟩⟩ : e = .returned (.bool true) ∧ Hid (∃ (v pv : Value) (S : St) (s x : Sto) (j : Nat), j ≤ i + 1 ∧ Both w.heap.size p q w w' j kk v pv S s x)))
            clear QE
            go_wp2_with fail
            refine SM.mono ?_
            rintro e w21 ⟨rfl, QX⟩
            clear SM
            obtain ⟨f1, f2, f3, -⟩ := HF.out
            go_wp2_with fail
            go_roundg (ln - (i + 1))
            case rel => exact ⟨i + 1, _, rfl, by first | rfl | (rw [IntWalk.wrap64_in _ (by omega)]; rfl), by omega, Nat.le_refl _, by omega, QX⟩
            case measure => omega
    · have hstop : (¬ (i : Int) < (ln : Int)) ∨ ((i : Int) < (ln : Int) ∧ ¬ (i : Int) < 60) := by omega
      have hraw : a2.size ≤ maxLen := by rw [hs2]; exact hsz.out
      have E1 := Q0.eq
      subst E1
      have NS := now_own Q0.pair.own.own
      have NX := fun w1 (h : Below wr.heap.size wr w1) => rnow_any q v pv xx w1 (Q0.later h).pair.ref
      have RS := read_own Q0.pair.own.own a2 xx.stamp hraw
      have RX := fun w1 (h : Below wr.heap.size wr w1) => rread_any q v pv xx a2 xx.stamp w1 (Q0.later h).pair.ref
      have CS := fun w1 (h : Below wr.heap.size wr w1) => changed_own (Q0.later h).pair.own.own a2 0 hraw
      have CX := fun w1 (h : Below wr.heap.size wr w1) => rchanged_any q v pv xx a2 0 w1 (Q0.later h).pair.ref
      have HB : Hid (Below w.heap.size w wr) := Q0.below
      generalize xx.stamp = st at *
      generalize readP xx a2 st = rd at *
      generalize changedP xx a2 0 = ch at *
      replace NX : Hid _ := NX
      replace RX : Hid _ := RX
      replace CS : Hid _ := CS
      replace CX : Hid _ := CX
      clear Q0 hi hg hi60 hgo hji hns hln hraw
      rcases hstop with hinI | ⟨hinI, h60I⟩
      all_goals
        go_wp2_with fail
        refine NS.mono ?_
        rintro e w5 ⟨rfl, rfl⟩
        clear NS
        go_wp2_with fail
        refine RS.mono ?_
        rintro e w6 ⟨rfl, hb6⟩
        clear RS
        have NX0 := NX.out w6 hb6
        have RX0 := RX.out w6 hb6
        have CS0 := CS.out w6 hb6
        replace hb6 : Hid _ := hb6
        clear NX RX CS
        go_wp2_with fail
        refine NX0.mono ?_
        rintro e w7 ⟨rfl, rfl⟩
        clear NX0
        go_wp2_with fail
        refine RX0.mono ?_
        rintro e w8 ⟨rfl, rfl⟩
        clear RX0
        go_wp2_with fail
        refine CS0.mono ?_
        rintro e w9 ⟨rfl, n9, rfl⟩
        clear CS0
        have hb9 : Below w5.heap.size w5 (w8.drewN n9) := hb6.out.trans ((below_drewN w8 n9).mono hb6.out.size)
        have CX0 := CX.out _ hb9
        have HBE : Hid (Below w.heap.size w (w8.drewN n9)) := HB.out.trans (hb9.mono HB.out.size)
        clear CX hb9 hb6
        generalize w8.drewN n9 = w10 at *
        go_wp2_with fail
        refine CX0.mono ?_
        rintro e w11 ⟨rfl, rfl⟩
        clear CX0
        go_wp2_with fail
        go_ret
        exact ⟨rfl, HBE.out⟩

/-! ### The row's step -/
set_option maxRecDepth 100000 in
theorem lifted (os : Os) (started : os.Started) (H : Type) (enc : TypeId × Value → H) :
    ReturnsInHanded {} Try.checked os 3 .any (Rows.storePlaysSpec.pre6 enc Try.prog Try.f3 Rows.storePlaysRow.domain false) (Rows.storePlaysSpec.post enc Try.prog Try.f3 false true false false) := by
  refine returnsInHanded_of_change (C := Try.checked) own started (by kernel_rfl) Try.func3
    (ChangeSpec.witness6 (enc := enc) (C := Try.checked) false ⟨#[], #[.int .i64 0, .slice none 0 0, .string ByteArray.empty], []⟩ 8 (by kernel_rfl) (by kernel_rfl) (by kernel_rfl) (by kernel_rfl)) ?_
  intro W base args ds gs before hval0 hW hcnd _
  have hval : ∀ (j : Nat) t v, Try.f3.params[j]? = some t → args[j]? = some v → Value.okWide Try.prog W .any base t v := hval0
  have hW' := hW
  obtain ⟨p, q, hA0, hV, rfl, hfz, hnd⟩ := hW
  have hA : DataW.TrodAll enc Try.prog W 0 (fun _ => true) true Try.f3.params.toList args.toList ds p := hA0
  rw [Try.params3] at hA hval
  obtain ⟨v0, vs0, d0, ds0, p0, q0, hargs, rfl, rfl, h0, r0⟩ := trodAll_cons hA
  obtain ⟨v1, vs1, d1, ds1, p1, q1, rfl, rfl, rfl, h1, r1⟩ := trodAll_cons r0
  obtain ⟨v2, vs2, d2, ds2, p2, q2, rfl, rfl, rfl, h2, r2⟩ := trodAll_cons r1
  obtain ⟨rfl, rfl, rfl⟩ := trodAll_nil r2
  obtain rfl : args = #[v0, v1, v2] := by cases args; simp_all
  obtain ⟨rfl, rfl⟩ := trodVars_none hV
  obtain ⟨a0, rfl, rfl, rfl, w0⟩ := open_int Try.underlying3 (hval 0 3 v0 rfl rfl) h0
  have k1 := h1
  obtain ⟨a1, s1, w1, l1⟩ := open_ints' (hval 1 22 v1 rfl rfl) h1
  obtain ⟨a2, rfl, rfl, rfl, w2⟩ := open_string Try.underlying9 (hval 2 9 v2 rfl rfl) h2
  clear hA0 hval0
  simp only [List.append_nil, List.nil_append] at hW'
  have hlt : ∀ x ∈ p1, x.block < W.heap.size := fun x hx => by simpa using hW'.lt x (by simpa [or_assoc] using hx)
  refine (walk a0 w0 v1 a1 w1 l1 a2 w2 W s1).mono fun e W' ⟨he, hg⟩ => ?_
  subst he
  exact ⟨_, rfl, _, _, _, [], _, [], hW', (trodAll_cons_mk (shut_bool Try.underlying4 _) trodAll_mk0), (trodAll_cons_mk (shut_int Try.underlying3 w0) (trodAll_cons_mk (Below.trod laidOut (by kernel_rfl) (of_decide_eq_true (by kernel_rfl)) k1 hg (fun x hx => hlt x (by simp [hx]))) (trodAll_cons_mk (shut_string Try.underlying9 w2) trodAll_mk0))), rfl, hg.frame _, fun h => by cases h⟩

theorem row : Rows.StorePlaysSaid :=
  OpenClaim.holds_of_wide 3 Try.f3 rfl rfl rfl rfl rfl rfl rfl ⟨rfl, rfl, rfl, rfl, rfl⟩ rfl rfl rfl rfl rfl (by kernel_rfl) Try.func3 (by kernel_rfl)
    (of_decide_eq_true (by kernel_rfl)) (by unfold Func.isWrapper; first | (rw [if_pos (by decide +kernel)]; kernel_rfl) | (rw [if_neg (by decide +kernel)]; exact ⟨rfl, rfl⟩))
    (fun os started H enc _ => lifted os started H enc)

/-- The statement. -/
theorem proved : Rows.StorePlaysSaid :=
  row
#print axioms proved
end Go.Proofs.Ytcnajkclbmddgaa.storePlays
