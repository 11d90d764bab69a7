/- For every two lists of numbers (nil too), with no condition, StoreTwice holds: cleaned twice is cleaned once, and what it left is what the document leaves; it changes nothing that was there. -/
import Derived.Test.YtcnajkclbmddgabRows
import Derived.WalkKit
import Derived.ProofKit
import Derived.OpenShut
import Derived.Carry
import Derived.BigQuiet
import Derived.BigRegion
import Derived.Deep.LoopGhost
import Derived.Lib.QuietBelow
import Derived.Test.YtcnajkclbmddgabLawsP
import Derived.Test.YtcnajkclbmddgabRefS
import Derived.Test.YtcnajkclbmddgabRefT
namespace Go.Proofs.Ytcnajkclbmddgab.storeTwice
open Go.ChangeShapes Go.WideShapes Go.ChangeAt Go.RowKit
open Go.ChangeMaps (open_string shut_string)
open Go.Sort (grow)
set_option linter.unusedVariables false
set_option linter.unusedSimpArgs false

theorem own : ownKnob Try.prog.godebug = none := by kernel_rfl

/-! ### The walk -/
set_option maxHeartbeats 8000000 in
set_option maxRecDepth 20000 in
theorem walk (v0 : Value) (a0 : List Int) (w0 : InRange a0) (l0 : a0.length ≤ maxLen) (v1 : Value) (a1 : List Int) (w1 : InRange a1) (l1 : a1.length ≤ maxLen) (w : World) (s0 : SliceIs w v0 a0) (s1 : SliceIs w v1 a1) :
    Calls Try.prog 3 #[v0, v1] w fun e w' => e = .returned (.bool true) ∧ Below w.heap.size w w' := by
  have K := known_any w
  obtain ⟨pn, cap, rfl, hns⟩ := s0
  obtain ⟨pm, capm, rfl, hms⟩ := s1
  have hns : Hid _ := hns
  have hms : Hid _ := hms
  clear w0 l0 w1 l1
  go_enter Try.func3, Try.ntmps3
  go_wp2_with fail
  refine K.mono ?_
  rintro e w1 ⟨rfl, hb1⟩
  clear K
  have N := new_own w.heap.size w w1 1000 (by omega) hb1 hb1.size
  clear hb1
  go_wp2_with fail
  refine N.mono ?_
  rintro e w2 ⟨p, S, rfl, O, ht, hp, -, -⟩
  clear N
  have NR := rnew_any 1000 w2
  replace O : Hid _ := O
  go_wp2_with fail
  refine NR.mono ?_
  rintro e w3 ⟨rfl, R, hb23⟩
  clear NR
  have hR : Hid (∃ (v pv : Value) (S : St) (s x : Sto), Both w.heap.size p w2.heap.size w w3 0 1000 v pv S s x) := ⟨_, _, _, _, _, Both.start O.out hp ht hb23 R (by omega)⟩
  clear O R hb23 ht hp
  generalize w2.heap.size = q at *
  go_wp2_with fail
  generalize hln : a0.length = ln at *
  replace hln : Hid (a0.length = ln) := hln
  generalize hlm : a1.length = lm at *
  replace hlm : Hid (a1.length = lm) := hlm
  go_loopg [7] ln (fun kx s7 wr => ∃ i : Nat, s7 = .int .i64 i ∧ i ≤ ln ∧ ln - i ≤ kx ∧ i ≤ 40 ∧ Hid (∃ (v pv : Value) (S : St) (s x : Sto) (j : Nat), j ≤ 2 * i ∧ Both w.heap.size p q w wr j 1000 v pv S s x))
  case atStart => exact ⟨0, rfl, Nat.zero_le _, by omega, by omega, by obtain ⟨v, pv, S, s, x, h⟩ := hR.out; exact ⟨v, pv, S, s, x, 0, Nat.le_refl _, h⟩⟩
  case round =>
    clear hR
    obtain ⟨i, rfl, hi, hg, hi40, Q⟩ := hrel
    obtain ⟨v, pv, S, s, xx, j, hji, Q0⟩ := Q.out
    clear Q
    by_cases hgo : i < ln ∧ i < 40
    · have hinI : (i : Int) < (ln : Int) := by omega
      have hi0 : (0 : Int) ≤ (i : Int) := by omega
      have h40I : (i : Int) < 40 := by omega
      obtain ⟨x, hx⟩ : ∃ x, a0[i]? = some x := ⟨_, List.getElem?_eq_getElem (by rw [hln.out]; exact hgo.1)⟩
      obtain ⟨gb, go, rfl, hcell⟩ := hns.out (by rintro rfl; simp at hx)
      have cx : wr.cell? ⟨gb, go + i, none⟩ = some (.int .i64 x) := by
        have := hcell i x hx
        rw [Q0.below.cell (block_lt this)]; exact this
      have W1 := within_any x 1073741824 (by omega) (by omega) wr
      obtain ⟨n, hn, hn2⟩ : ∃ n : Nat, x % 1073741824 = (n : Int) ∧ n < 1073741824 := ⟨(x % 1073741824).toNat, by omega, by omega⟩
      rw [hn] at W1
      have WR := writes_any n hn2 wr
      have HF : Hid (i < ln ∧ i < 40 ∧ ln - i ≤ gk ∧ j ≤ 2 * i) := ⟨hgo.1, hgo.2, hg, hji⟩
      replace Q0 : Hid (Both w.heap.size p q w wr j 1000 v pv S s xx) := Q0
      clear hx hcell hn hn2 hi hg hi40 hgo hji
      go_wp2_with fail
      refine W1.mono ?_
      rintro e w5 ⟨rfl, rfl⟩
      clear W1
      go_wp2_with fail
      refine WR.mono ?_
      rintro e w6 ⟨ua, ub, rfl, hb6, ha6, hbb6⟩
      clear WR
      obtain ⟨r1, r2, CM⟩ := Q0.out.commit (by have := HF.out; omega) hb6 ha6 hbb6
      clear Q0 hb6 ha6 hbb6
      go_wp2_with fail
      refine CM.mono ?_
      rintro e w7 ⟨rfl, CX⟩
      clear CM cx
      go_wp2_with fail
      refine CX.mono ?_
      rintro e w8 ⟨rfl, v1, S1, s1, x1, Q8⟩
      clear CX
      by_cases him : i < lm
      · have himI : (i : Int) < (lm : Int) := by omega
        obtain ⟨y, hy⟩ : ∃ y, a1[i]? = some y := ⟨_, List.getElem?_eq_getElem (by rw [hlm.out]; exact him)⟩
        obtain ⟨gb2, go2, rfl, hcell⟩ := hms.out (by rintro rfl; simp at hy)
        have cy : w8.cell? ⟨gb2, go2 + i, none⟩ = some (.int .i64 y) := by
          have := hcell i y hy
          rw [Q8.below.cell (block_lt this)]; exact this
        have W4 := within_any y 4 (by omega) (by omega) w8
        obtain ⟨m, hm, hm2⟩ : ∃ m : Nat, y % 4 = (m : Int) ∧ m < 4 := ⟨(y % 4).toNat, by omega, by omega⟩
        rw [hm] at W4
        replace Q8 : Hid (Both w.heap.size p q w w8 (j + 1) 1000 v1 pv S1 s1 x1) := Q8
        clear hy hcell hm hm2 him
        go_wp2_with fail
        refine W4.mono ?_
        rintro e w9 ⟨rfl, rfl⟩
        clear W4 cy
        by_cases hm0 : m = 0
        · subst hm0
          obtain ⟨st, PN⟩ := Q8.out.pin (by have := HF.out; omega)
          clear Q8
          go_wp2_with fail
          refine PN.mono ?_
          rintro e w10 ⟨rfl, PX⟩
          clear PN
          go_wp2_with fail
          refine PX.mono ?_
          rintro e w11 ⟨rfl, pv2, S2, s2, x2, Q11⟩
          clear PX
          have Q14 : Hid (∃ (v pv : Value) (S : St) (s x : Sto) (j : Nat), j ≤ 2 * (i + 1) ∧ Both w.heap.size p q w w11 j 1000 v pv S s x) := ⟨_, _, _, _, _, j + 1 + 1, by have := HF.out; omega, Q11⟩
          clear Q11
          obtain ⟨f1, f2, f3, -⟩ := HF.out
          go_wp2_with fail
          go_roundg (ln - (i + 1))
          case rel => exact ⟨i + 1, by go_num, by omega, Nat.le_refl _, by omega, Q14⟩
          case measure => omega
        · have hm0I : ((m : Int) == 0) = false := by simp; omega
          have Q14 : Hid (∃ (v pv : Value) (S : St) (s x : Sto) (j : Nat), j ≤ 2 * (i + 1) ∧ Both w.heap.size p q w w9 j 1000 v pv S s x) := ⟨_, _, _, _, _, j + 1, by have := HF.out; omega, Q8.out⟩
          clear Q8 hm0
          obtain ⟨f1, f2, f3, -⟩ := HF.out
          go_wp2_with fail
          go_roundg (ln - (i + 1))
          case rel => exact ⟨i + 1, by go_num, by omega, Nat.le_refl _, by omega, Q14⟩
          case measure => omega
      · have himI : ¬ ((i : Int) < (lm : Int)) := by omega
        have Q14 : Hid (∃ (v pv : Value) (S : St) (s x : Sto) (j : Nat), j ≤ 2 * (i + 1) ∧ Both w.heap.size p q w w8 j 1000 v pv S s x) := ⟨_, _, _, _, _, j + 1, by have := HF.out; omega, Q8⟩
        clear Q8 him
        obtain ⟨f1, f2, f3, -⟩ := HF.out
        go_wp2_with fail
        go_roundg (ln - (i + 1))
        case rel => exact ⟨i + 1, by go_num, by omega, Nat.le_refl _, by omega, Q14⟩
        case measure => omega
    · have hstop : (¬ (i : Int) < (ln : Int)) ∨ ((i : Int) < (ln : Int) ∧ ¬ (i : Int) < 40) := by omega
      have hj80 : Hid (j ≤ 80) := by exact (by omega : j ≤ 80)
      have NX := rnow_any q v pv xx wr Q0.pair.ref
      obtain ⟨ap, cp, hpv, hpc⟩ := own_ints Q0.pair.ref.rp
      have c3 := Q0.pair.ref.blk.cell (i := 3) (v := pv) rfl
      rw [hpv] at c3
      have hpf : Hid (xx.p.length ≤ 80) := by
        have := Q0.pair.own.few.2
        have e := Q0.eq
        rw [← e] at this
        exact (by omega : xx.p.length ≤ 80)
      replace hpv : Hid _ := hpv
      replace hpc : Hid _ := hpc
      replace Q0 : Hid (Both w.heap.size p q w wr j 1000 v pv S s xx) := Q0
      obtain ⟨st, hst⟩ : ∃ st, xx.stamp = st := ⟨_, rfl⟩
      rw [hst] at NX
      generalize hpl : xx.p.length = pl at *
      replace hpl : Hid (xx.p.length = pl) := hpl
      clear hst hi hg hi40 hgo hji hns hms hln hlm
      rcases hstop with hinI | ⟨hinI, h40I⟩
      all_goals
        go_wp2_with fail
        refine NX.mono ?_
        rintro e w5 ⟨rfl, rfl⟩
        clear NX
        go_wp2_with fail
        go_loopg [10, 11] pl (fun kx s10 s11 w2 => ∃ (jj : Nat) (lw : Int), s11 = .int .i64 jj ∧ s10 = .int .i64 lw ∧ jj ≤ pl ∧ pl - jj ≤ kx ∧ Hid (w2 = w5))
        case atStart => exact ⟨0, st, rfl, rfl, Nat.zero_le _, by omega, (rfl : w5 = w5)⟩
        case round =>
          obtain ⟨jj, lw, rfl, rfl, hjj, hgj, hw⟩ := hrel
          obtain rfl := hw.out
          clear hw
          by_cases hjp : jj < pl
          · have hjI : (jj : Int) < (pl : Int) := by omega
            have hj0 : (0 : Int) ≤ (jj : Int) := by omega
            obtain ⟨y, hy⟩ : ∃ y, xx.p[jj]? = some y := ⟨_, List.getElem?_eq_getElem (by rw [hpl.out]; exact hjp)⟩
            obtain ⟨g, rfl, d0⟩ := hpc.out jj y hy
            have HJ : Hid (jj < pl ∧ pl - jj ≤ gk ∧ jj < 80) := ⟨hjp, hgj, by have := hpf.out; omega⟩
            clear hjj hgj hjp hy hpc
            go_wp2_with fail
            obtain ⟨f1, f2, f3⟩ := HJ.out
            clear d0
            go_roundg (pl - (jj + 1))
            case rel => exact ⟨jj + 1, _, by first | rfl | (rw [IntWalk.wrap64_in _ (by omega)]; rfl), rfl, by omega, Nat.le_refl _, (rfl : wr = wr)⟩
            case measure => omega
          · have hjI : ¬ ((jj : Int) < (pl : Int)) := by omega
            obtain ⟨cc, CL⟩ := Q0.out.clean (by have := hj80.out; omega)
            clear hjj hgj hjp hpc hpf hpl
            go_wp2_with fail
            refine CL.mono ?_
            rintro e w6 ⟨rfl, CX⟩
            clear CL c3 hpv
            go_wp2_with fail
            refine CX.mono ?_
            rintro e w7 ⟨rfl, v7, S7, Q7⟩
            clear CX Q0
            have AG := Q7.again
            clear Q7
            go_wp2_with fail
            refine AG.mono ?_
            rintro e w8 ⟨rfl, S8, Q8⟩
            clear AG
            have SM := Q8.same (by have := hj80.out; omega) lw
            replace SM := SM.mono (fun e w' h => (⟨h.1, h.2.below⟩ : e = .returned (.bool true) ∧ Hid (Below w.heap.size w w')))
            clear Q8
            go_wp2_with fail
            refine SM.mono ?_
            rintro e w9 ⟨rfl, hb9⟩
            clear SM
            go_wp2_with fail
            go_ret
            exact ⟨rfl, hb9.out⟩

/-! ### The row's step -/
set_option maxRecDepth 100000 in
theorem lifted (os : Os) (started : os.Started) (H : Type) (enc : TypeId × Value → H) :
    ReturnsInHanded {} Try.checked os 3 .any (Rows.storeTwiceSpec.pre6 enc Try.prog Try.f3 Rows.storeTwiceRow.domain false) (Rows.storeTwiceSpec.post enc Try.prog Try.f3 false true false false) := by
  refine returnsInHanded_of_change (C := Try.checked) own started (by kernel_rfl) Try.func3
    (ChangeSpec.witness6 (enc := enc) (C := Try.checked) false ⟨#[], #[.slice none 0 0, .slice none 0 0], []⟩ 8 (by kernel_rfl) (by kernel_rfl) (by kernel_rfl) (by kernel_rfl)) ?_
  intro W base args ds gs before hval0 hW hcnd _
  have hval : ∀ (j : Nat) t v, Try.f3.params[j]? = some t → args[j]? = some v → Value.okWide Try.prog W .any base t v := hval0
  have hW' := hW
  obtain ⟨p, q, hA0, hV, rfl, hfz, hnd⟩ := hW
  have hA : DataW.TrodAll enc Try.prog W 0 (fun _ => true) true Try.f3.params.toList args.toList ds p := hA0
  rw [Try.params3] at hA hval
  obtain ⟨v0, vs0, d0, ds0, p0, q0, hargs, rfl, rfl, h0, r0⟩ := trodAll_cons hA
  obtain ⟨v1, vs1, d1, ds1, p1, q1, rfl, rfl, rfl, h1, r1⟩ := trodAll_cons r0
  obtain ⟨rfl, rfl, rfl⟩ := trodAll_nil r1
  obtain rfl : args = #[v0, v1] := by cases args; simp_all
  obtain ⟨rfl, rfl⟩ := trodVars_none hV
  have k0 := h0
  obtain ⟨a0, s0, w0, l0⟩ := open_ints' (hval 0 22 v0 rfl rfl) h0
  have k1 := h1
  obtain ⟨a1, s1, w1, l1⟩ := open_ints' (hval 1 22 v1 rfl rfl) h1
  clear hA0 hval0
  simp only [List.append_nil, List.nil_append] at hW'
  have hlt : ∀ x ∈ p0 ++ p1, x.block < W.heap.size := fun x hx => by simpa using hW'.lt x (by simpa [or_assoc] using hx)
  refine (walk v0 a0 w0 l0 v1 a1 w1 l1 W s0 s1).mono fun e W' ⟨he, hg⟩ => ?_
  subst he
  exact ⟨_, rfl, _, _, _, [], _, [], hW', (trodAll_cons_mk (shut_bool Try.underlying4 _) trodAll_mk0), (trodAll_cons_mk (Below.trod laidOut (by kernel_rfl) (of_decide_eq_true (by kernel_rfl)) k0 hg (fun x hx => hlt x (by simp [hx]))) (trodAll_cons_mk (Below.trod laidOut (by kernel_rfl) (of_decide_eq_true (by kernel_rfl)) k1 hg (fun x hx => hlt x (by simp [hx]))) trodAll_mk0)), rfl, hg.frame _, fun h => by cases h⟩

theorem row : Rows.StoreTwiceSaid :=
  OpenClaim.holds_of_wide 3 Try.f3 rfl rfl rfl rfl rfl rfl rfl ⟨rfl, rfl, rfl, rfl, rfl⟩ rfl rfl rfl rfl rfl (by kernel_rfl) Try.func3 (by kernel_rfl)
    (of_decide_eq_true (by kernel_rfl)) (by unfold Func.isWrapper; first | (rw [if_pos (by decide +kernel)]; kernel_rfl) | (rw [if_neg (by decide +kernel)]; exact ⟨rfl, rfl⟩))
    (fun os started H enc _ => lifted os started H enc)

/-- The statement. -/
theorem proved : Rows.StoreTwiceSaid :=
  row
#print axioms proved
end Go.Proofs.Ytcnajkclbmddgab.storeTwice
