/- For every two lists of numbers (nil too), with no condition, StoreApart holds: what is done to one store does not touch another; it changes nothing that was there. -/
import Derived.Test.YtcnajkclbmddgabRows
import Derived.WalkKit
import Derived.ProofKit
import Derived.OpenShut
import Derived.Carry
import Derived.BigQuiet
import Derived.BigRegion
import Derived.Deep.LoopGhost
import Derived.Lib.QuietBelow
import Derived.Test.YtcnajkclbmddgabLawsP
import Derived.Test.YtcnajkclbmddgabRefS
import Derived.Test.YtcnajkclbmddgabRefT
namespace Go.Proofs.Ytcnajkclbmddgab.storeApart
open Go.ChangeShapes Go.WideShapes Go.ChangeAt Go.RowKit
open Go.ChangeMaps (open_string shut_string)
open Go.Sort (grow)
set_option linter.unusedVariables false
set_option linter.unusedSimpArgs false

theorem own : ownKnob Try.prog.godebug = none := by kernel_rfl

/-! ### The walk -/
set_option maxHeartbeats 8000000 in
set_option maxRecDepth 20000 in
theorem walk (v0 : Value) (a0 : List Int) (w0 : InRange a0) (l0 : a0.length ≤ maxLen) (v1 : Value) (a1 : List Int) (w1 : InRange a1) (l1 : a1.length ≤ maxLen) (w : World) (s0 : SliceIs w v0 a0) (s1 : SliceIs w v1 a1) :
    Calls Try.prog 4 #[v0, v1] w fun e w' => e = .returned (.bool true) ∧ Below w.heap.size w w' := by
  have K := known_any w
  obtain ⟨pn, cap, rfl, hns⟩ := s0
  obtain ⟨pm, capm, rfl, hms⟩ := s1
  have hns : Hid _ := hns
  have hms : Hid _ := hms
  clear w0 l0 w1 l1
  go_enter Try.func4, Try.ntmps4
  go_wp2_with fail
  refine K.mono ?_
  rintro e w1 ⟨rfl, hb1⟩
  clear K
  have N := new_own w.heap.size w w1 1000 (by omega) hb1 hb1.size
  clear hb1
  go_wp2_with fail
  refine N.mono ?_
  rintro e w2 ⟨p, S, rfl, O, ht, hp, -, -⟩
  clear N
  have NR := rnew_any 1000 w2
  go_wp2_with fail
  refine NR.mono ?_
  rintro e w3 ⟨rfl, R, hb23⟩
  clear NR
  have N := new_own w.heap.size w w3 5 (by omega) (O.later hb23).below (Nat.le_trans O.size hb23.size)
  replace O : Hid _ := O
  replace R : Hid _ := R
  replace hb23 : Hid _ := hb23
  go_wp2_with fail
  refine N.mono ?_
  rintro e w4 ⟨po, So, rfl, Oo, hot, hop, hb34, hge⟩
  clear N
  have hR : Hid (∃ (v pv : Value) (S : St) (s x : Sto) (So : St) (so : Sto) (j : Nat), j ≤ 0 ∧ Apart3 w.heap.size p w2.heap.size po w w4 0 j j v pv S s x So so) := ⟨_, _, _, _, _, _, _, 0, Nat.le_refl _, Apart3.start O.out hp ht hb23.out R.out hb34 Oo hop hot hge⟩
  clear O R hb23 ht hp Oo hot hop hb34 hge
  generalize w2.heap.size = q at *
  go_wp2_with fail
  generalize hln : a0.length = ln at *
  replace hln : Hid (a0.length = ln) := hln
  generalize hlm : a1.length = lm at *
  replace hlm : Hid (a1.length = lm) := hlm
  go_loopg [8] ln (fun kx s8 wr => ∃ i : Nat, s8 = .int .i64 i ∧ i ≤ ln ∧ ln - i ≤ kx ∧ i ≤ 40 ∧ Hid (∃ (v pv : Value) (S : St) (s x : Sto) (So : St) (so : Sto) (j : Nat), j ≤ i ∧ Apart3 w.heap.size p q po w wr i j j v pv S s x So so))
  case atStart => exact ⟨0, rfl, Nat.zero_le _, by omega, by omega, hR⟩
  case round =>
    clear hR
    obtain ⟨i, rfl, hi, hg, hi40, Q⟩ := hrel
    obtain ⟨v, pv, S, s, xx, So, so, j, hji, Q0⟩ := Q.out
    clear Q
    by_cases hgo : i < ln ∧ i < 40
    · have hinI : (i : Int) < (ln : Int) := by omega
      have hi0 : (0 : Int) ≤ (i : Int) := by omega
      have h40I : (i : Int) < 40 := by omega
      obtain ⟨x, hx⟩ : ∃ x, a0[i]? = some x := ⟨_, List.getElem?_eq_getElem (by rw [hln.out]; exact hgo.1)⟩
      obtain ⟨gb, go, rfl, hcell⟩ := hns.out (by rintro rfl; simp at hx)
      have cx : wr.cell? ⟨gb, go + i, none⟩ = some (.int .i64 x) := by
        have := hcell i x hx
        rw [Q0.trio.pair.own.own.below.cell (block_lt this)]; exact this
      have W1 := within_any x 1073741824 (by omega) (by omega) wr
      obtain ⟨n, hn, hn2⟩ : ∃ n : Nat, x % 1073741824 = (n : Int) ∧ n < 1073741824 := ⟨(x % 1073741824).toNat, by omega, by omega⟩
      rw [hn] at W1
      have WR := writes_any n hn2 wr
      have HF : Hid (i < ln ∧ i < 40 ∧ ln - i ≤ gk ∧ j ≤ i) := ⟨hgo.1, hgo.2, hg, hji⟩
      replace Q0 : Hid (Apart3 w.heap.size p q po w wr i j j v pv S s xx So so) := Q0
      clear hx hcell hn hn2 hi hg hi40 hgo hji
      go_wp2_with fail
      refine W1.mono ?_
      rintro e w5 ⟨rfl, rfl⟩
      clear W1
      go_wp2_with fail
      refine WR.mono ?_
      rintro e w6 ⟨ua, ub, rfl, hb6, ha6, hbb6⟩
      clear WR
      have CM := Q0.out.commit (by have := HF.out; omega) hb6 ha6 hbb6
      clear Q0 hb6 ha6 hbb6
      go_wp2_with fail
      refine CM.mono ?_
      rintro e w7 ⟨⟨r7, rfl⟩, CX⟩
      clear CM
      go_wp2_with fail
      refine CX.mono ?_
      rintro e w8 ⟨⟨r8, rfl⟩, v', S', s', x', Q8⟩
      clear CX
      by_cases him : i < lm
      · have himI : (i : Int) < (lm : Int) := by omega
        obtain ⟨y, hy⟩ : ∃ y, a1[i]? = some y := ⟨_, List.getElem?_eq_getElem (by rw [hlm.out]; exact him)⟩
        obtain ⟨gb2, go2, rfl, hcell⟩ := hms.out (by rintro rfl; simp at hy)
        have cy : w8.cell? ⟨gb2, go2 + i, none⟩ = some (.int .i64 y) := by
          have := hcell i y hy
          rw [Q8.trio.pair.own.own.below.cell (block_lt this)]; exact this
        have W1 := within_any y 1073741824 (by omega) (by omega) w8
        obtain ⟨m, hm, hm2⟩ : ∃ m : Nat, y % 1073741824 = (m : Int) ∧ m < 1073741824 := ⟨(y % 1073741824).toNat, by omega, by omega⟩
        rw [hm] at W1
        have WR := writes_any m hm2 w8
        replace Q8 : Hid (Apart3 w.heap.size p q po w w8 (i + 1) j j v' pv S' s' x' So so) := Q8
        clear hy hcell hm hm2 him
        go_wp2_with fail
        refine W1.mono ?_
        rintro e w9 ⟨rfl, rfl⟩
        clear W1
        go_wp2_with fail
        refine WR.mono ?_
        rintro e w10 ⟨uc, ud, rfl, hb10, hc10, -⟩
        clear WR
        have CM := Q8.out.ocommit (by have := HF.out; omega) hb10 hc10
        clear Q8 hb10 hc10
        go_wp2_with fail
        refine CM.mono ?_
        rintro e w11 ⟨⟨r11, rfl⟩, So1, so1, Q11⟩
        clear CM
        have CL := Q11.oclean
        clear Q11
        go_wp2_with fail
        refine CL.mono ?_
        rintro e w12 ⟨⟨r12, rfl⟩, So2, so2, Q12⟩
        clear CL
        have PN := Q12.opin (by have := HF.out; omega)
        clear Q12
        go_wp2_with fail
        refine PN.mono ?_
        rintro e w13 ⟨⟨r13, rfl⟩, So3, so3, Q13⟩
        clear PN
        have Q14 : Hid (∃ (v pv : Value) (S : St) (s x : Sto) (So : St) (so : Sto) (j : Nat), j ≤ i + 1 ∧ Apart3 w.heap.size p q po w w13 (i + 1) j j v pv S s x So so) := ⟨_, _, _, _, _, _, _, j + 1, by have := HF.out; omega, Q13⟩
        clear Q13
        obtain ⟨f1, f2, f3, -⟩ := HF.out
        go_wp2_with fail
        go_roundg (ln - (i + 1))
        case rel => exact ⟨i + 1, by go_num, by omega, Nat.le_refl _, by omega, Q14⟩
        case measure => omega
      · have himI : ¬ ((i : Int) < (lm : Int)) := by omega
        have Q14 : Hid (∃ (v pv : Value) (S : St) (s x : Sto) (So : St) (so : Sto) (j : Nat), j ≤ i + 1 ∧ Apart3 w.heap.size p q po w w8 (i + 1) j j v pv S s x So so) := ⟨_, _, _, _, _, _, _, j, by have := HF.out; omega, Q8⟩
        clear Q8 him cx
        obtain ⟨f1, f2, f3, -⟩ := HF.out
        go_wp2_with fail
        go_roundg (ln - (i + 1))
        case rel => exact ⟨i + 1, by go_num, by omega, Nat.le_refl _, by omega, Q14⟩
        case measure => omega
    · have hP := Q0.trio.pair
      rw [Q0.eq] at hP
      have SM := same_any 0 wr hP (by have := Q0.stamp; omega)
      replace SM := SM.mono (fun e w' h => (⟨h.1, hP.own.own.below.trans (h.2.mono hP.own.own.size)⟩ : e = .returned (.bool true) ∧ Hid (Below w.heap.size w w')))
      have hstop : (¬ (i : Int) < (ln : Int)) ∨ ((i : Int) < (ln : Int) ∧ ¬ (i : Int) < 40) := by omega
      clear Q0 hi hg hi40 hgo hP hji
      rcases hstop with hinI | ⟨hinI, h40I⟩
      all_goals
        go_wp2_with fail
        refine SM.mono ?_
        rintro e w5 ⟨rfl, hb5⟩
        clear SM
        go_wp2_with fail
        go_ret
        exact ⟨rfl, hb5.out⟩

/-! ### The row's step -/
set_option maxRecDepth 100000 in
theorem lifted (os : Os) (started : os.Started) (H : Type) (enc : TypeId × Value → H) :
    ReturnsInHanded {} Try.checked os 4 .any (Rows.storeApartSpec.pre6 enc Try.prog Try.f4 Rows.storeApartRow.domain false) (Rows.storeApartSpec.post enc Try.prog Try.f4 false true false false) := by
  refine returnsInHanded_of_change (C := Try.checked) own started (by kernel_rfl) Try.func4
    (ChangeSpec.witness6 (enc := enc) (C := Try.checked) false ⟨#[], #[.slice none 0 0, .slice none 0 0], []⟩ 8 (by kernel_rfl) (by kernel_rfl) (by kernel_rfl) (by kernel_rfl)) ?_
  intro W base args ds gs before hval0 hW hcnd _
  have hval : ∀ (j : Nat) t v, Try.f4.params[j]? = some t → args[j]? = some v → Value.okWide Try.prog W .any base t v := hval0
  have hW' := hW
  obtain ⟨p, q, hA0, hV, rfl, hfz, hnd⟩ := hW
  have hA : DataW.TrodAll enc Try.prog W 0 (fun _ => true) true Try.f4.params.toList args.toList ds p := hA0
  rw [Try.params4] at hA hval
  obtain ⟨v0, vs0, d0, ds0, p0, q0, hargs, rfl, rfl, h0, r0⟩ := trodAll_cons hA
  obtain ⟨v1, vs1, d1, ds1, p1, q1, rfl, rfl, rfl, h1, r1⟩ := trodAll_cons r0
  obtain ⟨rfl, rfl, rfl⟩ := trodAll_nil r1
  obtain rfl : args = #[v0, v1] := by cases args; simp_all
  obtain ⟨rfl, rfl⟩ := trodVars_none hV
  have k0 := h0
  obtain ⟨a0, s0, w0, l0⟩ := open_ints' (hval 0 22 v0 rfl rfl) h0
  have k1 := h1
  obtain ⟨a1, s1, w1, l1⟩ := open_ints' (hval 1 22 v1 rfl rfl) h1
  clear hA0 hval0
  simp only [List.append_nil, List.nil_append] at hW'
  have hlt : ∀ x ∈ p0 ++ p1, x.block < W.heap.size := fun x hx => by simpa using hW'.lt x (by simpa [or_assoc] using hx)
  refine (walk v0 a0 w0 l0 v1 a1 w1 l1 W s0 s1).mono fun e W' ⟨he, hg⟩ => ?_
  subst he
  exact ⟨_, rfl, _, _, _, [], _, [], hW', (trodAll_cons_mk (shut_bool Try.underlying4 _) trodAll_mk0), (trodAll_cons_mk (Below.trod laidOut (by kernel_rfl) (of_decide_eq_true (by kernel_rfl)) k0 hg (fun x hx => hlt x (by simp [hx]))) (trodAll_cons_mk (Below.trod laidOut (by kernel_rfl) (of_decide_eq_true (by kernel_rfl)) k1 hg (fun x hx => hlt x (by simp [hx]))) trodAll_mk0)), rfl, hg.frame _, fun h => by cases h⟩

theorem row : Rows.StoreApartSaid :=
  OpenClaim.holds_of_wide 4 Try.f4 rfl rfl rfl rfl rfl rfl rfl ⟨rfl, rfl, rfl, rfl, rfl⟩ rfl rfl rfl rfl rfl (by kernel_rfl) Try.func4 (by kernel_rfl)
    (of_decide_eq_true (by kernel_rfl)) (by unfold Func.isWrapper; first | (rw [if_pos (by decide +kernel)]; kernel_rfl) | (rw [if_neg (by decide +kernel)]; exact ⟨rfl, rfl⟩))
    (fun os started H enc _ => lifted os started H enc)

/-- The statement. -/
theorem proved : Rows.StoreApartSaid :=
  row
#print axioms proved
end Go.Proofs.Ytcnajkclbmddgab.storeApart
