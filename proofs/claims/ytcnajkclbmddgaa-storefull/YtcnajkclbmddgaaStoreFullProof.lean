/- For every limit and every list of numbers (nil too), with no condition, StoreFull holds: there are never more versions than the limit, what has no room changes nothing, and what has room is done; it changes nothing that was there. -/
import Derived.Test.YtcnajkclbmddgaaRows
import Derived.WalkKit
import Derived.ProofKit
import Derived.OpenShut
import Derived.Carry
import Derived.BigQuiet
import Derived.BigRegion
import Derived.Deep.LoopGhost
import Derived.Lib.QuietBelow
import Derived.Test.YtcnajkclbmddgaaLawsP
import Derived.Test.YtcnajkclbmddgaaLawsF
namespace Go.Proofs.Ytcnajkclbmddgaa.storeFull
open Go.ChangeShapes Go.WideShapes Go.ChangeAt Go.RowKit
open Go.ChangeMaps (open_string shut_string)
open Go.Sort (grow)
set_option linter.unusedVariables false
set_option linter.unusedSimpArgs false

theorem own : ownKnob Try.prog.godebug = none := by kernel_rfl

/-! ### The walk -/
set_option maxHeartbeats 8000000 in
set_option maxRecDepth 20000 in
theorem walk (a0 : Int) (w0 : (Lit.int .i64 a0).wf = true) (v1 : Value) (a1 : List Int) (w1 : InRange a1) (l1 : a1.length ≤ maxLen) (w : World) (s1 : SliceIs w v1 a1) :
    Calls Try.prog 5 #[.int .i64 a0, v1] w fun e w' => e = .returned (.bool true) ∧ Below w.heap.size w w' := by
  have K := known_any w
  obtain ⟨pn, cap, rfl, hns⟩ := s1
  have hns : Hid _ := hns
  have hrg : Hid (InRange a1) := w1
  have W30 := fun w => within_any a0 30 (by omega) (by omega) w
  obtain ⟨kk, hkk, hk30⟩ : ∃ kk : Nat, a0 % 30 = (kk : Int) ∧ kk < 30 := ⟨(a0 % 30).toNat, by omega, by omega⟩
  rw [hkk] at W30
  replace hkk : Hid (a0 % 30 = (kk : Int)) := hkk
  have hk30 : Hid (kk < 30) := hk30
  clear w0 w1 l1
  go_enter Try.func5, Try.ntmps5
  go_wp2_with fail
  refine K.mono ?_
  rintro e w1 ⟨rfl, hb1⟩
  clear K
  go_wp2_with fail
  refine (W30 w1).mono ?_
  rintro e w10 ⟨rfl, rfl⟩
  clear W30
  have N := new_own w.heap.size w w10 kk (by have := hk30.out; omega) hb1 hb1.size
  clear hb1
  go_wp2_with fail
  refine N.mono ?_
  rintro e w2 ⟨p, S, rfl, O, ht, hp, -, -⟩
  clear N
  go_wp2_with fail
  have hR : Hid (∃ (vl : Nat) (st : Int) (S : St) (s : Sto), Filled w.heap.size p w w2 0 kk vl st S s) := ⟨0, 0, S, _, O.fresh (n := 0) hp rfl, by omega, rfl, by omega, rfl, rfl, by omega⟩
  clear O ht hp
  generalize hln : a1.length = ln
  replace hln : Hid (a1.length = ln) := hln
  go_loopg [7] ln (fun kx s7 wr => ∃ (i : Nat), s7 = .int .i64 i ∧ i ≤ ln ∧ ln - i ≤ kx ∧ i ≤ 50 ∧ Hid (∃ (vl : Nat) (st : Int) (S : St) (s : Sto), Filled w.heap.size p w wr i kk vl st S s))
  case atStart => exact ⟨0, rfl, Nat.zero_le _, by omega, by omega, hR⟩
  case round =>
    clear hR
    obtain ⟨i, rfl, hi, hg, hi50, Q⟩ := hrel
    by_cases hin : i < ln
    · have hinI : (i : Int) < (ln : Int) := by omega
      have hi0 : (0 : Int) ≤ (i : Int) := by omega
      by_cases h50 : i < 50
      · have h50I : (i : Int) < 50 := by omega
        obtain ⟨x, hx⟩ : ∃ x, a1[i]? = some x := ⟨_, List.getElem?_eq_getElem (by rw [hln.out]; exact hin)⟩
        obtain ⟨vl, st, S, s, Q0⟩ := Q.out
        obtain ⟨gb, go, rfl, hcell⟩ := hns.out (by rintro rfl; simp at hx)
        have cx : wr.cell? ⟨gb, go + i, none⟩ = some (.int .i64 x) := by
          have := hcell i x hx
          rw [Q0.own.own.below.cell (block_lt this)]; exact this
        have W1 := within_any x 1073741824 (by omega) (by omega) wr
        obtain ⟨n, hn, hn2⟩ : ∃ n : Nat, x % 1073741824 = (n : Int) ∧ n < 1073741824 := ⟨(x % 1073741824).toNat, by omega, by omega⟩
        rw [hn] at W1
        have WR := writes_any n hn2 wr
        have HF : Hid (i < ln ∧ i < 50 ∧ ln - i ≤ gk) := ⟨hin, h50, hg⟩
        clear hx hcell hn hn2 hi hg hi50 hin h50 Q
        go_wp2_with fail
        refine W1.mono ?_
        rintro e w4 ⟨rfl, rfl⟩
        clear W1
        have hQ0 : Hid (Filled w.heap.size p w w4 i kk vl st S s) := Q0
        have hle : Hid ((0 ≤ st ∧ st ≤ i) ∧ (vl : Int) ≤ kk) := ⟨Q0.le, Q0.lek⟩
        clear Q0
        go_wp2_with fail
        refine WR.mono ?_
        rintro e w5 ⟨u, v, rfl, hb5, hu, -⟩
        clear WR
        obtain ⟨g, c, hux, -, -, -⟩ := ws_own hu (by rw [writes_len]; omega)
        have hw3 : Hid (0 < (writesP n).length ∧ (writesP n).length ≤ 3) := by rw [writes_len]; exact ⟨by omega, by omega⟩
        have CN := (hQ0.out.later hb5).count
        have TN := (hQ0.out.later hb5).now
        have CMF := fun h => hQ0.out.full (by have := HF.out; omega) hb5 hu h
        have CMR := fun h => hQ0.out.room (by have := HF.out; omega) hb5 hu h
        rw [hux] at CMF CMR
        subst hux
        generalize (writesP n).length = wl at *
        clear hu hb5 hQ0
        go_wp2_with fail
        refine CN.mono ?_
        rintro e w6 ⟨rfl, rfl⟩
        clear CN
        go_wp2_with fail
        refine TN.mono ?_
        rintro e w7 ⟨rfl, rfl⟩
        clear TN
        obtain ⟨vw, hvw⟩ : ∃ vw : Nat, vl + wl = vw := ⟨_, rfl⟩
        have hvI : (vl : Int) + (wl : Int) = (vw : Int) := by omega
        have hvB : wrap64 (vw : Int) = (vw : Int) := IntWalk.wrap64_in _ (by have := hle.out; have := hw3.out; have := hk30.out; omega)
        rw [hvI] at CMF CMR
        by_cases hfull : (kk : Int) < (vw : Int)
        · have CM := CMF hfull
          clear CMF CMR
          go_wp2_with fail
          refine CM.mono ?_
          rintro e w8 ⟨rfl, S8, Q8⟩
          clear CM
          have CN := Q8.count
          have TN := Q8.now
          have CL := Q8.clean
          clear Q8
          go_wp2_with fail
          refine CN.mono ?_
          rintro e w9 ⟨rfl, rfl⟩
          clear CN
          go_wp2_with fail
          refine TN.mono ?_
          rintro e w11 ⟨rfl, rfl⟩
          clear TN
          go_wp2_with fail
          refine CL.mono ?_
          rintro e w12 ⟨⟨cv, rfl⟩, vl2, S12, s12, Q12⟩
          clear CL hvI hvB hfull
          have CN := Q12.count
          have hlek : ((vl2 : Nat) : Int) ≤ (kk : Int) := Q12.lek
          replace Q12 : Hid (∃ (vl : Nat) (st : Int) (S : St) (s : Sto), Filled w.heap.size p w w12 (i + 1) kk vl st S s) := ⟨_, _, _, _, Q12⟩
          go_wp2_with fail
          refine CN.mono ?_
          rintro e w13 ⟨rfl, rfl⟩
          clear CN
          obtain ⟨f1, f2, f3⟩ := HF.out
          go_wp2_with fail
          clear hlek
          go_roundg (ln - (i + 1))
          case rel => exact ⟨i + 1, by go_num, by omega, Nat.le_refl _, by omega, Q12⟩
          case measure => omega
        · have CM := CMR (by omega)
          clear CMF CMR
          rw [hvw] at CM
          obtain ⟨st1, hst1⟩ : ∃ st1, st + 1 = st1 := ⟨_, rfl⟩
          have hstB : wrap64 st1 = st1 := IntWalk.wrap64_in _ (by have := hle.out; have := HF.out; omega)
          rw [hst1] at CM
          go_wp2_with fail
          refine CM.mono ?_
          rintro e w8 ⟨rfl, S8, s8, Q8⟩
          clear CM
          have CN := Q8.count
          replace Q8 : Hid (∃ (vl : Nat) (st : Int) (S : St) (s : Sto), Filled w.heap.size p w w8 (i + 1) kk vl st S s) := ⟨_, _, _, _, Q8⟩
          go_wp2_with fail
          refine CN.mono ?_
          rintro e w9 ⟨rfl, rfl⟩
          go_wp2_with fail
          refine CN.mono ?_
          rintro e w10 ⟨rfl, rfl⟩
          clear CN
          obtain ⟨f1, f2, f3⟩ := HF.out
          go_wp2_with fail
          clear hvI hvB hstB hst1
          go_roundg (ln - (i + 1))
          case rel => exact ⟨i + 1, by go_num, by omega, Nat.le_refl _, by omega, Q8⟩
          case measure => omega
      · have hex : Hid (Below w.heap.size w wr) := by
          obtain ⟨_, _, _, _, O⟩ := Q.out
          exact O.own.own.below
        have h50I : ¬ ((i : Int) < 50) := by omega
        clear Q hi hg hi50 hin h50
        go_wp2_with fail
        go_ret
        exact ⟨rfl, hex.out⟩
    · have hex : Hid (Below w.heap.size w wr) := by
        obtain ⟨_, _, _, _, O⟩ := Q.out
        exact O.own.own.below
      have hinI : ¬ ((i : Int) < (ln : Int)) := by omega
      clear Q hi hg hi50 hin
      go_wp2_with fail
      go_ret
      exact ⟨rfl, hex.out⟩

/-! ### The row's step -/
set_option maxRecDepth 100000 in
theorem lifted (os : Os) (started : os.Started) (H : Type) (enc : TypeId × Value → H) :
    ReturnsInHanded {} Try.checked os 5 .any (Rows.storeFullSpec.pre6 enc Try.prog Try.f5 Rows.storeFullRow.domain false) (Rows.storeFullSpec.post enc Try.prog Try.f5 false true false false) := by
  refine returnsInHanded_of_change (C := Try.checked) own started (by kernel_rfl) Try.func5
    (ChangeSpec.witness6 (enc := enc) (C := Try.checked) false ⟨#[], #[.int .i64 0, .slice none 0 0], []⟩ 8 (by kernel_rfl) (by kernel_rfl) (by kernel_rfl) (by kernel_rfl)) ?_
  intro W base args ds gs before hval0 hW hcnd _
  have hval : ∀ (j : Nat) t v, Try.f5.params[j]? = some t → args[j]? = some v → Value.okWide Try.prog W .any base t v := hval0
  have hW' := hW
  obtain ⟨p, q, hA0, hV, rfl, hfz, hnd⟩ := hW
  have hA : DataW.TrodAll enc Try.prog W 0 (fun _ => true) true Try.f5.params.toList args.toList ds p := hA0
  rw [Try.params5] at hA hval
  obtain ⟨v0, vs0, d0, ds0, p0, q0, hargs, rfl, rfl, h0, r0⟩ := trodAll_cons hA
  obtain ⟨v1, vs1, d1, ds1, p1, q1, rfl, rfl, rfl, h1, r1⟩ := trodAll_cons r0
  obtain ⟨rfl, rfl, rfl⟩ := trodAll_nil r1
  obtain rfl : args = #[v0, v1] := by cases args; simp_all
  obtain ⟨rfl, rfl⟩ := trodVars_none hV
  obtain ⟨a0, rfl, rfl, rfl, w0⟩ := open_int Try.underlying3 (hval 0 3 v0 rfl rfl) h0
  have k1 := h1
  obtain ⟨a1, s1, w1, l1⟩ := open_ints' (hval 1 22 v1 rfl rfl) h1
  clear hA0 hval0
  simp only [List.append_nil, List.nil_append] at hW'
  have hlt : ∀ x ∈ p1, x.block < W.heap.size := fun x hx => by simpa using hW'.lt x (by simpa [or_assoc] using hx)
  refine (walk a0 w0 v1 a1 w1 l1 W s1).mono fun e W' ⟨he, hg⟩ => ?_
  subst he
  exact ⟨_, rfl, _, _, _, [], _, [], hW', (trodAll_cons_mk (shut_bool Try.underlying4 _) trodAll_mk0), (trodAll_cons_mk (shut_int Try.underlying3 w0) (trodAll_cons_mk (Below.trod laidOut (by kernel_rfl) (of_decide_eq_true (by kernel_rfl)) k1 hg (fun x hx => hlt x (by simp [hx]))) trodAll_mk0)), rfl, hg.frame _, fun h => by cases h⟩

theorem row : Rows.StoreFullSaid :=
  OpenClaim.holds_of_wide 5 Try.f5 rfl rfl rfl rfl rfl rfl rfl ⟨rfl, rfl, rfl, rfl, rfl⟩ rfl rfl rfl rfl rfl (by kernel_rfl) Try.func5 (by kernel_rfl)
    (of_decide_eq_true (by kernel_rfl)) (by unfold Func.isWrapper; first | (rw [if_pos (by decide +kernel)]; kernel_rfl) | (rw [if_neg (by decide +kernel)]; exact ⟨rfl, rfl⟩))
    (fun os started H enc _ => lifted os started H enc)

/-- The statement. -/
theorem proved : Rows.StoreFullSaid :=
  row
#print axioms proved
end Go.Proofs.Ytcnajkclbmddgaa.storeFull
