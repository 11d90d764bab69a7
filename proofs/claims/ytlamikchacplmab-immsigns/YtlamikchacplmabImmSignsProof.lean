/- For every input the law ImmSigns returns true: a number's lowest bits, with a sign, differ from it by a whole number of all, and taken again they stay. -/
import Derived.Test.YtlamikchacplmabRows
import Derived.WalkKit
import Derived.ProofKit
import Derived.OpenShut
import Derived.Test.YtlamikchacplmabFacts
namespace Go.Proofs.Ytlamikchacplmab.immSigns
open Plain
open Go.ChangeShapes Go.WideShapes Go.ChangeAt Go.RowKit
set_option linter.unusedVariables false

theorem own : ownKnob Try.prog.godebug = none := by kernel_rfl

/-! ### The walk -/
theorem walk (a0 : Int) (a1 : Int) (w0 : (Lit.int .i64 a0).wf = true) (w1 : (Lit.int .i64 a1).wf = true) (w : World) :
    Calls Try.prog 5 #[.int .i64 a0, .int .i64 a1] w fun e w' => e = .returned (.bool true) ∧ Grown w w' := by
  obtain ⟨k, hk⟩ : ∃ k : Nat, 1 + a1 % 40 = (k : Int) := ⟨(1 + a1 % 40).toNat, by omega⟩
  have k1 : 1 ≤ k := by omega
  have k2 : k ≤ 40 := by omega
  have hm : a1 % 40 = (k : Int) - 1 := by omega
  have r0 : 0 ≤ a0 % 1125899906842624 := by omega
  have r1 : a0 % 1125899906842624 < 1125899906842624 := by omega
  go_enter Try.func5, Try.ntmps5
  go_wp2_with fail
  refine (known_true _).mono ?_
  rintro e w' ⟨rfl, n0, rfl⟩
  go_wp2_with fail
  refine (within_any a1 40 (by omega) (by omega) _).mono ?_
  rintro e w' ⟨rfl, rfl⟩
  rw [hm]
  have e1 : 1 + ((k : Int) - 1) = (k : Int) := by omega
  clear hk hm
  go_wp2_with fail
  refine (within_any a0 1125899906842624 (by omega) (by omega) _).mono ?_
  rintro e w' ⟨rfl, rfl⟩
  obtain ⟨n, hn⟩ : ∃ n, a0 % 1125899906842624 = n + 562949953421312 := ⟨a0 % 1125899906842624 - 562949953421312, by omega⟩
  rw [hn] at r0 r1 ⊢
  clear hn
  obtain ⟨s1, s2, s3, s4⟩ := sign_facts n k k1
  have pk := pow_le k 40 k2
  have pj := pow_le (k - 1) 40 (by omega)
  have p0 := pow_pos2 k
  have p40 : (2 : Int) ^ 40 = 1099511627776 := by decide
  rw [p40] at pk pj
  clear p40
  go_wp2_with fail
  refine (immSign_any n k k1 k2 _).mono ?_
  rintro e w' ⟨rfl, rfl⟩
  have HS : Hid (signP (signP n k) k = signP n k) := s4
  clear s4
  have x1 : wrap64 (n - signP n k) = n - signP n k := IntWalk.wrap64_in _ (by omega)
  have x2 : wrap64 (2 ^ k) = 2 ^ k := IntWalk.wrap64_in _ (by omega)
  have x3 : (n - signP n k).tmod (2 ^ k) = 0 := Int.tmod_eq_zero_of_dvd (Int.dvd_of_emod_eq_zero s3)
  clear s3
  go_wp2_with fail
  refine (immSign_any (signP n k) k k1 k2 _).mono ?_
  rintro e w' ⟨rfl, rfl⟩
  rw [HS.out]
  have hz : (signP n k == signP n k) = true := by simp
  go_wp2_with fail
  refine (refSign_any n k k1 (by omega) _).mono ?_
  rintro e w' ⟨rfl, rfl⟩
  go_wp2
  go_ret
  exact ⟨by simp, grown_drewN _ _⟩

/-! ### The row's step -/
set_option maxRecDepth 100000 in
theorem lifted (os : Os) (started : os.Started) (H : Type) (enc : TypeId × Value → H) :
    ReturnsInHanded {} Try.checked os 5 .any (Rows.immSignsSpec.pre6 enc Try.prog Try.f5 Rows.immSignsRow.domain false) (Rows.immSignsSpec.post enc Try.prog Try.f5 false true false false) := by
  refine returnsInHanded_of_change (C := Try.checked) own started (by kernel_rfl) Try.func5
    (ChangeSpec.witness6 (enc := enc) (C := Try.checked) false ⟨#[], #[.int .i64 0, .int .i64 0], []⟩ 8 (by kernel_rfl) (by kernel_rfl) (by kernel_rfl) (by kernel_rfl)) ?_
  intro W base args ds gs before hval0 hW hcnd _
  have hval : ∀ (j : Nat) t v, Try.f5.params[j]? = some t → args[j]? = some v → Value.okWide Try.prog W .any base t v := hval0
  have hW' := hW
  obtain ⟨p, q, hA0, hV, rfl, hfz, hnd⟩ := hW
  have hA : DataW.TrodAll enc Try.prog W 0 (fun _ => true) true Try.f5.params.toList args.toList ds p := hA0
  rw [Try.params5] at hA hval
  obtain ⟨v0, vs0, d0, ds0, p0, q0, hargs, rfl, rfl, h0, r0⟩ := trodAll_cons hA
  obtain ⟨v1, vs1, d1, ds1, p1, q1, rfl, rfl, rfl, h1, r1⟩ := trodAll_cons r0
  obtain ⟨rfl, rfl, rfl⟩ := trodAll_nil r1
  obtain rfl : args = #[v0, v1] := by cases args; simp_all
  obtain ⟨rfl, rfl⟩ := trodVars_none hV
  obtain ⟨a0, rfl, rfl, rfl, w0⟩ := open_int Try.underlying3 (hval 0 3 v0 rfl rfl) h0
  obtain ⟨a1, rfl, rfl, rfl, w1⟩ := open_int Try.underlying3 (hval 1 3 v1 rfl rfl) h1
  clear hA0 hval0
  simp only [List.append_nil] at hW'
  refine (walk a0 a1 w0 w1 W).mono fun e W' ⟨he, hg⟩ => ?_
  subst he
  exact ⟨_, rfl, post_of_same (pa := []) (pv := []) hW' (fun _ _ _ => (trodAll_cons_mk (shut_bool Try.underlying4 _) trodAll_mk0)) (fun sp _ => (trodAll_cons_mk (shut_int Try.underlying3 w0) (trodAll_cons_mk (shut_int Try.underlying3 w1) trodAll_mk0))) (fun _ _ => rfl) rfl
    (hg.frame _) hg.2.1 (ok_one (by kernel_rfl) rfl (okWide_bool_mk Try.underlying4 _))⟩

theorem over : Rows.immSignsRow.holds Try.pinned (OpenSpec.ofChange Rows.immSignsSpec) :=
  OpenClaim.holds_of_wide 5 Try.f5 rfl rfl rfl rfl rfl rfl rfl ⟨rfl, rfl, rfl, rfl, rfl⟩ rfl rfl rfl rfl rfl (by kernel_rfl) Try.func5 (by kernel_rfl)
    (of_decide_eq_true (by kernel_rfl)) (by unfold Func.isWrapper; first | (rw [if_pos (by decide +kernel)]; kernel_rfl) | (rw [if_neg (by decide +kernel)]; exact ⟨rfl, rfl⟩))
    (fun os started H enc _ => lifted os started H enc)

/-- The statement. -/
theorem proved : Rows.ImmSignsSaid :=
  over
#print axioms proved
end Go.Proofs.Ytlamikchacplmab.immSigns
