/- For every input the law ImmSplits returns true: twenty bits, split as the reference splits them and joined, are what they were, and the parts are as wide as they may be. -/
import Derived.Test.YtlamikchacplmaaRows
import Derived.WalkKit
import Derived.ProofKit
import Derived.OpenShut
import Derived.Test.YtlamikchacplmaaFacts
namespace Go.Proofs.Ytlamikchacplmaa.immSplits
open Plain
open Go.ChangeShapes Go.WideShapes Go.ChangeAt Go.RowKit
set_option linter.unusedVariables false

theorem own : ownKnob Try.prog.godebug = none := by kernel_rfl

/-! ### The walk -/
theorem walk (a0 : Int) (w0 : (Lit.int .i64 a0).wf = true) (w : World) :
    Calls Try.prog 6 #[.int .i64 a0] w fun e w' => e = .returned (.bool true) ∧ Grown w w' := by
  have r0 : 0 ≤ a0 % 1048576 := by omega
  have r1 : a0 % 1048576 < 1048576 := by omega
  go_enter Try.func6, Try.ntmps6
  go_wp2_with fail
  refine (known_true _).mono ?_
  rintro e w' ⟨rfl, n0, rfl⟩
  go_wp2_with fail
  refine (within_any a0 1048576 (by omega) (by omega) _).mono ?_
  rintro e w' ⟨rfl, rfl⟩
  obtain ⟨v, hv⟩ : ∃ v, v = a0 % 1048576 - 524288 := ⟨_, rfl⟩
  have e0 : a0 % 1048576 = v + 524288 := by omega
  rw [e0] at r0 r1 ⊢
  clear e0 hv
  have hfit : fitsP v 20 = true := fits20_of v (by omega) (by omega)
  have hj : signP (v / 65536 % 16 * 65536 + v / 2048 % 32 * 2048 + v % 2048) 20 = v := by
    rw [sign20]; omega
  have HJ : Hid (signP (v / 65536 % 16 * 65536 + v / 2048 % 32 * 2048 + v % 2048) 20 = v) := hj
  clear hj
  have q0 : 0 ≤ v / 65536 % 16 := by omega
  have q1 : v / 65536 % 16 ≤ 15 := by omega
  have q2 : 0 ≤ v / 2048 % 32 := by omega
  have q3 : v / 2048 % 32 ≤ 31 := by omega
  have q4 : 0 ≤ v % 2048 := by omega
  have q5 : v % 2048 ≤ 2047 := by omega
  go_wp2_with fail
  refine (immSplit_any v hfit _).mono ?_
  rintro e w' ⟨rfl, n1, rfl⟩
  go_wp2_with fail
  refine (refSplit_any v _).mono ?_
  rintro e w' ⟨rfl, rfl⟩
  generalize v / 65536 % 16 = h at *
  generalize v / 2048 % 32 = m at *
  generalize v % 2048 = l at *
  go_wp2_with fail
  refine (immJoined_any h m l q0 q1 q2 q3 q4 q5 _).mono ?_
  rintro e w' ⟨rfl, rfl⟩
  rw [HJ.out]
  go_wp2
  go_ret
  exact ⟨rfl, grown_drewN _ _⟩

/-! ### The row's step -/
set_option maxRecDepth 100000 in
theorem lifted (os : Os) (started : os.Started) (H : Type) (enc : TypeId × Value → H) :
    ReturnsInHanded {} Try.checked os 6 .any (Rows.immSplitsSpec.pre6 enc Try.prog Try.f6 Rows.immSplitsRow.domain false) (Rows.immSplitsSpec.post enc Try.prog Try.f6 false true false false) := by
  refine returnsInHanded_of_change (C := Try.checked) own started (by kernel_rfl) Try.func6
    (ChangeSpec.witness6 (enc := enc) (C := Try.checked) false ⟨#[], #[.int .i64 0], []⟩ 8 (by kernel_rfl) (by kernel_rfl) (by kernel_rfl) (by kernel_rfl)) ?_
  intro W base args ds gs before hval0 hW hcnd _
  have hval : ∀ (j : Nat) t v, Try.f6.params[j]? = some t → args[j]? = some v → Value.okWide Try.prog W .any base t v := hval0
  have hW' := hW
  obtain ⟨p, q, hA0, hV, rfl, hfz, hnd⟩ := hW
  have hA : DataW.TrodAll enc Try.prog W 0 (fun _ => true) true Try.f6.params.toList args.toList ds p := hA0
  rw [Try.params6] at hA hval
  obtain ⟨v0, vs0, d0, ds0, p0, q0, hargs, rfl, rfl, h0, r0⟩ := trodAll_cons hA
  obtain ⟨rfl, rfl, rfl⟩ := trodAll_nil r0
  obtain rfl : args = #[v0] := by cases args; simp_all
  obtain ⟨rfl, rfl⟩ := trodVars_none hV
  obtain ⟨a0, rfl, rfl, rfl, w0⟩ := open_int Try.underlying3 (hval 0 3 v0 rfl rfl) h0
  clear hA0 hval0
  simp only [List.append_nil] at hW'
  refine (walk a0 w0 W).mono fun e W' ⟨he, hg⟩ => ?_
  subst he
  exact ⟨_, rfl, post_of_same (pa := []) (pv := []) hW' (fun _ _ _ => (trodAll_cons_mk (shut_bool Try.underlying4 _) trodAll_mk0)) (fun sp _ => (trodAll_cons_mk (shut_int Try.underlying3 w0) trodAll_mk0)) (fun _ _ => rfl) rfl
    (hg.frame _) hg.2.1 (ok_one (by kernel_rfl) rfl (okWide_bool_mk Try.underlying4 _))⟩

theorem over : Rows.immSplitsRow.holds Try.pinned (OpenSpec.ofChange Rows.immSplitsSpec) :=
  OpenClaim.holds_of_wide 6 Try.f6 rfl rfl rfl rfl rfl rfl rfl ⟨rfl, rfl, rfl, rfl, rfl⟩ rfl rfl rfl rfl rfl (by kernel_rfl) Try.func6 (by kernel_rfl)
    (of_decide_eq_true (by kernel_rfl)) (by unfold Func.isWrapper; first | (rw [if_pos (by decide +kernel)]; kernel_rfl) | (rw [if_neg (by decide +kernel)]; exact ⟨rfl, rfl⟩))
    (fun os started H enc _ => lifted os started H enc)

/-- The statement. -/
theorem proved : Rows.ImmSplitsSaid :=
  over
#print axioms proved
end Go.Proofs.Ytlamikchacplmaa.immSplits
