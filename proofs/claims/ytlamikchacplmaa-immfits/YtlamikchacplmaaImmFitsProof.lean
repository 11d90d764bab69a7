/- For every input the law ImmFits returns true: whether a number fits so many bits is what the reference says; then its sign is kept. -/
import Derived.Test.YtlamikchacplmaaRows
import Derived.WalkKit
import Derived.ProofKit
import Derived.OpenShut
import Derived.Test.YtlamikchacplmaaFacts
namespace Go.Proofs.Ytlamikchacplmaa.immFits
open Plain
open Go.ChangeShapes Go.WideShapes Go.ChangeAt Go.RowKit
set_option linter.unusedVariables false

theorem own : ownKnob Try.prog.godebug = none := by kernel_rfl

/-! ### The walk -/
theorem walk (a0 : Int) (a1 : Int) (a2 : Int) (w0 : (Lit.int .i64 a0).wf = true) (w1 : (Lit.int .i64 a1).wf = true) (w2 : (Lit.int .i64 a2).wf = true) (w : World) :
    Calls Try.prog 7 #[.int .i64 a0, .int .i64 a1, .int .i64 a2] w fun e w' => e = .returned (.bool true) ∧ Grown w w' := by
  obtain ⟨v1, v2⟩ := bounds_i64 w0
  obtain ⟨k, hk⟩ : ∃ k : Nat, 1 + a2 % 40 = (k : Int) := ⟨(1 + a2 % 40).toNat, by omega⟩
  have k1 : 1 ≤ k := by omega
  have k2 : k ≤ 40 := by omega
  have hm : a2 % 40 = (k : Int) - 1 := by omega
  have r0 : 0 ≤ a1 % 2199023255552 := by omega
  have r1 : a1 % 2199023255552 < 2199023255552 := by omega
  have pj := pow_le (k - 1) 40 (by omega)
  have p0 := pow_pos2 (k - 1)
  have p40 : (2 : Int) ^ 40 = 1099511627776 := by decide
  rw [p40] at pj
  clear p40
  have x2 : wrap64 (2 ^ (k - 1)) = 2 ^ (k - 1) := IntWalk.wrap64_in _ (by omega)
  go_enter Try.func7, Try.ntmps7
  go_wp2_with fail
  refine (known_true _).mono ?_
  rintro e w' ⟨rfl, n0, rfl⟩
  have G : Hid (Grown w (w.drewN n0)) := grown_drewN _ _
  generalize w.drewN n0 = wk at *
  go_wp2_with fail
  refine (within_any a2 40 (by omega) (by omega) _).mono ?_
  rintro e w' ⟨rfl, rfl⟩
  rw [hm]
  have e1 : 1 + ((k : Int) - 1) = (k : Int) := by omega
  clear hk hm
  go_wp2_with fail
  refine (within_any a1 2199023255552 (by omega) (by omega) _).mono ?_
  rintro e w' ⟨rfl, rfl⟩
  obtain ⟨x1, hx1⟩ : ∃ x, a1 % 2199023255552 = x + 1099511627776 := ⟨a1 % 2199023255552 - 1099511627776, by omega⟩
  rw [hx1] at r0 r1 ⊢
  clear hx1
  go_wp2_with fail
  generalize (2 : Int) ^ (k - 1) = p at *
  refine wp_loop_rounds 8 ?_
  obtain ⟨f, g, lo, hi⟩ := fits_sign (a0) k k1 (by omega)
  rw [rounds_succ]
  go_wp2_with fail
  refine (immFits_any (a0) k k1 k2 (by omega) (by omega) _).mono ?_
  rintro e w' ⟨rfl, rfl⟩
  go_wp2_with fail
  refine (immSign_any (a0) k k1 k2 _).mono ?_
  rintro e w' ⟨rfl, rfl⟩
  go_wp2_with fail
  refine (refFits_any (a0) k k1 (by omega) _).mono ?_
  rintro e w' ⟨rfl, rfl⟩
  go_wp2_with fail
  refine (refSign_any (a0) k k1 (by omega) _).mono ?_
  rintro e w' ⟨rfl, rfl⟩
  go_wp2_with fail
  refine (immFits_any (signP (a0) k) k k1 k2 lo hi _).mono ?_
  rintro e w' ⟨rfl, rfl⟩
  rw [g]
  go_wp2_with fail
  clear f g lo hi
  obtain ⟨f, g, lo, hi⟩ := fits_sign (x1) k k1 (by omega)
  rw [rounds_succ]
  go_wp2_with fail
  refine (immFits_any (x1) k k1 k2 (by omega) (by omega) _).mono ?_
  rintro e w' ⟨rfl, rfl⟩
  go_wp2_with fail
  refine (immSign_any (x1) k k1 k2 _).mono ?_
  rintro e w' ⟨rfl, rfl⟩
  go_wp2_with fail
  refine (refFits_any (x1) k k1 (by omega) _).mono ?_
  rintro e w' ⟨rfl, rfl⟩
  go_wp2_with fail
  refine (refSign_any (x1) k k1 (by omega) _).mono ?_
  rintro e w' ⟨rfl, rfl⟩
  go_wp2_with fail
  refine (immFits_any (signP (x1) k) k k1 k2 lo hi _).mono ?_
  rintro e w' ⟨rfl, rfl⟩
  rw [g]
  go_wp2_with fail
  clear f g lo hi
  obtain ⟨f, g, lo, hi⟩ := fits_sign (p) k k1 (by omega)
  rw [rounds_succ]
  go_wp2_with fail
  refine (immFits_any (p) k k1 k2 (by omega) (by omega) _).mono ?_
  rintro e w' ⟨rfl, rfl⟩
  go_wp2_with fail
  refine (immSign_any (p) k k1 k2 _).mono ?_
  rintro e w' ⟨rfl, rfl⟩
  go_wp2_with fail
  refine (refFits_any (p) k k1 (by omega) _).mono ?_
  rintro e w' ⟨rfl, rfl⟩
  go_wp2_with fail
  refine (refSign_any (p) k k1 (by omega) _).mono ?_
  rintro e w' ⟨rfl, rfl⟩
  go_wp2_with fail
  refine (immFits_any (signP (p) k) k k1 k2 lo hi _).mono ?_
  rintro e w' ⟨rfl, rfl⟩
  rw [g]
  go_wp2_with fail
  clear f g lo hi
  obtain ⟨f, g, lo, hi⟩ := fits_sign (-p) k k1 (by omega)
  rw [rounds_succ]
  go_wp2_with fail
  refine (immFits_any (-p) k k1 k2 (by omega) (by omega) _).mono ?_
  rintro e w' ⟨rfl, rfl⟩
  go_wp2_with fail
  refine (immSign_any (-p) k k1 k2 _).mono ?_
  rintro e w' ⟨rfl, rfl⟩
  go_wp2_with fail
  refine (refFits_any (-p) k k1 (by omega) _).mono ?_
  rintro e w' ⟨rfl, rfl⟩
  go_wp2_with fail
  refine (refSign_any (-p) k k1 (by omega) _).mono ?_
  rintro e w' ⟨rfl, rfl⟩
  go_wp2_with fail
  refine (immFits_any (signP (-p) k) k k1 k2 lo hi _).mono ?_
  rintro e w' ⟨rfl, rfl⟩
  rw [g]
  go_wp2_with fail
  clear f g lo hi
  obtain ⟨f, g, lo, hi⟩ := fits_sign (p - 1) k k1 (by omega)
  rw [rounds_succ]
  go_wp2_with fail
  refine (immFits_any (p - 1) k k1 k2 (by omega) (by omega) _).mono ?_
  rintro e w' ⟨rfl, rfl⟩
  go_wp2_with fail
  refine (immSign_any (p - 1) k k1 k2 _).mono ?_
  rintro e w' ⟨rfl, rfl⟩
  go_wp2_with fail
  refine (refFits_any (p - 1) k k1 (by omega) _).mono ?_
  rintro e w' ⟨rfl, rfl⟩
  go_wp2_with fail
  refine (refSign_any (p - 1) k k1 (by omega) _).mono ?_
  rintro e w' ⟨rfl, rfl⟩
  go_wp2_with fail
  refine (immFits_any (signP (p - 1) k) k k1 k2 lo hi _).mono ?_
  rintro e w' ⟨rfl, rfl⟩
  rw [g]
  go_wp2_with fail
  clear f g lo hi
  obtain ⟨f, g, lo, hi⟩ := fits_sign (-1 - p) k k1 (by omega)
  rw [rounds_succ]
  go_wp2_with fail
  refine (immFits_any (-1 - p) k k1 k2 (by omega) (by omega) _).mono ?_
  rintro e w' ⟨rfl, rfl⟩
  go_wp2_with fail
  refine (immSign_any (-1 - p) k k1 k2 _).mono ?_
  rintro e w' ⟨rfl, rfl⟩
  go_wp2_with fail
  refine (refFits_any (-1 - p) k k1 (by omega) _).mono ?_
  rintro e w' ⟨rfl, rfl⟩
  go_wp2_with fail
  refine (refSign_any (-1 - p) k k1 (by omega) _).mono ?_
  rintro e w' ⟨rfl, rfl⟩
  go_wp2_with fail
  refine (immFits_any (signP (-1 - p) k) k k1 k2 lo hi _).mono ?_
  rintro e w' ⟨rfl, rfl⟩
  rw [g]
  go_wp2_with fail
  clear f g lo hi
  obtain ⟨f, g, lo, hi⟩ := fits_sign (0) k k1 (by omega)
  rw [rounds_succ]
  go_wp2_with fail
  refine (immFits_any (0) k k1 k2 (by omega) (by omega) _).mono ?_
  rintro e w' ⟨rfl, rfl⟩
  go_wp2_with fail
  refine (immSign_any (0) k k1 k2 _).mono ?_
  rintro e w' ⟨rfl, rfl⟩
  go_wp2_with fail
  refine (refFits_any (0) k k1 (by omega) _).mono ?_
  rintro e w' ⟨rfl, rfl⟩
  go_wp2_with fail
  refine (refSign_any (0) k k1 (by omega) _).mono ?_
  rintro e w' ⟨rfl, rfl⟩
  go_wp2_with fail
  refine (immFits_any (signP (0) k) k k1 k2 lo hi _).mono ?_
  rintro e w' ⟨rfl, rfl⟩
  rw [g]
  go_wp2_with fail
  clear f g lo hi
  rw [rounds_succ]
  go_wp2
  go_ret
  refine ⟨rfl, ?_⟩
  exact Grown.alloc G.out _ _

/-! ### The row's step -/
set_option maxRecDepth 100000 in
theorem lifted (os : Os) (started : os.Started) (H : Type) (enc : TypeId × Value → H) :
    ReturnsInHanded {} Try.checked os 7 .any (Rows.immFitsSpec.pre6 enc Try.prog Try.f7 Rows.immFitsRow.domain false) (Rows.immFitsSpec.post enc Try.prog Try.f7 false true false false) := by
  refine returnsInHanded_of_change (C := Try.checked) own started (by kernel_rfl) Try.func7
    (ChangeSpec.witness6 (enc := enc) (C := Try.checked) false ⟨#[], #[.int .i64 0, .int .i64 0, .int .i64 0], []⟩ 8 (by kernel_rfl) (by kernel_rfl) (by kernel_rfl) (by kernel_rfl)) ?_
  intro W base args ds gs before hval0 hW hcnd _
  have hval : ∀ (j : Nat) t v, Try.f7.params[j]? = some t → args[j]? = some v → Value.okWide Try.prog W .any base t v := hval0
  have hW' := hW
  obtain ⟨p, q, hA0, hV, rfl, hfz, hnd⟩ := hW
  have hA : DataW.TrodAll enc Try.prog W 0 (fun _ => true) true Try.f7.params.toList args.toList ds p := hA0
  rw [Try.params7] at hA hval
  obtain ⟨v0, vs0, d0, ds0, p0, q0, hargs, rfl, rfl, h0, r0⟩ := trodAll_cons hA
  obtain ⟨v1, vs1, d1, ds1, p1, q1, rfl, rfl, rfl, h1, r1⟩ := trodAll_cons r0
  obtain ⟨v2, vs2, d2, ds2, p2, q2, rfl, rfl, rfl, h2, r2⟩ := trodAll_cons r1
  obtain ⟨rfl, rfl, rfl⟩ := trodAll_nil r2
  obtain rfl : args = #[v0, v1, v2] := by cases args; simp_all
  obtain ⟨rfl, rfl⟩ := trodVars_none hV
  obtain ⟨a0, rfl, rfl, rfl, w0⟩ := open_int Try.underlying3 (hval 0 3 v0 rfl rfl) h0
  obtain ⟨a1, rfl, rfl, rfl, w1⟩ := open_int Try.underlying3 (hval 1 3 v1 rfl rfl) h1
  obtain ⟨a2, rfl, rfl, rfl, w2⟩ := open_int Try.underlying3 (hval 2 3 v2 rfl rfl) h2
  clear hA0 hval0
  simp only [List.append_nil] at hW'
  refine (walk a0 a1 a2 w0 w1 w2 W).mono fun e W' ⟨he, hg⟩ => ?_
  subst he
  exact ⟨_, rfl, post_of_same (pa := []) (pv := []) hW' (fun _ _ _ => (trodAll_cons_mk (shut_bool Try.underlying4 _) trodAll_mk0)) (fun sp _ => (trodAll_cons_mk (shut_int Try.underlying3 w0) (trodAll_cons_mk (shut_int Try.underlying3 w1) (trodAll_cons_mk (shut_int Try.underlying3 w2) trodAll_mk0)))) (fun _ _ => rfl) rfl
    (hg.frame _) hg.2.1 (ok_one (by kernel_rfl) rfl (okWide_bool_mk Try.underlying4 _))⟩

theorem over : Rows.immFitsRow.holds Try.pinned (OpenSpec.ofChange Rows.immFitsSpec) :=
  OpenClaim.holds_of_wide 7 Try.f7 rfl rfl rfl rfl rfl rfl rfl ⟨rfl, rfl, rfl, rfl, rfl⟩ rfl rfl rfl rfl rfl (by kernel_rfl) Try.func7 (by kernel_rfl)
    (of_decide_eq_true (by kernel_rfl)) (by unfold Func.isWrapper; first | (rw [if_pos (by decide +kernel)]; kernel_rfl) | (rw [if_neg (by decide +kernel)]; exact ⟨rfl, rfl⟩))
    (fun os started H enc _ => lifted os started H enc)

/-- The statement. -/
theorem proved : Rows.ImmFitsSaid :=
  over
#print axioms proved
end Go.Proofs.Ytlamikchacplmaa.immFits
