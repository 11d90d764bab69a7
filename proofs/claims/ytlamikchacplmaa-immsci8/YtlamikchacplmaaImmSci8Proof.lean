/- For every input the law ImmSci8 returns true: of any number whether it may be written so, and how, is what the reference says; and it comes back. -/
import Derived.Test.YtlamikchacplmaaRows
import Derived.WalkKit
import Derived.ProofKit
import Derived.OpenShut
import Derived.Test.YtlamikchacplmaaFacts
namespace Go.Proofs.Ytlamikchacplmaa.immSci8
open Plain
open Go.ChangeShapes Go.WideShapes Go.ChangeAt Go.RowKit
set_option linter.unusedVariables false

theorem own : ownKnob Try.prog.godebug = none := by kernel_rfl

theorem info_int : (Try.prog.info? 3).map (fun i => (i.zero, i.size, i.bytes)) = some (some (.int .i64 0), 1, 8) := by kernel_rfl

set_option maxRecDepth 20000 in
set_option maxHeartbeats 2000000 in
theorem walk_false (a0 a1 a2 : Int) (w0 : (Lit.int .i64 a0).wf = true) (w : World) :
    Calls Try.prog 3 #[.int .i64 a0, .int .i64 a1, .int .i64 a2, .bool false] w fun e w' => e = .returned (.bool true) ∧ Below w.heap.size w w' := by
  have m0 : 0 ≤ a1 % 256 := by omega
  have m1 : a1 % 256 ≤ 255 := by omega
  have s0 : 0 ≤ a2 % 4 := by omega
  have s1 : a2 % 4 ≤ 3 := by omega
  have t0 : 0 ≤ a1 % 300 := by omega
  have t1 : a1 % 300 ≤ 299 := by omega
  have u0 : 0 ≤ a1 % 70000 := by omega
  have u1 : a1 % 70000 ≤ 69999 := by omega
  go_enter Try.func3, Try.ntmps3
  go_wp2_with fail
  refine (known_true _).mono ?_
  rintro e w' ⟨rfl, n0, rfl⟩
  have G : Hid (Below w.heap.size w (w.drewN n0)) := below_drewN (Below.refl _ _) _
  have G1 : Hid (w.heap.size ≤ (w.drewN n0).heap.size) := Nat.le_refl _
  generalize w.drewN n0 = wk at *
  go_wp2_with fail
  refine (within_any a1 256 (by omega) (by omega) _).mono ?_
  rintro e w' ⟨rfl, rfl⟩
  go_wp2_with fail
  refine (within_any a2 4 (by omega) (by omega) _).mono ?_
  rintro e w' ⟨rfl, rfl⟩
  go_wp2_with fail
  refine (within_any a1 300 (by omega) (by omega) _).mono ?_
  rintro e w' ⟨rfl, rfl⟩
  go_wp2_with fail
  refine (within_any a1 70000 (by omega) (by omega) _).mono ?_
  rintro e w' ⟨rfl, rfl⟩
  go_wp2_with fail
  refine (within_any a1 70000 (by omega) (by omega) _).mono ?_
  rintro e w' ⟨rfl, rfl⟩
  go_wp2_with fail
  have hcell : ∀ j : Nat, j < 5 → ∃ x : Int, (wk.alloc (.cells #[.int .i64 a0, .int .i64 (wrap64 (a1 % 256 * 2 ^ (8 * (a2 % 4)).toNat)), .int .i64 (-1 - a1 % 300), .int .i64 (a1 % 70000), .int .i64 (-(a1 % 70000))] 3)).cell? ⟨wk.heap.size, j, none⟩ = some (.int .i64 x) := by
    intro j hj
    rw [World.cell?_alloc_new]
    match j, hj with
    | 0, _ => exact ⟨_, rfl⟩
    | 1, _ => exact ⟨_, rfl⟩
    | 2, _ => exact ⟨_, rfl⟩
    | 3, _ => exact ⟨_, rfl⟩
    | 4, _ => exact ⟨_, rfl⟩
  have G2 : Hid (Below w.heap.size w (wk.alloc (.cells #[.int .i64 a0, .int .i64 (wrap64 (a1 % 256 * 2 ^ (8 * (a2 % 4)).toNat)), .int .i64 (-1 - a1 % 300), .int .i64 (a1 % 70000), .int .i64 (-(a1 % 70000))] 3))) := Below.alloc G.out G1.out _
  clear G G1
  generalize wk.alloc (.cells #[.int .i64 a0, .int .i64 (wrap64 (a1 % 256 * 2 ^ (8 * (a2 % 4)).toNat)), .int .i64 (-1 - a1 % 300), .int .i64 (a1 % 70000), .int .i64 (-(a1 % 70000))] 3) = W at *
  generalize wk.heap.size = B at *
  go_loopw [10] (fun i wr => ∃ j n : Nat, j ≤ 5 ∧ i = .int .i64 j ∧ wr = W.drewN n) (fun i _ => 5 - (intOf i).toNat)
  case atStart => exact ⟨0, 0, by omega, rfl, rfl⟩
  case round =>
    obtain ⟨j, n, hj, rfl, rfl⟩ := hrel
    by_cases hlt : j < 5
    · obtain ⟨x, hx⟩ := hcell j hlt
      have H : Hid (∀ j : Nat, j < 5 → ∃ x : Int, W.cell? ⟨B, j, none⟩ = some (.int .i64 x)) := hcell
      clear hcell
      go_wp2_with fail
      refine (immSci8_any x _).mono ?_
      rintro e w' ⟨rfl, n1, rfl⟩
      rcases sci_cases x with hq | ⟨a, b, c, hq, a0', a1', b0', b1', c0', c1', hb⟩
      · rw [hq]
        simp only [four]
        go_wp2_with fail
        refine (refSci8_any x _).mono ?_
        rintro e w' ⟨rfl, rfl⟩
        rw [hq]
        simp only [four]
        go_wp2_with fail
        go_quiet (fail)
        go_wp2
        go_roundw
        case rel => exact ⟨j + 1, _, by omega, by go_num, rfl⟩
        case measure => simp [intOf]; omega
      · have d : (backP a b c != x) = false := by simp [hb]
        have d1 : (a != a) = false := by simp
        have d2 : (b != b) = false := by simp
        have d3 : (c != c) = false := by simp
        have HB : Hid (backP a b c = x) := hb
        clear hb
        rw [hq]
        simp only [four]
        go_wp2_with fail
        refine (refSci8_any x _).mono ?_
        rintro e w' ⟨rfl, rfl⟩
        rw [hq]
        simp only [four]
        go_wp2_with fail
        obtain ⟨W2, hW2⟩ : ∃ W2, W2 = W.drewN (n + n1) := ⟨_, rfl⟩
        have hx2 : W2.cell? ⟨B, j, none⟩ = some (.int .i64 x) := by rw [hW2]; exact hx
        rw [← hW2]
        have HW : Hid (W2 = W.drewN (n + n1)) := hW2
        clear hW2
        go_quiet (first | (go_at_call 13; exact Calls.quiet_of (immBack_any a b c a0' a1' b0' b1' c0' c1' _)))
        go_wp2
        go_roundw
        case rel => exact ⟨j + 1, _, by omega, by go_num, by rw [HW.out, World.drewN_drewN]⟩
        case measure => simp [intOf]; omega
    · have hge : j = 5 := by omega
      subst hge
      clear hcell
      go_wp2
      go_ret
      exact ⟨rfl, below_drewN G2.out _⟩

set_option maxRecDepth 20000 in
set_option maxHeartbeats 2000000 in
theorem walk_true (a0 a1 a2 : Int) (w0 : (Lit.int .i64 a0).wf = true) (w : World) :
    Calls Try.prog 3 #[.int .i64 a0, .int .i64 a1, .int .i64 a2, .bool true] w fun e w' => e = .returned (.bool true) ∧ Below w.heap.size w w' := by
  have m0 : 0 ≤ a1 % 256 := by omega
  have m1 : a1 % 256 ≤ 255 := by omega
  have s0 : 0 ≤ a2 % 4 := by omega
  have s1 : a2 % 4 ≤ 3 := by omega
  have t0 : 0 ≤ a1 % 300 := by omega
  have t1 : a1 % 300 ≤ 299 := by omega
  have u0 : 0 ≤ a1 % 70000 := by omega
  have u1 : a1 % 70000 ≤ 69999 := by omega
  have r0 : 0 ≤ a1 % 34 := by omega
  have r1 : a1 % 34 ≤ 33 := by omega
  go_enter Try.func3, Try.ntmps3
  go_wp2_with fail
  refine (known_true _).mono ?_
  rintro e w' ⟨rfl, n0, rfl⟩
  have G : Hid (Below w.heap.size w (w.drewN n0)) := below_drewN (Below.refl _ _) _
  have G1 : Hid (w.heap.size ≤ (w.drewN n0).heap.size) := Nat.le_refl _
  generalize w.drewN n0 = wk at *
  go_wp2_with fail
  refine (within_any a1 256 (by omega) (by omega) _).mono ?_
  rintro e w' ⟨rfl, rfl⟩
  go_wp2_with fail
  refine (within_any a2 4 (by omega) (by omega) _).mono ?_
  rintro e w' ⟨rfl, rfl⟩
  go_wp2_with fail
  refine (within_any a1 300 (by omega) (by omega) _).mono ?_
  rintro e w' ⟨rfl, rfl⟩
  go_wp2_with fail
  refine (within_any a1 70000 (by omega) (by omega) _).mono ?_
  rintro e w' ⟨rfl, rfl⟩
  go_wp2_with fail
  refine (within_any a1 70000 (by omega) (by omega) _).mono ?_
  rintro e w' ⟨rfl, rfl⟩
  go_wp2_with fail
  refine (within_any a1 34 (by omega) (by omega) _).mono ?_
  rintro e w' ⟨rfl, rfl⟩
  go_wp2_with fail
  refine (within_any a1 34 (by omega) (by omega) _).mono ?_
  rintro e w' ⟨rfl, rfl⟩
  obtain ⟨i0, hi, hz0, hz1, hz2⟩ := info_parts info_int
  go_wp2_with (first | (at_builtin; refine wpList_append_own _ rfl _ _ 25 rfl wk.heap.size 3 i0 (.int .i64 0) 1 8 Try.underlying25 hi hz0 hz1 hz2 rfl (by decide) _ 5 _ rfl ((World.ownsRow_lit wk _ 5 (Nat.le_refl _) (by decide) rfl).alloc _) ⟨wk.heap.size + 1, 0, none⟩ 2 2 [.int .i64 (wrap64 (-wrap64 (2 ^ (a1 % 34).toNat))), .int .i64 (wrap64 (wrap64 (2 ^ (a1 % 34).toNat) - 1))] rfl rfl ?c1 ?c2 ?c3 ?c4 ?c5 ?_))
  case c1 =>
    intro j u hj
    match j, hj with
    | 0, hj => simp at hj; subst hj; simp [Addr.add]
    | 1, hj => simp at hj; subst hj; simp [Addr.add]
  case c2 =>
    intro u hu
    simp at hu
    rcases hu with rfl | rfl <;> rfl
  case c3 => decide
  case c4 => decide
  case c5 => simp; omega
  intro v' W hown hgrow _
  have G2 : Hid (Below w.heap.size w W) :=
    Below.grown (Below.alloc (Below.alloc G.out G1.out _) (by have := G1.out; simp; omega) _) hgrow (by have := G1.out; simp; omega) (by
      intro k hk
      have := G1.out
      simp [Value.ownBlock] at hk
      omega)
  clear G G1 hgrow
  have hex : ∃ g cap, v' = .slice (some ⟨g, 0, none⟩) 7 cap := by
    rcases hown.2 with ⟨_, h⟩ | ⟨g, cap, cur, h, _⟩
    · exact absurd h (by decide)
    · exact ⟨g, cap, h⟩
  obtain ⟨B, cap, hv⟩ := hex
  rw [hv] at hown
  have hcell : ∀ j : Nat, j < 7 → ∃ x : Int, W.cell? ⟨B, j, none⟩ = some (.int .i64 x) := by
    intro j hj
    rw [hown.cellAt j (by omega)]
    match j, hj with
    | 0, _ => exact ⟨_, rfl⟩
    | 1, _ => exact ⟨_, rfl⟩
    | 2, _ => exact ⟨_, rfl⟩
    | 3, _ => exact ⟨_, rfl⟩
    | 4, _ => exact ⟨_, rfl⟩
    | 5, _ => exact ⟨_, rfl⟩
    | 6, _ => exact ⟨_, rfl⟩
  clear hown hi hz0 hz1 hz2
  rw [hv]
  clear hv
  go_wp2_with fail
  go_loopw [10] (fun i wr => ∃ j n : Nat, j ≤ 7 ∧ i = .int .i64 j ∧ wr = W.drewN n) (fun i _ => 7 - (intOf i).toNat)
  case atStart => exact ⟨0, 0, by omega, rfl, rfl⟩
  case round =>
    obtain ⟨j, n, hj, rfl, rfl⟩ := hrel
    by_cases hlt : j < 7
    · obtain ⟨x, hx⟩ := hcell j hlt
      have H : Hid (∀ j : Nat, j < 7 → ∃ x : Int, W.cell? ⟨B, j, none⟩ = some (.int .i64 x)) := hcell
      clear hcell
      go_wp2_with fail
      refine (immSci8_any x _).mono ?_
      rintro e w' ⟨rfl, n1, rfl⟩
      rcases sci_cases x with hq | ⟨a, b, c, hq, a0', a1', b0', b1', c0', c1', hb⟩
      · rw [hq]
        simp only [four]
        go_wp2_with fail
        refine (refSci8_any x _).mono ?_
        rintro e w' ⟨rfl, rfl⟩
        rw [hq]
        simp only [four]
        go_wp2_with fail
        go_quiet (fail)
        go_wp2
        go_roundw
        case rel => exact ⟨j + 1, _, by omega, by go_num, rfl⟩
        case measure => simp [intOf]; omega
      · have d : (backP a b c != x) = false := by simp [hb]
        have d1 : (a != a) = false := by simp
        have d2 : (b != b) = false := by simp
        have d3 : (c != c) = false := by simp
        have HB : Hid (backP a b c = x) := hb
        clear hb
        rw [hq]
        simp only [four]
        go_wp2_with fail
        refine (refSci8_any x _).mono ?_
        rintro e w' ⟨rfl, rfl⟩
        rw [hq]
        simp only [four]
        go_wp2_with fail
        obtain ⟨W2, hW2⟩ : ∃ W2, W2 = W.drewN (n + n1) := ⟨_, rfl⟩
        have hx2 : W2.cell? ⟨B, j, none⟩ = some (.int .i64 x) := by rw [hW2]; exact hx
        rw [← hW2]
        have HW : Hid (W2 = W.drewN (n + n1)) := hW2
        clear hW2
        go_quiet (first | (go_at_call 13; exact Calls.quiet_of (immBack_any a b c a0' a1' b0' b1' c0' c1' _)))
        go_wp2
        go_roundw
        case rel => exact ⟨j + 1, _, by omega, by go_num, by rw [HW.out, World.drewN_drewN]⟩
        case measure => simp [intOf]; omega
    · have hge : j = 7 := by omega
      subst hge
      clear hcell
      go_wp2
      go_ret
      exact ⟨rfl, below_drewN G2.out _⟩

/-! ### The walk -/
theorem walk (a0 : Int) (a1 : Int) (a2 : Int) (a3 : Bool) (w0 : (Lit.int .i64 a0).wf = true) (w1 : (Lit.int .i64 a1).wf = true) (w2 : (Lit.int .i64 a2).wf = true) (w : World) :
    Calls Try.prog 3 #[.int .i64 a0, .int .i64 a1, .int .i64 a2, .bool a3] w fun e w' => e = .returned (.bool true) ∧ Below w.heap.size w w' := by
  cases a3 with
  | false => exact walk_false a0 a1 a2 w0 w
  | true => exact walk_true a0 a1 a2 w0 w

/-! ### The row's step -/
set_option maxRecDepth 100000 in
theorem lifted (os : Os) (started : os.Started) (H : Type) (enc : TypeId × Value → H) :
    ReturnsInHanded {} Try.checked os 3 .any (Rows.immSci8Spec.pre6 enc Try.prog Try.f3 Rows.immSci8Row.domain false) (Rows.immSci8Spec.post enc Try.prog Try.f3 false true false false) := by
  refine returnsInHanded_of_change (C := Try.checked) own started (by kernel_rfl) Try.func3
    (ChangeSpec.witness6 (enc := enc) (C := Try.checked) false ⟨#[], #[.int .i64 0, .int .i64 0, .int .i64 0, .bool false], []⟩ 8 (by kernel_rfl) (by kernel_rfl) (by kernel_rfl) (by kernel_rfl)) ?_
  intro W base args ds gs before hval0 hW hcnd _
  have hval : ∀ (j : Nat) t v, Try.f3.params[j]? = some t → args[j]? = some v → Value.okWide Try.prog W .any base t v := hval0
  have hW' := hW
  obtain ⟨p, q, hA0, hV, rfl, hfz, hnd⟩ := hW
  have hA : DataW.TrodAll enc Try.prog W 0 (fun _ => true) true Try.f3.params.toList args.toList ds p := hA0
  rw [Try.params3] at hA hval
  obtain ⟨v0, vs0, d0, ds0, p0, q0, hargs, rfl, rfl, h0, r0⟩ := trodAll_cons hA
  obtain ⟨v1, vs1, d1, ds1, p1, q1, rfl, rfl, rfl, h1, r1⟩ := trodAll_cons r0
  obtain ⟨v2, vs2, d2, ds2, p2, q2, rfl, rfl, rfl, h2, r2⟩ := trodAll_cons r1
  obtain ⟨v3, vs3, d3, ds3, p3, q3, rfl, rfl, rfl, h3, r3⟩ := trodAll_cons r2
  obtain ⟨rfl, rfl, rfl⟩ := trodAll_nil r3
  obtain rfl : args = #[v0, v1, v2, v3] := by cases args; simp_all
  obtain ⟨rfl, rfl⟩ := trodVars_none hV
  obtain ⟨a0, rfl, rfl, rfl, w0⟩ := open_int Try.underlying3 (hval 0 3 v0 rfl rfl) h0
  obtain ⟨a1, rfl, rfl, rfl, w1⟩ := open_int Try.underlying3 (hval 1 3 v1 rfl rfl) h1
  obtain ⟨a2, rfl, rfl, rfl, w2⟩ := open_int Try.underlying3 (hval 2 3 v2 rfl rfl) h2
  obtain ⟨a3, rfl, rfl, rfl⟩ := open_bool Try.underlying4 (hval 3 4 v3 rfl rfl) h3
  clear hA0 hval0
  simp only [List.append_nil] at hW'
  refine (walk a0 a1 a2 a3 w0 w1 w2 W).mono fun e W' ⟨he, hg⟩ => ?_
  subst he
  exact ⟨_, rfl, _, _, _, [], [], [], hW', (trodAll_cons_mk (shut_bool Try.underlying4 _) trodAll_mk0), (trodAll_cons_mk (shut_int Try.underlying3 w0) (trodAll_cons_mk (shut_int Try.underlying3 w1) (trodAll_cons_mk (shut_int Try.underlying3 w2) (trodAll_cons_mk (shut_bool Try.underlying4 _) trodAll_mk0)))), rfl, hg.frame _, fun h => by cases h⟩

theorem over : Rows.immSci8Row.holds Try.pinned (OpenSpec.ofChange Rows.immSci8Spec) :=
  OpenClaim.holds_of_wide 3 Try.f3 rfl rfl rfl rfl rfl rfl rfl ⟨rfl, rfl, rfl, rfl, rfl⟩ rfl rfl rfl rfl rfl (by kernel_rfl) Try.func3 (by kernel_rfl)
    (of_decide_eq_true (by kernel_rfl)) (by unfold Func.isWrapper; first | (rw [if_pos (by decide +kernel)]; kernel_rfl) | (rw [if_neg (by decide +kernel)]; exact ⟨rfl, rfl⟩))
    (fun os started H enc _ => lifted os started H enc)

/-- The statement. -/
theorem proved : Rows.ImmSci8Said :=
  over
#print axioms proved
end Go.Proofs.Ytlamikchacplmaa.immSci8
