/- For every input the law ImmKnown returns true: these numbers are written just so. -/
import Derived.Test.YtlamikchacplmabRows
import Derived.WalkKit
import Derived.ProofKit
import Derived.OpenShut
import Derived.Test.YtlamikchacplmabFacts
namespace Go.Proofs.Ytlamikchacplmab.immKnown
open Plain
open Go.ChangeShapes Go.WideShapes Go.ChangeAt Go.RowKit
set_option linter.unusedVariables false

theorem own : ownKnob Try.prog.godebug = none := by kernel_rfl

set_option maxHeartbeats 1000000 in
theorem walk_0 (a0 : Int) (hk : a0 % 15 = 0) (w : World) :
    Calls Try.prog 3 #[.int .i64 a0] w fun e w' => e = .returned (.bool true) ∧ Grown w w' := by
  have q : sciP (0) = (0, 0, 0, true) := by decide +kernel
  go_enter Try.func3, Try.ntmps3
  go_wp2_with fail
  refine (known_true _).mono ?_
  rintro e w' ⟨rfl, n0, rfl⟩
  have G : Hid (Grown w (w.drewN n0)) := grown_drewN _ _
  generalize w.drewN n0 = wk at *
  go_wp2_with fail
  refine (within_any a0 15 (by omega) (by omega) _).mono ?_
  rintro e w' ⟨rfl, rfl⟩
  rw [hk]
  go_wp2_with fail
  refine (immSci8_any _ _).mono ?_
  rintro e w' ⟨rfl, n1, rfl⟩
  rw [q]
  simp only [four]
  go_wp2
  go_ret
  exact ⟨rfl, Grown.alloc (Grown.alloc (Grown.alloc (Grown.alloc G.out _ _) _ _) _ _) _ _⟩

set_option maxHeartbeats 1000000 in
theorem walk_1 (a0 : Int) (hk : a0 % 15 = 1) (w : World) :
    Calls Try.prog 3 #[.int .i64 a0] w fun e w' => e = .returned (.bool true) ∧ Grown w w' := by
  have q : sciP (255) = (0, 0, 255, true) := by decide +kernel
  go_enter Try.func3, Try.ntmps3
  go_wp2_with fail
  refine (known_true _).mono ?_
  rintro e w' ⟨rfl, n0, rfl⟩
  have G : Hid (Grown w (w.drewN n0)) := grown_drewN _ _
  generalize w.drewN n0 = wk at *
  go_wp2_with fail
  refine (within_any a0 15 (by omega) (by omega) _).mono ?_
  rintro e w' ⟨rfl, rfl⟩
  rw [hk]
  go_wp2_with fail
  refine (immSci8_any _ _).mono ?_
  rintro e w' ⟨rfl, n1, rfl⟩
  rw [q]
  simp only [four]
  go_wp2
  go_ret
  exact ⟨rfl, Grown.alloc (Grown.alloc (Grown.alloc (Grown.alloc G.out _ _) _ _) _ _) _ _⟩

set_option maxHeartbeats 1000000 in
theorem walk_2 (a0 : Int) (hk : a0 % 15 = 2) (w : World) :
    Calls Try.prog 3 #[.int .i64 a0] w fun e w' => e = .returned (.bool true) ∧ Grown w w' := by
  have q : sciP (256) = (0, 1, 1, true) := by decide +kernel
  go_enter Try.func3, Try.ntmps3
  go_wp2_with fail
  refine (known_true _).mono ?_
  rintro e w' ⟨rfl, n0, rfl⟩
  have G : Hid (Grown w (w.drewN n0)) := grown_drewN _ _
  generalize w.drewN n0 = wk at *
  go_wp2_with fail
  refine (within_any a0 15 (by omega) (by omega) _).mono ?_
  rintro e w' ⟨rfl, rfl⟩
  rw [hk]
  go_wp2_with fail
  refine (immSci8_any _ _).mono ?_
  rintro e w' ⟨rfl, n1, rfl⟩
  rw [q]
  simp only [four]
  go_wp2
  go_ret
  exact ⟨rfl, Grown.alloc (Grown.alloc (Grown.alloc (Grown.alloc G.out _ _) _ _) _ _) _ _⟩

set_option maxHeartbeats 1000000 in
theorem walk_3 (a0 : Int) (hk : a0 % 15 = 3) (w : World) :
    Calls Try.prog 3 #[.int .i64 a0] w fun e w' => e = .returned (.bool true) ∧ Grown w w' := by
  have q : sciP (65280) = (0, 1, 255, true) := by decide +kernel
  go_enter Try.func3, Try.ntmps3
  go_wp2_with fail
  refine (known_true _).mono ?_
  rintro e w' ⟨rfl, n0, rfl⟩
  have G : Hid (Grown w (w.drewN n0)) := grown_drewN _ _
  generalize w.drewN n0 = wk at *
  go_wp2_with fail
  refine (within_any a0 15 (by omega) (by omega) _).mono ?_
  rintro e w' ⟨rfl, rfl⟩
  rw [hk]
  go_wp2_with fail
  refine (immSci8_any _ _).mono ?_
  rintro e w' ⟨rfl, n1, rfl⟩
  rw [q]
  simp only [four]
  go_wp2
  go_ret
  exact ⟨rfl, Grown.alloc (Grown.alloc (Grown.alloc (Grown.alloc G.out _ _) _ _) _ _) _ _⟩

set_option maxHeartbeats 1000000 in
theorem walk_4 (a0 : Int) (hk : a0 % 15 = 4) (w : World) :
    Calls Try.prog 3 #[.int .i64 a0] w fun e w' => e = .returned (.bool true) ∧ Grown w w' := by
  have q : sciP (16711680) = (0, 2, 255, true) := by decide +kernel
  go_enter Try.func3, Try.ntmps3
  go_wp2_with fail
  refine (known_true _).mono ?_
  rintro e w' ⟨rfl, n0, rfl⟩
  have G : Hid (Grown w (w.drewN n0)) := grown_drewN _ _
  generalize w.drewN n0 = wk at *
  go_wp2_with fail
  refine (within_any a0 15 (by omega) (by omega) _).mono ?_
  rintro e w' ⟨rfl, rfl⟩
  rw [hk]
  go_wp2_with fail
  refine (immSci8_any _ _).mono ?_
  rintro e w' ⟨rfl, n1, rfl⟩
  rw [q]
  simp only [four]
  go_wp2
  go_ret
  exact ⟨rfl, Grown.alloc (Grown.alloc (Grown.alloc (Grown.alloc G.out _ _) _ _) _ _) _ _⟩

set_option maxHeartbeats 1000000 in
theorem walk_5 (a0 : Int) (hk : a0 % 15 = 5) (w : World) :
    Calls Try.prog 3 #[.int .i64 a0] w fun e w' => e = .returned (.bool true) ∧ Grown w w' := by
  have q : sciP (-1) = (1, 0, 255, true) := by decide +kernel
  go_enter Try.func3, Try.ntmps3
  go_wp2_with fail
  refine (known_true _).mono ?_
  rintro e w' ⟨rfl, n0, rfl⟩
  have G : Hid (Grown w (w.drewN n0)) := grown_drewN _ _
  generalize w.drewN n0 = wk at *
  go_wp2_with fail
  refine (within_any a0 15 (by omega) (by omega) _).mono ?_
  rintro e w' ⟨rfl, rfl⟩
  rw [hk]
  go_wp2_with fail
  refine (immSci8_any _ _).mono ?_
  rintro e w' ⟨rfl, n1, rfl⟩
  rw [q]
  simp only [four]
  go_wp2
  go_ret
  exact ⟨rfl, Grown.alloc (Grown.alloc (Grown.alloc (Grown.alloc G.out _ _) _ _) _ _) _ _⟩

set_option maxHeartbeats 1000000 in
theorem walk_6 (a0 : Int) (hk : a0 % 15 = 6) (w : World) :
    Calls Try.prog 3 #[.int .i64 a0] w fun e w' => e = .returned (.bool true) ∧ Grown w w' := by
  have q : sciP (-2) = (1, 0, 254, true) := by decide +kernel
  go_enter Try.func3, Try.ntmps3
  go_wp2_with fail
  refine (known_true _).mono ?_
  rintro e w' ⟨rfl, n0, rfl⟩
  have G : Hid (Grown w (w.drewN n0)) := grown_drewN _ _
  generalize w.drewN n0 = wk at *
  go_wp2_with fail
  refine (within_any a0 15 (by omega) (by omega) _).mono ?_
  rintro e w' ⟨rfl, rfl⟩
  rw [hk]
  go_wp2_with fail
  refine (immSci8_any _ _).mono ?_
  rintro e w' ⟨rfl, n1, rfl⟩
  rw [q]
  simp only [four]
  go_wp2
  go_ret
  exact ⟨rfl, Grown.alloc (Grown.alloc (Grown.alloc (Grown.alloc G.out _ _) _ _) _ _) _ _⟩

set_option maxHeartbeats 1000000 in
theorem walk_7 (a0 : Int) (hk : a0 % 15 = 7) (w : World) :
    Calls Try.prog 3 #[.int .i64 a0] w fun e w' => e = .returned (.bool true) ∧ Grown w w' := by
  have q : sciP (-256) = (1, 0, 0, true) := by decide +kernel
  go_enter Try.func3, Try.ntmps3
  go_wp2_with fail
  refine (known_true _).mono ?_
  rintro e w' ⟨rfl, n0, rfl⟩
  have G : Hid (Grown w (w.drewN n0)) := grown_drewN _ _
  generalize w.drewN n0 = wk at *
  go_wp2_with fail
  refine (within_any a0 15 (by omega) (by omega) _).mono ?_
  rintro e w' ⟨rfl, rfl⟩
  rw [hk]
  go_wp2_with fail
  refine (immSci8_any _ _).mono ?_
  rintro e w' ⟨rfl, n1, rfl⟩
  rw [q]
  simp only [four]
  go_wp2
  go_ret
  exact ⟨rfl, Grown.alloc (Grown.alloc (Grown.alloc (Grown.alloc G.out _ _) _ _) _ _) _ _⟩

set_option maxHeartbeats 1000000 in
theorem walk_8 (a0 : Int) (hk : a0 % 15 = 8) (w : World) :
    Calls Try.prog 3 #[.int .i64 a0] w fun e w' => e = .returned (.bool true) ∧ Grown w w' := by
  have q : sciP (-257) = (1, 1, 254, true) := by decide +kernel
  go_enter Try.func3, Try.ntmps3
  go_wp2_with fail
  refine (known_true _).mono ?_
  rintro e w' ⟨rfl, n0, rfl⟩
  have G : Hid (Grown w (w.drewN n0)) := grown_drewN _ _
  generalize w.drewN n0 = wk at *
  go_wp2_with fail
  refine (within_any a0 15 (by omega) (by omega) _).mono ?_
  rintro e w' ⟨rfl, rfl⟩
  rw [hk]
  go_wp2_with fail
  refine (immSci8_any _ _).mono ?_
  rintro e w' ⟨rfl, n1, rfl⟩
  rw [q]
  simp only [four]
  go_wp2
  go_ret
  exact ⟨rfl, Grown.alloc (Grown.alloc (Grown.alloc (Grown.alloc G.out _ _) _ _) _ _) _ _⟩

set_option maxHeartbeats 1000000 in
theorem walk_9 (a0 : Int) (hk : a0 % 15 = 9) (w : World) :
    Calls Try.prog 3 #[.int .i64 a0] w fun e w' => e = .returned (.bool true) ∧ Grown w w' := by
  have q : sciP (257) = (0, 0, 0, false) := by decide +kernel
  go_enter Try.func3, Try.ntmps3
  go_wp2_with fail
  refine (known_true _).mono ?_
  rintro e w' ⟨rfl, n0, rfl⟩
  have G : Hid (Grown w (w.drewN n0)) := grown_drewN _ _
  generalize w.drewN n0 = wk at *
  go_wp2_with fail
  refine (within_any a0 15 (by omega) (by omega) _).mono ?_
  rintro e w' ⟨rfl, rfl⟩
  rw [hk]
  go_wp2_with fail
  refine (immSci8_any _ _).mono ?_
  rintro e w' ⟨rfl, n1, rfl⟩
  rw [q]
  simp only [four]
  go_wp2
  go_ret
  exact ⟨rfl, Grown.alloc (Grown.alloc (Grown.alloc (Grown.alloc G.out _ _) _ _) _ _) _ _⟩

set_option maxHeartbeats 1000000 in
theorem walk_10 (a0 : Int) (hk : a0 % 15 = 10) (w : World) :
    Calls Try.prog 3 #[.int .i64 a0] w fun e w' => e = .returned (.bool true) ∧ Grown w w' := by
  have q : sciP (2130706432) = (0, 3, 127, true) := by decide +kernel
  go_enter Try.func3, Try.ntmps3
  go_wp2_with fail
  refine (known_true _).mono ?_
  rintro e w' ⟨rfl, n0, rfl⟩
  have G : Hid (Grown w (w.drewN n0)) := grown_drewN _ _
  generalize w.drewN n0 = wk at *
  go_wp2_with fail
  refine (within_any a0 15 (by omega) (by omega) _).mono ?_
  rintro e w' ⟨rfl, rfl⟩
  rw [hk]
  go_wp2_with fail
  refine (immSci8_any _ _).mono ?_
  rintro e w' ⟨rfl, n1, rfl⟩
  rw [q]
  simp only [four]
  go_wp2
  go_ret
  exact ⟨rfl, Grown.alloc (Grown.alloc (Grown.alloc (Grown.alloc G.out _ _) _ _) _ _) _ _⟩

set_option maxHeartbeats 1000000 in
theorem walk_11 (a0 : Int) (hk : a0 % 15 = 11) (w : World) :
    Calls Try.prog 3 #[.int .i64 a0] w fun e w' => e = .returned (.bool true) ∧ Grown w w' := by
  have q : sciP (-16777216) = (0, 3, 255, true) := by decide +kernel
  go_enter Try.func3, Try.ntmps3
  go_wp2_with fail
  refine (known_true _).mono ?_
  rintro e w' ⟨rfl, n0, rfl⟩
  have G : Hid (Grown w (w.drewN n0)) := grown_drewN _ _
  generalize w.drewN n0 = wk at *
  go_wp2_with fail
  refine (within_any a0 15 (by omega) (by omega) _).mono ?_
  rintro e w' ⟨rfl, rfl⟩
  rw [hk]
  go_wp2_with fail
  refine (immSci8_any _ _).mono ?_
  rintro e w' ⟨rfl, n1, rfl⟩
  rw [q]
  simp only [four]
  go_wp2
  go_ret
  exact ⟨rfl, Grown.alloc (Grown.alloc (Grown.alloc (Grown.alloc G.out _ _) _ _) _ _) _ _⟩

set_option maxHeartbeats 1000000 in
theorem walk_12 (a0 : Int) (hk : a0 % 15 = 12) (w : World) :
    Calls Try.prog 3 #[.int .i64 a0] w fun e w' => e = .returned (.bool true) ∧ Grown w w' := by
  have q : sciP (-256) = (1, 0, 0, true) := by decide +kernel
  go_enter Try.func3, Try.ntmps3
  go_wp2_with fail
  refine (known_true _).mono ?_
  rintro e w' ⟨rfl, n0, rfl⟩
  have G : Hid (Grown w (w.drewN n0)) := grown_drewN _ _
  generalize w.drewN n0 = wk at *
  go_wp2_with fail
  refine (within_any a0 15 (by omega) (by omega) _).mono ?_
  rintro e w' ⟨rfl, rfl⟩
  rw [hk]
  go_wp2_with fail
  refine (immSci8_any _ _).mono ?_
  rintro e w' ⟨rfl, n1, rfl⟩
  rw [q]
  simp only [four]
  go_wp2
  go_ret
  exact ⟨rfl, Grown.alloc (Grown.alloc (Grown.alloc (Grown.alloc G.out _ _) _ _) _ _) _ _⟩

set_option maxHeartbeats 1000000 in
theorem walk_13 (a0 : Int) (hk : a0 % 15 = 13) (w : World) :
    Calls Try.prog 3 #[.int .i64 a0] w fun e w' => e = .returned (.bool true) ∧ Grown w w' := by
  have q : sciP (-65536) = (0, 0, 0, false) := by decide +kernel
  go_enter Try.func3, Try.ntmps3
  go_wp2_with fail
  refine (known_true _).mono ?_
  rintro e w' ⟨rfl, n0, rfl⟩
  have G : Hid (Grown w (w.drewN n0)) := grown_drewN _ _
  generalize w.drewN n0 = wk at *
  go_wp2_with fail
  refine (within_any a0 15 (by omega) (by omega) _).mono ?_
  rintro e w' ⟨rfl, rfl⟩
  rw [hk]
  go_wp2_with fail
  refine (immSci8_any _ _).mono ?_
  rintro e w' ⟨rfl, n1, rfl⟩
  rw [q]
  simp only [four]
  go_wp2
  go_ret
  exact ⟨rfl, Grown.alloc (Grown.alloc (Grown.alloc (Grown.alloc G.out _ _) _ _) _ _) _ _⟩

set_option maxHeartbeats 1000000 in
theorem walk_14 (a0 : Int) (hk : a0 % 15 = 14) (w : World) :
    Calls Try.prog 3 #[.int .i64 a0] w fun e w' => e = .returned (.bool true) ∧ Grown w w' := by
  have q : sciP (18) = (0, 0, 18, true) := by decide +kernel
  go_enter Try.func3, Try.ntmps3
  go_wp2_with fail
  refine (known_true _).mono ?_
  rintro e w' ⟨rfl, n0, rfl⟩
  have G : Hid (Grown w (w.drewN n0)) := grown_drewN _ _
  generalize w.drewN n0 = wk at *
  go_wp2_with fail
  refine (within_any a0 15 (by omega) (by omega) _).mono ?_
  rintro e w' ⟨rfl, rfl⟩
  rw [hk]
  go_wp2_with fail
  refine (immSci8_any _ _).mono ?_
  rintro e w' ⟨rfl, n1, rfl⟩
  rw [q]
  simp only [four]
  go_wp2
  go_ret
  exact ⟨rfl, Grown.alloc (Grown.alloc (Grown.alloc (Grown.alloc G.out _ _) _ _) _ _) _ _⟩

/-! ### The walk -/
theorem walk (a0 : Int) (w0 : (Lit.int .i64 a0).wf = true) (w : World) :
    Calls Try.prog 3 #[.int .i64 a0] w fun e w' => e = .returned (.bool true) ∧ Grown w w' := by
  have h : a0 % 15 = 0 ∨ a0 % 15 = 1 ∨ a0 % 15 = 2 ∨ a0 % 15 = 3 ∨ a0 % 15 = 4 ∨ a0 % 15 = 5 ∨ a0 % 15 = 6 ∨ a0 % 15 = 7 ∨ a0 % 15 = 8 ∨ a0 % 15 = 9 ∨ a0 % 15 = 10 ∨ a0 % 15 = 11 ∨ a0 % 15 = 12 ∨ a0 % 15 = 13 ∨ a0 % 15 = 14 := by omega
  rcases h with h | h | h | h | h | h | h | h | h | h | h | h | h | h | h
  · exact walk_0 a0 h w
  · exact walk_1 a0 h w
  · exact walk_2 a0 h w
  · exact walk_3 a0 h w
  · exact walk_4 a0 h w
  · exact walk_5 a0 h w
  · exact walk_6 a0 h w
  · exact walk_7 a0 h w
  · exact walk_8 a0 h w
  · exact walk_9 a0 h w
  · exact walk_10 a0 h w
  · exact walk_11 a0 h w
  · exact walk_12 a0 h w
  · exact walk_13 a0 h w
  · exact walk_14 a0 h w

/-! ### The row's step -/
set_option maxRecDepth 100000 in
theorem lifted (os : Os) (started : os.Started) (H : Type) (enc : TypeId × Value → H) :
    ReturnsInHanded {} Try.checked os 3 .any (Rows.immKnownSpec.pre6 enc Try.prog Try.f3 Rows.immKnownRow.domain false) (Rows.immKnownSpec.post enc Try.prog Try.f3 false true false false) := by
  refine returnsInHanded_of_change (C := Try.checked) own started (by kernel_rfl) Try.func3
    (ChangeSpec.witness6 (enc := enc) (C := Try.checked) false ⟨#[], #[.int .i64 0], []⟩ 8 (by kernel_rfl) (by kernel_rfl) (by kernel_rfl) (by kernel_rfl)) ?_
  intro W base args ds gs before hval0 hW hcnd _
  have hval : ∀ (j : Nat) t v, Try.f3.params[j]? = some t → args[j]? = some v → Value.okWide Try.prog W .any base t v := hval0
  have hW' := hW
  obtain ⟨p, q, hA0, hV, rfl, hfz, hnd⟩ := hW
  have hA : DataW.TrodAll enc Try.prog W 0 (fun _ => true) true Try.f3.params.toList args.toList ds p := hA0
  rw [Try.params3] at hA hval
  obtain ⟨v0, vs0, d0, ds0, p0, q0, hargs, rfl, rfl, h0, r0⟩ := trodAll_cons hA
  obtain ⟨rfl, rfl, rfl⟩ := trodAll_nil r0
  obtain rfl : args = #[v0] := by cases args; simp_all
  obtain ⟨rfl, rfl⟩ := trodVars_none hV
  obtain ⟨a0, rfl, rfl, rfl, w0⟩ := open_int Try.underlying3 (hval 0 3 v0 rfl rfl) h0
  clear hA0 hval0
  simp only [List.append_nil] at hW'
  refine (walk a0 w0 W).mono fun e W' ⟨he, hg⟩ => ?_
  subst he
  exact ⟨_, rfl, post_of_same (pa := []) (pv := []) hW' (fun _ _ _ => (trodAll_cons_mk (shut_bool Try.underlying4 _) trodAll_mk0)) (fun sp _ => (trodAll_cons_mk (shut_int Try.underlying3 w0) trodAll_mk0)) (fun _ _ => rfl) rfl
    (hg.frame _) hg.2.1 (ok_one (by kernel_rfl) rfl (okWide_bool_mk Try.underlying4 _))⟩

theorem over : Rows.immKnownRow.holds Try.pinned (OpenSpec.ofChange Rows.immKnownSpec) :=
  OpenClaim.holds_of_wide 3 Try.f3 rfl rfl rfl rfl rfl rfl rfl ⟨rfl, rfl, rfl, rfl, rfl⟩ rfl rfl rfl rfl rfl (by kernel_rfl) Try.func3 (by kernel_rfl)
    (of_decide_eq_true (by kernel_rfl)) (by unfold Func.isWrapper; first | (rw [if_pos (by decide +kernel)]; kernel_rfl) | (rw [if_neg (by decide +kernel)]; exact ⟨rfl, rfl⟩))
    (fun os started H enc _ => lifted os started H enc)

/-- The statement. -/
theorem proved : Rows.ImmKnownSaid :=
  over
#print axioms proved
end Go.Proofs.Ytlamikchacplmab.immKnown
