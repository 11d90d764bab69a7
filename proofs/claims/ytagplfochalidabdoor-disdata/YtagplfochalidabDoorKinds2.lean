/- Contracts of isa's operands, more: the numbers that come in three parts, and all ways back. -/
import Derived.Test.YtagplfochalidabDoorKinds
namespace Go.Proofs.YtagplfochalidabDoor
open Go.ChangeShapes Go.WideShapes Go.ChangeAt Go.RowKit
open Go.Sort (grow)
open Plain
set_option linter.unusedVariables false
set_option linter.unusedSimpArgs false

theorem below_drewN (w : World) (n : Nat) : Below w.heap.size w (w.drewN n) := ⟨rfl, rfl, rfl, Nat.le_refl _, fun _ _ => rfl⟩

theorem calls_drewN {f : FuncId} {args : Array Value} {v : Value} (h : ∀ w, Calls Tryd.prog f args w fun e w' => e = .returned v ∧ ∃ n, w' = w.drewN n) (w : World) :
    Calls Tryd.prog f args w fun e w' => e = .returned v ∧ Below w.heap.size w w' := (h w).mono fun _ _ ⟨he, n, hn⟩ => ⟨he, hn ▸ below_drewN w n⟩

theorem calls_still {f : FuncId} {args : Array Value} {v : Value} (h : ∀ w, Calls Tryd.prog f args w fun e w' => w = w' ∧ e = .returned v) (w : World) :
    Calls Tryd.prog f args w fun e w' => e = .returned v ∧ Below w.heap.size w w' := (h w).mono fun _ _ ⟨hw, he⟩ => ⟨he, hw ▸ Below.refl _ _⟩

theorem new_cell {w : World} {t : TypeId} (cs : Array Value) (i : Nat) (x : Value) (h : cs[i]? = some x) : (w.alloc (.cells cs t)).cell? ⟨w.heap.size, i, none⟩ = some x := by simp [h]

set_option maxHeartbeats 800000 in
set_option maxRecDepth 20000 in
theorem split_any (p0 q0 l0 s0 p1 q1 l1 s1 p2 q2 l2 s2 v : Int) (h1 : 0 ≤ p0) (h2 : p0 ≤ 31) (h3 : 0 ≤ q0) (h4 : q0 ≤ 31) (h5 : p0 + q0 ≤ 32)
    (g1 : 0 ≤ p1) (g2 : p1 ≤ 31) (g3 : 0 ≤ q1) (g4 : q1 ≤ 31) (g5 : p1 + q1 ≤ 32) (k1 : 0 ≤ p2) (k2 : p2 ≤ 31) (k3 : 0 ≤ q2) (k4 : q2 ≤ 31) (k5 : p2 + q2 ≤ 32) (v0 : -9223372036854775808 ≤ v) (v1 : v ≤ 9223372036854775807) (w : World) :
    Calls Tryd.prog 43 #[.int .i64 v, .agg (plV p0 q0 l0 s0 p1 q1 l1 s1 p2 q2 l2 s2)] w
      fun e w' => e = .returned (two (splitC p0 q0 p1 q1 p2 q2 v)) ∧ Below w.heap.size w w' := by
  have P0 := fun x y z W => puts_any p0 q0 l0 s0 p1 q1 l1 s1 p2 q2 l2 s2 x y z h1 h2 h3 h4 h5 g1 g2 g3 g4 g5 k1 k2 k3 k4 k5 W
  clear h1 h2 h3 h4 h5 g1 g2 g3 g4 g5 k1 k2 k3 k4 k5
  have F := fun W => immFits_any v 20 (by omega) (by omega) v0 v1 W
  clear v0 v1
  have hb : ∀ o, Below w.heap.size w (w.alloc o) := fun o => (Below.refl _ _).alloc (Nat.le_refl _) _
  cases hf : fitsP v 20 with
  | false =>
    have e : splitC p0 q0 p1 q1 p2 q2 v = (0, false) := by unfold splitC; rw [if_neg (by simp [hf])]
    unfold plV
    clear P0
    go_enter Tryd.func43, Tryd.ntmps43
    go_wp2_with (go_at_call 56; refine (F _).mono ?_; rintro e w' ⟨rfl, rfl⟩)
    go_ret2
    exact ⟨by simp [two, e], hb _⟩
  | true =>
    have e : splitC p0 q0 p1 q1 p2 q2 v = (put3 p0 q0 p1 q1 p2 q2 (v / 65536 % 16) (v / 2048 % 32) (v % 2048), true) := by unfold splitC; rw [if_pos hf]
    have S := calls_drewN (fun W => immSplit_any v hf W)
    have P0 := fun W => P0 (v / 65536 % 16) (v / 2048 % 32) (v % 2048) W
    have c0 := fun i x h => new_cell (w := w) (t := 65) (plV p0 q0 l0 s0 p1 q1 l1 s1 p2 q2 l2 s2) i x h
    have hb1 := hb (.cells (plV p0 q0 l0 s0 p1 q1 l1 s1 p2 q2 l2 s2) 65)
    unfold plV at c0 hb1 ⊢
    clear hb
    generalize v / 65536 % 16 = x at *
    generalize v / 2048 % 32 = y at *
    generalize v % 2048 = z at *
    go_enter Tryd.func43, Tryd.ntmps43
    go_wp2_with (go_at_call 56; refine (F _).mono ?_; rintro e w' ⟨rfl, rfl⟩)
    generalize w.alloc (.cells #[.int .i64 p0, .int .i64 q0, .int .i64 l0, .int .i64 s0, .int .i64 p1, .int .i64 q1, .int .i64 l1, .int .i64 s1, .int .i64 p2, .int .i64 q2, .int .i64 l2, .int .i64 s2] 65) = W at hb1 c0 ⊢
    have r0 := cell_regrown (c0 0 (.int .i64 p0) rfl)
    have r1 := cell_regrown (c0 1 (.int .i64 q0) rfl)
    have r2 := cell_regrown (c0 2 (.int .i64 l0) rfl)
    have r3 := cell_regrown (c0 3 (.int .i64 s0) rfl)
    have r4 := cell_regrown (c0 4 (.int .i64 p1) rfl)
    have r5 := cell_regrown (c0 5 (.int .i64 q1) rfl)
    have r6 := cell_regrown (c0 6 (.int .i64 l1) rfl)
    have r7 := cell_regrown (c0 7 (.int .i64 s1) rfl)
    have r8 := cell_regrown (c0 8 (.int .i64 p2) rfl)
    have r9 := cell_regrown (c0 9 (.int .i64 q2) rfl)
    have r10 := cell_regrown (c0 10 (.int .i64 l2) rfl)
    have r11 := cell_regrown (c0 11 (.int .i64 s2) rfl)
    clear c0 F
    have Q0 := fun d os => calls_reg (W := W) S d os
    have Q1 := fun d os => calls_reg (W := W) P0 d os
    clear P0 S
    refine wp_region_quiet_below (by kernel_rfl) (by kernel_rfl) ?_
    repeat (quiet_step (first | with_reducible exact Q0 _ _ | with_reducible exact Q1 _ _))
    refine wpQuiet_nil ?_
    intro _ hw'
    obtain ⟨⟨dq, osq⟩, hw''⟩ := hw'
    subst hw''
    go_wp2
    go_ret2
    exact ⟨by simp [two, e], reg_below hb1 _ _⟩

set_option maxHeartbeats 800000 in
set_option maxRecDepth 20000 in
theorem sci_any (p0 q0 l0 s0 p1 q1 l1 s1 p2 q2 l2 s2 v : Int) (h1 : 0 ≤ p0) (h2 : p0 ≤ 31) (h3 : 0 ≤ q0) (h4 : q0 ≤ 31) (h5 : p0 + q0 ≤ 32)
    (g1 : 0 ≤ p1) (g2 : p1 ≤ 31) (g3 : 0 ≤ q1) (g4 : q1 ≤ 31) (g5 : p1 + q1 ≤ 32) (k1 : 0 ≤ p2) (k2 : p2 ≤ 31) (k3 : 0 ≤ q2) (k4 : q2 ≤ 31) (k5 : p2 + q2 ≤ 32) (w : World) :
    Calls Tryd.prog 45 #[.int .i64 v, .agg (plV p0 q0 l0 s0 p1 q1 l1 s1 p2 q2 l2 s2)] w
      fun e w' => e = .returned (two (sciC p0 q0 p1 q1 p2 q2 v)) ∧ Below w.heap.size w w' := by
  have P0 := fun W => puts_any p0 q0 l0 s0 p1 q1 l1 s1 p2 q2 l2 s2 (sciP v).1 (sciP v).2.1 (sciP v).2.2.1 h1 h2 h3 h4 h5 g1 g2 g3 g4 g5 k1 k2 k3 k4 k5 W
  clear h1 h2 h3 h4 h5 g1 g2 g3 g4 g5 k1 k2 k3 k4 k5
  have S := fun W => immSci8_any v W
  have hb : ∀ o, Below w.heap.size w (w.alloc o) := fun o => (Below.refl _ _).alloc (Nat.le_refl _) _
  have e : sciC p0 q0 p1 q1 p2 q2 v = (put3 p0 q0 p1 q1 p2 q2 (sciP v).1 (sciP v).2.1 (sciP v).2.2.1, (sciP v).2.2.2) := rfl
  generalize sciP v = r at *
  obtain ⟨x, y, z, is⟩ := r
  simp only [four] at S P0 e
  unfold plV
  go_enter Tryd.func45, Tryd.ntmps45
  go_wp2_with (first | (go_at_call 62; refine (S _).mono ?_; rintro e w' ⟨rfl, nn, rfl⟩) | (go_at_call 58; refine (P0 _).mono ?_; rintro e w' ⟨rfl, hw'⟩))
  go_ret2
  exact ⟨by simp [two, e], ((hb _).trans ((below_drewN _ _).mono (by simp))).trans (hw'.mono (by simp))⟩

theorem regT_any (f b x : Int) (x0 : 0 ≤ x) (x1 : x < 4294967296) (f0 : 0 ≤ f) (f1 : f ≤ 31) (b0 : 0 ≤ b) (b1 : b ≤ 31) (l0 s0 p1 q1 l1 s1 p2 q2 l2 s2 : Int) (w : World) :
    Calls Tryd.prog 38 #[.int .u32 x, .agg (plV f b l0 s0 p1 q1 l1 s1 p2 q2 l2 s2)] w fun e w' => e = .returned (.int .i64 (regT f b x)) ∧ Below w.heap.size w w' := by
  have P0 := fun W => take_any f b l0 s0 x x0 x1 f0 f1 b0 b1 W
  have hb : ∀ o, Below w.heap.size w (w.alloc o) := fun o => (Below.refl _ _).alloc (Nat.le_refl _) _
  have tb := takeP_bounds f b x b0 b1
  have qB : (2 : Int) ^ b.toNat ≤ 2147483648 := pow_le b.toNat 31 (by omega)
  unfold plV
  unfold regT
  generalize takeP f b x = n at *
  have tb2 : n ≤ 2147483648 := by omega
  obtain ⟨tb, _⟩ := tb
  clear f0 f1 b0 b1 x0 x1 qB
  go_enter Tryd.func38, Tryd.ntmps38
  go_wp2_with (go_at_call 55; refine (P0 _).mono ?_; rintro e w' ⟨rfl, hw'⟩)
  · go_ret
    exact ⟨rfl, (hb _).trans (hw'.mono (by simp))⟩
  · go_ret
    exact ⟨by simp; omega, (hb _).trans (hw'.mono (by simp))⟩

theorem splitT_any (p0 q0 l0 s0 p1 q1 l1 s1 p2 q2 l2 s2 x : Int) (x0 : 0 ≤ x) (x1 : x < 4294967296) (h1 : 0 ≤ p0) (h2 : p0 ≤ 31) (h3 : q0 = 4)
    (g1 : 0 ≤ p1) (g2 : p1 ≤ 31) (g3 : q1 = 5) (k1 : 0 ≤ p2) (k2 : p2 ≤ 31) (k3 : q2 = 11) (w : World) :
    Calls Tryd.prog 44 #[.int .u32 x, .agg (plV p0 q0 l0 s0 p1 q1 l1 s1 p2 q2 l2 s2)] w
      fun e w' => e = .returned (.int .i64 (splitT p0 q0 p1 q1 p2 q2 x)) ∧ Below w.heap.size w w' := by
  subst h3 g3 k3
  have P0 := fun W => takes_any p0 4 l0 s0 p1 5 l1 s1 p2 11 l2 s2 x x0 x1 h1 h2 (by omega) (by omega) g1 g2 (by omega) (by omega) k1 k2 (by omega) (by omega) W
  have t0 := takeP_bounds p0 4 x (by omega) (by omega)
  have t1 := takeP_bounds p1 5 x (by omega) (by omega)
  have t2 := takeP_bounds p2 11 x (by omega) (by omega)
  have J := fun W => immJoined_any (takeP p0 4 x) (takeP p1 5 x) (takeP p2 11 x) t0.1 (by have := t0.2; simp at this; omega) t1.1 (by have := t1.2; simp at this; omega) t2.1 (by have := t2.2; simp at this; omega) W
  have hb : ∀ o, Below w.heap.size w (w.alloc o) := fun o => (Below.refl _ _).alloc (Nat.le_refl _) _
  unfold plV splitT
  clear t0 t1 t2 h1 h2 g1 g2 k1 k2 x0 x1
  generalize takeP p0 4 x = a at *
  generalize takeP p1 5 x = b at *
  generalize takeP p2 11 x = c at *
  go_enter Tryd.func44, Tryd.ntmps44
  go_wp2_with (first | (go_at_call 61; refine (P0 _).mono ?_; rintro e w' ⟨rfl, hw'⟩) | (go_at_call 60; refine (J _).mono ?_; rintro e w' ⟨rfl, rfl⟩))
  go_ret
  exact ⟨rfl, (hb _).trans (hw'.mono (by simp))⟩

theorem sciT_any (p0 q0 l0 s0 p1 q1 l1 s1 p2 q2 l2 s2 x : Int) (x0 : 0 ≤ x) (x1 : x < 4294967296) (h1 : 0 ≤ p0) (h2 : p0 ≤ 31) (h3 : q0 = 1)
    (g1 : 0 ≤ p1) (g2 : p1 ≤ 31) (g3 : q1 = 2) (k1 : 0 ≤ p2) (k2 : p2 ≤ 31) (k3 : q2 = 8) (w : World) :
    Calls Tryd.prog 46 #[.int .u32 x, .agg (plV p0 q0 l0 s0 p1 q1 l1 s1 p2 q2 l2 s2)] w
      fun e w' => e = .returned (.int .i64 (sciT p0 q0 p1 q1 p2 q2 x)) ∧ Below w.heap.size w w' := by
  subst h3 g3 k3
  have P0 := fun W => takes_any p0 1 l0 s0 p1 2 l1 s1 p2 8 l2 s2 x x0 x1 h1 h2 (by omega) (by omega) g1 g2 (by omega) (by omega) k1 k2 (by omega) (by omega) W
  have t0 := takeP_bounds p0 1 x (by omega) (by omega)
  have t1 := takeP_bounds p1 2 x (by omega) (by omega)
  have t2 := takeP_bounds p2 8 x (by omega) (by omega)
  have J := fun W => immBack_any (takeP p0 1 x) (takeP p1 2 x) (takeP p2 8 x) t0.1 (by have := t0.2; simp at this; omega) t1.1 (by have := t1.2; simp at this; omega) t2.1 (by have := t2.2; simp at this; omega) W
  have hb : ∀ o, Below w.heap.size w (w.alloc o) := fun o => (Below.refl _ _).alloc (Nat.le_refl _) _
  unfold plV sciT
  clear t0 t1 t2 h1 h2 g1 g2 k1 k2 x0 x1
  generalize takeP p0 1 x = a at *
  generalize takeP p1 2 x = b at *
  generalize takeP p2 8 x = c at *
  go_enter Tryd.func46, Tryd.ntmps46
  go_wp2_with (first | (go_at_call 61; refine (P0 _).mono ?_; rintro e w' ⟨rfl, hw'⟩) | (go_at_call 63; refine (J _).mono ?_; rintro e w'' ⟨rfl, nn, rfl⟩))
  go_ret
  exact ⟨rfl, ((hb _).trans (hw'.mono (by simp))).trans ((below_drewN _ _).mono (by have := hw'.size; simp at this; omega))⟩
end Go.Proofs.YtagplfochalidabDoor
