/- Contracts of isa's operands: counted and signed numbers, back. -/
import Derived.Test.YtagplfochalidabDoorKinds2
namespace Go.Proofs.YtagplfochalidabDoor
open Go.ChangeShapes Go.WideShapes Go.ChangeAt Go.RowKit
open Go.Sort (grow)
open Plain
set_option linter.unusedVariables false
set_option linter.unusedSimpArgs false

set_option maxHeartbeats 800000 in
set_option maxRecDepth 20000 in
theorem countT_any (f b l s x : Int) (x0 : 0 ≤ x) (x1 : x < 4294967296) (f0 : 0 ≤ f) (f1 : f ≤ 31) (b0 : 0 ≤ b) (b1 : b ≤ 31) (l0 : 0 ≤ l) (l1' : l ≤ 100) (s0 : 0 ≤ s) (s1' : s ≤ 100) (p1 q1 l1 s1 p2 q2 l2 s2 : Int) (w : World) :
    Calls Tryd.prog 40 #[.int .u32 x, .agg (plV f b l s p1 q1 l1 s1 p2 q2 l2 s2)] w fun e w' => e = .returned (.int .i64 (countT f b l s x)) ∧ Below w.heap.size w w' := by
  have P0 := fun W => take_any f b l s x x0 x1 f0 f1 b0 b1 W
  have tb := takeP_bounds f b x b0 b1
  have qB : (2 : Int) ^ b.toNat ≤ 2147483648 := pow_le b.toNat 31 (by omega)
  unfold countT
  generalize takeP f b x = n at *
  have e1 : 0 ≤ n * s := Int.mul_nonneg tb.1 s0
  have e2 : n * s ≤ n * 100 := Int.mul_le_mul_of_nonneg_left s1' tb.1
  have a1 : wrap64 (n * s) = n * s := IntWalk.wrap64_in _ (by omega)
  have a2 : wrap64 (l + n * s) = l + n * s := IntWalk.wrap64_in _ (by omega)
  clear f0 f1 b0 b1 x0 x1 qB tb e1 e2 l0 l1' s0 s1'
  have c0 := fun i x h => new_cell (w := w) (t := 65) (plV f b l s p1 q1 l1 s1 p2 q2 l2 s2) i x h
  have hb1 : Below w.heap.size w (w.alloc (.cells (plV f b l s p1 q1 l1 s1 p2 q2 l2 s2) 65)) := (Below.refl _ _).alloc (Nat.le_refl _) _
  unfold plV at c0 hb1 ⊢
  go_enter Tryd.func40, Tryd.ntmps40
  go_wp2
  generalize w.alloc (.cells #[.int .i64 f, .int .i64 b, .int .i64 l, .int .i64 s, .int .i64 p1, .int .i64 q1, .int .i64 l1, .int .i64 s1, .int .i64 p2, .int .i64 q2, .int .i64 l2, .int .i64 s2] 65) = W at hb1 c0 ⊢
  have r0 := cell_regrown (c0 0 (.int .i64 f) rfl)
  have r1 := cell_regrown (c0 1 (.int .i64 b) rfl)
  have r2 := cell_regrown (c0 2 (.int .i64 l) rfl)
  have r3 := cell_regrown (c0 3 (.int .i64 s) rfl)
  clear c0
  have Q0 := fun d os => calls_reg (W := W) P0 d os
  clear P0
  refine wp_region_quiet_below (by kernel_rfl) (by kernel_rfl) ?_
  repeat (quiet_step (first | with_reducible exact Q0 _ _ ))
  refine wpQuiet_nil ?_
  intro _ hw'
  obtain ⟨⟨dq, osq⟩, hw''⟩ := hw'
  subst hw''
  go_wp2
  go_ret
  exact ⟨by simp [IntWalk.i64_left, a1, a2], reg_below hb1 _ _⟩

set_option maxHeartbeats 800000 in
set_option maxRecDepth 20000 in
theorem signT_any (f s x l : Int) (b : Nat) (x0 : 0 ≤ x) (x1 : x < 4294967296) (f0 : 0 ≤ f) (f1 : f ≤ 31) (b0 : 1 ≤ b) (b1 : b ≤ 31) (s0 : 0 ≤ s) (s1' : s ≤ 100) (p1 q1 l1 s1 p2 q2 l2 s2 : Int) (w : World) :
    Calls Tryd.prog 42 #[.int .u32 x, .agg (plV f b l s p1 q1 l1 s1 p2 q2 l2 s2)] w fun e w' => e = .returned (.int .i64 (signT f b s x)) ∧ Below w.heap.size w w' := by
  have P0 := fun W => take_any f b l s x x0 x1 f0 f1 (by omega) (by omega) W
  have S := calls_still (fun W => immSign_any (takeP f b x) b b0 (by omega) W)
  have tb := takeP_bounds f b x (by omega) (by omega)
  have qB : (2 : Int) ^ b ≤ 2147483648 := pow_le b 31 (by omega)
  have pB := pow_pos2 b
  unfold signT
  rw [show ((b : Int)).toNat = b by omega]
  have sb : -2147483648 ≤ signP (takeP f b x) b ∧ signP (takeP f b x) b ≤ 2147483648 := by
    unfold signP
    have m0 := Int.emod_nonneg (takeP f b x + 2 ^ b / 2) (b := 2 ^ b) (by omega)
    have m1 := Int.emod_lt_of_pos (takeP f b x + 2 ^ b / 2) (b := 2 ^ b) (by omega)
    omega
  generalize signP (takeP f b x) b = y at *
  generalize takeP f b x = n at *
  have a1 : wrap64 (y * s) = y * s := by
    apply IntWalk.wrap64_in
    have e1 : y * s ≤ 2147483648 * s := Int.mul_le_mul_of_nonneg_right sb.2 s0
    have e2 : -2147483648 * s ≤ y * s := Int.mul_le_mul_of_nonneg_right sb.1 s0
    omega
  clear f0 f1 b0 b1 x0 x1 qB tb pB sb s0 s1'
  have c0 := fun i x h => new_cell (w := w) (t := 65) (plV f b l s p1 q1 l1 s1 p2 q2 l2 s2) i x h
  have hb1 : Below w.heap.size w (w.alloc (.cells (plV f b l s p1 q1 l1 s1 p2 q2 l2 s2) 65)) := (Below.refl _ _).alloc (Nat.le_refl _) _
  unfold plV at c0 hb1 ⊢
  go_enter Tryd.func42, Tryd.ntmps42
  go_wp2
  generalize w.alloc (.cells #[.int .i64 f, .int .i64 b, .int .i64 l, .int .i64 s, .int .i64 p1, .int .i64 q1, .int .i64 l1, .int .i64 s1, .int .i64 p2, .int .i64 q2, .int .i64 l2, .int .i64 s2] 65) = W at hb1 c0 ⊢
  have r0 := cell_regrown (c0 0 (.int .i64 f) rfl)
  have r1 := cell_regrown (c0 1 (.int .i64 b) rfl)
  have r2 := cell_regrown (c0 2 (.int .i64 l) rfl)
  have r3 := cell_regrown (c0 3 (.int .i64 s) rfl)
  clear c0
  have Q0 := fun d os => calls_reg (W := W) P0 d os
  have Q1 := fun d os => calls_reg (W := W) S d os
  clear P0 S
  refine wp_region_quiet_below (by kernel_rfl) (by kernel_rfl) ?_
  repeat (quiet_step (first | with_reducible exact Q0 _ _ | with_reducible exact Q1 _ _))
  refine wpQuiet_nil ?_
  intro _ hw'
  obtain ⟨⟨dq, osq⟩, hw''⟩ := hw'
  subst hw''
  go_wp2
  go_ret
  exact ⟨by simp [IntWalk.i64_left, a1], reg_below hb1 _ _⟩

end Go.Proofs.YtagplfochalidabDoor
