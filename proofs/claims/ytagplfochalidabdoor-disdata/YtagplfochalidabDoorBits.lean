/- Contracts of isa's places: where bits stand. -/
import Derived.Test.YtagplfochalidabDoorSplit
import Derived.Lib.QuietBelow
namespace Go.Proofs.YtagplfochalidabDoor
open Go.ChangeShapes Go.WideShapes Go.ChangeAt Go.RowKit
open Go.Sort (grow)
open Plain
set_option linter.unusedVariables false
set_option linter.unusedSimpArgs false

def putP (f b n : Int) : Int := n % 2 ^ b.toNat * 2 ^ f.toNat
def takeP (f b x : Int) : Int := x / 2 ^ f.toNat % 2 ^ b.toNat

theorem putP_bounds (f b n : Int) (f0 : 0 ≤ f) (b0 : 0 ≤ b) (fb : f + b ≤ 32) : 0 ≤ putP f b n ∧ putP f b n < 4294967296 := by
  have pF := pow_pos2 f.toNat
  have pB := pow_pos2 b.toNat
  have m0 := Int.emod_nonneg n (b := 2 ^ b.toNat) (by omega)
  have m1 := Int.emod_lt_of_pos n (b := 2 ^ b.toNat) (by omega)
  have h32 : (2 : Int) ^ (b.toNat + f.toNat) ≤ 4294967296 := pow_le _ 32 (by omega)
  rw [two_pow_split] at h32
  unfold putP
  constructor
  · exact Int.mul_nonneg m0 (by omega)
  · have := Int.mul_lt_mul_of_pos_right m1 pF
    omega

theorem mask_of (n b : Int) (b0 : 0 ≤ b) (b1 : b ≤ 31) : bits .and .i64 n (wrap64 (wrap64 (2 ^ b.toNat) - 1)) = n % 2 ^ b.toNat := by
  have pB := pow_pos2 b.toNat
  have qB : (2 : Int) ^ b.toNat ≤ 2147483648 := pow_le b.toNat 31 (by omega)
  rw [IntWalk.wrap64_in (2 ^ b.toNat) (by omega), IntWalk.wrap64_in _ (by omega), and_mask n b.toNat (by omega)]

theorem put_of (n f b : Int) (f0 : 0 ≤ f) (b0 : 0 ≤ b) (b1 : b ≤ 31) (fb : f + b ≤ 32) :
    bits .and .i64 n (wrap64 (wrap64 (2 ^ b.toNat) - 1)) % 4294967296 * 2 ^ f.toNat % 4294967296 = putP f b n := by
  have pB := pow_pos2 b.toNat
  have qB : (2 : Int) ^ b.toNat ≤ 2147483648 := pow_le b.toNat 31 (by omega)
  have m0 := Int.emod_nonneg n (b := 2 ^ b.toNat) (by omega)
  have m1 := Int.emod_lt_of_pos n (b := 2 ^ b.toNat) (by omega)
  have := putP_bounds f b n f0 b0 fb
  unfold putP at this ⊢
  rw [mask_of n b b0 b1, Int.emod_eq_of_lt m0 (by omega : n % 2 ^ b.toNat < 4294967296), Int.emod_eq_of_lt this.1 this.2]

theorem below_new (w : World) (o : Obj) (n : Nat) : Below w.heap.size w ((w.alloc o).drewN n) := (Below.refl _ _).alloc (Nat.le_refl _) _ |>.trans ⟨rfl, rfl, rfl, Nat.le_refl _, fun _ _ => rfl⟩

theorem put_any (f b l s n : Int) (f0 : 0 ≤ f) (f1 : f ≤ 31) (b0 : 0 ≤ b) (b1 : b ≤ 31) (fb : f + b ≤ 32) (w : World) :
    Calls Tryd.prog 54 #[.agg #[.int .i64 f, .int .i64 b, .int .i64 l, .int .i64 s], .int .i64 n] w fun e w' => e = .returned (.int .u32 (putP f b n)) ∧ Below w.heap.size w w' := by
  have a1 := put_of n f b f0 b0 b1 fb
  go_enter Tryd.func54, Tryd.ntmps54
  go_wp2
  go_quiet (fail)
  go_wp2
  go_ret
  exact ⟨by simp [a1], below_new _ _ _⟩

theorem take_any (f b l s x : Int) (h0 : 0 ≤ x) (h1 : x < 4294967296) (f0 : 0 ≤ f) (f1 : f ≤ 31) (b0 : 0 ≤ b) (b1 : b ≤ 31) (w : World) :
    Calls Tryd.prog 55 #[.agg #[.int .i64 f, .int .i64 b, .int .i64 l, .int .i64 s], .int .u32 x] w fun e w' => e = .returned (.int .i64 (takeP f b x)) ∧ Below w.heap.size w w' := by
  have a1 := mask_of (x / 2 ^ f.toNat) b b0 b1
  have pF := pow_pos2 f.toNat
  have d0 : 0 ≤ x / 2 ^ f.toNat := Int.ediv_nonneg h0 (by omega)
  have d1 : x / 2 ^ f.toNat ≤ x := Int.ediv_le_self _ h0
  go_enter Tryd.func55, Tryd.ntmps55
  go_wp2
  go_quiet (fail)
  go_wp2
  go_ret
  refine ⟨?_, below_new _ _ _⟩
  simp [takeP]

def put3 (f0 b0 f1 b1 f2 b2 x y z : Int) : Int := bits .or .u32 (bits .or .u32 (putP f0 b0 x) (putP f1 b1 y)) (putP f2 b2 z)

/-- The worlds behind a call that only makes memory. -/
theorem calls_reg {f : FuncId} {args : Array Value} {W : World} {v : Value} (h : ∀ W', Calls Tryd.prog f args W' fun e w' => e = .returned v ∧ Below W'.heap.size W' w') (d : Nat) (os : Array Obj) :
    Calls Tryd.prog f args (grow (redrawn W d) os) fun e w'' => e = .returned v ∧ ∃ p : Regrown, w'' = grow (redrawn W p.d) p.os := Calls.regrown_of (h _)

theorem reg_below {w W : World} (h : Below w.heap.size w W) (d : Nat) (os : Array Obj) : Below w.heap.size w (grow (redrawn W d) os) :=
  h.trans ((below_regrown W d os).mono h.size)

set_option maxHeartbeats 400000 in
set_option maxRecDepth 20000 in
theorem puts_any (p0 q0 l0 s0 p1 q1 l1 s1 p2 q2 l2 s2 x y z : Int) (h1 : 0 ≤ p0) (h2 : p0 ≤ 31) (h3 : 0 ≤ q0) (h4 : q0 ≤ 31) (h5 : p0 + q0 ≤ 32)
    (g1 : 0 ≤ p1) (g2 : p1 ≤ 31) (g3 : 0 ≤ q1) (g4 : q1 ≤ 31) (g5 : p1 + q1 ≤ 32) (k1 : 0 ≤ p2) (k2 : p2 ≤ 31) (k3 : 0 ≤ q2) (k4 : q2 ≤ 31) (k5 : p2 + q2 ≤ 32) (w : World) :
    Calls Tryd.prog 58 #[.agg #[.int .i64 p0, .int .i64 q0, .int .i64 l0, .int .i64 s0, .int .i64 p1, .int .i64 q1, .int .i64 l1, .int .i64 s1, .int .i64 p2, .int .i64 q2, .int .i64 l2, .int .i64 s2], .int .i64 x, .int .i64 y, .int .i64 z] w
      fun e w' => e = .returned (.int .u32 (put3 p0 q0 p1 q1 p2 q2 x y z)) ∧ Below w.heap.size w w' := by
  have P0 := fun W => put_any p0 q0 l0 s0 x h1 h2 h3 h4 h5 W
  have P1 := fun W => put_any p1 q1 l1 s1 y g1 g2 g3 g4 g5 W
  have P2 := fun W => put_any p2 q2 l2 s2 z k1 k2 k3 k4 k5 W
  clear h1 h2 h3 h4 h5 g1 g2 g3 g4 g5 k1 k2 k3 k4 k5
  go_enter Tryd.func58, Tryd.ntmps58
  go_wp2
  have hb : Below w.heap.size w (w.alloc (.cells #[.int .i64 p0, .int .i64 q0, .int .i64 l0, .int .i64 s0, .int .i64 p1, .int .i64 q1, .int .i64 l1, .int .i64 s1, .int .i64 p2, .int .i64 q2, .int .i64 l2, .int .i64 s2] 65)) := (Below.refl _ _).alloc (Nat.le_refl _) _
  have c0 : ∀ v : Array Value, ∀ i x, v[i]? = some x → (w.alloc (.cells v 65)).cell? ⟨w.heap.size, i, none⟩ = some x := by
    intro v i x h; simp [h]
  have c0 := fun i x => c0 #[.int .i64 p0, .int .i64 q0, .int .i64 l0, .int .i64 s0, .int .i64 p1, .int .i64 q1, .int .i64 l1, .int .i64 s1, .int .i64 p2, .int .i64 q2, .int .i64 l2, .int .i64 s2] i x
  generalize w.alloc (.cells #[.int .i64 p0, .int .i64 q0, .int .i64 l0, .int .i64 s0, .int .i64 p1, .int .i64 q1, .int .i64 l1, .int .i64 s1, .int .i64 p2, .int .i64 q2, .int .i64 l2, .int .i64 s2] 65) = W at hb c0 ⊢
  have r0 := cell_regrown (c0 0 (.int .i64 p0) rfl)
  have r1 := cell_regrown (c0 1 (.int .i64 q0) rfl)
  have r2 := cell_regrown (c0 2 (.int .i64 l0) rfl)
  have r3 := cell_regrown (c0 3 (.int .i64 s0) rfl)
  have r4 := cell_regrown (c0 4 (.int .i64 p1) rfl)
  have r5 := cell_regrown (c0 5 (.int .i64 q1) rfl)
  have r6 := cell_regrown (c0 6 (.int .i64 l1) rfl)
  have r7 := cell_regrown (c0 7 (.int .i64 s1) rfl)
  have r8 := cell_regrown (c0 8 (.int .i64 p2) rfl)
  have r9 := cell_regrown (c0 9 (.int .i64 q2) rfl)
  have r10 := cell_regrown (c0 10 (.int .i64 l2) rfl)
  have r11 := cell_regrown (c0 11 (.int .i64 s2) rfl)
  clear c0
  have Q0 := fun d os => calls_reg (W := W) P0 d os
  have Q1 := fun d os => calls_reg (W := W) P1 d os
  have Q2 := fun d os => calls_reg (W := W) P2 d os
  clear P0 P1 P2
  refine wp_region_quiet_below (by kernel_rfl) (by kernel_rfl) ?_
  repeat (quiet_step (first | with_reducible exact Q0 _ _ | with_reducible exact Q1 _ _ | with_reducible exact Q2 _ _))
  refine wpQuiet_nil ?_
  intro _ hw'
  obtain ⟨⟨dq, osq⟩, hw''⟩ := hw'
  subst hw''
  go_wp2
  go_ret
  exact ⟨by simp [put3], reg_below hb _ _⟩

set_option maxHeartbeats 400000 in
set_option maxRecDepth 20000 in
theorem takes_any (p0 q0 l0 s0 p1 q1 l1 s1 p2 q2 l2 s2 x : Int) (x0 : 0 ≤ x) (x1 : x < 4294967296) (h1 : 0 ≤ p0) (h2 : p0 ≤ 31) (h3 : 0 ≤ q0) (h4 : q0 ≤ 31)
    (g1 : 0 ≤ p1) (g2 : p1 ≤ 31) (g3 : 0 ≤ q1) (g4 : q1 ≤ 31) (k1 : 0 ≤ p2) (k2 : p2 ≤ 31) (k3 : 0 ≤ q2) (k4 : q2 ≤ 31) (w : World) :
    Calls Tryd.prog 61 #[.agg #[.int .i64 p0, .int .i64 q0, .int .i64 l0, .int .i64 s0, .int .i64 p1, .int .i64 q1, .int .i64 l1, .int .i64 s1, .int .i64 p2, .int .i64 q2, .int .i64 l2, .int .i64 s2], .int .u32 x] w
      fun e w' => e = .returned (.tuple #[.int .i64 (takeP p0 q0 x), .int .i64 (takeP p1 q1 x), .int .i64 (takeP p2 q2 x)]) ∧ Below w.heap.size w w' := by
  have P0 := fun W => take_any p0 q0 l0 s0 x x0 x1 h1 h2 h3 h4 W
  have P1 := fun W => take_any p1 q1 l1 s1 x x0 x1 g1 g2 g3 g4 W
  have P2 := fun W => take_any p2 q2 l2 s2 x x0 x1 k1 k2 k3 k4 W
  clear h1 h2 h3 h4 g1 g2 g3 g4 k1 k2 k3 k4 x0 x1
  go_enter Tryd.func61, Tryd.ntmps61
  go_wp2
  have hb : Below w.heap.size w (w.alloc (.cells #[.int .i64 p0, .int .i64 q0, .int .i64 l0, .int .i64 s0, .int .i64 p1, .int .i64 q1, .int .i64 l1, .int .i64 s1, .int .i64 p2, .int .i64 q2, .int .i64 l2, .int .i64 s2] 65)) := (Below.refl _ _).alloc (Nat.le_refl _) _
  have c0 : ∀ v : Array Value, ∀ i x, v[i]? = some x → (w.alloc (.cells v 65)).cell? ⟨w.heap.size, i, none⟩ = some x := by
    intro v i x h; simp [h]
  have c0 := fun i x => c0 #[.int .i64 p0, .int .i64 q0, .int .i64 l0, .int .i64 s0, .int .i64 p1, .int .i64 q1, .int .i64 l1, .int .i64 s1, .int .i64 p2, .int .i64 q2, .int .i64 l2, .int .i64 s2] i x
  generalize w.alloc (.cells #[.int .i64 p0, .int .i64 q0, .int .i64 l0, .int .i64 s0, .int .i64 p1, .int .i64 q1, .int .i64 l1, .int .i64 s1, .int .i64 p2, .int .i64 q2, .int .i64 l2, .int .i64 s2] 65) = W at hb c0 ⊢
  have r0 := cell_regrown (c0 0 (.int .i64 p0) rfl)
  have r1 := cell_regrown (c0 1 (.int .i64 q0) rfl)
  have r2 := cell_regrown (c0 2 (.int .i64 l0) rfl)
  have r3 := cell_regrown (c0 3 (.int .i64 s0) rfl)
  have r4 := cell_regrown (c0 4 (.int .i64 p1) rfl)
  have r5 := cell_regrown (c0 5 (.int .i64 q1) rfl)
  have r6 := cell_regrown (c0 6 (.int .i64 l1) rfl)
  have r7 := cell_regrown (c0 7 (.int .i64 s1) rfl)
  have r8 := cell_regrown (c0 8 (.int .i64 p2) rfl)
  have r9 := cell_regrown (c0 9 (.int .i64 q2) rfl)
  have r10 := cell_regrown (c0 10 (.int .i64 l2) rfl)
  have r11 := cell_regrown (c0 11 (.int .i64 s2) rfl)
  clear c0
  have Q0 := fun d os => calls_reg (W := W) P0 d os
  have Q1 := fun d os => calls_reg (W := W) P1 d os
  have Q2 := fun d os => calls_reg (W := W) P2 d os
  clear P0 P1 P2
  refine wp_region_quiet_below (by kernel_rfl) (by kernel_rfl) ?_
  repeat (quiet_step (first | with_reducible exact Q0 _ _ | with_reducible exact Q1 _ _ | with_reducible exact Q2 _ _))
  refine wpQuiet_nil ?_
  intro _ hw'
  obtain ⟨⟨dq, osq⟩, hw''⟩ := hw'
  subst hw''
  go_wp2
  go_ret3
  exact ⟨by simp, reg_below hb _ _⟩
end Go.Proofs.YtagplfochalidabDoor
