/- The contract of the reference's May: whether an operand of a kind may be. -/
import Derived.Test.YtnmclpphiajleaaDoorTable
namespace Go.Proofs.YtnmclpphiajleaaDoor
open Go.ChangeShapes Go.WideShapes Go.ChangeAt Go.RowKit
open Plain
set_option linter.unusedVariables false
set_option linter.unusedSimpArgs false

def inP (v n s : Int) : Bool := decide (0 ≤ v ∧ v < n * s ∧ v % s = 0)

theorem in_any (v n s : Int) (hn : 0 ≤ n) (hn1 : n ≤ 1000) (hs : 0 < s) (hs1 : s ≤ 1000) (v0 : -9223372036854775808 ≤ v) (v1 : v ≤ 9223372036854775807) (w : World) :
    Calls Tryd.prog 37 #[.int .i64 v, .int .i64 n, .int .i64 s] w fun e w' => w = w' ∧ e = .returned (.bool (inP v n s)) := by
  have hm : 0 ≤ n * s := Int.mul_nonneg hn (by omega)
  have hm1 : n * s ≤ 1000 * 1000 := Int.mul_le_mul hn1 hs1 (by omega) (by omega)
  have hw : wrap64 (n * s) = n * s := IntWalk.wrap64_in _ (by omega)
  unfold inP
  by_cases h0 : 0 ≤ v
  · have ht : v.tmod s = v % s := Int.tmod_eq_emod_of_nonneg h0
    have hsn : s ≠ 0 := by omega
    have hb : 0 ≤ v % s ∧ v % s < s := ⟨Int.emod_nonneg _ hsn, Int.emod_lt_of_pos _ hs⟩
    have hw2 : wrap64 (v % s) = v % s := IntWalk.wrap64_in _ (by omega)
    by_cases h1 : v < n * s
    · have h1' : v < wrap64 (n * s) := by rw [hw]; exact h1
      have hd : decide (0 ≤ v ∧ v < n * s ∧ v % s = 0) = (v % s == 0) := by simp [h0, h1]; rfl
      rw [hd]
      clear hd
      go_enter Tryd.func37, Tryd.ntmps37
      go_wp2
      go_ret
      exact ⟨rfl, rfl⟩
    · have hd : decide (0 ≤ v ∧ v < n * s ∧ v % s = 0) = false := by simp [h1]
      rw [hd]
      have h1' : ¬ v < wrap64 (n * s) := by rw [hw]; exact h1
      clear hd
      go_enter Tryd.func37, Tryd.ntmps37
      go_wp2
      go_ret
      exact ⟨rfl, rfl⟩
  · have hd : decide (0 ≤ v ∧ v < n * s ∧ v % s = 0) = false := by simp [h0]
    rw [hd]
    go_enter Tryd.func37, Tryd.ntmps37
    go_wp2
    go_ret
    exact ⟨rfl, rfl⟩

theorem count_in (f b l s v : Int) : (countC f b l s v).2 = inP (v - l) (2 ^ b.toNat) s := by
  unfold countC inP
  have : (l ≤ v ∧ v < l + 2 ^ b.toNat * s ∧ (v - l) % s = 0) ↔ (0 ≤ v - l ∧ v - l < 2 ^ b.toNat * s ∧ (v - l) % s = 0) := by
    constructor <;> rintro ⟨a, b, c⟩ <;> exact ⟨by omega, by omega, c⟩
  split
  · rename_i h; rw [this] at h; exact (decide_eq_true h).symm
  · rename_i h; rw [this] at h; exact (decide_eq_false h).symm

theorem even_any (v : Int) (k : Nat) (h1 : 1 ≤ k) (h2 : k ≤ 60) (w : World) :
    Calls Tryd.prog 55 #[.int .i64 v, .int .i64 k] w fun e w' => w = w' ∧ e = .returned (.bool (decide (v % 2 = 0) && fitsP v k)) := by
  have F := fun W => refFits_any v k h1 h2 W
  have hm := Int.tmod_def v 2
  have hc := tdiv_cases v 2 (by omega)
  have ht : v.tmod 2 = 0 ↔ v % 2 = 0 := by omega
  by_cases hv : v % 2 = 0
  · have ht' := ht.2 hv
    clear hm hc
    go_enter Tryd.func55, Tryd.ntmps55
    go_wp2_with (go_at_call 56; refine (F _).mono ?_; rintro e w' ⟨rfl, rfl⟩)
    go_ret
    simp [hv]
  · have ht' : ¬ v.tmod 2 = 0 := fun h => hv (ht.1 h)
    have hb : -1 ≤ v.tmod 2 ∧ v.tmod 2 ≤ 1 := by omega
    obtain ⟨hb0, hb1⟩ := hb
    clear hm hc
    go_enter Tryd.func55, Tryd.ntmps55
    go_wp2_with (go_at_call 56; refine (F _).mono ?_; rintro e w' ⟨rfl, rfl⟩)
    go_ret
    simp [hv]

theorem reg_may (f b v : Int) : (regC f b v).2 = decide ((0 ≤ v ∧ v ≤ 7) ∨ (24 ≤ v ∧ v ≤ 31)) := by
  unfold regC
  split
  · rename_i h; symm; simp; omega
  · split
    · rename_i h; symm; simp; omega
    · rename_i h h'; symm; simp; omega

set_option maxHeartbeats 800000 in
theorem may_X (v : Int) (v0 : -9223372036854775808 ≤ v) (v1 : v ≤ 9223372036854775807) (w : World) :
    Calls Tryd.prog 29 #[.string ⟨#[88]⟩, .int .i64 v] w fun e w' => w = w' ∧ e = .returned (.bool (K.code .kX v).2) := by
  have hR : (K.code .kX v).2 = decide ((0 ≤ v ∧ v ≤ 7) ∨ (24 ≤ v ∧ v ≤ 31)) := reg_may 0 4 v
  rw [hR]
  clear hR
  have hcs : v < 0 ∨ (0 ≤ v ∧ v ≤ 7) ∨ (8 ≤ v ∧ v ≤ 23) ∨ (24 ≤ v ∧ v ≤ 31) ∨ 32 ≤ v := by omega
  rcases hcs with h | ⟨h, h'⟩ | ⟨h, h'⟩ | ⟨h, h'⟩ | h
  · have hd : decide ((0 ≤ v ∧ v ≤ 7) ∨ (24 ≤ v ∧ v ≤ 31)) = false := by simp; omega
    rw [hd]; clear hd
    go_enter Tryd.func29, Tryd.ntmps29
    go_wp2
    go_ret
    first | exact ⟨rfl, rfl⟩ | (simp; omega)
  · have hd : decide ((0 ≤ v ∧ v ≤ 7) ∨ (24 ≤ v ∧ v ≤ 31)) = true := by simp; omega
    rw [hd]; clear hd
    go_enter Tryd.func29, Tryd.ntmps29
    go_wp2
    go_ret
    first | exact ⟨rfl, rfl⟩ | (simp; omega)
  · have hd : decide ((0 ≤ v ∧ v ≤ 7) ∨ (24 ≤ v ∧ v ≤ 31)) = false := by simp; omega
    rw [hd]; clear hd
    go_enter Tryd.func29, Tryd.ntmps29
    go_wp2
    go_ret
    first | exact ⟨rfl, rfl⟩ | (simp; omega)
  · have hd : decide ((0 ≤ v ∧ v ≤ 7) ∨ (24 ≤ v ∧ v ≤ 31)) = true := by simp; omega
    rw [hd]; clear hd
    go_enter Tryd.func29, Tryd.ntmps29
    go_wp2
    go_ret
    first | exact ⟨rfl, rfl⟩ | (simp; omega)
  · have hd : decide ((0 ≤ v ∧ v ≤ 7) ∨ (24 ≤ v ∧ v ≤ 31)) = false := by simp; omega
    rw [hd]; clear hd
    go_enter Tryd.func29, Tryd.ntmps29
    go_wp2
    go_ret
    first | exact ⟨rfl, rfl⟩ | (simp; omega)

set_option maxHeartbeats 800000 in
theorem may_Y (v : Int) (v0 : -9223372036854775808 ≤ v) (v1 : v ≤ 9223372036854775807) (w : World) :
    Calls Tryd.prog 29 #[.string ⟨#[89]⟩, .int .i64 v] w fun e w' => w = w' ∧ e = .returned (.bool (K.code .kY v).2) := by
  have hR : (K.code .kY v).2 = decide ((0 ≤ v ∧ v ≤ 7) ∨ (24 ≤ v ∧ v ≤ 31)) := reg_may 4 4 v
  rw [hR]
  clear hR
  have hcs : v < 0 ∨ (0 ≤ v ∧ v ≤ 7) ∨ (8 ≤ v ∧ v ≤ 23) ∨ (24 ≤ v ∧ v ≤ 31) ∨ 32 ≤ v := by omega
  rcases hcs with h | ⟨h, h'⟩ | ⟨h, h'⟩ | ⟨h, h'⟩ | h
  · have hd : decide ((0 ≤ v ∧ v ≤ 7) ∨ (24 ≤ v ∧ v ≤ 31)) = false := by simp; omega
    rw [hd]; clear hd
    go_enter Tryd.func29, Tryd.ntmps29
    go_wp2
    go_ret
    first | exact ⟨rfl, rfl⟩ | (simp; omega)
  · have hd : decide ((0 ≤ v ∧ v ≤ 7) ∨ (24 ≤ v ∧ v ≤ 31)) = true := by simp; omega
    rw [hd]; clear hd
    go_enter Tryd.func29, Tryd.ntmps29
    go_wp2
    go_ret
    first | exact ⟨rfl, rfl⟩ | (simp; omega)
  · have hd : decide ((0 ≤ v ∧ v ≤ 7) ∨ (24 ≤ v ∧ v ≤ 31)) = false := by simp; omega
    rw [hd]; clear hd
    go_enter Tryd.func29, Tryd.ntmps29
    go_wp2
    go_ret
    first | exact ⟨rfl, rfl⟩ | (simp; omega)
  · have hd : decide ((0 ≤ v ∧ v ≤ 7) ∨ (24 ≤ v ∧ v ≤ 31)) = true := by simp; omega
    rw [hd]; clear hd
    go_enter Tryd.func29, Tryd.ntmps29
    go_wp2
    go_ret
    first | exact ⟨rfl, rfl⟩ | (simp; omega)
  · have hd : decide ((0 ≤ v ∧ v ≤ 7) ∨ (24 ≤ v ∧ v ≤ 31)) = false := by simp; omega
    rw [hd]; clear hd
    go_enter Tryd.func29, Tryd.ntmps29
    go_wp2
    go_ret
    first | exact ⟨rfl, rfl⟩ | (simp; omega)

set_option maxHeartbeats 800000 in
theorem may_U5 (v : Int) (v0 : -9223372036854775808 ≤ v) (v1 : v ≤ 9223372036854775807) (w : World) :
    Calls Tryd.prog 29 #[.string ⟨#[85, 53]⟩, .int .i64 v] w fun e w' => w = w' ∧ e = .returned (.bool (K.code .kU5 v).2) := by
  have hR : (K.code .kU5 v).2 = inP (v - 0) 32 1 := count_in 4 5 0 1 v
  rw [hR]
  rw [Int.sub_zero]
  have I := fun W => in_any v 32 1 (by omega) (by omega) (by omega) (by omega) v0 v1 W
  clear hR
  go_enter Tryd.func29, Tryd.ntmps29
  go_wp2_with (go_at_call 37; refine (I _).mono ?_; rintro e w' ⟨rfl, rfl⟩)
  go_ret
  exact ⟨rfl, rfl⟩

set_option maxHeartbeats 800000 in
theorem may_U7 (v : Int) (v0 : -9223372036854775808 ≤ v) (v1 : v ≤ 9223372036854775807) (w : World) :
    Calls Tryd.prog 29 #[.string ⟨#[85, 55]⟩, .int .i64 v] w fun e w' => w = w' ∧ e = .returned (.bool (K.code .kU7 v).2) := by
  have hR : (K.code .kU7 v).2 = inP (v - 0) 128 1 := count_in 4 7 0 1 v
  rw [hR]
  rw [Int.sub_zero]
  have I := fun W => in_any v 128 1 (by omega) (by omega) (by omega) (by omega) v0 v1 W
  clear hR
  go_enter Tryd.func29, Tryd.ntmps29
  go_wp2_with (go_at_call 37; refine (I _).mono ?_; rintro e w' ⟨rfl, rfl⟩)
  go_ret
  exact ⟨rfl, rfl⟩

set_option maxHeartbeats 800000 in
theorem may_O5 (v : Int) (v0 : -9223372036854775808 ≤ v) (v1 : v ≤ 9223372036854775807) (w : World) :
    Calls Tryd.prog 29 #[.string ⟨#[79, 53]⟩, .int .i64 v] w fun e w' => w = w' ∧ e = .returned (.bool (K.code .kO5 v).2) := by
  have hR : (K.code .kO5 v).2 = inP (v - 1) 32 1 := count_in 4 5 1 1 v
  rw [hR]
  have hx : inP (v - 1) 32 1 = inP (wrap64 (v - 1)) 32 1 := by
    by_cases hv : v = -9223372036854775808
    · subst hv; decide +kernel
    · rw [IntWalk.wrap64_in _ (by omega)]
  rw [hx]
  have I := fun W => in_any (wrap64 (v - 1)) 32 1 (by omega) (by omega) (by omega) (by omega) (by unfold wrap64; omega) (by unfold wrap64; omega) W
  clear hx
  clear hR
  go_enter Tryd.func29, Tryd.ntmps29
  go_wp2_with (go_at_call 37; refine (I _).mono ?_; rintro e w' ⟨rfl, rfl⟩)
  go_ret
  exact ⟨rfl, rfl⟩

set_option maxHeartbeats 800000 in
theorem may_M1 (v : Int) (v0 : -9223372036854775808 ≤ v) (v1 : v ≤ 9223372036854775807) (w : World) :
    Calls Tryd.prog 29 #[.string ⟨#[77, 49]⟩, .int .i64 v] w fun e w' => w = w' ∧ e = .returned (.bool (K.code .kM1 v).2) := by
  have hR : (K.code .kM1 v).2 = inP (v - 0) 16 1 := count_in 8 4 0 1 v
  rw [hR]
  rw [Int.sub_zero]
  have I := fun W => in_any v 16 1 (by omega) (by omega) (by omega) (by omega) v0 v1 W
  clear hR
  go_enter Tryd.func29, Tryd.ntmps29
  go_wp2_with (go_at_call 37; refine (I _).mono ?_; rintro e w' ⟨rfl, rfl⟩)
  go_ret
  exact ⟨rfl, rfl⟩

set_option maxHeartbeats 800000 in
theorem may_M2 (v : Int) (v0 : -9223372036854775808 ≤ v) (v1 : v ≤ 9223372036854775807) (w : World) :
    Calls Tryd.prog 29 #[.string ⟨#[77, 50]⟩, .int .i64 v] w fun e w' => w = w' ∧ e = .returned (.bool (K.code .kM2 v).2) := by
  have hR : (K.code .kM2 v).2 = inP (v - 0) 16 2 := count_in 8 4 0 2 v
  rw [hR]
  rw [Int.sub_zero]
  have I := fun W => in_any v 16 2 (by omega) (by omega) (by omega) (by omega) v0 v1 W
  clear hR
  go_enter Tryd.func29, Tryd.ntmps29
  go_wp2_with (go_at_call 37; refine (I _).mono ?_; rintro e w' ⟨rfl, rfl⟩)
  go_ret
  exact ⟨rfl, rfl⟩

set_option maxHeartbeats 800000 in
theorem may_M4 (v : Int) (v0 : -9223372036854775808 ≤ v) (v1 : v ≤ 9223372036854775807) (w : World) :
    Calls Tryd.prog 29 #[.string ⟨#[77, 52]⟩, .int .i64 v] w fun e w' => w = w' ∧ e = .returned (.bool (K.code .kM4 v).2) := by
  have hR : (K.code .kM4 v).2 = inP (v - 0) 16 4 := count_in 8 4 0 4 v
  rw [hR]
  rw [Int.sub_zero]
  have I := fun W => in_any v 16 4 (by omega) (by omega) (by omega) (by omega) v0 v1 W
  clear hR
  go_enter Tryd.func29, Tryd.ntmps29
  go_wp2_with (go_at_call 37; refine (I _).mono ?_; rintro e w' ⟨rfl, rfl⟩)
  go_ret
  exact ⟨rfl, rfl⟩

set_option maxHeartbeats 800000 in
theorem may_O1 (v : Int) (v0 : -9223372036854775808 ≤ v) (v1 : v ≤ 9223372036854775807) (w : World) :
    Calls Tryd.prog 29 #[.string ⟨#[79, 49]⟩, .int .i64 v] w fun e w' => w = w' ∧ e = .returned (.bool (K.code .kO1 v).2) := by
  have hR : (K.code .kO1 v).2 = inP (v - 0) 2 1 := count_in 10 1 0 1 v
  rw [hR]
  rw [Int.sub_zero]
  have I := fun W => in_any v 2 1 (by omega) (by omega) (by omega) (by omega) v0 v1 W
  clear hR
  go_enter Tryd.func29, Tryd.ntmps29
  go_wp2_with (go_at_call 37; refine (I _).mono ?_; rintro e w' ⟨rfl, rfl⟩)
  go_ret
  exact ⟨rfl, rfl⟩

set_option maxHeartbeats 800000 in
theorem may_I2 (v : Int) (v0 : -9223372036854775808 ≤ v) (v1 : v ≤ 9223372036854775807) (w : World) :
    Calls Tryd.prog 29 #[.string ⟨#[73, 50]⟩, .int .i64 v] w fun e w' => w = w' ∧ e = .returned (.bool (K.code .kI2 v).2) := by
  have hR : (K.code .kI2 v).2 = inP (v - 0) 4 1 := count_in 8 2 0 1 v
  rw [hR]
  rw [Int.sub_zero]
  have I := fun W => in_any v 4 1 (by omega) (by omega) (by omega) (by omega) v0 v1 W
  clear hR
  go_enter Tryd.func29, Tryd.ntmps29
  go_wp2_with (go_at_call 37; refine (I _).mono ?_; rintro e w' ⟨rfl, rfl⟩)
  go_ret
  exact ⟨rfl, rfl⟩

set_option maxHeartbeats 800000 in
theorem may_T8 (v : Int) (v0 : -9223372036854775808 ≤ v) (v1 : v ≤ 9223372036854775807) (w : World) :
    Calls Tryd.prog 29 #[.string ⟨#[84, 56]⟩, .int .i64 v] w fun e w' => w = w' ∧ e = .returned (.bool (K.code .kT8 v).2) := by
  have hR : (K.code .kT8 v).2 = (decide (v % 2 = 0) && fitsP v 9) := by
    show (signC 0 8 2 v).2 = _
    unfold signC fitsP
    simp only [show (8 : Int).toNat = 8 from rfl, Nat.reducePow, Nat.reduceSub, Bool.and_eq_true, decide_eq_true_eq]
    split
    · rename_i h; symm; simp; omega
    · rename_i h; symm; simp; omega
  rw [hR]
  clear hR
  have I := fun W => even_any v 9 (by omega) (by omega) W
  have Wd : ∀ W, Calls Tryd.prog 38 #[.string ⟨#[84, 56]⟩, .int .i64 v] W fun e w' => W = w' ∧ e = .returned (.bool (decide (v % 2 = 0) && fitsP v 9)) := by
    intro W
    go_enter Tryd.func38, Tryd.ntmps38
    go_wp2_with (go_at_call 55; refine (I _).mono ?_; rintro e w' ⟨rfl, rfl⟩)
    go_ret
    exact ⟨rfl, rfl⟩
  go_enter Tryd.func29, Tryd.ntmps29
  go_wp2_with (go_at_call 38; refine (Wd _).mono ?_; rintro e w' ⟨rfl, rfl⟩)
  go_ret
  exact ⟨rfl, rfl⟩

set_option maxHeartbeats 800000 in
theorem may_D (v : Int) (v0 : -9223372036854775808 ≤ v) (v1 : v ≤ 9223372036854775807) (w : World) :
    Calls Tryd.prog 29 #[.string ⟨#[68]⟩, .int .i64 v] w fun e w' => w = w' ∧ e = .returned (.bool (K.code .kD v).2) := by
  have hR : (K.code .kD v).2 = inP (v - 0) 32 1 := count_in 21 5 0 1 v
  rw [hR]
  rw [Int.sub_zero]
  have I := fun W => in_any v 32 1 (by omega) (by omega) (by omega) (by omega) v0 v1 W
  clear hR
  go_enter Tryd.func29, Tryd.ntmps29
  go_wp2_with (go_at_call 37; refine (I _).mono ?_; rintro e w' ⟨rfl, rfl⟩)
  go_ret
  exact ⟨rfl, rfl⟩

set_option maxHeartbeats 800000 in
theorem may_A (v : Int) (v0 : -9223372036854775808 ≤ v) (v1 : v ≤ 9223372036854775807) (w : World) :
    Calls Tryd.prog 29 #[.string ⟨#[65]⟩, .int .i64 v] w fun e w' => w = w' ∧ e = .returned (.bool (K.code .kA v).2) := by
  have hR : (K.code .kA v).2 = inP (v - 0) 32 1 := count_in 16 5 0 1 v
  rw [hR]
  rw [Int.sub_zero]
  have I := fun W => in_any v 32 1 (by omega) (by omega) (by omega) (by omega) v0 v1 W
  clear hR
  go_enter Tryd.func29, Tryd.ntmps29
  go_wp2_with (go_at_call 37; refine (I _).mono ?_; rintro e w' ⟨rfl, rfl⟩)
  go_ret
  exact ⟨rfl, rfl⟩

set_option maxHeartbeats 800000 in
theorem may_B (v : Int) (v0 : -9223372036854775808 ≤ v) (v1 : v ≤ 9223372036854775807) (w : World) :
    Calls Tryd.prog 29 #[.string ⟨#[66]⟩, .int .i64 v] w fun e w' => w = w' ∧ e = .returned (.bool (K.code .kB v).2) := by
  have hR : (K.code .kB v).2 = inP (v - 0) 32 1 := count_in 11 5 0 1 v
  rw [hR]
  rw [Int.sub_zero]
  have I := fun W => in_any v 32 1 (by omega) (by omega) (by omega) (by omega) v0 v1 W
  clear hR
  go_enter Tryd.func29, Tryd.ntmps29
  go_wp2_with (go_at_call 37; refine (I _).mono ?_; rintro e w' ⟨rfl, rfl⟩)
  go_ret
  exact ⟨rfl, rfl⟩

set_option maxHeartbeats 800000 in
theorem may_S16 (v : Int) (v0 : -9223372036854775808 ≤ v) (v1 : v ≤ 9223372036854775807) (w : World) :
    Calls Tryd.prog 29 #[.string ⟨#[83, 49, 54]⟩, .int .i64 v] w fun e w' => w = w' ∧ e = .returned (.bool (K.code .kS16 v).2) := by
  have hR : (K.code .kS16 v).2 = fitsP v 16 := by
    show (signC 0 16 1 v).2 = _
    unfold signC
    rw [Int.ediv_one, Int.emod_one]
    simp only [show (16 : Int).toNat = 16 from rfl, true_and]
    split
    · rename_i h; exact h.symm
    · rename_i h; simpa using h
  rw [hR]
  clear hR
  have I := fun W => refFits_any v 16 (by omega) (by omega) W
  have Wd : ∀ W, Calls Tryd.prog 38 #[.string ⟨#[83, 49, 54]⟩, .int .i64 v] W fun e w' => W = w' ∧ e = .returned (.bool (fitsP v 16)) := by
    intro W
    go_enter Tryd.func38, Tryd.ntmps38
    go_wp2_with (go_at_call 56; refine (I _).mono ?_; rintro e w' ⟨rfl, rfl⟩)
    go_ret
    exact ⟨rfl, rfl⟩
  go_enter Tryd.func29, Tryd.ntmps29
  go_wp2_with (go_at_call 38; refine (Wd _).mono ?_; rintro e w' ⟨rfl, rfl⟩)
  go_ret
  exact ⟨rfl, rfl⟩

set_option maxHeartbeats 800000 in
theorem may_L20 (v : Int) (v0 : -9223372036854775808 ≤ v) (v1 : v ≤ 9223372036854775807) (w : World) :
    Calls Tryd.prog 29 #[.string ⟨#[76, 50, 48]⟩, .int .i64 v] w fun e w' => w = w' ∧ e = .returned (.bool (K.code .kL20 v).2) := by
  have hR : (K.code .kL20 v).2 = fitsP v 20 := by
    show (splitC 11 4 16 5 0 11 v).2 = _
    unfold splitC
    split
    · rename_i h; exact h.symm
    · rename_i h; simpa using h
  rw [hR]
  clear hR
  have I := fun W => refFits_any v 20 (by omega) (by omega) W
  have Wd : ∀ W, Calls Tryd.prog 38 #[.string ⟨#[76, 50, 48]⟩, .int .i64 v] W fun e w' => W = w' ∧ e = .returned (.bool (fitsP v 20)) := by
    intro W
    go_enter Tryd.func38, Tryd.ntmps38
    go_wp2_with (go_at_call 56; refine (I _).mono ?_; rintro e w' ⟨rfl, rfl⟩)
    go_ret
    exact ⟨rfl, rfl⟩
  go_enter Tryd.func29, Tryd.ntmps29
  go_wp2_with (go_at_call 38; refine (Wd _).mono ?_; rintro e w' ⟨rfl, rfl⟩)
  go_ret
  exact ⟨rfl, rfl⟩

set_option maxHeartbeats 800000 in
theorem may_C8 (v : Int) (v0 : -9223372036854775808 ≤ v) (v1 : v ≤ 9223372036854775807) (w : World) :
    Calls Tryd.prog 29 #[.string ⟨#[67, 56]⟩, .int .i64 v] w fun e w' => w = w' ∧ e = .returned (.bool (K.code .kC8 v).2) := by
  have hR : (K.code .kC8 v).2 = (sciP v).2.2.2 := rfl
  rw [hR]
  clear hR
  have I := fun W => refSci8_any v W
  unfold four at I
  generalize sciP v = r at *
  obtain ⟨f, s, u, is⟩ := r
  have Wd : ∀ W, Calls Tryd.prog 38 #[.string ⟨#[67, 56]⟩, .int .i64 v] W fun e w' => W = w' ∧ e = .returned (.bool (is)) := by
    intro W
    go_enter Tryd.func38, Tryd.ntmps38
    go_wp2_with (go_at_call 40; refine (I _).mono ?_; rintro e w' ⟨rfl, rfl⟩)
    go_ret
    exact ⟨rfl, rfl⟩
  go_enter Tryd.func29, Tryd.ntmps29
  go_wp2_with (go_at_call 38; refine (Wd _).mono ?_; rintro e w' ⟨rfl, rfl⟩)
  go_ret
  exact ⟨rfl, rfl⟩

set_option maxHeartbeats 800000 in
theorem may_O2 (v : Int) (v0 : -9223372036854775808 ≤ v) (v1 : v ≤ 9223372036854775807) (w : World) :
    Calls Tryd.prog 29 #[.string ⟨#[79, 50]⟩, .int .i64 v] w fun e w' => w = w' ∧ e = .returned (.bool (K.code .kO2 v).2) := by
  have hR : (K.code .kO2 v).2 = inP (v - 0) 4 1 := count_in 20 2 0 1 v
  rw [hR]
  rw [Int.sub_zero]
  have I := fun W => in_any v 4 1 (by omega) (by omega) (by omega) (by omega) v0 v1 W
  clear hR
  go_enter Tryd.func29, Tryd.ntmps29
  go_wp2_with (go_at_call 37; refine (I _).mono ?_; rintro e w' ⟨rfl, rfl⟩)
  go_ret
  exact ⟨rfl, rfl⟩

set_option maxHeartbeats 800000 in
theorem may_I4 (v : Int) (v0 : -9223372036854775808 ≤ v) (v1 : v ≤ 9223372036854775807) (w : World) :
    Calls Tryd.prog 29 #[.string ⟨#[73, 52]⟩, .int .i64 v] w fun e w' => w = w' ∧ e = .returned (.bool (K.code .kI4 v).2) := by
  have hR : (K.code .kI4 v).2 = inP (v - 0) 16 1 := count_in 16 4 0 1 v
  rw [hR]
  rw [Int.sub_zero]
  have I := fun W => in_any v 16 1 (by omega) (by omega) (by omega) (by omega) v0 v1 W
  clear hR
  go_enter Tryd.func29, Tryd.ntmps29
  go_wp2_with (go_at_call 37; refine (I _).mono ?_; rintro e w' ⟨rfl, rfl⟩)
  go_ret
  exact ⟨rfl, rfl⟩

set_option maxHeartbeats 800000 in
theorem may_T15 (v : Int) (v0 : -9223372036854775808 ≤ v) (v1 : v ≤ 9223372036854775807) (w : World) :
    Calls Tryd.prog 29 #[.string ⟨#[84, 49, 53]⟩, .int .i64 v] w fun e w' => w = w' ∧ e = .returned (.bool (K.code .kT15 v).2) := by
  have hR : (K.code .kT15 v).2 = (decide (v % 2 = 0) && fitsP v 16) := by
    show (signC 1 15 2 v).2 = _
    unfold signC fitsP
    simp only [show (15 : Int).toNat = 15 from rfl, Nat.reducePow, Nat.reduceSub, Bool.and_eq_true, decide_eq_true_eq]
    split
    · rename_i h; symm; simp; omega
    · rename_i h; symm; simp; omega
  rw [hR]
  clear hR
  have I := fun W => even_any v 16 (by omega) (by omega) W
  have Wd : ∀ W, Calls Tryd.prog 38 #[.string ⟨#[84, 49, 53]⟩, .int .i64 v] W fun e w' => W = w' ∧ e = .returned (.bool (decide (v % 2 = 0) && fitsP v 16)) := by
    intro W
    go_enter Tryd.func38, Tryd.ntmps38
    go_wp2_with (go_at_call 55; refine (I _).mono ?_; rintro e w' ⟨rfl, rfl⟩)
    go_ret
    exact ⟨rfl, rfl⟩
  go_enter Tryd.func29, Tryd.ntmps29
  go_wp2_with (go_at_call 38; refine (Wd _).mono ?_; rintro e w' ⟨rfl, rfl⟩)
  go_ret
  exact ⟨rfl, rfl⟩

set_option maxHeartbeats 800000 in
theorem may_T24 (v : Int) (v0 : -9223372036854775808 ≤ v) (v1 : v ≤ 9223372036854775807) (w : World) :
    Calls Tryd.prog 29 #[.string ⟨#[84, 50, 52]⟩, .int .i64 v] w fun e w' => w = w' ∧ e = .returned (.bool (K.code .kT24 v).2) := by
  have hR : (K.code .kT24 v).2 = (decide (v % 2 = 0) && fitsP v 25) := by
    show (signC 1 24 2 v).2 = _
    unfold signC fitsP
    simp only [show (24 : Int).toNat = 24 from rfl, Nat.reducePow, Nat.reduceSub, Bool.and_eq_true, decide_eq_true_eq]
    split
    · rename_i h; symm; simp; omega
    · rename_i h; symm; simp; omega
  rw [hR]
  clear hR
  have I := fun W => even_any v 25 (by omega) (by omega) W
  have Wd : ∀ W, Calls Tryd.prog 38 #[.string ⟨#[84, 50, 52]⟩, .int .i64 v] W fun e w' => W = w' ∧ e = .returned (.bool (decide (v % 2 = 0) && fitsP v 25)) := by
    intro W
    go_enter Tryd.func38, Tryd.ntmps38
    go_wp2_with (go_at_call 55; refine (I _).mono ?_; rintro e w' ⟨rfl, rfl⟩)
    go_ret
    exact ⟨rfl, rfl⟩
  go_enter Tryd.func29, Tryd.ntmps29
  go_wp2_with (go_at_call 38; refine (Wd _).mono ?_; rintro e w' ⟨rfl, rfl⟩)
  go_ret
  exact ⟨rfl, rfl⟩

theorem may_any (k : K) (v : Int) (v0 : -9223372036854775808 ≤ v) (v1 : v ≤ 9223372036854775807) (w : World) :
    Calls Tryd.prog 29 #[.string ⟨k.name.toArray⟩, .int .i64 v] w fun e w' => w = w' ∧ e = .returned (.bool (k.code v).2) := by
  cases k
  · exact may_X v v0 v1 w
  · exact may_Y v v0 v1 w
  · exact may_U5 v v0 v1 w
  · exact may_U7 v v0 v1 w
  · exact may_O5 v v0 v1 w
  · exact may_M1 v v0 v1 w
  · exact may_M2 v v0 v1 w
  · exact may_M4 v v0 v1 w
  · exact may_O1 v v0 v1 w
  · exact may_I2 v v0 v1 w
  · exact may_T8 v v0 v1 w
  · exact may_D v v0 v1 w
  · exact may_A v v0 v1 w
  · exact may_B v v0 v1 w
  · exact may_S16 v v0 v1 w
  · exact may_L20 v v0 v1 w
  · exact may_C8 v v0 v1 w
  · exact may_O2 v v0 v1 w
  · exact may_I4 v v0 v1 w
  · exact may_T15 v v0 v1 w
  · exact may_T24 v v0 v1 w
end Go.Proofs.YtnmclpphiajleaaDoor
