/- The contract of the reference's take: an operand, of all bits. -/
import Derived.Test.YtnmclpphiajleaaDoorRefPut
namespace Go.Proofs.YtnmclpphiajleaaDoor
open Go.ChangeShapes Go.WideShapes Go.ChangeAt Go.RowKit
open Plain
set_option linter.unusedVariables false
set_option linter.unusedSimpArgs false

theorem eight_any (v : Int) (h0 : 0 ≤ v) (h1 : v < 4294967296) (w : World) : Calls Tryd.prog 34 #[.int .i64 v] w fun e w' => w = w' ∧ e = .returned (.int .i64 (if v % 16 < 8 then v % 16 else v % 16 + 16)) := by
  have e3 : bits .and .i64 v 15 = v % 16 := and_mask v 4 (by omega)
  have b0 : 0 ≤ v % 16 ∧ v % 16 < 16 := by omega
  obtain ⟨b0, b1⟩ := b0
  by_cases h : v % 16 < 8
  · have h' : ¬ 7 < v % 16 := by omega
    rw [if_pos h]
    go_enter Tryd.func34, Tryd.ntmps34
    go_wp2
    go_ret
    exact ⟨rfl, rfl⟩
  · have h' : 7 < v % 16 := by omega
    rw [if_neg h]
    go_enter Tryd.func34, Tryd.ntmps34
    go_wp2
    go_ret
    exact ⟨rfl, rfl⟩

theorem and_even (n k : Nat) : n &&& (2 * (2 ^ k - 1)) = 2 * (n / 2 % 2 ^ k) := by
  apply Nat.eq_of_testBit_eq
  intro i
  rw [Nat.testBit_and]
  cases i with
  | zero => simp [Nat.testBit_zero]
  | succ i =>
    rw [Nat.testBit_succ, Nat.testBit_succ, Nat.testBit_succ, Nat.mul_div_cancel_left _ (by omega), Nat.mul_div_cancel_left _ (by omega), Nat.testBit_two_pow_sub_one, Nat.testBit_mod_two_pow, Bool.and_comm]

theorem bits_and_i64_nat (a b : Nat) (ha : a < 4294967296) (hb : b < 4294967296) : bits .and .i64 (a : Int) (b : Int) = ((a &&& b : Nat) : Int) := by
  have hx : a &&& b ≤ a := Nat.and_le_left
  have h1 : (BitVec.ofInt 64 (a : Int)).toNat = a := by
    rw [BitVec.ofInt_natCast, BitVec.toNat_ofNat]; exact Nat.mod_eq_of_lt (by omega)
  have h2 : (BitVec.ofInt 64 (b : Int)).toNat = b := by
    rw [BitVec.ofInt_natCast, BitVec.toNat_ofNat]; exact Nat.mod_eq_of_lt (by omega)
  show IntKind.i64.wrap ((BitVec.ofInt 64 (a : Int) &&& BitVec.ofInt 64 (b : Int)).toNat : Int) = _
  rw [BitVec.toNat_and, h1, h2, IntKind.wrap_i64]
  omega

theorem and_15 (n : Int) (n0 : 0 ≤ n) (n1 : n < 4294967296) : bits .and .i64 n 65534 = n % 65536 - n % 2 := by
  obtain ⟨x, rfl⟩ := Int.eq_ofNat_of_zero_le n0
  have h := bits_and_i64_nat x 65534 (by omega) (by omega)
  have h2 := and_even x 15
  rw [show 2 * (2 ^ 15 - 1) = 65534 from rfl] at h2
  rw [h2] at h
  refine h.trans ?_
  omega

theorem and_24 (n : Int) (n0 : 0 ≤ n) (n1 : n < 4294967296) : bits .and .i64 n 33554430 = n % 33554432 - n % 2 := by
  obtain ⟨x, rfl⟩ := Int.eq_ofNat_of_zero_le n0
  have h := bits_and_i64_nat x 33554430 (by omega) (by omega)
  have h2 := and_even x 24
  rw [show 2 * (2 ^ 24 - 1) = 33554430 from rfl] at h2
  rw [h2] at h
  refine h.trans ?_
  omega

theorem refJoined_any (h m l : Int) (h0 : 0 ≤ h) (h1 : h < 16) (m0 : 0 ≤ m) (m1 : m < 32) (l0 : 0 ≤ l) (l1 : l < 2048) (w : World) :
    Calls Tryd.prog 53 #[.int .i64 h, .int .i64 m, .int .i64 l] w fun e w' => w = w' ∧ e = .returned (.int .i64 (signP (h * 65536 + m * 2048 + l) 20)) := by
  have e1 : bits .or .i64 (bits .or .i64 (h * 65536) (m * 2048)) l = h * 65536 + m * 2048 + l := by
    rw [or_i64 16 (h * 65536) (m * 2048) (by omega) (by omega) (by omega) (by omega) (by omega) (by omega)]
    exact or_i64 11 _ l (by omega) (by omega) (by omega) (by omega) (by omega) (by omega)
  have S := fun W => refSign_any (h * 65536 + m * 2048 + l) 20 (by omega) (by omega) W
  generalize signP (h * 65536 + m * 2048 + l) 20 = r at *
  go_enter Tryd.func53, Tryd.ntmps53
  go_wp2_with (go_at_call 35; first | (refine (S _).mono ?_; rintro e w' ⟨rfl, rfl⟩) | (rw [e1]; refine (S _).mono ?_; rintro e w' ⟨rfl, rfl⟩))
  go_ret
  exact ⟨rfl, rfl⟩

set_option maxHeartbeats 800000 in
theorem take_X (n : Int) (n0 : 0 ≤ n) (n1 : n < 4294967296) (w : World) : Calls Tryd.prog 26 #[.string ⟨#[88]⟩, .int .i64 n] w fun e w' => w = w' ∧ e = .returned (.int .i64 (K.tell .kX n)) := by
  have e : K.tell .kX n = if n % 16 < 8 then n % 16 else n % 16 + 16 := by
    show regT 0 4 n = _
    unfold regT takeP
    simp only [show (4 : Int).toNat = 4 from rfl, show (0 : Int).toNat = 0 from rfl, Int.reducePow]
    rw [Int.ediv_one]
  rw [e]
  clear e
  have F := fun W => eight_any (n) (by omega) (by omega) W
  generalize (if n % 16 < 8 then n % 16 else n % 16 + 16) = r at *
  go_enter Tryd.func26, Tryd.ntmps26
  go_wp2_with (go_at_call 34; refine (F _).mono ?_; rintro e w' ⟨rfl, rfl⟩)
  go_ret
  exact ⟨rfl, rfl⟩

set_option maxHeartbeats 800000 in
theorem take_Y (n : Int) (n0 : 0 ≤ n) (n1 : n < 4294967296) (w : World) : Calls Tryd.prog 26 #[.string ⟨#[89]⟩, .int .i64 n] w fun e w' => w = w' ∧ e = .returned (.int .i64 (K.tell .kY n)) := by
  have e : K.tell .kY n = if (n / 16) % 16 < 8 then (n / 16) % 16 else (n / 16) % 16 + 16 := by
    show regT 4 4 n = _
    unfold regT takeP
    simp only [show (4 : Int).toNat = 4 from rfl, show (4 : Int).toNat = 4 from rfl, Int.reducePow]
    
  rw [e]
  clear e
  have F := fun W => eight_any (n / 16) (by omega) (by omega) W
  generalize (if (n / 16) % 16 < 8 then (n / 16) % 16 else (n / 16) % 16 + 16) = r at *
  go_enter Tryd.func26, Tryd.ntmps26
  go_wp2_with (go_at_call 34; refine (F _).mono ?_; rintro e w' ⟨rfl, rfl⟩)
  go_ret
  exact ⟨rfl, rfl⟩

set_option maxHeartbeats 800000 in
theorem take_U5 (n : Int) (n0 : 0 ≤ n) (n1 : n < 4294967296) (w : World) : Calls Tryd.prog 26 #[.string ⟨#[85, 53]⟩, .int .i64 n] w fun e w' => w = w' ∧ e = .returned (.int .i64 (K.tell .kU5 n)) := by
  have e : K.tell .kU5 n = n / 16 % 32 := by
    show countT 4 5 0 1 n = _
    unfold countT takeP
    simp only [show (5 : Int).toNat = 5 from rfl, show (4 : Int).toNat = 4 from rfl, Int.reducePow]
    omega
  rw [e]
  clear e
  have e3 : ∀ x, bits .and .i64 x 31 = x % 32 := fun x => and_mask x 5 (by omega)
  have b0 : 0 ≤ n / 16 % 32 ∧ n / 16 % 32 < 32 := by omega
  obtain ⟨b0, b1⟩ := b0
  go_enter Tryd.func26, Tryd.ntmps26
  go_wp2
  go_ret
  first | exact ⟨rfl, rfl⟩ | exact ⟨rfl, by simp [e3]⟩

set_option maxHeartbeats 800000 in
theorem take_U7 (n : Int) (n0 : 0 ≤ n) (n1 : n < 4294967296) (w : World) : Calls Tryd.prog 26 #[.string ⟨#[85, 55]⟩, .int .i64 n] w fun e w' => w = w' ∧ e = .returned (.int .i64 (K.tell .kU7 n)) := by
  have e : K.tell .kU7 n = n / 16 % 128 := by
    show countT 4 7 0 1 n = _
    unfold countT takeP
    simp only [show (7 : Int).toNat = 7 from rfl, show (4 : Int).toNat = 4 from rfl, Int.reducePow]
    omega
  rw [e]
  clear e
  have e3 : ∀ x, bits .and .i64 x 127 = x % 128 := fun x => and_mask x 7 (by omega)
  have b0 : 0 ≤ n / 16 % 128 ∧ n / 16 % 128 < 128 := by omega
  obtain ⟨b0, b1⟩ := b0
  go_enter Tryd.func26, Tryd.ntmps26
  go_wp2
  go_ret
  first | exact ⟨rfl, rfl⟩ | exact ⟨rfl, by simp [e3]⟩

set_option maxHeartbeats 800000 in
theorem take_O5 (n : Int) (n0 : 0 ≤ n) (n1 : n < 4294967296) (w : World) : Calls Tryd.prog 26 #[.string ⟨#[79, 53]⟩, .int .i64 n] w fun e w' => w = w' ∧ e = .returned (.int .i64 (K.tell .kO5 n)) := by
  have e : K.tell .kO5 n = n / 16 % 32 + 1 := by
    show countT 4 5 1 1 n = _
    unfold countT takeP
    simp only [show (5 : Int).toNat = 5 from rfl, show (4 : Int).toNat = 4 from rfl, Int.reducePow]
    omega
  rw [e]
  clear e
  have e3 : ∀ x, bits .and .i64 x 31 = x % 32 := fun x => and_mask x 5 (by omega)
  have b0 : 0 ≤ n / 16 % 32 ∧ n / 16 % 32 < 32 := by omega
  obtain ⟨b0, b1⟩ := b0
  go_enter Tryd.func26, Tryd.ntmps26
  go_wp2
  go_ret
  first | exact ⟨rfl, rfl⟩ | exact ⟨rfl, by simp [e3]⟩

set_option maxHeartbeats 800000 in
theorem take_M1 (n : Int) (n0 : 0 ≤ n) (n1 : n < 4294967296) (w : World) : Calls Tryd.prog 26 #[.string ⟨#[77, 49]⟩, .int .i64 n] w fun e w' => w = w' ∧ e = .returned (.int .i64 (K.tell .kM1 n)) := by
  have e : K.tell .kM1 n = n / 256 % 16 := by
    show countT 8 4 0 1 n = _
    unfold countT takeP
    simp only [show (4 : Int).toNat = 4 from rfl, show (8 : Int).toNat = 8 from rfl, Int.reducePow]
    omega
  rw [e]
  clear e
  have e3 : ∀ x, bits .and .i64 x 15 = x % 16 := fun x => and_mask x 4 (by omega)
  have b0 : 0 ≤ n / 256 % 16 ∧ n / 256 % 16 < 16 := by omega
  obtain ⟨b0, b1⟩ := b0
  go_enter Tryd.func26, Tryd.ntmps26
  go_wp2
  go_ret
  first | exact ⟨rfl, rfl⟩ | exact ⟨rfl, by simp [e3]⟩

set_option maxHeartbeats 800000 in
theorem take_M2 (n : Int) (n0 : 0 ≤ n) (n1 : n < 4294967296) (w : World) : Calls Tryd.prog 26 #[.string ⟨#[77, 50]⟩, .int .i64 n] w fun e w' => w = w' ∧ e = .returned (.int .i64 (K.tell .kM2 n)) := by
  have e : K.tell .kM2 n = 2 * (n / 256 % 16) := by
    show countT 8 4 0 2 n = _
    unfold countT takeP
    simp only [show (4 : Int).toNat = 4 from rfl, show (8 : Int).toNat = 8 from rfl, Int.reducePow]
    omega
  rw [e]
  clear e
  have e3 : ∀ x, bits .and .i64 x 15 = x % 16 := fun x => and_mask x 4 (by omega)
  have b0 : 0 ≤ n / 256 % 16 ∧ n / 256 % 16 < 16 := by omega
  obtain ⟨b0, b1⟩ := b0
  go_enter Tryd.func26, Tryd.ntmps26
  go_wp2
  go_ret
  first | exact ⟨rfl, rfl⟩ | exact ⟨rfl, by simp [e3]⟩

set_option maxHeartbeats 800000 in
theorem take_M4 (n : Int) (n0 : 0 ≤ n) (n1 : n < 4294967296) (w : World) : Calls Tryd.prog 26 #[.string ⟨#[77, 52]⟩, .int .i64 n] w fun e w' => w = w' ∧ e = .returned (.int .i64 (K.tell .kM4 n)) := by
  have e : K.tell .kM4 n = 4 * (n / 256 % 16) := by
    show countT 8 4 0 4 n = _
    unfold countT takeP
    simp only [show (4 : Int).toNat = 4 from rfl, show (8 : Int).toNat = 8 from rfl, Int.reducePow]
    omega
  rw [e]
  clear e
  have e3 : ∀ x, bits .and .i64 x 15 = x % 16 := fun x => and_mask x 4 (by omega)
  have b0 : 0 ≤ n / 256 % 16 ∧ n / 256 % 16 < 16 := by omega
  obtain ⟨b0, b1⟩ := b0
  go_enter Tryd.func26, Tryd.ntmps26
  go_wp2
  go_ret
  first | exact ⟨rfl, rfl⟩ | exact ⟨rfl, by simp [e3]⟩

set_option maxHeartbeats 800000 in
theorem take_O1 (n : Int) (n0 : 0 ≤ n) (n1 : n < 4294967296) (w : World) : Calls Tryd.prog 26 #[.string ⟨#[79, 49]⟩, .int .i64 n] w fun e w' => w = w' ∧ e = .returned (.int .i64 (K.tell .kO1 n)) := by
  have e : K.tell .kO1 n = n / 1024 % 2 := by
    show countT 10 1 0 1 n = _
    unfold countT takeP
    simp only [show (1 : Int).toNat = 1 from rfl, show (10 : Int).toNat = 10 from rfl, Int.reducePow]
    omega
  rw [e]
  clear e
  have e3 : ∀ x, bits .and .i64 x 1 = x % 2 := fun x => and_mask x 1 (by omega)
  have b0 : 0 ≤ n / 1024 % 2 ∧ n / 1024 % 2 < 2 := by omega
  obtain ⟨b0, b1⟩ := b0
  go_enter Tryd.func26, Tryd.ntmps26
  go_wp2
  go_ret
  first | exact ⟨rfl, rfl⟩ | exact ⟨rfl, by simp [e3]⟩

set_option maxHeartbeats 800000 in
theorem take_I2 (n : Int) (n0 : 0 ≤ n) (n1 : n < 4294967296) (w : World) : Calls Tryd.prog 26 #[.string ⟨#[73, 50]⟩, .int .i64 n] w fun e w' => w = w' ∧ e = .returned (.int .i64 (K.tell .kI2 n)) := by
  have e : K.tell .kI2 n = n / 256 % 4 := by
    show countT 8 2 0 1 n = _
    unfold countT takeP
    simp only [show (2 : Int).toNat = 2 from rfl, show (8 : Int).toNat = 8 from rfl, Int.reducePow]
    omega
  rw [e]
  clear e
  have e3 : ∀ x, bits .and .i64 x 3 = x % 4 := fun x => and_mask x 2 (by omega)
  have b0 : 0 ≤ n / 256 % 4 ∧ n / 256 % 4 < 4 := by omega
  obtain ⟨b0, b1⟩ := b0
  go_enter Tryd.func26, Tryd.ntmps26
  go_wp2
  go_ret
  first | exact ⟨rfl, rfl⟩ | exact ⟨rfl, by simp [e3]⟩

set_option maxHeartbeats 800000 in
theorem take_T8 (n : Int) (n0 : 0 ≤ n) (n1 : n < 4294967296) (w : World) : Calls Tryd.prog 26 #[.string ⟨#[84, 56]⟩, .int .i64 n] w fun e w' => w = w' ∧ e = .returned (.int .i64 (K.tell .kT8 n)) := by
  have e : K.tell .kT8 n = 2 * signP n 8 := by
    show signT 0 8 2 n = _
    unfold signT takeP signP
    simp only [show (8 : Int).toNat = 8 from rfl, show (0 : Int).toNat = 0 from rfl, Int.reducePow]
    omega
  rw [e]
  clear e
  have S := fun W => refSign_any (n) 8 (by omega) (by omega) W
  have sb := signP_bounds (n) 8 (by omega)
  obtain ⟨sb0, sb1⟩ := sb
  generalize signP (n) 8 = r at *
  go_enter Tryd.func26, Tryd.ntmps26
  go_wp2_with (go_at_call 35; refine (S _).mono ?_; rintro e w' ⟨rfl, rfl⟩)
  go_ret
  exact ⟨rfl, rfl⟩

set_option maxHeartbeats 800000 in
theorem take_D (n : Int) (n0 : 0 ≤ n) (n1 : n < 4294967296) (w : World) : Calls Tryd.prog 26 #[.string ⟨#[68]⟩, .int .i64 n] w fun e w' => w = w' ∧ e = .returned (.int .i64 (K.tell .kD n)) := by
  have e : K.tell .kD n = n / 2097152 % 32 := by
    show countT 21 5 0 1 n = _
    unfold countT takeP
    simp only [show (5 : Int).toNat = 5 from rfl, show (21 : Int).toNat = 21 from rfl, Int.reducePow]
    omega
  rw [e]
  clear e
  have e3 : ∀ x, bits .and .i64 x 31 = x % 32 := fun x => and_mask x 5 (by omega)
  have b0 : 0 ≤ n / 2097152 % 32 ∧ n / 2097152 % 32 < 32 := by omega
  obtain ⟨b0, b1⟩ := b0
  have Ln : ∀ W, Calls Tryd.prog 36 #[.string ⟨#[68]⟩, .int .i64 n] W fun e w' => W = w' ∧ e = .returned (.int .i64 (n / 2097152 % 32)) := by
    intro W
    go_enter Tryd.func36, Tryd.ntmps36
    go_wp2
    go_ret
    first | exact ⟨rfl, rfl⟩ | exact ⟨rfl, by simp [e3]⟩
  go_enter Tryd.func26, Tryd.ntmps26
  go_wp2_with (go_at_call 36; refine (Ln _).mono ?_; rintro e w' ⟨rfl, rfl⟩)
  go_ret
  exact ⟨rfl, rfl⟩

set_option maxHeartbeats 800000 in
theorem take_A (n : Int) (n0 : 0 ≤ n) (n1 : n < 4294967296) (w : World) : Calls Tryd.prog 26 #[.string ⟨#[65]⟩, .int .i64 n] w fun e w' => w = w' ∧ e = .returned (.int .i64 (K.tell .kA n)) := by
  have e : K.tell .kA n = n / 65536 % 32 := by
    show countT 16 5 0 1 n = _
    unfold countT takeP
    simp only [show (5 : Int).toNat = 5 from rfl, show (16 : Int).toNat = 16 from rfl, Int.reducePow]
    omega
  rw [e]
  clear e
  have e3 : ∀ x, bits .and .i64 x 31 = x % 32 := fun x => and_mask x 5 (by omega)
  have b0 : 0 ≤ n / 65536 % 32 ∧ n / 65536 % 32 < 32 := by omega
  obtain ⟨b0, b1⟩ := b0
  have Ln : ∀ W, Calls Tryd.prog 36 #[.string ⟨#[65]⟩, .int .i64 n] W fun e w' => W = w' ∧ e = .returned (.int .i64 (n / 65536 % 32)) := by
    intro W
    go_enter Tryd.func36, Tryd.ntmps36
    go_wp2
    go_ret
    first | exact ⟨rfl, rfl⟩ | exact ⟨rfl, by simp [e3]⟩
  go_enter Tryd.func26, Tryd.ntmps26
  go_wp2_with (go_at_call 36; refine (Ln _).mono ?_; rintro e w' ⟨rfl, rfl⟩)
  go_ret
  exact ⟨rfl, rfl⟩

set_option maxHeartbeats 800000 in
theorem take_B (n : Int) (n0 : 0 ≤ n) (n1 : n < 4294967296) (w : World) : Calls Tryd.prog 26 #[.string ⟨#[66]⟩, .int .i64 n] w fun e w' => w = w' ∧ e = .returned (.int .i64 (K.tell .kB n)) := by
  have e : K.tell .kB n = n / 2048 % 32 := by
    show countT 11 5 0 1 n = _
    unfold countT takeP
    simp only [show (5 : Int).toNat = 5 from rfl, show (11 : Int).toNat = 11 from rfl, Int.reducePow]
    omega
  rw [e]
  clear e
  have e3 : ∀ x, bits .and .i64 x 31 = x % 32 := fun x => and_mask x 5 (by omega)
  have b0 : 0 ≤ n / 2048 % 32 ∧ n / 2048 % 32 < 32 := by omega
  obtain ⟨b0, b1⟩ := b0
  have Ln : ∀ W, Calls Tryd.prog 36 #[.string ⟨#[66]⟩, .int .i64 n] W fun e w' => W = w' ∧ e = .returned (.int .i64 (n / 2048 % 32)) := by
    intro W
    go_enter Tryd.func36, Tryd.ntmps36
    go_wp2
    go_ret
    first | exact ⟨rfl, rfl⟩ | exact ⟨rfl, by simp [e3]⟩
  go_enter Tryd.func26, Tryd.ntmps26
  go_wp2_with (go_at_call 36; refine (Ln _).mono ?_; rintro e w' ⟨rfl, rfl⟩)
  go_ret
  exact ⟨rfl, rfl⟩

set_option maxHeartbeats 800000 in
theorem take_S16 (n : Int) (n0 : 0 ≤ n) (n1 : n < 4294967296) (w : World) : Calls Tryd.prog 26 #[.string ⟨#[83, 49, 54]⟩, .int .i64 n] w fun e w' => w = w' ∧ e = .returned (.int .i64 (K.tell .kS16 n)) := by
  have e : K.tell .kS16 n = signP n 16 := by
    show signT 0 16 1 n = _
    unfold signT takeP signP
    simp only [show (16 : Int).toNat = 16 from rfl, show (0 : Int).toNat = 0 from rfl, Int.reducePow]
    omega
  rw [e]
  clear e
  have S := fun W => refSign_any (n) 16 (by omega) (by omega) W
  have sb := signP_bounds (n) 16 (by omega)
  obtain ⟨sb0, sb1⟩ := sb
  generalize signP (n) 16 = r at *
  have Ln : ∀ W, Calls Tryd.prog 36 #[.string ⟨#[83, 49, 54]⟩, .int .i64 n] W fun e w' => W = w' ∧ e = .returned (.int .i64 (r)) := by
    intro W
    go_enter Tryd.func36, Tryd.ntmps36
    go_wp2_with (go_at_call 35; refine (S _).mono ?_; rintro e w' ⟨rfl, rfl⟩)
    go_ret
    exact ⟨rfl, rfl⟩
  go_enter Tryd.func26, Tryd.ntmps26
  go_wp2_with (go_at_call 36; refine (Ln _).mono ?_; rintro e w' ⟨rfl, rfl⟩)
  go_ret
  exact ⟨rfl, rfl⟩

set_option maxHeartbeats 800000 in
theorem take_L20 (n : Int) (n0 : 0 ≤ n) (n1 : n < 4294967296) (w : World) : Calls Tryd.prog 26 #[.string ⟨#[76, 50, 48]⟩, .int .i64 n] w fun e w' => w = w' ∧ e = .returned (.int .i64 (K.tell .kL20 n)) := by
  have e : K.tell .kL20 n = signP (n / 2048 % 16 * 65536 + n / 65536 % 32 * 2048 + n % 2048) 20 := by
    show splitT 11 4 16 5 0 11 n = _
    unfold splitT takeP
    simp only [show (4 : Int).toNat = 4 from rfl, show (11 : Int).toNat = 11 from rfl, show (16 : Int).toNat = 16 from rfl, show (5 : Int).toNat = 5 from rfl, show (0 : Int).toNat = 0 from rfl, Int.reducePow, Int.ediv_one]
  rw [e]
  clear e
  have J := fun W => refJoined_any (n / 2048 % 16) (n / 65536 % 32) (n % 2048) (by omega) (by omega) (by omega) (by omega) (by omega) (by omega) W
  have e1 : ∀ x, bits .and .i64 x 15 = x % 16 := fun x => and_mask x 4 (by omega)
  have e2 : ∀ x, bits .and .i64 x 31 = x % 32 := fun x => and_mask x 5 (by omega)
  have e3 : ∀ x, bits .and .i64 x 2047 = x % 2048 := fun x => and_mask x 11 (by omega)
  generalize signP (n / 2048 % 16 * 65536 + n / 65536 % 32 * 2048 + n % 2048) 20 = r at *
  have Ln : ∀ W, Calls Tryd.prog 36 #[.string ⟨#[76, 50, 48]⟩, .int .i64 n] W fun e w' => W = w' ∧ e = .returned (.int .i64 (r)) := by
    intro W
    go_enter Tryd.func36, Tryd.ntmps36
    go_wp2_with (go_at_call 53; refine (J _).mono ?_; rintro e w' ⟨rfl, rfl⟩)
    go_ret
    exact ⟨rfl, rfl⟩
  go_enter Tryd.func26, Tryd.ntmps26
  go_wp2_with (go_at_call 36; refine (Ln _).mono ?_; rintro e w' ⟨rfl, rfl⟩)
  go_ret
  exact ⟨rfl, rfl⟩

set_option maxHeartbeats 800000 in
theorem take_C8 (n : Int) (n0 : 0 ≤ n) (n1 : n < 4294967296) (w : World) : Calls Tryd.prog 26 #[.string ⟨#[67, 56]⟩, .int .i64 n] w fun e w' => w = w' ∧ e = .returned (.int .i64 (K.tell .kC8 n)) := by
  have e : K.tell .kC8 n = backP (n / 1024 % 2) (n / 256 % 4) (n % 256) := by
    show sciT 10 1 8 2 0 8 n = _
    unfold sciT takeP
    simp only [show (1 : Int).toNat = 1 from rfl, show (10 : Int).toNat = 10 from rfl, show (8 : Int).toNat = 8 from rfl, show (2 : Int).toNat = 2 from rfl, show (0 : Int).toNat = 0 from rfl, Int.reducePow, Int.ediv_one]
  rw [e]
  clear e
  have Bk := fun W => refBack_any (n / 1024 % 2) (n / 256 % 4) (n % 256) (by omega) (by omega) (by omega) (by omega) (by omega) (by omega) W
  have e1 : ∀ x, bits .and .i64 x 1 = x % 2 := fun x => and_mask x 1 (by omega)
  have e2 : ∀ x, bits .and .i64 x 3 = x % 4 := fun x => and_mask x 2 (by omega)
  have e3 : ∀ x, bits .and .i64 x 255 = x % 256 := fun x => and_mask x 8 (by omega)
  generalize backP (n / 1024 % 2) (n / 256 % 4) (n % 256) = r at *
  have Ln : ∀ W, Calls Tryd.prog 36 #[.string ⟨#[67, 56]⟩, .int .i64 n] W fun e w' => W = w' ∧ e = .returned (.int .i64 (r)) := by
    intro W
    go_enter Tryd.func36, Tryd.ntmps36
    go_wp2_with (go_at_call 54; refine (Bk _).mono ?_; rintro e w' ⟨rfl, rfl⟩)
    go_ret
    exact ⟨rfl, rfl⟩
  go_enter Tryd.func26, Tryd.ntmps26
  go_wp2_with (go_at_call 36; refine (Ln _).mono ?_; rintro e w' ⟨rfl, rfl⟩)
  go_ret
  exact ⟨rfl, rfl⟩

set_option maxHeartbeats 800000 in
theorem take_O2 (n : Int) (n0 : 0 ≤ n) (n1 : n < 4294967296) (w : World) : Calls Tryd.prog 26 #[.string ⟨#[79, 50]⟩, .int .i64 n] w fun e w' => w = w' ∧ e = .returned (.int .i64 (K.tell .kO2 n)) := by
  have e : K.tell .kO2 n = n / 1048576 % 4 := by
    show countT 20 2 0 1 n = _
    unfold countT takeP
    simp only [show (2 : Int).toNat = 2 from rfl, show (20 : Int).toNat = 20 from rfl, Int.reducePow]
    omega
  rw [e]
  clear e
  have e3 : ∀ x, bits .and .i64 x 3 = x % 4 := fun x => and_mask x 2 (by omega)
  have b0 : 0 ≤ n / 1048576 % 4 ∧ n / 1048576 % 4 < 4 := by omega
  obtain ⟨b0, b1⟩ := b0
  have Ln : ∀ W, Calls Tryd.prog 36 #[.string ⟨#[79, 50]⟩, .int .i64 n] W fun e w' => W = w' ∧ e = .returned (.int .i64 (n / 1048576 % 4)) := by
    intro W
    go_enter Tryd.func36, Tryd.ntmps36
    go_wp2
    go_ret
    first | exact ⟨rfl, rfl⟩ | exact ⟨rfl, by simp [e3]⟩
  go_enter Tryd.func26, Tryd.ntmps26
  go_wp2_with (go_at_call 36; refine (Ln _).mono ?_; rintro e w' ⟨rfl, rfl⟩)
  go_ret
  exact ⟨rfl, rfl⟩

set_option maxHeartbeats 800000 in
theorem take_I4 (n : Int) (n0 : 0 ≤ n) (n1 : n < 4294967296) (w : World) : Calls Tryd.prog 26 #[.string ⟨#[73, 52]⟩, .int .i64 n] w fun e w' => w = w' ∧ e = .returned (.int .i64 (K.tell .kI4 n)) := by
  have e : K.tell .kI4 n = n / 65536 % 16 := by
    show countT 16 4 0 1 n = _
    unfold countT takeP
    simp only [show (4 : Int).toNat = 4 from rfl, show (16 : Int).toNat = 16 from rfl, Int.reducePow]
    omega
  rw [e]
  clear e
  have e3 : ∀ x, bits .and .i64 x 15 = x % 16 := fun x => and_mask x 4 (by omega)
  have b0 : 0 ≤ n / 65536 % 16 ∧ n / 65536 % 16 < 16 := by omega
  obtain ⟨b0, b1⟩ := b0
  have Ln : ∀ W, Calls Tryd.prog 36 #[.string ⟨#[73, 52]⟩, .int .i64 n] W fun e w' => W = w' ∧ e = .returned (.int .i64 (n / 65536 % 16)) := by
    intro W
    go_enter Tryd.func36, Tryd.ntmps36
    go_wp2
    go_ret
    first | exact ⟨rfl, rfl⟩ | exact ⟨rfl, by simp [e3]⟩
  go_enter Tryd.func26, Tryd.ntmps26
  go_wp2_with (go_at_call 36; refine (Ln _).mono ?_; rintro e w' ⟨rfl, rfl⟩)
  go_ret
  exact ⟨rfl, rfl⟩

set_option maxHeartbeats 800000 in
theorem take_T15 (n : Int) (n0 : 0 ≤ n) (n1 : n < 4294967296) (w : World) : Calls Tryd.prog 26 #[.string ⟨#[84, 49, 53]⟩, .int .i64 n] w fun e w' => w = w' ∧ e = .returned (.int .i64 (K.tell .kT15 n)) := by
  have e : K.tell .kT15 n = signP (n % 65536 - n % 2) 16 := by
    show signT 1 15 2 n = _
    unfold signT takeP signP
    simp only [show (15 : Int).toNat = 15 from rfl, show (1 : Int).toNat = 1 from rfl, Int.reducePow]
    omega
  rw [e]
  clear e
  have S := fun W => refSign_any ((n % 65536 - n % 2)) 16 (by omega) (by omega) W
  have sb := signP_bounds ((n % 65536 - n % 2)) 16 (by omega)
  obtain ⟨sb0, sb1⟩ := sb
  have e3 : bits .and .i64 n 65534 = (n % 65536 - n % 2) := by
    exact and_15 n n0 n1
  generalize signP ((n % 65536 - n % 2)) 16 = r at *
  have Ln : ∀ W, Calls Tryd.prog 36 #[.string ⟨#[84, 49, 53]⟩, .int .i64 n] W fun e w' => W = w' ∧ e = .returned (.int .i64 (r)) := by
    intro W
    go_enter Tryd.func36, Tryd.ntmps36
    go_wp2_with (go_at_call 35; refine (S _).mono ?_; rintro e w' ⟨rfl, rfl⟩)
    go_ret
    exact ⟨rfl, rfl⟩
  go_enter Tryd.func26, Tryd.ntmps26
  go_wp2_with (go_at_call 36; refine (Ln _).mono ?_; rintro e w' ⟨rfl, rfl⟩)
  go_ret
  exact ⟨rfl, rfl⟩

set_option maxHeartbeats 800000 in
theorem take_T24 (n : Int) (n0 : 0 ≤ n) (n1 : n < 4294967296) (w : World) : Calls Tryd.prog 26 #[.string ⟨#[84, 50, 52]⟩, .int .i64 n] w fun e w' => w = w' ∧ e = .returned (.int .i64 (K.tell .kT24 n)) := by
  have e : K.tell .kT24 n = signP (n % 33554432 - n % 2) 25 := by
    show signT 1 24 2 n = _
    unfold signT takeP signP
    simp only [show (24 : Int).toNat = 24 from rfl, show (1 : Int).toNat = 1 from rfl, Int.reducePow]
    omega
  rw [e]
  clear e
  have S := fun W => refSign_any ((n % 33554432 - n % 2)) 25 (by omega) (by omega) W
  have sb := signP_bounds ((n % 33554432 - n % 2)) 25 (by omega)
  obtain ⟨sb0, sb1⟩ := sb
  have e3 : bits .and .i64 n 33554430 = (n % 33554432 - n % 2) := by
    exact and_24 n n0 n1
  generalize signP ((n % 33554432 - n % 2)) 25 = r at *
  have Ln : ∀ W, Calls Tryd.prog 36 #[.string ⟨#[84, 50, 52]⟩, .int .i64 n] W fun e w' => W = w' ∧ e = .returned (.int .i64 (r)) := by
    intro W
    go_enter Tryd.func36, Tryd.ntmps36
    go_wp2_with (go_at_call 35; refine (S _).mono ?_; rintro e w' ⟨rfl, rfl⟩)
    go_ret
    exact ⟨rfl, rfl⟩
  go_enter Tryd.func26, Tryd.ntmps26
  go_wp2_with (go_at_call 36; refine (Ln _).mono ?_; rintro e w' ⟨rfl, rfl⟩)
  go_ret
  exact ⟨rfl, rfl⟩

theorem take_any' (k : K) (n : Int) (n0 : 0 ≤ n) (n1 : n < 4294967296) (w : World) :
    Calls Tryd.prog 26 #[.string ⟨k.name.toArray⟩, .int .i64 n] w fun e w' => w = w' ∧ e = .returned (.int .i64 (k.tell n)) := by
  cases k
  · exact take_X n n0 n1 w
  · exact take_Y n n0 n1 w
  · exact take_U5 n n0 n1 w
  · exact take_U7 n n0 n1 w
  · exact take_O5 n n0 n1 w
  · exact take_M1 n n0 n1 w
  · exact take_M2 n n0 n1 w
  · exact take_M4 n n0 n1 w
  · exact take_O1 n n0 n1 w
  · exact take_I2 n n0 n1 w
  · exact take_T8 n n0 n1 w
  · exact take_D n n0 n1 w
  · exact take_A n n0 n1 w
  · exact take_B n n0 n1 w
  · exact take_S16 n n0 n1 w
  · exact take_L20 n n0 n1 w
  · exact take_C8 n n0 n1 w
  · exact take_O2 n n0 n1 w
  · exact take_I4 n n0 n1 w
  · exact take_T15 n n0 n1 w
  · exact take_T24 n n0 n1 w
end Go.Proofs.YtnmclpphiajleaaDoor
