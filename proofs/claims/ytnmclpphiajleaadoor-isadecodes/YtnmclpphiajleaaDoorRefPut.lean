/- The contract of the reference's put: an operand's bits, where it may be. -/
import Derived.Test.YtnmclpphiajleaaDoorRefMay
import Derived.Test.YtnmclpphiajleaaDoorThere
namespace Go.Proofs.YtnmclpphiajleaaDoor
open Go.ChangeShapes Go.WideShapes Go.ChangeAt Go.RowKit
open Plain
set_option linter.unusedVariables false
set_option linter.unusedSimpArgs false

theorem four_any (v : Int) (h0 : 0 ≤ v) (h1 : v ≤ 31) (w : World) : Calls Tryd.prog 30 #[.int .i64 v] w fun e w' => w = w' ∧ e = .returned (.int .i64 (if v < 8 then v else v - 16)) := by
  by_cases h : v < 8
  · have h' : ¬ 7 < v := by omega
    rw [if_pos h]
    go_enter Tryd.func30, Tryd.ntmps30
    go_wp2
    go_ret
    exact ⟨rfl, rfl⟩
  · have h' : 7 < v := by omega
    rw [if_neg h]
    go_enter Tryd.func30, Tryd.ntmps30
    go_wp2
    go_ret
    exact ⟨rfl, rfl⟩

theorem tdiv_even (v s : Int) (hs : 0 < s) (h : v % s = 0) : v.tdiv s = v / s := by
  rcases tdiv_cases v s hs with ⟨_, e⟩ | ⟨_, e⟩
  · exact e
  · rw [e]
    have hd : s ∣ v := Int.dvd_of_emod_eq_zero h
    obtain ⟨q, rfl⟩ := hd
    have hn : s ≠ 0 := by omega
    rw [Int.mul_ediv_cancel_left _ hn, ← Int.mul_neg, Int.mul_ediv_cancel_left _ hn, Int.neg_neg]

theorem bits_or_i64_nat (a b : Nat) (ha : a < 4294967296) (hb : b < 4294967296) : bits .or .i64 (a : Int) (b : Int) = ((a ||| b : Nat) : Int) := by
  have hx : a ||| b < 2 ^ 32 := Nat.or_lt_two_pow (by omega) (by omega)
  have h1 : (BitVec.ofInt 64 (a : Int)).toNat = a := by
    rw [BitVec.ofInt_natCast, BitVec.toNat_ofNat]; exact Nat.mod_eq_of_lt (by omega)
  have h2 : (BitVec.ofInt 64 (b : Int)).toNat = b := by
    rw [BitVec.ofInt_natCast, BitVec.toNat_ofNat]; exact Nat.mod_eq_of_lt (by omega)
  show IntKind.i64.wrap ((BitVec.ofInt 64 (a : Int) ||| BitVec.ofInt 64 (b : Int)).toNat : Int) = _
  rw [BitVec.toNat_or, h1, h2, IntKind.wrap_i64]
  omega

theorem or_i64_u32 (a b : Int) (a0 : 0 ≤ a) (a1 : a < 4294967296) (b0 : 0 ≤ b) (b1 : b < 4294967296) : bits .or .i64 a b = bits .or .u32 a b ∧ 0 ≤ bits .or .u32 a b ∧ bits .or .u32 a b < 4294967296 := by
  obtain ⟨x, rfl⟩ := Int.eq_ofNat_of_zero_le a0
  obtain ⟨y, rfl⟩ := Int.eq_ofNat_of_zero_le b0
  rw [bits_or_i64_nat x y (by omega) (by omega), bits_or_u32_nat x y (by omega) (by omega)]
  have hx : x ||| y < 2 ^ 32 := Nat.or_lt_two_pow (by omega) (by omega)
  exact ⟨rfl, by omega, by omega⟩

theorem putP_in (f b n : Nat) (x : Int) (x0 : 0 ≤ x) (x1 : x < 2 ^ b) (hn : 2 ^ f = n) : putP f b x = x * n := by
  unfold putP
  rw [Int.toNat_natCast, Int.toNat_natCast, Int.emod_eq_of_lt x0 x1, ← hn]
  push_cast
  rfl

theorem or3 (a b c : Int) (a0 : 0 ≤ a) (a1 : a < 4294967296) (b0 : 0 ≤ b) (b1 : b < 4294967296) (c0 : 0 ≤ c) (c1 : c < 4294967296) : bits .or .i64 (bits .or .i64 a b) c = bits .or .u32 (bits .or .u32 a b) c := by
  obtain ⟨e, h0, h1⟩ := or_i64_u32 a b a0 a1 b0 b1
  rw [e]
  exact (or_i64_u32 _ c h0 h1 c0 c1).1

set_option maxHeartbeats 800000 in
theorem put_X (v : Int) (h : (K.code .kX v).2 = true) (w : World) : Calls Tryd.prog 19 #[.string ⟨#[88]⟩, .int .i64 v] w fun e w' => w = w' ∧ e = .returned (.int .i64 (K.code .kX v).1) := by
  have hc : ((0 ≤ v ∧ v < 8) ∨ (24 ≤ v ∧ v < 32)) ∧ (K.code .kX v).1 = (if v < 8 then v else v - 16) := by
    change (regC 0 4 v).2 = true at h
    change _ ∧ (regC 0 4 v).1 = _
    unfold regC at h ⊢
    split at h
    · rename_i hc
      rw [if_pos hc, if_pos hc.2]
      refine ⟨.inl hc, ?_⟩
      unfold putP
      simp only [show (4 : Int).toNat = 4 from rfl, show (0 : Int).toNat = 0 from rfl, Int.reducePow]
      omega
    · split at h
      · rename_i hn hc
        rw [if_neg hn, if_pos hc, if_neg (by omega)]
        refine ⟨.inr hc, ?_⟩
        unfold putP
        simp only [show (4 : Int).toNat = 4 from rfl, show (0 : Int).toNat = 0 from rfl, Int.reducePow]
        omega
      · cases h
  obtain ⟨h0, e⟩ := hc
  rw [e]
  clear e h
  have F := fun W => four_any v (by omega) (by omega) W
  have hr : 0 ≤ (if v < 8 then v else v - 16) ∧ (if v < 8 then v else v - 16) < 16 := by split <;> omega
  obtain ⟨hr0, hr1⟩ := hr
  generalize (if v < 8 then v else v - 16) = r at *
  clear h0
  go_enter Tryd.func19, Tryd.ntmps19
  go_wp2_with (go_at_call 30; refine (F _).mono ?_; rintro e w' ⟨rfl, rfl⟩)
  go_ret
  exact ⟨rfl, rfl⟩

set_option maxHeartbeats 800000 in
theorem put_Y (v : Int) (h : (K.code .kY v).2 = true) (w : World) : Calls Tryd.prog 19 #[.string ⟨#[89]⟩, .int .i64 v] w fun e w' => w = w' ∧ e = .returned (.int .i64 (K.code .kY v).1) := by
  have hc : ((0 ≤ v ∧ v < 8) ∨ (24 ≤ v ∧ v < 32)) ∧ (K.code .kY v).1 = (if v < 8 then v else v - 16) * 16 := by
    change (regC 4 4 v).2 = true at h
    change _ ∧ (regC 4 4 v).1 = _
    unfold regC at h ⊢
    split at h
    · rename_i hc
      rw [if_pos hc, if_pos hc.2]
      refine ⟨.inl hc, ?_⟩
      unfold putP
      simp only [show (4 : Int).toNat = 4 from rfl, show (4 : Int).toNat = 4 from rfl, Int.reducePow]
      omega
    · split at h
      · rename_i hn hc
        rw [if_neg hn, if_pos hc, if_neg (by omega)]
        refine ⟨.inr hc, ?_⟩
        unfold putP
        simp only [show (4 : Int).toNat = 4 from rfl, show (4 : Int).toNat = 4 from rfl, Int.reducePow]
        omega
      · cases h
  obtain ⟨h0, e⟩ := hc
  rw [e]
  clear e h
  have F := fun W => four_any v (by omega) (by omega) W
  have hr : 0 ≤ (if v < 8 then v else v - 16) ∧ (if v < 8 then v else v - 16) < 16 := by split <;> omega
  obtain ⟨hr0, hr1⟩ := hr
  generalize (if v < 8 then v else v - 16) = r at *
  clear h0
  go_enter Tryd.func19, Tryd.ntmps19
  go_wp2_with (go_at_call 30; refine (F _).mono ?_; rintro e w' ⟨rfl, rfl⟩)
  go_ret
  exact ⟨rfl, rfl⟩

set_option maxHeartbeats 800000 in
theorem put_U5 (v : Int) (h : (K.code .kU5 v).2 = true) (w : World) : Calls Tryd.prog 19 #[.string ⟨#[85, 53]⟩, .int .i64 v] w fun e w' => w = w' ∧ e = .returned (.int .i64 (K.code .kU5 v).1) := by
  have hc : (0 ≤ v ∧ v < 32 ∧ (v - 0) % 1 = 0) ∧ (K.code .kU5 v).1 = v * 16 := by
    change (countC 4 5 0 1 v).2 = true at h
    change _ ∧ (countC 4 5 0 1 v).1 = _
    unfold countC at h ⊢
    split at h
    · rename_i hc
      rw [if_pos hc]
      simp only [show (5 : Int).toNat = 5 from rfl, Int.reducePow] at hc
      refine ⟨by omega, ?_⟩
      unfold putP
      simp only [show (5 : Int).toNat = 5 from rfl, show (4 : Int).toNat = 4 from rfl, Int.reducePow]
      omega
    · cases h
  obtain ⟨⟨h0, h1, h2⟩, e⟩ := hc
  rw [e]
  clear e h
  go_enter Tryd.func19, Tryd.ntmps19
  go_wp2
  go_ret
  exact ⟨rfl, rfl⟩

set_option maxHeartbeats 800000 in
theorem put_U7 (v : Int) (h : (K.code .kU7 v).2 = true) (w : World) : Calls Tryd.prog 19 #[.string ⟨#[85, 55]⟩, .int .i64 v] w fun e w' => w = w' ∧ e = .returned (.int .i64 (K.code .kU7 v).1) := by
  have hc : (0 ≤ v ∧ v < 128 ∧ (v - 0) % 1 = 0) ∧ (K.code .kU7 v).1 = v * 16 := by
    change (countC 4 7 0 1 v).2 = true at h
    change _ ∧ (countC 4 7 0 1 v).1 = _
    unfold countC at h ⊢
    split at h
    · rename_i hc
      rw [if_pos hc]
      simp only [show (7 : Int).toNat = 7 from rfl, Int.reducePow] at hc
      refine ⟨by omega, ?_⟩
      unfold putP
      simp only [show (7 : Int).toNat = 7 from rfl, show (4 : Int).toNat = 4 from rfl, Int.reducePow]
      omega
    · cases h
  obtain ⟨⟨h0, h1, h2⟩, e⟩ := hc
  rw [e]
  clear e h
  go_enter Tryd.func19, Tryd.ntmps19
  go_wp2
  go_ret
  exact ⟨rfl, rfl⟩

set_option maxHeartbeats 800000 in
theorem put_O5 (v : Int) (h : (K.code .kO5 v).2 = true) (w : World) : Calls Tryd.prog 19 #[.string ⟨#[79, 53]⟩, .int .i64 v] w fun e w' => w = w' ∧ e = .returned (.int .i64 (K.code .kO5 v).1) := by
  have hc : (1 ≤ v ∧ v < 33 ∧ (v - 1) % 1 = 0) ∧ (K.code .kO5 v).1 = (v - 1) * 16 := by
    change (countC 4 5 1 1 v).2 = true at h
    change _ ∧ (countC 4 5 1 1 v).1 = _
    unfold countC at h ⊢
    split at h
    · rename_i hc
      rw [if_pos hc]
      simp only [show (5 : Int).toNat = 5 from rfl, Int.reducePow] at hc
      refine ⟨by omega, ?_⟩
      unfold putP
      simp only [show (5 : Int).toNat = 5 from rfl, show (4 : Int).toNat = 4 from rfl, Int.reducePow]
      omega
    · cases h
  obtain ⟨⟨h0, h1, h2⟩, e⟩ := hc
  rw [e]
  clear e h
  go_enter Tryd.func19, Tryd.ntmps19
  go_wp2
  go_ret
  exact ⟨rfl, rfl⟩

set_option maxHeartbeats 800000 in
theorem put_M1 (v : Int) (h : (K.code .kM1 v).2 = true) (w : World) : Calls Tryd.prog 19 #[.string ⟨#[77, 49]⟩, .int .i64 v] w fun e w' => w = w' ∧ e = .returned (.int .i64 (K.code .kM1 v).1) := by
  have hc : (0 ≤ v ∧ v < 16 ∧ (v - 0) % 1 = 0) ∧ (K.code .kM1 v).1 = v * 256 := by
    change (countC 8 4 0 1 v).2 = true at h
    change _ ∧ (countC 8 4 0 1 v).1 = _
    unfold countC at h ⊢
    split at h
    · rename_i hc
      rw [if_pos hc]
      simp only [show (4 : Int).toNat = 4 from rfl, Int.reducePow] at hc
      refine ⟨by omega, ?_⟩
      unfold putP
      simp only [show (4 : Int).toNat = 4 from rfl, show (8 : Int).toNat = 8 from rfl, Int.reducePow]
      omega
    · cases h
  obtain ⟨⟨h0, h1, h2⟩, e⟩ := hc
  rw [e]
  clear e h
  go_enter Tryd.func19, Tryd.ntmps19
  go_wp2
  go_ret
  exact ⟨rfl, rfl⟩

set_option maxHeartbeats 800000 in
theorem put_M2 (v : Int) (h : (K.code .kM2 v).2 = true) (w : World) : Calls Tryd.prog 19 #[.string ⟨#[77, 50]⟩, .int .i64 v] w fun e w' => w = w' ∧ e = .returned (.int .i64 (K.code .kM2 v).1) := by
  have hc : (0 ≤ v ∧ v < 32 ∧ (v - 0) % 2 = 0) ∧ (K.code .kM2 v).1 = v / 2 * 256 := by
    change (countC 8 4 0 2 v).2 = true at h
    change _ ∧ (countC 8 4 0 2 v).1 = _
    unfold countC at h ⊢
    split at h
    · rename_i hc
      rw [if_pos hc]
      simp only [show (4 : Int).toNat = 4 from rfl, Int.reducePow] at hc
      refine ⟨by omega, ?_⟩
      unfold putP
      simp only [show (4 : Int).toNat = 4 from rfl, show (8 : Int).toNat = 8 from rfl, Int.reducePow]
      omega
    · cases h
  obtain ⟨⟨h0, h1, h2⟩, e⟩ := hc
  rw [e]
  clear e h
  have e2 : v.tdiv 2 = v / 2 := tdiv_even v 2 (by omega) (by omega)
  have e3 : 0 ≤ v / 2 ∧ v / 2 < 16 := by omega
  obtain ⟨e3, e4⟩ := e3
  go_enter Tryd.func19, Tryd.ntmps19
  go_wp2
  go_ret
  exact ⟨rfl, rfl⟩

set_option maxHeartbeats 800000 in
theorem put_M4 (v : Int) (h : (K.code .kM4 v).2 = true) (w : World) : Calls Tryd.prog 19 #[.string ⟨#[77, 52]⟩, .int .i64 v] w fun e w' => w = w' ∧ e = .returned (.int .i64 (K.code .kM4 v).1) := by
  have hc : (0 ≤ v ∧ v < 64 ∧ (v - 0) % 4 = 0) ∧ (K.code .kM4 v).1 = v / 4 * 256 := by
    change (countC 8 4 0 4 v).2 = true at h
    change _ ∧ (countC 8 4 0 4 v).1 = _
    unfold countC at h ⊢
    split at h
    · rename_i hc
      rw [if_pos hc]
      simp only [show (4 : Int).toNat = 4 from rfl, Int.reducePow] at hc
      refine ⟨by omega, ?_⟩
      unfold putP
      simp only [show (4 : Int).toNat = 4 from rfl, show (8 : Int).toNat = 8 from rfl, Int.reducePow]
      omega
    · cases h
  obtain ⟨⟨h0, h1, h2⟩, e⟩ := hc
  rw [e]
  clear e h
  have e2 : v.tdiv 4 = v / 4 := tdiv_even v 4 (by omega) (by omega)
  have e3 : 0 ≤ v / 4 ∧ v / 4 < 16 := by omega
  obtain ⟨e3, e4⟩ := e3
  go_enter Tryd.func19, Tryd.ntmps19
  go_wp2
  go_ret
  exact ⟨rfl, rfl⟩

set_option maxHeartbeats 800000 in
theorem put_O1 (v : Int) (h : (K.code .kO1 v).2 = true) (w : World) : Calls Tryd.prog 19 #[.string ⟨#[79, 49]⟩, .int .i64 v] w fun e w' => w = w' ∧ e = .returned (.int .i64 (K.code .kO1 v).1) := by
  have hc : (0 ≤ v ∧ v < 2 ∧ (v - 0) % 1 = 0) ∧ (K.code .kO1 v).1 = v * 1024 := by
    change (countC 10 1 0 1 v).2 = true at h
    change _ ∧ (countC 10 1 0 1 v).1 = _
    unfold countC at h ⊢
    split at h
    · rename_i hc
      rw [if_pos hc]
      simp only [show (1 : Int).toNat = 1 from rfl, Int.reducePow] at hc
      refine ⟨by omega, ?_⟩
      unfold putP
      simp only [show (1 : Int).toNat = 1 from rfl, show (10 : Int).toNat = 10 from rfl, Int.reducePow]
      omega
    · cases h
  obtain ⟨⟨h0, h1, h2⟩, e⟩ := hc
  rw [e]
  clear e h
  go_enter Tryd.func19, Tryd.ntmps19
  go_wp2
  go_ret
  exact ⟨rfl, rfl⟩

set_option maxHeartbeats 800000 in
theorem put_I2 (v : Int) (h : (K.code .kI2 v).2 = true) (w : World) : Calls Tryd.prog 19 #[.string ⟨#[73, 50]⟩, .int .i64 v] w fun e w' => w = w' ∧ e = .returned (.int .i64 (K.code .kI2 v).1) := by
  have hc : (0 ≤ v ∧ v < 4 ∧ (v - 0) % 1 = 0) ∧ (K.code .kI2 v).1 = v * 256 := by
    change (countC 8 2 0 1 v).2 = true at h
    change _ ∧ (countC 8 2 0 1 v).1 = _
    unfold countC at h ⊢
    split at h
    · rename_i hc
      rw [if_pos hc]
      simp only [show (2 : Int).toNat = 2 from rfl, Int.reducePow] at hc
      refine ⟨by omega, ?_⟩
      unfold putP
      simp only [show (2 : Int).toNat = 2 from rfl, show (8 : Int).toNat = 8 from rfl, Int.reducePow]
      omega
    · cases h
  obtain ⟨⟨h0, h1, h2⟩, e⟩ := hc
  rw [e]
  clear e h
  go_enter Tryd.func19, Tryd.ntmps19
  go_wp2
  go_ret
  exact ⟨rfl, rfl⟩

set_option maxHeartbeats 800000 in
theorem put_T8 (v : Int) (h : (K.code .kT8 v).2 = true) (w : World) : Calls Tryd.prog 19 #[.string ⟨#[84, 56]⟩, .int .i64 v] w fun e w' => w = w' ∧ e = .returned (.int .i64 (K.code .kT8 v).1) := by
  have hc : (-256 ≤ v ∧ v < 256 ∧ v % 2 = 0) ∧ (K.code .kT8 v).1 = v / 2 % 256 := by
    change (signC 0 8 2 v).2 = true at h
    change _ ∧ (signC 0 8 2 v).1 = _
    unfold signC at h ⊢
    split at h
    · rename_i hc
      rw [if_pos hc]
      have hf := hc.2
      unfold fitsP at hf
      simp only [show (8 : Int).toNat = 8 from rfl, Nat.reduceSub, Int.reducePow, Bool.and_eq_true, decide_eq_true_eq] at hf
      refine ⟨by omega, ?_⟩
      unfold putP
      simp only [show (8 : Int).toNat = 8 from rfl, show (0 : Int).toNat = 0 from rfl, Int.reducePow]
      omega
    · cases h
  obtain ⟨⟨h0, h1, h2⟩, e⟩ := hc
  rw [e]
  clear e h
  have e2 : v.tdiv 2 = v / 2 := tdiv_even v 2 (by omega) (by omega)
  have e3 : ∀ x, bits .and .i64 x 255 = x % 256 := fun x => and_mask x 8 (by omega)
  go_enter Tryd.func19, Tryd.ntmps19
  go_wp2
  go_ret
  first | exact ⟨rfl, rfl⟩ | exact ⟨rfl, by simp [e3]⟩

set_option maxHeartbeats 800000 in
theorem put_D (v : Int) (h : (K.code .kD v).2 = true) (w : World) : Calls Tryd.prog 19 #[.string ⟨#[68]⟩, .int .i64 v] w fun e w' => w = w' ∧ e = .returned (.int .i64 (K.code .kD v).1) := by
  have hc : (0 ≤ v ∧ v < 32 ∧ (v - 0) % 1 = 0) ∧ (K.code .kD v).1 = v * 2097152 := by
    change (countC 21 5 0 1 v).2 = true at h
    change _ ∧ (countC 21 5 0 1 v).1 = _
    unfold countC at h ⊢
    split at h
    · rename_i hc
      rw [if_pos hc]
      simp only [show (5 : Int).toNat = 5 from rfl, Int.reducePow] at hc
      refine ⟨by omega, ?_⟩
      unfold putP
      simp only [show (5 : Int).toNat = 5 from rfl, show (21 : Int).toNat = 21 from rfl, Int.reducePow]
      omega
    · cases h
  obtain ⟨⟨h0, h1, h2⟩, e⟩ := hc
  rw [e]
  clear e h
  have Ln : ∀ W, Calls Tryd.prog 31 #[.string ⟨#[68]⟩, .int .i64 v] W fun e w' => W = w' ∧ e = .returned (.int .i64 (v * 2097152)) := by
    intro W
    go_enter Tryd.func31, Tryd.ntmps31
    go_wp2
    go_ret
    exact ⟨rfl, rfl⟩
  go_enter Tryd.func19, Tryd.ntmps19
  go_wp2_with (go_at_call 31; refine (Ln _).mono ?_; rintro e w' ⟨rfl, rfl⟩)
  go_ret
  exact ⟨rfl, rfl⟩

set_option maxHeartbeats 800000 in
theorem put_A (v : Int) (h : (K.code .kA v).2 = true) (w : World) : Calls Tryd.prog 19 #[.string ⟨#[65]⟩, .int .i64 v] w fun e w' => w = w' ∧ e = .returned (.int .i64 (K.code .kA v).1) := by
  have hc : (0 ≤ v ∧ v < 32 ∧ (v - 0) % 1 = 0) ∧ (K.code .kA v).1 = v * 65536 := by
    change (countC 16 5 0 1 v).2 = true at h
    change _ ∧ (countC 16 5 0 1 v).1 = _
    unfold countC at h ⊢
    split at h
    · rename_i hc
      rw [if_pos hc]
      simp only [show (5 : Int).toNat = 5 from rfl, Int.reducePow] at hc
      refine ⟨by omega, ?_⟩
      unfold putP
      simp only [show (5 : Int).toNat = 5 from rfl, show (16 : Int).toNat = 16 from rfl, Int.reducePow]
      omega
    · cases h
  obtain ⟨⟨h0, h1, h2⟩, e⟩ := hc
  rw [e]
  clear e h
  have Ln : ∀ W, Calls Tryd.prog 31 #[.string ⟨#[65]⟩, .int .i64 v] W fun e w' => W = w' ∧ e = .returned (.int .i64 (v * 65536)) := by
    intro W
    go_enter Tryd.func31, Tryd.ntmps31
    go_wp2
    go_ret
    exact ⟨rfl, rfl⟩
  go_enter Tryd.func19, Tryd.ntmps19
  go_wp2_with (go_at_call 31; refine (Ln _).mono ?_; rintro e w' ⟨rfl, rfl⟩)
  go_ret
  exact ⟨rfl, rfl⟩

set_option maxHeartbeats 800000 in
theorem put_B (v : Int) (h : (K.code .kB v).2 = true) (w : World) : Calls Tryd.prog 19 #[.string ⟨#[66]⟩, .int .i64 v] w fun e w' => w = w' ∧ e = .returned (.int .i64 (K.code .kB v).1) := by
  have hc : (0 ≤ v ∧ v < 32 ∧ (v - 0) % 1 = 0) ∧ (K.code .kB v).1 = v * 2048 := by
    change (countC 11 5 0 1 v).2 = true at h
    change _ ∧ (countC 11 5 0 1 v).1 = _
    unfold countC at h ⊢
    split at h
    · rename_i hc
      rw [if_pos hc]
      simp only [show (5 : Int).toNat = 5 from rfl, Int.reducePow] at hc
      refine ⟨by omega, ?_⟩
      unfold putP
      simp only [show (5 : Int).toNat = 5 from rfl, show (11 : Int).toNat = 11 from rfl, Int.reducePow]
      omega
    · cases h
  obtain ⟨⟨h0, h1, h2⟩, e⟩ := hc
  rw [e]
  clear e h
  have Ln : ∀ W, Calls Tryd.prog 31 #[.string ⟨#[66]⟩, .int .i64 v] W fun e w' => W = w' ∧ e = .returned (.int .i64 (v * 2048)) := by
    intro W
    go_enter Tryd.func31, Tryd.ntmps31
    go_wp2
    go_ret
    exact ⟨rfl, rfl⟩
  go_enter Tryd.func19, Tryd.ntmps19
  go_wp2_with (go_at_call 31; refine (Ln _).mono ?_; rintro e w' ⟨rfl, rfl⟩)
  go_ret
  exact ⟨rfl, rfl⟩

set_option maxHeartbeats 800000 in
theorem put_S16 (v : Int) (h : (K.code .kS16 v).2 = true) (w : World) : Calls Tryd.prog 19 #[.string ⟨#[83, 49, 54]⟩, .int .i64 v] w fun e w' => w = w' ∧ e = .returned (.int .i64 (K.code .kS16 v).1) := by
  have hc : (-32768 ≤ v ∧ v < 32768 ∧ v % 1 = 0) ∧ (K.code .kS16 v).1 = v % 65536 := by
    change (signC 0 16 1 v).2 = true at h
    change _ ∧ (signC 0 16 1 v).1 = _
    unfold signC at h ⊢
    split at h
    · rename_i hc
      rw [if_pos hc]
      have hf := hc.2
      unfold fitsP at hf
      simp only [show (16 : Int).toNat = 16 from rfl, Nat.reduceSub, Int.reducePow, Bool.and_eq_true, decide_eq_true_eq] at hf
      refine ⟨by omega, ?_⟩
      unfold putP
      simp only [show (16 : Int).toNat = 16 from rfl, show (0 : Int).toNat = 0 from rfl, Int.reducePow]
      omega
    · cases h
  obtain ⟨⟨h0, h1, h2⟩, e⟩ := hc
  rw [e]
  clear e h
  have e3 : ∀ x, bits .and .i64 x 65535 = x % 65536 := fun x => and_mask x 16 (by omega)
  have Ln : ∀ W, Calls Tryd.prog 31 #[.string ⟨#[83, 49, 54]⟩, .int .i64 v] W fun e w' => W = w' ∧ e = .returned (.int .i64 (v % 65536)) := by
    intro W
    go_enter Tryd.func31, Tryd.ntmps31
    go_wp2
    go_ret
    first | exact ⟨rfl, rfl⟩ | exact ⟨rfl, by simp [e3]⟩
  go_enter Tryd.func19, Tryd.ntmps19
  go_wp2_with (go_at_call 31; refine (Ln _).mono ?_; rintro e w' ⟨rfl, rfl⟩)
  go_ret
  exact ⟨rfl, rfl⟩

set_option maxHeartbeats 800000 in
theorem put_L20 (v : Int) (h : (K.code .kL20 v).2 = true) (w : World) : Calls Tryd.prog 19 #[.string ⟨#[76, 50, 48]⟩, .int .i64 v] w fun e w' => w = w' ∧ e = .returned (.int .i64 (K.code .kL20 v).1) := by
  have e : (K.code .kL20 v).1 = put3 11 4 16 5 0 11 (v / 65536 % 16) (v / 2048 % 32) (v % 2048) := by
    change (splitC 11 4 16 5 0 11 v).2 = true at h
    change (splitC 11 4 16 5 0 11 v).1 = _
    unfold splitC at h ⊢
    split at h
    · rename_i hc; rw [if_pos hc]
    · cases h
  rw [e]
  clear e h
  have Sp := fun W => refSplit_any v W
  have e2 : bits .or .i64 (bits .or .i64 (v / 65536 % 16 * 2048) (v / 2048 % 32 * 65536)) (v % 2048) = put3 11 4 16 5 0 11 (v / 65536 % 16) (v / 2048 % 32) (v % 2048) := by
    unfold put3
    rw [or3 _ _ _ (by omega) (by omega) (by omega) (by omega) (by omega) (by omega)]
    have p1 : putP 11 4 (v / 65536 % 16) = v / 65536 % 16 * 2048 := putP_in 11 4 2048 (v / 65536 % 16) (by omega) (by omega) rfl
    have p2 : putP 16 5 (v / 2048 % 32) = v / 2048 % 32 * 65536 := putP_in 16 5 65536 (v / 2048 % 32) (by omega) (by omega) rfl
    have p3 : putP 0 11 (v % 2048) = v % 2048 * 1 := putP_in 0 11 1 (v % 2048) (by omega) (by omega) rfl
    rw [Int.mul_one] at p3
    rw [p1, p2, p3]
  have b1 : 0 ≤ v / 65536 % 16 ∧ v / 65536 % 16 < 16 := by omega
  have b2 : 0 ≤ v / 2048 % 32 ∧ v / 2048 % 32 < 32 := by omega
  have b3 : 0 ≤ v % 2048 ∧ v % 2048 < 2048 := by omega
  obtain ⟨b1, b1'⟩ := b1
  obtain ⟨b2, b2'⟩ := b2
  obtain ⟨b3, b3'⟩ := b3
  rw [← e2]
  generalize v / 65536 % 16 = x at *
  generalize v / 2048 % 32 = y at *
  generalize v % 2048 = z at *
  clear e2
  have Ln : ∀ W, Calls Tryd.prog 31 #[.string ⟨#[76, 50, 48]⟩, .int .i64 v] W fun e w' => W = w' ∧ e = .returned (.int .i64 (bits .or .i64 (bits .or .i64 (x * 2048) (y * 65536)) z)) := by
    intro W
    go_enter Tryd.func31, Tryd.ntmps31
    go_wp2_with (go_at_call 39; refine (Sp _).mono ?_; rintro e w' ⟨rfl, rfl⟩)
    go_ret
    exact ⟨rfl, rfl⟩
  go_enter Tryd.func19, Tryd.ntmps19
  go_wp2_with (go_at_call 31; refine (Ln _).mono ?_; rintro e w' ⟨rfl, rfl⟩)
  go_ret
  exact ⟨rfl, rfl⟩

set_option maxHeartbeats 800000 in
theorem put_C8 (v : Int) (h : (K.code .kC8 v).2 = true) (w : World) : Calls Tryd.prog 19 #[.string ⟨#[67, 56]⟩, .int .i64 v] w fun e w' => w = w' ∧ e = .returned (.int .i64 (K.code .kC8 v).1) := by
  have e : (K.code .kC8 v).1 = put3 10 1 8 2 0 8 (sciP v).1 (sciP v).2.1 (sciP v).2.2.1 := rfl
  rw [e]
  clear e
  have Sc := fun W => refSci8_any v W
  have sc := sci_cases v
  have bb : 0 ≤ (sciP v).1 ∧ (sciP v).1 ≤ 1 ∧ 0 ≤ (sciP v).2.1 ∧ (sciP v).2.1 ≤ 3 ∧ 0 ≤ (sciP v).2.2.1 ∧ (sciP v).2.2.1 ≤ 255 := by
    rcases sc with e | ⟨a, b, c, e, q1, q2, q3, q4, q5, q6, _⟩
    · rw [e]; simp
    · rw [e]; exact ⟨q1, q2, q3, q4, q5, q6⟩
  obtain ⟨b1, b1', b2, b2', b3, b3'⟩ := bb
  have e2 : bits .or .i64 (bits .or .i64 ((sciP v).1 * 1024) ((sciP v).2.1 * 256)) (sciP v).2.2.1 = put3 10 1 8 2 0 8 (sciP v).1 (sciP v).2.1 (sciP v).2.2.1 := by
    unfold put3
    rw [or3 _ _ _ (by omega) (by omega) (by omega) (by omega) (by omega) (by omega)]
    have p1 : putP 10 1 (sciP v).1 = (sciP v).1 * 1024 := putP_in 10 1 1024 (sciP v).1 (by omega) (by omega) rfl
    have p2 : putP 8 2 (sciP v).2.1 = (sciP v).2.1 * 256 := putP_in 8 2 256 (sciP v).2.1 (by omega) (by omega) rfl
    have p3 : putP 0 8 (sciP v).2.2.1 = (sciP v).2.2.1 * 1 := putP_in 0 8 1 (sciP v).2.2.1 (by omega) (by omega) rfl
    rw [Int.mul_one] at p3
    rw [p1, p2, p3]
  rw [← e2]
  clear e2 sc h
  unfold four at Sc
  generalize sciP v = r at *
  obtain ⟨x, y, z, is⟩ := r
  simp only at b1 b1' b2 b2' b3 b3' ⊢ Sc
  have Ln : ∀ W, Calls Tryd.prog 31 #[.string ⟨#[67, 56]⟩, .int .i64 v] W fun e w' => W = w' ∧ e = .returned (.int .i64 (bits .or .i64 (bits .or .i64 (x * 1024) (y * 256)) z)) := by
    intro W
    go_enter Tryd.func31, Tryd.ntmps31
    go_wp2_with (go_at_call 40; refine (Sc _).mono ?_; rintro e w' ⟨rfl, rfl⟩)
    go_ret
    exact ⟨rfl, rfl⟩
  go_enter Tryd.func19, Tryd.ntmps19
  go_wp2_with (go_at_call 31; refine (Ln _).mono ?_; rintro e w' ⟨rfl, rfl⟩)
  go_ret
  exact ⟨rfl, rfl⟩

set_option maxHeartbeats 800000 in
theorem put_O2 (v : Int) (h : (K.code .kO2 v).2 = true) (w : World) : Calls Tryd.prog 19 #[.string ⟨#[79, 50]⟩, .int .i64 v] w fun e w' => w = w' ∧ e = .returned (.int .i64 (K.code .kO2 v).1) := by
  have hc : (0 ≤ v ∧ v < 4 ∧ (v - 0) % 1 = 0) ∧ (K.code .kO2 v).1 = v * 1048576 := by
    change (countC 20 2 0 1 v).2 = true at h
    change _ ∧ (countC 20 2 0 1 v).1 = _
    unfold countC at h ⊢
    split at h
    · rename_i hc
      rw [if_pos hc]
      simp only [show (2 : Int).toNat = 2 from rfl, Int.reducePow] at hc
      refine ⟨by omega, ?_⟩
      unfold putP
      simp only [show (2 : Int).toNat = 2 from rfl, show (20 : Int).toNat = 20 from rfl, Int.reducePow]
      omega
    · cases h
  obtain ⟨⟨h0, h1, h2⟩, e⟩ := hc
  rw [e]
  clear e h
  have Ln : ∀ W, Calls Tryd.prog 31 #[.string ⟨#[79, 50]⟩, .int .i64 v] W fun e w' => W = w' ∧ e = .returned (.int .i64 (v * 1048576)) := by
    intro W
    go_enter Tryd.func31, Tryd.ntmps31
    go_wp2
    go_ret
    exact ⟨rfl, rfl⟩
  go_enter Tryd.func19, Tryd.ntmps19
  go_wp2_with (go_at_call 31; refine (Ln _).mono ?_; rintro e w' ⟨rfl, rfl⟩)
  go_ret
  exact ⟨rfl, rfl⟩

set_option maxHeartbeats 800000 in
theorem put_I4 (v : Int) (h : (K.code .kI4 v).2 = true) (w : World) : Calls Tryd.prog 19 #[.string ⟨#[73, 52]⟩, .int .i64 v] w fun e w' => w = w' ∧ e = .returned (.int .i64 (K.code .kI4 v).1) := by
  have hc : (0 ≤ v ∧ v < 16 ∧ (v - 0) % 1 = 0) ∧ (K.code .kI4 v).1 = v * 65536 := by
    change (countC 16 4 0 1 v).2 = true at h
    change _ ∧ (countC 16 4 0 1 v).1 = _
    unfold countC at h ⊢
    split at h
    · rename_i hc
      rw [if_pos hc]
      simp only [show (4 : Int).toNat = 4 from rfl, Int.reducePow] at hc
      refine ⟨by omega, ?_⟩
      unfold putP
      simp only [show (4 : Int).toNat = 4 from rfl, show (16 : Int).toNat = 16 from rfl, Int.reducePow]
      omega
    · cases h
  obtain ⟨⟨h0, h1, h2⟩, e⟩ := hc
  rw [e]
  clear e h
  have Ln : ∀ W, Calls Tryd.prog 31 #[.string ⟨#[73, 52]⟩, .int .i64 v] W fun e w' => W = w' ∧ e = .returned (.int .i64 (v * 65536)) := by
    intro W
    go_enter Tryd.func31, Tryd.ntmps31
    go_wp2
    go_ret
    exact ⟨rfl, rfl⟩
  go_enter Tryd.func19, Tryd.ntmps19
  go_wp2_with (go_at_call 31; refine (Ln _).mono ?_; rintro e w' ⟨rfl, rfl⟩)
  go_ret
  exact ⟨rfl, rfl⟩

set_option maxHeartbeats 800000 in
theorem put_T15 (v : Int) (h : (K.code .kT15 v).2 = true) (w : World) : Calls Tryd.prog 19 #[.string ⟨#[84, 49, 53]⟩, .int .i64 v] w fun e w' => w = w' ∧ e = .returned (.int .i64 (K.code .kT15 v).1) := by
  have hc : (-32768 ≤ v ∧ v < 32768 ∧ v % 2 = 0) ∧ (K.code .kT15 v).1 = v % 65536 := by
    change (signC 1 15 2 v).2 = true at h
    change _ ∧ (signC 1 15 2 v).1 = _
    unfold signC at h ⊢
    split at h
    · rename_i hc
      rw [if_pos hc]
      have hf := hc.2
      unfold fitsP at hf
      simp only [show (15 : Int).toNat = 15 from rfl, Nat.reduceSub, Int.reducePow, Bool.and_eq_true, decide_eq_true_eq] at hf
      refine ⟨by omega, ?_⟩
      unfold putP
      simp only [show (15 : Int).toNat = 15 from rfl, show (1 : Int).toNat = 1 from rfl, Int.reducePow]
      omega
    · cases h
  obtain ⟨⟨h0, h1, h2⟩, e⟩ := hc
  rw [e]
  clear e h
  have e3 : ∀ x, bits .and .i64 x 65535 = x % 65536 := fun x => and_mask x 16 (by omega)
  have Ln : ∀ W, Calls Tryd.prog 31 #[.string ⟨#[84, 49, 53]⟩, .int .i64 v] W fun e w' => W = w' ∧ e = .returned (.int .i64 (v % 65536)) := by
    intro W
    go_enter Tryd.func31, Tryd.ntmps31
    go_wp2
    go_ret
    first | exact ⟨rfl, rfl⟩ | exact ⟨rfl, by simp [e3]⟩
  go_enter Tryd.func19, Tryd.ntmps19
  go_wp2_with (go_at_call 31; refine (Ln _).mono ?_; rintro e w' ⟨rfl, rfl⟩)
  go_ret
  exact ⟨rfl, rfl⟩

set_option maxHeartbeats 800000 in
theorem put_T24 (v : Int) (h : (K.code .kT24 v).2 = true) (w : World) : Calls Tryd.prog 19 #[.string ⟨#[84, 50, 52]⟩, .int .i64 v] w fun e w' => w = w' ∧ e = .returned (.int .i64 (K.code .kT24 v).1) := by
  have hc : (-16777216 ≤ v ∧ v < 16777216 ∧ v % 2 = 0) ∧ (K.code .kT24 v).1 = v % 33554432 := by
    change (signC 1 24 2 v).2 = true at h
    change _ ∧ (signC 1 24 2 v).1 = _
    unfold signC at h ⊢
    split at h
    · rename_i hc
      rw [if_pos hc]
      have hf := hc.2
      unfold fitsP at hf
      simp only [show (24 : Int).toNat = 24 from rfl, Nat.reduceSub, Int.reducePow, Bool.and_eq_true, decide_eq_true_eq] at hf
      refine ⟨by omega, ?_⟩
      unfold putP
      simp only [show (24 : Int).toNat = 24 from rfl, show (1 : Int).toNat = 1 from rfl, Int.reducePow]
      omega
    · cases h
  obtain ⟨⟨h0, h1, h2⟩, e⟩ := hc
  rw [e]
  clear e h
  have e3 : ∀ x, bits .and .i64 x 33554431 = x % 33554432 := fun x => and_mask x 25 (by omega)
  have Ln : ∀ W, Calls Tryd.prog 31 #[.string ⟨#[84, 50, 52]⟩, .int .i64 v] W fun e w' => W = w' ∧ e = .returned (.int .i64 (v % 33554432)) := by
    intro W
    go_enter Tryd.func31, Tryd.ntmps31
    go_wp2
    go_ret
    first | exact ⟨rfl, rfl⟩ | exact ⟨rfl, by simp [e3]⟩
  go_enter Tryd.func19, Tryd.ntmps19
  go_wp2_with (go_at_call 31; refine (Ln _).mono ?_; rintro e w' ⟨rfl, rfl⟩)
  go_ret
  exact ⟨rfl, rfl⟩

theorem putR_any (k : K) (v : Int) (h : (k.code v).2 = true) (w : World) :
    Calls Tryd.prog 19 #[.string ⟨k.name.toArray⟩, .int .i64 v] w fun e w' => w = w' ∧ e = .returned (.int .i64 (k.code v).1) := by
  cases k
  · exact put_X v h w
  · exact put_Y v h w
  · exact put_U5 v h w
  · exact put_U7 v h w
  · exact put_O5 v h w
  · exact put_M1 v h w
  · exact put_M2 v h w
  · exact put_M4 v h w
  · exact put_O1 v h w
  · exact put_I2 v h w
  · exact put_T8 v h w
  · exact put_D v h w
  · exact put_A v h w
  · exact put_B v h w
  · exact put_S16 v h w
  · exact put_L20 v h w
  · exact put_C8 v h w
  · exact put_O2 v h w
  · exact put_I4 v h w
  · exact put_T15 v h w
  · exact put_T24 v h w
end Go.Proofs.YtnmclpphiajleaaDoor
