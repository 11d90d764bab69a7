/- Plain facts: an operand's bits, read back, are the operand. -/
import Derived.Test.YtnmclpphiajleaaDoorKnown
import Derived.Test.YtnmclpphiajleaaDoorFacts
namespace Go.Proofs.YtnmclpphiajleaaDoor
open Go.RowKit
open Plain
set_option linter.unusedVariables false
set_option linter.unusedSimpArgs false

theorem bits_or_u32_nat (a b : Nat) (ha : a < 4294967296) (hb : b < 4294967296) : bits .or .u32 (a : Int) (b : Int) = ((a ||| b : Nat) : Int) := by
  have hx : a ||| b < 2 ^ 32 := Nat.or_lt_two_pow (by omega) (by omega)
  have h1 : (BitVec.ofInt 32 (a : Int)).toNat = a := by
    rw [BitVec.ofInt_natCast, BitVec.toNat_ofNat]; exact Nat.mod_eq_of_lt (by omega)
  have h2 : (BitVec.ofInt 32 (b : Int)).toNat = b := by
    rw [BitVec.ofInt_natCast, BitVec.toNat_ofNat]; exact Nat.mod_eq_of_lt (by omega)
  show IntKind.u32.wrap ((BitVec.ofInt 32 (a : Int) ||| BitVec.ofInt 32 (b : Int)).toNat : Int) = _
  rw [BitVec.toNat_or, h1, h2, IntKind.wrap_u32]
  omega

theorem or_comm32 (a b : Int) (a0 : 0 ≤ a) (a1 : a < 4294967296) (b0 : 0 ≤ b) (b1 : b < 4294967296) : bits .or .u32 a b = bits .or .u32 b a := by
  obtain ⟨x, rfl⟩ := Int.eq_ofNat_of_zero_le a0
  obtain ⟨y, rfl⟩ := Int.eq_ofNat_of_zero_le b0
  rw [bits_or_u32_nat x y (by omega) (by omega), bits_or_u32_nat y x (by omega) (by omega), Nat.or_comm]

theorem take_put (f b n : Int) : takeP f b (putP f b n) = n % 2 ^ b.toNat := by
  have pF := pow_pos2 f.toNat
  unfold takeP putP
  rw [Int.mul_ediv_cancel _ (by omega), Int.emod_emod_of_dvd _ (Int.dvd_refl _)]

theorem reg_back (f v : Int) (h : (regC f 4 v).2 = true) : regT f 4 (regC f 4 v).1 = v := by
  have p4 : (2 : Int) ^ (4 : Int).toNat = 16 := by decide
  unfold regC at h ⊢
  by_cases h1 : 0 ≤ v ∧ v < 8
  · rw [if_pos h1]
    unfold regT
    rw [take_put, p4, if_pos (by omega)]
    omega
  · rw [if_neg h1] at h ⊢
    by_cases h2 : 24 ≤ v ∧ v < 32
    · rw [if_pos h2]
      unfold regT
      rw [take_put, p4, if_neg (by omega)]
      omega
    · rw [if_neg h2] at h
      simp at h

theorem count_back (f b l s v : Int) (hs : s = 1 ∨ s = 2 ∨ s = 4) (h : (countC f b l s v).2 = true) : countT f b l s (countC f b l s v).1 = v := by
  have pB := pow_pos2 b.toNat
  unfold countC at h ⊢
  by_cases h1 : l ≤ v ∧ v < l + 2 ^ b.toNat * s ∧ (v - l) % s = 0
  · rw [if_pos h1]
    unfold countT
    rw [take_put]
    generalize (2 : Int) ^ b.toNat = P at *
    obtain ⟨h1, h2, h3⟩ := h1
    rcases hs with rfl | rfl | rfl
    · rw [Int.emod_eq_of_lt (by omega) (by omega)]; omega
    · rw [Int.emod_eq_of_lt (by omega) (by omega)]; omega
    · rw [Int.emod_eq_of_lt (by omega) (by omega)]; omega
  · rw [if_neg h1] at h
    simp at h

theorem sign_fit (n : Int) (k : Nat) (hk : 1 ≤ k) (h : fitsP n k = true) : signP (n % 2 ^ k) k = n := by
  have hp := half_pow k hk
  have p0 := pow_pos2 (k - 1)
  unfold fitsP at h
  rw [Bool.and_eq_true, decide_eq_true_eq, decide_eq_true_eq] at h
  unfold signP
  rw [hp.1]
  rw [hp.2] at *
  generalize (2 : Int) ^ (k - 1) = P at *
  rw [Int.emod_add_emod, Int.emod_eq_of_lt (by omega) (by omega)]
  omega

theorem sign_back (f s v : Int) (b : Nat) (hb : 1 ≤ b) (hs : s = 1 ∨ s = 2) (h : (signC f b s v).2 = true) : signT f b s (signC f b s v).1 = v := by
  unfold signC at h ⊢
  rw [show ((b : Int)).toNat = b by omega] at *
  by_cases h1 : v % s = 0 ∧ fitsP (v / s) b = true
  · rw [if_pos h1]
    unfold signT
    rw [take_put]
    rw [show ((b : Int)).toNat = b by omega, sign_fit _ b hb h1.2]
    rcases hs with rfl | rfl <;> omega
  · rw [if_neg h1] at h
    simp at h
end Go.Proofs.YtnmclpphiajleaaDoor
