/- Plain facts on operands: what the laws take may be; what has bits comes back from them. -/
import Derived.Test.YtnmclpphiajleaaDoorOperand
namespace Go.Proofs.YtnmclpphiajleaaDoor
open Go.RowKit
open Plain
set_option linter.unusedVariables false
set_option linter.unusedSimpArgs false

theorem count_right (f b l s v : Int) (h : l ≤ v ∧ v < l + 2 ^ b.toNat * s ∧ (v - l) % s = 0) : (countC f b l s v).2 = true := by
  unfold countC; rw [if_pos h]

theorem sign_right' (f b s v : Int) (h : v % s = 0) (h2 : fitsP (v / s) b.toNat = true) : (signC f b s v).2 = true := by
  unfold signC; rw [if_pos ⟨h, h2⟩]

theorem fits_of (v : Int) (k : Nat) (h : -(2 ^ (k - 1)) ≤ v ∧ v < 2 ^ (k - 1)) : fitsP v k = true := by
  unfold fitsP; simp [h.1, h.2]

/-- By one of nine numbers. -/
theorem nth_all {l : List Int} {P : Int → Bool} (h : ∀ j : Fin 9, P (l.getD j.val 0) = true) (n : Int) : P (nth l n) = true := by
  unfold nth
  exact h ⟨(n % 9).toNat, by omega⟩

/-- What the laws take may be. -/
theorem opd_right (k : K) (n : Int) : (k.code (k.opd n)).2 = true := by
  cases k
  case kX => exact nth_all (P := fun v => (K.kX.code v).2) (by decide +kernel) n
  case kY => exact nth_all (P := fun v => (K.kY.code v).2) (by decide +kernel) n
  case kU5 => exact nth_all (P := fun v => (K.kU5.code v).2) (by decide +kernel) n
  case kU7 => exact nth_all (P := fun v => (K.kU7.code v).2) (by decide +kernel) n
  case kO5 => exact nth_all (P := fun v => (K.kO5.code v).2) (by decide +kernel) n
  case kM1 => exact nth_all (P := fun v => (K.kM1.code v).2) (by decide +kernel) n
  case kM2 => exact nth_all (P := fun v => (K.kM2.code (2 * v)).2) (by decide +kernel) n
  case kM4 => exact nth_all (P := fun v => (K.kM4.code (4 * v)).2) (by decide +kernel) n
  case kD => exact nth_all (P := fun v => (K.kD.code v).2) (by decide +kernel) n
  case kA => exact nth_all (P := fun v => (K.kA.code v).2) (by decide +kernel) n
  case kB => exact nth_all (P := fun v => (K.kB.code v).2) (by decide +kernel) n
  case kS16 => exact nth_all (P := fun v => (K.kS16.code v).2) (by decide +kernel) n
  case kC8 => exact nth_all (P := fun v => (K.kC8.code v).2) (by decide +kernel) n
  case kI4 => exact nth_all (P := fun v => (K.kI4.code v).2) (by decide +kernel) n
  case kO1 => exact count_right 10 1 0 1 (n % 2) (by have e : (2 : Int) ^ (1 : Int).toNat = 2 := (by decide); rw [e]; omega)
  case kI2 => exact count_right 8 2 0 1 (n % 4) (by have e : (2 : Int) ^ (2 : Int).toNat = 4 := (by decide); rw [e]; omega)
  case kO2 => exact count_right 20 2 0 1 (n % 4) (by have e : (2 : Int) ^ (2 : Int).toNat = 4 := (by decide); rw [e]; omega)
  case kT8 => exact sign_right' 0 8 2 (2 * (n % 256 - 128)) (by omega) (fits_of _ _ (by have e : (2 : Int) ^ ((8 : Int).toNat - 1) = 128 := (by decide); rw [e]; omega))
  case kT15 => exact sign_right' 1 15 2 (2 * (n % 32768 - 16384)) (by omega) (fits_of _ _ (by have e : (2 : Int) ^ ((15 : Int).toNat - 1) = 16384 := (by decide); rw [e]; omega))
  case kT24 => exact sign_right' 1 24 2 (2 * (n % 16777216 - 8388608)) (by omega) (fits_of _ _ (by have e : (2 : Int) ^ ((24 : Int).toNat - 1) = 8388608 := (by decide); rw [e]; omega))
  case kL20 =>
    have h : fitsP (n % 1048576 - 524288) 20 = true := fits_of _ _ (by have e : (2 : Int) ^ (20 - 1) = 524288 := (by decide); rw [e]; omega)
    show (splitC 11 4 16 5 0 11 (n % 1048576 - 524288)).2 = true
    unfold splitC
    rw [if_pos h]

theorem opd_range (k : K) (n : Int) : -4611686018427387904 ≤ k.opd n ∧ k.opd n ≤ 4611686018427387904 := by
  have g : ∀ l : List Int, (∀ j : Fin 9, (decide (-2130706432 ≤ l.getD j.val 0) && decide (l.getD j.val 0 ≤ 2130706432)) = true) → -2130706432 ≤ nth l n ∧ nth l n ≤ 2130706432 := by
    intro l h
    have := nth_all (P := fun v => decide (-2130706432 ≤ v) && decide (v ≤ 2130706432)) h n
    simpa using this
  have h1 := g lreg (by decide)
  have h2 := g lfive (by decide)
  have h3 := g lU7 (by decide)
  have h4 := g lO5 (by decide)
  have h5 := g lfour (by decide)
  have h6 := g lS16 (by decide)
  have h7 := g lC8 (by decide)
  cases k <;> simp only [K.opd] <;> omega
end Go.Proofs.YtnmclpphiajleaaDoor
