/- Plain facts: what was encoded is decoded as it was, whatever is behind. -/
import Derived.Test.YtnmclpphiajleaaDoorThere3
namespace Go.Proofs.YtnmclpphiajleaaDoor
open Go.RowKit
open Plain
set_option linter.unusedVariables false
set_option linter.unusedSimpArgs false

theorem rows_high : ∀ i : Fin 66, (sizeP (i.val : Int) = 4 → (rowP (i.val : Int)).fixed &&& (15 <<< 28) = 15 <<< 28 ∧ ((rowP (i.val : Int)).bits.toNat >>> 28 = 1 ∨ (rowP (i.val : Int)).bits.toNat >>> 28 = 3 ∨ (rowP (i.val : Int)).bits.toNat >>> 28 = 5 ∨ (rowP (i.val : Int)).bits.toNat >>> 28 = 7)) ∧
    (sizeP (i.val : Int) = 2 → (rowP (i.val : Int)).fixed &&& (1048575 <<< 12) = 1048575 <<< 12 ∧ (rowP (i.val : Int)).bits.toNat >>> 12 < 16 ∧ (rowP (i.val : Int)).bits.toNat >>> 12 ≠ 1 ∧ (rowP (i.val : Int)).bits.toNat >>> 12 ≠ 3 ∧ (rowP (i.val : Int)).bits.toNat >>> 12 ≠ 5 ∧ (rowP (i.val : Int)).bits.toNat >>> 12 ≠ 7) := by decide +kernel

theorem high_bits {X F B n s : Nat} (h : X &&& F = B) (hF : F &&& ((2 ^ n - 1) <<< s) = (2 ^ n - 1) <<< s) (hX : X >>> s < 2 ^ n) (hB : B >>> s < 2 ^ n) : X >>> s = B >>> s := by
  have e : X &&& ((2 ^ n - 1) <<< s) = B &&& ((2 ^ n - 1) <<< s) := by
    rw [← hF, ← Nat.and_assoc, h, hF]
  have e2 := congrArg (· >>> s) e
  simp only [Nat.shiftRight_and_distrib] at e2
  have e3 : ((2 ^ n - 1) <<< s) >>> s = 2 ^ n - 1 := by rw [Nat.shiftLeft_shiftRight]
  rw [e3, Nat.and_two_pow_sub_one_eq_mod, Nat.and_two_pow_sub_one_eq_mod, Nat.mod_eq_of_lt hX, Nat.mod_eq_of_lt hB] at e2
  exact e2

theorem lead_of {op : Int} {fs : List Int} {x : Int} (h : codedP op fs = (x, true)) (more : List Int) : leadP (bytesP (sizeP op) x ++ more) = (x, sizeP op, true) := by
  obtain ⟨hi, _, X, rfl, hX, hF, _⟩ := coded_spec h
  obtain ⟨_, _, _, _, b0, b1⟩ := rows_fields _ (rowP_mem op)
  have hi2 := hi
  unfold isP at hi2
  rw [Bool.and_eq_true, decide_eq_true_eq, decide_eq_true_eq] at hi2
  obtain ⟨i, rfl⟩ := Int.eq_ofNat_of_zero_le hi2.1
  obtain ⟨h4, h2⟩ := rows_high ⟨i, by omega⟩
  rcases sizeP_is hi with hs | hs
  · obtain ⟨g1, g2, g3, g4, g5, g6⟩ := h2 hs
    have e := high_bits (n := 20) (s := 12) hF g1 (by rw [Nat.shiftRight_eq_div_pow]; omega) (by have := g2; simp only at this ⊢; omega)
    simp only at g2 g3 g4 g5 g6
    rw [← e, Nat.shiftRight_eq_div_pow] at g2 g3 g4 g5 g6
    have hb : bytesP 2 (X : Int) = [(X : Int) / 256 % 256, (X : Int) % 256] := rfl
    rw [hs, hb]
    have hl : isLong ((X : Int) / 256 % 256) = false := by
      unfold isLong
      simp only [Bool.or_eq_false_iff, beq_eq_false_iff_ne]
      omega
    simp only [List.cons_append, List.nil_append, leadP, hl]
    simp
    omega
  · obtain ⟨g1, g2⟩ := h4 hs
    have e := high_bits (n := 4) (s := 28) hF g1 (by rw [Nat.shiftRight_eq_div_pow]; omega) (by simp only at g2 ⊢; omega)
    simp only at g2
    rw [← e, Nat.shiftRight_eq_div_pow] at g2
    have hb : bytesP 4 (X : Int) = [(X : Int) / 256 / 256 / 256 % 256, (X : Int) / 256 / 256 % 256, (X : Int) / 256 % 256, (X : Int) % 256] := rfl
    rw [hs, hb]
    have hl : isLong ((X : Int) / 256 / 256 / 256 % 256) = true := by
      unfold isLong
      simp only [Bool.or_eq_true, beq_iff_eq]
      omega
    simp only [List.cons_append, List.nil_append, leadP, hl]
    simp
    omega

/-- What was encoded is decoded as it was, whatever is behind. -/
theorem decode_of {op : Int} {fs : List Int} {x : Int} (h : codedP op fs = (x, true)) (more : List Int) : decodeP (bytesP (sizeP op) x ++ more) = some (op, fs, sizeP op) := by
  obtain ⟨hi, _, _, _, _, _, ht⟩ := coded_spec h
  have hi2 := hi
  unfold isP at hi2
  rw [Bool.and_eq_true, decide_eq_true_eq, decide_eq_true_eq] at hi2
  obtain ⟨i, rfl⟩ := Int.eq_ofNat_of_zero_le hi2.1
  unfold decodeP
  rw [lead_of h more]
  simp only [if_true]
  rw [first_of h]
  simp [ht]
end Go.Proofs.YtnmclpphiajleaaDoor
