/- Plain facts on Back and Sci8: what Back gives, Sci8 tells. -/
import Derived.Test.YtnmclpphiajleaaDoorSplit
namespace Go.Proofs.YtnmclpphiajleaaDoor
open Go.ChangeShapes Go.WideShapes Go.ChangeAt Go.RowKit
open Plain
set_option linter.unusedVariables false
set_option linter.unusedSimpArgs false

theorem sign32 (n : Int) : signP n 32 = (n + 2147483648) % 4294967296 - 2147483648 := by
  unfold signP; rfl

theorem fits32_of (n : Int) (h1 : -2147483648 ≤ n) (h2 : n < 2147483648) : fitsP n 32 = true := by
  have p : (2 : Int) ^ (32 - 1) = 2147483648 := by decide
  unfold fitsP
  rw [p]
  simp only [Bool.and_eq_true, decide_eq_true_eq]
  exact ⟨h1, h2⟩

theorem back_bounds (f s u : Int) : -2147483648 ≤ backP f s u ∧ backP f s u < 2147483648 := by
  unfold backP
  rw [sign32]
  omega

theorem byte_bounds (v s : Int) : 0 ≤ byteP v s ∧ byteP v s ≤ 255 := by
  unfold byteP
  omega

/-- The byte that Back laid stands there. -/
theorem byte_back (f s u : Int) (f0 : 0 ≤ f) (f1 : f ≤ 1) (s0 : 0 ≤ s) (s1 : s ≤ 3) (u0 : 0 ≤ u) (u1 : u ≤ 255) : byteP (backP f s u) s = u := by
  have hf : f = 0 ∨ f = 1 := by omega
  have hs : s = 0 ∨ s = 1 ∨ s = 2 ∨ s = 3 := by omega
  have q0 : (2 : Int) ^ (8 * (0 : Int)).toNat = 1 := by decide
  have q1 : (2 : Int) ^ (8 * (1 : Int)).toNat = 256 := by decide
  have q2 : (2 : Int) ^ (8 * (2 : Int)).toNat = 65536 := by decide
  have q3 : (2 : Int) ^ (8 * (3 : Int)).toNat = 16777216 := by decide
  unfold byteP backP
  rw [sign32]
  unfold backU
  rcases hs with rfl | rfl | rfl | rfl
  · rw [q0]; simp; omega
  · rw [q1]; simp; omega
  · rw [q2]; simp; omega
  · rw [q3]; simp; omega

/-- Sci8 tells the first f and scale of those that serve; or that none does. -/
theorem sciBy_spec (t : Int → Int → Prop) [∀ a b, Decidable (t a b)] (b : Int → Int) :
    (sciBy t b = (0, 0, 0, false) ∧ ∀ f s : Int, 0 ≤ f → f ≤ 1 → 0 ≤ s → s ≤ 3 → ¬ t f s) ∨
    (∃ x y : Int, sciBy t b = (x, y, b y, true) ∧ 0 ≤ x ∧ x ≤ 1 ∧ 0 ≤ y ∧ y ≤ 3 ∧ t x y ∧
      ∀ f s : Int, 0 ≤ f → f ≤ 1 → 0 ≤ s → s ≤ 3 → t f s → x < f ∨ (x = f ∧ y ≤ s)) := by
  have cases8 : ∀ f s : Int, 0 ≤ f → f ≤ 1 → 0 ≤ s → s ≤ 3 → (f = 0 ∨ f = 1) ∧ (s = 0 ∨ s = 1 ∨ s = 2 ∨ s = 3) := by
    intro f s h1 h2 h3 h4; omega
  by_cases c00 : t 0 0
  · refine .inr ⟨0, 0, by simp [sciBy, c00], by omega, by omega, by omega, by omega, c00, ?_⟩
    intro f s f0 f1 s0 s1 h
    obtain ⟨hf, hs⟩ := cases8 f s f0 f1 s0 s1
    rcases hf with rfl | rfl <;> rcases hs with rfl | rfl | rfl | rfl <;> first | omega | exact absurd h (by assumption)
  by_cases c01 : t 0 1
  · refine .inr ⟨0, 1, by simp [sciBy, c00, c01], by omega, by omega, by omega, by omega, c01, ?_⟩
    intro f s f0 f1 s0 s1 h
    obtain ⟨hf, hs⟩ := cases8 f s f0 f1 s0 s1
    rcases hf with rfl | rfl <;> rcases hs with rfl | rfl | rfl | rfl <;> first | omega | exact absurd h (by assumption)
  by_cases c02 : t 0 2
  · refine .inr ⟨0, 2, by simp [sciBy, c00, c01, c02], by omega, by omega, by omega, by omega, c02, ?_⟩
    intro f s f0 f1 s0 s1 h
    obtain ⟨hf, hs⟩ := cases8 f s f0 f1 s0 s1
    rcases hf with rfl | rfl <;> rcases hs with rfl | rfl | rfl | rfl <;> first | omega | exact absurd h (by assumption)
  by_cases c03 : t 0 3
  · refine .inr ⟨0, 3, by simp [sciBy, c00, c01, c02, c03], by omega, by omega, by omega, by omega, c03, ?_⟩
    intro f s f0 f1 s0 s1 h
    obtain ⟨hf, hs⟩ := cases8 f s f0 f1 s0 s1
    rcases hf with rfl | rfl <;> rcases hs with rfl | rfl | rfl | rfl <;> first | omega | exact absurd h (by assumption)
  by_cases c10 : t 1 0
  · refine .inr ⟨1, 0, by simp [sciBy, c00, c01, c02, c03, c10], by omega, by omega, by omega, by omega, c10, ?_⟩
    intro f s f0 f1 s0 s1 h
    obtain ⟨hf, hs⟩ := cases8 f s f0 f1 s0 s1
    rcases hf with rfl | rfl <;> rcases hs with rfl | rfl | rfl | rfl <;> first | omega | exact absurd h (by assumption)
  by_cases c11 : t 1 1
  · refine .inr ⟨1, 1, by simp [sciBy, c00, c01, c02, c03, c10, c11], by omega, by omega, by omega, by omega, c11, ?_⟩
    intro f s f0 f1 s0 s1 h
    obtain ⟨hf, hs⟩ := cases8 f s f0 f1 s0 s1
    rcases hf with rfl | rfl <;> rcases hs with rfl | rfl | rfl | rfl <;> first | omega | exact absurd h (by assumption)
  by_cases c12 : t 1 2
  · refine .inr ⟨1, 2, by simp [sciBy, c00, c01, c02, c03, c10, c11, c12], by omega, by omega, by omega, by omega, c12, ?_⟩
    intro f s f0 f1 s0 s1 h
    obtain ⟨hf, hs⟩ := cases8 f s f0 f1 s0 s1
    rcases hf with rfl | rfl <;> rcases hs with rfl | rfl | rfl | rfl <;> first | omega | exact absurd h (by assumption)
  by_cases c13 : t 1 3
  · refine .inr ⟨1, 3, by simp [sciBy, c00, c01, c02, c03, c10, c11, c12, c13], by omega, by omega, by omega, by omega, c13, ?_⟩
    intro f s f0 f1 s0 s1 h
    obtain ⟨hf, hs⟩ := cases8 f s f0 f1 s0 s1
    rcases hf with rfl | rfl <;> rcases hs with rfl | rfl | rfl | rfl <;> first | omega | exact absurd h (by assumption)
  refine .inl ⟨by simp [sciBy, c00, c01, c02, c03, c10, c11, c12, c13], ?_⟩
  intro f s f0 f1 s0 s1
  obtain ⟨hf, hs⟩ := cases8 f s f0 f1 s0 s1
  rcases hf with rfl | rfl <;> rcases hs with rfl | rfl | rfl | rfl <;> assumption

/-- What Back gives may be written so, and fits 32 bits. -/
theorem back_sci (f s u : Int) (f0 : 0 ≤ f) (f1 : f ≤ 1) (s0 : 0 ≤ s) (s1 : s ≤ 3) (u0 : 0 ≤ u) (u1 : u ≤ 255) :
    fitsP (backP f s u) 32 = true ∧ (sciP (backP f s u)).2.2.2 = true ∧ -9223372036854775808 ≤ backP f s u ∧ backP f s u ≤ 9223372036854775807 := by
  obtain ⟨b1, b2⟩ := back_bounds f s u
  have hfit := fits32_of _ b1 b2
  refine ⟨hfit, ?_, by omega, by omega⟩
  have hb := byte_back f s u f0 f1 s0 s1 u0 u1
  unfold sciP
  rw [if_pos hfit]
  rcases sciBy_spec (fun a c => backP a c (byteP (backP f s u) c) = backP f s u) (byteP (backP f s u)) with ⟨_, h⟩ | ⟨x, y, h, _⟩
  · exact absurd (by rw [hb]) (h f s f0 f1 s0 s1)
  · rw [h]

/-- Of several ways the first one is told. -/
theorem back_first (f s u : Int) (f0 : 0 ≤ f) (f1 : f ≤ 1) (s0 : 0 ≤ s) (s1 : s ≤ 3) (u0 : 0 ≤ u) (u1 : u ≤ 255) :
    ∃ x y : Int, sciP (backP f s u) = (x, y, byteP (backP f s u) y, true) ∧ 0 ≤ x ∧ x ≤ 1 ∧ 0 ≤ y ∧ y ≤ 3 ∧
      backP x y (byteP (backP f s u) y) = backP f s u ∧ (x < f ∨ (x = f ∧ y ≤ s)) := by
  obtain ⟨b1, b2⟩ := back_bounds f s u
  have hfit := fits32_of _ b1 b2
  have hb := byte_back f s u f0 f1 s0 s1 u0 u1
  unfold sciP
  rw [if_pos hfit]
  rcases sciBy_spec (fun a c => backP a c (byteP (backP f s u) c) = backP f s u) (byteP (backP f s u)) with ⟨_, h⟩ | ⟨x, y, h, hx0, hx1, hy0, hy1, ht, hl⟩
  · exact absurd (by rw [hb]) (h f s f0 f1 s0 s1)
  · exact ⟨x, y, h, hx0, hx1, hy0, hy1, ht, hl f s f0 f1 s0 s1 (by rw [hb])⟩

/-- Turned about bit by bit. -/
theorem back_turned (f s u : Int) (f0 : 0 ≤ f) (f1 : f ≤ 1) (s0 : 0 ≤ s) (s1 : s ≤ 3) (u0 : 0 ≤ u) (u1 : u ≤ 255) : backP (1 - f) s (255 - u) = -1 - backP f s u := by
  have hf : f = 0 ∨ f = 1 := by omega
  have hs : s = 0 ∨ s = 1 ∨ s = 2 ∨ s = 3 := by omega
  unfold backP
  rw [sign32, sign32]
  unfold backU
  rcases hf with rfl | rfl <;> rcases hs with rfl | rfl | rfl | rfl <;> simp <;> omega

theorem bounds_i64 {n : Int} (h : (Lit.int .i64 n).wf = true) : -9223372036854775808 ≤ n ∧ n ≤ 9223372036854775807 := by
  simpa [Lit.wf, IntKind.min, IntKind.max, IntKind.signed, IntKind.bits] using h

theorem fits_wider (v : Int) (k : Nat) (h : 1 ≤ k) (c : fitsP v k = true) : fitsP v (k + 1) = true := by
  obtain ⟨_, hp⟩ := half_pow k h
  have := pow_pos2 (k - 1)
  unfold fitsP at c ⊢
  rw [show k + 1 - 1 = k by omega]
  simp only [Bool.and_eq_true, decide_eq_true_eq] at c ⊢
  omega

/-- The lowest bits with a sign: within their bounds, apart by a whole number of all, and taken again they stay. -/
theorem sign_facts (n : Int) (k : Nat) (h : 1 ≤ k) : -(2 ^ (k - 1)) ≤ signP n k ∧ signP n k < 2 ^ (k - 1) ∧ (n - signP n k) % 2 ^ k = 0 ∧ signP (signP n k) k = signP n k := by
  obtain ⟨hh, hp⟩ := half_pow k h
  have p0 := pow_pos2 (k - 1)
  have pk := pow_pos2 k
  have m0 := Int.emod_nonneg (n + 2 ^ k / 2) (b := 2 ^ k) (by omega)
  have m1 := Int.emod_lt_of_pos (n + 2 ^ k / 2) (b := 2 ^ k) (by omega)
  have hd := Int.mul_ediv_add_emod (n + 2 ^ k / 2) (2 ^ k)
  have e1 : signP n k = (n + 2 ^ k / 2) % 2 ^ k - 2 ^ k / 2 := rfl
  have e2 : signP (signP n k) k = (signP n k + 2 ^ k / 2) % 2 ^ k - 2 ^ k / 2 := rfl
  refine ⟨by omega, by omega, ?_, ?_⟩
  · have : n - signP n k = 2 ^ k * ((n + 2 ^ k / 2) / 2 ^ k) := by omega
    rw [this]
    exact Int.mul_emod_right _ _
  · rw [e2, show signP n k + 2 ^ k / 2 = (n + 2 ^ k / 2) % 2 ^ k by omega, Int.emod_eq_of_lt m0 m1]
    exact e1.symm

theorem fits_sign (x : Int) (k : Nat) (h : 1 ≤ k) (h2 : k ≤ 60) :
    (signP x k == x) = fitsP x k ∧ fitsP (signP x k) k = true ∧ -9223372036854775808 ≤ signP x k ∧ signP x k ≤ 9223372036854775807 := by
  obtain ⟨s1, s2, s3, s4⟩ := sign_facts x k h
  obtain ⟨hh, hp⟩ := half_pow k h
  have pk := pow62 (k - 1) (by omega)
  have p0 := pow_pos2 (k - 1)
  have f2 : fitsP (signP x k) k = true := by
    unfold fitsP
    simp only [Bool.and_eq_true, decide_eq_true_eq]
    exact ⟨s1, s2⟩
  refine ⟨?_, f2, by omega, by omega⟩
  by_cases c : signP x k = x
  · rw [c] at f2
    rw [f2]
    simp [c]
  · have : fitsP x k = false := by
      cases hf : fitsP x k with
      | false => rfl
      | true =>
        exfalso
        apply c
        unfold fitsP at hf
        simp only [Bool.and_eq_true, decide_eq_true_eq] at hf
        have e1 : signP x k = (x + 2 ^ k / 2) % 2 ^ k - 2 ^ k / 2 := rfl
        rw [e1, Int.emod_eq_of_lt (by omega) (by omega)]
        omega
    rw [this]
    simp [c]

/-- What Sci8 tells: nothing; or parts that Back gives the number of. -/
theorem sci_cases (x : Int) : sciP x = (0, 0, 0, false) ∨
    ∃ a b c : Int, sciP x = (a, b, c, true) ∧ 0 ≤ a ∧ a ≤ 1 ∧ 0 ≤ b ∧ b ≤ 3 ∧ 0 ≤ c ∧ c ≤ 255 ∧ backP a b c = x := by
  unfold sciP
  by_cases h : fitsP x 32 = true
  · rw [if_pos h]
    rcases sciBy_spec (fun f s => backP f s (byteP x s) = x) (byteP x) with ⟨e, _⟩ | ⟨a, b, e, h1, h2, h3, h4, ht, _⟩
    · exact .inl e
    · obtain ⟨z0, z1⟩ := byte_bounds x b
      exact .inr ⟨a, b, byteP x b, e, h1, h2, h3, h4, z0, z1, ht⟩
  · rw [if_neg h]
    exact .inl rfl

theorem sign20 (n : Int) : signP n 20 = (n + 524288) % 1048576 - 524288 := by
  unfold signP; rfl

theorem fits20_of (n : Int) (h1 : -524288 ≤ n) (h2 : n < 524288) : fitsP n 20 = true := by
  have p : (2 : Int) ^ (20 - 1) = 524288 := by decide
  unfold fitsP
  rw [p]
  simp only [Bool.and_eq_true, decide_eq_true_eq]
  exact ⟨h1, h2⟩

end Go.Proofs.YtnmclpphiajleaaDoor
