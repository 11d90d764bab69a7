/- Plain facts on four bytes, of which three may be all 0, or all 255. -/
import Derived.Test.YtlamikchacplmabFacts
import Derived.Test.YtlamikchacplmabSteps
namespace Go.Proofs.Ytlamikchacplmab
open Go.ChangeShapes Go.WideShapes Go.ChangeAt Go.RowKit
open Plain
set_option linter.unusedVariables false
set_option linter.unusedSimpArgs false

theorem sci_is (x : Int) (hx : fitsP x 32 = true) : (sciP x).2.2.2 = true ↔ ∃ f s : Int, 0 ≤ f ∧ f ≤ 1 ∧ 0 ≤ s ∧ s ≤ 3 ∧ backP f s (byteP x s) = x := by
  unfold sciP
  rw [if_pos hx]
  rcases sciBy_spec (fun f s => backP f s (byteP x s) = x) (byteP x) with ⟨e, h⟩ | ⟨a, b, e, h1, h2, h3, h4, ht, _⟩
  · rw [e]
    constructor
    · intro h; exact absurd h (by simp)
    · rintro ⟨f, s, f0, f1, s0, s1, h'⟩
      exact absurd h' (h f s f0 f1 s0 s1)
  · rw [e]
    exact ⟨fun _ => ⟨a, b, h1, h2, h3, h4, ht⟩, fun _ => rfl⟩

set_option maxHeartbeats 8000000 in
/-- Four bytes may be written so just if three of them are 0, or 255. -/
theorem bytes_is (b0 b1 b2 b3 : Int) (h0 : 0 ≤ b0) (g0 : b0 ≤ 255) (h1 : 0 ≤ b1) (g1 : b1 ≤ 255) (h2 : 0 ≤ b2) (g2 : b2 ≤ 255) (h3 : 0 ≤ b3) (g3 : b3 ≤ 255)
    (z0 z1 z2 z3 y0 y1 y2 y3 : Int) (e0 : (b0 = 0 ∧ z0 = 1) ∨ (b0 ≠ 0 ∧ z0 = 0)) (e1 : (b1 = 0 ∧ z1 = 1) ∨ (b1 ≠ 0 ∧ z1 = 0)) (e2 : (b2 = 0 ∧ z2 = 1) ∨ (b2 ≠ 0 ∧ z2 = 0)) (e3 : (b3 = 0 ∧ z3 = 1) ∨ (b3 ≠ 0 ∧ z3 = 0))
    (d0 : (b0 = 255 ∧ y0 = 1) ∨ (b0 ≠ 255 ∧ y0 = 0)) (d1 : (b1 = 255 ∧ y1 = 1) ∨ (b1 ≠ 255 ∧ y1 = 0)) (d2 : (b2 = 255 ∧ y2 = 1) ∨ (b2 ≠ 255 ∧ y2 = 0)) (d3 : (b3 = 255 ∧ y3 = 1) ∨ (b3 ≠ 255 ∧ y3 = 0)) :
    (sciP (signP (((b0 * 256 + b1) * 256 + b2) * 256 + b3) 32)).2.2.2 = (decide (3 ≤ z0 + z1 + z2 + z3) || decide (3 ≤ y0 + y1 + y2 + y3)) := by
  obtain ⟨x, hx⟩ : ∃ x, x = signP (((b0 * 256 + b1) * 256 + b2) * 256 + b3) 32 := ⟨_, rfl⟩
  have hx' := hx
  rw [sign32] at hx'
  have hfit : fitsP x 32 = true := fits32_of x (by omega) (by omega)
  have q0 : byteP x 0 = b3 := by show x / 1 % 256 = b3; omega
  have q1 : byteP x 1 = b2 := by show x / 256 % 256 = b2; omega
  have q2 : byteP x 2 = b1 := by show x / 65536 % 256 = b1; omega
  have q3 : byteP x 3 = b0 := by show x / 16777216 % 256 = b0; omega
  rw [← hx]
  have key : (sciP x).2.2.2 = true ↔ (3 ≤ z0 + z1 + z2 + z3 ∨ 3 ≤ y0 + y1 + y2 + y3) := by
    rw [sci_is x hfit]
    constructor
    · rintro ⟨f, s, f0, f1, s0, s1, h⟩
      have hf : f = 0 ∨ f = 1 := by omega
      have hs : s = 0 ∨ s = 1 ∨ s = 2 ∨ s = 3 := by omega
      unfold backP at h
      rw [sign32] at h
      unfold backU at h
      rcases hf with rfl | rfl <;> rcases hs with rfl | rfl | rfl | rfl
      · rw [q0] at h; simp at h; omega
      · rw [q1] at h; simp at h; omega
      · rw [q2] at h; simp at h; omega
      · rw [q3] at h; simp at h; omega
      · rw [q0] at h; simp at h; omega
      · rw [q1] at h; simp at h; omega
      · rw [q2] at h; simp at h; omega
      · rw [q3] at h; simp at h; omega
    · intro h
      have back : ∀ f s u : Int, backP f s u = (backU f s u + 2147483648) % 4294967296 - 2147483648 := fun f s u => by unfold backP; rw [sign32]
      rcases h with h | h
      · have : (b1 = 0 ∧ b2 = 0 ∧ b3 = 0) ∨ (b0 = 0 ∧ b2 = 0 ∧ b3 = 0) ∨ (b0 = 0 ∧ b1 = 0 ∧ b3 = 0) ∨ (b0 = 0 ∧ b1 = 0 ∧ b2 = 0) := by omega
        rcases this with ⟨r1, r2, r3⟩ | ⟨r1, r2, r3⟩ | ⟨r1, r2, r3⟩ | ⟨r1, r2, r3⟩
        · exact ⟨0, 3, by omega, by omega, by omega, by omega, by rw [q3, back]; unfold backU; simp; omega⟩
        · exact ⟨0, 2, by omega, by omega, by omega, by omega, by rw [q2, back]; unfold backU; simp; omega⟩
        · exact ⟨0, 1, by omega, by omega, by omega, by omega, by rw [q1, back]; unfold backU; simp; omega⟩
        · exact ⟨0, 0, by omega, by omega, by omega, by omega, by rw [q0, back]; unfold backU; simp; omega⟩
      · have : (b1 = 255 ∧ b2 = 255 ∧ b3 = 255) ∨ (b0 = 255 ∧ b2 = 255 ∧ b3 = 255) ∨ (b0 = 255 ∧ b1 = 255 ∧ b3 = 255) ∨ (b0 = 255 ∧ b1 = 255 ∧ b2 = 255) := by omega
        rcases this with ⟨r1, r2, r3⟩ | ⟨r1, r2, r3⟩ | ⟨r1, r2, r3⟩ | ⟨r1, r2, r3⟩
        · exact ⟨1, 3, by omega, by omega, by omega, by omega, by rw [q3, back]; unfold backU; simp; omega⟩
        · exact ⟨1, 2, by omega, by omega, by omega, by omega, by rw [q2, back]; unfold backU; simp; omega⟩
        · exact ⟨1, 1, by omega, by omega, by omega, by omega, by rw [q1, back]; unfold backU; simp; omega⟩
        · exact ⟨1, 0, by omega, by omega, by omega, by omega, by rw [q0, back]; unfold backU; simp; omega⟩
  cases hi : (sciP x).2.2.2 with
  | true =>
    have := key.1 hi
    rw [eq_comm, Bool.or_eq_true, decide_eq_true_eq, decide_eq_true_eq]
    exact this
  | false =>
    rw [eq_comm, Bool.or_eq_false_iff, decide_eq_false_iff_not, decide_eq_false_iff_not]
    constructor
    · intro h; have := key.2 (.inl h); rw [hi] at this; exact absurd this (by simp)
    · intro h; have := key.2 (.inr h); rw [hi] at this; exact absurd this (by simp)

/-- Byte number j of four. -/
def nth4 (b0 b1 b2 b3 : Int) (j : Nat) : Int := if j = 0 then b0 else if j = 1 then b1 else if j = 2 then b2 else b3

/-- The number that the first j bytes are. -/
def laidUp (b0 b1 b2 b3 : Int) : Nat → Int
  | 0 => 0
  | j + 1 => laidUp b0 b1 b2 b3 j * 256 + nth4 b0 b1 b2 b3 j

/-- How many of the first j bytes are t. -/
def howMany (b0 b1 b2 b3 t : Int) : Nat → Int
  | 0 => 0
  | j + 1 => howMany b0 b1 b2 b3 t j + (if nth4 b0 b1 b2 b3 j = t then 1 else 0)

theorem nth4_bounds (b0 b1 b2 b3 : Int) (h0 : 0 ≤ b0) (g0 : b0 ≤ 255) (h1 : 0 ≤ b1) (g1 : b1 ≤ 255) (h2 : 0 ≤ b2) (g2 : b2 ≤ 255) (h3 : 0 ≤ b3) (g3 : b3 ≤ 255) (j : Nat) :
    0 ≤ nth4 b0 b1 b2 b3 j ∧ nth4 b0 b1 b2 b3 j ≤ 255 := by
  unfold nth4
  split
  · omega
  · split
    · omega
    · split <;> omega

theorem laidUp_bounds (b0 b1 b2 b3 : Int) (h0 : 0 ≤ b0) (g0 : b0 ≤ 255) (h1 : 0 ≤ b1) (g1 : b1 ≤ 255) (h2 : 0 ≤ b2) (g2 : b2 ≤ 255) (j : Nat) (hj : j ≤ 3) :
    0 ≤ laidUp b0 b1 b2 b3 j ∧ laidUp b0 b1 b2 b3 j ≤ 16777215 := by
  have c : j = 0 ∨ j = 1 ∨ j = 2 ∨ j = 3 := by omega
  rcases c with rfl | rfl | rfl | rfl <;> simp [laidUp, nth4] <;> omega

theorem howMany_bounds (b0 b1 b2 b3 t : Int) (j : Nat) : 0 ≤ howMany b0 b1 b2 b3 t j ∧ howMany b0 b1 b2 b3 t j ≤ j := by
  induction j with
  | zero => simp [howMany]
  | succ j ih =>
    unfold howMany
    split <;> omega

/-- The whole of it: what Sci8 says of the four bytes is what the two counts say. -/
theorem bytes_law (b0 b1 b2 b3 : Int) (h0 : 0 ≤ b0) (g0 : b0 ≤ 255) (h1 : 0 ≤ b1) (g1 : b1 ≤ 255) (h2 : 0 ≤ b2) (g2 : b2 ≤ 255) (h3 : 0 ≤ b3) (g3 : b3 ≤ 255) :
    (sciP (signP (laidUp b0 b1 b2 b3 4) 32)).2.2.2 = (decide (3 ≤ howMany b0 b1 b2 b3 0 4) || decide (3 ≤ howMany b0 b1 b2 b3 255 4)) := by
  have one : ∀ b t : Int, (b = t ∧ (if b = t then (1 : Int) else 0) = 1) ∨ (b ≠ t ∧ (if b = t then (1 : Int) else 0) = 0) := by
    intro b t
    by_cases h : b = t
    · exact .inl ⟨h, if_pos h⟩
    · exact .inr ⟨h, if_neg h⟩
  have e1 : laidUp b0 b1 b2 b3 4 = ((b0 * 256 + b1) * 256 + b2) * 256 + b3 := by simp [laidUp, nth4]
  have e2 : ∀ t : Int, howMany b0 b1 b2 b3 t 4 = (if b0 = t then 1 else 0) + (if b1 = t then 1 else 0) + (if b2 = t then 1 else 0) + (if b3 = t then 1 else 0) := by
    intro t
    simp [howMany, nth4]
  rw [e1, e2, e2]
  exact bytes_is b0 b1 b2 b3 h0 g0 h1 g1 h2 g2 h3 g3 _ _ _ _ _ _ _ _ (one _ _) (one _ _) (one _ _) (one _ _) (one _ _) (one _ _) (one _ _) (one _ _)
end Go.Proofs.Ytlamikchacplmab
