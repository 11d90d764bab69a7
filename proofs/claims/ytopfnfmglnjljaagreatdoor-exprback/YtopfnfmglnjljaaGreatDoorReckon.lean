/- The contracts of amount's ways. -/
import Derived.Test.YtopfnfmglnjljaaGreatDoorBetween
namespace Go.Proofs.YtopfnfmglnjljaaGreatDoor
open Go.ChangeShapes Go.WideShapes Go.ChangeAt Go.RowKit
set_option linter.unusedVariables false
set_option linter.unusedSimpArgs false

/-- Two numbers as an answer. -/
def pair (r : Int × Int) : Ending := .returned (.tuple #[.int .i64 r.1, .int .i64 r.2])
/-- Within the bounds. -/
def Amt (a : Int) : Prop := -1099511627776 ≤ a ∧ a ≤ 1099511627776

theorem bounded_any (a : Int) (w : World) : Calls Tryz.prog 52 #[.int .i64 a] w fun e w' => e = pair (boundP a) ∧ w' = w := by
  unfold boundP pair
  by_cases h : a < -1099511627776
  · rw [if_pos (.inl h)]
    go_enter Tryz.func52, Tryz.ntmps52
    go_wp2
    go_ret2
    exact ⟨rfl, rfl⟩
  · by_cases h2 : 1099511627776 < a
    · rw [if_pos (.inr h2)]
      go_enter Tryz.func52, Tryz.ntmps52
      go_wp2
      go_ret2
      exact ⟨rfl, rfl⟩
    · rw [if_neg (by omega)]
      go_enter Tryz.func52, Tryz.ntmps52
      go_wp2
      go_ret2
      exact ⟨rfl, rfl⟩

theorem plus_any (a b : Int) (ha : Amt a) (hb : Amt b) (w : World) : Calls Tryz.prog 70 #[.int .i64 a, .int .i64 b] w fun e w' => e = pair (boundP (a + b)) ∧ w' = w := by
  obtain ⟨a0, a1⟩ := ha
  obtain ⟨b0, b1⟩ := hb
  have B := fun W => bounded_any (a + b) W
  unfold pair at B ⊢
  go_enter Tryz.func70, Tryz.ntmps70
  go_wp2_with (go_at_call 52; refine (B _).mono ?_; rintro e w' ⟨rfl, rfl⟩)
  go_ret2
  exact ⟨rfl, rfl⟩

theorem minus_any (a b : Int) (ha : Amt a) (hb : Amt b) (w : World) : Calls Tryz.prog 55 #[.int .i64 a, .int .i64 b] w fun e w' => e = pair (boundP (a - b)) ∧ w' = w := by
  obtain ⟨a0, a1⟩ := ha
  obtain ⟨b0, b1⟩ := hb
  have B := fun W => bounded_any (a - b) W
  unfold pair at B ⊢
  go_enter Tryz.func55, Tryz.ntmps55
  go_wp2_with (go_at_call 52; refine (B _).mono ?_; rintro e w' ⟨rfl, rfl⟩)
  go_ret2
  exact ⟨rfl, rfl⟩

theorem and_any (a b : Int) (w : World) : Calls Tryz.prog 72 #[.int .i64 a, .int .i64 b] w fun e w' => e = pair (boundP (bits .and .i64 a b)) ∧ w' = w := by
  have B := fun W => bounded_any (bits .and .i64 a b) W
  unfold pair at B ⊢
  go_enter Tryz.func72, Tryz.ntmps72
  go_wp2_with (go_at_call 52; refine (B _).mono ?_; rintro e w' ⟨rfl, rfl⟩)
  go_ret2
  exact ⟨rfl, rfl⟩

theorem or_any (a b : Int) (w : World) : Calls Tryz.prog 73 #[.int .i64 a, .int .i64 b] w fun e w' => e = pair (boundP (bits .or .i64 a b)) ∧ w' = w := by
  have B := fun W => bounded_any (bits .or .i64 a b) W
  unfold pair at B ⊢
  go_enter Tryz.func73, Tryz.ntmps73
  go_wp2_with (go_at_call 52; refine (B _).mono ?_; rintro e w' ⟨rfl, rfl⟩)
  go_ret2
  exact ⟨rfl, rfl⟩

theorem shifts_any (b : Int) (w : World) : Calls Tryz.prog 85 #[.int .i64 b] w fun e w' => e = .returned (.bool (decide (0 ≤ b) && decide (b ≤ 40))) ∧ w' = w := by
  by_cases h : 0 ≤ b
  · go_enter Tryz.func85, Tryz.ntmps85
    go_wp2
    go_ret
    simp [h]
  · go_enter Tryz.func85, Tryz.ntmps85
    go_wp2
    go_ret
    have : decide (0 ≤ b) = false := by simp; omega
    simp [this]

theorem wrapped_not {a b : Int} (ha : Amt a) (hb : Amt b) (h : a * b < -9223372036854775808 ∨ 9223372036854775807 < a * b) : wrap64 ((wrap64 (a * b)).tdiv b) ≠ a := by
  obtain ⟨a0, a1⟩ := ha
  obtain ⟨b0, b1⟩ := hb
  generalize hp : a * b = p at h
  intro e
  have hq : ∃ k, wrap64 p = p - k * 18446744073709551616 ∧ k ≠ 0 ∧ -9223372036854775808 ≤ wrap64 p ∧ wrap64 p ≤ 9223372036854775807 := by
    refine ⟨(p + 9223372036854775808) / 18446744073709551616, ?_, ?_, ?_, ?_⟩
    · unfold wrap64; omega
    · omega
    · unfold wrap64; omega
    · unfold wrap64; omega
  obtain ⟨k, q1, q2, q3, q4⟩ := hq
  generalize wrap64 p = q at q1 q3 q4 e
  have e2 := Int.mul_tdiv_add_tmod q b
  have hm : (q.tmod b).natAbs ≤ q.natAbs := by rw [Int.natAbs_tmod]; exact Nat.mod_le _ _
  have hr : (q.tdiv b).natAbs ≤ q.natAbs := by rw [Int.natAbs_tdiv]; exact Nat.div_le_self _ _
  have hlt : b = 0 ∨ (q.tmod b).natAbs < b.natAbs := by
    by_cases hb0 : b = 0
    · exact .inl hb0
    · right; rw [Int.natAbs_tmod]; exact Nat.mod_lt _ (by omega)
  rcases hlt with rfl | hlt
  · simp at hp; omega
  · by_cases hw : q.tdiv b = a
    · rw [hw, Int.mul_comm, hp] at e2
      omega
    · have : q.tdiv b ≠ wrap64 (q.tdiv b) := fun h => hw (h.trans e)
      unfold wrap64 at this e
      omega

set_option maxHeartbeats 800000 in
theorem times_any (a b : Int) (ha : Amt a) (hb : Amt b) (w : World) : Calls Tryz.prog 71 #[.int .i64 a, .int .i64 b] w fun e w' => e = pair (boundP (a * b)) ∧ w' = w := by
  by_cases hb0 : b = 0
  · subst hb0
    have B := fun W => bounded_any 0 W
    rw [Int.mul_zero]
    unfold pair at B ⊢
    go_enter Tryz.func71, Tryz.ntmps71
    go_wp2_with (go_at_call 52; refine (B _).mono ?_; rintro e w' ⟨rfl, rfl⟩)
    go_ret2
    exact ⟨rfl, rfl⟩
  · have hb1 : (b != 0) = true := by simpa using hb0
    by_cases h : a * b < -9223372036854775808 ∨ 9223372036854775807 < a * b
    · have h3 := wrapped_not ha hb h
      have h4 : (wrap64 ((wrap64 (a * b)).tdiv b) != a) = true := by simpa using h3
      have h5 : boundP (a * b) = (0, 6) := by unfold boundP; rw [if_pos (by omega)]
      rw [h5]
      obtain ⟨a0, a1⟩ := ha
      obtain ⟨b0, b1⟩ := hb
      unfold pair
      clear h h5 h3
      go_enter Tryz.func71, Tryz.ntmps71
      go_wp2_with fail
      go_ret2
      exact ⟨rfl, rfl⟩
    · have h1 : wrap64 (a * b) = a * b := IntWalk.wrap64_in _ (by omega)
      have h2 : (a * b).tdiv b = a := Int.mul_tdiv_cancel _ hb0
      obtain ⟨a0, a1⟩ := ha
      have B := fun W => bounded_any (a * b) W
      unfold pair at B ⊢
      have HP : Hid (True) := trivial
      clear h
      go_enter Tryz.func71, Tryz.ntmps71
      go_wp2_with (go_at_call 52; refine (B _).mono ?_; rintro e w' ⟨rfl, rfl⟩)
      go_ret2
      exact ⟨rfl, rfl⟩

theorem pow40 : ∀ k : Fin 41, (2 : Int) ^ k.val ≤ 1099511627776 ∧ 0 < (2 : Int) ^ k.val := by decide +kernel

/-- What two numbers come to, where the second may be a shift. -/
theorem left_any (a b : Int) (ha : Amt a) (w : World) : Calls Tryz.prog 74 #[.int .i64 a, .int .i64 b] w fun e w' => e = pair (reckonP 10 a b) ∧ w' = w := by
  have S := fun W => shifts_any b W
  unfold reckonP
  simp only [show ¬ (10 : Nat) = 5 by omega, show ¬ (10 : Nat) = 6 by omega, show ¬ (10 : Nat) = 7 by omega, show ¬ (10 : Nat) = 8 by omega, show ¬ (10 : Nat) = 9 by omega, if_false, if_true]
  by_cases h : b < 0 ∨ 40 < b
  · rw [if_pos h]
    have e : (decide (0 ≤ b) && decide (b ≤ 40)) = false := by
      rcases h with h | h
      · simp [show ¬ 0 ≤ b by omega]
      · simp [show ¬ b ≤ 40 by omega]
    rw [e] at S
    unfold pair
    clear h e
    go_enter Tryz.func74, Tryz.ntmps74
    go_wp2_with (go_at_call 85; refine (S _).mono ?_; rintro e w' ⟨rfl, rfl⟩)
    go_ret2
    exact ⟨rfl, rfl⟩
  · rw [if_neg h]
    have e : (decide (0 ≤ b) && decide (b ≤ 40)) = true := by simp; omega
    rw [e] at S
    obtain ⟨k, rfl⟩ := Int.eq_ofNat_of_zero_le (show 0 ≤ b by omega)
    have hp := pow40 ⟨k, by omega⟩
    simp only at hp
    have M := fun W => times_any a (2 ^ k) ha ⟨by omega, hp.1⟩ W
    rw [Int.toNat_natCast]
    unfold pair at M ⊢
    have hk : (k : Int) ≤ 40 := by omega
    clear h e
    go_enter Tryz.func74, Tryz.ntmps74
    go_wp2_with (first | (go_at_call 85; refine (S _).mono ?_; rintro e w' ⟨rfl, rfl⟩) | (go_at_call 71; refine (M _).mono ?_; rintro e w' ⟨rfl, rfl⟩))
    go_ret2
    exact ⟨rfl, rfl⟩

theorem right_any (a b : Int) (ha : Amt a) (w : World) : Calls Tryz.prog 75 #[.int .i64 a, .int .i64 b] w fun e w' => e = pair (reckonP 11 a b) ∧ w' = w := by
  have S := fun W => shifts_any b W
  unfold reckonP
  simp only [show ¬ (11 : Nat) = 5 by omega, show ¬ (11 : Nat) = 6 by omega, show ¬ (11 : Nat) = 7 by omega, show ¬ (11 : Nat) = 8 by omega, show ¬ (11 : Nat) = 9 by omega, show ¬ (11 : Nat) = 10 by omega, if_false]
  by_cases h : b < 0 ∨ 40 < b
  · rw [if_pos h]
    have e : (decide (0 ≤ b) && decide (b ≤ 40)) = false := by
      rcases h with h | h
      · simp [show ¬ 0 ≤ b by omega]
      · simp [show ¬ b ≤ 40 by omega]
    rw [e] at S
    unfold pair
    clear h e
    go_enter Tryz.func75, Tryz.ntmps75
    go_wp2_with (go_at_call 85; refine (S _).mono ?_; rintro e w' ⟨rfl, rfl⟩)
    go_ret2
    exact ⟨rfl, rfl⟩
  · rw [if_neg h]
    have e : (decide (0 ≤ b) && decide (b ≤ 40)) = true := by simp; omega
    rw [e] at S
    obtain ⟨k, rfl⟩ := Int.eq_ofNat_of_zero_le (show 0 ≤ b by omega)
    rw [Int.toNat_natCast]
    unfold pair
    have hk : (k : Int) ≤ 40 := by omega
    obtain ⟨a0, a1⟩ := ha
    clear h e
    go_enter Tryz.func75, Tryz.ntmps75
    go_wp2_with (first | (go_at_call 85; refine (S _).mono ?_; rintro e w' ⟨rfl, rfl⟩))
    go_ret2
    exact ⟨rfl, rfl⟩

/-- Which function a kind of two is done by. -/
def wayOf (k : Nat) : FuncId := if k = 5 then 70 else if k = 6 then 55 else if k = 7 then 71 else if k = 8 then 72 else if k = 9 then 73 else if k = 10 then 74 else 75

theorem hmf' : ∀ (fn : Fn) (first cap : Array Value) (w : World), (Instr.makeFunc fn first cap).run Tryz.prog w = .ok (.func fn first cap) w := fun _ _ _ _ => rfl

theorem way_any (a : Int) (k : Nat) (h5 : 5 ≤ k) (h11 : k ≤ 11) (w : World) : Calls Tryz.prog 56 #[.int .i64 a, .int .i64 k] w fun e w' => e = .returned (.func (.func (wayOf k)) #[.int .i64 a] #[]) ∧ w' = w := by
  have hmf := hmf'
  obtain rfl | rfl | rfl | rfl | rfl | rfl | rfl : k = 5 ∨ k = 6 ∨ k = 7 ∨ k = 8 ∨ k = 9 ∨ k = 10 ∨ k = 11 := by omega
  all_goals (
    go_enter Tryz.func56, Tryz.ntmps56
    go_wp2
    go_ret
    exact ⟨rfl, rfl⟩)

theorem wayOf_any (k : Nat) (h5 : 5 ≤ k) (h11 : k ≤ 11) (a b : Int) (ha : Amt a) (hb : Amt b) (w : World) : Calls Tryz.prog (wayOf k) #[.int .i64 a, .int .i64 b] w fun e w' => e = pair (reckonP k a b) ∧ w' = w := by
  obtain rfl | rfl | rfl | rfl | rfl | rfl | rfl : k = 5 ∨ k = 6 ∨ k = 7 ∨ k = 8 ∨ k = 9 ∨ k = 10 ∨ k = 11 := by omega
  · exact plus_any a b ha hb w
  · exact minus_any a b ha hb w
  · exact times_any a b ha hb w
  · exact and_any a b w
  · exact or_any a b w
  · exact left_any a b ha w
  · exact right_any a b ha w

theorem wayOf_enters (k : Nat) (h5 : 5 ≤ k) (h11 : k ≤ 11) : ∀ args w, (callFunc (wayOf k) args).run Tryz.prog w = .ok (.enter (wayOf k) args) w := by
  obtain rfl | rfl | rfl | rfl | rfl | rfl | rfl : k = 5 ∨ k = 6 ∨ k = 7 ∨ k = 8 ∨ k = 9 ∨ k = 10 ∨ k = 11 := by omega
  · exact enters_of Tryz.func70 (by kernel_rfl) rfl
  · exact enters_of Tryz.func55 (by kernel_rfl) rfl
  · exact enters_of Tryz.func71 (by kernel_rfl) rfl
  · exact enters_of Tryz.func72 (by kernel_rfl) rfl
  · exact enters_of Tryz.func73 (by kernel_rfl) rfl
  · exact enters_of Tryz.func74 (by kernel_rfl) rfl
  · exact enters_of Tryz.func75 (by kernel_rfl) rfl

theorem boundP_amt {n : Int} (h : (boundP n).2 = 0) : Amt (boundP n).1 := by
  unfold boundP at h ⊢
  split at h
  · simp at h
  · rename_i hn
    rw [if_neg hn]
    exact ⟨by simp; omega, by simp; omega⟩

theorem reckonP_amt {k : Nat} {a b : Int} (ha : Amt a) (h : (reckonP k a b).2 = 0) : Amt (reckonP k a b).1 := by
  unfold reckonP at h ⊢
  by_cases h5 : k = 5
  · rw [if_pos h5] at h ⊢; exact boundP_amt h
  rw [if_neg h5] at h ⊢
  by_cases h6 : k = 6
  · rw [if_pos h6] at h ⊢; exact boundP_amt h
  rw [if_neg h6] at h ⊢
  by_cases h7 : k = 7
  · rw [if_pos h7] at h ⊢; exact boundP_amt h
  rw [if_neg h7] at h ⊢
  by_cases h8 : k = 8
  · rw [if_pos h8] at h ⊢; exact boundP_amt h
  rw [if_neg h8] at h ⊢
  by_cases h9 : k = 9
  · rw [if_pos h9] at h ⊢; exact boundP_amt h
  rw [if_neg h9] at h ⊢
  by_cases hb : b < 0 ∨ 40 < b
  · rw [if_pos hb] at h; simp at h
  rw [if_neg hb] at h ⊢
  by_cases h10 : k = 10
  · rw [if_pos h10] at h ⊢; exact boundP_amt h
  rw [if_neg h10]
  have hp := (pow40 ⟨b.toNat, by omega⟩).2
  simp only at hp
  obtain ⟨a0, a1⟩ := ha
  constructor
  · show -1099511627776 ≤ a / 2 ^ b.toNat
    apply Int.le_ediv_of_mul_le hp
    have : (-1099511627776 : Int) * 2 ^ b.toNat ≤ -1099511627776 * 1 := Int.mul_le_mul_of_nonpos_left (by omega) (by omega)
    omega
  · show a / 2 ^ b.toNat ≤ 1099511627776
    apply Int.ediv_le_of_le_mul hp
    have : (1099511627776 : Int) * 1 ≤ 1099511627776 * 2 ^ b.toNat := Int.mul_le_mul_of_nonneg_left (by omega) (by omega)
    omega

theorem evalP_amt (here : Int) (syms : List (Bs × Int)) : ∀ (x : Ex), (evalP here syms x).2 = 0 → Amt (evalP here syms x).1
  | .zero, h => by simp [evalP] at h
  | .num n, h => boundP_amt h
  | .name s, h => by
    have : ∀ l, (namedP s l).2 = 0 → Amt (namedP s l).1 := by
      intro l
      induction l with
      | nil => intro h; simp [namedP] at h
      | cons p l ih =>
        intro h
        obtain ⟨t, v⟩ := p
        unfold namedP at h ⊢
        split at h
        · rename_i e; rw [if_pos e]; exact boundP_amt h
        · rename_i e; rw [if_neg e]; exact ih h
    exact this syms h
  | .here, h => by
    unfold evalP at h ⊢
    split at h
    · simp at h
    · rename_i e; rw [if_neg e]; exact ⟨by simp; omega, by simp; omega⟩
  | .neg x, h => by
    unfold evalP at h ⊢
    split at h
    · rename_i e; rw [if_pos e]; exact boundP_amt h
    · rename_i e; exact absurd h e
  | .two k x y, h => by
    unfold evalP at h ⊢
    split at h
    · rename_i e
      rw [if_pos e]
      split at h
      · rename_i e2; rw [if_pos e2]; exact reckonP_amt (evalP_amt here syms x e) h
      · rename_i e2; exact absurd h e2
    · rename_i e; exact absurd h e
end Go.Proofs.YtopfnfmglnjljaaGreatDoor
