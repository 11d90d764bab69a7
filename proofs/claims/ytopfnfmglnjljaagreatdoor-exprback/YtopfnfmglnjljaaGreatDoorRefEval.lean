/- The reference's bound, times, reckon, Eval. -/
import Derived.Test.YtopfnfmglnjljaaGreatDoorKids
namespace Go.Proofs.YtopfnfmglnjljaaGreatDoor
open Go.ChangeShapes Go.WideShapes Go.ChangeAt Go.RowKit
set_option linter.unusedVariables false
set_option linter.unusedSimpArgs false

theorem rbound_any (a : Int) (w : World) : Calls Tryz.prog 57 #[.int .i64 a] w fun e w' => e = pair (boundP a) ∧ w' = w := by
  unfold boundP pair
  by_cases h : a < -1099511627776
  · rw [if_pos (.inl h)]
    go_enter Tryz.func57, Tryz.ntmps57
    go_wp2
    go_ret2
    exact ⟨rfl, rfl⟩
  · by_cases h2 : 1099511627776 < a
    · rw [if_pos (.inr h2)]
      go_enter Tryz.func57, Tryz.ntmps57
      go_wp2
      go_ret2
      exact ⟨rfl, rfl⟩
    · rw [if_neg (by omega)]
      go_enter Tryz.func57, Tryz.ntmps57
      go_wp2
      go_ret2
      exact ⟨rfl, rfl⟩

theorem times_abs (a b : Int) : a * b = max a (-a) * max b (-b) ∨ a * b = -(max a (-a) * max b (-b)) := by
  have ha : max a (-a) = a ∨ max a (-a) = -a := by omega
  have hb : max b (-b) = b ∨ max b (-b) = -b := by omega
  rcases ha with ha | ha <;> rcases hb with hb | hb <;> rw [ha, hb]
  · exact .inl rfl
  · right; rw [Int.mul_neg, Int.neg_neg]
  · right; rw [Int.neg_mul, Int.neg_neg]
  · left; rw [Int.neg_mul, Int.mul_neg, Int.neg_neg]

theorem times_great (a b : Int) (hb : b ≠ 0) (h : 1099511627776 / max b (-b) < max a (-a)) : boundP (a * b) = (0, 6) := by
  have hn : 0 < max b (-b) := by omega
  have h2 : ¬ max a (-a) * max b (-b) ≤ 1099511627776 := by rw [← Int.le_ediv_iff_mul_le hn]; omega
  have h3 := times_abs a b
  generalize max a (-a) * max b (-b) = p at *
  unfold boundP
  rw [if_pos (by omega)]

theorem times_small (a b : Int) (hb : b ≠ 0) (h : max a (-a) ≤ 1099511627776 / max b (-b)) : boundP (a * b) = (a * b, 0) ∧ wrap64 (a * b) = a * b := by
  have hn : 0 < max b (-b) := by omega
  have h2 : max a (-a) * max b (-b) ≤ 1099511627776 := by rw [← Int.le_ediv_iff_mul_le hn]; omega
  have h3 := times_abs a b
  have h4 : 0 ≤ max a (-a) * max b (-b) := Int.mul_nonneg (by omega) (by omega)
  generalize max a (-a) * max b (-b) = p at *
  unfold boundP
  exact ⟨by rw [if_neg (by omega)], IntWalk.wrap64_in _ (by omega)⟩

theorem rtimes_any (a b : Int) (ha : Amt a) (hb : Amt b) (w : World) : Calls Tryz.prog 58 #[.int .i64 a, .int .i64 b] w fun e w' => e = pair (boundP (a * b)) ∧ w' = w := by
  obtain ⟨a0, a1⟩ := ha
  obtain ⟨b0, b1⟩ := hb
  by_cases ea : a = 0
  · subst ea
    rw [Int.zero_mul]
    unfold boundP pair
    rw [if_neg (by omega)]
    go_enter Tryz.func58, Tryz.ntmps58
    go_wp2
    go_ret2
    exact ⟨rfl, rfl⟩
  · by_cases eb : b = 0
    · subst eb
      rw [Int.mul_zero]
      unfold boundP pair
      rw [if_neg (by omega)]
      have e1 : (a == 0) = false := by simpa using ea
      go_enter Tryz.func58, Tryz.ntmps58
      go_wp2
      go_ret2
      exact ⟨rfl, rfl⟩
    · have e1 : (a == 0) = false := by simpa using ea
      have e2 : (b == 0) = false := by simpa using eb
      unfold pair
      by_cases h : 1099511627776 / max b (-b) < max a (-a)
      · rw [times_great a b eb h]
        go_enter Tryz.func58, Tryz.ntmps58
        go_wp2_with fail
        go_ret2
        exact ⟨rfl, rfl⟩
      · obtain ⟨q1, q2⟩ := times_small a b eb (by omega)
        rw [q1]
        have HQ : Hid (wrap64 (a * b) = a * b) := q2
        clear q1 q2
        go_enter Tryz.func58, Tryz.ntmps58
        go_wp2_with fail
        go_ret2
        rw [HQ.out]
        exact ⟨rfl, rfl⟩

theorem rreckon_any (k : Nat) (h5 : 5 ≤ k) (h11 : k ≤ 11) (a b : Int) (ha : Amt a) (hb : Amt b) (w : World) : Calls Tryz.prog 39 #[.int .i64 k, .int .i64 a, .int .i64 b] w fun e w' => e = pair (reckonP k a b) ∧ w' = w := by
  have B := fun n W => rbound_any n W
  obtain ⟨a0, a1⟩ := id ha
  obtain ⟨b0, b1⟩ := id hb
  obtain rfl | rfl | rfl | rfl | rfl | rfl | rfl : k = 5 ∨ k = 6 ∨ k = 7 ∨ k = 8 ∨ k = 9 ∨ k = 10 ∨ k = 11 := by omega
  · rw [show reckonP 5 a b = boundP (a + b) from rfl]
    unfold pair at B ⊢
    go_enter Tryz.func39, Tryz.ntmps39
    go_wp2_with fail
    refine (B _ _).mono ?_
    rintro e w' ⟨rfl, rfl⟩
    go_wp2_with fail
    go_ret2
    exact ⟨rfl, rfl⟩
  · rw [show reckonP 6 a b = boundP (a - b) from rfl]
    unfold pair at B ⊢
    go_enter Tryz.func39, Tryz.ntmps39
    go_wp2_with fail
    refine (B _ _).mono ?_
    rintro e w' ⟨rfl, rfl⟩
    go_wp2_with fail
    go_ret2
    exact ⟨rfl, rfl⟩
  · rw [show reckonP 7 a b = boundP (a * b) from rfl]
    have M := rtimes_any a b ha hb
    unfold pair at M ⊢
    go_enter Tryz.func39, Tryz.ntmps39
    go_wp2_with fail
    refine (M _).mono ?_
    rintro e w' ⟨rfl, rfl⟩
    go_wp2_with fail
    go_ret2
    exact ⟨rfl, rfl⟩
  · rw [show reckonP 8 a b = boundP (bits .and .i64 a b) from rfl]
    unfold pair at B ⊢
    go_enter Tryz.func39, Tryz.ntmps39
    go_wp2_with fail
    refine (B _ _).mono ?_
    rintro e w' ⟨rfl, rfl⟩
    go_wp2_with fail
    go_ret2
    exact ⟨rfl, rfl⟩
  · rw [show reckonP 9 a b = boundP (bits .or .i64 a b) from rfl]
    unfold pair at B ⊢
    go_enter Tryz.func39, Tryz.ntmps39
    go_wp2_with fail
    refine (B _ _).mono ?_
    rintro e w' ⟨rfl, rfl⟩
    go_wp2_with fail
    go_ret2
    exact ⟨rfl, rfl⟩
  · rw [show reckonP 10 a b = if b < 0 ∨ 40 < b then (0, 6) else boundP (a * 2 ^ b.toNat) from rfl]
    by_cases h : b < 0 ∨ 40 < b
    · rw [if_pos h]
      unfold pair
      rcases h with h | h
      all_goals
        go_enter Tryz.func39, Tryz.ntmps39
        go_wp2_with fail
        go_ret2
        exact ⟨rfl, rfl⟩
    · rw [if_neg h]
      obtain ⟨k, rfl⟩ := Int.eq_ofNat_of_zero_le (show 0 ≤ b by omega)
      have hp := pow40 ⟨k, by omega⟩
      simp only at hp
      have M := fun W => rtimes_any a (2 ^ k) ha ⟨by omega, hp.1⟩ W
      rw [Int.toNat_natCast]
      unfold pair at M ⊢
      have hk : (k : Int) ≤ 40 := by omega
      clear h B
      go_enter Tryz.func39, Tryz.ntmps39
      go_wp2_with fail
      refine (M _).mono ?_
      rintro e w' ⟨rfl, rfl⟩
      go_wp2_with fail
      go_ret2
      exact ⟨rfl, rfl⟩
  · rw [show reckonP 11 a b = if b < 0 ∨ 40 < b then (0, 6) else (a / 2 ^ b.toNat, 0) from rfl]
    by_cases h : b < 0 ∨ 40 < b
    · rw [if_pos h]
      unfold pair
      rcases h with h | h
      all_goals
        go_enter Tryz.func39, Tryz.ntmps39
        go_wp2_with fail
        go_ret2
        exact ⟨rfl, rfl⟩
    · rw [if_neg h]
      obtain ⟨k, rfl⟩ := Int.eq_ofNat_of_zero_le (show 0 ≤ b by omega)
      rw [Int.toNat_natCast]
      unfold pair
      have hk : (k : Int) ≤ 40 := by omega
      clear h B
      go_enter Tryz.func39, Tryz.ntmps39
      go_wp2_with fail
      go_ret2
      exact ⟨rfl, rfl⟩
end Go.Proofs.YtopfnfmglnjljaaGreatDoor
