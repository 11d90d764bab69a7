/- Contracts of Back, of the program and of the reference. -/
import Derived.Test.YtagplfochalidabDoorLeaf
namespace Go.Proofs.YtagplfochalidabDoor
open Go.ChangeShapes Go.WideShapes Go.ChangeAt Go.RowKit
open Plain
set_option linter.unusedVariables false
set_option linter.unusedSimpArgs false

theorem wrap32_sign (n : Int) : wrap32 n = signP n 32 := by
  unfold wrap32 signP
  simp

theorem filled_quiet (n : Int) (w : World) :
    Calls Tryd.prog 80 #[.int .i64 n] w fun e w' => e = .returned (.int .u32 (if n = 1 then 4294967295 else 0)) ∧ w' = w :=
  (filled_any n w).mono fun e w' h => ⟨h.2, h.1.symm⟩

/-- Four bytes of which one is u. -/
theorem or_bytes (f s : Int) (F M P : Int) (h : ∀ u : Fin 256, bits .or .u32 (bits .andNot .u32 F M) ((u.val : Int) * P) = backU f s (u.val : Int))
    (u : Int) (h0 : 0 ≤ u) (h1 : u ≤ 255) : bits .or .u32 (bits .andNot .u32 F M) (u * P) = backU f s u := by
  have := h ⟨u.toNat, by omega⟩
  rwa [show ((u.toNat : Nat) : Int) = u by omega] at this

theorem immBack_00 (u : Int) (h0 : 0 ≤ u) (h1 : u ≤ 255) (w : World) :
    Calls Tryd.prog 63 #[.int .i64 0, .int .i64 0, .int .i64 u] w fun e w' => e = .returned (.int .i64 (backP 0 0 u)) ∧ ∃ n, w' = w.drewN n := by
  have a1 : decide (u ≤ 255) = true := by simp; omega
  have a2 : decide (0 ≤ u) = true := by simp; omega
  have a3 := or_bytes 0 0 0 255 1 (by decide +kernel) u h0 h1
  rw [Int.mul_one] at a3
  go_enter Tryd.func63, Tryd.ntmps63
  go_wp2_with (first | (go_at_call 76; refine (upTo_any _ _ _).mono ?_; rintro e w' ⟨rfl, rfl⟩))
  go_quiet (first | (go_at_call 80; exact Calls.quiet_of_same (filled_quiet _ _)))
  go_wp2_with (first | (go_at_call 77; refine (signed_any _ _).mono ?_; rintro e w' ⟨rfl, rfl⟩))
  go_ret
  exact ⟨by simp [a3, wrap32_sign, backP], _, rfl⟩

theorem immBack_01 (u : Int) (h0 : 0 ≤ u) (h1 : u ≤ 255) (w : World) :
    Calls Tryd.prog 63 #[.int .i64 0, .int .i64 1, .int .i64 u] w fun e w' => e = .returned (.int .i64 (backP 0 1 u)) ∧ ∃ n, w' = w.drewN n := by
  have a1 : decide (u ≤ 255) = true := by simp; omega
  have a2 : decide (0 ≤ u) = true := by simp; omega
  have a3 := or_bytes 0 1 0 65280 256 (by decide +kernel) u h0 h1
  go_enter Tryd.func63, Tryd.ntmps63
  go_wp2_with (first | (go_at_call 76; refine (upTo_any _ _ _).mono ?_; rintro e w' ⟨rfl, rfl⟩))
  go_quiet (first | (go_at_call 80; exact Calls.quiet_of_same (filled_quiet _ _)))
  go_wp2_with (first | (go_at_call 77; refine (signed_any _ _).mono ?_; rintro e w' ⟨rfl, rfl⟩))
  go_ret
  exact ⟨by simp [a3, wrap32_sign, backP], _, rfl⟩

theorem immBack_02 (u : Int) (h0 : 0 ≤ u) (h1 : u ≤ 255) (w : World) :
    Calls Tryd.prog 63 #[.int .i64 0, .int .i64 2, .int .i64 u] w fun e w' => e = .returned (.int .i64 (backP 0 2 u)) ∧ ∃ n, w' = w.drewN n := by
  have a1 : decide (u ≤ 255) = true := by simp; omega
  have a2 : decide (0 ≤ u) = true := by simp; omega
  have a3 := or_bytes 0 2 0 16711680 65536 (by decide +kernel) u h0 h1
  go_enter Tryd.func63, Tryd.ntmps63
  go_wp2_with (first | (go_at_call 76; refine (upTo_any _ _ _).mono ?_; rintro e w' ⟨rfl, rfl⟩))
  go_quiet (first | (go_at_call 80; exact Calls.quiet_of_same (filled_quiet _ _)))
  go_wp2_with (first | (go_at_call 77; refine (signed_any _ _).mono ?_; rintro e w' ⟨rfl, rfl⟩))
  go_ret
  exact ⟨by simp [a3, wrap32_sign, backP], _, rfl⟩

theorem immBack_03 (u : Int) (h0 : 0 ≤ u) (h1 : u ≤ 255) (w : World) :
    Calls Tryd.prog 63 #[.int .i64 0, .int .i64 3, .int .i64 u] w fun e w' => e = .returned (.int .i64 (backP 0 3 u)) ∧ ∃ n, w' = w.drewN n := by
  have a1 : decide (u ≤ 255) = true := by simp; omega
  have a2 : decide (0 ≤ u) = true := by simp; omega
  have a3 := or_bytes 0 3 0 4278190080 16777216 (by decide +kernel) u h0 h1
  go_enter Tryd.func63, Tryd.ntmps63
  go_wp2_with (first | (go_at_call 76; refine (upTo_any _ _ _).mono ?_; rintro e w' ⟨rfl, rfl⟩))
  go_quiet (first | (go_at_call 80; exact Calls.quiet_of_same (filled_quiet _ _)))
  go_wp2_with (first | (go_at_call 77; refine (signed_any _ _).mono ?_; rintro e w' ⟨rfl, rfl⟩))
  go_ret
  exact ⟨by simp [a3, wrap32_sign, backP], _, rfl⟩

theorem immBack_10 (u : Int) (h0 : 0 ≤ u) (h1 : u ≤ 255) (w : World) :
    Calls Tryd.prog 63 #[.int .i64 1, .int .i64 0, .int .i64 u] w fun e w' => e = .returned (.int .i64 (backP 1 0 u)) ∧ ∃ n, w' = w.drewN n := by
  have a1 : decide (u ≤ 255) = true := by simp; omega
  have a2 : decide (0 ≤ u) = true := by simp; omega
  have a3 := or_bytes 1 0 4294967295 255 1 (by decide +kernel) u h0 h1
  rw [Int.mul_one] at a3
  go_enter Tryd.func63, Tryd.ntmps63
  go_wp2_with (first | (go_at_call 76; refine (upTo_any _ _ _).mono ?_; rintro e w' ⟨rfl, rfl⟩))
  go_quiet (first | (go_at_call 80; exact Calls.quiet_of_same (filled_quiet _ _)))
  go_wp2_with (first | (go_at_call 77; refine (signed_any _ _).mono ?_; rintro e w' ⟨rfl, rfl⟩))
  go_ret
  exact ⟨by simp [a3, wrap32_sign, backP], _, rfl⟩

theorem immBack_11 (u : Int) (h0 : 0 ≤ u) (h1 : u ≤ 255) (w : World) :
    Calls Tryd.prog 63 #[.int .i64 1, .int .i64 1, .int .i64 u] w fun e w' => e = .returned (.int .i64 (backP 1 1 u)) ∧ ∃ n, w' = w.drewN n := by
  have a1 : decide (u ≤ 255) = true := by simp; omega
  have a2 : decide (0 ≤ u) = true := by simp; omega
  have a3 := or_bytes 1 1 4294967295 65280 256 (by decide +kernel) u h0 h1
  go_enter Tryd.func63, Tryd.ntmps63
  go_wp2_with (first | (go_at_call 76; refine (upTo_any _ _ _).mono ?_; rintro e w' ⟨rfl, rfl⟩))
  go_quiet (first | (go_at_call 80; exact Calls.quiet_of_same (filled_quiet _ _)))
  go_wp2_with (first | (go_at_call 77; refine (signed_any _ _).mono ?_; rintro e w' ⟨rfl, rfl⟩))
  go_ret
  exact ⟨by simp [a3, wrap32_sign, backP], _, rfl⟩

theorem immBack_12 (u : Int) (h0 : 0 ≤ u) (h1 : u ≤ 255) (w : World) :
    Calls Tryd.prog 63 #[.int .i64 1, .int .i64 2, .int .i64 u] w fun e w' => e = .returned (.int .i64 (backP 1 2 u)) ∧ ∃ n, w' = w.drewN n := by
  have a1 : decide (u ≤ 255) = true := by simp; omega
  have a2 : decide (0 ≤ u) = true := by simp; omega
  have a3 := or_bytes 1 2 4294967295 16711680 65536 (by decide +kernel) u h0 h1
  go_enter Tryd.func63, Tryd.ntmps63
  go_wp2_with (first | (go_at_call 76; refine (upTo_any _ _ _).mono ?_; rintro e w' ⟨rfl, rfl⟩))
  go_quiet (first | (go_at_call 80; exact Calls.quiet_of_same (filled_quiet _ _)))
  go_wp2_with (first | (go_at_call 77; refine (signed_any _ _).mono ?_; rintro e w' ⟨rfl, rfl⟩))
  go_ret
  exact ⟨by simp [a3, wrap32_sign, backP], _, rfl⟩

theorem immBack_13 (u : Int) (h0 : 0 ≤ u) (h1 : u ≤ 255) (w : World) :
    Calls Tryd.prog 63 #[.int .i64 1, .int .i64 3, .int .i64 u] w fun e w' => e = .returned (.int .i64 (backP 1 3 u)) ∧ ∃ n, w' = w.drewN n := by
  have a1 : decide (u ≤ 255) = true := by simp; omega
  have a2 : decide (0 ≤ u) = true := by simp; omega
  have a3 := or_bytes 1 3 4294967295 4278190080 16777216 (by decide +kernel) u h0 h1
  go_enter Tryd.func63, Tryd.ntmps63
  go_wp2_with (first | (go_at_call 76; refine (upTo_any _ _ _).mono ?_; rintro e w' ⟨rfl, rfl⟩))
  go_quiet (first | (go_at_call 80; exact Calls.quiet_of_same (filled_quiet _ _)))
  go_wp2_with (first | (go_at_call 77; refine (signed_any _ _).mono ?_; rintro e w' ⟨rfl, rfl⟩))
  go_ret
  exact ⟨by simp [a3, wrap32_sign, backP], _, rfl⟩

theorem immBack_any (f s u : Int) (f0 : 0 ≤ f) (f1 : f ≤ 1) (s0 : 0 ≤ s) (s1 : s ≤ 3) (h0 : 0 ≤ u) (h1 : u ≤ 255) (w : World) :
    Calls Tryd.prog 63 #[.int .i64 f, .int .i64 s, .int .i64 u] w fun e w' => e = .returned (.int .i64 (backP f s u)) ∧ ∃ n, w' = w.drewN n := by
  have hf : f = 0 ∨ f = 1 := by omega
  have hs : s = 0 ∨ s = 1 ∨ s = 2 ∨ s = 3 := by omega
  rcases hf with rfl | rfl <;> rcases hs with rfl | rfl | rfl | rfl
  · exact immBack_00 u h0 h1 w
  · exact immBack_01 u h0 h1 w
  · exact immBack_02 u h0 h1 w
  · exact immBack_03 u h0 h1 w
  · exact immBack_10 u h0 h1 w
  · exact immBack_11 u h0 h1 w
  · exact immBack_12 u h0 h1 w
  · exact immBack_13 u h0 h1 w

end Go.Proofs.YtagplfochalidabDoor
