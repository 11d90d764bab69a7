/- Contracts of Split, Joined, of the program and of the reference; and of 'known'. -/
import Derived.Test.YtagplfochalidabDoorSci2
namespace Go.Proofs.YtagplfochalidabDoor
open Go.ChangeShapes Go.WideShapes Go.ChangeAt Go.RowKit
open Plain
set_option linter.unusedVariables false
set_option linter.unusedSimpArgs false

theorem or_i64 (i : Nat) (x y : Int) (hi : i ≤ 62) (hx0 : 0 ≤ x) (hx : x % 2 ^ i = 0) (hx1 : x < 4611686018427387904) (hy0 : 0 ≤ y) (hy : y < 2 ^ i) : bits .or .i64 x y = x + y := by
  have := pow62 i hi
  exact bits_join .i64 62 (by decide) (fun n h0 h1 => by rw [IntKind.wrap_i64]; omega) i x y hx0 hx (by omega) hy0 hy (by omega)

theorem joined_bits (h m l : Int) (h0 : 0 ≤ h) (h1 : h ≤ 15) (m0 : 0 ≤ m) (m1 : m ≤ 31) (l0 : 0 ≤ l) (l1 : l ≤ 2047) :
    bits .or .i64 (h * 65536) (m * 2048) = h * 65536 + m * 2048 ∧ bits .or .i64 (h * 65536 + m * 2048) l = h * 65536 + m * 2048 + l := by
  constructor
  · exact or_i64 16 _ _ (by omega) (by omega) (by omega) (by omega) (by omega) (by omega)
  · exact or_i64 11 _ _ (by omega) (by omega) (by omega) (by omega) (by omega) (by omega)

theorem immSplit_any (v : Int) (c : fitsP v 20 = true) (w : World) :
    Calls Tryd.prog 59 #[.int .i64 v] w fun e w' => e = .returned (.tuple #[.int .i64 (v / 65536 % 16), .int .i64 (v / 2048 % 32), .int .i64 (v % 2048)]) ∧ ∃ n, w' = w.drewN n := by
  have p : (2 : Int) ^ (20 - 1) = 524288 := by decide
  have hv : -524288 ≤ v ∧ v < 524288 := by
    have c' := c
    simp only [fitsP, p, Bool.and_eq_true, decide_eq_true_eq] at c'
    exact c'
  have hx0 : 0 ≤ v % 4294967296 := by omega
  have hx1 : v % 4294967296 < 4294967296 := by omega
  go_enter Tryd.func59, Tryd.ntmps59
  go_wp2_with fail
  refine (immFits_any v 20 (by omega) (by omega) (by omega) (by omega) _).mono ?_
  rintro e w' ⟨rfl, rfl⟩
  go_wp2_with fail
  refine (part_any _ _ _ hx0 hx1 (by omega) (by omega) (by omega) (by omega) _).mono ?_
  rintro e w' ⟨rfl, n1, rfl⟩
  go_wp2_with fail
  refine (part_any _ _ _ hx0 hx1 (by omega) (by omega) (by omega) (by omega) _).mono ?_
  rintro e w' ⟨rfl, n2, rfl⟩
  go_wp2_with fail
  refine (part_any _ _ _ hx0 hx1 (by omega) (by omega) (by omega) (by omega) _).mono ?_
  rintro e w' ⟨rfl, n3, rfl⟩
  go_wp2
  go_ret3
  refine ⟨?_, _, rfl⟩
  have e1 : v % 4294967296 / 65536 % 16 = v / 65536 % 16 := by omega
  have e2 : v % 4294967296 / 2048 % 32 = v / 2048 % 32 := by omega
  have e3 : v % 4294967296 % 2048 = v % 2048 := by omega
  simp [e1, e2, e3]

theorem immJoined_any (h m l : Int) (h0 : 0 ≤ h) (h1 : h ≤ 15) (m0 : 0 ≤ m) (m1 : m ≤ 31) (l0 : 0 ≤ l) (l1 : l ≤ 2047) (w : World) :
    Calls Tryd.prog 60 #[.int .i64 h, .int .i64 m, .int .i64 l] w fun e w' => w = w' ∧ e = .returned (.int .i64 (signP (h * 65536 + m * 2048 + l) 20)) := by
  have a1 : decide (0 ≤ h) = true := by simp; omega
  have a2 : decide (h ≤ 15) = true := by simp; omega
  have a3 : decide (0 ≤ m) = true := by simp; omega
  have a4 : decide (m ≤ 31) = true := by simp; omega
  have a5 : decide (0 ≤ l) = true := by simp; omega
  have a6 : decide (l ≤ 2047) = true := by simp; omega
  obtain ⟨b1, b2⟩ := joined_bits h m l h0 h1 m0 m1 l0 l1
  go_enter Tryd.func60, Tryd.ntmps60
  go_wp2_with (first | (go_at_call 76; refine (upTo_any _ _ _).mono ?_; rintro e w' ⟨rfl, rfl⟩))
  refine (immSign_any _ 20 (by omega) (by omega) _).mono ?_
  rintro e w' ⟨rfl, rfl⟩
  go_wp2
  go_ret
  simp

end Go.Proofs.YtagplfochalidabDoor
