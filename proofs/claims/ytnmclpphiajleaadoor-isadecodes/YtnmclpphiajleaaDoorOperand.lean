/- The contract of the law's own operands: of a kind, by a number. -/
import Derived.Test.YtnmclpphiajleaaDoorKnown
namespace Go.Proofs.YtnmclpphiajleaaDoor
open Go.ChangeShapes Go.WideShapes Go.ChangeAt Go.RowKit
open Plain
set_option linter.unusedVariables false
set_option linter.unusedSimpArgs false

def nth (l : List Int) (n : Int) : Int := l.getD (n % 9).toNat 0
def lreg : List Int := [0, 1, 7, 24, 31, 5, 28, 3, 30]
def lfive : List Int := [0, 31, 1, 15, 16, 7, 30, 12, 3]
def lU7 : List Int := [0, 127, 64, 1, 63, 100, 7, 15, 16]
def lO5 : List Int := [1, 32, 2, 16, 31, 17, 8, 5, 30]
def lfour : List Int := [0, 15, 1, 7, 8, 4, 12, 3, 14]
def lS16 : List Int := [0, 32767, -32768, -1, 1, 255, -256, 4660, -4660]
def lC8 : List Int := [0, 255, 256, 65280, -1, -2, 16711680, -256, 2130706432]

/-- The operand that the laws take, of a kind, by a number. -/
def K.opd : K → Int → Int
  | kX, n => nth lreg n
  | kY, n => nth lreg n
  | kU5, n => nth lfive n
  | kU7, n => nth lU7 n
  | kO5, n => nth lO5 n
  | kM1, n => nth lfour n
  | kM2, n => 2 * nth lfour n
  | kM4, n => 4 * nth lfour n
  | kO1, n => n % 2
  | kI2, n => n % 4
  | kT8, n => 2 * (n % 256 - 128)
  | kD, n => nth lfive n
  | kA, n => nth lfive n
  | kB, n => nth lfive n
  | kS16, n => nth lS16 n
  | kL20, n => n % 1048576 - 524288
  | kC8, n => nth lC8 n
  | kO2, n => n % 4
  | kI4, n => nth lfour n
  | kT15, n => 2 * (n % 32768 - 16384)
  | kT24, n => 2 * (n % 16777216 - 8388608)

theorem nth_cell (l : List Int) (hl : l.length = 9) (n : Int) (h : (n % 9).toNat < (l.map fun x => Value.int .i64 x).length) : (l.map fun x => Value.int .i64 x)[(n % 9).toNat] = .int .i64 (nth l n) := by
  have h' : (n % 9).toNat < l.length := by omega
  unfold nth
  rw [List.getElem_map, List.getD_eq_getElem?_getD, List.getElem?_eq_getElem h']
  rfl

set_option maxHeartbeats 800000 in
theorem operand_X (n : Int) (w : World) : Calls Tryd.prog 21 #[.string ⟨#[88]⟩, .int .i64 n] w fun e w' => e = .returned (.int .i64 (K.opd .kX n)) ∧ Below w.heap.size w w' := by
  have W9 := fun W => within_any n 9 (by omega) (by omega) W
  have hc : ∀ h, ([.int .i64 0, .int .i64 1, .int .i64 7, .int .i64 24, .int .i64 31, .int .i64 5, .int .i64 28, .int .i64 3, .int .i64 30] : List Value)[(n % 9).toNat]'h = .int .i64 (nth lreg n) := fun h => nth_cell lreg rfl n h
  have h0 : 0 ≤ n % 9 := by omega
  have h1 : n % 9 < 9 := by omega
  have hr : -2130706432 ≤ nth lreg n ∧ nth lreg n ≤ 2130706432 := by
    have : ∀ j : Fin 9, -2130706432 ≤ lreg.getD j.val 0 ∧ lreg.getD j.val 0 ≤ 2130706432 := by decide
    exact this ⟨(n % 9).toNat, by omega⟩
  obtain ⟨hr0, hr1⟩ := hr
  show Calls _ _ _ _ fun e w' => e = .returned (.int .i64 (nth lreg n)) ∧ Below w.heap.size w w'
  generalize nth lreg n = v at *
  go_enter Tryd.func21, Tryd.ntmps21
  go_wp2_with (go_at_call 7; refine (W9 _).mono ?_; rintro e w' ⟨rfl, rfl⟩)
  go_ret
  exact ⟨rfl, (Below.refl _ _).alloc (Nat.le_refl _) _⟩

set_option maxHeartbeats 800000 in
theorem operand_Y (n : Int) (w : World) : Calls Tryd.prog 21 #[.string ⟨#[89]⟩, .int .i64 n] w fun e w' => e = .returned (.int .i64 (K.opd .kY n)) ∧ Below w.heap.size w w' := by
  have W9 := fun W => within_any n 9 (by omega) (by omega) W
  have hc : ∀ h, ([.int .i64 0, .int .i64 1, .int .i64 7, .int .i64 24, .int .i64 31, .int .i64 5, .int .i64 28, .int .i64 3, .int .i64 30] : List Value)[(n % 9).toNat]'h = .int .i64 (nth lreg n) := fun h => nth_cell lreg rfl n h
  have h0 : 0 ≤ n % 9 := by omega
  have h1 : n % 9 < 9 := by omega
  have hr : -2130706432 ≤ nth lreg n ∧ nth lreg n ≤ 2130706432 := by
    have : ∀ j : Fin 9, -2130706432 ≤ lreg.getD j.val 0 ∧ lreg.getD j.val 0 ≤ 2130706432 := by decide
    exact this ⟨(n % 9).toNat, by omega⟩
  obtain ⟨hr0, hr1⟩ := hr
  show Calls _ _ _ _ fun e w' => e = .returned (.int .i64 (nth lreg n)) ∧ Below w.heap.size w w'
  generalize nth lreg n = v at *
  go_enter Tryd.func21, Tryd.ntmps21
  go_wp2_with (go_at_call 7; refine (W9 _).mono ?_; rintro e w' ⟨rfl, rfl⟩)
  go_ret
  exact ⟨rfl, (Below.refl _ _).alloc (Nat.le_refl _) _⟩

set_option maxHeartbeats 800000 in
theorem operand_U5 (n : Int) (w : World) : Calls Tryd.prog 21 #[.string ⟨#[85, 53]⟩, .int .i64 n] w fun e w' => e = .returned (.int .i64 (K.opd .kU5 n)) ∧ Below w.heap.size w w' := by
  have W9 := fun W => within_any n 9 (by omega) (by omega) W
  have hc : ∀ h, ([.int .i64 0, .int .i64 31, .int .i64 1, .int .i64 15, .int .i64 16, .int .i64 7, .int .i64 30, .int .i64 12, .int .i64 3] : List Value)[(n % 9).toNat]'h = .int .i64 (nth lfive n) := fun h => nth_cell lfive rfl n h
  have h0 : 0 ≤ n % 9 := by omega
  have h1 : n % 9 < 9 := by omega
  have hr : -2130706432 ≤ nth lfive n ∧ nth lfive n ≤ 2130706432 := by
    have : ∀ j : Fin 9, -2130706432 ≤ lfive.getD j.val 0 ∧ lfive.getD j.val 0 ≤ 2130706432 := by decide
    exact this ⟨(n % 9).toNat, by omega⟩
  obtain ⟨hr0, hr1⟩ := hr
  show Calls _ _ _ _ fun e w' => e = .returned (.int .i64 (nth lfive n)) ∧ Below w.heap.size w w'
  generalize nth lfive n = v at *
  go_enter Tryd.func21, Tryd.ntmps21
  go_wp2_with (go_at_call 7; refine (W9 _).mono ?_; rintro e w' ⟨rfl, rfl⟩)
  go_ret
  exact ⟨rfl, (Below.refl _ _).alloc (Nat.le_refl _) _⟩

set_option maxHeartbeats 800000 in
theorem operand_U7 (n : Int) (w : World) : Calls Tryd.prog 21 #[.string ⟨#[85, 55]⟩, .int .i64 n] w fun e w' => e = .returned (.int .i64 (K.opd .kU7 n)) ∧ Below w.heap.size w w' := by
  have W9 := fun W => within_any n 9 (by omega) (by omega) W
  have hc : ∀ h, ([.int .i64 0, .int .i64 127, .int .i64 64, .int .i64 1, .int .i64 63, .int .i64 100, .int .i64 7, .int .i64 15, .int .i64 16] : List Value)[(n % 9).toNat]'h = .int .i64 (nth lU7 n) := fun h => nth_cell lU7 rfl n h
  have h0 : 0 ≤ n % 9 := by omega
  have h1 : n % 9 < 9 := by omega
  have hr : -2130706432 ≤ nth lU7 n ∧ nth lU7 n ≤ 2130706432 := by
    have : ∀ j : Fin 9, -2130706432 ≤ lU7.getD j.val 0 ∧ lU7.getD j.val 0 ≤ 2130706432 := by decide
    exact this ⟨(n % 9).toNat, by omega⟩
  obtain ⟨hr0, hr1⟩ := hr
  show Calls _ _ _ _ fun e w' => e = .returned (.int .i64 (nth lU7 n)) ∧ Below w.heap.size w w'
  generalize nth lU7 n = v at *
  go_enter Tryd.func21, Tryd.ntmps21
  go_wp2_with (go_at_call 7; refine (W9 _).mono ?_; rintro e w' ⟨rfl, rfl⟩)
  go_ret
  exact ⟨rfl, (Below.refl _ _).alloc (Nat.le_refl _) _⟩

set_option maxHeartbeats 800000 in
theorem operand_O5 (n : Int) (w : World) : Calls Tryd.prog 21 #[.string ⟨#[79, 53]⟩, .int .i64 n] w fun e w' => e = .returned (.int .i64 (K.opd .kO5 n)) ∧ Below w.heap.size w w' := by
  have W9 := fun W => within_any n 9 (by omega) (by omega) W
  have hc : ∀ h, ([.int .i64 1, .int .i64 32, .int .i64 2, .int .i64 16, .int .i64 31, .int .i64 17, .int .i64 8, .int .i64 5, .int .i64 30] : List Value)[(n % 9).toNat]'h = .int .i64 (nth lO5 n) := fun h => nth_cell lO5 rfl n h
  have h0 : 0 ≤ n % 9 := by omega
  have h1 : n % 9 < 9 := by omega
  have hr : -2130706432 ≤ nth lO5 n ∧ nth lO5 n ≤ 2130706432 := by
    have : ∀ j : Fin 9, -2130706432 ≤ lO5.getD j.val 0 ∧ lO5.getD j.val 0 ≤ 2130706432 := by decide
    exact this ⟨(n % 9).toNat, by omega⟩
  obtain ⟨hr0, hr1⟩ := hr
  show Calls _ _ _ _ fun e w' => e = .returned (.int .i64 (nth lO5 n)) ∧ Below w.heap.size w w'
  generalize nth lO5 n = v at *
  go_enter Tryd.func21, Tryd.ntmps21
  go_wp2_with (go_at_call 7; refine (W9 _).mono ?_; rintro e w' ⟨rfl, rfl⟩)
  go_ret
  exact ⟨rfl, (Below.refl _ _).alloc (Nat.le_refl _) _⟩

set_option maxHeartbeats 800000 in
theorem operand_M1 (n : Int) (w : World) : Calls Tryd.prog 21 #[.string ⟨#[77, 49]⟩, .int .i64 n] w fun e w' => e = .returned (.int .i64 (K.opd .kM1 n)) ∧ Below w.heap.size w w' := by
  have W9 := fun W => within_any n 9 (by omega) (by omega) W
  have hc : ∀ h, ([.int .i64 0, .int .i64 15, .int .i64 1, .int .i64 7, .int .i64 8, .int .i64 4, .int .i64 12, .int .i64 3, .int .i64 14] : List Value)[(n % 9).toNat]'h = .int .i64 (nth lfour n) := fun h => nth_cell lfour rfl n h
  have h0 : 0 ≤ n % 9 := by omega
  have h1 : n % 9 < 9 := by omega
  have hr : -2130706432 ≤ nth lfour n ∧ nth lfour n ≤ 2130706432 := by
    have : ∀ j : Fin 9, -2130706432 ≤ lfour.getD j.val 0 ∧ lfour.getD j.val 0 ≤ 2130706432 := by decide
    exact this ⟨(n % 9).toNat, by omega⟩
  obtain ⟨hr0, hr1⟩ := hr
  show Calls _ _ _ _ fun e w' => e = .returned (.int .i64 (nth lfour n)) ∧ Below w.heap.size w w'
  generalize nth lfour n = v at *
  go_enter Tryd.func21, Tryd.ntmps21
  go_wp2_with (go_at_call 7; refine (W9 _).mono ?_; rintro e w' ⟨rfl, rfl⟩)
  go_ret
  exact ⟨rfl, (Below.refl _ _).alloc (Nat.le_refl _) _⟩

set_option maxHeartbeats 800000 in
theorem operand_M2 (n : Int) (w : World) : Calls Tryd.prog 21 #[.string ⟨#[77, 50]⟩, .int .i64 n] w fun e w' => e = .returned (.int .i64 (K.opd .kM2 n)) ∧ Below w.heap.size w w' := by
  have W9 := fun W => within_any n 9 (by omega) (by omega) W
  have hc : ∀ h, ([.int .i64 0, .int .i64 15, .int .i64 1, .int .i64 7, .int .i64 8, .int .i64 4, .int .i64 12, .int .i64 3, .int .i64 14] : List Value)[(n % 9).toNat]'h = .int .i64 (nth lfour n) := fun h => nth_cell lfour rfl n h
  have h0 : 0 ≤ n % 9 := by omega
  have h1 : n % 9 < 9 := by omega
  have hr : -2130706432 ≤ nth lfour n ∧ nth lfour n ≤ 2130706432 := by
    have : ∀ j : Fin 9, -2130706432 ≤ lfour.getD j.val 0 ∧ lfour.getD j.val 0 ≤ 2130706432 := by decide
    exact this ⟨(n % 9).toNat, by omega⟩
  obtain ⟨hr0, hr1⟩ := hr
  show Calls _ _ _ _ fun e w' => e = .returned (.int .i64 (2 * nth lfour n)) ∧ Below w.heap.size w w'
  generalize nth lfour n = v at *
  go_enter Tryd.func21, Tryd.ntmps21
  go_wp2_with (go_at_call 7; refine (W9 _).mono ?_; rintro e w' ⟨rfl, rfl⟩)
  go_ret
  exact ⟨rfl, (Below.refl _ _).alloc (Nat.le_refl _) _⟩

set_option maxHeartbeats 800000 in
theorem operand_M4 (n : Int) (w : World) : Calls Tryd.prog 21 #[.string ⟨#[77, 52]⟩, .int .i64 n] w fun e w' => e = .returned (.int .i64 (K.opd .kM4 n)) ∧ Below w.heap.size w w' := by
  have W9 := fun W => within_any n 9 (by omega) (by omega) W
  have hc : ∀ h, ([.int .i64 0, .int .i64 15, .int .i64 1, .int .i64 7, .int .i64 8, .int .i64 4, .int .i64 12, .int .i64 3, .int .i64 14] : List Value)[(n % 9).toNat]'h = .int .i64 (nth lfour n) := fun h => nth_cell lfour rfl n h
  have h0 : 0 ≤ n % 9 := by omega
  have h1 : n % 9 < 9 := by omega
  have hr : -2130706432 ≤ nth lfour n ∧ nth lfour n ≤ 2130706432 := by
    have : ∀ j : Fin 9, -2130706432 ≤ lfour.getD j.val 0 ∧ lfour.getD j.val 0 ≤ 2130706432 := by decide
    exact this ⟨(n % 9).toNat, by omega⟩
  obtain ⟨hr0, hr1⟩ := hr
  show Calls _ _ _ _ fun e w' => e = .returned (.int .i64 (4 * nth lfour n)) ∧ Below w.heap.size w w'
  generalize nth lfour n = v at *
  go_enter Tryd.func21, Tryd.ntmps21
  go_wp2_with (go_at_call 7; refine (W9 _).mono ?_; rintro e w' ⟨rfl, rfl⟩)
  go_ret
  exact ⟨rfl, (Below.refl _ _).alloc (Nat.le_refl _) _⟩

set_option maxHeartbeats 800000 in
theorem operand_O1 (n : Int) (w : World) : Calls Tryd.prog 21 #[.string ⟨#[79, 49]⟩, .int .i64 n] w fun e w' => e = .returned (.int .i64 (K.opd .kO1 n)) ∧ Below w.heap.size w w' := by
  have W9 := fun W => within_any n 9 (by omega) (by omega) W
  have Wm := fun W => within_any n 2 (by omega) (by omega) W
  have h0 : 0 ≤ n % 2 ∧ n % 2 < 2 := by omega
  obtain ⟨h0, h1⟩ := h0
  go_enter Tryd.func21, Tryd.ntmps21
  go_wp2_with (go_at_call 7; first | (with_reducible refine (W9 _).mono ?_; rintro e w' ⟨rfl, rfl⟩) | (with_reducible refine (Wm _).mono ?_; rintro e w' ⟨rfl, rfl⟩))
  go_ret
  exact ⟨rfl, Below.refl _ _⟩

set_option maxHeartbeats 800000 in
theorem operand_I2 (n : Int) (w : World) : Calls Tryd.prog 21 #[.string ⟨#[73, 50]⟩, .int .i64 n] w fun e w' => e = .returned (.int .i64 (K.opd .kI2 n)) ∧ Below w.heap.size w w' := by
  have W9 := fun W => within_any n 9 (by omega) (by omega) W
  have Wm := fun W => within_any n 4 (by omega) (by omega) W
  have h0 : 0 ≤ n % 4 ∧ n % 4 < 4 := by omega
  obtain ⟨h0, h1⟩ := h0
  go_enter Tryd.func21, Tryd.ntmps21
  go_wp2_with (go_at_call 7; first | (with_reducible refine (W9 _).mono ?_; rintro e w' ⟨rfl, rfl⟩) | (with_reducible refine (Wm _).mono ?_; rintro e w' ⟨rfl, rfl⟩))
  go_ret
  exact ⟨rfl, Below.refl _ _⟩

set_option maxHeartbeats 800000 in
theorem operand_T8 (n : Int) (w : World) : Calls Tryd.prog 21 #[.string ⟨#[84, 56]⟩, .int .i64 n] w fun e w' => e = .returned (.int .i64 (K.opd .kT8 n)) ∧ Below w.heap.size w w' := by
  have W9 := fun W => within_any n 9 (by omega) (by omega) W
  have Wm := fun W => within_any n 256 (by omega) (by omega) W
  have h0 : 0 ≤ n % 256 ∧ n % 256 < 256 := by omega
  obtain ⟨h0, h1⟩ := h0
  go_enter Tryd.func21, Tryd.ntmps21
  go_wp2_with (go_at_call 7; first | (with_reducible refine (W9 _).mono ?_; rintro e w' ⟨rfl, rfl⟩) | (with_reducible refine (Wm _).mono ?_; rintro e w' ⟨rfl, rfl⟩))
  go_ret
  exact ⟨rfl, Below.refl _ _⟩

set_option maxHeartbeats 800000 in
theorem operand_D (n : Int) (w : World) : Calls Tryd.prog 21 #[.string ⟨#[68]⟩, .int .i64 n] w fun e w' => e = .returned (.int .i64 (K.opd .kD n)) ∧ Below w.heap.size w w' := by
  have W9 := fun W => within_any n 9 (by omega) (by omega) W
  have hc : ∀ h, ([.int .i64 0, .int .i64 31, .int .i64 1, .int .i64 15, .int .i64 16, .int .i64 7, .int .i64 30, .int .i64 12, .int .i64 3] : List Value)[(n % 9).toNat]'h = .int .i64 (nth lfive n) := fun h => nth_cell lfive rfl n h
  have h0 : 0 ≤ n % 9 := by omega
  have h1 : n % 9 < 9 := by omega
  have hr : -2130706432 ≤ nth lfive n ∧ nth lfive n ≤ 2130706432 := by
    have : ∀ j : Fin 9, -2130706432 ≤ lfive.getD j.val 0 ∧ lfive.getD j.val 0 ≤ 2130706432 := by decide
    exact this ⟨(n % 9).toNat, by omega⟩
  obtain ⟨hr0, hr1⟩ := hr
  show Calls _ _ _ _ fun e w' => e = .returned (.int .i64 (nth lfive n)) ∧ Below w.heap.size w w'
  generalize nth lfive n = v at *
  go_enter Tryd.func21, Tryd.ntmps21
  go_wp2_with (go_at_call 7; refine (W9 _).mono ?_; rintro e w' ⟨rfl, rfl⟩)
  go_ret
  exact ⟨rfl, (Below.refl _ _).alloc (Nat.le_refl _) _⟩

set_option maxHeartbeats 800000 in
theorem operand_A (n : Int) (w : World) : Calls Tryd.prog 21 #[.string ⟨#[65]⟩, .int .i64 n] w fun e w' => e = .returned (.int .i64 (K.opd .kA n)) ∧ Below w.heap.size w w' := by
  have W9 := fun W => within_any n 9 (by omega) (by omega) W
  have hc : ∀ h, ([.int .i64 0, .int .i64 31, .int .i64 1, .int .i64 15, .int .i64 16, .int .i64 7, .int .i64 30, .int .i64 12, .int .i64 3] : List Value)[(n % 9).toNat]'h = .int .i64 (nth lfive n) := fun h => nth_cell lfive rfl n h
  have h0 : 0 ≤ n % 9 := by omega
  have h1 : n % 9 < 9 := by omega
  have hr : -2130706432 ≤ nth lfive n ∧ nth lfive n ≤ 2130706432 := by
    have : ∀ j : Fin 9, -2130706432 ≤ lfive.getD j.val 0 ∧ lfive.getD j.val 0 ≤ 2130706432 := by decide
    exact this ⟨(n % 9).toNat, by omega⟩
  obtain ⟨hr0, hr1⟩ := hr
  show Calls _ _ _ _ fun e w' => e = .returned (.int .i64 (nth lfive n)) ∧ Below w.heap.size w w'
  generalize nth lfive n = v at *
  go_enter Tryd.func21, Tryd.ntmps21
  go_wp2_with (go_at_call 7; refine (W9 _).mono ?_; rintro e w' ⟨rfl, rfl⟩)
  go_ret
  exact ⟨rfl, (Below.refl _ _).alloc (Nat.le_refl _) _⟩

set_option maxHeartbeats 800000 in
theorem operand_B (n : Int) (w : World) : Calls Tryd.prog 21 #[.string ⟨#[66]⟩, .int .i64 n] w fun e w' => e = .returned (.int .i64 (K.opd .kB n)) ∧ Below w.heap.size w w' := by
  have W9 := fun W => within_any n 9 (by omega) (by omega) W
  have hc : ∀ h, ([.int .i64 0, .int .i64 31, .int .i64 1, .int .i64 15, .int .i64 16, .int .i64 7, .int .i64 30, .int .i64 12, .int .i64 3] : List Value)[(n % 9).toNat]'h = .int .i64 (nth lfive n) := fun h => nth_cell lfive rfl n h
  have h0 : 0 ≤ n % 9 := by omega
  have h1 : n % 9 < 9 := by omega
  have hr : -2130706432 ≤ nth lfive n ∧ nth lfive n ≤ 2130706432 := by
    have : ∀ j : Fin 9, -2130706432 ≤ lfive.getD j.val 0 ∧ lfive.getD j.val 0 ≤ 2130706432 := by decide
    exact this ⟨(n % 9).toNat, by omega⟩
  obtain ⟨hr0, hr1⟩ := hr
  show Calls _ _ _ _ fun e w' => e = .returned (.int .i64 (nth lfive n)) ∧ Below w.heap.size w w'
  generalize nth lfive n = v at *
  go_enter Tryd.func21, Tryd.ntmps21
  go_wp2_with (go_at_call 7; refine (W9 _).mono ?_; rintro e w' ⟨rfl, rfl⟩)
  go_ret
  exact ⟨rfl, (Below.refl _ _).alloc (Nat.le_refl _) _⟩

set_option maxHeartbeats 800000 in
theorem operand_S16 (n : Int) (w : World) : Calls Tryd.prog 21 #[.string ⟨#[83, 49, 54]⟩, .int .i64 n] w fun e w' => e = .returned (.int .i64 (K.opd .kS16 n)) ∧ Below w.heap.size w w' := by
  have W9 := fun W => within_any n 9 (by omega) (by omega) W
  have hc : ∀ h, ([.int .i64 0, .int .i64 32767, .int .i64 (-32768), .int .i64 (-1), .int .i64 1, .int .i64 255, .int .i64 (-256), .int .i64 4660, .int .i64 (-4660)] : List Value)[(n % 9).toNat]'h = .int .i64 (nth lS16 n) := fun h => nth_cell lS16 rfl n h
  have h0 : 0 ≤ n % 9 := by omega
  have h1 : n % 9 < 9 := by omega
  have hr : -2130706432 ≤ nth lS16 n ∧ nth lS16 n ≤ 2130706432 := by
    have : ∀ j : Fin 9, -2130706432 ≤ lS16.getD j.val 0 ∧ lS16.getD j.val 0 ≤ 2130706432 := by decide
    exact this ⟨(n % 9).toNat, by omega⟩
  obtain ⟨hr0, hr1⟩ := hr
  show Calls _ _ _ _ fun e w' => e = .returned (.int .i64 (nth lS16 n)) ∧ Below w.heap.size w w'
  generalize nth lS16 n = v at *
  go_enter Tryd.func21, Tryd.ntmps21
  go_wp2_with (go_at_call 7; refine (W9 _).mono ?_; rintro e w' ⟨rfl, rfl⟩)
  go_ret
  exact ⟨rfl, (Below.refl _ _).alloc (Nat.le_refl _) _⟩

set_option maxHeartbeats 800000 in
theorem operand_L20 (n : Int) (w : World) : Calls Tryd.prog 21 #[.string ⟨#[76, 50, 48]⟩, .int .i64 n] w fun e w' => e = .returned (.int .i64 (K.opd .kL20 n)) ∧ Below w.heap.size w w' := by
  have W9 := fun W => within_any n 9 (by omega) (by omega) W
  have Wm := fun W => within_any n 1048576 (by omega) (by omega) W
  have h0 : 0 ≤ n % 1048576 ∧ n % 1048576 < 1048576 := by omega
  obtain ⟨h0, h1⟩ := h0
  go_enter Tryd.func21, Tryd.ntmps21
  go_wp2_with (go_at_call 7; first | (with_reducible refine (W9 _).mono ?_; rintro e w' ⟨rfl, rfl⟩) | (with_reducible refine (Wm _).mono ?_; rintro e w' ⟨rfl, rfl⟩))
  go_ret
  exact ⟨rfl, Below.refl _ _⟩

set_option maxHeartbeats 800000 in
theorem operand_C8 (n : Int) (w : World) : Calls Tryd.prog 21 #[.string ⟨#[67, 56]⟩, .int .i64 n] w fun e w' => e = .returned (.int .i64 (K.opd .kC8 n)) ∧ Below w.heap.size w w' := by
  have W9 := fun W => within_any n 9 (by omega) (by omega) W
  have hc : ∀ h, ([.int .i64 0, .int .i64 255, .int .i64 256, .int .i64 65280, .int .i64 (-1), .int .i64 (-2), .int .i64 16711680, .int .i64 (-256), .int .i64 2130706432] : List Value)[(n % 9).toNat]'h = .int .i64 (nth lC8 n) := fun h => nth_cell lC8 rfl n h
  have h0 : 0 ≤ n % 9 := by omega
  have h1 : n % 9 < 9 := by omega
  have hr : -2130706432 ≤ nth lC8 n ∧ nth lC8 n ≤ 2130706432 := by
    have : ∀ j : Fin 9, -2130706432 ≤ lC8.getD j.val 0 ∧ lC8.getD j.val 0 ≤ 2130706432 := by decide
    exact this ⟨(n % 9).toNat, by omega⟩
  obtain ⟨hr0, hr1⟩ := hr
  show Calls _ _ _ _ fun e w' => e = .returned (.int .i64 (nth lC8 n)) ∧ Below w.heap.size w w'
  generalize nth lC8 n = v at *
  go_enter Tryd.func21, Tryd.ntmps21
  go_wp2_with (go_at_call 7; refine (W9 _).mono ?_; rintro e w' ⟨rfl, rfl⟩)
  go_ret
  exact ⟨rfl, (Below.refl _ _).alloc (Nat.le_refl _) _⟩

set_option maxHeartbeats 800000 in
theorem operand_O2 (n : Int) (w : World) : Calls Tryd.prog 21 #[.string ⟨#[79, 50]⟩, .int .i64 n] w fun e w' => e = .returned (.int .i64 (K.opd .kO2 n)) ∧ Below w.heap.size w w' := by
  have W9 := fun W => within_any n 9 (by omega) (by omega) W
  have Wm := fun W => within_any n 4 (by omega) (by omega) W
  have h0 : 0 ≤ n % 4 ∧ n % 4 < 4 := by omega
  obtain ⟨h0, h1⟩ := h0
  go_enter Tryd.func21, Tryd.ntmps21
  go_wp2_with (go_at_call 7; first | (with_reducible refine (W9 _).mono ?_; rintro e w' ⟨rfl, rfl⟩) | (with_reducible refine (Wm _).mono ?_; rintro e w' ⟨rfl, rfl⟩))
  go_ret
  exact ⟨rfl, Below.refl _ _⟩

set_option maxHeartbeats 800000 in
theorem operand_I4 (n : Int) (w : World) : Calls Tryd.prog 21 #[.string ⟨#[73, 52]⟩, .int .i64 n] w fun e w' => e = .returned (.int .i64 (K.opd .kI4 n)) ∧ Below w.heap.size w w' := by
  have W9 := fun W => within_any n 9 (by omega) (by omega) W
  have hc : ∀ h, ([.int .i64 0, .int .i64 15, .int .i64 1, .int .i64 7, .int .i64 8, .int .i64 4, .int .i64 12, .int .i64 3, .int .i64 14] : List Value)[(n % 9).toNat]'h = .int .i64 (nth lfour n) := fun h => nth_cell lfour rfl n h
  have h0 : 0 ≤ n % 9 := by omega
  have h1 : n % 9 < 9 := by omega
  have hr : -2130706432 ≤ nth lfour n ∧ nth lfour n ≤ 2130706432 := by
    have : ∀ j : Fin 9, -2130706432 ≤ lfour.getD j.val 0 ∧ lfour.getD j.val 0 ≤ 2130706432 := by decide
    exact this ⟨(n % 9).toNat, by omega⟩
  obtain ⟨hr0, hr1⟩ := hr
  show Calls _ _ _ _ fun e w' => e = .returned (.int .i64 (nth lfour n)) ∧ Below w.heap.size w w'
  generalize nth lfour n = v at *
  go_enter Tryd.func21, Tryd.ntmps21
  go_wp2_with (go_at_call 7; refine (W9 _).mono ?_; rintro e w' ⟨rfl, rfl⟩)
  go_ret
  exact ⟨rfl, (Below.refl _ _).alloc (Nat.le_refl _) _⟩

set_option maxHeartbeats 800000 in
theorem operand_T15 (n : Int) (w : World) : Calls Tryd.prog 21 #[.string ⟨#[84, 49, 53]⟩, .int .i64 n] w fun e w' => e = .returned (.int .i64 (K.opd .kT15 n)) ∧ Below w.heap.size w w' := by
  have W9 := fun W => within_any n 9 (by omega) (by omega) W
  have Wm := fun W => within_any n 32768 (by omega) (by omega) W
  have h0 : 0 ≤ n % 32768 ∧ n % 32768 < 32768 := by omega
  obtain ⟨h0, h1⟩ := h0
  go_enter Tryd.func21, Tryd.ntmps21
  go_wp2_with (go_at_call 7; first | (with_reducible refine (W9 _).mono ?_; rintro e w' ⟨rfl, rfl⟩) | (with_reducible refine (Wm _).mono ?_; rintro e w' ⟨rfl, rfl⟩))
  go_ret
  exact ⟨rfl, Below.refl _ _⟩

set_option maxHeartbeats 800000 in
theorem operand_T24 (n : Int) (w : World) : Calls Tryd.prog 21 #[.string ⟨#[84, 50, 52]⟩, .int .i64 n] w fun e w' => e = .returned (.int .i64 (K.opd .kT24 n)) ∧ Below w.heap.size w w' := by
  have W9 := fun W => within_any n 9 (by omega) (by omega) W
  have Wm := fun W => within_any n 16777216 (by omega) (by omega) W
  have h0 : 0 ≤ n % 16777216 ∧ n % 16777216 < 16777216 := by omega
  obtain ⟨h0, h1⟩ := h0
  go_enter Tryd.func21, Tryd.ntmps21
  go_wp2_with (go_at_call 7; first | (with_reducible refine (W9 _).mono ?_; rintro e w' ⟨rfl, rfl⟩) | (with_reducible refine (Wm _).mono ?_; rintro e w' ⟨rfl, rfl⟩))
  go_ret
  exact ⟨rfl, Below.refl _ _⟩

theorem operand_any (k : K) (n : Int) (w : World) : Calls Tryd.prog 21 #[.string ⟨k.name.toArray⟩, .int .i64 n] w fun e w' => e = .returned (.int .i64 (k.opd n)) ∧ Below w.heap.size w w' := by
  cases k
  · exact operand_X n w
  · exact operand_Y n w
  · exact operand_U5 n w
  · exact operand_U7 n w
  · exact operand_O5 n w
  · exact operand_M1 n w
  · exact operand_M2 n w
  · exact operand_M4 n w
  · exact operand_O1 n w
  · exact operand_I2 n w
  · exact operand_T8 n w
  · exact operand_D n w
  · exact operand_A n w
  · exact operand_B n w
  · exact operand_S16 n w
  · exact operand_L20 n w
  · exact operand_C8 n w
  · exact operand_O2 n w
  · exact operand_I4 n w
  · exact operand_T15 n w
  · exact operand_T24 n w
end Go.Proofs.YtnmclpphiajleaaDoor
