/- Contracts of kindOf, and of the functions that a kind holds. -/
import Derived.Test.YtagplfochalidabDoorTable
import Derived.Laws.EntriesVeiled
namespace Go.Proofs.YtagplfochalidabDoor
open Go.ChangeShapes Go.WideShapes Go.ChangeAt Go.RowKit
open Plain
set_option linter.unusedVariables false
set_option linter.unusedSimpArgs false

theorem kindOf_X (w : World) : Calls Tryd.prog 28 #[.string ⟨#[88]⟩] w fun e w' => e = .returned (.agg #[.int .i64 0, .int .i64 4, .int .i64 0, .int .i64 0, .int .i64 0, .int .i64 0, .int .i64 0, .int .i64 0, .int .i64 0, .int .i64 0, .int .i64 0, .int .i64 0, .func (.func 37) #[] #[], .func (.func 38) #[] #[]]) ∧ Below w.heap.size w w' := by
  go_enter Tryd.func28, Tryd.ntmps28
  go_wp2
  exact bodyPost_ret (v := .agg #[.int .i64 0, .int .i64 4, .int .i64 0, .int .i64 0, .int .i64 0, .int .i64 0, .int .i64 0, .int .i64 0, .int .i64 0, .int .i64 0, .int .i64 0, .int .i64 0, .func (.func 37) #[] #[], .func (.func 38) #[] #[]]) (by simp [results, Tryd.results28, go_sem]) rfl ⟨rfl, (Below.refl _ _).alloc (Nat.le_refl _) _⟩

theorem kindOf_Y (w : World) : Calls Tryd.prog 28 #[.string ⟨#[89]⟩] w fun e w' => e = .returned (.agg #[.int .i64 4, .int .i64 4, .int .i64 0, .int .i64 0, .int .i64 0, .int .i64 0, .int .i64 0, .int .i64 0, .int .i64 0, .int .i64 0, .int .i64 0, .int .i64 0, .func (.func 37) #[] #[], .func (.func 38) #[] #[]]) ∧ Below w.heap.size w w' := by
  go_enter Tryd.func28, Tryd.ntmps28
  go_wp2
  exact bodyPost_ret (v := .agg #[.int .i64 4, .int .i64 4, .int .i64 0, .int .i64 0, .int .i64 0, .int .i64 0, .int .i64 0, .int .i64 0, .int .i64 0, .int .i64 0, .int .i64 0, .int .i64 0, .func (.func 37) #[] #[], .func (.func 38) #[] #[]]) (by simp [results, Tryd.results28, go_sem]) rfl ⟨rfl, (Below.refl _ _).alloc (Nat.le_refl _) _⟩

theorem kindOf_U5 (w : World) : Calls Tryd.prog 28 #[.string ⟨#[85, 53]⟩] w fun e w' => e = .returned (.agg #[.int .i64 4, .int .i64 5, .int .i64 0, .int .i64 1, .int .i64 0, .int .i64 0, .int .i64 0, .int .i64 0, .int .i64 0, .int .i64 0, .int .i64 0, .int .i64 0, .func (.func 39) #[] #[], .func (.func 40) #[] #[]]) ∧ Below w.heap.size w w' := by
  go_enter Tryd.func28, Tryd.ntmps28
  go_wp2
  exact bodyPost_ret (v := .agg #[.int .i64 4, .int .i64 5, .int .i64 0, .int .i64 1, .int .i64 0, .int .i64 0, .int .i64 0, .int .i64 0, .int .i64 0, .int .i64 0, .int .i64 0, .int .i64 0, .func (.func 39) #[] #[], .func (.func 40) #[] #[]]) (by simp [results, Tryd.results28, go_sem]) rfl ⟨rfl, (Below.refl _ _).alloc (Nat.le_refl _) _⟩

theorem kindOf_U7 (w : World) : Calls Tryd.prog 28 #[.string ⟨#[85, 55]⟩] w fun e w' => e = .returned (.agg #[.int .i64 4, .int .i64 7, .int .i64 0, .int .i64 1, .int .i64 0, .int .i64 0, .int .i64 0, .int .i64 0, .int .i64 0, .int .i64 0, .int .i64 0, .int .i64 0, .func (.func 39) #[] #[], .func (.func 40) #[] #[]]) ∧ Below w.heap.size w w' := by
  go_enter Tryd.func28, Tryd.ntmps28
  go_wp2
  exact bodyPost_ret (v := .agg #[.int .i64 4, .int .i64 7, .int .i64 0, .int .i64 1, .int .i64 0, .int .i64 0, .int .i64 0, .int .i64 0, .int .i64 0, .int .i64 0, .int .i64 0, .int .i64 0, .func (.func 39) #[] #[], .func (.func 40) #[] #[]]) (by simp [results, Tryd.results28, go_sem]) rfl ⟨rfl, (Below.refl _ _).alloc (Nat.le_refl _) _⟩

theorem kindOf_O5 (w : World) : Calls Tryd.prog 28 #[.string ⟨#[79, 53]⟩] w fun e w' => e = .returned (.agg #[.int .i64 4, .int .i64 5, .int .i64 1, .int .i64 1, .int .i64 0, .int .i64 0, .int .i64 0, .int .i64 0, .int .i64 0, .int .i64 0, .int .i64 0, .int .i64 0, .func (.func 39) #[] #[], .func (.func 40) #[] #[]]) ∧ Below w.heap.size w w' := by
  go_enter Tryd.func28, Tryd.ntmps28
  go_wp2
  exact bodyPost_ret (v := .agg #[.int .i64 4, .int .i64 5, .int .i64 1, .int .i64 1, .int .i64 0, .int .i64 0, .int .i64 0, .int .i64 0, .int .i64 0, .int .i64 0, .int .i64 0, .int .i64 0, .func (.func 39) #[] #[], .func (.func 40) #[] #[]]) (by simp [results, Tryd.results28, go_sem]) rfl ⟨rfl, (Below.refl _ _).alloc (Nat.le_refl _) _⟩

theorem kindOf_M1 (w : World) : Calls Tryd.prog 28 #[.string ⟨#[77, 49]⟩] w fun e w' => e = .returned (.agg #[.int .i64 8, .int .i64 4, .int .i64 0, .int .i64 1, .int .i64 0, .int .i64 0, .int .i64 0, .int .i64 0, .int .i64 0, .int .i64 0, .int .i64 0, .int .i64 0, .func (.func 39) #[] #[], .func (.func 40) #[] #[]]) ∧ Below w.heap.size w w' := by
  go_enter Tryd.func28, Tryd.ntmps28
  go_wp2
  exact bodyPost_ret (v := .agg #[.int .i64 8, .int .i64 4, .int .i64 0, .int .i64 1, .int .i64 0, .int .i64 0, .int .i64 0, .int .i64 0, .int .i64 0, .int .i64 0, .int .i64 0, .int .i64 0, .func (.func 39) #[] #[], .func (.func 40) #[] #[]]) (by simp [results, Tryd.results28, go_sem]) rfl ⟨rfl, (Below.refl _ _).alloc (Nat.le_refl _) _⟩

theorem kindOf_M2 (w : World) : Calls Tryd.prog 28 #[.string ⟨#[77, 50]⟩] w fun e w' => e = .returned (.agg #[.int .i64 8, .int .i64 4, .int .i64 0, .int .i64 2, .int .i64 0, .int .i64 0, .int .i64 0, .int .i64 0, .int .i64 0, .int .i64 0, .int .i64 0, .int .i64 0, .func (.func 39) #[] #[], .func (.func 40) #[] #[]]) ∧ Below w.heap.size w w' := by
  go_enter Tryd.func28, Tryd.ntmps28
  go_wp2
  exact bodyPost_ret (v := .agg #[.int .i64 8, .int .i64 4, .int .i64 0, .int .i64 2, .int .i64 0, .int .i64 0, .int .i64 0, .int .i64 0, .int .i64 0, .int .i64 0, .int .i64 0, .int .i64 0, .func (.func 39) #[] #[], .func (.func 40) #[] #[]]) (by simp [results, Tryd.results28, go_sem]) rfl ⟨rfl, (Below.refl _ _).alloc (Nat.le_refl _) _⟩

theorem kindOf_M4 (w : World) : Calls Tryd.prog 28 #[.string ⟨#[77, 52]⟩] w fun e w' => e = .returned (.agg #[.int .i64 8, .int .i64 4, .int .i64 0, .int .i64 4, .int .i64 0, .int .i64 0, .int .i64 0, .int .i64 0, .int .i64 0, .int .i64 0, .int .i64 0, .int .i64 0, .func (.func 39) #[] #[], .func (.func 40) #[] #[]]) ∧ Below w.heap.size w w' := by
  go_enter Tryd.func28, Tryd.ntmps28
  go_wp2
  exact bodyPost_ret (v := .agg #[.int .i64 8, .int .i64 4, .int .i64 0, .int .i64 4, .int .i64 0, .int .i64 0, .int .i64 0, .int .i64 0, .int .i64 0, .int .i64 0, .int .i64 0, .int .i64 0, .func (.func 39) #[] #[], .func (.func 40) #[] #[]]) (by simp [results, Tryd.results28, go_sem]) rfl ⟨rfl, (Below.refl _ _).alloc (Nat.le_refl _) _⟩

theorem kindOf_O1 (w : World) : Calls Tryd.prog 28 #[.string ⟨#[79, 49]⟩] w fun e w' => e = .returned (.agg #[.int .i64 10, .int .i64 1, .int .i64 0, .int .i64 1, .int .i64 0, .int .i64 0, .int .i64 0, .int .i64 0, .int .i64 0, .int .i64 0, .int .i64 0, .int .i64 0, .func (.func 39) #[] #[], .func (.func 40) #[] #[]]) ∧ Below w.heap.size w w' := by
  go_enter Tryd.func28, Tryd.ntmps28
  go_wp2
  exact bodyPost_ret (v := .agg #[.int .i64 10, .int .i64 1, .int .i64 0, .int .i64 1, .int .i64 0, .int .i64 0, .int .i64 0, .int .i64 0, .int .i64 0, .int .i64 0, .int .i64 0, .int .i64 0, .func (.func 39) #[] #[], .func (.func 40) #[] #[]]) (by simp [results, Tryd.results28, go_sem]) rfl ⟨rfl, (Below.refl _ _).alloc (Nat.le_refl _) _⟩

theorem kindOf_I2 (w : World) : Calls Tryd.prog 28 #[.string ⟨#[73, 50]⟩] w fun e w' => e = .returned (.agg #[.int .i64 8, .int .i64 2, .int .i64 0, .int .i64 1, .int .i64 0, .int .i64 0, .int .i64 0, .int .i64 0, .int .i64 0, .int .i64 0, .int .i64 0, .int .i64 0, .func (.func 39) #[] #[], .func (.func 40) #[] #[]]) ∧ Below w.heap.size w w' := by
  go_enter Tryd.func28, Tryd.ntmps28
  go_wp2
  exact bodyPost_ret (v := .agg #[.int .i64 8, .int .i64 2, .int .i64 0, .int .i64 1, .int .i64 0, .int .i64 0, .int .i64 0, .int .i64 0, .int .i64 0, .int .i64 0, .int .i64 0, .int .i64 0, .func (.func 39) #[] #[], .func (.func 40) #[] #[]]) (by simp [results, Tryd.results28, go_sem]) rfl ⟨rfl, (Below.refl _ _).alloc (Nat.le_refl _) _⟩

theorem kindOf_T8 (w : World) : Calls Tryd.prog 28 #[.string ⟨#[84, 56]⟩] w fun e w' => e = .returned (.agg #[.int .i64 0, .int .i64 8, .int .i64 0, .int .i64 2, .int .i64 0, .int .i64 0, .int .i64 0, .int .i64 0, .int .i64 0, .int .i64 0, .int .i64 0, .int .i64 0, .func (.func 41) #[] #[], .func (.func 42) #[] #[]]) ∧ Below w.heap.size w w' := by
  go_enter Tryd.func28, Tryd.ntmps28
  go_wp2
  exact bodyPost_ret (v := .agg #[.int .i64 0, .int .i64 8, .int .i64 0, .int .i64 2, .int .i64 0, .int .i64 0, .int .i64 0, .int .i64 0, .int .i64 0, .int .i64 0, .int .i64 0, .int .i64 0, .func (.func 41) #[] #[], .func (.func 42) #[] #[]]) (by simp [results, Tryd.results28, go_sem]) rfl ⟨rfl, (Below.refl _ _).alloc (Nat.le_refl _) _⟩

theorem kindOf_D (w : World) : Calls Tryd.prog 28 #[.string ⟨#[68]⟩] w fun e w' => e = .returned (.agg #[.int .i64 21, .int .i64 5, .int .i64 0, .int .i64 1, .int .i64 0, .int .i64 0, .int .i64 0, .int .i64 0, .int .i64 0, .int .i64 0, .int .i64 0, .int .i64 0, .func (.func 39) #[] #[], .func (.func 40) #[] #[]]) ∧ Below w.heap.size w w' := by
  go_enter Tryd.func28, Tryd.ntmps28
  go_wp2
  exact bodyPost_ret (v := .agg #[.int .i64 21, .int .i64 5, .int .i64 0, .int .i64 1, .int .i64 0, .int .i64 0, .int .i64 0, .int .i64 0, .int .i64 0, .int .i64 0, .int .i64 0, .int .i64 0, .func (.func 39) #[] #[], .func (.func 40) #[] #[]]) (by simp [results, Tryd.results28, go_sem]) rfl ⟨rfl, (Below.refl _ _).alloc (Nat.le_refl _) _⟩

theorem kindOf_A (w : World) : Calls Tryd.prog 28 #[.string ⟨#[65]⟩] w fun e w' => e = .returned (.agg #[.int .i64 16, .int .i64 5, .int .i64 0, .int .i64 1, .int .i64 0, .int .i64 0, .int .i64 0, .int .i64 0, .int .i64 0, .int .i64 0, .int .i64 0, .int .i64 0, .func (.func 39) #[] #[], .func (.func 40) #[] #[]]) ∧ Below w.heap.size w w' := by
  go_enter Tryd.func28, Tryd.ntmps28
  go_wp2
  exact bodyPost_ret (v := .agg #[.int .i64 16, .int .i64 5, .int .i64 0, .int .i64 1, .int .i64 0, .int .i64 0, .int .i64 0, .int .i64 0, .int .i64 0, .int .i64 0, .int .i64 0, .int .i64 0, .func (.func 39) #[] #[], .func (.func 40) #[] #[]]) (by simp [results, Tryd.results28, go_sem]) rfl ⟨rfl, (Below.refl _ _).alloc (Nat.le_refl _) _⟩

theorem kindOf_B (w : World) : Calls Tryd.prog 28 #[.string ⟨#[66]⟩] w fun e w' => e = .returned (.agg #[.int .i64 11, .int .i64 5, .int .i64 0, .int .i64 1, .int .i64 0, .int .i64 0, .int .i64 0, .int .i64 0, .int .i64 0, .int .i64 0, .int .i64 0, .int .i64 0, .func (.func 39) #[] #[], .func (.func 40) #[] #[]]) ∧ Below w.heap.size w w' := by
  go_enter Tryd.func28, Tryd.ntmps28
  go_wp2
  exact bodyPost_ret (v := .agg #[.int .i64 11, .int .i64 5, .int .i64 0, .int .i64 1, .int .i64 0, .int .i64 0, .int .i64 0, .int .i64 0, .int .i64 0, .int .i64 0, .int .i64 0, .int .i64 0, .func (.func 39) #[] #[], .func (.func 40) #[] #[]]) (by simp [results, Tryd.results28, go_sem]) rfl ⟨rfl, (Below.refl _ _).alloc (Nat.le_refl _) _⟩

theorem kindOf_S16 (w : World) : Calls Tryd.prog 28 #[.string ⟨#[83, 49, 54]⟩] w fun e w' => e = .returned (.agg #[.int .i64 0, .int .i64 16, .int .i64 0, .int .i64 1, .int .i64 0, .int .i64 0, .int .i64 0, .int .i64 0, .int .i64 0, .int .i64 0, .int .i64 0, .int .i64 0, .func (.func 41) #[] #[], .func (.func 42) #[] #[]]) ∧ Below w.heap.size w w' := by
  go_enter Tryd.func28, Tryd.ntmps28
  go_wp2
  exact bodyPost_ret (v := .agg #[.int .i64 0, .int .i64 16, .int .i64 0, .int .i64 1, .int .i64 0, .int .i64 0, .int .i64 0, .int .i64 0, .int .i64 0, .int .i64 0, .int .i64 0, .int .i64 0, .func (.func 41) #[] #[], .func (.func 42) #[] #[]]) (by simp [results, Tryd.results28, go_sem]) rfl ⟨rfl, (Below.refl _ _).alloc (Nat.le_refl _) _⟩

theorem kindOf_L20 (w : World) : Calls Tryd.prog 28 #[.string ⟨#[76, 50, 48]⟩] w fun e w' => e = .returned (.agg #[.int .i64 11, .int .i64 4, .int .i64 0, .int .i64 0, .int .i64 16, .int .i64 5, .int .i64 0, .int .i64 0, .int .i64 0, .int .i64 11, .int .i64 0, .int .i64 0, .func (.func 43) #[] #[], .func (.func 44) #[] #[]]) ∧ Below w.heap.size w w' := by
  go_enter Tryd.func28, Tryd.ntmps28
  go_wp2
  exact bodyPost_ret (v := .agg #[.int .i64 11, .int .i64 4, .int .i64 0, .int .i64 0, .int .i64 16, .int .i64 5, .int .i64 0, .int .i64 0, .int .i64 0, .int .i64 11, .int .i64 0, .int .i64 0, .func (.func 43) #[] #[], .func (.func 44) #[] #[]]) (by simp [results, Tryd.results28, go_sem]) rfl ⟨rfl, (Below.refl _ _).alloc (Nat.le_refl _) _⟩

theorem kindOf_C8 (w : World) : Calls Tryd.prog 28 #[.string ⟨#[67, 56]⟩] w fun e w' => e = .returned (.agg #[.int .i64 10, .int .i64 1, .int .i64 0, .int .i64 0, .int .i64 8, .int .i64 2, .int .i64 0, .int .i64 0, .int .i64 0, .int .i64 8, .int .i64 0, .int .i64 0, .func (.func 45) #[] #[], .func (.func 46) #[] #[]]) ∧ Below w.heap.size w w' := by
  go_enter Tryd.func28, Tryd.ntmps28
  go_wp2
  exact bodyPost_ret (v := .agg #[.int .i64 10, .int .i64 1, .int .i64 0, .int .i64 0, .int .i64 8, .int .i64 2, .int .i64 0, .int .i64 0, .int .i64 0, .int .i64 8, .int .i64 0, .int .i64 0, .func (.func 45) #[] #[], .func (.func 46) #[] #[]]) (by simp [results, Tryd.results28, go_sem]) rfl ⟨rfl, (Below.refl _ _).alloc (Nat.le_refl _) _⟩

theorem kindOf_O2 (w : World) : Calls Tryd.prog 28 #[.string ⟨#[79, 50]⟩] w fun e w' => e = .returned (.agg #[.int .i64 20, .int .i64 2, .int .i64 0, .int .i64 1, .int .i64 0, .int .i64 0, .int .i64 0, .int .i64 0, .int .i64 0, .int .i64 0, .int .i64 0, .int .i64 0, .func (.func 39) #[] #[], .func (.func 40) #[] #[]]) ∧ Below w.heap.size w w' := by
  go_enter Tryd.func28, Tryd.ntmps28
  go_wp2
  exact bodyPost_ret (v := .agg #[.int .i64 20, .int .i64 2, .int .i64 0, .int .i64 1, .int .i64 0, .int .i64 0, .int .i64 0, .int .i64 0, .int .i64 0, .int .i64 0, .int .i64 0, .int .i64 0, .func (.func 39) #[] #[], .func (.func 40) #[] #[]]) (by simp [results, Tryd.results28, go_sem]) rfl ⟨rfl, (Below.refl _ _).alloc (Nat.le_refl _) _⟩

theorem kindOf_I4 (w : World) : Calls Tryd.prog 28 #[.string ⟨#[73, 52]⟩] w fun e w' => e = .returned (.agg #[.int .i64 16, .int .i64 4, .int .i64 0, .int .i64 1, .int .i64 0, .int .i64 0, .int .i64 0, .int .i64 0, .int .i64 0, .int .i64 0, .int .i64 0, .int .i64 0, .func (.func 39) #[] #[], .func (.func 40) #[] #[]]) ∧ Below w.heap.size w w' := by
  go_enter Tryd.func28, Tryd.ntmps28
  go_wp2
  exact bodyPost_ret (v := .agg #[.int .i64 16, .int .i64 4, .int .i64 0, .int .i64 1, .int .i64 0, .int .i64 0, .int .i64 0, .int .i64 0, .int .i64 0, .int .i64 0, .int .i64 0, .int .i64 0, .func (.func 39) #[] #[], .func (.func 40) #[] #[]]) (by simp [results, Tryd.results28, go_sem]) rfl ⟨rfl, (Below.refl _ _).alloc (Nat.le_refl _) _⟩

theorem kindOf_T15 (w : World) : Calls Tryd.prog 28 #[.string ⟨#[84, 49, 53]⟩] w fun e w' => e = .returned (.agg #[.int .i64 1, .int .i64 15, .int .i64 0, .int .i64 2, .int .i64 0, .int .i64 0, .int .i64 0, .int .i64 0, .int .i64 0, .int .i64 0, .int .i64 0, .int .i64 0, .func (.func 41) #[] #[], .func (.func 42) #[] #[]]) ∧ Below w.heap.size w w' := by
  go_enter Tryd.func28, Tryd.ntmps28
  go_wp2
  exact bodyPost_ret (v := .agg #[.int .i64 1, .int .i64 15, .int .i64 0, .int .i64 2, .int .i64 0, .int .i64 0, .int .i64 0, .int .i64 0, .int .i64 0, .int .i64 0, .int .i64 0, .int .i64 0, .func (.func 41) #[] #[], .func (.func 42) #[] #[]]) (by simp [results, Tryd.results28, go_sem]) rfl ⟨rfl, (Below.refl _ _).alloc (Nat.le_refl _) _⟩

theorem kindOf_T24 (w : World) : Calls Tryd.prog 28 #[.string ⟨#[84, 50, 52]⟩] w fun e w' => e = .returned (.agg #[.int .i64 1, .int .i64 24, .int .i64 0, .int .i64 2, .int .i64 0, .int .i64 0, .int .i64 0, .int .i64 0, .int .i64 0, .int .i64 0, .int .i64 0, .int .i64 0, .func (.func 41) #[] #[], .func (.func 42) #[] #[]]) ∧ Below w.heap.size w w' := by
  go_enter Tryd.func28, Tryd.ntmps28
  go_wp2
  exact bodyPost_ret (v := .agg #[.int .i64 1, .int .i64 24, .int .i64 0, .int .i64 2, .int .i64 0, .int .i64 0, .int .i64 0, .int .i64 0, .int .i64 0, .int .i64 0, .int .i64 0, .int .i64 0, .func (.func 41) #[] #[], .func (.func 42) #[] #[]]) (by simp [results, Tryd.results28, go_sem]) rfl ⟨rfl, (Below.refl _ _).alloc (Nat.le_refl _) _⟩

theorem kindOf_any (k : K) (w : World) : Calls Tryd.prog 28 #[.string ⟨k.name.toArray⟩] w fun e w' => e = .returned k.val ∧ Below w.heap.size w w' := by
  cases k
  · exact kindOf_X w
  · exact kindOf_Y w
  · exact kindOf_U5 w
  · exact kindOf_U7 w
  · exact kindOf_O5 w
  · exact kindOf_M1 w
  · exact kindOf_M2 w
  · exact kindOf_M4 w
  · exact kindOf_O1 w
  · exact kindOf_I2 w
  · exact kindOf_T8 w
  · exact kindOf_D w
  · exact kindOf_A w
  · exact kindOf_B w
  · exact kindOf_S16 w
  · exact kindOf_L20 w
  · exact kindOf_C8 w
  · exact kindOf_O2 w
  · exact kindOf_I4 w
  · exact kindOf_T15 w
  · exact kindOf_T24 w

theorem code_any (k : K) (v : Int) (v0 : -9223372036854775808 ≤ v) (v1 : v ≤ 9223372036854775807) (w : World) : Calls Tryd.prog k.codeF #[.int .i64 v, .agg k.pl] w fun e w' => e = .returned (two (k.code v)) ∧ Below w.heap.size w w' := by
  cases k
  · exact register_any 0 4 v (by omega) (by omega) (by omega) (by omega) (by omega) 0 0 0 0 0 0 0 0 0 0 w
  · exact register_any 4 4 v (by omega) (by omega) (by omega) (by omega) (by omega) 0 0 0 0 0 0 0 0 0 0 w
  · exact count_any 4 5 0 1 v (by omega) (by omega) (by omega) (by omega) (by omega) (by omega) (by omega) v0 v1 0 0 0 0 0 0 0 0 w
  · exact count_any 4 7 0 1 v (by omega) (by omega) (by omega) (by omega) (by omega) (by omega) (by omega) v0 v1 0 0 0 0 0 0 0 0 w
  · exact count_any 4 5 1 1 v (by omega) (by omega) (by omega) (by omega) (by omega) (by omega) (by omega) v0 v1 0 0 0 0 0 0 0 0 w
  · exact count_any 8 4 0 1 v (by omega) (by omega) (by omega) (by omega) (by omega) (by omega) (by omega) v0 v1 0 0 0 0 0 0 0 0 w
  · exact count_any 8 4 0 2 v (by omega) (by omega) (by omega) (by omega) (by omega) (by omega) (by omega) v0 v1 0 0 0 0 0 0 0 0 w
  · exact count_any 8 4 0 4 v (by omega) (by omega) (by omega) (by omega) (by omega) (by omega) (by omega) v0 v1 0 0 0 0 0 0 0 0 w
  · exact count_any 10 1 0 1 v (by omega) (by omega) (by omega) (by omega) (by omega) (by omega) (by omega) v0 v1 0 0 0 0 0 0 0 0 w
  · exact count_any 8 2 0 1 v (by omega) (by omega) (by omega) (by omega) (by omega) (by omega) (by omega) v0 v1 0 0 0 0 0 0 0 0 w
  · exact isigned_any 0 2 v 0 8 (by omega) (by omega) (by omega) (by omega) (by omega) (by omega) v0 v1 0 0 0 0 0 0 0 0 w
  · exact count_any 21 5 0 1 v (by omega) (by omega) (by omega) (by omega) (by omega) (by omega) (by omega) v0 v1 0 0 0 0 0 0 0 0 w
  · exact count_any 16 5 0 1 v (by omega) (by omega) (by omega) (by omega) (by omega) (by omega) (by omega) v0 v1 0 0 0 0 0 0 0 0 w
  · exact count_any 11 5 0 1 v (by omega) (by omega) (by omega) (by omega) (by omega) (by omega) (by omega) v0 v1 0 0 0 0 0 0 0 0 w
  · exact isigned_any 0 1 v 0 16 (by omega) (by omega) (by omega) (by omega) (by omega) (by omega) v0 v1 0 0 0 0 0 0 0 0 w
  · exact split_any 11 4 0 0 16 5 0 0 0 11 0 0 v (by omega) (by omega) (by omega) (by omega) (by omega) (by omega) (by omega) (by omega) (by omega) (by omega) (by omega) (by omega) (by omega) (by omega) (by omega) v0 v1 w
  · exact sci_any 10 1 0 0 8 2 0 0 0 8 0 0 v (by omega) (by omega) (by omega) (by omega) (by omega) (by omega) (by omega) (by omega) (by omega) (by omega) (by omega) (by omega) (by omega) (by omega) (by omega) w
  · exact count_any 20 2 0 1 v (by omega) (by omega) (by omega) (by omega) (by omega) (by omega) (by omega) v0 v1 0 0 0 0 0 0 0 0 w
  · exact count_any 16 4 0 1 v (by omega) (by omega) (by omega) (by omega) (by omega) (by omega) (by omega) v0 v1 0 0 0 0 0 0 0 0 w
  · exact isigned_any 1 2 v 0 15 (by omega) (by omega) (by omega) (by omega) (by omega) (by omega) v0 v1 0 0 0 0 0 0 0 0 w
  · exact isigned_any 1 2 v 0 24 (by omega) (by omega) (by omega) (by omega) (by omega) (by omega) v0 v1 0 0 0 0 0 0 0 0 w

theorem tell_any (k : K) (x : Int) (x0 : 0 ≤ x) (x1 : x < 4294967296) (w : World) : Calls Tryd.prog k.tellF #[.int .u32 x, .agg k.pl] w fun e w' => e = .returned (.int .i64 (k.tell x)) ∧ Below w.heap.size w w' := by
  cases k
  · exact regT_any 0 4 x x0 x1 (by omega) (by omega) (by omega) (by omega) 0 0 0 0 0 0 0 0 0 0 w
  · exact regT_any 4 4 x x0 x1 (by omega) (by omega) (by omega) (by omega) 0 0 0 0 0 0 0 0 0 0 w
  · exact countT_any 4 5 0 1 x x0 x1 (by omega) (by omega) (by omega) (by omega) (by omega) (by omega) (by omega) (by omega) 0 0 0 0 0 0 0 0 w
  · exact countT_any 4 7 0 1 x x0 x1 (by omega) (by omega) (by omega) (by omega) (by omega) (by omega) (by omega) (by omega) 0 0 0 0 0 0 0 0 w
  · exact countT_any 4 5 1 1 x x0 x1 (by omega) (by omega) (by omega) (by omega) (by omega) (by omega) (by omega) (by omega) 0 0 0 0 0 0 0 0 w
  · exact countT_any 8 4 0 1 x x0 x1 (by omega) (by omega) (by omega) (by omega) (by omega) (by omega) (by omega) (by omega) 0 0 0 0 0 0 0 0 w
  · exact countT_any 8 4 0 2 x x0 x1 (by omega) (by omega) (by omega) (by omega) (by omega) (by omega) (by omega) (by omega) 0 0 0 0 0 0 0 0 w
  · exact countT_any 8 4 0 4 x x0 x1 (by omega) (by omega) (by omega) (by omega) (by omega) (by omega) (by omega) (by omega) 0 0 0 0 0 0 0 0 w
  · exact countT_any 10 1 0 1 x x0 x1 (by omega) (by omega) (by omega) (by omega) (by omega) (by omega) (by omega) (by omega) 0 0 0 0 0 0 0 0 w
  · exact countT_any 8 2 0 1 x x0 x1 (by omega) (by omega) (by omega) (by omega) (by omega) (by omega) (by omega) (by omega) 0 0 0 0 0 0 0 0 w
  · exact signT_any 0 2 x 0 8 x0 x1 (by omega) (by omega) (by omega) (by omega) (by omega) (by omega) 0 0 0 0 0 0 0 0 w
  · exact countT_any 21 5 0 1 x x0 x1 (by omega) (by omega) (by omega) (by omega) (by omega) (by omega) (by omega) (by omega) 0 0 0 0 0 0 0 0 w
  · exact countT_any 16 5 0 1 x x0 x1 (by omega) (by omega) (by omega) (by omega) (by omega) (by omega) (by omega) (by omega) 0 0 0 0 0 0 0 0 w
  · exact countT_any 11 5 0 1 x x0 x1 (by omega) (by omega) (by omega) (by omega) (by omega) (by omega) (by omega) (by omega) 0 0 0 0 0 0 0 0 w
  · exact signT_any 0 1 x 0 16 x0 x1 (by omega) (by omega) (by omega) (by omega) (by omega) (by omega) 0 0 0 0 0 0 0 0 w
  · exact splitT_any 11 4 0 0 16 5 0 0 0 11 0 0 x x0 x1 (by omega) (by omega) rfl (by omega) (by omega) rfl (by omega) (by omega) rfl w
  · exact sciT_any 10 1 0 0 8 2 0 0 0 8 0 0 x x0 x1 (by omega) (by omega) rfl (by omega) (by omega) rfl (by omega) (by omega) rfl w
  · exact countT_any 20 2 0 1 x x0 x1 (by omega) (by omega) (by omega) (by omega) (by omega) (by omega) (by omega) (by omega) 0 0 0 0 0 0 0 0 w
  · exact countT_any 16 4 0 1 x x0 x1 (by omega) (by omega) (by omega) (by omega) (by omega) (by omega) (by omega) (by omega) 0 0 0 0 0 0 0 0 w
  · exact signT_any 1 2 x 0 15 x0 x1 (by omega) (by omega) (by omega) (by omega) (by omega) (by omega) 0 0 0 0 0 0 0 0 w
  · exact signT_any 1 2 x 0 24 x0 x1 (by omega) (by omega) (by omega) (by omega) (by omega) (by omega) 0 0 0 0 0 0 0 0 w
end Go.Proofs.YtagplfochalidabDoor
