/- The law's own names. -/
import Derived.Test.YtlncljfljjaacaaGreatDoorTxU
namespace Go.Proofs.YtlncljfljjaacaaGreatDoor
open Go.ChangeShapes Go.WideShapes Go.ChangeAt Go.RowKit
set_option linter.unusedVariables false
set_option linter.unusedSimpArgs false

theorem emod_of_tmod (a n : Int) (hn : 0 < n) : (a.tmod n < 0 → a % n = a.tmod n + n) ∧ (0 ≤ a.tmod n → a % n = a.tmod n) := by
  have h := Int.mul_tdiv_add_tmod a n
  have lo := Int.lt_tmod_of_pos a hn
  have up := Int.tmod_lt_of_pos a hn
  have e : a % n = a.tmod n % n := by
    have : (n * a.tdiv n + a.tmod n) % n = a.tmod n % n := Int.mul_add_emod_self_left n _ _
    rw [h] at this
    exact this
  rw [e]
  constructor
  · intro hl
    have : (a.tmod n + n) % n = a.tmod n % n := Int.add_emod_right _ _
    rw [← this, Int.emod_eq_of_lt (by omega) (by omega)]
  · intro hl
    exact Int.emod_eq_of_lt hl up

theorem within9_any (a n : Int) (hn : 0 < n) (hn2 : n ≤ 4611686018427387904) (w : World) :
    Calls Tryz.prog 17 #[.int .i64 a, .int .i64 n] w fun e w' => w' = w ∧ e = .returned (.int .i64 (a % n)) := by
  have hl := Int.lt_tmod_of_pos a hn
  have hlt := Int.tmod_lt_of_pos a hn
  obtain ⟨hm1, hm2⟩ := emod_of_tmod a n hn
  by_cases c : a.tmod n < 0
  · have e : a % n = a.tmod n + n := hm1 c
    clear hm1 hm2
    go_enter Tryz.func17, Tryz.ntmps17
    go_wp2
    go_ret
    simp [IntWalk.wrap64_in (a.tmod n + n) (by omega), e]
  · have e : a % n = a.tmod n := hm2 (by omega)
    clear hm1 hm2
    go_enter Tryz.func17, Tryz.ntmps17
    go_wp2
    go_ret
    simp [e]

def nameCs : Array Value := #[.string ⟨#[109, 97, 105, 110]⟩, .string ⟨#[97]⟩, .string ⟨#[98, 49]⟩, .string ⟨#[120]⟩, .string ⟨#[108, 105, 98]⟩, .string ⟨#[101, 110, 100]⟩, .string ⟨#[99]⟩, .string ⟨#[100]⟩, .string ⟨#[101]⟩, .string ⟨#[102]⟩, .string ⟨#[98, 97, 115, 101]⟩, .string ⟨#[107]⟩]

set_option maxHeartbeats 3200000 in
set_option maxRecDepth 20000 in
theorem name_any (n : Int) (w : World) : Calls Tryz.prog 5 #[.int .i64 n] w fun e w' => ∃ s : E.Bs, e = .returned (.string (E.bs s)) ∧ s.length ≤ 4 ∧ (∀ c ∈ s, c ≠ 10) ∧ Below w.heap.size w w' := by
  have B := Blk.new w nameCs 9
  have hb := E.below_new w (.cells nameCs 9)
  have W := within9_any n 12 (by decide) (by decide) (w.alloc (.cells nameCs 9))
  unfold nameCs at *
  rcases (by omega : n % 12 = 0 ∨ n % 12 = 1 ∨ n % 12 = 2 ∨ n % 12 = 3 ∨ n % 12 = 4 ∨ n % 12 = 5 ∨ n % 12 = 6 ∨ n % 12 = 7 ∨ n % 12 = 8 ∨ n % 12 = 9 ∨ n % 12 = 10 ∨ n % 12 = 11) with h | h | h | h | h | h | h | h | h | h | h | h
  all_goals
    rw [h] at W
    go_enter Tryz.func5, Tryz.ntmps5
    go_wp2_with fail
    refine W.mono ?_
    rintro e w' ⟨rfl, rfl⟩
    go_wp2_with fail
    go_ret
    first
      | exact ⟨[109, 97, 105, 110], rfl, by decide, by decide, hb⟩
      | exact ⟨[97], rfl, by decide, by decide, hb⟩
      | exact ⟨[98, 49], rfl, by decide, by decide, hb⟩
      | exact ⟨[120], rfl, by decide, by decide, hb⟩
      | exact ⟨[108, 105, 98], rfl, by decide, by decide, hb⟩
      | exact ⟨[101, 110, 100], rfl, by decide, by decide, hb⟩
      | exact ⟨[99], rfl, by decide, by decide, hb⟩
      | exact ⟨[100], rfl, by decide, by decide, hb⟩
      | exact ⟨[101], rfl, by decide, by decide, hb⟩
      | exact ⟨[102], rfl, by decide, by decide, hb⟩
      | exact ⟨[98, 97, 115, 101], rfl, by decide, by decide, hb⟩
      | exact ⟨[107], rfl, by decide, by decide, hb⟩
end Go.Proofs.YtlncljfljjaacaaGreatDoor
