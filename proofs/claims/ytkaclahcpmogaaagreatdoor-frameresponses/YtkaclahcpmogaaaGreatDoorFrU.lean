/- The laws' own: within, Name, a request's value. -/
import Derived.Test.YtkaclahcpmogaaaGreatDoorFrS
import Derived.Test.YtkaclahcpmogaaaGreatDoorFrT
namespace Go.Proofs.YtkaclahcpmogaaaGreatDoor
open Go.ChangeShapes Go.WideShapes Go.ChangeAt Go.RowKit
set_option linter.unusedVariables false
set_option linter.unusedSimpArgs false

theorem emod_of_tmod (a n : Int) (hn : 0 < n) : (a.tmod n < 0 → a % n = a.tmod n + n) ∧ (0 ≤ a.tmod n → a % n = a.tmod n) := by
  have h := Int.mul_tdiv_add_tmod a n
  have lo := Int.lt_tmod_of_pos a hn
  have up := Int.tmod_lt_of_pos a hn
  have e : a % n = a.tmod n % n := by
    have : (n * a.tdiv n + a.tmod n) % n = a.tmod n % n := Int.mul_add_emod_self_left n _ _
    rw [h] at this
    exact this
  rw [e]
  constructor
  · intro hl
    have : (a.tmod n + n) % n = a.tmod n % n := Int.add_emod_right _ _
    rw [← this, Int.emod_eq_of_lt (by omega) (by omega)]
  · intro hl
    exact Int.emod_eq_of_lt hl up

theorem within11_any (a n : Int) (hn : 0 < n) (hn2 : n ≤ 4611686018427387904) (w : World) :
    Calls Tryz.prog 12 #[.int .i64 a, .int .i64 n] w fun e w' => w = w' ∧ e = .returned (.int .i64 (a % n)) := by
  have hl := Int.lt_tmod_of_pos a hn
  have hlt := Int.tmod_lt_of_pos a hn
  obtain ⟨hm1, hm2⟩ := emod_of_tmod a n hn
  by_cases c : a.tmod n < 0
  · have e : a % n = a.tmod n + n := hm1 c
    clear hm1 hm2
    go_enter Tryz.func12, Tryz.ntmps12
    go_wp2
    go_ret
    simp [IntWalk.wrap64_in (a.tmod n + n) (by omega), e]
  · have e : a % n = a.tmod n := hm2 (by omega)
    clear hm1 hm2
    go_enter Tryz.func12, Tryz.ntmps12
    go_wp2
    go_ret
    simp

theorem within9_any (a n : Int) (hn : 0 < n) (hn2 : n ≤ 4611686018427387904) (w : World) :
    Calls Tryz.prog 24 #[.int .i64 a, .int .i64 n] w fun e w' => w = w' ∧ e = .returned (.int .i64 (a % n)) := by
  have hl := Int.lt_tmod_of_pos a hn
  have hlt := Int.tmod_lt_of_pos a hn
  obtain ⟨hm1, hm2⟩ := emod_of_tmod a n hn
  by_cases c : a.tmod n < 0
  · have e : a % n = a.tmod n + n := hm1 c
    clear hm1 hm2
    go_enter Tryz.func24, Tryz.ntmps24
    go_wp2
    go_ret
    simp [IntWalk.wrap64_in (a.tmod n + n) (by omega), e]
  · have e : a % n = a.tmod n := hm2 (by omega)
    clear hm1 hm2
    go_enter Tryz.func24, Tryz.ntmps24
    go_wp2
    go_ret
    simp

/-- The names of a law's requests. -/
def names12 : List Bs := [[109, 97, 105, 110], [97], [98, 49], [120], [108, 105, 98], [101, 110, 100], [99], [100], [101], [102], [98, 97, 115, 101], [107]]
theorem names_word : ∀ s ∈ names12, wordL s = true := by
  have h : ∀ s ∈ names12, wordS s = true := by decide
  exact fun s hs => wordL_word (h s hs)

set_option maxHeartbeats 1600000 in
theorem name_any (n : Int) (w : World) : Calls Tryz.prog 23 #[.int .i64 n] w fun e w' => (∃ s ∈ names12, e = .returned (.string (bs s))) ∧ Below w.heap.size w w' := by
  have W := within9_any n 12 (by omega) (by omega)
  have h0 := Int.emod_nonneg n (show (12 : Int) ≠ 0 by decide)
  have h1 := Int.emod_lt_of_pos n (show (0 : Int) < 12 by decide)
  obtain ⟨k, hk⟩ : ∃ k : Nat, n % 12 = k := ⟨(n % 12).toNat, by omega⟩
  rw [hk] at W h0 h1
  have hk12 : k < 12 := by omega
  clear hk
  go_enter Tryz.func23, Tryz.ntmps23
  go_wp2_with fail
  refine (W _).mono ?_
  rintro e w1 ⟨rfl, rfl⟩
  clear W
  match k, hk12 with
  | 0, _ | 1, _ | 2, _ | 3, _ | 4, _ | 5, _ | 6, _ | 7, _ | 8, _ | 9, _ | 10, _ | 11, _ =>
    go_wp2_with fail
    go_ret
    refine ⟨⟨_, ?_, rfl⟩, below_new _ _⟩
    simp [names12]
end Go.Proofs.YtkaclahcpmogaaaGreatDoor
