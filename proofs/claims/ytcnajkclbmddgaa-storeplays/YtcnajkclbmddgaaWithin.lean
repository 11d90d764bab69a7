/- The law's own within. -/
import Derived.Test.YtcnajkclbmddgaaKnown
namespace Go.Proofs.Ytcnajkclbmddgaa
open Go.ChangeShapes Go.WideShapes Go.ChangeAt Go.RowKit
set_option linter.unusedVariables false
set_option linter.unusedSimpArgs false

theorem emod_of_tmod (a n : Int) (hn : 0 < n) : (a.tmod n < 0 → a % n = a.tmod n + n) ∧ (0 ≤ a.tmod n → a % n = a.tmod n) := by
  have h := Int.mul_tdiv_add_tmod a n
  have lo := Int.lt_tmod_of_pos a hn
  have up := Int.tmod_lt_of_pos a hn
  have e : a % n = a.tmod n % n := by
    have : (n * a.tdiv n + a.tmod n) % n = a.tmod n % n := Int.mul_add_emod_self_left n _ _
    rw [h] at this
    exact this
  rw [e]
  constructor
  · intro hl
    have : (a.tmod n + n) % n = a.tmod n % n := Int.add_emod_right _ _
    rw [← this, Int.emod_eq_of_lt (by omega) (by omega)]
  · intro hl
    exact Int.emod_eq_of_lt hl up

theorem within_any (a n : Int) (hn : 0 < n) (hn2 : n ≤ 4611686018427387904) (w : World) :
    Calls Try.prog 10 #[.int .i64 a, .int .i64 n] w fun e w' => w' = w ∧ e = .returned (.int .i64 (a % n)) := by
  have hl := Int.lt_tmod_of_pos a hn
  have hlt := Int.tmod_lt_of_pos a hn
  obtain ⟨hm1, hm2⟩ := emod_of_tmod a n hn
  by_cases c : a.tmod n < 0
  · have e : a % n = a.tmod n + n := hm1 c
    clear hm1 hm2
    go_enter Try.func10, Try.ntmps10
    go_wp2
    go_ret
    simp [IntWalk.wrap64_in (a.tmod n + n) (by omega), e]
  · have e : a % n = a.tmod n := hm2 (by omega)
    clear hm1 hm2
    go_enter Try.func10, Try.ntmps10
    go_wp2
    go_ret
    simp [e]
end Go.Proofs.Ytcnajkclbmddgaa
