/- What symbols by numbers hold; what an expression of raw ones has not. -/
import Derived.Test.YtopfnfmglnjljaaGreatDoorWhole
import Derived.Test.YtopfnfmglnjljaaGreatDoorRefEval2
namespace Go.Proofs.YtopfnfmglnjljaaGreatDoor
set_option linter.unusedVariables false
set_option linter.unusedSimpArgs false

theorem symVals_amt (s : Nat) : Amt (symVals.getD s 0) := by
  by_cases h : s < 8
  · match s, h with
    | 0, _ => exact ⟨by decide, by decide⟩
    | 1, _ => exact ⟨by decide, by decide⟩
    | 2, _ => exact ⟨by decide, by decide⟩
    | 3, _ => exact ⟨by decide, by decide⟩
    | 4, _ => exact ⟨by decide, by decide⟩
    | 5, _ => exact ⟨by decide, by decide⟩
    | 6, _ => exact ⟨by decide, by decide⟩
    | 7, _ => exact ⟨by decide, by decide⟩
  · rw [List.getD_eq_getElem?_getD, List.getElem?_eq_none (by simp [symVals]; omega)]; exact ⟨by decide, by decide⟩

theorem symsGo_ok (ns : List Int) : ∀ j, SymsOk (symsGo ns j)
  | 0 => fun p hp => by simp [symsGo] at hp
  | j + 1 => fun p hp => by
    rw [symsGo, List.mem_append] at hp
    rcases hp with hp | hp
    · exact symsGo_ok ns j p hp
    · split at hp
      · simp only [List.mem_singleton] at hp
        subst hp
        exact symVals_amt _
      · simp at hp

theorem shape_whole (k n : Int) (a b : Ex) (ha : Whole a) (hb : Whole b) : Whole (shape k n a b) := by
  unfold shape
  split
  · trivial
  · split
    · trivial
    · split
      · trivial
      · split
        · exact ha
        · exact ⟨ha, hb⟩

theorem make_whole : ∀ (l : Fo) (k n : Int), Whole (makeP l k n)
  | .nil, k, n => shape_whole _ _ _ _ trivial trivial
  | .cons k0 n0 l0 .nil, k, n => shape_whole _ _ _ _ (make_whole l0 k0 n0) trivial
  | .cons k0 n0 l0 (.cons k1 n1 l1 _), k, n => shape_whole _ _ _ _ (make_whole l0 k0 n0) (make_whole l1 k1 n1)

theorem one_whole : ∀ (l : Fo), Whole (oneP l)
  | .nil => trivial
  | .cons k n l _ => make_whole l k n
end Go.Proofs.YtopfnfmglnjljaaGreatDoor
