/- What an expression of raw ones is; where the place does not matter. -/
import Derived.Test.YtopfnfmglnjljaaGreatDoorRawOne
import Derived.Test.YtopfnfmglnjljaaGreatDoorSyms
namespace Go.Proofs.YtopfnfmglnjljaaGreatDoor
set_option linter.unusedVariables false
set_option linter.unusedSimpArgs false

theorem rawNums_le (s : Nat) : rawNums.getD s 0 ≤ 4294967295 := by
  by_cases h : s < 8
  · match s, h with
    | 0, _ => decide
    | 1, _ => decide
    | 2, _ => decide
    | 3, _ => decide
    | 4, _ => decide
    | 5, _ => decide
    | 6, _ => decide
    | 7, _ => decide
  · rw [List.getD_eq_getElem?_getD, List.getElem?_eq_none (by simp [rawNums]; omega)]; simp

theorem shape_small (k n : Int) (a b : Ex) (ha : Small a) (hb : Small b) : Small (shape k n a b) := by
  have r1 := Int.emod_nonneg k (show (18 : Int) ≠ 0 by omega)
  have r2 := Int.emod_lt_of_pos k (show (0 : Int) < 18 by omega)
  unfold shape
  generalize k % 18 = r at *
  split
  · exact rawNums_le _
  · split
    · trivial
    · split
      · trivial
      · split
        · exact ha
        · exact ⟨by omega, by omega, ha, hb⟩

theorem lack_small (n : Int) (i : Nat) : Small (lackP n i) := by
  have r2 := Int.emod_lt_of_pos (RowKit.wrap64 (n + i)) (show (0 : Int) < 5 by omega)
  show (RowKit.wrap64 (n + i) % 5).toNat ≤ 4294967295
  omega

theorem make_small : ∀ (l : Fo) (k n : Int), Small (makeP l k n)
  | .nil, k, n => shape_small _ _ _ _ (lack_small _ _) (lack_small _ _)
  | .cons k0 n0 l0 .nil, k, n => shape_small _ _ _ _ (make_small l0 k0 n0) (lack_small _ _)
  | .cons k0 n0 l0 (.cons k1 n1 l1 _), k, n => shape_small _ _ _ _ (make_small l0 k0 n0) (make_small l1 k1 n1)

theorem one_small : ∀ (l : Fo), Small (oneP l)
  | .nil => by show 1 ≤ 4294967295; omega
  | .cons k n l _ => make_small l k n

theorem eval_elsewhere (a b : Int) (syms : List (Bs × Int)) : ∀ (x : Ex), hereP x = false → evalP a syms x = evalP b syms x
  | .zero, _ => rfl
  | .num _, _ => rfl
  | .name _, _ => rfl
  | .here, h => by simp [hereP] at h
  | .neg x, h => by simp only [evalP, eval_elsewhere a b syms x h]
  | .two k x y, h => by
    simp only [hereP, Bool.or_eq_false_iff] at h
    simp only [evalP, eval_elsewhere a b syms x h.1, eval_elsewhere a b syms y h.2]

theorem parse_dot : parseP [46] = some .here := by kernel_rfl

theorem eval_dot (a : Int) (syms : List (Bs × Int)) (h0 : 0 ≤ a) (h1 : a < 1048576) : evalP a syms .here = (a, 0) := by
  unfold evalP; rw [if_neg (by omega)]
end Go.Proofs.YtopfnfmglnjljaaGreatDoor
