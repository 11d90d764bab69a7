/- What an expression of raw ones is: it may be written; how much it is. -/
import Derived.Test.YtopfnfmglnjljaaGreatDoorLays2
import Derived.Test.YtopfnfmglnjljaaGreatDoorEvals
import Derived.Test.YtopfnfmglnjljaaGreatDoorDigits
namespace Go.Proofs.YtopfnfmglnjljaaGreatDoor.Ly
open Go.Proofs.YtopfnfmglnjljaaGreatDoor
set_option linter.unusedVariables false
set_option linter.unusedSimpArgs false

theorem names_fit (s : Nat) (h : s < 4) : Fit (.name (rawNames.getD s [])) := by
  match s, h with
  | 0, _ => exact ⟨by decide, by decide⟩
  | 1, _ => exact ⟨by decide, by decide⟩
  | 2, _ => exact ⟨by decide, by decide⟩
  | 3, _ => exact ⟨by decide, by decide⟩

theorem shape_fit (k n : Int) (a b : Ex) (ha : Fit a) (hb : Fit b) : Fit (shape k n a b) := by
  have r1 := Int.emod_nonneg k (show (18 : Int) ≠ 0 by omega)
  have r2 := Int.emod_lt_of_pos k (show (0 : Int) < 18 by omega)
  have r3 := Int.emod_nonneg n (show (4 : Int) ≠ 0 by omega)
  have r4 := Int.emod_lt_of_pos n (show (0 : Int) < 4 by omega)
  unfold shape
  generalize k % 18 = r at *
  split
  · exact rawNums_le _
  · split
    · exact names_fit _ (by omega)
    · split
      · trivial
      · split
        · exact ha
        · exact ⟨by omega, by omega, ha, hb⟩

theorem make_fit : ∀ (l : Fo) (k n : Int), Fit (makeP l k n)
  | .nil, k, n => shape_fit _ _ _ _ (lack_small _ _) (lack_small _ _)
  | .cons k0 n0 l0 .nil, k, n => shape_fit _ _ _ _ (make_fit l0 k0 n0) (lack_small _ _)
  | .cons k0 n0 l0 (.cons k1 n1 l1 _), k, n => shape_fit _ _ _ _ (make_fit l0 k0 n0) (make_fit l1 k1 n1)

theorem one_fit : ∀ (l : Fo), Fit (oneP l)
  | .nil => by show 1 ≤ 4294967295; omega
  | .cons k n l _ => make_fit l k n

theorem shape_high (k n : Int) (a b : Ex) (m : Nat) (ha : high a ≤ m) (hb : high b ≤ m) : high (shape k n a b) ≤ m + 1 := by
  unfold shape
  split
  · simp [high]
  · split
    · simp [high]
    · split
      · simp [high]
      · split
        · simp [high]; omega
        · simp [high]; omega

theorem make_high : ∀ (l : Fo) (k n : Int), high (makeP l k n) ≤ l.deep + 1
  | .nil, k, n => shape_high _ _ _ _ _ (by simp [lackP, high]) (by simp [lackP, high])
  | .cons k0 n0 l0 .nil, k, n => by
    have h := make_high l0 k0 n0
    exact shape_high _ _ _ _ _ (by simp only [Fo.deep]; omega) (by simp [lackP, high])
  | .cons k0 n0 l0 (.cons k1 n1 l1 _), k, n => by
    have h := make_high l0 k0 n0
    have h' := make_high l1 k1 n1
    exact shape_high _ _ _ _ _ (by simp only [Fo.deep]; omega) (by simp only [Fo.deep]; omega)

theorem one_high (l : Fo) (h : l.deep ≤ 8) : high (oneP l) ≤ 8 := by
  cases l with
  | nil => simp [oneP, high]
  | cons k n l r =>
    have := make_high l k n
    simp only [Fo.deep] at h
    show high (makeP l k n) ≤ 8
    omega

theorem child_len (x : Ex) (t : Bs) : (childP x t).length ≤ t.length + 2 := by unfold childP; split <;> simp

theorem sign_len (k : Nat) : (signOf k).length ≤ 2 := by
  unfold signOf
  repeat' split
  all_goals simp

theorem text_len : ∀ (x : Ex), Fit x → (textP x).length + 8 ≤ 28 * 2 ^ high x
  | .zero, h => h.elim
  | .num n, h => by
    have h : n ≤ 4294967295 := h
    have := dec_len n (by omega)
    show (Go.Lib.itoa (n : Int)).length + 8 ≤ 28 * 2 ^ 0
    rw [itoa_dec]
    omega
  | .name s, h => by
    have h := h.1
    have : s.length ≤ 12 := by
      cases s with
      | nil => simp
      | cons c t => simp only [wordP, Bool.and_eq_true, decide_eq_true_eq] at h; exact h.1.1
    show s.length + 8 ≤ 28 * 2 ^ 0
    omega
  | .here, h => by decide
  | .neg x, h => by
    have i := text_len x h
    have c := child_len x (textP x)
    have : 0 < 2 ^ high x := Nat.two_pow_pos _
    simp only [textP, List.length_cons, high, Nat.pow_succ]
    omega
  | .two k x y, h => by
    have i := text_len x h.2.2.1
    have j := text_len y h.2.2.2
    have c := child_len x (textP x)
    have d := child_len y (textP y)
    have s := sign_len k
    have p1 : 2 ^ high x ≤ 2 ^ max (high x) (high y) := Nat.pow_le_pow_right (by omega) (by omega)
    have p2 : 2 ^ high y ≤ 2 ^ max (high x) (high y) := Nat.pow_le_pow_right (by omega) (by omega)
    simp only [textP, List.length_append, List.length_cons, List.length_nil, high, Nat.pow_succ]
    omega

theorem one_len (l : Fo) (h : l.deep ≤ 8) : (textP (oneP l)).length ≤ 7168 := by
  have h1 := text_len (oneP l) (one_fit l)
  have h2 : 2 ^ high (oneP l) ≤ 2 ^ 8 := Nat.pow_le_pow_right (by omega) (one_high l h)
  omega

theorem fit_told : ∀ (x : Ex), Fit x → Told x
  | .zero, h => h
  | .num _, _ => trivial
  | .name s, h => word_ne h.1
  | .here, _ => trivial
  | .neg x, h => fit_told x h
  | .two _ x y, h => ⟨fit_told x h.2.2.1, fit_told y h.2.2.2⟩

theorem parse_one (l : Fo) (h : l.deep ≤ 8) : parseP (textP (oneP l)) = some (oneP l) := parse_text (one_fit l) (Nat.le_trans (one_high l h) (by omega))
theorem parse_one_spread (l : Fo) (h : l.deep ≤ 8) {t : Bs} (hs : Spread (textP (oneP l)) t) : parseP (32 :: (t ++ [32, 32])) = some (oneP l) := parse_spread (one_fit l) (Nat.le_trans (one_high l h) (by omega)) hs
end Go.Proofs.YtopfnfmglnjljaaGreatDoor.Ly
