/- Heaps, in plain words. -/
import Derived.Test.YtcnajkclbmddgaaSwap
namespace Go.Proofs.Ytcnajkclbmddgaa
set_option linter.unusedVariables false
set_option linter.unusedSimpArgs false

def swK (K : Nat → Int) (i j k : Nat) : Int := if k = j then K i else if k = i then K j else K k
def HeapOn (K : Nat → Int) (n : Nat) : Prop := ∀ k, 0 < k → k < n → K ((k - 1) / 2) ≤ K k
def UpInv (K : Nat → Int) (j n : Nat) : Prop := (∀ k, 0 < k → k < n → k ≠ j → K ((k - 1) / 2) ≤ K k) ∧ (∀ k, 0 < k → k < n → (k - 1) / 2 = j → 0 < j → K ((j - 1) / 2) ≤ K k)
def DownInv (K : Nat → Int) (i n : Nat) : Prop := (∀ k, 0 < k → k < n → (k - 1) / 2 ≠ i → K ((k - 1) / 2) ≤ K k) ∧ (∀ k, 0 < k → k < n → (k - 1) / 2 = i → 0 < i → K ((i - 1) / 2) ≤ K k)

theorem up_done {K : Nat → Int} {j n : Nat} (U : UpInv K j n) (h : j = 0 ∨ K ((j - 1) / 2) ≤ K j) : HeapOn K n := by
  intro k h0 hn
  by_cases e : k = j
  · subst e
    rcases h with h | h
    · omega
    · exact h
  · exact U.1 k h0 hn e

theorem up_step {K : Nat → Int} {j n : Nat} (U : UpInv K j n) (h0 : 0 < j) (hn : j < n) (h : K j < K ((j - 1) / 2)) : UpInv (swK K ((j - 1) / 2) j) ((j - 1) / 2) n := by
  generalize hp : (j - 1) / 2 = p at *
  have hpj : p < j := by omega
  constructor
  · intro k k0 kn kp
    by_cases e : k = j
    · subst e
      rw [hp]
      simp only [swK, if_true, if_neg (show ¬ p = k by omega)]
      omega
    · have a1 := U.1 k k0 kn e
      by_cases e1 : (k - 1) / 2 = j
      · have a2 := U.2 k k0 kn e1 h0
        rw [hp] at a2
        simp only [swK, if_pos e1, if_neg e, if_neg kp]
        exact a2
      · by_cases e2 : (k - 1) / 2 = p
        · rw [e2] at a1
          simp only [swK, e2, if_neg (show ¬ p = j by omega), if_true, if_neg e, if_neg kp]
          omega
        · simp only [swK, if_neg e1, if_neg e2, if_neg e, if_neg kp]
          exact a1
  · intro k k0 kn kp hp0
    have b1 := U.1 p hp0 (by omega) (by omega)
    by_cases e : k = j
    · subst e
      simp only [swK, if_true, if_neg (show ¬ (p - 1) / 2 = k by omega), if_neg (show ¬ (p - 1) / 2 = p by omega)]
      exact b1
    · have a1 := U.1 k k0 kn e
      rw [kp] at a1
      simp only [swK, if_neg (show ¬ (p - 1) / 2 = j by omega), if_neg (show ¬ (p - 1) / 2 = p by omega), if_neg e, if_neg (show ¬ k = p by omega)]
      omega

theorem down_done {K : Nat → Int} {i n : Nat} (U : DownInv K i n) (h : ∀ k, 0 < k → k < n → (k - 1) / 2 = i → K i ≤ K k) : HeapOn K n := by
  intro k h0 hn
  by_cases e : (k - 1) / 2 = i
  · rw [e]; exact h k h0 hn e
  · exact U.1 k h0 hn e

theorem down_step {K : Nat → Int} {i j n : Nat} (U : DownInv K i n) (hj : (j - 1) / 2 = i) (h0 : 0 < j) (hn : j < n) (hmin : ∀ k, 0 < k → k < n → (k - 1) / 2 = i → K j ≤ K k) (h : K j < K i) : DownInv (swK K i j) j n := by
  have hij : i < j := by omega
  constructor
  · intro k k0 kn kp
    by_cases e1 : (k - 1) / 2 = i
    · have a := hmin k k0 kn e1
      by_cases e : k = j
      · subst e
        simp only [swK, e1, if_true, if_neg (show ¬ i = k by omega)]
        omega
      · simp only [swK, e1, if_neg (show ¬ i = j by omega), if_true, if_neg e, if_neg (show ¬ k = i by omega)]
        exact a
    · have a := U.1 k k0 kn e1
      have e : ¬ k = j := by rintro rfl; exact e1 hj
      by_cases e2 : k = i
      · subst e2
        have b := U.2 j h0 hn hj k0
        simp only [swK, if_neg kp, if_neg e1, if_neg e, if_true]
        exact b
      · simp only [swK, if_neg kp, if_neg e1, if_neg e, if_neg e2]
        exact a
  · intro k k0 kn kp _
    have a := U.1 k k0 kn (by omega)
    rw [kp] at a
    simp only [swK, hj, if_neg (show ¬ i = j by omega), if_true, if_neg (show ¬ k = j by omega), if_neg (show ¬ k = i by omega)]
    exact a

/-- The keys of a list. -/
def keyL (f : Nat → Int) (l : List Nat) (k : Nat) : Int := f (l.getD k 0)

theorem swapL_get {l : List Nat} {i j : Nat} (hi : i < l.length) (hj : j < l.length) (k : Nat) : (swapL l i j).getD k 0 = if k = j then l.getD i 0 else if k = i then l.getD j 0 else l.getD k 0 := by
  unfold swapL
  simp only [List.getD_eq_getElem?_getD, List.getElem?_set, List.length_set]
  by_cases e : k = j
  · subst e; simp [hj]
  · rw [if_neg (Ne.symm e), if_neg e]
    by_cases e2 : k = i
    · subst e2; simp [hi]
    · rw [if_neg (Ne.symm e2), if_neg e2]

theorem keyL_swap (f : Nat → Int) {l : List Nat} {i j : Nat} (hi : i < l.length) (hj : j < l.length) : keyL f (swapL l i j) = swK (keyL f l) i j := by
  funext k
  unfold keyL swK
  rw [swapL_get hi hj k]
  split
  · rfl
  · split <;> rfl

theorem swapL_perm {l : List Nat} {i j : Nat} (hi : i < l.length) (hj : j < l.length) : (swapL l i j).Perm l := by
  unfold swapL
  rw [List.getD_eq_getElem?_getD, List.getD_eq_getElem?_getD, List.getElem?_eq_getElem hi, List.getElem?_eq_getElem hj]
  exact List.set_set_perm hi hj

theorem push_inv {f : Nat → Int} {l : List Nat} {x : Nat} (H : HeapOn (keyL f l) l.length) : UpInv (keyL f (l ++ [x])) l.length (l ++ [x]).length := by
  have e : ∀ k, k < l.length → keyL f (l ++ [x]) k = keyL f l k := by
    intro k hk
    unfold keyL
    rw [List.getD_eq_getElem?_getD, List.getD_eq_getElem?_getD, List.getElem?_append_left hk]
  constructor
  · intro k k0 kn kj
    have : k < l.length := by simp at kn; omega
    rw [e _ this, e _ (by omega)]
    exact H k k0 this
  · intro k k0 kn kp h0
    simp at kn
    omega

theorem pop_inv {f : Nat → Int} {l : List Nat} (h0 : 0 < l.length) (H : HeapOn (keyL f l) l.length) : DownInv (keyL f (swapL l 0 (l.length - 1))) 0 (l.length - 1) := by
  rw [keyL_swap f h0 (by omega)]
  constructor
  · intro k k0 kn kp
    simp only [swK, if_neg (show ¬ (k - 1) / 2 = l.length - 1 by omega), if_neg kp, if_neg (show ¬ k = l.length - 1 by omega), if_neg (show ¬ k = 0 by omega)]
    exact H k k0 (by omega)
  · intro k _ _ _ h; omega
end Go.Proofs.Ytcnajkclbmddgaa
