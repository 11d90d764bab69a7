/- The reference's own way through a store's versions: by places. -/
import Derived.Test.YtcnajkclbmddgaaSto
namespace Go.Proofs.Ytcnajkclbmddgaa
set_option linter.unusedVariables false
set_option linter.unusedSimpArgs false

/-- The place of the newest hit among the first i; -1: none. -/
def bestP (key : ByteArray) (t : Int) (l : List Ver) : Nat → Int
  | 0 => -1
  | i + 1 => if (l[i]?.any fun x => x.hit key t) then (i : Int) else bestP key t l i

theorem best_last (key : ByteArray) (t : Int) (l : List Ver) : ∀ i, i ≤ l.length →
    (bestP key t l i = -1 ∧ lastP key t (l.take i) = none) ∨ ∃ (k : Nat) (x : Ver), k < i ∧ bestP key t l i = (k : Int) ∧ l[k]? = some x ∧ lastP key t (l.take i) = some x
  | 0, _ => .inl ⟨rfl, by simp [lastP]⟩
  | i + 1, h => by
    obtain ⟨x, hx⟩ : ∃ x, l[i]? = some x := ⟨_, List.getElem?_eq_getElem (by omega)⟩
    have ht : l.take (i + 1) = l.take i ++ [x] := by rw [List.take_add_one, hx]; rfl
    rw [ht, lastP_snoc]
    unfold bestP
    rw [hx]
    cases hh : x.hit key t with
    | true =>
      refine .inr ⟨i, x, by omega, ?_, hx, ?_⟩
      · simp [hh]
      · simp
    | false =>
      have ih := best_last key t l i (by omega)
      simp only [Option.any_some, hh, Bool.false_eq_true, if_false]
      rcases ih with ih | ⟨k, y, h1, h2, h3, h4⟩
      · exact .inl ih
      · exact .inr ⟨k, y, by omega, h2, h3, h4⟩

/-- Of all: the newest hit's place, or none. -/
theorem best_all (key : ByteArray) (t : Int) (l : List Ver) :
    (bestP key t l l.length = -1 ∧ lastP key t l = none) ∨ ∃ (k : Nat) (x : Ver), k < l.length ∧ bestP key t l l.length = (k : Int) ∧ l[k]? = some x ∧ lastP key t l = some x := by
  have := best_last key t l l.length (Nat.le_refl _)
  rwa [List.take_length] at this

theorem best_step {key : ByteArray} {t : Int} {l : List Ver} {i : Nat} {x : Ver} (hx : l[i]? = some x) : bestP key t l (i + 1) = if x.hit key t then (i : Int) else bestP key t l i := by
  show (if (l[i]?.any fun x => x.hit key t) then (i : Int) else bestP key t l i) = _
  rw [hx]
  rfl

theorem best_lt (key : ByteArray) (t : Int) (l : List Ver) : ∀ i, bestP key t l i < (i : Int)
  | 0 => by simp [bestP]
  | i + 1 => by
    have := best_lt key t l i
    unfold bestP
    split <;> omega

/-- From a hit on no other one comes: it is the newest. -/
theorem best_at {key : ByteArray} {t : Int} {l : List Ver} {i : Nat} {x : Ver} (hx : l[i]? = some x) : ∀ m, i + 1 ≤ m → m ≤ l.length →
    (bestP key t l m = (i : Int) ↔ x.hit key t = true ∧ lastP key t ((l.take m).drop (i + 1)) = none)
  | 0, h, _ => by omega
  | m + 1, h, hm => by
    obtain ⟨y, hy⟩ : ∃ y, l[m]? = some y := ⟨_, List.getElem?_eq_getElem (by omega)⟩
    by_cases e : i = m
    · subst e
      rw [hx] at hy
      cases hy
      have hd : (l.take (i + 1)).drop (i + 1) = [] := List.drop_eq_nil_of_le (by rw [List.length_take]; omega)
      rw [hd, best_step hx]
      have := best_lt key t l i
      cases hh : x.hit key t with
      | true => simp [lastP]
      | false =>
        simp only [Bool.false_eq_true, if_false, false_and, iff_false]
        omega
    · have ih := best_at hx (key := key) (t := t) m (by omega) (by omega)
      have ht : (l.take (m + 1)).drop (i + 1) = (l.take m).drop (i + 1) ++ [y] := by
        rw [List.take_add_one, hy, List.drop_append_of_le_length (by rw [List.length_take]; omega)]
        rfl
      rw [ht, lastP_snoc, best_step hy]
      cases hh : y.hit key t with
      | true =>
        simp only [if_true]
        constructor
        · intro h; exact absurd (Int.ofNat.inj h).symm e
        · rintro ⟨_, h⟩; cases h
      | false => simpa using ih

theorem best_here {l : List Ver} {i : Nat} {x : Ver} {low : Int} (hx : l[i]? = some x) (hl : i < l.length) : bestP x.w.key low l l.length = (i : Int) ↔ x.at' ≤ low ∧ lastP x.w.key low (l.drop (i + 1)) = none := by
  have := best_at (key := x.w.key) (t := low) hx l.length (by omega) (Nat.le_refl _)
  rw [List.take_length] at this
  rw [this]
  unfold Ver.hit
  simp

/-- Does the version at place i stay? -/
def stays (low : Int) (l : List Ver) (i : Nat) (x : Ver) : Bool := decide (low < x.at') || (decide (bestP x.w.key low l l.length = (i : Int)) && !x.w.gone)

/-- What was kept of the first i. -/
def keepI (low : Int) (l : List Ver) : Nat → List Ver
  | 0 => []
  | i + 1 => keepI low l i ++ (match l[i]? with | some x => if stays low l i x then [x] else [] | none => [])

theorem keepI_step {low : Int} {l : List Ver} {i : Nat} {x : Ver} (hx : l[i]? = some x) : keepI low l (i + 1) = keepI low l i ++ if stays low l i x then [x] else [] := by
  show keepI low l i ++ (match l[i]? with | some x => if stays low l i x then [x] else [] | none => []) = _
  rw [hx]

theorem keepP_cons (low : Int) (x : Ver) (l : List Ver) : keepP low (x :: l) = if low < x.at' ∨ (lastP x.w.key low l = none ∧ x.w.gone = false) then x :: keepP low l else keepP low l := rfl

theorem keepI_keepP (low : Int) (l : List Ver) : ∀ i, i ≤ l.length → keepI low l i ++ keepP low (l.drop i) = keepP low l
  | 0, _ => by simp [keepI]
  | i + 1, h => by
    have ih := keepI_keepP low l i (by omega)
    obtain ⟨x, hx⟩ : ∃ x, l[i]? = some x := ⟨_, List.getElem?_eq_getElem (by omega)⟩
    obtain ⟨h1, h2⟩ := List.getElem?_eq_some_iff.1 hx
    rw [← ih, keepI_step hx, List.drop_eq_getElem_cons h1, h2, List.append_assoc]
    congr 1
    have hb := best_here (low := low) hx h1
    show _ = keepP low (x :: l.drop (i + 1))
    have e : stays low l i x = decide (low < x.at' ∨ (lastP x.w.key low (l.drop (i + 1)) = none ∧ x.w.gone = false)) := by
      unfold stays
      by_cases hlt : low < x.at'
      · simp [hlt]
      · have hle : x.at' ≤ low := by omega
        rw [decide_eq_false hlt, Bool.false_or]
        have hb2 : bestP x.w.key low l l.length = (i : Int) ↔ lastP x.w.key low (l.drop (i + 1)) = none := by rw [hb]; simp [hle]
        by_cases hn : lastP x.w.key low (l.drop (i + 1)) = none
        · simp [hb2, hn, hlt]
        · simp [hb2, hn, hlt]
    rw [e, keepP_cons]
    by_cases hk : low < x.at' ∨ (lastP x.w.key low (l.drop (i + 1)) = none ∧ x.w.gone = false)
    · rw [if_pos hk, if_pos (decide_eq_true hk)]
      rfl
    · rw [if_neg hk, if_neg (by simpa using hk)]
      rfl

theorem keepI_all (low : Int) (l : List Ver) : keepI low l l.length = keepP low l := by
  have := keepI_keepP low l l.length (Nat.le_refl _)
  rwa [List.drop_length, keepP, List.append_nil] at this
end Go.Proofs.Ytcnajkclbmddgaa
