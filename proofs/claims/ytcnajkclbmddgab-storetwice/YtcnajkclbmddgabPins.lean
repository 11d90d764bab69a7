/- Stamps that are pinned: searched. -/
import Derived.Test.YtcnajkclbmddgabOwn
import Derived.Deep.LoopGhost
namespace Go.Proofs.Ytcnajkclbmddgab
open Go.ChangeShapes Go.WideShapes Go.ChangeAt Go.RowKit
set_option linter.unusedVariables false
set_option linter.unusedSimpArgs false

abbrev Pn := Int × Int
theorem encP_len : ∀ l, (encP l).length = l.length * 2
  | [] => rfl
  | x :: l => by simp [encP, encP_len l]; omega
theorem encP_append : ∀ l m, encP (l ++ m) = encP l ++ encP m
  | [], m => rfl
  | x :: l, m => by simp [encP, encP_append l m]
theorem encP_get : ∀ (l : List Pn) (j : Nat) (x : Pn), l[j]? = some x → (encP l)[j * 2]? = some (.int .i64 x.1) ∧ (encP l)[j * 2 + 1]? = some (.int .i64 x.2)
  | [], j, x, h => by simp at h
  | y :: l, 0, x, h => by simp at h; subst h; simp [encP]
  | y :: l, j + 1, x, h => by
    have := encP_get l j x (by simpa using h)
    rw [show (j + 1) * 2 = j * 2 + 2 by omega, show j * 2 + 2 + 1 = j * 2 + 1 + 2 by omega]
    simpa [encP] using this

/-- Pins in a slice. -/
def AtP (w : World) (a : Option Addr) (l : List Pn) : Prop :=
  0 < l.length → ∃ g o, a = some ⟨g, o, none⟩ ∧ g < w.heap.size ∧ ∀ j x, l[j]? = some x → w.cell? ⟨g, o + j * 2, none⟩ = some (.int .i64 x.1) ∧ w.cell? ⟨g, o + j * 2 + 1, none⟩ = some (.int .i64 x.2)

theorem own_atP {w : World} {base : Nat} {v : Value} {l : List Pn} (h : w.ownsRow base 62 2 v l.length (encP l)) : ∃ a c, v = .slice a l.length c ∧ l.length ≤ c ∧ AtP w a l := by
  rcases h.2 with ⟨rfl, h0⟩ | ⟨g, cap, cur, rfl, _, hg, hnc, _⟩
  · exact ⟨none, 0, by rw [h0], by rw [h0]; exact Nat.le_refl _, fun h1 => by omega⟩
  · refine ⟨_, _, rfl, hnc, fun _ => ⟨g, 0, rfl, (Array.getElem?_eq_some_iff.1 hg).1, fun j x hx => ?_⟩⟩
    obtain ⟨a1, a2⟩ := encP_get l j x hx
    have b1 := h.cells (g := g) rfl _ _ a1
    have b2 := h.cells (g := g) rfl _ _ a2
    rw [cell_add] at b1 b2
    exact ⟨b1, by rw [Nat.add_assoc]; exact b2⟩

def RiseP (l : List Pn) : Prop := l.Pairwise fun a b => a.1 < b.1
def upToN (t : Int) (l : List Pn) : Nat := l.countP fun x => decide (x.1 ≤ t)

theorem upToN_eq {t : Int} {l : List Pn} (n : Nat) (hn : n ≤ l.length) (h1 : ∀ i x, i < n → l[i]? = some x → x.1 ≤ t) (h2 : ∀ i x, n ≤ i → l[i]? = some x → t < x.1) : upToN t l = n := by
  unfold upToN
  have e : l = l.take n ++ l.drop n := (List.take_append_drop n l).symm
  rw [e, List.countP_append, List.countP_eq_length.2, List.countP_eq_zero.2]
  · simp; omega
  · intro x hx
    obtain ⟨i, hi⟩ := List.getElem?_of_mem hx
    rw [List.getElem?_drop] at hi
    have := h2 (n + i) x (by omega) hi
    simp; omega
  · intro x hx
    obtain ⟨i, hi⟩ := List.getElem?_of_mem hx
    have hil : i < n := by
      have := (List.getElem?_eq_some_iff.1 hi).1
      simp at this; omega
    rw [List.getElem?_take_of_lt hil] at hi
    have := h1 i x hil hi
    simp; omega

theorem riseP_get {l : List Pn} (hs : RiseP l) {i j : Nat} {x y : Pn} (hi : l[i]? = some x) (hj : l[j]? = some y) (h : i ≤ j) : x.1 ≤ y.1 := by
  by_cases e : i = j
  · subst e
    rw [hi] at hj
    cases hj
    exact Int.le_refl _
  · obtain ⟨hi1, hi2⟩ := List.getElem?_eq_some_iff.1 hi
    obtain ⟨hj1, hj2⟩ := List.getElem?_eq_some_iff.1 hj
    have := List.pairwise_iff_getElem.1 hs i j hi1 hj1 (by omega)
    rw [hi2, hj2] at this
    omega

theorem past_p (w : World) (a b : Int) : Sem.run Try.prog (method 213 62 (.agg #[.int .i64 a, .int .i64 b]) "letterpress/store.past") w = .ok (47, .agg #[.int .i64 a]) w := by kernel_rfl

end Go.Proofs.Ytcnajkclbmddgab
