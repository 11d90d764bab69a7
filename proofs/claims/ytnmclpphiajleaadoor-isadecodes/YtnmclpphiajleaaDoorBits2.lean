/- Plain facts on an instruction of which one operand is another one. -/
import Derived.Test.YtnmclpphiajleaaDoorCopy2
namespace Go.Proofs.YtnmclpphiajleaaDoor
open Go.ChangeShapes Go.WideShapes Go.ChangeAt Go.RowKit
open Plain
set_option linter.unusedVariables false
set_option linter.unusedSimpArgs false

theorem codeGo_iff : ∀ (ks : List K) (fs : List Int) (a : Int), fs.length = ks.length → ((codeGo ks fs a).2 = true ↔ ∀ (i : Nat) (k : K) (f : Int), ks[i]? = some k → fs[i]? = some f → (k.code f).2 = true)
  | [], fs, a, _ => by simp [codeGo]
  | k :: ks, [], a, h => by simp at h
  | k :: ks, f :: fs, a, h => by
    unfold codeGo
    constructor
    · intro hh i k' f' hk hf
      by_cases hc : (k.code f).2 = true
      · rw [if_pos hc] at hh
        cases i with
        | zero => simp at hk hf; subst hk; subst hf; exact hc
        | succ i => exact (codeGo_iff ks fs _ (by simpa using h)).1 hh i k' f' (by simpa using hk) (by simpa using hf)
      · rw [if_neg hc] at hh; cases hh
    · intro hh
      rw [if_pos (hh 0 k f rfl rfl)]
      exact (codeGo_iff ks fs _ (by simpa using h)).2 fun i k' f' hk hf => hh (i + 1) k' f' (by simpa using hk) (by simpa using hf)

theorem coded_set {op : Int} {fs : List Int} {j : Nat} {k : K} {v : Int} (h : (codedP op fs).2 = true) (hk : (rowP op).ks[j]? = some k) (hv : (k.code v).2 = true) : (codedP op (fs.set j v)).2 = true := by
  unfold codedP at h ⊢
  by_cases hc : isP op = true ∧ fs.length = (rowP op).ks.length
  · rw [if_pos hc] at h
    rw [if_pos ⟨hc.1, by rw [List.length_set]; exact hc.2⟩]
    rw [codeGo_iff _ _ _ hc.2] at h
    refine (codeGo_iff _ _ _ (by rw [List.length_set]; exact hc.2)).2 fun i k' f hk' hf => ?_
    rw [List.getElem?_set] at hf
    split at hf
    · rename_i hij
      subst hij
      split at hf
      · rw [hk] at hk'
        cases hk'
        simp at hf
        subst hf
        exact hv
      · simp at hf
    · exact h i k' f hk' hf
  · rw [if_neg hc] at h; cases h

theorem set_same_iff {fs : List Int} {j : Nat} {x v : Int} (hx : fs[j]? = some x) : fs = fs.set j v ↔ x = v := by
  constructor
  · intro h
    have := congrArg (·[j]?) h
    have hj : j < fs.length := (List.getElem?_eq_some_iff.1 hx).1
    simp only [hx, List.getElem?_set, if_true, hj] at this
    simpa using this
  · rintro rfl
    apply List.ext_getElem?
    intro i
    rw [List.getElem?_set]
    split
    · rename_i h; subst h
      have hj : j < fs.length := (List.getElem?_eq_some_iff.1 hx).1
      rw [hx]; simp [hj]
    · rfl

/-- Bytes and operands: the same just together. -/
theorem bits_fact {op : Int} {fs : List Int} {j : Nat} {x v : Int} (h : (codedP op fs).2 = true) (h' : (codedP op (fs.set j v)).2 = true) (hx : fs[j]? = some x) :
    decide (bytesP (sizeP op) (codedP op fs).1 = bytesP (sizeP op) (codedP op (fs.set j v)).1) = (x == v) := by
  by_cases e : x = v
  · have := (set_same_iff hx).2 e
    rw [← this]
    simp [e]
  · have hn : ¬ fs = fs.set j v := fun h => e ((set_same_iff hx).1 h)
    have : ¬ bytesP (sizeP op) (codedP op fs).1 = bytesP (sizeP op) (codedP op (fs.set j v)).1 := fun hb => hn (coded_same h h' hb).2
    rw [decide_eq_false this]
    simp [e]

theorem opd_range64 (k : K) (n : Int) : -9223372036854775808 ≤ k.opd n ∧ k.opd n ≤ 9223372036854775807 := by have := opd_range k n; omega

theorem set_range {fs : List Int} {j : Nat} {v : Int} (h : InRange fs) (hv : -9223372036854775808 ≤ v ∧ v ≤ 9223372036854775807) : InRange (fs.set j v) := by
  intro x hx
  rcases List.mem_or_eq_of_mem_set hx with h' | rfl
  · exact h x h'
  · exact hv

/-- The slice, of which one cell was set. -/
theorem slice_set {W : World} {g n c j : Nat} {fs : List Int} {v : Int} (hj : j < fs.length) (hn : fs.length = n) (h : SliceIs W (.slice (some ⟨g, 0, none⟩) n c) fs) : SliceIs (W.setCell ⟨g, j, none⟩ (.int .i64 v)) (.slice (some ⟨g, 0, none⟩) n c) (fs.set j v) := by
  obtain ⟨p, cap, e, hc⟩ := h
  cases e
  obtain ⟨b, o, e, hcc⟩ := hc (by rintro rfl; simp at hj)
  cases e
  refine ⟨_, _, by rw [List.length_set], fun _ => ⟨g, 0, rfl, fun i x hx => ?_⟩⟩
  rw [List.getElem?_set] at hx
  rw [Nat.zero_add]
  split at hx
  · rename_i hij; subst hij
    cases hx
    have := hcc j _ (List.getElem?_eq_getElem hj)
    rw [Nat.zero_add] at this
    exact World.cell?_setCell_same W ⟨g, j, none⟩ _ this
  · rename_i hij
    have := hcc i x hx
    rw [Nat.zero_add] at this
    rw [World.cell?_setCell_other _ _ _ _ (by simp <;> omega)]
    exact this

/-- A slice in another block stays. -/
theorem slice_far {W : World} {b o n c g j : Nat} {fs : List Int} {u : Value} (hb : b ≠ g) (h : SliceIs W (.slice (some ⟨b, o, none⟩) n c) fs) : SliceIs (W.setCell ⟨g, j, none⟩ u) (.slice (some ⟨b, o, none⟩) n c) fs := by
  obtain ⟨p, cap, e, hc⟩ := h
  cases e
  refine ⟨_, _, rfl, fun hn => ?_⟩
  obtain ⟨b', o', e, hcc⟩ := hc hn
  cases e
  refine ⟨b, o, rfl, fun i x hx => ?_⟩
  rw [World.cell?_setCell_other _ _ _ _ (by simp <;> omega)]
  exact hcc i x hx

theorem cell_far {W : World} {b o g j : Nat} {u v : Value} (hb : b ≠ g) (h : W.cell? ⟨b, o, none⟩ = some v) : (W.setCell ⟨g, j, none⟩ u).cell? ⟨b, o, none⟩ = some v := by
  rw [World.cell?_setCell_other _ _ _ _ (by simp <;> omega)]
  exact h
end Go.Proofs.YtnmclpphiajleaaDoor
