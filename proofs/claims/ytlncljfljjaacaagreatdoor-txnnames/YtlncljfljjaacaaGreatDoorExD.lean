/- Texts in rows, as plain data: joined, parted. -/
import Derived.Test.YtlncljfljjaacaaGreatDoorExC
import Derived.Lib.IndexLaws
namespace Go.Proofs.YtlncljfljjaacaaGreatDoor.E
open Go.ChangeShapes Go.WideShapes Go.ChangeAt Go.RowKit
set_option linter.unusedVariables false
set_option linter.unusedSimpArgs false

def joinP (l : List Bs) : Bs := l.flatMap fun s => s ++ [10]
def partsGo (cur : Bs) : Bs → List Bs
  | [] => []
  | c :: r => if c = 10 then cur :: partsGo [] r else partsGo (cur ++ [c]) r
def partsP (s : Bs) : List Bs := partsGo [] s

theorem partsGo_plain (a r : Bs) (h : ∀ c ∈ a, c ≠ 10) : ∀ cur, partsGo cur (a ++ r) = partsGo (cur ++ a) r := by
  induction a with
  | nil => intro cur; simp
  | cons c a ih =>
    intro cur
    rw [List.cons_append, partsGo, if_neg (h c (by simp)), ih (fun x hx => h x (by simp [hx]))]
    simp

theorem partsGo_line (cur a r : Bs) (h : ∀ c ∈ a, c ≠ 10) : partsGo cur (a ++ 10 :: r) = (cur ++ a) :: partsP r := by
  rw [partsGo_plain a _ h, partsGo, if_pos rfl]; rfl
theorem partsGo_none (cur a : Bs) (h : ∀ c ∈ a, c ≠ 10) : partsGo cur a = [] := by
  have := partsGo_plain a [] h cur
  rw [List.append_nil] at this
  rw [this]; rfl

theorem joinP_cons (s : Bs) (l : List Bs) : joinP (s :: l) = s ++ 10 :: joinP l := by simp [joinP]
theorem joinP_snoc (l : List Bs) (s : Bs) : joinP (l ++ [s]) = joinP l ++ s ++ [10] := by simp [joinP]

theorem parts_join : ∀ (l : List Bs), (∀ s ∈ l, ∀ c ∈ s, c ≠ 10) → partsP (joinP l) = l
  | [], _ => rfl
  | s :: l, h => by
    have ih := parts_join l (fun x hx => h x (by simp [hx]))
    rw [joinP_cons]
    show partsGo [] (s ++ 10 :: joinP l) = _
    rw [partsGo_line [] s _ (h s (by simp)), List.nil_append, ih]

/-- Before, behind, whether there is a line's end. -/
def cutB (s : Bs) : Bs × Bs × Bool := if 0 ≤ Lib.indexByte s 10 then (s.take (Lib.indexByte s 10).toNat, s.drop ((Lib.indexByte s 10).toNat + 1), true) else (s, [], false)

theorem split_line {s : Bs} {o : Nat} (h : Lib.indexByte s 10 = o) : s = s.take o ++ 10 :: s.drop (o + 1) ∧ (∀ c ∈ s.take o, c ≠ 10) ∧ o < s.length := by
  obtain ⟨h1, h2⟩ := Lib.indexByte_some h
  have hl : o < s.length := (List.getElem?_eq_some_iff.1 h1).1
  refine ⟨?_, fun c hc => ?_, hl⟩
  · have e : s.drop o = 10 :: s.drop (o + 1) := by
      rw [List.drop_eq_getElem_cons hl]
      congr 1
      have := List.getElem?_eq_getElem hl
      rw [h1] at this
      exact (Option.some.inj this).symm
    rw [← e, List.take_append_drop]
  · obtain ⟨k, hk⟩ := List.getElem?_of_mem hc
    rw [List.getElem?_take] at hk
    split at hk
    · rename_i hko
      rintro rfl
      exact h2 k hko hk
    · cases hk

theorem no_line {s : Bs} (h : Lib.indexByte s 10 = -1) : ∀ c ∈ s, c ≠ 10 := by
  rintro c hc rfl
  obtain ⟨k, hk⟩ := List.getElem?_of_mem hc
  exact Lib.indexByte_none h k hk

theorem cut_cases (s : Bs) : (cutB s = (s, [], false) ∧ Lib.indexByte s 10 = -1 ∧ partsP s = []) ∨ ∃ o : Nat, Lib.indexByte s 10 = o ∧ o < s.length ∧ cutB s = (s.take o, s.drop (o + 1), true) ∧ partsP s = s.take o :: partsP (s.drop (o + 1)) := by
  have hg := Lib.indexByte_ge s 10
  by_cases h : 0 ≤ Lib.indexByte s 10
  · right
    obtain ⟨o, ho⟩ : ∃ o : Nat, Lib.indexByte s 10 = o := ⟨(Lib.indexByte s 10).toNat, by omega⟩
    obtain ⟨h1, h2, h3⟩ := split_line ho
    refine ⟨o, ho, h3, ?_, ?_⟩
    · unfold cutB
      rw [if_pos h, ho]
      rfl
    · conv => lhs; rw [h1]
      exact (partsGo_line [] _ _ h2).trans (by simp)
  · left
    have h1 : Lib.indexByte s 10 = -1 := by omega
    refine ⟨?_, h1, partsGo_none [] s (no_line h1)⟩
    unfold cutB
    rw [if_neg h]

/-! ### As the reference parts -/
/-- What is still to come, behind 'at' and i. -/
theorem ref_part (s : Bs) (a i : Nat) (hai : a ≤ i) (hi : i < s.length) (h : ∀ c ∈ (s.drop a).take (i - a), c ≠ 10) :
    (s[i]? = some 10 → partsGo ((s.drop a).take (i - a)) (s.drop i) = (s.drop a).take (i - a) :: partsGo [] (s.drop (i + 1))) ∧
    (s[i]? ≠ some 10 → partsGo ((s.drop a).take (i - a)) (s.drop i) = partsGo ((s.drop a).take (i + 1 - a)) (s.drop (i + 1))) := by
  have e := List.drop_eq_getElem_cons hi
  have e2 : s[i]? = some s[i] := List.getElem?_eq_getElem hi
  constructor
  · intro hc
    rw [e2] at hc
    rw [e, partsGo, if_pos (Option.some.inj hc)]
  · intro hc
    rw [e2] at hc
    rw [e, partsGo, if_neg (fun h => hc (by rw [h]))]
    congr 1
    rw [show i + 1 - a = (i - a) + 1 by omega, List.take_add_one, List.getElem?_drop, show a + (i - a) = i by omega, e2]
    rfl
end Go.Proofs.YtlncljfljjaacaaGreatDoor.E
