/- Numbers of ten and of sixteen: what parseP says of them. Nothing of Go stands here. -/
import Derived.Test.YtopfnfmglnjljaaGreatDoorDeep
namespace Go.Proofs.YtopfnfmglnjljaaGreatDoor.Nm
open Dp
set_option linter.unusedVariables false
set_option linter.unusedSimpArgs false

def hexC (d : Nat) : UInt8 := [48, 49, 50, 51, 52, 53, 54, 55, 56, 57, 97, 98, 99, 100, 101, 102].getD d 0

def hexT (v : Nat) : Bs := if h : v < 16 then [hexC v] else hexT (v / 16) ++ [hexC (v % 16)]

theorem hexC_dig (d : Nat) (h : d < 16) : hexDig (hexC d) = some d := by
  have : ∀ i : Fin 16, hexDig (hexC i.val) = some i.val := by decide
  exact this ⟨d, h⟩
theorem hexC_run (d : Nat) (h : d < 16) : runB (hexC d) = true := by
  have : ∀ i : Fin 16, runB (hexC i.val) = true := by decide
  exact this ⟨d, h⟩

theorem hexGo_snoc (c : UInt8) : ∀ (l : Bs) (a : Nat), hexGoP a (l ++ [c]) = (hexGoP a l).bind fun b => hexGoP b [c]
  | [], a => by simp [hexGoP]
  | x :: l, a => by
    simp only [List.cons_append, hexGoP]
    cases hexDig x with
    | none => rfl
    | some d =>
      simp only
      split
      · rfl
      · exact hexGo_snoc c l _

theorem hexGo_hexT (v : Nat) : hexGoP 0 (hexT v) = if v ≤ 4294967295 then some v else none := by
  induction v using Nat.strongRecOn with
  | _ v ih =>
    unfold hexT
    by_cases h : v < 16
    · rw [dif_pos h, if_pos (by omega)]
      simp only [hexGoP, hexC_dig v h, Nat.zero_mul, Nat.zero_add]
      rw [if_neg (by omega)]
    · rw [dif_neg h, hexGo_snoc, ih (v / 16) (by omega)]
      by_cases h2 : v / 16 ≤ 4294967295
      · rw [if_pos h2]
        simp only [Option.bind_some, hexGoP, hexC_dig (v % 16) (by omega)]
        rw [show v / 16 * 16 + v % 16 = v by omega]
        by_cases h3 : v ≤ 4294967295
        · rw [if_pos h3, if_neg (by omega)]
        · rw [if_neg h3, if_pos (by omega)]
      · rw [if_neg h2, if_neg (by omega)]; rfl

theorem hexGo_zeros (l : Bs) : ∀ k, hexGoP 0 (List.replicate k 48 ++ l) = hexGoP 0 l
  | 0 => by simp
  | k + 1 => by
    have : hexDig 48 = some 0 := by decide
    simp only [List.replicate_succ, List.cons_append, hexGoP, this, Nat.zero_mul, Nat.add_zero]
    rw [if_neg (by omega)]
    exact hexGo_zeros l k

theorem hexT_run (v : Nat) : ∀ c ∈ hexT v, runB c = true := by
  induction v using Nat.strongRecOn with
  | _ v ih =>
    unfold hexT
    by_cases h : v < 16
    · rw [dif_pos h]; intro c hc; simp at hc; subst hc; exact hexC_run v h
    · rw [dif_neg h]; intro c hc
      rw [List.mem_append] at hc
      rcases hc with hc | hc
      · exact ih _ (by omega) c hc
      · simp at hc; subst hc; exact hexC_run _ (by omega)

theorem hexT_ne (v : Nat) : hexT v ≠ [] := by
  unfold hexT
  split <;> simp

theorem take_all {l : Bs} (h : ∀ c ∈ l, runB c = true) : l.takeWhile runB = l ∧ l.dropWhile runB = [] := by
  induction l with
  | nil => simp
  | cons x l ih =>
    have hx := h x (by simp)
    have hl := ih (fun c hc => h c (by simp [hc]))
    simp [List.takeWhile, List.dropWhile, hx, hl.1, hl.2]

/-- A text of signs that may be in a run, a digit first, is one number or none. -/
theorem parse_run (c : UInt8) (l : Bs) (hc : digitB c = true) (h : ∀ x ∈ c :: l, runB x = true) : parseP (c :: l) = (numberP (c :: l)).map .num := by
  have hb : c ≠ 32 ∧ c ≠ 45 ∧ c ≠ 40 ∧ c ≠ 46 := by
    refine ⟨?_, ?_, ?_, ?_⟩ <;> (rintro rfl; revert hc; decide)
  have a := took_not c 45 l hb.1 hb.2.1
  have b := took_not c 40 l hb.1 hb.2.2.1
  have d := took_not c 46 l hb.1 hb.2.2.2
  obtain ⟨t1, t2⟩ := take_all h
  have hw : wordP (c :: l) = false := by simp [wordP, hc]
  have hs : singleP 12 (c :: l) = (leafP (c :: l)).map fun x => (x, []) := by
    simp only [singleP, a, b, d, t1, t2]
    simp
  have hf : leafP (c :: l) = (numberP (c :: l)).map .num := by simp [leafP, hw]
  unfold parseP
  rw [hf] at hs
  cases hn : numberP (c :: l) with
  | none =>
    rw [hn] at hs
    rw [ors_none hs]; rfl
  | some v =>
    rw [hn] at hs
    rw [ors_ends (x := .num v) (r := []) hs (.inl rfl)]
    simp [skipP, Go.Lib.trimLeftB]

theorem parse_hex (v k : Nat) : parseP (48 :: 120 :: (List.replicate k 48 ++ hexT v)) = if v ≤ 4294967295 then some (.num v) else none := by
  rw [parse_run 48 _ (by decide) (by
    intro x hx
    simp only [List.mem_cons, List.mem_append, List.mem_replicate] at hx
    rcases hx with rfl | rfl | ⟨_, rfl⟩ | hx
    · decide
    · decide
    · decide
    · exact hexT_run v x hx)]
  have hp : numberP (48 :: 120 :: (List.replicate k 48 ++ hexT v)) = hexP (List.replicate k 48 ++ hexT v) := by
    simp [numberP, Go.Lib.hasPrefix, Go.Lib.trimPrefix, List.isPrefixOf]
  have hh : hexP (List.replicate k 48 ++ hexT v) = if v ≤ 4294967295 then some v else none := by
    unfold hexP
    rw [if_neg (by simp [hexT_ne]), hexGo_zeros, hexGo_hexT]
  rw [hp, hh]
  split <;> rfl

open Go.Lib in
theorem uint_snoc (M : Nat) (c : UInt8) : ∀ (l : Bs) (a : Nat), parseUintM M a (l ++ [c]) = match parseUintM M a l with
    | .ok b => parseUintM M b [c]
    | .syntax => .syntax
    | .range => .range
  | [], a => by simp [parseUintM]
  | x :: l, a => by
    simp only [List.cons_append, parseUintM]
    split
    · split
      · rfl
      · split
        · rfl
        · exact uint_snoc M c l _
    · rfl

theorem decC (d : Nat) (h : d < 10) : (UInt8.ofNat (48 + d)).toNat = 48 + d ∧ digitB (UInt8.ofNat (48 + d)) = true ∧ runB (UInt8.ofNat (48 + d)) = true := by
  have : ∀ i : Fin 10, (UInt8.ofNat (48 + i.val)).toNat = 48 + i.val ∧ digitB (UInt8.ofNat (48 + i.val)) = true ∧ runB (UInt8.ofNat (48 + i.val)) = true := by decide
  exact this ⟨d, h⟩

theorem uint_one (a d : Nat) (ha : a ≤ 4294967295) (h : d < 10) : Go.Lib.parseUintM 4294967295 a [UInt8.ofNat (48 + d)] = if a * 10 + d ≤ 4294967295 then .ok (a * 10 + d) else .range := by
  obtain ⟨e, _, _⟩ := decC d h
  simp only [Go.Lib.parseUintM, e]
  rw [if_pos (by omega), if_neg (by omega), show 48 + d - 48 = d by omega]
  by_cases c : a * 10 + d ≤ 4294967295
  · rw [if_neg (by omega), if_pos c]
  · rw [if_pos (by omega), if_neg c]

theorem uint_dec (v : Nat) : Go.Lib.parseUintM 4294967295 0 (Go.Lib.decDigits v) = if v ≤ 4294967295 then .ok v else .range := by
  induction v using Nat.strongRecOn with
  | _ v ih =>
    unfold Go.Lib.decDigits
    by_cases h : v < 10
    · rw [dif_pos h, uint_one 0 v (by omega) h]; simp
    · rw [dif_neg h, uint_snoc, ih (v / 10) (by omega)]
      by_cases h2 : v / 10 ≤ 4294967295
      · rw [if_pos h2]
        simp only
        rw [uint_one _ _ h2 (by omega), show v / 10 * 10 + v % 10 = v by omega]
      · rw [if_neg h2, if_neg (by omega)]

theorem dec_run (v : Nat) : ∀ c ∈ Go.Lib.decDigits v, digitB c = true ∧ runB c = true := by
  induction v using Nat.strongRecOn with
  | _ v ih =>
    unfold Go.Lib.decDigits
    by_cases h : v < 10
    · rw [dif_pos h]; intro c hc; rw [List.mem_singleton] at hc; subst hc; exact (decC v h).2
    · rw [dif_neg h]; intro c hc
      rw [List.mem_append] at hc
      rcases hc with hc | hc
      · exact ih _ (by omega) c hc
      · rw [List.mem_singleton] at hc; subst hc; exact (decC _ (by omega)).2

theorem dec_ne (v : Nat) : Go.Lib.decDigits v ≠ [] := by
  unfold Go.Lib.decDigits
  split <;> simp

theorem parse_dec (v : Nat) : parseP (Go.Lib.decDigits v) = if v ≤ 4294967295 then some (.num v) else none := by
  have hr := dec_run v
  have hu := uint_dec v
  have hne := dec_ne v
  generalize Go.Lib.decDigits v = l at *
  obtain ⟨c, l', rfl⟩ : ∃ c l', l = c :: l' := by cases l with | nil => exact absurd rfl hne | cons c l' => exact ⟨c, l', rfl⟩
  rw [parse_run c l' (hr c (by simp)).1 (fun x hx => (hr x hx).2)]
  have hx : Go.Lib.hasPrefix (c :: l') [48, 120] = false := by
    cases l' with
    | nil => simp [Go.Lib.hasPrefix, List.isPrefixOf]
    | cons d l'' =>
      have : d ≠ 120 := by rintro rfl; have := (hr 120 (by simp)).1; revert this; decide
      have e : (120 == d) = false := by simpa using Ne.symm this
      simp [Go.Lib.hasPrefix, List.isPrefixOf, e]
  have hn : numberP (c :: l') = decP (c :: l') := by unfold numberP; rw [hx]; simp
  rw [hn]
  unfold decP Go.Lib.parseUintB
  rw [if_neg (by simp), show (2 : Nat) ^ 32 - 1 = 4294967295 by decide, hu]
  split <;> (rename_i h; split at h <;> simp_all)
end Go.Proofs.YtopfnfmglnjljaaGreatDoor.Nm
