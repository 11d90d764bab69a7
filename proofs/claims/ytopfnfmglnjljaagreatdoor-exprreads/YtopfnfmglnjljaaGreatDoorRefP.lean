/- The reference's reader, as plain data, tells what parseP tells. Nothing of Go stands here. -/
import Derived.Test.YtopfnfmglnjljaaGreatDoorLays2
namespace Go.Proofs.YtopfnfmglnjljaaGreatDoor.Rf
open Go.Proofs.YtopfnfmglnjljaaGreatDoor Ly
set_option linter.unusedVariables false
set_option linter.unusedSimpArgs false

def rdigit (base : Nat) (c : UInt8) : Option Nat :=
  if 48 ≤ c.toNat ∧ c.toNat ≤ 57 then some (c.toNat - 48) else if base = 16 ∧ 97 ≤ c.toNat ∧ c.toNat ≤ 102 then some (c.toNat - 87) else none

/-- Digits that stand here, behind n. -/
def rnumGo (base : Nat) : Nat → Bs → Option (Nat × Bs)
  | n, [] => some (n, [])
  | n, c :: t => match rdigit base c with
    | none => some (n, c :: t)
    | some d => if 4294967296 ≤ base * n + d then none else rnumGo base (base * n + d) t

def rnumP (base : Nat) (s : Bs) : Option (Nat × Bs) := match s with
  | [] => none
  | c :: _ => if (rdigit base c).isNone then none else rnumGo base 0 s

def asNum (r : Option (Nat × Bs)) : Option (Ex × Bs) := r.map fun p => (.num p.1, p.2)

def headDigit : Bs → Bool
  | [] => false
  | c :: _ => digitB c

/-- What stands by itself: a number, a word. -/
def rleafP (s : Bs) : Option (Ex × Bs) :=
  if (tookP s [48, 120]).2 then asNum (rnumP 16 (tookP s [48, 120]).1)
  else if headDigit (tookP s [48, 120]).1 then asNum (rnumP 10 (tookP s [48, 120]).1)
  else if wordP ((tookP s [48, 120]).1.takeWhile runB) then some (.name ((tookP s [48, 120]).1.takeWhile runB), (tookP s [48, 120]).1.dropWhile runB) else none

def rsingleP : Nat → Rd
  | 0, s =>
    if (tookP s [40]).2 then none
    else if (tookP (tookP s [40]).1 [45]).2 then none
    else if (tookP (tookP (tookP s [40]).1 [45]).1 [46]).2 then some (.here, (tookP (tookP (tookP s [40]).1 [45]).1 [46]).1)
    else rleafP (tookP (tookP (tookP s [40]).1 [45]).1 [46]).1
  | d + 1, s =>
    if (tookP s [40]).2 then
      match orsP (rsingleP d) (tookP s [40]).1 with
      | none => none
      | some (x, s1) => if (tookP s1 [41]).2 then some (x, (tookP s1 [41]).1) else none
    else if (tookP (tookP s [40]).1 [45]).2 then (rsingleP d (tookP (tookP s [40]).1 [45]).1).map fun p => (.neg p.1, p.2)
    else if (tookP (tookP (tookP s [40]).1 [45]).1 [46]).2 then some (.here, (tookP (tookP (tookP s [40]).1 [45]).1 [46]).1)
    else rleafP (tookP (tookP (tookP s [40]).1 [45]).1 [46]).1

def rparseP (s : Bs) : Option Ex := match orsP (rsingleP 12) s with
  | none => none
  | some (x, s1) => if (skipP s1).isEmpty then some x else none

/-- A byte of a word or number stands here: nothing more is read. -/
def Stuck (s : Bs) : Prop := ∃ c t, s = c :: t ∧ runB c = true

theorem Stuck.skip {s : Bs} (h : Stuck s) : skipP s = s := by
  obtain ⟨c, t, rfl, hc⟩ := h
  exact skip_not (run_not32 hc) t

theorem Stuck.took {s : Bs} (h : Stuck s) (a : UInt8) (l : Bs) (ha : runB a = false) : tookP s (a :: l) = (s, false) := by
  have hs := h.skip
  obtain ⟨c, t, rfl, hc⟩ := h
  have hca : c ≠ a := by rintro rfl; rw [hc] at ha; cases ha
  rw [took_no (by rw [hs]; unfold Go.Lib.hasPrefix; simp [List.isPrefixOf]; exact fun e => absurd e.symm hca), hs]

theorem Stuck.between {s : Bs} (h : Stuck s) : ∀ ks, betweenP ks s = (none, s)
  | [] => rfl
  | k :: ks => by
    obtain ⟨c, l, e, _, hr, _⟩ := sign_heads k
    simp only [betweenP, e, h.took c l hr, Bool.false_eq_true, if_false]
    exact h.between ks

/-- The second reads as the first; or the first reads nothing, and the second stands where nothing more is read. -/
def Like (a b : Option (Ex × Bs)) : Prop := b = a ∨ (a = none ∧ ∃ x s, b = some (x, s) ∧ Stuck s)

theorem rowGo_like {p q : Rd} (h : ∀ s, Like (p s) (q s)) (ks : List Nat) : ∀ (f : Nat) (x : Ex) (s : Bs), Like (rowGo p ks f x s) (rowGo q ks f x s)
  | 0, x, s => Or.inl rfl
  | f + 1, x, s => by
    unfold rowGo
    cases hb : betweenP ks s with
    | mk k s1 =>
      cases k with
      | none => exact Or.inl rfl
      | some k =>
        simp only
        rcases h s1 with e | ⟨e1, y, s2, e2, hs⟩
        · rw [e]
          cases p s1 with
          | none => exact Or.inl rfl
          | some r => exact rowGo_like h ks f _ _
        · rw [e1, e2]
          simp only
          cases f with
          | zero => exact Or.inl rfl
          | succ f =>
            refine Or.inr ⟨rfl, .two k x y, s2, ?_, hs⟩
            unfold rowGo
            rw [hs.between]

theorem rowP_like {p q : Rd} (h : ∀ s, Like (p s) (q s)) (ks : List Nat) (s : Bs) : Like (rowP p ks s) (rowP q ks s) := by
  unfold rowP
  rcases h s with e | ⟨e1, y, s2, e2, hs⟩
  · rw [e]
    cases p s with
    | none => exact Or.inl rfl
    | some r => exact rowGo_like h ks _ _ _
  · rw [e1, e2]
    refine Or.inr ⟨rfl, y, s2, ?_, hs⟩
    simp only
    unfold rowGo
    rw [hs.between]

theorem orsP_like {p q : Rd} (h : ∀ s, Like (p s) (q s)) (s : Bs) : Like (orsP p s) (orsP q s) :=
  rowP_like (rowP_like (rowP_like (rowP_like (rowP_like h [7]) [5, 6]) [10, 11]) [8]) [9] s

theorem dig_run {base : Nat} {c : UInt8} {d : Nat} (h : rdigit base c = some d) : runB c = true := by
  unfold rdigit at h
  split at h
  · simp only [runB, letterB, digitB, Bool.or_eq_true, Bool.and_eq_true, decide_eq_true_eq]; omega
  · split at h
    · simp only [runB, letterB, digitB, Bool.or_eq_true, Bool.and_eq_true, decide_eq_true_eq]; omega
    · cases h

theorem hex_dig (c : UInt8) : rdigit 16 c = hexDig c := by
  unfold rdigit hexDig
  simp

theorem hex_like : ∀ (v : Bs) (n : Nat), (rnumGo 16 n v = none ∧ hexGoP n (v.takeWhile runB) = none) ∨ (∃ m, rnumGo 16 n v = some (m, v.dropWhile runB) ∧ hexGoP n (v.takeWhile runB) = some m) ∨ (hexGoP n (v.takeWhile runB) = none ∧ ∃ m s, rnumGo 16 n v = some (m, s) ∧ Stuck s)
  | [], n => Or.inr (Or.inl ⟨n, rfl, rfl⟩)
  | c :: t, n => by
    unfold rnumGo
    cases hd : rdigit 16 c with
    | none =>
      cases hr : runB c with
      | true =>
        refine Or.inr (Or.inr ⟨?_, n, c :: t, rfl, c, t, rfl, hr⟩)
        rw [List.takeWhile_cons, hr, if_pos rfl]
        unfold hexGoP
        rw [← hex_dig, hd]
      | false =>
        refine Or.inr (Or.inl ⟨n, ?_, ?_⟩)
        · simp [hr]
        · simp [hr, hexGoP]
    | some d =>
      have hr := dig_run hd
      rw [List.takeWhile_cons, List.dropWhile_cons, hr, if_pos rfl, if_pos rfl]
      unfold hexGoP
      rw [← hex_dig, hd]
      simp only
      by_cases h : 4294967296 ≤ 16 * n + d
      · rw [if_pos h, if_pos (by omega)]; exact Or.inl ⟨rfl, rfl⟩
      · rw [if_neg h, if_neg (by omega), show n * 16 + d = 16 * n + d by omega]
        exact hex_like t _

theorem dec_like : ∀ (v : Bs) (n : Nat), n < 4294967296 → (rnumGo 10 n v = none ∧ ∀ u, Go.Lib.parseUintM 4294967295 n (v.takeWhile runB) ≠ .ok u) ∨ (∃ m, rnumGo 10 n v = some (m, v.dropWhile runB) ∧ Go.Lib.parseUintM 4294967295 n (v.takeWhile runB) = .ok m) ∨ ((∀ u, Go.Lib.parseUintM 4294967295 n (v.takeWhile runB) ≠ .ok u) ∧ ∃ m s, rnumGo 10 n v = some (m, s) ∧ Stuck s)
  | [], n, _ => Or.inr (Or.inl ⟨n, rfl, rfl⟩)
  | c :: t, n, hn => by
    unfold rnumGo
    cases hd : rdigit 10 c with
    | none =>
      have hnd : ¬ (48 ≤ c.toNat ∧ c.toNat ≤ 57) := by
        intro h; unfold rdigit at hd; rw [if_pos h] at hd; cases hd
      cases hr : runB c with
      | true =>
        refine Or.inr (Or.inr ⟨?_, n, c :: t, rfl, c, t, rfl, hr⟩)
        rw [List.takeWhile_cons, hr, if_pos rfl]
        unfold Go.Lib.parseUintM
        rw [if_neg hnd]
        intro u e; cases e
      | false =>
        refine Or.inr (Or.inl ⟨n, ?_, ?_⟩)
        · simp [hr]
        · simp [hr, Go.Lib.parseUintM]
    | some d =>
      have hr := dig_run hd
      have hdd : (48 ≤ c.toNat ∧ c.toNat ≤ 57) ∧ d = c.toNat - 48 := by
        unfold rdigit at hd
        split at hd
        · rename_i h; exact ⟨h, (Option.some.inj hd).symm⟩
        · split at hd
          · rename_i h; omega
          · cases hd
      rw [List.takeWhile_cons, List.dropWhile_cons, hr, if_pos rfl, if_pos rfl]
      unfold Go.Lib.parseUintM
      rw [if_pos hdd.1, if_neg (by omega), ← hdd.2]
      simp only
      by_cases h : 4294967296 ≤ 10 * n + d
      · rw [if_pos h, if_pos (by omega)]; exact Or.inl ⟨rfl, fun u e => by cases e⟩
      · rw [if_neg h, if_neg (by omega), show n * 10 + d = 10 * n + d by omega]
        exact dec_like t _ (by omega)

/-- What the program's reader tells of a word or number here. -/
def leafHere (u : Bs) : Option (Ex × Bs) := (leafP (u.takeWhile runB)).map fun x => (x, u.dropWhile runB)

theorem digit_not_word {c : UInt8} {l : Bs} (h : digitB c = true) : wordP (c :: l) = false := by simp [wordP, h]

theorem leaf_like (u : Bs) (hu : skipP u = u) : Like (leafHere u) (rleafP u) := by
  unfold leafHere rleafP
  by_cases hp : Go.Lib.hasPrefix u [48, 120] = true
  · obtain ⟨v, rfl⟩ : ∃ v, u = 48 :: 120 :: v := by
      unfold Go.Lib.hasPrefix at hp
      rw [List.isPrefixOf_iff_prefix] at hp
      obtain ⟨v, e⟩ := hp
      exact ⟨v, e.symm⟩
    have ht : tookP (48 :: 120 :: v) [48, 120] = (v, true) := took_yes (by rw [hu]; rfl)
    rw [ht, if_pos rfl]
    have r1 : runB 48 = true := by decide
    have r2 : runB 120 = true := by decide
    have tw : (48 :: 120 :: v).takeWhile runB = 48 :: 120 :: v.takeWhile runB := by simp [List.takeWhile_cons, r1, r2]
    have dw : (48 :: 120 :: v).dropWhile runB = v.dropWhile runB := by simp [List.dropWhile_cons, r1, r2]
    rw [tw, dw]
    have hl : leafP (48 :: 120 :: v.takeWhile runB) = (hexP (v.takeWhile runB)).map .num := by
      unfold leafP
      rw [digit_not_word (by decide), if_neg (by simp)]
      congr 1
    rw [hl]
    unfold rnumP asNum
    cases v with
    | nil => exact Or.inl rfl
    | cons c t =>
      simp only
      cases hd : rdigit 16 c with
      | none =>
        simp only [Option.isNone_none, if_true, Option.map_none]
        refine Or.inl ?_
        cases hr : runB c with
        | true =>
          rw [List.takeWhile_cons, hr, if_pos rfl]
          unfold hexP hexGoP
          rw [← hex_dig, hd]
          simp
        | false => simp [hr, hexP]
      | some d =>
        have hr := dig_run hd
        simp only [Option.isNone_some, Bool.false_eq_true, if_false]
        have hh : hexP ((c :: t).takeWhile runB) = hexGoP 0 ((c :: t).takeWhile runB) := by
          unfold hexP
          rw [if_neg (by rw [List.takeWhile_cons, hr, if_pos rfl]; simp)]
        rw [hh]
        rcases hex_like (c :: t) 0 with ⟨e1, e2⟩ | ⟨m, e1, e2⟩ | ⟨e2, m, s, e1, hs⟩
        · rw [e1, e2]; exact Or.inl rfl
        · rw [e1, e2]; exact Or.inl rfl
        · rw [e1, e2]; exact Or.inr ⟨rfl, _, _, rfl, hs⟩
  · have hp : Go.Lib.hasPrefix u [48, 120] = false := by simpa using hp
    have ht : tookP u [48, 120] = (u, false) := by rw [took_no (by rw [hu]; exact hp), hu]
    rw [ht, if_neg (by simp)]
    cases u with
    | nil => exact Or.inl rfl
    | cons c t =>
      simp only [headDigit]
      cases hd : digitB c with
      | true =>
        have hr : runB c = true := by unfold runB; rw [hd]; simp
        have hdd : 48 ≤ c.toNat ∧ c.toNat ≤ 57 := by simpa [digitB] using hd
        rw [if_pos rfl]
        have tw : (c :: t).takeWhile runB = c :: t.takeWhile runB := by rw [List.takeWhile_cons, hr, if_pos rfl]
        have hl : leafP ((c :: t).takeWhile runB) = (decP ((c :: t).takeWhile runB)).map .num := by
          rw [tw]
          unfold leafP
          rw [digit_not_word hd, if_neg (by simp)]
          congr 1
          unfold numberP
          rw [if_neg]
          intro h
          have : Go.Lib.hasPrefix (c :: t) [48, 120] = true := by
            unfold Go.Lib.hasPrefix at h ⊢
            rw [List.isPrefixOf_iff_prefix] at h ⊢
            have hpre : c :: t.takeWhile runB <+: c :: t := by rw [← tw]; exact List.takeWhile_prefix _
            exact h.trans hpre
          rw [this] at hp; cases hp
        rw [hl]
        unfold rnumP asNum
        have hsome : (rdigit 10 c).isNone = false := by unfold rdigit; rw [if_pos hdd]; rfl
        simp only [hsome, Bool.false_eq_true, if_false]
        have hh : decP ((c :: t).takeWhile runB) = match Go.Lib.parseUintM 4294967295 0 ((c :: t).takeWhile runB) with | .ok u => some u | _ => none := by
          unfold decP Go.Lib.parseUintB
          rw [if_neg (by rw [tw]; simp), show (2 : Nat) ^ 32 - 1 = 4294967295 from rfl]
          cases Go.Lib.parseUintM 4294967295 0 ((c :: t).takeWhile runB) <;> rfl
        rw [hh]
        rcases dec_like (c :: t) 0 (by omega) with ⟨e1, e2⟩ | ⟨m, e1, e2⟩ | ⟨e2, m, s, e1, hs⟩
        · rw [e1]
          refine Or.inl ?_
          cases hz : Go.Lib.parseUintM 4294967295 0 ((c :: t).takeWhile runB) with
          | ok u => exact absurd hz (e2 u)
          | «syntax» => rfl
          | range => rfl
        · rw [e1, e2]; exact Or.inl rfl
        · rw [e1]
          refine Or.inr ⟨?_, _, _, rfl, hs⟩
          cases hz : Go.Lib.parseUintM 4294967295 0 ((c :: t).takeWhile runB) with
          | ok u => exact absurd hz (e2 u)
          | «syntax» => rfl
          | range => rfl
      | false =>
        rw [if_neg (by simp)]
        refine Or.inl ?_
        generalize hrun : (c :: t).takeWhile runB = run
        unfold leafP
        cases hw : wordP run with
        | true => rfl
        | false =>
          simp only [Bool.false_eq_true, if_false]
          have hn : numberP run = none := by
            cases hr : runB c with
            | false =>
              rw [List.takeWhile_cons, hr, if_neg (by simp)] at hrun
              subst hrun
              rfl
            | true =>
              rw [List.takeWhile_cons, hr, if_pos rfl] at hrun
              subst hrun
              have hc48 : c ≠ 48 := by rintro rfl; revert hd; decide
              unfold numberP
              rw [if_neg (by unfold Go.Lib.hasPrefix; simp [List.isPrefixOf]; exact fun e => absurd e.symm hc48)]
              unfold decP Go.Lib.parseUintB
              rw [if_neg (by simp)]
              unfold Go.Lib.parseUintM
              rw [if_neg (by simpa [digitB] using hd)]
          rw [hn]
          rfl

/-- What both read of what stands by itself, blanks behind. -/
def rest3 (s : Bs) : Bs := (tookP (tookP (tookP s [40]).1 [45]).1 [46]).1

theorem pref_one (s : Bs) (a : UInt8) : Go.Lib.hasPrefix s [a] = (s.head? == some a) := by
  cases s with
  | nil => rfl
  | cons c t => unfold Go.Lib.hasPrefix; simp [List.isPrefixOf, Bool.beq_comm]

theorem took_cases (s : Bs) (a : UInt8) : (∃ t, skipP s = a :: t ∧ tookP s [a] = (t, true)) ∨ ((∀ t, skipP s ≠ a :: t) ∧ tookP s [a] = (skipP s, false)) := by
  cases h : skipP s with
  | nil => exact Or.inr ⟨by simp, by rw [← h]; exact took_no (by rw [h]; rfl)⟩
  | cons c t =>
    by_cases hc : c = a
    · subst hc; exact Or.inl ⟨t, rfl, took_yes (by rw [h]; rfl)⟩
    · refine Or.inr ⟨fun t' e => hc (by cases e; rfl), ?_⟩
      rw [← h]
      exact took_no (by rw [h, pref_one]; simp [hc])

theorem single_like : ∀ (d : Nat) (s : Bs), Like (singleP d s) (rsingleP d s)
  | d, s => by
    rcases took_cases s 40 with ⟨t, e, hk⟩ | ⟨n40, hk⟩
    · have h45 : tookP s [45] = (skipP s, false) := by
        rcases took_cases s 45 with ⟨t', e', _⟩ | ⟨_, h⟩
        · rw [e] at e'; cases e'
        · exact h
      have hk2 : tookP (skipP s) [40] = (t, true) := took_yes (by rw [skip_skip, e]; rfl)
      cases d with
      | zero => refine Or.inl ?_; simp only [singleP, rsingleP, hk, h45, hk2, if_true, Bool.false_eq_true, if_false]
      | succ d =>
        simp only [singleP, rsingleP, hk, h45, hk2, if_true, Bool.false_eq_true, if_false]
        rcases orsP_like (single_like d) t with e1 | ⟨e1, x, s1, e2, hs⟩
        · rw [e1]; exact Or.inl rfl
        · rw [e1, e2]
          refine Or.inl ?_
          simp only [hs.took 41 [] (by decide), Bool.false_eq_true, if_false]
    · have k40 : tookP (skipP s) [40] = (skipP s, false) := by
        rcases took_cases (skipP s) 40 with ⟨t', e', _⟩ | ⟨_, h⟩
        · rw [skip_skip] at e'; exact absurd e' (n40 t')
        · rw [skip_skip] at h; exact h
      rcases took_cases s 45 with ⟨t, e, hk5⟩ | ⟨n45, hk5⟩
      · have k5 : tookP (skipP s) [45] = (t, true) := took_yes (by rw [skip_skip, e]; rfl)
        cases d with
        | zero => refine Or.inl ?_; simp only [singleP, rsingleP, hk, hk5, k5, k40, if_true, Bool.false_eq_true, if_false]
        | succ d =>
          simp only [singleP, rsingleP, hk, hk5, k5, k40, if_true, Bool.false_eq_true, if_false]
          rcases single_like d t with e1 | ⟨e1, x, s1, e2, hs⟩
          · rw [e1]; exact Or.inl rfl
          · rw [e1, e2]; exact Or.inr ⟨rfl, _, _, rfl, hs⟩
      · have k45 : tookP (skipP s) [45] = (skipP s, false) := by
          rcases took_cases (skipP s) 45 with ⟨t', e', _⟩ | ⟨_, h⟩
          · rw [skip_skip] at e'; exact absurd e' (n45 t')
          · rw [skip_skip] at h; exact h
        rcases took_cases (skipP s) 46 with ⟨t, e, hk6⟩ | ⟨n46, hk6⟩
        · refine Or.inl ?_
          cases d <;> simp only [singleP, rsingleP, hk, hk5, k45, k40, hk6, if_true, Bool.false_eq_true, if_false]
        · have hl := leaf_like (skipP s) (skip_skip s)
          rw [skip_skip] at hk6
          cases d <;> simp only [singleP, rsingleP, hk, hk5, k45, k40, hk6, if_true, Bool.false_eq_true, if_false] <;> exact hl

/-- Both tell the same of any text. -/
theorem parse_like (s : Bs) : rparseP s = parseP s := by
  unfold rparseP parseP
  rcases orsP_like (single_like 12) s with e | ⟨e1, x, s1, e2, hs⟩
  · rw [e]
    cases orsP (singleP 12) s <;> rfl
  · rw [e1, e2]
    have hk := hs.skip
    obtain ⟨c, t, rfl, _⟩ := hs
    simp [hk]
end Go.Proofs.YtopfnfmglnjljaaGreatDoor.Rf
