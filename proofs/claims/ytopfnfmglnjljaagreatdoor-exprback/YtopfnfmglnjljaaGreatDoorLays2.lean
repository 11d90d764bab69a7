/- An expression's row of signs and words is read as it; its text lies so, and still does where blanks are put around signs. Nothing of Go stands here. -/
import Derived.Test.YtopfnfmglnjljaaGreatDoorNums
namespace Go.Proofs.YtopfnfmglnjljaaGreatDoor.Ly
open Go.Proofs.YtopfnfmglnjljaaGreatDoor
set_option linter.unusedVariables false
set_option linter.unusedSimpArgs false

/-- These, one behind the other, blanks ahead of each and at the end. -/
def Lay : List Bs → Bs → Prop
  | [], s => skipP s = []
  | t :: ts, s => ∃ s', skipP s = t ++ s' ∧ Lay ts s'

theorem skip_skip (s : Bs) : skipP (skipP s) = skipP s := by
  unfold skipP Go.Lib.trimLeftB
  induction s with
  | nil => rfl
  | cons c s ih =>
    by_cases h : c = 32
    · subst h; simpa [List.dropWhile_cons] using ih
    · simp [List.dropWhile_cons, h]

theorem lay_skip {ts : List Bs} {s : Bs} (h : Lay ts s) : Lay ts (skipP s) := by
  cases ts with
  | nil => exact (skip_skip s).trans h
  | cons t ts => obtain ⟨s', e, h⟩ := h; exact ⟨s', (skip_skip s).trans e, h⟩

theorem skip_head (s s' : Bs) (c : UInt8) (h : skipP s = c :: s') : c ≠ 32 := by
  unfold skipP Go.Lib.trimLeftB at h
  induction s with
  | nil => simp at h
  | cons d s ih =>
    by_cases hd : d = 32
    · subst hd; exact ih (by simpa [List.dropWhile_cons] using h)
    · simp [List.dropWhile_cons, hd] at h
      obtain ⟨rfl, _⟩ := h
      exact hd

theorem took_yes {s t s' : Bs} (h : skipP s = t ++ s') : tookP s t = (s', true) := by
  have hp : Go.Lib.hasPrefix (t ++ s') t = true := by unfold Go.Lib.hasPrefix; simp
  unfold tookP Go.Lib.trimPrefix
  rw [h, if_pos hp, hp]
  simp

theorem took_no {s t : Bs} (h : Go.Lib.hasPrefix (skipP s) t = false) : tookP s t = (skipP s, false) := by
  unfold tookP Go.Lib.trimPrefix
  rw [h, if_neg (by simp)]

/-- The first byte of a row. -/
def first : List Bs → Option UInt8
  | [] => none
  | t :: _ => t.head?

/-- Each has a byte. -/
def Full (ts : List Bs) : Prop := ∀ t ∈ ts, t ≠ []

theorem no_pref {ts : List Bs} {s : Bs} (h : Lay ts s) (hf : Full ts) (c : UInt8) (l : Bs) (hc : ∀ a, first ts = some a → a ≠ c) : Go.Lib.hasPrefix (skipP s) (c :: l) = false := by
  cases ts with
  | nil => rw [show skipP s = [] from h]; rfl
  | cons t ts =>
    obtain ⟨s', e, _⟩ := h
    cases t with
    | nil => exact absurd rfl (hf [] (by simp))
    | cons a t =>
      rw [e]
      have := hc a rfl
      unfold Go.Lib.hasPrefix
      simp [List.isPrefixOf]
      intro h; exact absurd h.symm this

/-- Behind a word: no byte of one. -/
def Apart (ts : List Bs) : Prop := ∀ a, first ts = some a → runB a = false

theorem blank_not : runB 32 = false := by decide

theorem head_apart {ts : List Bs} {s : Bs} (h : Lay ts s) (hf : Full ts) (ha : Apart ts) : ∀ c s', s = c :: s' → runB c = false := by
  intro c s' e
  subst e
  by_cases hc : c = 32
  · subst hc; exact blank_not
  · have hs : skipP (c :: s') = c :: s' := by simp [skipP, Go.Lib.trimLeftB, List.dropWhile_cons, hc]
    cases ts with
    | nil => have : skipP (c :: s') = [] := h; rw [hs] at this; cases this
    | cons t ts =>
      obtain ⟨s2, e, _⟩ := h
      rw [hs] at e
      cases t with
      | nil => exact absurd rfl (hf [] (by simp))
      | cons a t =>
        simp only [List.cons_append, List.cons.injEq] at e
        obtain ⟨rfl, _⟩ := e
        exact ha _ rfl

theorem take_run {t s : Bs} (ht : ∀ c ∈ t, runB c = true) (hs : ∀ c s', s = c :: s' → runB c = false) : (t ++ s).takeWhile runB = t ∧ (t ++ s).dropWhile runB = s := by
  induction t with
  | nil =>
    cases s with
    | nil => exact ⟨rfl, rfl⟩
    | cons c s => have := hs c s rfl; simp [this]
  | cons a t ih =>
    have h1 := ih (fun c hc => ht c (by simp [hc]))
    have h2 := ht a (by simp)
    simp [h2, h1.1, h1.2]

/-- A word or number that stands by itself. -/
theorem single_leaf (d : Nat) {t : Bs} {ts : List Bs} {s : Bs} {x : Ex} (h : Lay (t :: ts) s) (hne : t ≠ []) (hrun : ∀ c ∈ t, runB c = true) (hf : Full ts) (ha : Apart ts) (hx : leafP t = some x) : ∃ s', singleP d s = some (x, s') ∧ Lay ts s' := by
  obtain ⟨s', e, hL⟩ := h
  have hapart := head_apart hL hf ha
  obtain ⟨h1, h2⟩ := take_run (s := s') hrun hapart
  cases t with
  | nil => exact absurd rfl hne
  | cons c t =>
    have hc := hrun c (by simp)
    have n45 : c ≠ 45 := by rintro rfl; revert hc; decide
    have n40 : c ≠ 40 := by rintro rfl; revert hc; decide
    have n46 : c ≠ 46 := by rintro rfl; revert hc; decide
    have p : ∀ a, c ≠ a → tookP s [a] = (skipP s, false) := fun a hca => took_no (by rw [e]; unfold Go.Lib.hasPrefix; simp [List.isPrefixOf]; exact fun h => absurd h.symm hca)
    have q : ∀ a, c ≠ a → tookP (skipP s) [a] = (skipP s, false) := fun a hca => by rw [took_no (by rw [skip_skip, e]; unfold Go.Lib.hasPrefix; simp [List.isPrefixOf]; exact fun h => absurd h.symm hca), skip_skip]
    refine ⟨s', ?_, hL⟩
    cases d <;> (simp only [singleP, p 45 n45, q 40 n40, q 46 n46, Bool.false_eq_true, if_false]; rw [e, h1, h2, hx]; rfl)

theorem single_dot (d : Nat) {ts : List Bs} {s : Bs} (h : Lay ([46] :: ts) s) : ∃ s', singleP d s = some (.here, s') ∧ Lay ts s' := by
  obtain ⟨s', e, hL⟩ := h
  have p : tookP s [45] = (skipP s, false) := took_no (by rw [e]; rfl)
  have q : tookP (skipP s) [40] = (skipP s, false) := by rw [took_no (by rw [skip_skip, e]; rfl), skip_skip]
  have r : tookP (skipP s) [46] = (s', true) := took_yes (by rw [skip_skip]; exact e)
  refine ⟨s', ?_, hL⟩
  cases d <;> simp only [singleP, p, q, r, Bool.false_eq_true, if_false, if_true]

theorem single_minus {P : Bs → Prop} (d : Nat) {ts : List Bs} {s : Bs} {x : Ex} (h : Lay ([45] :: ts) s) (hx : ∀ s', Lay ts s' → ∃ s2, singleP d s' = some (x, s2) ∧ P s2) : ∃ s', singleP (d + 1) s = some (.neg x, s') ∧ P s' := by
  obtain ⟨s', e, hL⟩ := h
  obtain ⟨s2, e2, hP⟩ := hx s' hL
  refine ⟨s2, ?_, hP⟩
  simp only [singleP, took_yes e, if_true, e2, Option.map_some]

theorem single_bracket (d : Nat) {ts : List Bs} {s : Bs} {x : Ex} (h : Lay ([40] :: ts) s) (tail : List Bs) (hx : ∀ s', Lay ts s' → ∃ s2, orsP (singleP d) s' = some (x, s2) ∧ Lay ([41] :: tail) s2) : ∃ s', singleP (d + 1) s = some (x, s') ∧ Lay tail s' := by
  obtain ⟨s', e, hL⟩ := h
  obtain ⟨s2, e2, s3, e3, hP⟩ := hx s' hL
  have p : tookP s [45] = (skipP s, false) := took_no (by rw [e]; rfl)
  have q : tookP (skipP s) [40] = (s', true) := took_yes (by rw [skip_skip]; exact e)
  refine ⟨s3, ?_, hP⟩
  simp only [singleP, p, q, Bool.false_eq_true, if_false, if_true, e2, took_yes e3]

theorem between_none {ts : List Bs} (hf : Full ts) : ∀ (ks : List Nat) {s : Bs}, Lay ts s → (∀ k ∈ ks, ∀ a, first ts = some a → (signOf k).head? ≠ some a) → ∃ s', betweenP ks s = (none, s') ∧ Lay ts s'
  | [], s, h, _ => ⟨s, rfl, h⟩
  | k :: ks, s, h, hn => by
    obtain ⟨c, l, hc⟩ : ∃ c l, signOf k = c :: l := by unfold signOf; repeat' (split; exact ⟨_, _, rfl⟩)
                                                       exact ⟨_, _, rfl⟩
    have hp : Go.Lib.hasPrefix (skipP s) (signOf k) = false := by
      rw [hc]
      exact no_pref h hf c l (fun a ha e => hn k (by simp) a ha (by rw [hc, e]; rfl))
    obtain ⟨s', e, hL⟩ := between_none hf ks (lay_skip h) (fun k' hk' => hn k' (by simp [hk']))
    refine ⟨s', ?_, hL⟩
    simp only [betweenP, took_no hp, Bool.false_eq_true, if_false, e]

theorem between_some {ts : List Bs} {k : Nat} : ∀ (ks : List Nat) {s : Bs}, k ∈ ks → Lay (signOf k :: ts) s → (∀ j ∈ ks, j ≠ k → (signOf j).head? ≠ (signOf k).head?) → ∃ s', betweenP ks s = (some k, s') ∧ Lay ts s'
  | [], s, hk, _, _ => by simp at hk
  | j :: ks, s, hk, h, hn => by
    by_cases hj : j = k
    · subst hj
      obtain ⟨s', e, hL⟩ := h
      exact ⟨s', by simp only [betweenP, took_yes e, if_true], hL⟩
    · obtain ⟨c, l, hc⟩ : ∃ c l, signOf j = c :: l := by unfold signOf; repeat' (split; exact ⟨_, _, rfl⟩)
                                                         exact ⟨_, _, rfl⟩
      obtain ⟨a, m, ha⟩ : ∃ c l, signOf k = c :: l := by unfold signOf; repeat' (split; exact ⟨_, _, rfl⟩)
                                                         exact ⟨_, _, rfl⟩
      have hne : a ≠ c := by have := hn j (by simp) hj; rw [hc, ha] at this; simp at this; exact fun e => this e.symm
      have hp : Go.Lib.hasPrefix (skipP s) (signOf j) = false := by
        obtain ⟨s', e, _⟩ := h
        rw [hc, e, ha]
        unfold Go.Lib.hasPrefix
        simp [List.isPrefixOf]
        intro e; exact absurd e.symm hne
      obtain ⟨s', e, hL⟩ := between_some ks (by simpa [Ne.symm hj] using hk) (lay_skip h) (fun k' hk' => hn k' (by simp [hk']))
      exact ⟨s', by simp only [betweenP, took_no hp, Bool.false_eq_true, if_false, e], hL⟩

/-- None of these signs comes next. -/
def NoSign (ks : List Nat) (ts : List Bs) : Prop := ∀ k ∈ ks, ∀ a, first ts = some a → (signOf k).head? ≠ some a

theorem row_none {p : Rd} {ks : List Nat} {ts : List Bs} {s s1 : Bs} {x : Ex} (hf : Full ts) (h : p s = some (x, s1)) (hL : Lay ts s1) (hn : NoSign ks ts) : ∃ s2, rowP p ks s = some (x, s2) ∧ Lay ts s2 := by
  obtain ⟨s2, e, h2⟩ := between_none hf ks hL hn
  exact ⟨s2, by simp only [rowP, h, rowGo, e], h2⟩

theorem row_some {p : Rd} {ks : List Nat} {k : Nat} {mid ts : List Bs} {s s1 : Bs} {x y : Ex} (hk : k ∈ ks) (hks : ∀ j ∈ ks, j ≠ k → (signOf j).head? ≠ (signOf k).head?) (hf : Full ts) (h : p s = some (x, s1)) (hL : Lay (signOf k :: mid) s1)
    (hy : ∀ s2, Lay mid s2 → ∃ s3, p s2 = some (y, s3) ∧ Lay ts s3) (hn : NoSign ks ts) : ∃ s2, rowP p ks s = some (.two k x y, s2) ∧ Lay ts s2 := by
  obtain ⟨s2, e2, h2⟩ := between_some ks hk hL hks
  obtain ⟨s3, e3, h3⟩ := hy s2 h2
  obtain ⟨s4, e4, h4⟩ := between_none hf ks h3 hn
  have hlen : 0 < s1.length := by
    cases s1 with
    | nil =>
      obtain ⟨s', e, _⟩ := hL
      have : signOf k = [] := by
        have e : ([] : Bs) = signOf k ++ s' := e
        exact (List.append_eq_nil_iff.1 e.symm).1
      revert this
      unfold signOf
      repeat' (split; simp)
      simp
    | cons => simp
  obtain ⟨m, hm⟩ : ∃ m, s1.length = m + 1 := ⟨s1.length - 1, by omega⟩
  exact ⟨s4, by simp only [rowP, h, hm, rowGo, e2, e3, e4], h4⟩
end Go.Proofs.YtopfnfmglnjljaaGreatDoor.Ly

namespace Go.Proofs.YtopfnfmglnjljaaGreatDoor.Ly
open Go.Proofs.YtopfnfmglnjljaaGreatDoor
set_option linter.unusedVariables false
set_option linter.unusedSimpArgs false

/-- What p reads of these, ahead of those. -/
def Rds (p : Rd) (T : List Bs) (x : Ex) (ts : List Bs) : Prop := ∀ s, Lay (T ++ ts) s → ∃ s', p s = some (x, s') ∧ Lay ts s'

theorem Rds.pass {p : Rd} {T ts : List Bs} {x : Ex} (h : Rds p T x ts) (ks : List Nat) (hf : Full ts) (hn : NoSign ks ts) : Rds (rowP p ks) T x ts := fun s hs => by
  obtain ⟨s1, e, hL⟩ := h s hs
  exact row_none hf e hL hn

theorem Rds.join {p : Rd} {T U ts : List Bs} {x y : Ex} {k : Nat} (ks : List Nat) (hk : k ∈ ks) (hks : ∀ j ∈ ks, j ≠ k → (signOf j).head? ≠ (signOf k).head?) (hf : Full ts) (hx : Rds p T x (signOf k :: (U ++ ts))) (hy : Rds p U y ts) (hn : NoSign ks ts) :
    Rds (rowP p ks) (T ++ signOf k :: U) (.two k x y) ts := fun s hs => by
  obtain ⟨s1, e, hL⟩ := hx s (by simpa using hs)
  exact row_some hk hks hf e hL hy hn

def ctoks (x : Ex) (t : List Bs) : List Bs := if isTwo x then [40] :: (t ++ [[41]]) else t

/-- An expression's words and signs. -/
def toks : Ex → List Bs
  | .zero => []
  | .num n => [Go.Lib.decDigits n]
  | .name s => [s]
  | .here => [[46]]
  | .neg x => [45] :: ctoks x (toks x)
  | .two k x y => ctoks x (toks x) ++ signOf k :: ctoks y (toks y)

/-- What may be written: names are words. -/
def Fit : Ex → Prop
  | .zero => False
  | .num n => n ≤ 4294967295
  | .name s => wordP s = true ∧ ∀ c ∈ s, runB c = true
  | .here => True
  | .neg x => Fit x
  | .two k x y => 5 ≤ k ∧ k ≤ 11 ∧ Fit x ∧ Fit y

/-- How many there are in one another. -/
def high : Ex → Nat
  | .neg x => high x + 1
  | .two _ x y => max (high x) (high y) + 1
  | _ => 0

/-- Nothing, or a closing bracket. -/
def End (ts : List Bs) : Prop := ∀ a, first ts = some a → a = 41

theorem End.apart {ts : List Bs} (h : End ts) : Apart ts := fun a ha => by rw [h a ha]; decide

theorem sign_heads (k : Nat) : ∃ c l, signOf k = c :: l ∧ c ≠ 41 ∧ runB c = false ∧ c ≠ 32 := by
  unfold signOf
  repeat' (split; exact ⟨_, _, rfl, by decide, by decide, by decide⟩)
  exact ⟨_, _, rfl, by decide, by decide, by decide⟩

theorem End.noSign {ts : List Bs} (h : End ts) (ks : List Nat) : NoSign ks ts := fun k _ a ha => by
  obtain ⟨c, l, e, hc, _⟩ := sign_heads k
  rw [e, h a ha]
  simpa using hc

theorem sign_apart (k : Nat) (ts : List Bs) : Apart (signOf k :: ts) := fun a ha => by
  obtain ⟨c, l, e, _, hr, _⟩ := sign_heads k
  simp only [first, e, List.head?_cons, Option.some.injEq] at ha
  rw [← ha]; exact hr

theorem sign_full {k : Nat} {ts : List Bs} (h : Full ts) : Full (signOf k :: ts) := fun t ht => by
  rcases List.mem_cons.1 ht with rfl | ht
  · obtain ⟨c, l, e, _⟩ := sign_heads k; rw [e]; simp
  · exact h t ht

theorem full_append {a b : List Bs} (ha : Full a) (hb : Full b) : Full (a ++ b) := fun t ht => by
  rcases List.mem_append.1 ht with h | h
  · exact ha t h
  · exact hb t h

theorem full_cons {t : Bs} {b : List Bs} (ha : t ≠ []) (hb : Full b) : Full (t :: b) := fun u hu => by
  rcases List.mem_cons.1 hu with rfl | h
  · exact ha
  · exact hb u h

theorem full_nil : Full [] := fun t ht => by simp at ht

theorem ctoks_full {x : Ex} {t : List Bs} (h : Full t) : Full (ctoks x t) := by
  unfold ctoks
  split
  · exact full_cons (by simp) (full_append h (full_cons (by simp) full_nil))
  · exact h

theorem word_ne {s : Bs} (h : wordP s = true) : s ≠ [] := by rintro rfl; simp [wordP] at h

theorem toks_full : ∀ {x : Ex}, Fit x → Full (toks x)
  | .zero, h => h.elim
  | .num n, _ => full_cons (Nm.dec_ne n) full_nil
  | .name s, h => full_cons (word_ne h.1) full_nil
  | .here, _ => full_cons (by simp) full_nil
  | .neg x, h => full_cons (by simp) (ctoks_full (toks_full (x := x) h))
  | .two k x y, h => full_append (ctoks_full (toks_full (x := x) h.2.2.1)) (sign_full (ctoks_full (toks_full (x := y) h.2.2.2)))

theorem leaf_num (n : Nat) (hn : n ≤ 4294967295) : leafP (Go.Lib.decDigits n) = some (.num n) := by
  have hp := Nm.parse_dec n
  have hr := Nm.dec_run n
  rw [if_pos hn] at hp
  cases hd : Go.Lib.decDigits n with
  | nil => exact absurd hd (Nm.dec_ne n)
  | cons c l =>
    rw [hd] at hp hr
    have hc := (hr c (by simp)).1
    rw [Nm.parse_run c l hc (fun x hx => (hr x hx).2)] at hp
    have hw : wordP (c :: l) = false := by simp [wordP, hc]
    unfold leafP
    rw [hw]
    simpa using hp

theorem nosign_of (k : Nat) (ts : List Bs) (ks : List Nat) (h : ∀ j ∈ ks, (signOf j).head? ≠ (signOf k).head?) : NoSign ks (signOf k :: ts) := fun j hj a ha => by
  have : (signOf k).head? = some a := ha
  rw [← this]; exact h j hj

theorem ors_two {p : Rd} {T U ts : List Bs} {x y : Ex} {k : Nat} (h5 : 5 ≤ k) (h11 : k ≤ 11) (hU : Full U) (hf : Full ts) (he : End ts)
    (hx : Rds p T x (signOf k :: (U ++ ts))) (hy : Rds p U y ts) : Rds (orsP p) (T ++ signOf k :: U) (.two k x y) ts := by
  have hf1 : Full (signOf k :: (U ++ ts)) := sign_full (full_append hU hf)
  have n7 := he.noSign [7]
  have n56 := he.noSign [5, 6]
  have nsh := he.noSign [10, 11]
  have n8 := he.noSign [8]
  have n9 := he.noSign [9]
  unfold orsP andsP shiftsP sumsP productsP
  obtain rfl | rfl | rfl | rfl | rfl | rfl | rfl : k = 5 ∨ k = 6 ∨ k = 7 ∨ k = 8 ∨ k = 9 ∨ k = 10 ∨ k = 11 := by omega
  · exact (((Rds.join [5, 6] (by decide) (by decide) hf (hx.pass [7] hf1 (nosign_of _ _ _ (by decide))) (hy.pass [7] hf n7) n56).pass [10, 11] hf nsh).pass [8] hf n8).pass [9] hf n9
  · exact (((Rds.join [5, 6] (by decide) (by decide) hf (hx.pass [7] hf1 (nosign_of _ _ _ (by decide))) (hy.pass [7] hf n7) n56).pass [10, 11] hf nsh).pass [8] hf n8).pass [9] hf n9
  · exact ((((Rds.join [7] (by decide) (by decide) hf hx hy n7).pass [5, 6] hf n56).pass [10, 11] hf nsh).pass [8] hf n8).pass [9] hf n9
  · exact (Rds.join [8] (by decide) (by decide) hf (((hx.pass [7] hf1 (nosign_of _ _ _ (by decide))).pass [5, 6] hf1 (nosign_of _ _ _ (by decide))).pass [10, 11] hf1 (nosign_of _ _ _ (by decide))) (((hy.pass [7] hf n7).pass [5, 6] hf n56).pass [10, 11] hf nsh) n8).pass [9] hf n9
  · exact Rds.join [9] (by decide) (by decide) hf ((((hx.pass [7] hf1 (nosign_of _ _ _ (by decide))).pass [5, 6] hf1 (nosign_of _ _ _ (by decide))).pass [10, 11] hf1 (nosign_of _ _ _ (by decide))).pass [8] hf1 (nosign_of _ _ _ (by decide))) ((((hy.pass [7] hf n7).pass [5, 6] hf n56).pass [10, 11] hf nsh).pass [8] hf n8) n9
  · exact ((Rds.join [10, 11] (by decide) (by decide) hf ((hx.pass [7] hf1 (nosign_of _ _ _ (by decide))).pass [5, 6] hf1 (nosign_of _ _ _ (by decide))) ((hy.pass [7] hf n7).pass [5, 6] hf n56) nsh).pass [8] hf n8).pass [9] hf n9
  · exact ((Rds.join [10, 11] (by decide) (by decide) hf ((hx.pass [7] hf1 (nosign_of _ _ _ (by decide))).pass [5, 6] hf1 (nosign_of _ _ _ (by decide))) ((hy.pass [7] hf n7).pass [5, 6] hf n56) nsh).pass [8] hf n8).pass [9] hf n9

theorem ors_pass {p : Rd} {T ts : List Bs} {x : Ex} (h : Rds p T x ts) (hf : Full ts) (he : End ts) : Rds (orsP p) T x ts :=
  ((((h.pass [7] hf (he.noSign _)).pass [5, 6] hf (he.noSign _)).pass [10, 11] hf (he.noSign _)).pass [8] hf (he.noSign _)).pass [9] hf (he.noSign _)

/-- Both: by itself, and in a row. -/
theorem reads : ∀ (x : Ex), Fit x → ∀ (d : Nat), (high x ≤ d → ∀ ts, Full ts → Apart ts → Rds (singleP d) (ctoks x (toks x)) x ts) ∧ (high x ≤ d + 1 → ∀ ts, Full ts → End ts → (isTwo x = true ∨ high x ≤ d) → Rds (orsP (singleP d)) (toks x) x ts)
  | .zero, h, _ => h.elim
  | .num n, h, d => by
    have A : ∀ ts, Full ts → Apart ts → Rds (singleP d) [Go.Lib.decDigits n] (.num n) ts := fun ts hf ha s hs => single_leaf d hs (Nm.dec_ne n) (fun c hc => (Nm.dec_run n c hc).2) hf ha (leaf_num n h)
    exact ⟨fun _ ts hf ha => A ts hf ha, fun _ ts hf he _ => ors_pass (A ts hf he.apart) hf he⟩
  | .name w, h, d => by
    have A : ∀ ts, Full ts → Apart ts → Rds (singleP d) [w] (.name w) ts := fun ts hf ha s hs => single_leaf d hs (word_ne h.1) h.2 hf ha (by unfold leafP; rw [if_pos h.1])
    exact ⟨fun _ ts hf ha => A ts hf ha, fun _ ts hf he _ => ors_pass (A ts hf he.apart) hf he⟩
  | .here, h, d => by
    have A : ∀ ts, Full ts → Apart ts → Rds (singleP d) [[46]] .here ts := fun ts hf ha s hs => single_dot d hs
    exact ⟨fun _ ts hf ha => A ts hf ha, fun _ ts hf he _ => ors_pass (A ts hf he.apart) hf he⟩
  | .neg x, h, d => by
    have A : high x + 1 ≤ d → ∀ ts, Full ts → Apart ts → Rds (singleP d) ([45] :: ctoks x (toks x)) (.neg x) ts := fun hd ts hf ha s hs => by
      obtain ⟨e, rfl⟩ : ∃ e, d = e + 1 := ⟨d - 1, by omega⟩
      exact single_minus e hs (fun s' hs' => (reads x h e).1 (by omega) ts hf ha s' hs')
    exact ⟨fun hd ts hf ha => A hd ts hf ha, fun _ ts hf he ho => ors_pass (A (by rcases ho with ho | ho; cases ho; exact ho) ts hf he.apart) hf he⟩
  | .two k x y, h, d => by
    obtain ⟨h5, h11, hx, hy⟩ := h
    have B : ∀ d, max (high x) (high y) ≤ d → ∀ ts, Full ts → End ts → Rds (orsP (singleP d)) (toks (.two k x y)) (.two k x y) ts := fun d hd ts hf he =>
      ors_two h5 h11 (ctoks_full (toks_full hy)) hf he
        ((reads x hx d).1 (by omega) _ (sign_full (full_append (ctoks_full (toks_full hy)) hf)) (sign_apart _ _)) ((reads y hy d).1 (by omega) ts hf he.apart)
    refine ⟨fun hd ts hf ha s hs => ?_, fun hd ts hf he _ => B d (by simp only [high] at hd; omega) ts hf he⟩
    simp only [high] at hd
    obtain ⟨e, rfl⟩ : ∃ e, d = e + 1 := ⟨d - 1, by omega⟩
    have hs : Lay ([40] :: (toks (.two k x y) ++ ([41] :: ts))) s := by simpa [ctoks, isTwo] using hs
    exact single_bracket e hs ts (fun s' hs' => B e (by omega) ([41] :: ts) (full_cons (by simp) hf) (fun a ha => by simp [first] at ha; exact ha.symm) s' hs')

/-- Laid so, it is read. -/
theorem parse_lay {x : Ex} {s : Bs} (hx : Fit x) (hd : high x ≤ 12) (h : Lay (toks x) s) : parseP s = some x := by
  obtain ⟨s', e, hL⟩ := (reads x hx 12).2 (by omega) [] full_nil (fun a ha => by simp [first] at ha) (Or.inr hd) s (by simpa using h)
  have hL : skipP s' = [] := hL
  unfold parseP
  rw [e]
  simp [hL]

/-! ### Its text -/

theorem lay_put {t : Bs} {ts : List Bs} {s : Bs} (c : UInt8) (l : Bs) (ht : t = c :: l) (hc : c ≠ 32) (h : Lay ts s) : Lay (t :: ts) (t ++ s) := by
  subst ht
  exact ⟨s, by simp [skipP, Go.Lib.trimLeftB, List.dropWhile_cons, hc], h⟩

theorem lay_blank {ts : List Bs} {s : Bs} (h : Lay ts s) : Lay ts (32 :: s) := by
  have e : skipP (32 :: s) = skipP s := by simp [skipP, Go.Lib.trimLeftB, List.dropWhile_cons]
  cases ts with
  | nil => exact e.trans h
  | cons t ts => obtain ⟨s', e2, h2⟩ := h; exact ⟨s', e.trans e2, h2⟩

theorem lay_blanks {ts : List Bs} {s : Bs} (h : Lay ts s) : ∀ n, Lay ts (List.replicate n 32 ++ s)
  | 0 => h
  | n + 1 => lay_blank (lay_blanks h n)

theorem run_not32 {c : UInt8} (h : runB c = true) : c ≠ 32 := by rintro rfl; revert h; decide

theorem itoa_dec (n : Nat) : Go.Lib.itoa (n : Int) = Go.Lib.decDigits n := by simp [Go.Lib.itoa]

theorem child_lay {x : Ex} {T ts : List Bs} {t s : Bs} (hT : ∀ ts s, Lay ts s → Lay (T ++ ts) (t ++ s)) (h : Lay ts s) : Lay (ctoks x T ++ ts) (childP x t ++ s) := by
  unfold ctoks childP
  split
  · have := hT ([41] :: ts) ([41] ++ s) (lay_put 41 [] rfl (by decide) h)
    have := lay_put (t := [40]) 40 [] rfl (by decide) this
    simpa using this
  · exact hT ts s h

theorem text_lay : ∀ (x : Ex), Fit x → ∀ (ts : List Bs) (s : Bs), Lay ts s → Lay (toks x ++ ts) (textP x ++ s)
  | .zero, h, _, _, _ => h.elim
  | .num n, _, ts, s, h => by
    show Lay (Go.Lib.decDigits n :: ts) (Go.Lib.itoa (n : Int) ++ s)
    rw [itoa_dec]
    cases hd : Go.Lib.decDigits n with
    | nil => exact absurd hd (Nm.dec_ne n)
    | cons c l => exact lay_put c l rfl (run_not32 (Nm.dec_run n c (by rw [hd]; simp)).2) h
  | .name w, hx, ts, s, h => by
    show Lay (w :: ts) (w ++ s)
    cases w with
    | nil => exact absurd rfl (word_ne hx.1)
    | cons c l => exact lay_put c l rfl (run_not32 (hx.2 c (by simp))) h
  | .here, _, ts, s, h => lay_put (t := [46]) 46 [] rfl (by decide) h
  | .neg x, hx, ts, s, h => lay_put (t := [45]) 45 [] rfl (by decide) (child_lay (x := x) (text_lay x hx) h)
  | .two k x y, hx, ts, s, h => by
    obtain ⟨c, l, e, _, _, hc⟩ := sign_heads k
    have h1 := child_lay (x := y) (text_lay y hx.2.2.2) h
    have h2 := lay_put c l e hc (lay_blank h1)
    have h3 := child_lay (x := x) (text_lay x hx.2.2.1) (lay_blank h2)
    simpa [toks, textP] using h3

/-- What is written is read as it was. -/
theorem parse_text {x : Ex} (hx : Fit x) (hd : high x ≤ 12) : parseP (textP x) = some x := by
  have := text_lay x hx [] [] rfl
  exact parse_lay hx hd (by simpa using this)

/-! ### Blanks around signs -/

/-- Signs that may have blanks around them. -/
def signB (c : UInt8) : Bool := c == 40 || c == 41 || c == 43 || c == 45 || c == 42 || c == 38 || c == 124

/-- The one with blanks around some signs, and more where there is one, is the other. -/
inductive Spread : Bs → Bs → Prop
  | nil : Spread [] []
  | same {s t : Bs} (c : UInt8) : Spread s t → Spread (c :: s) (c :: t)
  | sign {s t : Bs} (c : UInt8) (m n : Nat) : signB c = true → Spread s t → Spread (c :: s) (List.replicate m 32 ++ c :: (List.replicate n 32 ++ t))
  | blank {s t : Bs} (n : Nat) : Spread s t → Spread (32 :: s) (List.replicate n 32 ++ 32 :: t)

theorem skip_rep (s : Bs) : ∀ n, skipP (List.replicate n 32 ++ s) = skipP s
  | 0 => rfl
  | n + 1 => by
    rw [List.replicate_succ, List.cons_append]
    rw [show skipP (32 :: (List.replicate n 32 ++ s)) = skipP (List.replicate n 32 ++ s) by simp [skipP, Go.Lib.trimLeftB, List.dropWhile_cons]]
    exact skip_rep s n

theorem skip_one (s : Bs) : skipP (32 :: s) = skipP s := skip_rep s 1
theorem skip_not {c : UInt8} (hc : c ≠ 32) (s : Bs) : skipP (c :: s) = c :: s := by simp [skipP, Go.Lib.trimLeftB, List.dropWhile_cons, hc]

theorem spread_head {s t : Bs} (h : Spread s t) : (skipP s = [] ∧ skipP t = []) ∨ ∃ c s' n t', skipP s = c :: s' ∧ skipP t = c :: (List.replicate n 32 ++ t') ∧ Spread s' t' ∧ (signB c = false → n = 0) := by
  induction h with
  | nil => exact Or.inl ⟨rfl, rfl⟩
  | @same s t c h ih =>
    by_cases hc : c = 32
    · subst hc; rw [skip_one, skip_one]; exact ih
    · exact Or.inr ⟨c, s, 0, t, skip_not hc s, skip_not hc t, h, fun _ => rfl⟩
  | @sign s t c m n hs h ih =>
    have hc : c ≠ 32 := by rintro rfl; revert hs; decide
    exact Or.inr ⟨c, s, n, t, skip_not hc s, by rw [skip_rep, skip_not hc], h, fun hn => by rw [hs] at hn; cases hn⟩
  | @blank s t n h ih => rw [skip_one, skip_rep, skip_one]; exact ih

theorem spread_run : ∀ (l : Bs) {s t : Bs}, (∀ c ∈ l, signB c = false ∧ c ≠ 32) → Spread (l ++ s) t → ∃ t', t = l ++ t' ∧ Spread s t'
  | [], s, t, _, h => ⟨t, rfl, h⟩
  | c :: l, s, t, hl, h => by
    have hc := hl c (by simp)
    have h : Spread (c :: (l ++ s)) t := h
    cases h with
    | @same _ t2 _ h2 =>
      obtain ⟨t', rfl, h3⟩ := spread_run l (fun c hc => hl c (by simp [hc])) h2
      exact ⟨t', rfl, h3⟩
    | sign _ m n hs _ => rw [hc.1] at hs; cases hs
    | blank n _ => exact absurd rfl hc.2

/-- A sign of one byte, or no sign with blanks within. -/
def Tok (t : Bs) : Prop := (∃ c, t = [c]) ∨ ∃ c l, t = c :: l ∧ ∀ a ∈ c :: l, signB a = false ∧ a ≠ 32

theorem spread_lay : ∀ (ts : List Bs) {s t : Bs}, (∀ k ∈ ts, Tok k) → Lay ts s → Spread s t → Lay ts t
  | [], s, t, _, h, hs => by
    have h : skipP s = [] := h
    rcases spread_head hs with ⟨_, h2⟩ | ⟨c, s', n, t', e, _⟩
    · exact h2
    · rw [h] at e; cases e
  | k :: ts, s, t, hk, ⟨s1, e, h⟩, hs => by
    have K := fun k' hk' => hk k' (List.mem_cons_of_mem k hk')
    rcases spread_head hs with ⟨h1, _⟩ | ⟨c, s', n, t', e1, e2, h2, hn⟩
    · rw [h1] at e
      rcases hk k (by simp) with ⟨c, rfl⟩ | ⟨c, l, rfl, _⟩ <;> simp at e
    · rw [e1] at e
      rcases hk k (by simp) with ⟨a, rfl⟩ | ⟨a, l, rfl, ha⟩
      · simp only [List.cons_append, List.nil_append, List.cons.injEq] at e
        obtain ⟨rfl, rfl⟩ := e
        exact ⟨_, e2, lay_blanks (spread_lay ts K h h2) n⟩
      · simp only [List.cons_append, List.cons.injEq] at e
        obtain ⟨rfl, rfl⟩ := e
        obtain rfl := hn (ha c (by simp)).1
        obtain ⟨t2, rfl, h3⟩ := spread_run l (fun b hb => ha b (by simp [hb])) h2
        exact ⟨t2, by simpa using e2, spread_lay ts K h h3⟩

theorem run_tok {t : Bs} (h0 : t ≠ []) (h : ∀ c ∈ t, runB c = true) : Tok t := by
  cases t with
  | nil => exact absurd rfl h0
  | cons c l =>
    refine Or.inr ⟨c, l, rfl, fun a ha => ⟨?_, run_not32 (h a ha)⟩⟩
    have hr := h a ha
    have : ∀ b : UInt8, signB b = true → runB b = false := by
      intro b hb
      simp only [signB, Bool.or_eq_true, beq_iff_eq] at hb
      rcases hb with (((((rfl | rfl) | rfl) | rfl) | rfl) | rfl) | rfl <;> decide
    cases hs : signB a with
    | false => rfl
    | true => rw [this a hs] at hr; cases hr

theorem sign_tok (k : Nat) : Tok (signOf k) := by
  unfold signOf
  repeat' (split; exact Or.inl ⟨_, rfl⟩)
  split
  · exact Or.inr ⟨_, _, rfl, by decide⟩
  · exact Or.inr ⟨_, _, rfl, by decide⟩

theorem ctoks_tok {x : Ex} {t : List Bs} (h : ∀ k ∈ t, Tok k) : ∀ k ∈ ctoks x t, Tok k := by
  unfold ctoks
  split
  · intro k hk
    simp only [List.mem_cons, List.mem_append, List.not_mem_nil, or_false] at hk
    rcases hk with rfl | hk | rfl
    · exact Or.inl ⟨_, rfl⟩
    · exact h k hk
    · exact Or.inl ⟨_, rfl⟩
  · exact h

theorem toks_tok : ∀ (x : Ex), Fit x → ∀ k ∈ toks x, Tok k
  | .zero, h, _, _ => h.elim
  | .num n, _, k, hk => by simp only [toks, List.mem_singleton] at hk; subst hk; exact run_tok (Nm.dec_ne n) (fun c hc => (Nm.dec_run n c hc).2)
  | .name w, h, k, hk => by simp only [toks, List.mem_singleton] at hk; subst hk; exact run_tok (word_ne h.1) h.2
  | .here, _, k, hk => by simp only [toks, List.mem_singleton] at hk; exact Or.inl ⟨_, hk⟩
  | .neg x, h, k, hk => by
    rcases List.mem_cons.1 hk with rfl | hk
    · exact Or.inl ⟨_, rfl⟩
    · exact ctoks_tok (toks_tok x h) k hk
  | .two o x y, h, k, hk => by
    rcases List.mem_append.1 hk with hk | hk
    · exact ctoks_tok (toks_tok x h.2.2.1) k hk
    · rcases List.mem_cons.1 hk with rfl | hk
      · exact sign_tok o
      · exact ctoks_tok (toks_tok y h.2.2.2) k hk

/-- Its text, with blanks around signs, ahead and at the end, is read as it. -/
theorem parse_spread {x : Ex} {t : Bs} (hx : Fit x) (hd : high x ≤ 12) (h : Spread (textP x) t) : parseP (32 :: (t ++ [32, 32])) = some x := by
  have h1 := text_lay x hx [] [32, 32] rfl
  have h2 : Spread (textP x ++ [32, 32]) (t ++ [32, 32]) := by
    have : ∀ {s t : Bs}, Spread s t → ∀ u, Spread (s ++ u) (t ++ u) := by
      intro s t h u
      have id : ∀ u, Spread u u := fun u => by induction u with
        | nil => exact .nil
        | cons c u ih => exact .same c ih
      induction h with
      | nil => exact id u
      | same c _ ih => exact .same c ih
      | sign c m n hs _ ih => simpa using Spread.sign c m n hs ih
      | blank n _ ih => simpa using Spread.blank n ih
    exact this h _
  exact parse_lay hx hd (lay_blank (spread_lay _ (toks_tok x hx) (by simpa using h1) h2))
end Go.Proofs.YtopfnfmglnjljaaGreatDoor.Ly
