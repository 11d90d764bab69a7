/- An expression's signs and words, laid in a row with blanks between as one likes, are read as it. Nothing of Go stands here. -/
import Derived.Test.YtopfnfmglnjljaaGreatDoorNums
namespace Go.Proofs.YtopfnfmglnjljaaGreatDoor.Ly
open Go.Proofs.YtopfnfmglnjljaaGreatDoor
set_option linter.unusedVariables false
set_option linter.unusedSimpArgs false

/-- These, one behind the other, blanks ahead of each and at the end. -/
def Lay : List Bs → Bs → Prop
  | [], s => skipP s = []
  | t :: ts, s => ∃ s', skipP s = t ++ s' ∧ Lay ts s'

theorem skip_skip (s : Bs) : skipP (skipP s) = skipP s := by
  unfold skipP Go.Lib.trimLeftB
  induction s with
  | nil => rfl
  | cons c s ih =>
    by_cases h : c = 32
    · subst h; simpa [List.dropWhile_cons] using ih
    · simp [List.dropWhile_cons, h]

theorem lay_skip {ts : List Bs} {s : Bs} (h : Lay ts s) : Lay ts (skipP s) := by
  cases ts with
  | nil => exact (skip_skip s).trans h
  | cons t ts => obtain ⟨s', e, h⟩ := h; exact ⟨s', (skip_skip s).trans e, h⟩

theorem skip_head (s s' : Bs) (c : UInt8) (h : skipP s = c :: s') : c ≠ 32 := by
  unfold skipP Go.Lib.trimLeftB at h
  induction s with
  | nil => simp at h
  | cons d s ih =>
    by_cases hd : d = 32
    · subst hd; exact ih (by simpa [List.dropWhile_cons] using h)
    · simp [List.dropWhile_cons, hd] at h
      obtain ⟨rfl, _⟩ := h
      exact hd

theorem took_yes {s t s' : Bs} (h : skipP s = t ++ s') : tookP s t = (s', true) := by
  have hp : Go.Lib.hasPrefix (t ++ s') t = true := by unfold Go.Lib.hasPrefix; simp
  unfold tookP Go.Lib.trimPrefix
  rw [h, if_pos hp, hp]
  simp

theorem took_no {s t : Bs} (h : Go.Lib.hasPrefix (skipP s) t = false) : tookP s t = (skipP s, false) := by
  unfold tookP Go.Lib.trimPrefix
  rw [h, if_neg (by simp)]

/-- The first byte of a row. -/
def first : List Bs → Option UInt8
  | [] => none
  | t :: _ => t.head?

/-- Each has a byte. -/
def Full (ts : List Bs) : Prop := ∀ t ∈ ts, t ≠ []

theorem no_pref {ts : List Bs} {s : Bs} (h : Lay ts s) (hf : Full ts) (c : UInt8) (l : Bs) (hc : ∀ a, first ts = some a → a ≠ c) : Go.Lib.hasPrefix (skipP s) (c :: l) = false := by
  cases ts with
  | nil => rw [show skipP s = [] from h]; rfl
  | cons t ts =>
    obtain ⟨s', e, _⟩ := h
    cases t with
    | nil => exact absurd rfl (hf [] (by simp))
    | cons a t =>
      rw [e]
      have := hc a rfl
      unfold Go.Lib.hasPrefix
      simp [List.isPrefixOf]
      intro h; exact absurd h.symm this

/-- Behind a word: no byte of one. -/
def Apart (ts : List Bs) : Prop := ∀ a, first ts = some a → runB a = false

theorem blank_not : runB 32 = false := by decide

theorem head_apart {ts : List Bs} {s : Bs} (h : Lay ts s) (hf : Full ts) (ha : Apart ts) : ∀ c s', s = c :: s' → runB c = false := by
  intro c s' e
  subst e
  by_cases hc : c = 32
  · subst hc; exact blank_not
  · have hs : skipP (c :: s') = c :: s' := by simp [skipP, Go.Lib.trimLeftB, List.dropWhile_cons, hc]
    cases ts with
    | nil => have : skipP (c :: s') = [] := h; rw [hs] at this; cases this
    | cons t ts =>
      obtain ⟨s2, e, _⟩ := h
      rw [hs] at e
      cases t with
      | nil => exact absurd rfl (hf [] (by simp))
      | cons a t =>
        simp only [List.cons_append, List.cons.injEq] at e
        obtain ⟨rfl, _⟩ := e
        exact ha _ rfl

theorem take_run {t s : Bs} (ht : ∀ c ∈ t, runB c = true) (hs : ∀ c s', s = c :: s' → runB c = false) : (t ++ s).takeWhile runB = t ∧ (t ++ s).dropWhile runB = s := by
  induction t with
  | nil =>
    cases s with
    | nil => exact ⟨rfl, rfl⟩
    | cons c s => have := hs c s rfl; simp [this]
  | cons a t ih =>
    have h1 := ih (fun c hc => ht c (by simp [hc]))
    have h2 := ht a (by simp)
    simp [h2, h1.1, h1.2]

/-- A word or number that stands by itself. -/
theorem single_leaf (d : Nat) {t : Bs} {ts : List Bs} {s : Bs} {x : Ex} (h : Lay (t :: ts) s) (hne : t ≠ []) (hrun : ∀ c ∈ t, runB c = true) (hf : Full ts) (ha : Apart ts) (hx : leafP t = some x) : ∃ s', singleP d s = some (x, s') ∧ Lay ts s' := by
  obtain ⟨s', e, hL⟩ := h
  have hapart := head_apart hL hf ha
  obtain ⟨h1, h2⟩ := take_run (s := s') hrun hapart
  cases t with
  | nil => exact absurd rfl hne
  | cons c t =>
    have hc := hrun c (by simp)
    have n45 : c ≠ 45 := by rintro rfl; revert hc; decide
    have n40 : c ≠ 40 := by rintro rfl; revert hc; decide
    have n46 : c ≠ 46 := by rintro rfl; revert hc; decide
    have p : ∀ a, c ≠ a → tookP s [a] = (skipP s, false) := fun a hca => took_no (by rw [e]; unfold Go.Lib.hasPrefix; simp [List.isPrefixOf]; exact fun h => absurd h.symm hca)
    have q : ∀ a, c ≠ a → tookP (skipP s) [a] = (skipP s, false) := fun a hca => by rw [took_no (by rw [skip_skip, e]; unfold Go.Lib.hasPrefix; simp [List.isPrefixOf]; exact fun h => absurd h.symm hca), skip_skip]
    refine ⟨s', ?_, hL⟩
    cases d <;> (simp only [singleP, p 45 n45, q 40 n40, q 46 n46, Bool.false_eq_true, if_false]; rw [e, h1, h2, hx]; rfl)

theorem single_dot (d : Nat) {ts : List Bs} {s : Bs} (h : Lay ([46] :: ts) s) : ∃ s', singleP d s = some (.here, s') ∧ Lay ts s' := by
  obtain ⟨s', e, hL⟩ := h
  have p : tookP s [45] = (skipP s, false) := took_no (by rw [e]; rfl)
  have q : tookP (skipP s) [40] = (skipP s, false) := by rw [took_no (by rw [skip_skip, e]; rfl), skip_skip]
  have r : tookP (skipP s) [46] = (s', true) := took_yes (by rw [skip_skip]; exact e)
  refine ⟨s', ?_, hL⟩
  cases d <;> simp only [singleP, p, q, r, Bool.false_eq_true, if_false, if_true]

theorem single_minus {P : Bs → Prop} (d : Nat) {ts : List Bs} {s : Bs} {x : Ex} (h : Lay ([45] :: ts) s) (hx : ∀ s', Lay ts s' → ∃ s2, singleP d s' = some (x, s2) ∧ P s2) : ∃ s', singleP (d + 1) s = some (.neg x, s') ∧ P s' := by
  obtain ⟨s', e, hL⟩ := h
  obtain ⟨s2, e2, hP⟩ := hx s' hL
  refine ⟨s2, ?_, hP⟩
  simp only [singleP, took_yes e, if_true, e2, Option.map_some]

theorem single_bracket (d : Nat) {ts : List Bs} {s : Bs} {x : Ex} (h : Lay ([40] :: ts) s) (tail : List Bs) (hx : ∀ s', Lay ts s' → ∃ s2, orsP (singleP d) s' = some (x, s2) ∧ Lay ([41] :: tail) s2) : ∃ s', singleP (d + 1) s = some (x, s') ∧ Lay tail s' := by
  obtain ⟨s', e, hL⟩ := h
  obtain ⟨s2, e2, s3, e3, hP⟩ := hx s' hL
  have p : tookP s [45] = (skipP s, false) := took_no (by rw [e]; rfl)
  have q : tookP (skipP s) [40] = (s', true) := took_yes (by rw [skip_skip]; exact e)
  refine ⟨s3, ?_, hP⟩
  simp only [singleP, p, q, Bool.false_eq_true, if_false, if_true, e2, took_yes e3]

theorem between_none {ts : List Bs} (hf : Full ts) : ∀ (ks : List Nat) {s : Bs}, Lay ts s → (∀ k ∈ ks, ∀ a, first ts = some a → (signOf k).head? ≠ some a) → ∃ s', betweenP ks s = (none, s') ∧ Lay ts s'
  | [], s, h, _ => ⟨s, rfl, h⟩
  | k :: ks, s, h, hn => by
    obtain ⟨c, l, hc⟩ : ∃ c l, signOf k = c :: l := by unfold signOf; repeat' (split; exact ⟨_, _, rfl⟩)
                                                       exact ⟨_, _, rfl⟩
    have hp : Go.Lib.hasPrefix (skipP s) (signOf k) = false := by
      rw [hc]
      exact no_pref h hf c l (fun a ha e => hn k (by simp) a ha (by rw [hc, e]; rfl))
    obtain ⟨s', e, hL⟩ := between_none hf ks (lay_skip h) (fun k' hk' => hn k' (by simp [hk']))
    refine ⟨s', ?_, hL⟩
    simp only [betweenP, took_no hp, Bool.false_eq_true, if_false, e]

theorem between_some {ts : List Bs} {k : Nat} : ∀ (ks : List Nat) {s : Bs}, k ∈ ks → Lay (signOf k :: ts) s → (∀ j ∈ ks, j ≠ k → (signOf j).head? ≠ (signOf k).head?) → ∃ s', betweenP ks s = (some k, s') ∧ Lay ts s'
  | [], s, hk, _, _ => by simp at hk
  | j :: ks, s, hk, h, hn => by
    by_cases hj : j = k
    · subst hj
      obtain ⟨s', e, hL⟩ := h
      exact ⟨s', by simp only [betweenP, took_yes e, if_true], hL⟩
    · obtain ⟨c, l, hc⟩ : ∃ c l, signOf j = c :: l := by unfold signOf; repeat' (split; exact ⟨_, _, rfl⟩)
                                                         exact ⟨_, _, rfl⟩
      obtain ⟨a, m, ha⟩ : ∃ c l, signOf k = c :: l := by unfold signOf; repeat' (split; exact ⟨_, _, rfl⟩)
                                                         exact ⟨_, _, rfl⟩
      have hne : a ≠ c := by have := hn j (by simp) hj; rw [hc, ha] at this; simp at this; exact fun e => this e.symm
      have hp : Go.Lib.hasPrefix (skipP s) (signOf j) = false := by
        obtain ⟨s', e, _⟩ := h
        rw [hc, e, ha]
        unfold Go.Lib.hasPrefix
        simp [List.isPrefixOf]
        intro e; exact absurd e.symm hne
      obtain ⟨s', e, hL⟩ := between_some ks (by simpa [Ne.symm hj] using hk) (lay_skip h) (fun k' hk' => hn k' (by simp [hk']))
      exact ⟨s', by simp only [betweenP, took_no hp, Bool.false_eq_true, if_false, e], hL⟩

/-- None of these signs comes next. -/
def NoSign (ks : List Nat) (ts : List Bs) : Prop := ∀ k ∈ ks, ∀ a, first ts = some a → (signOf k).head? ≠ some a

theorem row_none {p : Rd} {ks : List Nat} {ts : List Bs} {s s1 : Bs} {x : Ex} (hf : Full ts) (h : p s = some (x, s1)) (hL : Lay ts s1) (hn : NoSign ks ts) : ∃ s2, rowP p ks s = some (x, s2) ∧ Lay ts s2 := by
  obtain ⟨s2, e, h2⟩ := between_none hf ks hL hn
  exact ⟨s2, by simp only [rowP, h, rowGo, e], h2⟩

theorem row_some {p : Rd} {ks : List Nat} {k : Nat} {mid ts : List Bs} {s s1 : Bs} {x y : Ex} (hk : k ∈ ks) (hks : ∀ j ∈ ks, j ≠ k → (signOf j).head? ≠ (signOf k).head?) (hf : Full ts) (h : p s = some (x, s1)) (hL : Lay (signOf k :: mid) s1)
    (hy : ∀ s2, Lay mid s2 → ∃ s3, p s2 = some (y, s3) ∧ Lay ts s3) (hn : NoSign ks ts) : ∃ s2, rowP p ks s = some (.two k x y, s2) ∧ Lay ts s2 := by
  obtain ⟨s2, e2, h2⟩ := between_some ks hk hL hks
  obtain ⟨s3, e3, h3⟩ := hy s2 h2
  obtain ⟨s4, e4, h4⟩ := between_none hf ks h3 hn
  have hlen : 0 < s1.length := by
    cases s1 with
    | nil =>
      obtain ⟨s', e, _⟩ := hL
      have : signOf k = [] := by
        have e : ([] : Bs) = signOf k ++ s' := e
        exact (List.append_eq_nil_iff.1 e.symm).1
      revert this
      unfold signOf
      repeat' (split; simp)
      simp
    | cons => simp
  obtain ⟨m, hm⟩ : ∃ m, s1.length = m + 1 := ⟨s1.length - 1, by omega⟩
  exact ⟨s4, by simp only [rowP, h, hm, rowGo, e2, e3, e4], h4⟩
end Go.Proofs.YtopfnfmglnjljaaGreatDoor.Ly
