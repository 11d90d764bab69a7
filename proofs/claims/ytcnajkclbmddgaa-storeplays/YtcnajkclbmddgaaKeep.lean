/- Cleaning in plain words, a key at a time. -/
import Derived.Test.YtcnajkclbmddgaaAbs
import Derived.Test.YtcnajkclbmddgaaStoI
namespace Go.Proofs.Ytcnajkclbmddgaa
set_option linter.unusedVariables false
set_option linter.unusedSimpArgs false

/-- How many of a key's versions go, cleaned up to low. -/
def trimN (low : Int) (l : List Vr) : Nat :=
  match upToP low l with
  | 0 => 0
  | k + 1 => match l[k]? with
    | some x => if x.gone then k + 1 else k
    | none => 0

theorem upTo_cons (t : Int) (x : Vr) (l : List Vr) : upToP t (x :: l) = upToP t l + if x.at' ≤ t then 1 else 0 := by
  unfold upToP
  rw [List.countP_cons]
  by_cases h : x.at' ≤ t <;> simp [h]

theorem trimN_zero {low : Int} {l : List Vr} (h : upToP low l = 0) : trimN low l = 0 := by unfold trimN; rw [h]

theorem trimN_le (low : Int) (l : List Vr) : trimN low l ≤ upToP low l := by
  unfold trimN
  cases h : upToP low l with
  | zero => exact Nat.le_refl _
  | succ k =>
    simp only
    cases l[k]? with
    | none => exact Nat.zero_le _
    | some x => simp only; split <;> omega

theorem trimN_one {low : Int} {x : Vr} {l : List Vr} (hx : x.at' ≤ low) (h : upToP low l = 0) : trimN low (x :: l) = if x.gone then 1 else 0 := by
  unfold trimN
  rw [upTo_cons, h, if_pos hx]
  rfl

theorem trimN_more {low : Int} {x : Vr} {l : List Vr} (hx : x.at' ≤ low) (h : 0 < upToP low l) : trimN low (x :: l) = trimN low l + 1 := by
  unfold trimN
  rw [upTo_cons, if_pos hx]
  obtain ⟨m, hm⟩ : ∃ m, upToP low l = m + 1 := ⟨upToP low l - 1, by omega⟩
  have hle := upTo_le low l
  rw [hm]
  obtain ⟨y, hy⟩ : ∃ y, l[m]? = some y := ⟨_, List.getElem?_eq_getElem (by omega)⟩
  simp only [List.getElem?_cons_succ, hy]
  split <;> omega

theorem rise_zero {low : Int} {x : Vr} {l : List Vr} (hs : Rise (x :: l)) (hx : low < x.at') : upToP low l = 0 := by
  unfold upToP
  rw [List.countP_eq_zero]
  intro y hy
  have := (List.pairwise_cons.1 hs).1 y hy
  simp; omega

theorem vers_cons (k : ByteArray) (x : Ver) (l : List Ver) : vers k (x :: l) = if x.w.key = k then toVr x :: vers k l else vers k l := by
  unfold vers
  by_cases h : x.w.key = k <;> simp [h]

theorem last_none_iff (k : ByteArray) (low : Int) (l : List Ver) : lastP k low l = none ↔ upToP low (vers k l) = 0 := by
  constructor
  · intro h
    unfold upToP
    rw [List.countP_eq_zero]
    intro y hy
    obtain ⟨x, hx, hk, rfl⟩ := vers_mem hy
    have := lastP_none h x hx
    unfold Ver.hit at this
    simp only [hk, decide_true, Bool.true_and, decide_eq_false_iff_not] at this
    have e : (toVr x).at' = x.at' := rfl
    rw [e]
    simpa using this
  · intro h
    cases hl : lastP k low l with
    | none => rfl
    | some x =>
      obtain ⟨hm, hh⟩ := lastP_some hl
      unfold Ver.hit at hh
      simp only [Bool.and_eq_true, decide_eq_true_eq] at hh
      unfold upToP at h
      rw [List.countP_eq_zero] at h
      have hy : toVr x ∈ vers k l := by
        unfold vers
        exact List.mem_map.2 ⟨x, List.mem_filter.2 ⟨hm, by simpa using hh.1⟩, rfl⟩
      have e : (toVr x).at' = x.at' := rfl
      have := h _ hy
      rw [e] at this
      simp at this
      omega

/-- Cleaned below low: of one key alone. -/
def keepK (low : Int) (k : ByteArray) : List Ver → List Ver
  | [] => []
  | x :: l => if x.w.key = k ∧ ¬ (low < x.at' ∨ (lastP k low l = none ∧ x.w.gone = false)) then keepK low k l else x :: keepK low k l

theorem keepK_mem {low : Int} {k : ByteArray} : ∀ {v : List Ver} {x : Ver}, x ∈ keepK low k v → x ∈ v
  | [], x, h => by simp [keepK] at h
  | y :: l, x, h => by
    unfold keepK at h
    split at h
    · exact List.mem_cons_of_mem _ (keepK_mem h)
    · rcases List.mem_cons.1 h with rfl | h
      · simp
      · exact List.mem_cons_of_mem _ (keepK_mem h)

theorem rising_keepK {low : Int} {k : ByteArray} : ∀ {v : List Ver}, Rising v → Rising (keepK low k v)
  | [], _ => by simp [keepK, Rising]
  | y :: l, hs => by
    have hs' := List.pairwise_cons.1 hs
    have ih := rising_keepK (low := low) (k := k) hs'.2
    unfold keepK
    split
    · exact ih
    · exact List.pairwise_cons.2 ⟨fun x hx => hs'.1 x (keepK_mem hx), ih⟩

theorem vers_keepK_other {low : Int} {k k' : ByteArray} (h : k' ≠ k) : ∀ v : List Ver, vers k' (keepK low k v) = vers k' v
  | [] => rfl
  | x :: l => by
    have ih := vers_keepK_other (low := low) h l
    unfold keepK
    split
    · rename_i hc
      rw [vers_cons, if_neg (by rw [hc.1]; exact Ne.symm h), ih]
    · rw [vers_cons, vers_cons, ih]

theorem vers_keepK {low : Int} {k : ByteArray} : ∀ v : List Ver, Rising v → vers k (keepK low k v) = (vers k v).drop (trimN low (vers k v)) ∧ (keepK low k v).length + trimN low (vers k v) = v.length
  | [], _ => ⟨rfl, rfl⟩
  | x :: l, hs => by
    have hs' := List.pairwise_cons.1 hs
    obtain ⟨ih1, ih2⟩ := vers_keepK (low := low) (k := k) l hs'.2
    have hr := rise_vers (k := k) hs
    rw [vers_cons] at hr ⊢
    by_cases hk : x.w.key = k
    · rw [if_pos hk] at hr ⊢
      by_cases hlt : low < x.at'
      · have h0 : upToP low (vers k l) = 0 := rise_zero hr hlt
        have h1 : trimN low (toVr x :: vers k l) = 0 := trimN_zero (by rw [upTo_cons, h0, if_neg (by show ¬ x.at' ≤ low; omega)])
        rw [trimN_zero h0] at ih1 ih2
        unfold keepK
        rw [if_neg (by simp [hlt]), vers_cons, if_pos hk, ih1, h1]
        exact ⟨rfl, by simp; omega⟩
      · have hle : (toVr x).at' ≤ low := by show x.at' ≤ low; omega
        by_cases hn : lastP k low l = none
        · have h0 := (last_none_iff k low l).1 hn
          rw [trimN_zero h0] at ih1 ih2
          rw [trimN_one hle h0]
          have hg : (toVr x).gone = x.w.gone := rfl
          rw [hg]
          unfold keepK
          cases hgg : x.w.gone with
          | true =>
            rw [if_pos ⟨hk, by simp [hlt]⟩, ih1]
            exact ⟨by simp, by simp; omega⟩
          | false =>
            rw [if_neg (by simp [hn]), vers_cons, if_pos hk, ih1]
            exact ⟨by simp, by simp; omega⟩
        · have h0 : 0 < upToP low (vers k l) := by
            rcases Nat.eq_zero_or_pos (upToP low (vers k l)) with h | h
            · exact absurd ((last_none_iff k low l).2 h) hn
            · exact h
          rw [trimN_more hle h0]
          unfold keepK
          rw [if_pos ⟨hk, by simp [hlt, hn]⟩, ih1]
          exact ⟨by simp, by simp; omega⟩
    · rw [if_neg hk]
      unfold keepK
      rw [if_neg (by simp [hk]), vers_cons, if_neg hk]
      exact ⟨ih1, by simp; omega⟩

theorem last_keepK_other {low t : Int} {k k' : ByteArray} (h : k' ≠ k) : ∀ v : List Ver, lastP k' t (keepK low k v) = lastP k' t v
  | [] => rfl
  | x :: l => by
    have ih := last_keepK_other (low := low) (t := t) h l
    unfold keepK
    split
    · rename_i hc
      have hh : x.hit k' t = false := by unfold Ver.hit; simp [hc.1, Ne.symm h]
      rw [ih]
      conv => rhs; unfold lastP
      rw [hh]
      cases lastP k' t l <;> rfl
    · unfold lastP
      rw [ih]

theorem keepP_keepK {low : Int} {k : ByteArray} : ∀ v : List Ver, keepP low (keepK low k v) = keepP low v
  | [] => rfl
  | x :: l => by
    have ih := keepP_keepK (low := low) (k := k) l
    rw [keepP_cons low x l]
    by_cases hk : x.w.key = k
    · by_cases hc : low < x.at' ∨ (lastP k low l = none ∧ x.w.gone = false)
      · unfold keepK
        rw [if_neg (fun h => h.2 hc), keepP_cons, ih, hk, if_pos hc, if_pos]
        rcases hc with hc | hc
        · exact .inl hc
        · refine .inr ⟨?_, hc.2⟩
          cases hl : lastP k low (keepK low k l) with
          | none => rfl
          | some y =>
            obtain ⟨hm, hh⟩ := lastP_some hl
            have := lastP_none hc.1 y (keepK_mem hm)
            rw [hh] at this
            cases this
      · unfold keepK
        rw [if_pos ⟨hk, hc⟩, ih, hk, if_neg hc]
    · unfold keepK
      rw [if_neg (fun h => hk h.1), keepP_cons, ih, last_keepK_other hk]

theorem keepP_all {low : Int} : ∀ v : List Ver, Rising v → (∀ k, trimN low (vers k v) = 0) → keepP low v = v
  | [], _, _ => rfl
  | x :: l, hs, h => by
    have hs' := List.pairwise_cons.1 hs
    have hr := rise_vers (k := x.w.key) hs
    have hx := h x.w.key
    rw [vers_cons, if_pos rfl] at hr hx
    have hc : (low < x.at' ∨ (lastP x.w.key low l = none ∧ x.w.gone = false)) ∧ upToP low (vers x.w.key l) = 0 := by
      by_cases hlt : low < x.at'
      · exact ⟨.inl hlt, rise_zero hr hlt⟩
      · have hle : (toVr x).at' ≤ low := by show x.at' ≤ low; omega
        rcases Nat.eq_zero_or_pos (upToP low (vers x.w.key l)) with h0 | h0
        · rw [trimN_one hle h0] at hx
          have hg : (toVr x).gone = x.w.gone := rfl
          rw [hg] at hx
          refine ⟨.inr ⟨(last_none_iff _ _ _).2 h0, ?_⟩, h0⟩
          cases hgg : x.w.gone with
          | true => rw [hgg] at hx; simp at hx
          | false => rfl
        · rw [trimN_more hle h0] at hx
          omega
    rw [keepP_cons, if_pos hc.1, keepP_all l hs'.2 (fun k => ?_)]
    by_cases hk : x.w.key = k
    · subst hk
      exact trimN_zero hc.2
    · have := h k
      rwa [vers_cons, if_neg hk] at this

theorem next_two (x y : Vr) (l : List Vr) : nextP (x :: y :: l) = if x.gone then x.at' else y.at' := rfl

theorem trim_quiet {low : Int} {l : List Vr} (hs : Rise l) (h : waitsP l = true → low < nextP l) : trimN low l = 0 := by
  match l, hs, h with
  | [], _, _ => rfl
  | [x], hs, h =>
    by_cases hle : x.at' ≤ low
    · rw [trimN_one hle rfl]
      cases hg : x.gone with
      | false => rfl
      | true =>
        have := h hg
        have e : nextP [x] = x.at' := rfl
        omega
    · exact trimN_zero (by rw [upTo_cons, if_neg hle]; rfl)
  | x :: y :: l, hs, h =>
    have hn := h rfl
    have hp := List.pairwise_cons.1 hs
    have hxy := hp.1 y (by simp)
    by_cases hle : x.at' ≤ low
    · rw [next_two] at hn
      cases hg : x.gone with
      | true => rw [hg] at hn; simp at hn; omega
      | false =>
        rw [hg] at hn
        simp at hn
        have h0 : upToP low (y :: l) = 0 := by rw [upTo_cons, rise_zero hp.2 hn, if_neg (by omega)]
        rw [trimN_one hle h0, hg]
        rfl
    · exact trimN_zero (by rw [upTo_cons, rise_zero hs (by omega), if_neg hle])

theorem trim_some {low : Int} {l : List Vr} (hs : Rise l) (hw : waitsP l = true) (h : nextP l ≤ low) : 0 < trimN low l := by
  match l, hs, hw, h with
  | [x], hs, hw, h =>
    have hle : x.at' ≤ low := h
    rw [trimN_one hle rfl]
    have hg : x.gone = true := hw
    simp [hg]
  | x :: y :: l, hs, hw, h =>
    have hp := List.pairwise_cons.1 hs
    have hxy := hp.1 y (by simp)
    rw [next_two] at h
    cases hg : x.gone with
    | true =>
      rw [hg] at h
      simp at h
      rcases Nat.eq_zero_or_pos (upToP low (y :: l)) with h0 | h0
      · rw [trimN_one h h0, hg]; simp
      · rw [trimN_more h h0]; omega
    | false =>
      rw [hg] at h
      simp at h
      rw [trimN_more (by omega) (by rw [upTo_cons, if_pos h]; omega)]
      omega
end Go.Proofs.Ytcnajkclbmddgaa
