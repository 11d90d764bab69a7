/- What the law StoreCleans keeps: how many versions are left of each key. -/
import Derived.Test.YtcnajkclbmddgaaLawsF
namespace Go.Proofs.Ytcnajkclbmddgaa
open Go.ChangeShapes Go.WideShapes Go.ChangeAt Go.RowKit
set_option linter.unusedVariables false
set_option linter.unusedSimpArgs false

theorem vers_keepP (low : Int) (k : ByteArray) : ∀ v : List Ver, vers k (keepP low v) = vers k (keepK low k v)
  | [] => rfl
  | x :: l => by
    have ih := vers_keepP low k l
    have e : keepK low k (x :: l) = if x.w.key = k ∧ ¬ (low < x.at' ∨ (lastP k low l = none ∧ x.w.gone = false)) then keepK low k l else x :: keepK low k l := rfl
    by_cases hk : x.w.key = k
    · rw [keepP_cons, hk]
      by_cases hc : low < x.at' ∨ (lastP k low l = none ∧ x.w.gone = false)
      · rw [if_pos hc, e, if_neg (fun h => h.2 hc), vers_cons, vers_cons, if_pos hk, if_pos hk, ih]
      · rw [if_neg hc, e, if_pos ⟨hk, hc⟩, ih]
    · rw [e, if_neg (fun h => hk h.1), vers_cons, if_neg hk, keepP_cons]
      split
      · rw [vers_cons, if_neg hk, ih]
      · exact ih

theorem upTo_all {t : Int} {l : List Vr} (h : ∀ x ∈ l, x.at' ≤ t) : upToP t l = l.length := by
  unfold upToP
  rw [List.countP_eq_length]
  intro x hx
  simpa using h x hx

theorem keepK_le {low : Int} {k : ByteArray} {v : List Ver} (hs : Rising v) (h : ∀ x ∈ v, x.at' ≤ low) : (vers k (keepP low v)).length = match (vers k v).getLast? with | some x => if x.gone then 0 else 1 | none => 0 := by
  obtain ⟨h1, h2⟩ := vers_keepK (low := low) (k := k) v hs
  rw [vers_keepP, h1, List.length_drop]
  have hall : ∀ x ∈ vers k v, x.at' ≤ low := fun y hy => by
    obtain ⟨x, hx, _, rfl⟩ := vers_mem hy
    exact h x hx
  have hu := upTo_all hall
  unfold trimN
  rw [hu]
  rcases List.eq_nil_or_concat (vers k v) with hq | ⟨a, x, hq⟩
  · rw [hq]; rfl
  · rw [List.concat_eq_append] at hq
    rw [hq]
    have hl : (a ++ [x]).length = a.length + 1 := by simp
    rw [hl]
    simp only [List.getElem?_append_right (Nat.le_refl a.length), Nat.sub_self, List.getElem?_cons_zero, List.getLast?_concat]
    cases x.gone
    · simp
    · simp

theorem vers_sum (v : List Ver) (h : ∀ x ∈ v, ∃ k, k < 5 ∧ x.w.key = letK k) : v.length = (vers (letK 0) v).length + (vers (letK 1) v).length + (vers (letK 2) v).length + (vers (letK 3) v).length + (vers (letK 4) v).length := by
  induction v with
  | nil => rfl
  | cons x l ih =>
    have ih := ih (fun y hy => h y (by simp [hy]))
    obtain ⟨k, hk, e⟩ := h x (by simp)
    have hl : ∀ j, j < 5 → (vers (letK j) (x :: l)).length = (vers (letK j) l).length + if k = j then 1 else 0 := fun j hj => by
      rw [vers_cons, e]
      by_cases hkj : k = j
      · subst hkj; rw [if_pos rfl, if_pos rfl]; rfl
      · rw [if_neg (fun h => hkj (letK_inj hk hj h)), if_neg hkj]; rfl
    rw [hl 0 (by omega), hl 1 (by omega), hl 2 (by omega), hl 3 (by omega), hl 4 (by omega), List.length_cons, ih]
    rcases (by omega : k = 0 ∨ k = 1 ∨ k = 2 ∨ k = 3 ∨ k = 4) with rfl | rfl | rfl | rfl | rfl <;> simp <;> omega

theorem last_keepK_none {low : Int} {k : ByteArray} {v : List Ver} (h : lastP k low v = none) : lastP k low (keepK low k v) = none := by
  cases hl : lastP k low (keepK low k v) with
  | none => rfl
  | some y =>
    obtain ⟨hm, hh⟩ := lastP_some hl
    have := lastP_none h y (keepK_mem hm)
    rw [hh] at this
    cases this

theorem keepK_idem {low : Int} {k : ByteArray} : ∀ v : List Ver, keepK low k (keepK low k v) = keepK low k v
  | [] => rfl
  | x :: l => by
    have ih := keepK_idem (low := low) (k := k) l
    have e : keepK low k (x :: l) = if x.w.key = k ∧ ¬ (low < x.at' ∨ (lastP k low l = none ∧ x.w.gone = false)) then keepK low k l else x :: keepK low k l := rfl
    rw [e]
    split
    · exact ih
    · rename_i hc
      have e2 : keepK low k (x :: keepK low k l) = if x.w.key = k ∧ ¬ (low < x.at' ∨ (lastP k low (keepK low k l) = none ∧ x.w.gone = false)) then keepK low k (keepK low k l) else x :: keepK low k (keepK low k l) := rfl
      rw [e2, if_neg, ih]
      rintro ⟨h1, h2⟩
      refine hc ⟨h1, fun h3 => h2 ?_⟩
      rcases h3 with h3 | h3
      · exact .inl h3
      · exact .inr ⟨last_keepK_none h3.1, h3.2⟩

theorem keepP_idem {low : Int} {v : List Ver} (hs : Rising v) : keepP low (keepP low v) = keepP low v := by
  refine keepP_all _ (rising_keep hs) (fun k => ?_)
  rw [vers_keepP]
  obtain ⟨h1, h2⟩ := vers_keepK (low := low) (k := k) v hs
  -- what is left of a key is not trimmed again
  obtain ⟨h3, h4⟩ := vers_keepK (low := low) (k := k) (keepK low k v) (rising_keepK hs)
  have e : keepP low (keepK low k (keepK low k v)) = keepP low (keepK low k v) := keepP_keepK _
  have e2 : keepK low k (keepK low k v) = keepK low k v := keepK_idem v
  rw [e2] at h4
  omega

/-- How many keys of five are there. -/
def wantN (L : Nat → ByteArray) (k : Nat) : Nat := ((List.range k).filter fun j => decide (L j ≠ ⟨#[]⟩)).length
theorem wantN_step (L : Nat → ByteArray) (k : Nat) : wantN L (k + 1) = wantN L k + if L k ≠ ⟨#[]⟩ then 1 else 0 := by
  unfold wantN
  rw [List.range_succ, List.filter_append, List.length_append]
  congr 1
  by_cases h : L k = ⟨#[]⟩ <;> simp [h]
theorem wantN_le (L : Nat → ByteArray) : ∀ k, wantN L k ≤ k
  | 0 => Nat.le_refl _
  | k + 1 => by
    rw [wantN_step]
    have := wantN_le L k
    split <;> omega

theorem left_one {L : Nat → ByteArray} {s : Sto} {k : Nat} (hs : Rising s.v) (hle : ∀ x ∈ s.v, x.at' ≤ s.stamp) (h : readP s (letK k) s.stamp = seen (L k)) : (vers (letK k) (keepP s.stamp s.v)).length = if L k ≠ ⟨#[]⟩ then 1 else 0 := by
  rw [keepK_le hs hle]
  have hr := read_vers (letK k) s.stamp s.v hs
  have h2 : readP s (letK k) s.stamp = readL s.stamp (vers (letK k) s.v) := by
    rw [hr]; unfold readP; cases lastP (letK k) s.stamp s.v <;> rfl
  rw [h2] at h
  have hall : ∀ x ∈ vers (letK k) s.v, x.at' ≤ s.stamp := fun y hy => by
    obtain ⟨x, hx, _, rfl⟩ := vers_mem hy
    exact hle x hx
  unfold readL at h
  rw [upTo_all hall] at h
  rcases List.eq_nil_or_concat (vers (letK k) s.v) with hq | ⟨a, x, hq⟩
  · rw [hq] at h ⊢
    simp only [List.length_nil] at h
    have : L k = ⟨#[]⟩ := by
      have := congrArg Prod.fst h
      exact this.symm
    simp [this]
  · rw [List.concat_eq_append] at hq
    rw [hq] at h ⊢
    have hl : (a ++ [x]).length = a.length + 1 := by simp
    rw [hl] at h
    simp only [List.getElem?_append_right (Nat.le_refl a.length), Nat.sub_self, List.getElem?_cons_zero, List.getLast?_concat] at h ⊢
    unfold seen at h
    have hb := congrArg Prod.snd h
    simp only at hb
    cases hg : x.gone with
    | true =>
      rw [hg] at hb
      simp only [Bool.not_true] at hb
      have : L k = ⟨#[]⟩ := by simpa using hb.symm
      simp [this]
    | false =>
      rw [hg] at hb
      simp only [Bool.not_false] at hb
      have : L k ≠ ⟨#[]⟩ := by simpa using hb.symm
      simp [this]

theorem left_all {L : Nat → ByteArray} {s : Sto} (hs : Rising s.v) (hle : ∀ x ∈ s.v, x.at' ≤ s.stamp) (hk : ∀ x ∈ s.v, ∃ k, k < 5 ∧ x.w.key = letK k) (h : ∀ k, k < 5 → readP s (letK k) s.stamp = seen (L k)) : (keepP s.stamp s.v).length = wantN L 5 := by
  rw [vers_sum _ (fun x hx => hk x (keepP_mem hx)), left_one hs hle (h 0 (by omega)), left_one hs hle (h 1 (by omega)), left_one hs hle (h 2 (by omega)), left_one hs hle (h 3 (by omega)), left_one hs hle (h 4 (by omega))]
  rw [wantN_step, wantN_step, wantN_step, wantN_step, wantN_step]
  show _ = 0 + _ + _ + _ + _ + _
  omega
theorem OwnP.none {B p n : Nat} {w0 w : World} {S : St} {s : Sto} (O : OwnP B p w0 w S s n) (h : s.p = []) : OwnP B p w0 w S s 0 := by
  have hp : S.pins = [] := by
    cases hq : S.pins with
    | nil => rfl
    | cons x l =>
      have := O.pin.le x (by rw [hq]; simp)
      rw [h] at this
      simp at this
      omega
  exact ⟨O.own, O.pin, by rw [hp, h]; exact ⟨Nat.le_refl _, Nat.le_refl _⟩⟩

structure Lastly (B p ab : Nat) (w0 w : World) (i : Nat) (pl : List Int) (L C : Nat → ByteArray) (S : St) (s : Sto) : Prop where
  own : OwnP B p w0 w S s 1
  pl : s.p = pl
  tot : S.tot ≤ 3 * i
  stamp : s.stamp = (i : Int)
  all : s.all = 10000
  blk : Blk w ab (cellsL C) 52
  unl : ¬ (S.lab ab).isSome
  ge : B ≤ ab
  rd : ∀ k, k < 5 → readP s (letK k) s.stamp = seen (L k)
  keys : ∀ x ∈ s.v, ∃ k, k < 5 ∧ x.w.key = letK k

theorem Lastly.later {B p ab i : Nat} {w0 w w' : World} {pl : List Int} {L C : Nat → ByteArray} {S : St} {s : Sto} (Q : Lastly B p ab w0 w i pl L C S s) (h : Below w.heap.size w w') : Lastly B p ab w0 w' i pl L C S s :=
  ⟨Q.own.later h, Q.pl, Q.tot, Q.stamp, Q.all, Q.blk.of_block (h.block _ Q.blk.lt), Q.unl, Q.ge, Q.rd, Q.keys⟩

theorem Lastly.poke {B p ab i : Nat} {w0 w : World} {pl : List Int} {L L0 : Nat → ByteArray} {l : List Wr} {S : St} {s : Sto} (Q : Lastly B p ab w0 w i pl L (setL L0 l) S s) (x : Wr) (m : Nat) (hm : m < 5) (hx : x.key = letK m) :
    Lastly B p ab w0 (w.setCell ⟨ab, m, none⟩ (.string x.val)) i pl L (setL L0 (l ++ [x])) S s :=
  ⟨⟨Q.own.own.poke _ _ Q.ge Q.unl, Q.own.pin, Q.own.few⟩, Q.pl, Q.tot, Q.stamp, Q.all, by rw [← cellsL_set _ _ _ m hm hx]; exact Q.blk.set m _, Q.unl, Q.ge, Q.rd, Q.keys⟩

theorem Lastly.commit {B p ab i : Nat} {w0 w4 w5 : World} {L : Nat → ByteArray} {S : St} {s : Sto} (Q : Lastly B p ab w0 w4 i [] L L S s) (hi : i ≤ 50) {n : Nat} (hb5 : Below w4.heap.size w4 w5) {u : Value} (hu : w5.ownsRow w4.heap.size 54 3 u (writesP n).length (wrsCells (writesP n))) :
    Calls Try.prog 14 #[.pointer (some ⟨p, 0, none⟩), u] w5 fun e w' => (∃ v, e = .returned (.tuple #[v, .int .i64 0])) ∧ ∃ (S' : St) (s' : Sto), Lastly B p ab w0 w' (i + 1) [] (setL L (writesP n)) L S' s' ∧ Step w5 w' S S' := by
  have h1 := Q.tot
  have h2 := Q.all
  have Q5 := Q.later hb5
  refine (commit_row Q.own hb5 hu (by omega) (by rw [Q.stamp]; omega)).mono ?_
  rintro e w' ⟨S', rfl, O', T, ht⟩
  have hroom := Q.own.room (n := n) (by omega)
  have hrd : ∀ k, k < 5 → readP (commitP s (writesP n)).1 (letK k) (s.stamp + 1) = seen (setL L (writesP n) k) := fun k hk => read_now_commit Q.own.own.abs hroom L k (Q.rd k hk) writes_ok
  have hr := commit_room hroom
  rw [hr] at O' hrd ⊢
  refine ⟨⟨_, rfl⟩, S', _, ⟨O', Q.pl, by omega, ?_, h2, Q5.blk.of_block (T.only.block _ Q5.blk.lt Q.unl), T.unl Q5.blk.lt Q.unl, Q.ge, hrd, fun x hx => ?_⟩, T⟩
  · show s.stamp + 1 = ((i + 1 : Nat) : Int)
    rw [Q.stamp]; omega
  · rcases List.mem_append.1 hx with hx | hx
    · exact Q.keys x hx
    · obtain ⟨y, hy, rfl⟩ := List.mem_map.1 hx
      obtain ⟨j, hj⟩ := List.getElem?_of_mem hy
      obtain ⟨hk, _, _⟩ := writes_key hj
      exact ⟨(n / 3 + j) % 5, Nat.mod_lt _ (by omega), by rw [hk]; exact letK_mod _⟩

theorem Lastly.pin {B p ab i : Nat} {w0 w : World} {L C : Nat → ByteArray} {S : St} {s : Sto} (Q : Lastly B p ab w0 w i [] L C S s) :
    Calls Try.prog 16 #[.pointer (some ⟨p, 0, none⟩)] w fun e w' => e = .returned (.int .i64 (i : Int)) ∧ ∃ (S' : St) (s' : Sto), Lastly B p ab w0 w' i [(i : Int)] L C S' s' := by
  refine (pin_own (Q.own.none Q.pl) (by omega)).mono ?_
  rintro e w' ⟨S', rfl, O', T, ht⟩
  refine ⟨by rw [Q.stamp], S', pinP s, O', ?_, by rw [ht]; exact Q.tot, Q.stamp, Q.all, Q.blk.of_block (T.only.block _ Q.blk.lt Q.unl), T.unl Q.blk.lt Q.unl, Q.ge, Q.rd, Q.keys⟩
  show s.p ++ [s.stamp] = _
  rw [Q.pl, Q.stamp]
  rfl

theorem Lastly.unpin {B p ab i : Nat} {w0 w : World} {pl : List Int} {L C : Nat → ByteArray} {S : St} {s : Sto} (Q : Lastly B p ab w0 w i pl L C S s) (t : Int) :
    Calls Try.prog 19 #[.pointer (some ⟨p, 0, none⟩), .int .i64 t] w fun e w' => e = .returned (.tuple #[]) ∧ ∃ (S' : St) (s' : Sto), Lastly B p ab w0 w' i (pl.erase t) L C S' s' := by
  refine (unpin_own Q.own (by omega) t).mono ?_
  rintro e w' ⟨rfl, S', O', T, ht⟩
  refine ⟨rfl, S', unpinP s t, O', ?_, by rw [ht]; exact Q.tot, Q.stamp, Q.all, Q.blk.of_block (T.only.block _ Q.blk.lt Q.unl), T.unl Q.blk.lt Q.unl, Q.ge, Q.rd, Q.keys⟩
  show s.p.erase t = _
  rw [Q.pl]

theorem Lastly.read {B p ab i : Nat} {w0 w : World} {pl : List Int} {L C : Nat → ByteArray} {S : St} {s : Sto} (Q : Lastly B p ab w0 w i pl L C S s) {k : Nat} (hk : k < 5) :
    Calls Try.prog 24 #[.pointer (some ⟨p, 0, none⟩), .string (letK k), .int .i64 (i : Int)] w fun e w' => e = .returned (.tuple #[.string (L k), .bool (decide (L k ≠ ⟨#[]⟩))]) ∧ Below w.heap.size w w' := by
  have := read_own Q.own.own (letK k) (i : Int) (by show (1 : Nat) ≤ _; unfold maxLen; omega)
  have h := Q.rd k hk
  rw [Q.stamp] at h
  rw [h] at this
  exact this

/-- Cleaned with nothing pinned. -/
theorem Lastly.clean {B p ab i : Nat} {w0 w : World} {L C : Nat → ByteArray} {S : St} {s : Sto} (Q : Lastly B p ab w0 w i [] L C S s) :
    Calls Try.prog 21 #[.pointer (some ⟨p, 0, none⟩)] w fun e w' => e = .returned (.int .i64 ((s.v.length : Int) - (wantN L 5 : Nat))) ∧ ∃ (S' : St) (s' : Sto), Lastly B p ab w0 w' i [] L C S' s' ∧ s'.v.length = wantN L 5 := by
  have H := Q.own.own.abs
  have hl : lowP s = s.stamp := by unfold lowP; rw [Q.pl]; rfl
  have hleft := left_all H.rising H.le Q.keys Q.rd
  refine (clean_own Q.own).mono ?_
  rintro e w' ⟨S', rfl, O', T, ht⟩
  have hrk : ∀ k, readP (cleanP s).1 (letK k) s.stamp = readP s (letK k) s.stamp := fun k => read_keep (by rw [hl]; exact Int.le_refl _) H.rising _
  have e2 : (cleanP s).2 = (s.v.length : Int) - ((keepP s.stamp s.v).length : Int) := by unfold cleanP; rw [hl]
  have e1 : (cleanP s).1 = { s with v := keepP s.stamp s.v } := by unfold cleanP; rw [hl]
  rw [e2, hleft]
  rw [e1] at O' hrk
  exact ⟨rfl, S', _, ⟨O', Q.pl, by rw [ht]; exact Q.tot, Q.stamp, Q.all, Q.blk.of_block (T.only.block _ Q.blk.lt Q.unl), T.unl Q.blk.lt Q.unl, Q.ge, fun k hk => (hrk k).trans (Q.rd k hk), fun x hx => Q.keys x (keepP_mem hx)⟩, hleft⟩

theorem Lastly.start {B p : Nat} {w0 w : World} {S : St} {s : Sto} (O : Own B p w0 w S s) (hs : s = ⟨10000, 0, [], []⟩) (hp : S.pins = []) (ht : S.tot = 0) : Lastly B p w.heap.size w0 (w.alloc (.cells (cellsL fun _ => ⟨#[]⟩) 52)) 0 [] (fun _ => ⟨#[]⟩) (fun _ => ⟨#[]⟩) S s := by
  subst hs
  exact ⟨((O.fresh (n := 0) hp rfl).later (below_new w _)).more (by omega), rfl, by omega, rfl, rfl, Blk.new w _ _, fun e => by have := O.store.lt _ e; omega, O.size, fun k hk => rfl, fun x hx => by cases hx⟩
end Go.Proofs.Ytcnajkclbmddgaa
