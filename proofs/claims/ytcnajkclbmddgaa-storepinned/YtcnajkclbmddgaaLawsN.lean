/- What the law StorePinned keeps. -/
import Derived.Test.YtcnajkclbmddgaaLawsF
namespace Go.Proofs.Ytcnajkclbmddgaa
open Go.ChangeShapes Go.WideShapes Go.ChangeAt Go.RowKit
set_option linter.unusedVariables false
set_option linter.unusedSimpArgs false

theorem vers_keepP (low : Int) (k : ByteArray) : ∀ v : List Ver, vers k (keepP low v) = vers k (keepK low k v)
  | [] => rfl
  | x :: l => by
    have ih := vers_keepP low k l
    have e : keepK low k (x :: l) = if x.w.key = k ∧ ¬ (low < x.at' ∨ (lastP k low l = none ∧ x.w.gone = false)) then keepK low k l else x :: keepK low k l := rfl
    by_cases hk : x.w.key = k
    · rw [keepP_cons, hk]
      by_cases hc : low < x.at' ∨ (lastP k low l = none ∧ x.w.gone = false)
      · rw [if_pos hc, e, if_neg (fun h => h.2 hc), vers_cons, vers_cons, if_pos hk, if_pos hk, ih]
      · rw [if_neg hc, e, if_pos ⟨hk, hc⟩, ih]
    · rw [e, if_neg (fun h => hk h.1), vers_cons, if_neg hk, keepP_cons]
      split
      · rw [vers_cons, if_neg hk, ih]
      · exact ih

theorem upTo_all {t : Int} {l : List Vr} (h : ∀ x ∈ l, x.at' ≤ t) : upToP t l = l.length := by
  unfold upToP
  rw [List.countP_eq_length]
  intro x hx
  simpa using h x hx

theorem keepK_le {low : Int} {k : ByteArray} {v : List Ver} (hs : Rising v) (h : ∀ x ∈ v, x.at' ≤ low) : (vers k (keepP low v)).length = match (vers k v).getLast? with | some x => if x.gone then 0 else 1 | none => 0 := by
  obtain ⟨h1, h2⟩ := vers_keepK (low := low) (k := k) v hs
  rw [vers_keepP, h1, List.length_drop]
  have hall : ∀ x ∈ vers k v, x.at' ≤ low := fun y hy => by
    obtain ⟨x, hx, _, rfl⟩ := vers_mem hy
    exact h x hx
  have hu := upTo_all hall
  unfold trimN
  rw [hu]
  rcases List.eq_nil_or_concat (vers k v) with hq | ⟨a, x, hq⟩
  · rw [hq]; rfl
  · rw [List.concat_eq_append] at hq
    rw [hq]
    have hl : (a ++ [x]).length = a.length + 1 := by simp
    rw [hl]
    simp only [List.getElem?_append_right (Nat.le_refl a.length), Nat.sub_self, List.getElem?_cons_zero, List.getLast?_concat]
    cases x.gone
    · simp
    · simp

theorem vers_sum (v : List Ver) (h : ∀ x ∈ v, ∃ k, k < 5 ∧ x.w.key = letK k) : v.length = (vers (letK 0) v).length + (vers (letK 1) v).length + (vers (letK 2) v).length + (vers (letK 3) v).length + (vers (letK 4) v).length := by
  induction v with
  | nil => rfl
  | cons x l ih =>
    have ih := ih (fun y hy => h y (by simp [hy]))
    obtain ⟨k, hk, e⟩ := h x (by simp)
    have hl : ∀ j, j < 5 → (vers (letK j) (x :: l)).length = (vers (letK j) l).length + if k = j then 1 else 0 := fun j hj => by
      rw [vers_cons, e]
      by_cases hkj : k = j
      · subst hkj; rw [if_pos rfl, if_pos rfl]; rfl
      · rw [if_neg (fun h => hkj (letK_inj hk hj h)), if_neg hkj]; rfl
    rw [hl 0 (by omega), hl 1 (by omega), hl 2 (by omega), hl 3 (by omega), hl 4 (by omega), List.length_cons, ih]
    rcases (by omega : k = 0 ∨ k = 1 ∨ k = 2 ∨ k = 3 ∨ k = 4) with rfl | rfl | rfl | rfl | rfl <;> simp <;> omega

theorem last_keepK_none {low : Int} {k : ByteArray} {v : List Ver} (h : lastP k low v = none) : lastP k low (keepK low k v) = none := by
  cases hl : lastP k low (keepK low k v) with
  | none => rfl
  | some y =>
    obtain ⟨hm, hh⟩ := lastP_some hl
    have := lastP_none h y (keepK_mem hm)
    rw [hh] at this
    cases this

theorem keepK_idem {low : Int} {k : ByteArray} : ∀ v : List Ver, keepK low k (keepK low k v) = keepK low k v
  | [] => rfl
  | x :: l => by
    have ih := keepK_idem (low := low) (k := k) l
    have e : keepK low k (x :: l) = if x.w.key = k ∧ ¬ (low < x.at' ∨ (lastP k low l = none ∧ x.w.gone = false)) then keepK low k l else x :: keepK low k l := rfl
    rw [e]
    split
    · exact ih
    · rename_i hc
      have e2 : keepK low k (x :: keepK low k l) = if x.w.key = k ∧ ¬ (low < x.at' ∨ (lastP k low (keepK low k l) = none ∧ x.w.gone = false)) then keepK low k (keepK low k l) else x :: keepK low k (keepK low k l) := rfl
      rw [e2, if_neg, ih]
      rintro ⟨h1, h2⟩
      refine hc ⟨h1, fun h3 => h2 ?_⟩
      rcases h3 with h3 | h3
      · exact .inl h3
      · exact .inr ⟨last_keepK_none h3.1, h3.2⟩

theorem keepP_idem {low : Int} {v : List Ver} (hs : Rising v) : keepP low (keepP low v) = keepP low v := by
  refine keepP_all _ (rising_keep hs) (fun k => ?_)
  rw [vers_keepP]
  obtain ⟨h1, h2⟩ := vers_keepK (low := low) (k := k) v hs
  -- what is left of a key is not trimmed again
  obtain ⟨h3, h4⟩ := vers_keepK (low := low) (k := k) (keepK low k v) (rising_keepK hs)
  have e : keepP low (keepK low k (keepK low k v)) = keepP low (keepK low k v) := keepP_keepK _
  have e2 : keepK low k (keepK low k v) = keepK low k v := keepK_idem v
  rw [e2] at h4
  omega

/-- How many keys of five are there. -/
def wantN (L : Nat → ByteArray) (k : Nat) : Nat := ((List.range k).filter fun j => decide (L j ≠ ⟨#[]⟩)).length
theorem wantN_step (L : Nat → ByteArray) (k : Nat) : wantN L (k + 1) = wantN L k + if L k ≠ ⟨#[]⟩ then 1 else 0 := by
  unfold wantN
  rw [List.range_succ, List.filter_append, List.length_append]
  congr 1
  by_cases h : L k = ⟨#[]⟩ <;> simp [h]
theorem wantN_le (L : Nat → ByteArray) : ∀ k, wantN L k ≤ k
  | 0 => Nat.le_refl _
  | k + 1 => by
    rw [wantN_step]
    have := wantN_le L k
    split <;> omega

theorem left_one {L : Nat → ByteArray} {s : Sto} {k : Nat} (hs : Rising s.v) (hle : ∀ x ∈ s.v, x.at' ≤ s.stamp) (h : readP s (letK k) s.stamp = seen (L k)) : (vers (letK k) (keepP s.stamp s.v)).length = if L k ≠ ⟨#[]⟩ then 1 else 0 := by
  rw [keepK_le hs hle]
  have hr := read_vers (letK k) s.stamp s.v hs
  have h2 : readP s (letK k) s.stamp = readL s.stamp (vers (letK k) s.v) := by
    rw [hr]; unfold readP; cases lastP (letK k) s.stamp s.v <;> rfl
  rw [h2] at h
  have hall : ∀ x ∈ vers (letK k) s.v, x.at' ≤ s.stamp := fun y hy => by
    obtain ⟨x, hx, _, rfl⟩ := vers_mem hy
    exact hle x hx
  unfold readL at h
  rw [upTo_all hall] at h
  rcases List.eq_nil_or_concat (vers (letK k) s.v) with hq | ⟨a, x, hq⟩
  · rw [hq] at h ⊢
    simp only [List.length_nil] at h
    have : L k = ⟨#[]⟩ := by
      have := congrArg Prod.fst h
      exact this.symm
    simp [this]
  · rw [List.concat_eq_append] at hq
    rw [hq] at h ⊢
    have hl : (a ++ [x]).length = a.length + 1 := by simp
    rw [hl] at h
    simp only [List.getElem?_append_right (Nat.le_refl a.length), Nat.sub_self, List.getElem?_cons_zero, List.getLast?_concat] at h ⊢
    unfold seen at h
    have hb := congrArg Prod.snd h
    simp only at hb
    cases hg : x.gone with
    | true =>
      rw [hg] at hb
      simp only [Bool.not_true] at hb
      have : L k = ⟨#[]⟩ := by simpa using hb.symm
      simp [this]
    | false =>
      rw [hg] at hb
      simp only [Bool.not_false] at hb
      have : L k ≠ ⟨#[]⟩ := by simpa using hb.symm
      simp [this]

theorem left_all {L : Nat → ByteArray} {s : Sto} (hs : Rising s.v) (hle : ∀ x ∈ s.v, x.at' ≤ s.stamp) (hk : ∀ x ∈ s.v, ∃ k, k < 5 ∧ x.w.key = letK k) (h : ∀ k, k < 5 → readP s (letK k) s.stamp = seen (L k)) : (keepP s.stamp s.v).length = wantN L 5 := by
  rw [vers_sum _ (fun x hx => hk x (keepP_mem hx)), left_one hs hle (h 0 (by omega)), left_one hs hle (h 1 (by omega)), left_one hs hle (h 2 (by omega)), left_one hs hle (h 3 (by omega)), left_one hs hle (h 4 (by omega))]
  rw [wantN_step, wantN_step, wantN_step, wantN_step, wantN_step]
  show _ = 0 + _ + _ + _ + _ + _
  omega
theorem OwnP.none {B p n : Nat} {w0 w : World} {S : St} {s : Sto} (O : OwnP B p w0 w S s n) (h : s.p = []) : OwnP B p w0 w S s 0 := by
  have hp : S.pins = [] := by
    cases hq : S.pins with
    | nil => rfl
    | cons x l =>
      have := O.pin.le x (by rw [hq]; simp)
      rw [h] at this
      simp at this
      omega
  exact ⟨O.own, O.pin, by rw [hp, h]; exact ⟨Nat.le_refl _, Nat.le_refl _⟩⟩

structure Lastly (B p ab : Nat) (w0 w : World) (i : Nat) (pl : List Int) (L C : Nat → ByteArray) (S : St) (s : Sto) : Prop where
  own : OwnP B p w0 w S s 1
  pl : s.p = pl
  tot : S.tot ≤ 3 * i
  stamp : s.stamp = (i : Int)
  all : s.all = 10000
  blk : Blk w ab (cellsL C) 52
  unl : ¬ (S.lab ab).isSome
  ge : B ≤ ab
  rd : ∀ k, k < 5 → readP s (letK k) s.stamp = seen (L k)
  keys : ∀ x ∈ s.v, ∃ k, k < 5 ∧ x.w.key = letK k

theorem Lastly.later {B p ab i : Nat} {w0 w w' : World} {pl : List Int} {L C : Nat → ByteArray} {S : St} {s : Sto} (Q : Lastly B p ab w0 w i pl L C S s) (h : Below w.heap.size w w') : Lastly B p ab w0 w' i pl L C S s :=
  ⟨Q.own.later h, Q.pl, Q.tot, Q.stamp, Q.all, Q.blk.of_block (h.block _ Q.blk.lt), Q.unl, Q.ge, Q.rd, Q.keys⟩

theorem Lastly.poke {B p ab i : Nat} {w0 w : World} {pl : List Int} {L L0 : Nat → ByteArray} {l : List Wr} {S : St} {s : Sto} (Q : Lastly B p ab w0 w i pl L (setL L0 l) S s) (x : Wr) (m : Nat) (hm : m < 5) (hx : x.key = letK m) :
    Lastly B p ab w0 (w.setCell ⟨ab, m, none⟩ (.string x.val)) i pl L (setL L0 (l ++ [x])) S s :=
  ⟨⟨Q.own.own.poke _ _ Q.ge Q.unl, Q.own.pin, Q.own.few⟩, Q.pl, Q.tot, Q.stamp, Q.all, by rw [← cellsL_set _ _ _ m hm hx]; exact Q.blk.set m _, Q.unl, Q.ge, Q.rd, Q.keys⟩

theorem Lastly.commit {B p ab i : Nat} {w0 w4 w5 : World} {L : Nat → ByteArray} {S : St} {s : Sto} (Q : Lastly B p ab w0 w4 i [] L L S s) (hi : i ≤ 50) {n : Nat} (hb5 : Below w4.heap.size w4 w5) {u : Value} (hu : w5.ownsRow w4.heap.size 54 3 u (writesP n).length (wrsCells (writesP n))) :
    Calls Try.prog 14 #[.pointer (some ⟨p, 0, none⟩), u] w5 fun e w' => (∃ v, e = .returned (.tuple #[v, .int .i64 0])) ∧ ∃ (S' : St) (s' : Sto), Lastly B p ab w0 w' (i + 1) [] (setL L (writesP n)) L S' s' ∧ Step w5 w' S S' := by
  have h1 := Q.tot
  have h2 := Q.all
  have Q5 := Q.later hb5
  refine (commit_row Q.own hb5 hu (by omega) (by rw [Q.stamp]; omega)).mono ?_
  rintro e w' ⟨S', rfl, O', T, ht⟩
  have hroom := Q.own.room (n := n) (by omega)
  have hrd : ∀ k, k < 5 → readP (commitP s (writesP n)).1 (letK k) (s.stamp + 1) = seen (setL L (writesP n) k) := fun k hk => read_now_commit Q.own.own.abs hroom L k (Q.rd k hk) writes_ok
  have hr := commit_room hroom
  rw [hr] at O' hrd ⊢
  refine ⟨⟨_, rfl⟩, S', _, ⟨O', Q.pl, by omega, ?_, h2, Q5.blk.of_block (T.only.block _ Q5.blk.lt Q.unl), T.unl Q5.blk.lt Q.unl, Q.ge, hrd, fun x hx => ?_⟩, T⟩
  · show s.stamp + 1 = ((i + 1 : Nat) : Int)
    rw [Q.stamp]; omega
  · rcases List.mem_append.1 hx with hx | hx
    · exact Q.keys x hx
    · obtain ⟨y, hy, rfl⟩ := List.mem_map.1 hx
      obtain ⟨j, hj⟩ := List.getElem?_of_mem hy
      obtain ⟨hk, _, _⟩ := writes_key hj
      exact ⟨(n / 3 + j) % 5, Nat.mod_lt _ (by omega), by rw [hk]; exact letK_mod _⟩

theorem Lastly.pin {B p ab i : Nat} {w0 w : World} {L C : Nat → ByteArray} {S : St} {s : Sto} (Q : Lastly B p ab w0 w i [] L C S s) :
    Calls Try.prog 16 #[.pointer (some ⟨p, 0, none⟩)] w fun e w' => e = .returned (.int .i64 (i : Int)) ∧ ∃ (S' : St) (s' : Sto), Lastly B p ab w0 w' i [(i : Int)] L C S' s' := by
  refine (pin_own (Q.own.none Q.pl) (by omega)).mono ?_
  rintro e w' ⟨S', rfl, O', T, ht⟩
  refine ⟨by rw [Q.stamp], S', pinP s, O', ?_, by rw [ht]; exact Q.tot, Q.stamp, Q.all, Q.blk.of_block (T.only.block _ Q.blk.lt Q.unl), T.unl Q.blk.lt Q.unl, Q.ge, Q.rd, Q.keys⟩
  show s.p ++ [s.stamp] = _
  rw [Q.pl, Q.stamp]
  rfl

theorem Lastly.unpin {B p ab i : Nat} {w0 w : World} {pl : List Int} {L C : Nat → ByteArray} {S : St} {s : Sto} (Q : Lastly B p ab w0 w i pl L C S s) (t : Int) :
    Calls Try.prog 19 #[.pointer (some ⟨p, 0, none⟩), .int .i64 t] w fun e w' => e = .returned (.tuple #[]) ∧ ∃ (S' : St) (s' : Sto), Lastly B p ab w0 w' i (pl.erase t) L C S' s' := by
  refine (unpin_own Q.own (by omega) t).mono ?_
  rintro e w' ⟨rfl, S', O', T, ht⟩
  refine ⟨rfl, S', unpinP s t, O', ?_, by rw [ht]; exact Q.tot, Q.stamp, Q.all, Q.blk.of_block (T.only.block _ Q.blk.lt Q.unl), T.unl Q.blk.lt Q.unl, Q.ge, Q.rd, Q.keys⟩
  show s.p.erase t = _
  rw [Q.pl]

theorem Lastly.read {B p ab i : Nat} {w0 w : World} {pl : List Int} {L C : Nat → ByteArray} {S : St} {s : Sto} (Q : Lastly B p ab w0 w i pl L C S s) {k : Nat} (hk : k < 5) :
    Calls Try.prog 24 #[.pointer (some ⟨p, 0, none⟩), .string (letK k), .int .i64 (i : Int)] w fun e w' => e = .returned (.tuple #[.string (L k), .bool (decide (L k ≠ ⟨#[]⟩))]) ∧ Below w.heap.size w w' := by
  have := read_own Q.own.own (letK k) (i : Int) (by show (1 : Nat) ≤ _; unfold maxLen; omega)
  have h := Q.rd k hk
  rw [Q.stamp] at h
  rw [h] at this
  exact this

/-- Cleaned with nothing pinned. -/
theorem Lastly.clean {B p ab i : Nat} {w0 w : World} {L C : Nat → ByteArray} {S : St} {s : Sto} (Q : Lastly B p ab w0 w i [] L C S s) :
    Calls Try.prog 21 #[.pointer (some ⟨p, 0, none⟩)] w fun e w' => e = .returned (.int .i64 ((s.v.length : Int) - (wantN L 5 : Nat))) ∧ ∃ (S' : St) (s' : Sto), Lastly B p ab w0 w' i [] L C S' s' ∧ s'.v.length = wantN L 5 := by
  have H := Q.own.own.abs
  have hl : lowP s = s.stamp := by unfold lowP; rw [Q.pl]; rfl
  have hleft := left_all H.rising H.le Q.keys Q.rd
  refine (clean_own Q.own).mono ?_
  rintro e w' ⟨S', rfl, O', T, ht⟩
  have hrk : ∀ k, readP (cleanP s).1 (letK k) s.stamp = readP s (letK k) s.stamp := fun k => read_keep (by rw [hl]; exact Int.le_refl _) H.rising _
  have e2 : (cleanP s).2 = (s.v.length : Int) - ((keepP s.stamp s.v).length : Int) := by unfold cleanP; rw [hl]
  have e1 : (cleanP s).1 = { s with v := keepP s.stamp s.v } := by unfold cleanP; rw [hl]
  rw [e2, hleft]
  rw [e1] at O' hrk
  exact ⟨rfl, S', _, ⟨O', Q.pl, by rw [ht]; exact Q.tot, Q.stamp, Q.all, Q.blk.of_block (T.only.block _ Q.blk.lt Q.unl), T.unl Q.blk.lt Q.unl, Q.ge, fun k hk => (hrk k).trans (Q.rd k hk), fun x hx => Q.keys x (keepP_mem hx)⟩, hleft⟩

theorem Lastly.start {B p : Nat} {w0 w : World} {S : St} {s : Sto} (O : Own B p w0 w S s) (hs : s = ⟨10000, 0, [], []⟩) (hp : S.pins = []) (ht : S.tot = 0) : Lastly B p w.heap.size w0 (w.alloc (.cells (cellsL fun _ => ⟨#[]⟩) 52)) 0 [] (fun _ => ⟨#[]⟩) (fun _ => ⟨#[]⟩) S s := by
  subst hs
  exact ⟨((O.fresh (n := 0) hp rfl).later (below_new w _)).more (by omega), rfl, by omega, rfl, rfl, Blk.new w _ _, fun e => by have := O.store.lt _ e; omega, O.size, fun k hk => rfl, fun x hx => by cases hx⟩

theorem info_str : (Try.prog.info? 9).map (fun i => (i.zero, i.size, i.bytes)) = some (some (.string ⟨#[]⟩), 1, 16) := by kernel_rfl
theorem info_bool : (Try.prog.info? 4).map (fun i => (i.zero, i.size, i.bytes)) = some (some (.bool false), 1, 1) := by kernel_rfl

/-- An append whose run is known, at a plain region's list. -/
theorem wpList_run_app {ops : Array Oper} {rest : List Oper} {o : Oper} {a : Act} {Q : Exit → Act → World → Prop} {w w' : World} (hgd : o.guard = none) (s x : Operand) (t : TypeId)
    (ho : o.op = .call { callee := .builtin .append, args := #[s, x], argTypes := #[t, t] }) (v u r : Value) (hs : a.eval s = v) (hx : a.eval x = u)
    (hrun : (Builtin.append_ #[t, t] o.type #[v, u]).run Try.prog w = .ok r w') (h : wpList Try.prog ops Q rest (a.put o.dst r) w') : wpList Try.prog ops Q (o :: rest) a w := by
  refine wpList_plain hgd fun K hK => ?_
  unfold Oper.wp execOp
  simp only [ho, resolve, invoke, builtin, Sem.run_bind, Sem.run_pure, Result.andThen_ok, List.map_toArray, List.map_cons, List.map_nil, hs, hx, hrun]
  exact hK _ _ h

theorem row_thruB {w w' : World} {base : Nat} {e : TypeId} {size : Nat} {v : Value} {n : Nat} {xs : List Value} (h : w.ownsRow base e size v n xs) (hb : ∀ g, v.ownBlock = some g → w'.heap[g]? = w.heap[g]?) : w'.ownsRow base e size v n xs := by
  obtain ⟨h1, h2⟩ := h
  refine ⟨h1, ?_⟩
  rcases h2 with h2 | ⟨g, cap, cur, e1, e2, e3, r⟩
  · exact .inl h2
  · exact .inr ⟨g, cap, cur, e1, e2, (hb g (by rw [e1]; rfl)).trans e3, r⟩

theorem append_two {w : World} {B n : Nat} {u v : Value} {xs ys : List Value} (Ru : w.ownsRow B 9 1 u n xs) (Rv : w.ownsRow B 4 1 v n ys) (hd : ∀ g, u.ownBlock = some g → v.ownBlock ≠ some g) (hB : B ≤ w.heap.size) (hn : n < 1000) (a : ByteArray) (b : Bool) :
    ∃ g1 c1 w6 g2 c2 w7, (Builtin.append_ #[48, 48] 48 #[u, .slice (some ⟨w.heap.size, 0, none⟩) 1 1]).run Try.prog (w.alloc (.cells #[.string a] 9)) = .ok (.slice (some ⟨g1, 0, none⟩) (n + 1) c1) w6 ∧
      (Builtin.append_ #[49, 49] 49 #[v, .slice (some ⟨w6.heap.size, 0, none⟩) 1 1]).run Try.prog (w6.alloc (.cells #[.bool b] 4)) = .ok (.slice (some ⟨g2, 0, none⟩) (n + 1) c2) w7 ∧
      w7.ownsRow B 9 1 (.slice (some ⟨g1, 0, none⟩) (n + 1) c1) (n + 1) (xs ++ [.string a]) ∧ w7.ownsRow B 4 1 (.slice (some ⟨g2, 0, none⟩) (n + 1) c2) (n + 1) (ys ++ [.bool b]) ∧ g1 ≠ g2 ∧
      Only (fun k => u.ownBlock = some k ∨ v.ownBlock = some k) w w7 ∧ (u.ownBlock = some g1 ∨ w.heap.size ≤ g1) ∧ (v.ownBlock = some g2 ∨ w.heap.size ≤ g2) := by
  obtain ⟨i1, a1, a2, a3, a4⟩ := info_parts info_str
  obtain ⟨i2, b1, b2, b3, b4⟩ := info_parts info_bool
  have hA : B ≤ (w.alloc (.cells #[.string a] 9)).heap.size := by simp; omega
  obtain ⟨g1, c1, w6, r1, R1, G1, o1, l1⟩ := run_append_lies (P := Try.prog) (w.alloc (.cells #[.string a] 9)) 48 48 B 9 i1 _ 1 16 Try.underlying48 a1 a2 a3 a4 rfl (by decide) u n xs (Ru.alloc _) ⟨w.heap.size, 0, none⟩ 1 1 [.string a] rfl (World.news_of_block (cs := #[.string a]) (t := 9) (fr := (0, 0)) (heap_alloc_new w _)) (by simp [Value.oneCell']) Nat.one_pos (by unfold maxLen; omega) (by omega) hA _ rfl
  have b5 : Below w.heap.size w (w.alloc (.cells #[.string a] 9)) := below_new w _
  have hs1 : (w.alloc (.cells #[.string a] 9)).heap.size = w.heap.size + 1 := by simp
  rw [hs1] at o1
  have hsz6 : w.heap.size + 1 ≤ w6.heap.size := by have := G1.size; rw [hs1] at this; exact this
  have hvb : ∀ g, v.ownBlock = some g → g < w.heap.size := fun g hg => (Rv.lt g hg).2
  have hub : ∀ g, u.ownBlock = some g → g < w.heap.size := fun g hg => (Ru.lt g hg).2
  have Rv6 : w6.ownsRow B 4 1 v n ys := row_thruB Rv (fun g hg => by
    rw [G1.block g (by rw [hs1]; have := hvb g hg; omega) (fun e => hd g e.symm hg), b5.block g (hvb g hg)])
  have hB6 : B ≤ (w6.alloc (.cells #[.bool b] 4)).heap.size := by simp; omega
  obtain ⟨g2, c2, w7, r2, R2, G2, o2, l2⟩ := run_append_lies (P := Try.prog) (w6.alloc (.cells #[.bool b] 4)) 49 49 B 4 i2 _ 1 1 Try.underlying49 b1 b2 b3 b4 rfl (by decide) v n ys (Rv6.alloc _) ⟨w6.heap.size, 0, none⟩ 1 1 [.bool b] rfl (World.news_of_block (cs := #[.bool b]) (t := 4) (fr := (0, 0)) (heap_alloc_new w6 _)) (by simp [Value.oneCell']) Nat.one_pos (by unfold maxLen; omega) (by omega) hB6 _ rfl
  have hs2 : (w6.alloc (.cells #[.bool b] 4)).heap.size = w6.heap.size + 1 := by simp
  rw [hs2] at o2
  have b6 : Below w6.heap.size w6 (w6.alloc (.cells #[.bool b] 4)) := below_new w6 _
  have hne : g1 ≠ g2 := by
    rintro rfl
    rcases o1 with o1 | o1 <;> rcases o2 with o2 | o2
    · exact hd _ o1 o2
    · have := hub _ o1; omega
    · have := hvb _ o2; omega
    · omega
  refine ⟨g1, c1, w6, g2, c2, w7, r1, r2, ?_, R2, hne, ?_, o1.imp id (fun h => by omega), o2.imp id (fun h => by omega)⟩
  · refine row_thruB (R1.alloc (.cells #[.bool b] 4)) (fun g hg => ?_)
    simp [Value.ownBlock] at hg
    subst hg
    refine G2.block g1 (by rw [hs2]; omega) (fun e => ?_)
    rcases o1 with o1 | o1
    · exact hd _ o1 e.symm
    · have := hvb _ e.symm; omega
  · refine ⟨G2.os.trans (b6.os.trans (G1.os.trans b5.os)), G2.tape.trans (b6.tape.trans (G1.tape.trans b5.tape)), G2.output.trans (b6.output.trans (G1.output.trans b5.output)), by have := G2.size; rw [hs2] at this; omega, fun k hk hnn => ?_⟩
    rw [G2.block k (by rw [hs2]; omega) (fun e => hnn (.inr e.symm)), b6.block k (by omega), G1.block k (by rw [hs1]; omega) (fun e => hnn (.inl e.symm)), b5.block k hk]

theorem within_some (a n : Int) (hn : ¬ n = 0) (w : World) : Calls Try.prog 10 #[.int .i64 a, .int .i64 n] w fun e w' => w' = w ∧ ∃ k, e = .returned (.int .i64 k) := by
  by_cases c : a.tmod n < 0
  · go_enter Try.func10, Try.ntmps10
    go_wp2
    go_ret
    exact ⟨rfl, _, rfl⟩
  · go_enter Try.func10, Try.ntmps10
    go_wp2
    go_ret
    exact ⟨rfl, _, rfl⟩

def rowW (W : Nat → ByteArray × Bool) (n : Nat) : List Value := (List.range n).map fun j => .string (W j).1
def rowB (W : Nat → ByteArray × Bool) (n : Nat) : List Value := (List.range n).map fun j => .bool (W j).2
theorem rowW_snoc (W : Nat → ByteArray × Bool) (n : Nat) : rowW W (n + 1) = rowW W n ++ [.string (W n).1] := by unfold rowW; rw [List.range_succ, List.map_append]; rfl
theorem rowB_snoc (W : Nat → ByteArray × Bool) (n : Nat) : rowB W (n + 1) = rowB W n ++ [.bool (W n).2] := by unfold rowB; rw [List.range_succ, List.map_append]; rfl
theorem rowW_get (W : Nat → ByteArray × Bool) {n j : Nat} (h : j < n) : (rowW W n)[j]? = some (.string (W j).1) := by unfold rowW; simp [h]
theorem rowB_get (W : Nat → ByteArray × Bool) {n j : Nat} (h : j < n) : (rowB W n)[j]? = some (.bool (W j).2) := by unfold rowB; simp [h]

structure Held (B p : Nat) (w0 w : World) (i : Nat) (b : Bool) (T : Int) (W : Nat → ByteArray × Bool) (n : Nat) (u v : Value) (S : St) (s : Sto) : Prop where
  own : OwnP B p w0 w S s 1
  tot : S.tot ≤ 3 * i
  stamp : 0 ≤ s.stamp ∧ s.stamp ≤ i
  all : s.all = 10000
  ru : w.ownsRow B 9 1 u n (rowW W n)
  rv : w.ownsRow B 4 1 v n (rowB W n)
  uu : ∀ g, u.ownBlock = some g → ¬ (S.lab g).isSome
  vv : ∀ g, v.ownBlock = some g → ¬ (S.lab g).isSome
  uv : ∀ g, u.ownBlock = some g → v.ownBlock ≠ some g
  no : b = false → s.p = [] ∧ n = 0
  yes : b = true → s.p = [T] ∧ T ≤ s.stamp ∧ ∀ k, k < 5 → readP s (letK k) T = W k

theorem Held.later {B p i n : Nat} {w0 w w' : World} {b : Bool} {T : Int} {W : Nat → ByteArray × Bool} {u v : Value} {S : St} {s : Sto} (Q : Held B p w0 w i b T W n u v S s) (h : Below w.heap.size w w') : Held B p w0 w' i b T W n u v S s :=
  { Q with own := Q.own.later h, ru := row_thruB Q.ru (fun g hg => h.block g (Q.ru.lt g hg).2), rv := row_thruB Q.rv (fun g hg => h.block g (Q.rv.lt g hg).2) }

/-- A call that may turn the store alone. -/
theorem Held.step {B p i i' n : Nat} {w0 w w' : World} {b : Bool} {T : Int} {W : Nat → ByteArray × Bool} {u v : Value} {S S' : St} {s s' : Sto} (Q : Held B p w0 w i b T W n u v S s) (O : OwnP B p w0 w' S' s' 1) (St : Step w w' S S') (ht : S'.tot ≤ 3 * i') (hs : 0 ≤ s'.stamp ∧ s'.stamp ≤ i') (ha : s'.all = 10000)
    (no : b = false → s'.p = [] ∧ n = 0) (yes : b = true → s'.p = [T] ∧ T ≤ s'.stamp ∧ ∀ k, k < 5 → readP s' (letK k) T = W k) : Held B p w0 w' i' b T W n u v S' s' :=
  ⟨O, ht, hs, ha, row_thruB Q.ru (fun g hg => St.only.block g (Q.ru.lt g hg).2 (Q.uu g hg)), row_thruB Q.rv (fun g hg => St.only.block g (Q.rv.lt g hg).2 (Q.vv g hg)), fun g hg => St.unl (Q.ru.lt g hg).2 (Q.uu g hg), fun g hg => St.unl (Q.rv.lt g hg).2 (Q.vv g hg), Q.uv, no, yes⟩

theorem Held.pin {B p i : Nat} {w0 w : World} {T : Int} {W : Nat → ByteArray × Bool} {u v : Value} {S : St} {s : Sto} (Q : Held B p w0 w i false T W 0 u v S s) :
    Calls Try.prog 16 #[.pointer (some ⟨p, 0, none⟩)] w fun e w' => ∃ (T' : Int) (W' : Nat → ByteArray × Bool) (S' : St) (s' : Sto), e = .returned (.int .i64 T') ∧ Held B p w0 w' i true T' W' 0 u v S' s' := by
  obtain ⟨hp, _⟩ := Q.no rfl
  refine (pin_own (Q.own.none hp) (by omega)).mono ?_
  rintro e w' ⟨S', rfl, O', St, ht⟩
  refine ⟨s.stamp, fun k => readP s (letK k) s.stamp, S', pinP s, rfl, ⟨O', by rw [ht]; exact Q.tot, Q.stamp, Q.all, row_thruB Q.ru (fun g hg => St.only.block g (Q.ru.lt g hg).2 (Q.uu g hg)), row_thruB Q.rv (fun g hg => St.only.block g (Q.rv.lt g hg).2 (Q.vv g hg)), fun g hg => St.unl (Q.ru.lt g hg).2 (Q.uu g hg), fun g hg => St.unl (Q.rv.lt g hg).2 (Q.vv g hg), Q.uv, fun h => (by cases h), fun _ => ⟨?_, Int.le_refl _, fun k hk => rfl⟩⟩⟩
  show s.p ++ [s.stamp] = _
  rw [hp]
  rfl

theorem Held.read {B p i n : Nat} {w0 w : World} {T : Int} {W : Nat → ByteArray × Bool} {u v : Value} {S : St} {s : Sto} (Q : Held B p w0 w i true T W n u v S s) {k : Nat} (hk : k < 5) :
    Calls Try.prog 24 #[.pointer (some ⟨p, 0, none⟩), .string (letK k), .int .i64 T] w fun e w' => e = .returned (.tuple #[.string (W k).1, .bool (W k).2]) ∧ Below w.heap.size w w' := by
  have := read_own Q.own.own (letK k) T (by show (1 : Nat) ≤ _; unfold maxLen; omega)
  rw [(Q.yes rfl).2.2 k hk] at this
  exact this

theorem Held.commit {B p i n : Nat} {w0 w4 w5 : World} {b : Bool} {T : Int} {W : Nat → ByteArray × Bool} {u v : Value} {S : St} {s : Sto} (Q : Held B p w0 w4 i b T W n u v S s) (hi : i ≤ 50) {m : Nat} (hb5 : Below w4.heap.size w4 w5) {a : Value} (hu : w5.ownsRow w4.heap.size 54 3 a (writesP m).length (wrsCells (writesP m))) :
    Calls Try.prog 14 #[.pointer (some ⟨p, 0, none⟩), a] w5 fun e w' => (∃ r, e = .returned r) ∧ ∃ (S' : St) (s' : Sto), Held B p w0 w' (i + 1) b T W n u v S' s' := by
  have h1 := Q.tot
  have h2 := Q.stamp
  refine (commit_row Q.own hb5 hu (by omega) (by omega)).mono ?_
  rintro e w' ⟨S', rfl, O', St, ht⟩
  obtain ⟨c1, c2⟩ := commit_stamp s (writesP m)
  have hst : (commitP s (writesP m)).1.stamp ≤ s.stamp + 1 := by
    unfold commitP
    split
    · show s.stamp ≤ s.stamp + 1; omega
    · exact Int.le_refl _
  have hal : (commitP s (writesP m)).1.all = s.all := by
    unfold commitP
    split <;> rfl
  refine ⟨⟨_, rfl⟩, S', _, (Q.later hb5).step O' St (by omega) (by omega) (hal.trans Q.all) (fun h => by rw [c2]; exact Q.no h) (fun h => ?_)⟩
  obtain ⟨y1, y2, y3⟩ := Q.yes h
  exact ⟨by rw [c2]; exact y1, by omega, fun k hk => by rw [read_commit y2]; exact y3 k hk⟩

theorem Held.clean {B p i n : Nat} {w0 w : World} {b : Bool} {T : Int} {W : Nat → ByteArray × Bool} {u v : Value} {S : St} {s : Sto} (Q : Held B p w0 w i b T W n u v S s) :
    Calls Try.prog 21 #[.pointer (some ⟨p, 0, none⟩)] w fun e w' => (∃ r, e = .returned r) ∧ ∃ (S' : St) (s' : Sto), Held B p w0 w' i b T W n u v S' s' := by
  refine (clean_own Q.own).mono ?_
  rintro e w' ⟨S', rfl, O', St, ht⟩
  refine ⟨⟨_, rfl⟩, S', _, Q.step O' St (by rw [ht]; exact Q.tot) Q.stamp Q.all Q.no (fun h => ?_)⟩
  obtain ⟨y1, y2, y3⟩ := Q.yes h
  refine ⟨y1, y2, fun k hk => ?_⟩
  rw [read_keep _ Q.own.own.abs.rising]
  · exact y3 k hk
  · unfold lowP
    rw [y1]
    simp only [List.foldl_cons, List.foldl_nil]
    omega

theorem Held.up {B p i n : Nat} {w0 w : World} {b : Bool} {T : Int} {W : Nat → ByteArray × Bool} {u v : Value} {S : St} {s : Sto} (Q : Held B p w0 w i b T W n u v S s) : Held B p w0 w (i + 1) b T W n u v S s :=
  { Q with tot := (by have := Q.tot; omega), stamp := (by have := Q.stamp; omega) }

theorem Held.start {B p : Nat} {w0 w : World} {S : St} {s : Sto} (O : Own B p w0 w S s) (hs : s = ⟨10000, 0, [], []⟩) (hp : S.pins = []) (ht : S.tot = 0) : Held B p w0 w 0 false 0 (fun _ => (⟨#[]⟩, false)) 0 (.slice none 0 0) (.slice none 0 0) S s := by
  subst hs
  exact ⟨(O.fresh (n := 0) hp rfl).more (by omega), by omega, ⟨Int.le_refl _, Int.le_refl _⟩, rfl, World.ownsRow_nil _ _ _ _, World.ownsRow_nil _ _ _ _, fun g h => (by cases h), fun g h => (by cases h), fun g h => (by cases h), fun _ => ⟨rfl, rfl⟩, fun h => (by cases h)⟩

/-- One more of was, there. -/
theorem Held.grow {B p i n : Nat} {w0 w : World} {T : Int} {W : Nat → ByteArray × Bool} {u v : Value} {S : St} {s : Sto} (Q : Held B p w0 w i true T W n u v S s) (hn : n < 5) :
    ∃ g1 c1 w6 g2 c2 w7, (Builtin.append_ #[48, 48] 48 #[u, .slice (some ⟨w.heap.size, 0, none⟩) 1 1]).run Try.prog (w.alloc (.cells #[.string (W n).1] 9)) = .ok (.slice (some ⟨g1, 0, none⟩) (n + 1) c1) w6 ∧
      (Builtin.append_ #[49, 49] 49 #[v, .slice (some ⟨w6.heap.size, 0, none⟩) 1 1]).run Try.prog (w6.alloc (.cells #[.bool (W n).2] 4)) = .ok (.slice (some ⟨g2, 0, none⟩) (n + 1) c2) w7 ∧
      Held B p w0 w7 i true T W (n + 1) (.slice (some ⟨g1, 0, none⟩) (n + 1) c1) (.slice (some ⟨g2, 0, none⟩) (n + 1) c2) S s := by
  obtain ⟨g1, c1, w6, g2, c2, w7, r1, r2, R1, R2, hne, O, o1, o2⟩ := append_two Q.ru Q.rv Q.uv Q.own.own.size (by omega) (W n).1 (W n).2
  have hul : ∀ g, (u.ownBlock = some g ∨ w.heap.size ≤ g) → ¬ (S.lab g).isSome := fun g hg h => by
    rcases hg with hg | hg
    · exact Q.uu g hg h
    · have := Q.own.own.store.lt g h; omega
  have hvl : ∀ g, (v.ownBlock = some g ∨ w.heap.size ≤ g) → ¬ (S.lab g).isSome := fun g hg h => by
    rcases hg with hg | hg
    · exact Q.vv g hg h
    · have := Q.own.own.store.lt g h; omega
  have hF : ∀ b, (S.lab b).isSome → ¬ (u.ownBlock = some b ∨ v.ownBlock = some b) := fun b hb h => by
    rcases h with h | h
    · exact Q.uu b h hb
    · exact Q.vv b h hb
  have O' := Q.own.own
  have hOwn : Own B p w0 w7 S s := ⟨O'.ptr, O'.below.trans ⟨O.os, O.tape, O.output, O.size, fun k hk => O.block k (by have := O'.size; omega) (by
      rintro (h | h)
      · have := (Q.ru.lt k h).1; omega
      · have := (Q.rv.lt k h).1; omega)⟩, Nat.le_trans O'.size O.size, O'.store.only O hF, O'.good, O'.abs, O'.ge⟩
  refine ⟨g1, c1, w6, g2, c2, w7, r1, r2, ⟨⟨hOwn, Q.own.pin, Q.own.few⟩, Q.tot, Q.stamp, Q.all, by rw [rowW_snoc]; exact R1, by rw [rowB_snoc]; exact R2, fun g hg => ?_, fun g hg => ?_, fun g hg e => ?_, fun h => (by cases h), Q.yes⟩⟩
  · simp [Value.ownBlock] at hg; subst hg; exact hul _ o1
  · simp [Value.ownBlock] at hg; subst hg; exact hvl _ o2
  · simp [Value.ownBlock] at hg e
    exact hne (by omega)
end Go.Proofs.Ytcnajkclbmddgaa
