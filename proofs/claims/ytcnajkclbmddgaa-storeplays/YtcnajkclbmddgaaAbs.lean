/- The store in memory is the store in plain words. -/
import Derived.Test.YtcnajkclbmddgaaCommit
namespace Go.Proofs.Ytcnajkclbmddgaa
open Go.ChangeShapes Go.WideShapes Go.ChangeAt Go.RowKit
set_option linter.unusedVariables false
set_option linter.unusedSimpArgs false

theorem snoc_ind {α : Type} {P : List α → Prop} (h0 : P []) (h1 : ∀ l x, P l → P (l ++ [x])) (l : List α) : P l := by
  have : ∀ r : List α, P r.reverse := by
    intro r
    induction r with
    | nil => exact h0
    | cons x r ih => rw [List.reverse_cons]; exact h1 _ _ ih
  simpa using this l.reverse

def toVr (x : Ver) : Vr := ⟨x.at', if x.w.gone then ByteArray.empty else x.w.val, x.w.gone⟩
def vers (k : ByteArray) (v : List Ver) : List Vr := (v.filter fun x => decide (x.w.key = k)).map toVr

theorem vers_append (k : ByteArray) (a b : List Ver) : vers k (a ++ b) = vers k a ++ vers k b := by unfold vers; rw [List.filter_append, List.map_append]
theorem vers_one (k : ByteArray) (x : Ver) : vers k [x] = if x.w.key = k then [toVr x] else [] := by
  unfold vers
  by_cases h : x.w.key = k <;> simp [h]
theorem vers_mem {k : ByteArray} {v : List Ver} {y : Vr} (h : y ∈ vers k v) : ∃ x ∈ v, x.w.key = k ∧ y = toVr x := by
  unfold vers at h
  obtain ⟨x, hx, rfl⟩ := List.mem_map.1 h
  have := List.mem_filter.1 hx
  exact ⟨x, this.1, by simpa using this.2, rfl⟩

theorem rise_vers {k : ByteArray} {v : List Ver} (h : Rising v) : Rise (vers k v) := by
  unfold Rise vers
  rw [List.pairwise_map]
  exact List.Pairwise.filter _ h

theorem upTo_snoc (t : Int) (l : List Vr) (y : Vr) : upToP t (l ++ [y]) = upToP t l + if y.at' ≤ t then 1 else 0 := by
  unfold upToP
  rw [List.countP_append]
  congr 1
  by_cases h : y.at' ≤ t <;> simp [h]

theorem readL_snoc (t : Int) (l : List Vr) (y : Vr) (h : Rise (l ++ [y])) : readL t (l ++ [y]) = if y.at' ≤ t then (y.val, !y.gone) else readL t l := by
  have hle : ∀ x ∈ l, x.at' ≤ y.at' := fun x hx => (List.pairwise_append.1 h).2.2 x hx y (by simp)
  by_cases hy : y.at' ≤ t
  · rw [if_pos hy]
    have : upToP t l = l.length := by
      unfold upToP
      rw [List.countP_eq_length]
      intro x hx
      have := hle x hx
      simp; omega
    unfold readL
    rw [upTo_snoc, if_pos hy, this]
    simp
  · rw [if_neg hy]
    unfold readL
    rw [upTo_snoc, if_neg hy, Nat.add_zero]
    cases hu : upToP t l with
    | zero => rfl
    | succ k =>
      have := upTo_le t l
      simp only
      rw [List.getElem?_append_left (by omega)]

theorem read_vers (k : ByteArray) (t : Int) (v : List Ver) : Rising v → readL t (vers k v) = match lastP k t v with | some x => if x.w.gone then (ByteArray.empty, false) else (x.w.val, true) | none => (ByteArray.empty, false) := by
  refine snoc_ind (P := fun v => Rising v → readL t (vers k v) = match lastP k t v with | some x => if x.w.gone then (ByteArray.empty, false) else (x.w.val, true) | none => (ByteArray.empty, false)) (fun _ => rfl) ?_ v
  intro l x ih h
  have hl : Rising l := (List.pairwise_append.1 h).1
  rw [lastP_snoc, vers_append, vers_one]
  by_cases hk : x.w.key = k
  · rw [if_pos hk, readL_snoc _ _ _ (by have := rise_vers (k := k) h; rwa [vers_append, vers_one, if_pos hk] at this)]
    by_cases ht : x.at' ≤ t
    · rw [if_pos (show (toVr x).at' ≤ t from ht), if_pos (by simp [Ver.hit, hk, ht])]
      unfold toVr
      cases hg : x.w.gone <;> simp [hg]
    · rw [if_neg (show ¬ (toVr x).at' ≤ t from ht), if_neg (by simp [Ver.hit, hk, ht])]
      exact ih hl
  · rw [if_neg hk, List.append_nil, if_neg (by simp [Ver.hit, hk])]
    exact ih hl

theorem changed_vers (k : ByteArray) (t s : Int) (v : List Ver) : (∀ x ∈ v, x.at' ≤ s) → changedL t (vers k v) = match lastP k s v with | some x => decide (t < x.at') | none => false := by
  refine snoc_ind (P := fun v => (∀ x ∈ v, x.at' ≤ s) → changedL t (vers k v) = match lastP k s v with | some x => decide (t < x.at') | none => false) (fun _ => rfl) ?_ v
  intro l x ih h
  rw [lastP_snoc, vers_append, vers_one]
  have hs := h x (by simp)
  by_cases hk : x.w.key = k
  · rw [if_pos hk, if_pos (by simp [Ver.hit, hk, hs])]
    unfold changedL
    rw [List.getLast?_concat]
    rfl
  · rw [if_neg hk, List.append_nil, if_neg (by simp [Ver.hit, hk])]
    exact ih (fun y hy => h y (by simp [hy]))

structure Abs (S : St) (s : Sto) : Prop where
  all : S.lim = s.all
  stamp : S.now = s.stamp
  cnt : S.cnt = s.v.length
  live : ∀ k, S.live k = vers k s.v
  rising : Rising s.v
  le : ∀ x ∈ s.v, x.at' ≤ s.stamp
  size : ∀ x ∈ s.v, x.w.val.size ≤ 281474976710656
  tot : s.v.length ≤ S.tot
  nonneg : 0 ≤ s.stamp ∧ 0 ≤ s.all ∧ s.all ≤ 1000000

theorem Abs.read {S : St} {s : Sto} (H : Abs S s) (k : ByteArray) (t : Int) : readL t (S.live k) = readP s k t := by
  rw [H.live, read_vers k t s.v H.rising]
  unfold readP
  cases lastP k t s.v <;> rfl
theorem Abs.changed {S : St} {s : Sto} (H : Abs S s) (k : ByteArray) (t : Int) : changedL t (S.live k) = changedP s k t := by
  rw [H.live, changed_vers k t s.stamp s.v H.le]
  unfold changedP
  cases lastP k s.stamp s.v <;> rfl

theorem addL_vers (now : Int) (ws : List Wr) (k : ByteArray) : addL now ws k = vers k (ws.map fun w => ⟨w, now⟩) := by
  unfold addL vers
  rw [List.filter_map, List.map_map]
  rfl

theorem Abs.commit {S S' : St} {s : Sto} {ws : List Wr} (H : Abs S s) (D : Done S S' (S.now + 1) (S.cnt + ws.length) ws) (h : (ws.length : Int) ≤ S.lim - S.cnt) (hsz : ∀ x ∈ ws, x.val.size ≤ 281474976710656) : Abs S' (commitP s ws).1 ∧ (commitP s ws).2 = (S.now + 1, 0) := by
  have hroom : ¬ s.all < (s.v.length : Int) + (ws.length : Int) := by rw [← H.all, ← H.cnt]; omega
  have R := rising_commit (ws := ws) H.rising H.le
  unfold commitP at *
  rw [if_neg hroom] at *
  refine ⟨⟨D.lim.trans H.all, ?_, ?_, fun k => ?_, R.1, R.2, ?_, ?_, ?_⟩, ?_⟩
  · rw [D.now, H.stamp]
  · rw [D.cnt, H.cnt]; simp
  · rw [D.live, H.live, H.stamp, addL_vers]
    exact (vers_append _ _ _).symm
  · intro x hx
    rcases List.mem_append.1 hx with hx | hx
    · exact H.size x hx
    · obtain ⟨y, hy, rfl⟩ := List.mem_map.1 hx
      exact hsz y hy
  · have := H.tot
    rw [D.tot]
    simp
    omega
  · have := H.nonneg
    simp only
    omega
  · rw [H.stamp]

theorem Abs.full {S : St} {s : Sto} {ws : List Wr} (H : Abs S s) (h : S.lim - S.cnt < (ws.length : Int)) : commitP s ws = (s, 0, 13) := by
  unfold commitP
  rw [if_pos (by rw [← H.all, ← H.cnt]; omega)]

theorem Abs.new (p m : Nat) (lim : Int) (h : 0 ≤ lim ∧ lim ≤ 1000000) : Abs (St.new p m lim) ⟨lim, 0, [], []⟩ :=
  ⟨rfl, rfl, rfl, fun k => rfl, List.Pairwise.nil, fun x hx => (by cases hx), fun x hx => (by cases hx), Nat.zero_le _, ⟨Int.le_refl _, h.1, h.2⟩⟩
theorem Good.new (p m : Nat) (lim : Int) : Good (St.new p m lim) := ⟨fun k h e => (by cases e), List.nodup_nil, fun k h e => (by cases e), fun k _ h => (by cases h)⟩
end Go.Proofs.Ytcnajkclbmddgaa
