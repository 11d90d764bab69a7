/- The store of chapter 7 in plain words; what a piece of memory that is an object's own may turn. -/
import Derived.WalkKit
import Derived.ProofKit
import Derived.Below
namespace Go.Proofs.Ytcnajkclbmddgaa
open Go.ChangeShapes Go.WideShapes Go.ChangeAt Go.RowKit
set_option linter.unusedVariables false
set_option linter.unusedSimpArgs false

/-! ### The store -/
structure Wr where
  key : ByteArray
  val : ByteArray
  gone : Bool

structure Ver where
  w : Wr
  at' : Int

structure Sto where
  all : Int
  stamp : Int
  v : List Ver
  p : List Int

/-- Is it a version of that key, no newer than that stamp? -/
def Ver.hit (key : ByteArray) (t : Int) (x : Ver) : Bool := decide (x.w.key = key) && decide (x.at' ≤ t)

/-- A key's newest version, no newer than a stamp. -/
def lastP (key : ByteArray) (t : Int) : List Ver → Option Ver
  | [] => none
  | x :: l => match lastP key t l with
    | some y => some y
    | none => if x.hit key t then some x else none

def readP (s : Sto) (key : ByteArray) (t : Int) : ByteArray × Bool :=
  match lastP key t s.v with
  | some x => if x.w.gone then (ByteArray.empty, false) else (x.w.val, true)
  | none => (ByteArray.empty, false)

def changedP (s : Sto) (key : ByteArray) (since : Int) : Bool :=
  match lastP key s.stamp s.v with
  | some x => decide (since < x.at')
  | none => false

def commitP (s : Sto) (ws : List Wr) : Sto × Int × Int :=
  if s.all < (s.v.length : Int) + (ws.length : Int) then (s, 0, 13) else ({ s with stamp := s.stamp + 1, v := s.v ++ ws.map fun w => ⟨w, s.stamp + 1⟩ }, s.stamp + 1, 0)

def pinP (s : Sto) : Sto := { s with p := s.p ++ [s.stamp] }
def unpinP (s : Sto) (t : Int) : Sto := { s with p := s.p.erase t }
def lowP (s : Sto) : Int := s.p.foldl min s.stamp

/-- What stays of versions, cleaned below low. -/
def keepP (low : Int) : List Ver → List Ver
  | [] => []
  | x :: l => if low < x.at' ∨ (lastP x.w.key low l = none ∧ x.w.gone = false) then x :: keepP low l else keepP low l

def cleanP (s : Sto) : Sto × Int := ({ s with v := keepP (lowP s) s.v }, (s.v.length : Int) - ((keepP (lowP s) s.v).length : Int))

theorem lastP_snoc (key : ByteArray) (t : Int) (x : Ver) : ∀ l, lastP key t (l ++ [x]) = if x.hit key t then some x else lastP key t l
  | [] => by simp [lastP]
  | y :: l => by
    simp only [List.cons_append, lastP, lastP_snoc key t x l]
    cases h : Ver.hit key t x <;> simp

theorem lastP_some {key : ByteArray} {t : Int} : ∀ {l : List Ver} {x : Ver}, lastP key t l = some x → x ∈ l ∧ x.hit key t = true
  | [], x, h => by simp [lastP] at h
  | y :: l, x, h => by
    unfold lastP at h
    split at h
    · rename_i z hz
      cases h
      have := lastP_some hz
      exact ⟨List.mem_cons_of_mem _ this.1, this.2⟩
    · split at h
      · cases h
        rename_i hh
        exact ⟨by simp, hh⟩
      · cases h

theorem lastP_none {key : ByteArray} {t : Int} : ∀ {l : List Ver}, lastP key t l = none → ∀ x ∈ l, x.hit key t = false
  | [], _, x, hx => by simp at hx
  | y :: l, h, x, hx => by
    unfold lastP at h
    split at h
    · cases h
    · rename_i hn
      split at h
      · cases h
      · rename_i hh
        rcases List.mem_cons.1 hx with rfl | hx
        · simpa using hh
        · exact lastP_none hn x hx

theorem keepP_len (low : Int) : ∀ l, (keepP low l).length ≤ l.length
  | [] => by simp [keepP]
  | x :: l => by
    have := keepP_len low l
    unfold keepP
    split
    · simp; exact this
    · simp; omega

/-- A hit of the kept ones is one of all. -/
theorem keepP_mem {low : Int} : ∀ {l : List Ver} {x : Ver}, x ∈ keepP low l → x ∈ l
  | [], x, h => by simp [keepP] at h
  | y :: l, x, h => by
    unfold keepP at h
    split at h
    · rcases List.mem_cons.1 h with rfl | h
      · simp
      · exact List.mem_cons_of_mem _ (keepP_mem h)
    · exact List.mem_cons_of_mem _ (keepP_mem h)

theorem hit_mono {key : ByteArray} {a b : Int} (h : a ≤ b) {x : Ver} (hx : x.hit key a = true) : x.hit key b = true := by
  unfold Ver.hit at *
  simp only [Bool.and_eq_true, decide_eq_true_eq] at *
  exact ⟨hx.1, by omega⟩

theorem last_none_mono {key : ByteArray} {a b : Int} (h : a ≤ b) {l : List Ver} (hl : lastP key b l = none) : lastP key a l = none := by
  cases ha : lastP key a l with
  | none => rfl
  | some x =>
    obtain ⟨hm, hx⟩ := lastP_some ha
    have := lastP_none hl x hm
    rw [hit_mono h hx] at this
    cases this

/-- Stamps do not fall. -/
def Rising (l : List Ver) : Prop := l.Pairwise fun a b => a.at' ≤ b.at'

/-- What may still be read behind Clean is what it was. -/
theorem last_keep {low t : Int} (h : low ≤ t) (key : ByteArray) : ∀ l : List Ver, Rising l →
    lastP key t (keepP low l) = lastP key t l ∨ (lastP key t (keepP low l) = none ∧ ∃ x, lastP key t l = some x ∧ x.w.gone = true ∧ x.at' ≤ low)
  | [], _ => .inl rfl
  | y :: l, hs => by
    have hs' := List.pairwise_cons.1 hs
    have ih := last_keep h key l hs'.2
    cases hl : lastP key t l with
    | some x =>
      have e : lastP key t (y :: l) = some x := by simp [lastP, hl]
      rw [e]
      rw [hl] at ih
      rcases ih with ih | ⟨ih, z, hz, hg, ha⟩
      · left
        unfold keepP
        split
        · simp [lastP, ih]
        · exact ih
      · obtain rfl : x = z := Option.some.inj hz
        right
        refine ⟨?_, x, rfl, hg, ha⟩
        obtain ⟨hm, hh⟩ := lastP_some hl
        have hyx := hs'.1 x hm
        unfold keepP
        split
        · rename_i hk
          simp only [lastP, ih]
          rw [if_neg]
          intro hy
          have hyk : y.w.key = key := by unfold Ver.hit at hy; simp only [Bool.and_eq_true, decide_eq_true_eq] at hy; exact hy.1
          have hzk : x.w.key = key := by unfold Ver.hit at hh; simp only [Bool.and_eq_true, decide_eq_true_eq] at hh; exact hh.1
          rcases hk with hk | ⟨hk, _⟩
          · omega
          · have := lastP_none hk x hm
            unfold Ver.hit at this
            simp only [Bool.and_eq_false_iff, decide_eq_false_iff_not] at this
            rw [hyk] at this
            rcases this with h1 | h1
            · exact h1 hzk
            · exact h1 ha
        · exact ih
    | none =>
      rw [hl] at ih
      have ih : lastP key t (keepP low l) = none := by
        rcases ih with ih | ⟨ih, _⟩ <;> exact ih
      have e : lastP key t (y :: l) = if y.hit key t then some y else none := by simp [lastP, hl]
      rw [e]
      cases hy : y.hit key t with
      | false =>
        left
        unfold keepP
        split
        · simp [lastP, ih, hy]
        · simp [ih]
      | true =>
        have hyk : y.w.key = key := by unfold Ver.hit at hy; simp only [Bool.and_eq_true, decide_eq_true_eq] at hy; exact hy.1
        unfold keepP
        split
        · left
          simp [lastP, ih, hy]
        · rename_i hk
          right
          refine ⟨ih, y, rfl, ?_, ?_⟩
          · cases hg : y.w.gone with
            | true => rfl
            | false => exact absurd (.inr ⟨by rw [hyk]; exact last_none_mono h hl, hg⟩) hk
          · by_cases hlt : low < y.at'
            · exact absurd (.inl hlt) hk
            · omega

theorem read_keep {s : Sto} {t : Int} (h : lowP s ≤ t) (hs : Rising s.v) (key : ByteArray) : readP (cleanP s).1 key t = readP s key t := by
  unfold readP cleanP
  simp only
  rcases last_keep h key s.v hs with e | ⟨e, x, hx, hg, _⟩
  · rw [e]
  · rw [e, hx]
    simp [hg]

theorem last_append {key : ByteArray} {t : Int} : ∀ (l m : List Ver), (∀ x ∈ m, x.hit key t = false) → lastP key t (l ++ m) = lastP key t l
  | [], m, h => by
    cases hm : lastP key t m with
    | none => simp [lastP, hm]
    | some x =>
      obtain ⟨h1, h2⟩ := lastP_some hm
      rw [h x h1] at h2
      cases h2
  | y :: l, m, h => by simp [lastP, last_append l m h]

/-- A commit does not touch what was. -/
theorem read_commit {s : Sto} {ws : List Wr} {t : Int} (h : t ≤ s.stamp) (key : ByteArray) : readP (commitP s ws).1 key t = readP s key t := by
  unfold commitP
  split
  · rfl
  · unfold readP
    simp only
    rw [last_append]
    intro x hx
    obtain ⟨w, _, rfl⟩ := List.mem_map.1 hx
    unfold Ver.hit
    simp
    intro _
    omega

theorem rising_commit {s : Sto} {ws : List Wr} (hs : Rising s.v) (hm : ∀ x ∈ s.v, x.at' ≤ s.stamp) : Rising (commitP s ws).1.v ∧ ∀ x ∈ (commitP s ws).1.v, x.at' ≤ (commitP s ws).1.stamp := by
  unfold commitP
  split
  · exact ⟨hs, hm⟩
  · simp only
    refine ⟨?_, ?_⟩
    · unfold Rising
      rw [List.pairwise_append]
      refine ⟨hs, ?_, ?_⟩
      · rw [List.pairwise_map]
        exact List.pairwise_of_forall (fun _ _ => Int.le_refl _)
      · intro a ha b hb
        obtain ⟨w, _, rfl⟩ := List.mem_map.1 hb
        have := hm a ha
        simp only
        omega
    · intro x hx
      rcases List.mem_append.1 hx with hx | hx
      · have := hm x hx; omega
      · obtain ⟨w, _, rfl⟩ := List.mem_map.1 hx
        exact Int.le_refl _

theorem rising_keep {low : Int} : ∀ {l : List Ver}, Rising l → Rising (keepP low l)
  | [], _ => by simp [keepP, Rising]
  | y :: l, hs => by
    have hs' := List.pairwise_cons.1 hs
    have ih := rising_keep (low := low) hs'.2
    unfold keepP
    split
    · exact List.pairwise_cons.2 ⟨fun x hx => hs'.1 x (keepP_mem hx), ih⟩
    · exact ih

/-! ### Memory that is an object's own -/
/-- Behind the step only blocks of F, and new ones, may be other. -/
structure Only (F : Nat → Prop) (w w' : World) : Prop where
  os : w'.os = w.os
  tape : w'.tape = w.tape
  output : w'.output = w.output
  size : w.heap.size ≤ w'.heap.size
  block : ∀ k, k < w.heap.size → ¬ F k → w'.heap[k]? = w.heap[k]?

theorem Only.refl (F : Nat → Prop) (w : World) : Only F w w := ⟨rfl, rfl, rfl, Nat.le_refl _, fun _ _ _ => rfl⟩
theorem Only.trans {F G : Nat → Prop} {a b c : World} (h : Only F a b) (k : Only G b c) (hG : ∀ i, i < a.heap.size → G i → F i) : Only F a c :=
  ⟨k.os.trans h.os, k.tape.trans h.tape, k.output.trans h.output, Nat.le_trans h.size k.size, fun i hi hn => (k.block i (Nat.lt_of_lt_of_le hi h.size) (fun hg => hn (hG i hi hg))).trans (h.block i hi hn)⟩
theorem Only.mono {F G : Nat → Prop} {a b : World} (h : Only F a b) (hFG : ∀ i, i < a.heap.size → F i → G i) : Only G a b := ⟨h.os, h.tape, h.output, h.size, fun i hi hn => h.block i hi (fun hf => hn (hFG i hi hf))⟩
theorem Only.of_below {B : Nat} {w w' : World} (h : Below B w w') : Only (fun k => B ≤ k) w w' := ⟨h.os, h.tape, h.output, h.size, fun k _ hn => h.block k (by omega)⟩
theorem Only.below {F : Nat → Prop} {B : Nat} {w w' : World} (h : Only F w w') (hB : B ≤ w.heap.size) (hF : ∀ k, F k → B ≤ k) : Below B w w' := ⟨h.os, h.tape, h.output, h.size, fun k hk => h.block k (by omega) (fun hf => by have := hF k hf; omega)⟩
end Go.Proofs.Ytcnajkclbmddgaa
