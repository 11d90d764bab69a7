/- The store of chapter 7 in plain words; what a piece of memory that is an object's own may turn.
   The reference's own way through a store's versions: by places.
   Memory: blocks of cells, a map of pointers, versions in a row.
   A map from keys to blocks.
   A key's history in memory; what only looks at it.
   What only looks at a history.
   A search among a history's versions.
   What a history tells: how many are no newer, whether it waits, its newest, its next.
   A history read, made longer.
   The heap of histories that wait: one against another, two exchanged.
   Two of a heap exchanged.
   Heaps, in plain words.
   Which function a heap's methods are. -/
import Derived.WalkKit
import Derived.ProofKit
import Derived.Below
import Derived.Test.YtlncljfljjaacaaGreatDoorProg
import Derived.OpenShut
import Derived.Maps.OwnSet
import Derived.Laws.OwnMore
import Derived.BigRegion
import Derived.BigQuiet
import Derived.Deep.AppendLies
import Derived.Deep.LoopGhost
import Derived.Test.YtlncljfljjaacaaGreatDoorEShelf
import Derived.Lib.QuietBelow
import Derived.Deep.RegionLaw
namespace Go.Proofs.YtlncljfljjaacaaGreatDoor
open Go.ChangeShapes Go.WideShapes Go.ChangeAt Go.RowKit
set_option linter.unusedVariables false
set_option linter.unusedSimpArgs false

/-! ### The store -/
structure Wr where
  key : ByteArray
  val : ByteArray
  gone : Bool

structure Ver where
  w : Wr
  at' : Int

structure Sto where
  all : Int
  stamp : Int
  v : List Ver
  p : List Int

/-- Is it a version of that key, no newer than that stamp? -/
def Ver.hit (key : ByteArray) (t : Int) (x : Ver) : Bool := decide (x.w.key = key) && decide (x.at' ≤ t)

/-- A key's newest version, no newer than a stamp. -/
def lastP (key : ByteArray) (t : Int) : List Ver → Option Ver
  | [] => none
  | x :: l => match lastP key t l with
    | some y => some y
    | none => if x.hit key t then some x else none

def readP (s : Sto) (key : ByteArray) (t : Int) : ByteArray × Bool :=
  match lastP key t s.v with
  | some x => if x.w.gone then (ByteArray.empty, false) else (x.w.val, true)
  | none => (ByteArray.empty, false)

def changedP (s : Sto) (key : ByteArray) (since : Int) : Bool :=
  match lastP key s.stamp s.v with
  | some x => decide (since < x.at')
  | none => false

def commitP (s : Sto) (ws : List Wr) : Sto × Int × Int :=
  if s.all < (s.v.length : Int) + (ws.length : Int) then (s, 0, 13) else ({ s with stamp := s.stamp + 1, v := s.v ++ ws.map fun w => ⟨w, s.stamp + 1⟩ }, s.stamp + 1, 0)

def pinP (s : Sto) : Sto := { s with p := s.p ++ [s.stamp] }
def unpinP (s : Sto) (t : Int) : Sto := { s with p := s.p.erase t }
def lowP (s : Sto) : Int := s.p.foldl min s.stamp

/-- What stays of versions, cleaned below low. -/
def keepP (low : Int) : List Ver → List Ver
  | [] => []
  | x :: l => if low < x.at' ∨ (lastP x.w.key low l = none ∧ x.w.gone = false) then x :: keepP low l else keepP low l

def cleanP (s : Sto) : Sto × Int := ({ s with v := keepP (lowP s) s.v }, (s.v.length : Int) - ((keepP (lowP s) s.v).length : Int))

theorem lastP_snoc (key : ByteArray) (t : Int) (x : Ver) : ∀ l, lastP key t (l ++ [x]) = if x.hit key t then some x else lastP key t l
  | [] => by simp [lastP]
  | y :: l => by
    simp only [List.cons_append, lastP, lastP_snoc key t x l]
    cases h : Ver.hit key t x <;> simp

theorem lastP_some {key : ByteArray} {t : Int} : ∀ {l : List Ver} {x : Ver}, lastP key t l = some x → x ∈ l ∧ x.hit key t = true
  | [], x, h => by simp [lastP] at h
  | y :: l, x, h => by
    unfold lastP at h
    split at h
    · rename_i z hz
      cases h
      have := lastP_some hz
      exact ⟨List.mem_cons_of_mem _ this.1, this.2⟩
    · split at h
      · cases h
        rename_i hh
        exact ⟨by simp, hh⟩
      · cases h

theorem lastP_none {key : ByteArray} {t : Int} : ∀ {l : List Ver}, lastP key t l = none → ∀ x ∈ l, x.hit key t = false
  | [], _, x, hx => by simp at hx
  | y :: l, h, x, hx => by
    unfold lastP at h
    split at h
    · cases h
    · rename_i hn
      split at h
      · cases h
      · rename_i hh
        rcases List.mem_cons.1 hx with rfl | hx
        · simpa using hh
        · exact lastP_none hn x hx

theorem keepP_len (low : Int) : ∀ l, (keepP low l).length ≤ l.length
  | [] => by simp [keepP]
  | x :: l => by
    have := keepP_len low l
    unfold keepP
    split
    · simp; exact this
    · simp; omega

/-- A hit of the kept ones is one of all. -/
theorem keepP_mem {low : Int} : ∀ {l : List Ver} {x : Ver}, x ∈ keepP low l → x ∈ l
  | [], x, h => by simp [keepP] at h
  | y :: l, x, h => by
    unfold keepP at h
    split at h
    · rcases List.mem_cons.1 h with rfl | h
      · simp
      · exact List.mem_cons_of_mem _ (keepP_mem h)
    · exact List.mem_cons_of_mem _ (keepP_mem h)

theorem hit_mono {key : ByteArray} {a b : Int} (h : a ≤ b) {x : Ver} (hx : x.hit key a = true) : x.hit key b = true := by
  unfold Ver.hit at *
  simp only [Bool.and_eq_true, decide_eq_true_eq] at *
  exact ⟨hx.1, by omega⟩

theorem last_none_mono {key : ByteArray} {a b : Int} (h : a ≤ b) {l : List Ver} (hl : lastP key b l = none) : lastP key a l = none := by
  cases ha : lastP key a l with
  | none => rfl
  | some x =>
    obtain ⟨hm, hx⟩ := lastP_some ha
    have := lastP_none hl x hm
    rw [hit_mono h hx] at this
    cases this

/-- Stamps do not fall. -/
def Rising (l : List Ver) : Prop := l.Pairwise fun a b => a.at' ≤ b.at'

/-- What may still be read behind Clean is what it was. -/
theorem last_keep {low t : Int} (h : low ≤ t) (key : ByteArray) : ∀ l : List Ver, Rising l →
    lastP key t (keepP low l) = lastP key t l ∨ (lastP key t (keepP low l) = none ∧ ∃ x, lastP key t l = some x ∧ x.w.gone = true ∧ x.at' ≤ low)
  | [], _ => .inl rfl
  | y :: l, hs => by
    have hs' := List.pairwise_cons.1 hs
    have ih := last_keep h key l hs'.2
    cases hl : lastP key t l with
    | some x =>
      have e : lastP key t (y :: l) = some x := by simp [lastP, hl]
      rw [e]
      rw [hl] at ih
      rcases ih with ih | ⟨ih, z, hz, hg, ha⟩
      · left
        unfold keepP
        split
        · simp [lastP, ih]
        · exact ih
      · obtain rfl : x = z := Option.some.inj hz
        right
        refine ⟨?_, x, rfl, hg, ha⟩
        obtain ⟨hm, hh⟩ := lastP_some hl
        have hyx := hs'.1 x hm
        unfold keepP
        split
        · rename_i hk
          simp only [lastP, ih]
          rw [if_neg]
          intro hy
          have hyk : y.w.key = key := by unfold Ver.hit at hy; simp only [Bool.and_eq_true, decide_eq_true_eq] at hy; exact hy.1
          have hzk : x.w.key = key := by unfold Ver.hit at hh; simp only [Bool.and_eq_true, decide_eq_true_eq] at hh; exact hh.1
          rcases hk with hk | ⟨hk, _⟩
          · omega
          · have := lastP_none hk x hm
            unfold Ver.hit at this
            simp only [Bool.and_eq_false_iff, decide_eq_false_iff_not] at this
            rw [hyk] at this
            rcases this with h1 | h1
            · exact h1 hzk
            · exact h1 ha
        · exact ih
    | none =>
      rw [hl] at ih
      have ih : lastP key t (keepP low l) = none := by
        rcases ih with ih | ⟨ih, _⟩ <;> exact ih
      have e : lastP key t (y :: l) = if y.hit key t then some y else none := by simp [lastP, hl]
      rw [e]
      cases hy : y.hit key t with
      | false =>
        left
        unfold keepP
        split
        · simp [lastP, ih, hy]
        · simp [ih]
      | true =>
        have hyk : y.w.key = key := by unfold Ver.hit at hy; simp only [Bool.and_eq_true, decide_eq_true_eq] at hy; exact hy.1
        unfold keepP
        split
        · left
          simp [lastP, ih, hy]
        · rename_i hk
          right
          refine ⟨ih, y, rfl, ?_, ?_⟩
          · cases hg : y.w.gone with
            | true => rfl
            | false => exact absurd (.inr ⟨by rw [hyk]; exact last_none_mono h hl, hg⟩) hk
          · by_cases hlt : low < y.at'
            · exact absurd (.inl hlt) hk
            · omega

theorem read_keep {s : Sto} {t : Int} (h : lowP s ≤ t) (hs : Rising s.v) (key : ByteArray) : readP (cleanP s).1 key t = readP s key t := by
  unfold readP cleanP
  simp only
  rcases last_keep h key s.v hs with e | ⟨e, x, hx, hg, _⟩
  · rw [e]
  · rw [e, hx]
    simp [hg]

theorem last_append {key : ByteArray} {t : Int} : ∀ (l m : List Ver), (∀ x ∈ m, x.hit key t = false) → lastP key t (l ++ m) = lastP key t l
  | [], m, h => by
    cases hm : lastP key t m with
    | none => simp [lastP, hm]
    | some x =>
      obtain ⟨h1, h2⟩ := lastP_some hm
      rw [h x h1] at h2
      cases h2
  | y :: l, m, h => by simp [lastP, last_append l m h]

/-- A commit does not touch what was. -/
theorem read_commit {s : Sto} {ws : List Wr} {t : Int} (h : t ≤ s.stamp) (key : ByteArray) : readP (commitP s ws).1 key t = readP s key t := by
  unfold commitP
  split
  · rfl
  · unfold readP
    simp only
    rw [last_append]
    intro x hx
    obtain ⟨w, _, rfl⟩ := List.mem_map.1 hx
    unfold Ver.hit
    simp
    intro _
    omega

theorem rising_commit {s : Sto} {ws : List Wr} (hs : Rising s.v) (hm : ∀ x ∈ s.v, x.at' ≤ s.stamp) : Rising (commitP s ws).1.v ∧ ∀ x ∈ (commitP s ws).1.v, x.at' ≤ (commitP s ws).1.stamp := by
  unfold commitP
  split
  · exact ⟨hs, hm⟩
  · simp only
    refine ⟨?_, ?_⟩
    · unfold Rising
      rw [List.pairwise_append]
      refine ⟨hs, ?_, ?_⟩
      · rw [List.pairwise_map]
        exact List.pairwise_of_forall (fun _ _ => Int.le_refl _)
      · intro a ha b hb
        obtain ⟨w, _, rfl⟩ := List.mem_map.1 hb
        have := hm a ha
        simp only
        omega
    · intro x hx
      rcases List.mem_append.1 hx with hx | hx
      · have := hm x hx; omega
      · obtain ⟨w, _, rfl⟩ := List.mem_map.1 hx
        exact Int.le_refl _

theorem rising_keep {low : Int} : ∀ {l : List Ver}, Rising l → Rising (keepP low l)
  | [], _ => by simp [keepP, Rising]
  | y :: l, hs => by
    have hs' := List.pairwise_cons.1 hs
    have ih := rising_keep (low := low) hs'.2
    unfold keepP
    split
    · exact List.pairwise_cons.2 ⟨fun x hx => hs'.1 x (keepP_mem hx), ih⟩
    · exact ih

/-! ### Memory that is an object's own -/
/-- Behind the step only blocks of F, and new ones, may be other. -/
structure Only (F : Nat → Prop) (w w' : World) : Prop where
  os : w'.os = w.os
  tape : w'.tape = w.tape
  output : w'.output = w.output
  size : w.heap.size ≤ w'.heap.size
  block : ∀ k, k < w.heap.size → ¬ F k → w'.heap[k]? = w.heap[k]?

theorem Only.refl (F : Nat → Prop) (w : World) : Only F w w := ⟨rfl, rfl, rfl, Nat.le_refl _, fun _ _ _ => rfl⟩
theorem Only.trans {F G : Nat → Prop} {a b c : World} (h : Only F a b) (k : Only G b c) (hG : ∀ i, i < a.heap.size → G i → F i) : Only F a c :=
  ⟨k.os.trans h.os, k.tape.trans h.tape, k.output.trans h.output, Nat.le_trans h.size k.size, fun i hi hn => (k.block i (Nat.lt_of_lt_of_le hi h.size) (fun hg => hn (hG i hi hg))).trans (h.block i hi hn)⟩
theorem Only.mono {F G : Nat → Prop} {a b : World} (h : Only F a b) (hFG : ∀ i, i < a.heap.size → F i → G i) : Only G a b := ⟨h.os, h.tape, h.output, h.size, fun i hi hn => h.block i hi (fun hf => hn (hFG i hi hf))⟩
theorem Only.of_below {B : Nat} {w w' : World} (h : Below B w w') : Only (fun k => B ≤ k) w w' := ⟨h.os, h.tape, h.output, h.size, fun k _ hn => h.block k (by omega)⟩
theorem Only.below {F : Nat → Prop} {B : Nat} {w w' : World} (h : Only F w w') (hB : B ≤ w.heap.size) (hF : ∀ k, F k → B ≤ k) : Below B w w' := ⟨h.os, h.tape, h.output, h.size, fun k hk => h.block k (by omega) (fun hf => by have := hF k hf; omega)⟩
end Go.Proofs.YtlncljfljjaacaaGreatDoor

namespace Go.Proofs.YtlncljfljjaacaaGreatDoor
set_option linter.unusedVariables false
set_option linter.unusedSimpArgs false

/-- The place of the newest hit among the first i; -1: none. -/
def bestP (key : ByteArray) (t : Int) (l : List Ver) : Nat → Int
  | 0 => -1
  | i + 1 => if (l[i]?.any fun x => x.hit key t) then (i : Int) else bestP key t l i

theorem best_last (key : ByteArray) (t : Int) (l : List Ver) : ∀ i, i ≤ l.length →
    (bestP key t l i = -1 ∧ lastP key t (l.take i) = none) ∨ ∃ (k : Nat) (x : Ver), k < i ∧ bestP key t l i = (k : Int) ∧ l[k]? = some x ∧ lastP key t (l.take i) = some x
  | 0, _ => .inl ⟨rfl, by simp [lastP]⟩
  | i + 1, h => by
    obtain ⟨x, hx⟩ : ∃ x, l[i]? = some x := ⟨_, List.getElem?_eq_getElem (by omega)⟩
    have ht : l.take (i + 1) = l.take i ++ [x] := by rw [List.take_add_one, hx]; rfl
    rw [ht, lastP_snoc]
    unfold bestP
    rw [hx]
    cases hh : x.hit key t with
    | true =>
      refine .inr ⟨i, x, by omega, ?_, hx, ?_⟩
      · simp [hh]
      · simp
    | false =>
      have ih := best_last key t l i (by omega)
      simp only [Option.any_some, hh, Bool.false_eq_true, if_false]
      rcases ih with ih | ⟨k, y, h1, h2, h3, h4⟩
      · exact .inl ih
      · exact .inr ⟨k, y, by omega, h2, h3, h4⟩

/-- Of all: the newest hit's place, or none. -/
theorem best_all (key : ByteArray) (t : Int) (l : List Ver) :
    (bestP key t l l.length = -1 ∧ lastP key t l = none) ∨ ∃ (k : Nat) (x : Ver), k < l.length ∧ bestP key t l l.length = (k : Int) ∧ l[k]? = some x ∧ lastP key t l = some x := by
  have := best_last key t l l.length (Nat.le_refl _)
  rwa [List.take_length] at this

theorem best_step {key : ByteArray} {t : Int} {l : List Ver} {i : Nat} {x : Ver} (hx : l[i]? = some x) : bestP key t l (i + 1) = if x.hit key t then (i : Int) else bestP key t l i := by
  show (if (l[i]?.any fun x => x.hit key t) then (i : Int) else bestP key t l i) = _
  rw [hx]
  rfl

theorem best_lt (key : ByteArray) (t : Int) (l : List Ver) : ∀ i, bestP key t l i < (i : Int)
  | 0 => by simp [bestP]
  | i + 1 => by
    have := best_lt key t l i
    unfold bestP
    split <;> omega

/-- From a hit on no other one comes: it is the newest. -/
theorem best_at {key : ByteArray} {t : Int} {l : List Ver} {i : Nat} {x : Ver} (hx : l[i]? = some x) : ∀ m, i + 1 ≤ m → m ≤ l.length →
    (bestP key t l m = (i : Int) ↔ x.hit key t = true ∧ lastP key t ((l.take m).drop (i + 1)) = none)
  | 0, h, _ => by omega
  | m + 1, h, hm => by
    obtain ⟨y, hy⟩ : ∃ y, l[m]? = some y := ⟨_, List.getElem?_eq_getElem (by omega)⟩
    by_cases e : i = m
    · subst e
      rw [hx] at hy
      cases hy
      have hd : (l.take (i + 1)).drop (i + 1) = [] := List.drop_eq_nil_of_le (by rw [List.length_take]; omega)
      rw [hd, best_step hx]
      have := best_lt key t l i
      cases hh : x.hit key t with
      | true => simp [lastP]
      | false =>
        simp only [Bool.false_eq_true, if_false, false_and, iff_false]
        omega
    · have ih := best_at hx (key := key) (t := t) m (by omega) (by omega)
      have ht : (l.take (m + 1)).drop (i + 1) = (l.take m).drop (i + 1) ++ [y] := by
        rw [List.take_add_one, hy, List.drop_append_of_le_length (by rw [List.length_take]; omega)]
        rfl
      rw [ht, lastP_snoc, best_step hy]
      cases hh : y.hit key t with
      | true =>
        simp only [if_true]
        constructor
        · intro h; exact absurd (Int.ofNat.inj h).symm e
        · rintro ⟨_, h⟩; cases h
      | false => simpa using ih

theorem best_here {l : List Ver} {i : Nat} {x : Ver} {low : Int} (hx : l[i]? = some x) (hl : i < l.length) : bestP x.w.key low l l.length = (i : Int) ↔ x.at' ≤ low ∧ lastP x.w.key low (l.drop (i + 1)) = none := by
  have := best_at (key := x.w.key) (t := low) hx l.length (by omega) (Nat.le_refl _)
  rw [List.take_length] at this
  rw [this]
  unfold Ver.hit
  simp

/-- Does the version at place i stay? -/
def stays (low : Int) (l : List Ver) (i : Nat) (x : Ver) : Bool := decide (low < x.at') || (decide (bestP x.w.key low l l.length = (i : Int)) && !x.w.gone)

/-- What was kept of the first i. -/
def keepI (low : Int) (l : List Ver) : Nat → List Ver
  | 0 => []
  | i + 1 => keepI low l i ++ (match l[i]? with | some x => if stays low l i x then [x] else [] | none => [])

theorem keepI_step {low : Int} {l : List Ver} {i : Nat} {x : Ver} (hx : l[i]? = some x) : keepI low l (i + 1) = keepI low l i ++ if stays low l i x then [x] else [] := by
  show keepI low l i ++ (match l[i]? with | some x => if stays low l i x then [x] else [] | none => []) = _
  rw [hx]

theorem keepP_cons (low : Int) (x : Ver) (l : List Ver) : keepP low (x :: l) = if low < x.at' ∨ (lastP x.w.key low l = none ∧ x.w.gone = false) then x :: keepP low l else keepP low l := rfl

theorem keepI_keepP (low : Int) (l : List Ver) : ∀ i, i ≤ l.length → keepI low l i ++ keepP low (l.drop i) = keepP low l
  | 0, _ => by simp [keepI]
  | i + 1, h => by
    have ih := keepI_keepP low l i (by omega)
    obtain ⟨x, hx⟩ : ∃ x, l[i]? = some x := ⟨_, List.getElem?_eq_getElem (by omega)⟩
    obtain ⟨h1, h2⟩ := List.getElem?_eq_some_iff.1 hx
    rw [← ih, keepI_step hx, List.drop_eq_getElem_cons h1, h2, List.append_assoc]
    congr 1
    have hb := best_here (low := low) hx h1
    show _ = keepP low (x :: l.drop (i + 1))
    have e : stays low l i x = decide (low < x.at' ∨ (lastP x.w.key low (l.drop (i + 1)) = none ∧ x.w.gone = false)) := by
      unfold stays
      by_cases hlt : low < x.at'
      · simp [hlt]
      · have hle : x.at' ≤ low := by omega
        rw [decide_eq_false hlt, Bool.false_or]
        have hb2 : bestP x.w.key low l l.length = (i : Int) ↔ lastP x.w.key low (l.drop (i + 1)) = none := by rw [hb]; simp [hle]
        by_cases hn : lastP x.w.key low (l.drop (i + 1)) = none
        · simp [hb2, hn, hlt]
        · simp [hb2, hn, hlt]
    rw [e, keepP_cons]
    by_cases hk : low < x.at' ∨ (lastP x.w.key low (l.drop (i + 1)) = none ∧ x.w.gone = false)
    · rw [if_pos hk, if_pos (decide_eq_true hk)]
      rfl
    · rw [if_neg hk, if_neg (by simpa using hk)]
      rfl

theorem keepI_all (low : Int) (l : List Ver) : keepI low l l.length = keepP low l := by
  have := keepI_keepP low l l.length (Nat.le_refl _)
  rwa [List.drop_length, keepP, List.append_nil] at this
end Go.Proofs.YtlncljfljjaacaaGreatDoor

namespace Go.Proofs.YtlncljfljjaacaaGreatDoor
open Go.ChangeShapes Go.WideShapes Go.ChangeAt Go.RowKit
set_option linter.unusedVariables false
set_option linter.unusedSimpArgs false

/-! ### A block of cells -/
def Blk (w : World) (b : Nat) (cs : Array Value) (t : TypeId) : Prop := w.heap[b]? = some (.cells cs t (0, 0))

theorem cell_of_block {w w' : World} {a : Addr} (h : w'.heap[a.block]? = w.heap[a.block]?) : w'.cell? a = w.cell? a := by
  unfold World.cell?; rw [h]
theorem frozen_of_block {w w' : World} {a : Addr} (h : w'.heap[a.block]? = w.heap[a.block]?) : w'.frozen? a = w.frozen? a := by
  unfold World.frozen?; rw [h]

theorem Blk.cell {w : World} {b : Nat} {cs : Array Value} {t : TypeId} (h : Blk w b cs t) {i : Nat} {v : Value} (hi : cs[i]? = some v) : w.cell? ⟨b, i, none⟩ = some v := by
  unfold Blk at h
  simp [World.cell?, h, hi]
theorem Blk.thawed {w : World} {b : Nat} {cs : Array Value} {t : TypeId} (h : Blk w b cs t) (i : Nat) : w.frozen? ⟨b, i, none⟩ = false := by
  unfold Blk at h
  simp [World.frozen?, h]
theorem Blk.lt {w : World} {b : Nat} {cs : Array Value} {t : TypeId} (h : Blk w b cs t) : b < w.heap.size := (Array.getElem?_eq_some_iff.1 h).1
theorem Blk.of_block {w w' : World} {b : Nat} {cs : Array Value} {t : TypeId} (h : Blk w b cs t) (e : w'.heap[b]? = w.heap[b]?) : Blk w' b cs t := by
  unfold Blk at *; rw [e]; exact h
theorem Blk.new (w : World) (cs : Array Value) (t : TypeId) : Blk (w.alloc (.cells cs t)) w.heap.size cs t := heap_alloc_new w _
theorem Blk.set {w : World} {b : Nat} {cs : Array Value} {t : TypeId} (h : Blk w b cs t) (i : Nat) (u : Value) : Blk (w.setCell ⟨b, i, none⟩ u) b (cs.setIfInBounds i u) t := by
  unfold Blk at *
  have hl := (Array.getElem?_eq_some_iff.1 h).1
  simp [World.setCell, Array.getElem?_modify, h]

/-! ### Keys -/
def lk (k : ByteArray) : Lit := .string k.data.toList
theorem lk_inj {a b : ByteArray} (h : lk a = lk b) : a = b := by
  unfold lk at h
  cases a; cases b
  simp only [Lit.string.injEq] at h
  congr 1
  exact Array.toList_inj.1 h
theorem lk_key (k : ByteArray) : WideAt.IsKeyLit (lk k) := by unfold lk; exact trivial

/-- How a pointer to a block's first cell reads. -/
def ptrElem : Value → Option (DataW Unit × List MemPlace)
  | .pointer (some ⟨b, 0, none⟩) => some (.lit (.int .i64 b), [])
  | .pointer none => some (.nil, [])
  | _ => none

theorem keyS : Maps.Keyed Tryz.prog 9 := Maps.string_keyed Tryz.underlying9
theorem keyOf_k {k : ByteArray} (h : k.size ≤ maxLen) : keyOf Tryz.prog 9 (.string k) = some (lk k) := Go.WideMaps.keyOf_string_mk (P := Tryz.prog) (k := 9) Tryz.underlying9 (s := k) h
end Go.Proofs.YtlncljfljjaacaaGreatDoor

namespace Go.Proofs.YtlncljfljjaacaaGreatDoor
open Go.ChangeShapes Go.WideShapes Go.ChangeAt Go.RowKit Go.ChangeMaps Go.MapKept
open Go.WideElems (Fit rd rg pl rd_val elemAt)
set_option linter.unusedVariables false
set_option linter.unusedSimpArgs false

def optPtr : Option Nat → Value
  | some b => .pointer (some ⟨b, 0, none⟩)
  | none => .pointer none
def optDat : Option Nat → DataW Unit
  | some b => .lit (.int .i64 b)
  | none => .nil

theorem ptrElem_opt (o : Option Nat) : ptrElem (optPtr o) = some (optDat o, []) := by cases o <;> rfl
theorem ptrElem_inv {v : Value} {o : Option Nat} {ps : List MemPlace} (h : ptrElem v = some (optDat o, ps)) : v = optPtr o := by
  unfold ptrElem at h
  split at h
  · cases o with
    | none => simp [optDat] at h
    | some b =>
      simp_all [optDat, optPtr]
      have := h.1
      omega
  · cases o with
    | none => rfl
    | some b => simp [optDat] at h
  · cases h

def KMap (w : World) (m n : Nat) (f : ByteArray → Option Nat) : Prop :=
  ∃ D, w.ownsMap Tryz.prog 9 ptrElem m n D ∧ ∀ k, Maps.has D (lk k) = (f k).isSome ∧ D.atKey (lk k) .nil = optDat (f k)

theorem KMap.lt {w : World} {m n : Nat} {f : ByteArray → Option Nat} (h : KMap w m n f) : m < w.heap.size := by
  obtain ⟨D, h, _⟩ := h
  exact h.lt
theorem KMap.of_block {w w' : World} {m n : Nat} {f : ByteArray → Option Nat} (h : KMap w m n f) (e : w'.heap[m]? = w.heap[m]?) : KMap w' m n f := by
  obtain ⟨D, ⟨es, clock, hb, r⟩, hf⟩ := h
  exact ⟨D, ⟨es, clock, e.trans hb, r⟩, hf⟩
theorem KMap.new (w : World) : KMap (w.alloc (.map #[] 0)) w.heap.size 0 (fun _ => none) :=
  ⟨_, World.ownsMap_made w Tryz.prog 9 ptrElem, fun k => ⟨rfl, rfl⟩⟩

theorem zeroH (w : World) : (zeroValue 135).run Tryz.prog w = .ok (.pointer none) w := by kernel_rfl

theorem KMap.look {w : World} {m n : Nat} {f : ByteArray → Option Nat} (h : KMap w m n f) {k : ByteArray} (hk : k.size ≤ maxLen) :
    (Instr.lookup 61 (.map (some m)) (.string k) true).run Tryz.prog w = .ok (.tuple #[optPtr (f k), .bool (f k).isSome]) w := by
  obtain ⟨D, h, hf⟩ := h
  obtain ⟨v, ps, h1, h2⟩ := h.look_ok keyS Tryz.underlying61 (zeroH w) (zd := .nil) (zp := []) rfl (keyOf_k hk)
  rw [(hf k).2] at h2
  rw [h1, ptrElem_inv h2, (hf k).1]

def fput (f : ByteArray → Option Nat) (k : ByteArray) (o : Option Nat) : ByteArray → Option Nat := fun k' => if k' = k then o else f k'

theorem KMap.put {w : World} {m n : Nat} {f : ByteArray → Option Nat} (h : KMap w m n f) {k : ByteArray} (hk : k.size ≤ maxLen) (hf : f k = none) (hn : n < maxLen) (b : Nat) :
    ∃ o, (∀ W : World, W.heap[m]? = w.heap[m]? → (Instr.mapUpdate 61 (.map (some m)) (.string k) (.pointer (some ⟨b, 0, none⟩))).run Tryz.prog W = .ok () (setBlock W m o)) ∧
      ∀ W : World, W.heap[m]? = w.heap[m]? → KMap (setBlock W m o) m (n + 1) (fput f k (some b)) := by
  obtain ⟨D, ⟨es, clock, hb, F, hs, rfl⟩, hf'⟩ := h
  have hkey := keyOf_k hk
  have hno : ∀ x ∈ es.toList, x.key ≠ .string k := by
    rcases Maps.fit_look true keyS Tryz.underlying61 (zeroH w) hb F hkey with ⟨_, h2, _⟩ | ⟨e0, y, _, _, hrun, hRv, hat, _⟩
    · exact h2
    · have := (hf' k).1
      rw [Maps.has_true_of_atKey hat, hf] at this
      cases this
  have hrun : ∀ W : World, W.heap[m]? = w.heap[m]? → (Instr.mapUpdate 61 (.map (some m)) (.string k) (.pointer (some ⟨b, 0, none⟩))).run Tryz.prog W = .ok () (setBlock W m (.map (es.push ⟨.string k, .pointer (some ⟨b, 0, none⟩), clock⟩) (clock + 1))) := by
    intro W e
    have hb' := e.trans hb
    rcases keyS.find W hkey es.toList F.keys with ⟨h1, h2⟩ | ⟨j, e0, h1, h2, h3⟩
    · simp [Instr.mapUpdate, run_underlying Tryz.underlying61, MapKept.run_getObj_map hb', keyS.check W false hkey, h1, MapKept.run_setObj_map _ hb', Result.andThen, setBlock]
    · exact absurd h3 (hno e0 (List.mem_of_getElem? h2))
  refine ⟨_, hrun, fun W e => ?_⟩
  have hown : W.ownsMap Tryz.prog 9 ptrElem m n (.map ((es.toList.map (rg Tryz.prog 9 ptrElem)).foldr DataW.insert [])) := ⟨es, clock, e.trans hb, F, hs, rfl⟩
  obtain ⟨w', h1, h2, _⟩ := hown.store keyS Tryz.underlying61 hn hkey (ptrElem_opt (some b))
  have h3 := hrun W e
  rw [show (Value.pointer (some ⟨b, 0, none⟩)) = optPtr (some b) from rfl] at h3
  rw [h3] at h1
  cases h1
  refine ⟨_, h2, fun k' => ?_⟩
  unfold fput
  by_cases e' : k' = k
  · subst e'
    rw [if_pos rfl]
    exact ⟨Maps.has_put_same hown.isMap (lk_key _) _, Maps.atKey_put_same hown.isMap (lk_key _) _ _⟩
  · rw [if_neg e']
    have hne : lk k' ≠ lk k := fun x => e' (lk_inj x)
    rw [Maps.has_put_other hne, Maps.atKey_put_other hne]
    exact hf' k'

theorem KMap.del {w : World} {m n : Nat} {f : ByteArray → Option Nat} (h : KMap w m n f) {k : ByteArray} (hk : k.size ≤ maxLen) (ty : TypeId) :
    ∃ o, (Builtin.delete_ #[61, 9] ty #[.map (some m), .string k]).run Tryz.prog w = .ok (.tuple #[]) (setBlock w m o) ∧ KMap (setBlock w m o) m n (fput f k none) := by
  obtain ⟨D, h, hf'⟩ := h
  obtain ⟨w', h1, h2, ⟨_, _, es', c', _, rfl⟩⟩ := h.drop keyS Tryz.underlying61 (keyOf_k hk) ty
  refine ⟨_, h1, _, h2, fun k' => ?_⟩
  unfold fput
  by_cases e' : k' = k
  · subst e'
    rw [if_pos rfl]
    exact ⟨Maps.has_del_same, Maps.atKey_del_same _⟩
  · rw [if_neg e']
    have hne : lk k' ≠ lk k := fun x => e' (lk_inj x)
    rw [Maps.has_del_other hne, Maps.atKey_del_other hne]
    exact hf' k'

theorem setBlock_other (w : World) {m k : Nat} (o : Obj) (h : k ≠ m) : (setBlock w m o).heap[k]? = w.heap[k]? := by
  simp [setBlock, Array.getElem?_setIfInBounds, Ne.symm h]
end Go.Proofs.YtlncljfljjaacaaGreatDoor

namespace Go.Proofs.YtlncljfljjaacaaGreatDoor
open Go.ChangeShapes Go.WideShapes Go.ChangeAt Go.RowKit
set_option linter.unusedVariables false
set_option linter.unusedSimpArgs false

structure Vr where
  at' : Int
  val : ByteArray
  gone : Bool

def encV (x : Vr) : List Value := [.int .i64 x.at', .string x.val, .bool x.gone]
def encVs : List Vr → List Value
  | [] => []
  | x :: l => .int .i64 x.at' :: .string x.val :: .bool x.gone :: encVs l

theorem encVs_len : ∀ l, (encVs l).length = l.length * 3
  | [] => rfl
  | x :: l => by simp [encVs, encVs_len l]; omega
theorem encVs_append : ∀ l m, encVs (l ++ m) = encVs l ++ encVs m
  | [], m => rfl
  | x :: l, m => by simp [encVs, encVs_append l m]
theorem encVs_get : ∀ (l : List Vr) (j : Nat) (x : Vr), l[j]? = some x → (encVs l)[j * 3]? = some (.int .i64 x.at') ∧ (encVs l)[j * 3 + 1]? = some (.string x.val) ∧ (encVs l)[j * 3 + 2]? = some (.bool x.gone)
  | [], j, x, h => by simp at h
  | y :: l, 0, x, h => by simp at h; subst h; simp [encVs]
  | y :: l, j + 1, x, h => by
    have := encVs_get l j x (by simpa using h)
    rw [show (j + 1) * 3 = j * 3 + 3 by omega, show j * 3 + 3 + 1 = j * 3 + 1 + 3 by omega, show j * 3 + 3 + 2 = j * 3 + 2 + 3 by omega]
    simpa [encVs] using this

/-- A history: its block, its key, where its list lies, all versions that lie there, how many of them have gone. -/
structure Hi where
  blk : Nat
  key : ByteArray
  row : Value
  all : List Vr
  off : Nat

def Hi.live (h : Hi) : List Vr := h.all.drop h.off

def liveV (off : Nat) : Value → Value
  | .slice (some ⟨g, 0, none⟩) n cap => .slice (some ⟨g, off * 3, none⟩) (n - off) (cap - off)
  | v => v

structure HistAt (w : World) (h : Hi) : Prop where
  blk : Blk w h.blk #[.string h.key, h.row, .int .i64 h.off] 161
  row : w.ownsRow 0 152 3 h.row h.all.length (encVs h.all)
  off : h.off < h.all.length ∨ (h.off = 0 ∧ h.all = [] ∧ h.row = .slice none 0 0)
  few : h.all.length < 1000000
  key : h.key.size ≤ maxLen

theorem row_thru {w w' : World} {e : TypeId} {size : Nat} {v : Value} {n : Nat} {xs : List Value} (h : w.ownsRow 0 e size v n xs) (hb : ∀ g, v.ownBlock = some g → w'.heap[g]? = w.heap[g]?) : w'.ownsRow 0 e size v n xs := by
  obtain ⟨h1, h2⟩ := h
  refine ⟨h1, ?_⟩
  rcases h2 with h2 | ⟨g, cap, cur, e1, e2, e3, r⟩
  · exact .inl h2
  · exact .inr ⟨g, cap, cur, e1, e2, (hb g (by rw [e1]; rfl)).trans e3, r⟩

theorem HistAt.of_block {w w' : World} {h : Hi} (H : HistAt w h) (hb : w'.heap[h.blk]? = w.heap[h.blk]?) (hr : ∀ g, h.row.ownBlock = some g → w'.heap[g]? = w.heap[g]?) : HistAt w' h :=
  ⟨H.blk.of_block hb, row_thru H.row hr, H.off, H.few, H.key⟩
theorem HistAt.drewN {w : World} {h : Hi} (H : HistAt w h) (n : Nat) : HistAt (w.drewN n) h := H.of_block rfl (fun _ _ => rfl)

set_option maxHeartbeats 400000 in
theorem live_any (h : Hi) (w : World) (H : HistAt w h) :
    Calls Tryz.prog 107 #[.pointer (some ⟨h.blk, 0, none⟩)] w fun e w' => e = .returned (liveV h.off h.row) ∧ ∃ n, w' = w.drewN n := by
  have c1 := H.blk.cell (i := 1) (v := h.row) rfl
  have c2 := H.blk.cell (i := 2) (v := .int .i64 h.off) rfl
  obtain ⟨blk, key, row, all, off⟩ := h
  simp only at *
  obtain ⟨hl, hr⟩ := H.row
  have ho := H.off
  have hf := H.few
  clear H
  simp only at *
  rcases hr with ⟨rfl, hn⟩ | ⟨g, cap, cur, rfl, _, hg, hnc, hcm, _⟩
  · obtain ⟨rfl, rfl⟩ : off = 0 ∧ all = [] := by
      rcases ho with ho | ho
      · omega
      · exact ⟨ho.1, ho.2.1⟩
    clear ho hf hl hn
    go_enter Tryz.func107, Tryz.ntmps107
    go_wp2
    go_region
    go_wp2
    go_ret
    exact ⟨rfl, 1, rfl⟩
  · have ho' : off < all.length := by
      rcases ho with ho | ⟨_, _, h⟩
      · exact ho
      · cases h
    have hco : ¬ cap = off := by omega
    clear ho hl
    go_enter Tryz.func107, Tryz.ntmps107
    go_wp2
    go_region
    go_wp2
    go_ret
    exact ⟨rfl, 1, rfl⟩
end Go.Proofs.YtlncljfljjaacaaGreatDoor

namespace Go.Proofs.YtlncljfljjaacaaGreatDoor
open Go.ChangeShapes Go.WideShapes Go.ChangeAt Go.RowKit
set_option linter.unusedVariables false
set_option linter.unusedSimpArgs false

def pastP (x t : Int) : Int := if t < x then 1 else -1

theorem below_new (w : World) (o : Obj) : Below w.heap.size w (w.alloc o) := (Below.refl _ _).alloc (Nat.le_refl _) _
theorem below_drewN (w : World) (n : Nat) : Below w.heap.size w (w.drewN n) := ⟨rfl, rfl, rfl, Nat.le_refl _, fun _ _ => rfl⟩

set_option maxHeartbeats 400000 in
theorem past_any (x t : Int) (w : World) :
    Calls Tryz.prog 89 #[.agg #[.int .i64 x], .int .i64 t] w fun e w' => e = .returned (.int .i64 (pastP x t)) ∧ Below w.heap.size w w' := by
  by_cases h : t < x
  · go_enter Tryz.func89, Tryz.ntmps89
    go_wp2
    go_ret
    exact ⟨by simp [pastP, h], below_new _ _⟩
  · go_enter Tryz.func89, Tryz.ntmps89
    go_wp2
    go_ret
    exact ⟨by simp [pastP, h], below_new _ _⟩

/-- Versions l lie in a slice. -/
def LiveAt (w : World) (v : Value) (l : List Vr) : Prop :=
  (l = [] ∧ v = .slice none 0 0) ∨ ∃ g o c, v = .slice (some ⟨g, o, none⟩) l.length c ∧ l.length ≤ c ∧ 0 < l.length ∧ g < w.heap.size ∧
    ∀ j x, l[j]? = some x → w.cell? ⟨g, o + j * 3, none⟩ = some (.int .i64 x.at') ∧ w.cell? ⟨g, o + j * 3 + 1, none⟩ = some (.string x.val) ∧ w.cell? ⟨g, o + j * 3 + 2, none⟩ = some (.bool x.gone)

theorem LiveAt.below {w w' : World} {v : Value} {l : List Vr} (h : LiveAt w v l) (hb : Below w.heap.size w w') : LiveAt w' v l := by
  rcases h with h | ⟨g, o, c, h1, h2, h3, h4, h5⟩
  · exact .inl h
  · refine .inr ⟨g, o, c, h1, h2, h3, Nat.lt_of_lt_of_le h4 hb.size, fun j x hx => ?_⟩
    have hc : ∀ i, w'.cell? ⟨g, i, none⟩ = w.cell? ⟨g, i, none⟩ := fun i => cell_of_block (hb.block g h4)
    rw [hc, hc, hc]
    exact h5 j x hx

theorem cell_add (w : World) (g o j : Nat) : w.cell? ((⟨g, o, none⟩ : Addr).add j) = w.cell? ⟨g, o + j, none⟩ := by
  unfold Addr.add
  split
  · rename_i h; rw [h]; rfl
  · rfl

theorem HistAt.liveAt {w : World} {h : Hi} (H : HistAt w h) : LiveAt w (liveV h.off h.row) h.live := by
  obtain ⟨blk, key, row, all, off⟩ := h
  have ho := H.off
  have hrow := H.row
  simp only at *
  unfold Hi.live
  simp only
  rcases ho with ho | ⟨rfl, rfl, rfl⟩
  · right
    obtain ⟨hl, hr⟩ := hrow
    have hcells : ∀ g, row.ownBlock = some g → _ := fun g => H.row.cells (g := g)
    simp only at hcells
    rcases hr with ⟨rfl, hn⟩ | ⟨g, cap, cur, rfl, _, hg, hnc, hcm, _⟩
    · omega
    · refine ⟨g, off * 3, cap - off, ?_, ?_, ?_, (Array.getElem?_eq_some_iff.1 hg).1, fun j x hx => ?_⟩
      · simp [liveV]
      · simp; omega
      · simp; omega
      · rw [List.getElem?_drop] at hx
        obtain ⟨a1, a2, a3⟩ := encVs_get all (off + j) x hx
        have b1 := hcells g rfl _ _ a1
        have b2 := hcells g rfl _ _ a2
        have b3 := hcells g rfl _ _ a3
        rw [cell_add] at b1 b2 b3
        rw [show off * 3 + j * 3 = 0 + (off + j) * 3 by omega, show 0 + (off + j) * 3 + 1 = 0 + ((off + j) * 3 + 1) by omega, show 0 + (off + j) * 3 + 2 = 0 + ((off + j) * 3 + 2) by omega]
        exact ⟨b1, b2, b3⟩
  · exact .inl ⟨rfl, rfl⟩

/-- How many are no newer than t. -/
def upToP (t : Int) (l : List Vr) : Nat := l.countP fun x => decide (x.at' ≤ t)

def Rise (l : List Vr) : Prop := l.Pairwise fun a b => a.at' ≤ b.at'

theorem upTo_eq {t : Int} {l : List Vr} (n : Nat) (hn : n ≤ l.length) (h1 : ∀ i x, i < n → l[i]? = some x → x.at' ≤ t) (h2 : ∀ i x, n ≤ i → l[i]? = some x → t < x.at') : upToP t l = n := by
  unfold upToP
  have e : l = l.take n ++ l.drop n := (List.take_append_drop n l).symm
  rw [e, List.countP_append, List.countP_eq_length.2, List.countP_eq_zero.2]
  · simp; omega
  · intro x hx
    obtain ⟨i, hi⟩ := List.getElem?_of_mem hx
    rw [List.getElem?_drop] at hi
    have := h2 (n + i) x (by omega) hi
    simp; omega
  · intro x hx
    obtain ⟨i, hi⟩ := List.getElem?_of_mem hx
    have hil : i < n := by
      have := (List.getElem?_eq_some_iff.1 hi).1
      simp at this; omega
    rw [List.getElem?_take_of_lt hil] at hi
    have := h1 i x hil hi
    simp; omega

def pastV : Value := .func (.methodOf 152 "letterpress/store.past") #[] #[]

def AtL (w : World) (a : Option Addr) (l : List Vr) : Prop :=
  0 < l.length → ∃ g o, a = some ⟨g, o, none⟩ ∧ g < w.heap.size ∧
    ∀ j x, l[j]? = some x → w.cell? ⟨g, o + j * 3, none⟩ = some (.int .i64 x.at') ∧ w.cell? ⟨g, o + j * 3 + 1, none⟩ = some (.string x.val) ∧ w.cell? ⟨g, o + j * 3 + 2, none⟩ = some (.bool x.gone)

theorem LiveAt.atL {w : World} {v : Value} {l : List Vr} (h : LiveAt w v l) : ∃ a c, v = .slice a l.length c ∧ l.length ≤ c ∧ AtL w a l := by
  rcases h with ⟨rfl, rfl⟩ | ⟨g, o, c, h1, h2, h3, h4, h5⟩
  · exact ⟨none, 0, rfl, Nat.le_refl _, fun h => by simp at h⟩
  · exact ⟨some ⟨g, o, none⟩, c, h1, h2, fun _ => ⟨g, o, rfl, h4, h5⟩⟩

theorem rise_get {l : List Vr} (hs : Rise l) {i j : Nat} {x y : Vr} (hi : l[i]? = some x) (hj : l[j]? = some y) (h : i ≤ j) : x.at' ≤ y.at' := by
  by_cases e : i = j
  · subst e
    rw [hi] at hj
    cases hj
    exact Int.le_refl _
  · obtain ⟨hi1, hi2⟩ := List.getElem?_eq_some_iff.1 hi
    obtain ⟨hj1, hj2⟩ := List.getElem?_eq_some_iff.1 hj
    have := List.pairwise_iff_getElem.1 hs i j hi1 hj1 (by omega)
    rw [hi2, hj2] at this
    exact this

theorem mid_u64 (lo hi n : Nat) (h : hi ≤ n) (hlo : lo ≤ hi) (hn : n < 1000000) : IntKind.u64.wrap ((lo : Int) + hi) = (lo : Int) + hi := by
  have e : IntKind.u64.wrap ((lo : Int) + hi) = ((lo : Int) + hi) % 18446744073709551616 := rfl
  rw [e]; omega
theorem mid_eq (lo hi n : Nat) (h : hi ≤ n) (hlo : lo ≤ hi) (hn : n < 1000000) : wrap64 (IntKind.u64.wrap (wrap64 (↑lo + ↑hi)) / 2) = (((lo + hi) / 2 : Nat) : Int) := by
  rw [IntWalk.wrap64_in ((lo : Int) + hi) (by omega), mid_u64 lo hi n h hlo hn, IntWalk.wrap64_in _ (by omega)]
  omega

end Go.Proofs.YtlncljfljjaacaaGreatDoor

namespace Go.Proofs.YtlncljfljjaacaaGreatDoor
open Go.ChangeShapes Go.WideShapes Go.ChangeAt Go.RowKit
set_option linter.unusedVariables false
set_option linter.unusedSimpArgs false

theorem past_m (w : World) (a : Int) (s : ByteArray) (b : Bool) : Sem.run Tryz.prog (method 556 152 (.agg #[.int .i64 a, .string s, .bool b]) "letterpress/store.past") w = .ok (89, .agg #[.int .i64 a]) w := by kernel_rfl

set_option maxHeartbeats 800000 in
set_option maxRecDepth 20000 in
theorem search_any (v : Value) (l : List Vr) (t : Int) (w : World) (L : LiveAt w v l) (hs : Rise l) (hf : l.length < 1000000) :
    Calls Tryz.prog 135 #[v, .int .i64 t, pastV] w fun e w' => (∃ b, e = .returned (.tuple #[.int .i64 (upToP t l : Nat), .bool b])) ∧ Below w.heap.size w w' := by
  unfold pastV
  obtain ⟨a, c, rfl, hc, A⟩ := L.atL
  have A : Aside _ := A
  have S : Aside _ := hs
  clear L hs
  generalize hn : l.length = n at hc hf
  have HN : Aside (l.length = n) := hn
  clear hn
  generalize hu : upToP t l = u
  have HU : Aside (upToP t l = u) := hu
  clear hu
  have SB : Aside (Below w.heap.size w w) := Below.refl _ _
  have hf : n < 1000000 := hf
  go_enter Tryz.func135, Tryz.ntmps135
  go_wp2
  go_loopg [9, 10] n (fun kx s9 s10 wr => ∃ lo hi : Nat, s9 = .int .i64 lo ∧ s10 = .int .i64 hi ∧ lo ≤ hi ∧ hi ≤ n ∧ hi - lo ≤ kx ∧ Aside (Below w.heap.size w wr) ∧
    Aside ((∀ i x, i < lo → l[i]? = some x → x.at' ≤ t) ∧ (∀ i x, hi ≤ i → l[i]? = some x → t < x.at')))
  case atStart => exact ⟨0, n, rfl, rfl, Nat.zero_le _, Nat.le_refl _, by omega, SB, (⟨fun i x hi => absurd hi (Nat.not_lt_zero _), fun i x h1 h2 => by have := (List.getElem?_eq_some_iff.1 h2).1; have := HN.out; omega⟩ : (∀ i x, i < 0 → l[i]? = some x → x.at' ≤ t) ∧ (∀ i x, n ≤ i → l[i]? = some x → t < x.at'))⟩
  case round =>
    clear SB
    obtain ⟨lo, hi, rfl, rfl, hlh, hin, hg, S1, I⟩ := hrel
    by_cases hlt : lo < hi
    · have hltI : (lo : Int) < (hi : Int) := by omega
      obtain ⟨g, o, rfl, hgl, hcell⟩ := A.out (by have := HN.out; omega)
      have hml : (lo + hi) / 2 < l.length := by have := HN.out; omega
      obtain ⟨x, hx⟩ : ∃ x, l[(lo + hi) / 2]? = some x := ⟨_, List.getElem?_eq_getElem hml⟩
      have X : Aside (l[(lo + hi) / 2]? = some x) := hx
      obtain ⟨c0, c1, c2⟩ := hcell _ _ hx
      have hcw : ∀ i, wr.cell? ⟨g, i, none⟩ = w.cell? ⟨g, i, none⟩ := fun i => cell_of_block (S1.out.block g hgl)
      rw [← hcw] at c0 c1 c2
      generalize hm : (lo + hi) / 2 = m at c0 c1 c2 X hml
      have hmn : m < n := by omega
      have hmnI : (m : Int) < (n : Int) := by omega
      have hm0 : (0 : Int) ≤ (m : Int) := by omega
      have P := past_any x.at' t wr
      have PM := past_m wr x.at' x.val x.gone
      clear hcell hcw hx hml
      have HF : Aside (n < 1000000 ∧ n ≤ c ∧ lo ≤ hi ∧ hi ≤ n ∧ hi - lo ≤ gk ∧ (lo + hi) / 2 = m ∧ m < n ∧ lo < hi) := ⟨hf, hc, hlh, hin, hg, hm, hmn, hlt⟩
      have hmid := (mid_eq lo hi n hin hlh hf).trans (congrArg (fun z : Nat => (z : Int)) hm)
      obtain ⟨q, hq, hmid⟩ : ∃ q, IntKind.u64.wrap (wrap64 (↑lo + ↑hi)) = q ∧ wrap64 (q / 2) = (m : Int) := ⟨_, rfl, hmid⟩
      clear hm hg hf hc hlh hin hmn hlt
      go_wp2_with fail
      refine P.mono ?_
      rintro e w2 ⟨rfl, hb⟩
      have S2 : Aside (Below w.heap.size w w2) := S1.out.trans (hb.mono S1.out.size)
      clear P PM c0 c1 c2 hb S1 hq
      by_cases hyx : t < x.at'
      · have hp : pastP x.at' t = 1 := by simp [pastP, hyx]
        rw [hp]
        have I2 : Aside ((∀ i x, i < lo → l[i]? = some x → x.at' ≤ t) ∧ (∀ i x, m ≤ i → l[i]? = some x → t < x.at')) := by
          refine ⟨I.out.1, fun i y h1 h2 => ?_⟩
          have := rise_get S.out X.out h2 h1
          omega
        clear I X hp hyx
        go_wp2_with fail
        obtain ⟨h1, h2, h3, h4, h5, h6, h7, h8⟩ := HF.out
        clear hmid hmnI hm0
        go_roundg (m - lo)
        case rel => exact ⟨lo, m, rfl, rfl, by omega, by omega, Nat.le_refl _, S2, I2⟩
        case measure => omega
      · have hp : pastP x.at' t = -1 := by simp [pastP, hyx]
        rw [hp]
        have I2 : Aside ((∀ i x, i < m + 1 → l[i]? = some x → x.at' ≤ t) ∧ (∀ i x, hi ≤ i → l[i]? = some x → t < x.at')) := by
          refine ⟨fun i y h1 h2 => ?_, I.out.2⟩
          have := rise_get S.out h2 X.out (by omega)
          omega
        clear I X hp hyx
        go_wp2_with fail
        obtain ⟨h1, h2, h3, h4, h5, h6, h7, h8⟩ := HF.out
        clear hmid hmnI hm0
        go_roundg (hi - (m + 1))
        case rel => exact ⟨m + 1, hi, by simp [IntWalk.wrap64_in], rfl, by omega, by omega, Nat.le_refl _, S2, I2⟩
        case measure => omega
    · obtain rfl : lo = hi := by omega
      have hun : u = lo := by
        rw [← HU.out]
        exact upTo_eq lo (by have := HN.out; omega) I.out.1 I.out.2
      subst hun
      clear I HU hg hlt hlh
      by_cases hln : u < n
      · have hlnI : (u : Int) < (n : Int) := by omega
        have hu0 : (0 : Int) ≤ (u : Int) := by omega
        obtain ⟨g, o, rfl, hgl, hcell⟩ := A.out (by have := HN.out; omega)
        obtain ⟨x, hx⟩ : ∃ x, l[u]? = some x := ⟨_, List.getElem?_eq_getElem (by have := HN.out; omega)⟩
        obtain ⟨c0, c1, c2⟩ := hcell _ _ hx
        have hcw : ∀ i, wr.cell? ⟨g, i, none⟩ = w.cell? ⟨g, i, none⟩ := fun i => cell_of_block (S1.out.block g hgl)
        rw [← hcw] at c0 c1 c2
        have P := past_any x.at' t wr
        have PM := past_m wr x.at' x.val x.gone
        clear hcell hcw hx hln hc hin hf
        go_wp2_with fail
        refine P.mono ?_
        rintro e w2 ⟨rfl, hb⟩
        have S2 : Below w.heap.size w w2 := S1.out.trans (hb.mono S1.out.size)
        clear P PM c0 c1 c2 hb S1
        generalize pastP x.at' t = pv
        go_wp2_with fail
        exact bodyPost_ret (v := .tuple #[.int .i64 u, .bool (pv == 0)]) (by simp [results, Tryz.results135, go_sem]) rfl ⟨⟨_, rfl⟩, S2⟩
      · obtain rfl : u = n := by omega
        clear hln hin hf hc
        go_wp2_with fail
        exact bodyPost_ret (v := .tuple #[.int .i64 u, .bool false]) (by simp [results, Tryz.results135, go_sem]) rfl ⟨⟨_, rfl⟩, S1.out⟩
end Go.Proofs.YtlncljfljjaacaaGreatDoor

namespace Go.Proofs.YtlncljfljjaacaaGreatDoor
open Go.ChangeShapes Go.WideShapes Go.ChangeAt Go.RowKit
set_option linter.unusedVariables false
set_option linter.unusedSimpArgs false

def waitsP : List Vr → Bool
  | [] => false
  | [x] => x.gone
  | _ :: _ :: _ => true

def nextP : List Vr → Int
  | [] => 0
  | [x] => x.at'
  | x :: y :: _ => if x.gone then x.at' else y.at'

theorem live_len {h : Hi} (hf : h.all.length < 1000000) : h.live.length < 1000000 := by unfold Hi.live; simp; omega

set_option maxHeartbeats 800000 in
theorem upTo_any (h : Hi) (t : Int) (w : World) (H : HistAt w h) (hs : Rise h.live) :
    Calls Tryz.prog 106 #[.pointer (some ⟨h.blk, 0, none⟩), .int .i64 t] w fun e w' => e = .returned (.int .i64 (upToP t h.live : Nat)) ∧ Below w.heap.size w w' := by
  have L := live_any h w H
  have S := fun n => search_any (liveV h.off h.row) h.live t (w.drewN n) (H.drewN n).liveAt hs (live_len H.few)
  generalize liveV h.off h.row = lv at L S
  generalize upToP t h.live = u at S
  generalize h.blk = hb at L
  clear H hs
  go_enter Tryz.func106, Tryz.ntmps106
  go_wp2_with fail
  refine L.mono ?_
  rintro e w1 ⟨rfl, n, rfl⟩
  clear L
  have S := S n
  unfold pastV at S
  go_wp2_with fail
  refine S.mono ?_
  rintro e w1 ⟨⟨b, rfl⟩, hb⟩
  clear S
  go_wp2_with fail
  go_ret
  exact ⟨rfl, (below_drewN w n).trans hb⟩

theorem row_live {w : World} {row : Value} {all : List Vr} {off : Nat} (hrow : w.ownsRow 0 152 3 row all.length (encVs all)) (ho : off < all.length) : LiveAt w (liveV off row) (all.drop off) := by
  right
  obtain ⟨hl, hr⟩ := hrow
  have hcells : ∀ g, row.ownBlock = some g → _ := fun g => World.ownsRow.cells ⟨hl, hr⟩ (g := g)
  rcases hr with ⟨rfl, hn⟩ | ⟨g, cap, cur, rfl, _, hg, hnc, hcm, _⟩
  · omega
  · refine ⟨g, off * 3, cap - off, ?_, ?_, ?_, (Array.getElem?_eq_some_iff.1 hg).1, fun j x hx => ?_⟩
    · simp [liveV]
    · simp; omega
    · simp; omega
    · rw [List.getElem?_drop] at hx
      obtain ⟨a1, a2, a3⟩ := encVs_get all (off + j) x hx
      have b1 := hcells g rfl _ _ a1
      have b2 := hcells g rfl _ _ a2
      have b3 := hcells g rfl _ _ a3
      rw [cell_add] at b1 b2 b3
      rw [show off * 3 + j * 3 = 0 + (off + j) * 3 by omega, show 0 + (off + j) * 3 + 1 = 0 + ((off + j) * 3 + 1) by omega, show 0 + (off + j) * 3 + 2 = 0 + ((off + j) * 3 + 2) by omega]
      exact ⟨b1, b2, b3⟩

theorem HistAt.rowAt {w : World} {h : Hi} (H : HistAt w h) : LiveAt w h.row h.all := by
  rcases H.off with ho | ⟨_, ha, hr⟩
  · have := row_live (off := 0) H.row (by omega)
    obtain ⟨g, cap, hv, _⟩ := H.row.form (by omega)
    rw [List.drop_zero] at this
    rw [hv] at this ⊢
    simpa [liveV] using this
  · exact .inl ⟨ha, hr⟩

set_option maxHeartbeats 800000 in
theorem waits_any (h : Hi) (w : World) (H : HistAt w h) :
    Calls Tryz.prog 113 #[.pointer (some ⟨h.blk, 0, none⟩)] w fun e w' => e = .returned (.bool (waitsP h.live)) ∧ ∃ n, w' = w.drewN n := by
  have L := live_any h w H
  have A := fun n => (H.drewN n).liveAt
  generalize liveV h.off h.row = lv at L A
  generalize h.live = l at A
  generalize h.blk = hb at L
  obtain ⟨wv, hwv⟩ : ∃ wv, wv = waitsP l := ⟨_, rfl⟩
  rw [← hwv]
  have hwv : Hid (wv = waitsP l) := hwv
  clear H
  go_enter Tryz.func113, Tryz.ntmps113
  go_wp2_with fail
  refine L.mono ?_
  rintro e w1 ⟨rfl, n, rfl⟩
  clear L
  have A := A n
  have hn : ∃ m, w.drewN n = w.drewN m := ⟨n, rfl⟩
  generalize w.drewN n = w1 at A hn
  rcases A with ⟨rfl, rfl⟩ | ⟨g, o, c, rfl, hc, h0, hg, hcell⟩
  · go_wp2_with fail
    go_ret
    exact ⟨by rw [hwv.out]; rfl, hn⟩
  · match l, hc, h0, hcell, hwv with
    | [], hc, h0, hcell, hwv => simp at h0
    | [x], hc, h0, hcell, hwv =>
      obtain ⟨a1, a2, a3⟩ := hcell 0 x rfl
      simp only [Nat.zero_mul, Nat.add_zero] at a1 a2 a3
      clear hcell hc h0
      go_wp2_with fail
      go_ret
      exact ⟨by rw [hwv.out]; rfl, hn⟩
    | x :: y :: l, hc, h0, hcell, hwv =>
      have hl : (1 : Int) < ((x :: y :: l).length : Int) := by simp; omega
      generalize (x :: y :: l).length = ln at hl
      clear hcell hc h0
      go_wp2_with fail
      go_ret
      exact ⟨by rw [hwv.out]; rfl, hn⟩

set_option maxHeartbeats 800000 in
theorem next_any (h : Hi) (w : World) (H : HistAt w h) (hw : waitsP h.live = true) :
    Calls Tryz.prog 92 #[.pointer (some ⟨h.blk, 0, none⟩)] w fun e w' => e = .returned (.int .i64 (nextP h.live)) ∧ ∃ n, w' = w.drewN n := by
  have L := live_any h w H
  have A := fun n => (H.drewN n).liveAt
  generalize liveV h.off h.row = lv at L A
  generalize h.live = l at A hw
  generalize h.blk = hb at L
  obtain ⟨wv, hwv⟩ : ∃ wv, wv = nextP l := ⟨_, rfl⟩
  rw [← hwv]
  have hwv : Hid (wv = nextP l) := hwv
  clear H
  go_enter Tryz.func92, Tryz.ntmps92
  go_wp2_with fail
  refine L.mono ?_
  rintro e w1 ⟨rfl, n, rfl⟩
  clear L
  have A := A n
  have hn : ∃ m, w.drewN n = w.drewN m := ⟨n, rfl⟩
  generalize w.drewN n = w1 at A hn
  rcases A with ⟨rfl, rfl⟩ | ⟨g, o, c, rfl, hc, h0, hg, hcell⟩
  · cases hw
  · match l, hc, h0, hcell, hwv, hw with
    | [], hc, h0, hcell, hwv, hw => simp at h0
    | [x], hc, h0, hcell, hwv, hw =>
      obtain ⟨a1, a2, a3⟩ := hcell 0 x rfl
      simp only [Nat.zero_mul, Nat.add_zero] at a1 a2 a3
      have hg : x.gone = true := hw
      rw [hg] at a3
      clear hcell hc h0 hg hw
      go_wp2_with fail
      go_ret
      exact ⟨by rw [hwv.out]; rfl, hn⟩
    | x :: y :: l, hc, h0, hcell, hwv, hw =>
      have hl : (1 : Int) < ((x :: y :: l).length : Int) := by simp; omega
      have hl0 : (0 : Int) < ((x :: y :: l).length : Int) := by omega
      obtain ⟨a1, a2, a3⟩ := hcell 0 x rfl
      obtain ⟨b1, b2, b3⟩ := hcell 1 y rfl
      simp only [Nat.zero_mul, Nat.add_zero, Nat.one_mul] at a1 a2 a3 b1 b2 b3
      generalize (x :: y :: l).length = ln at hl hl0
      clear hcell hc h0 hw
      cases hg : x.gone with
      | true =>
        rw [hg] at a3
        have hwv : Hid (wv = x.at') := hwv.out.trans (by simp [nextP, hg])
        clear hg
        go_wp2_with fail
        go_ret
        exact ⟨by rw [hwv.out]; rfl, hn⟩
      | false =>
        rw [hg] at a3
        have hwv : Hid (wv = y.at') := hwv.out.trans (by simp [nextP, hg])
        clear hg
        go_wp2_with fail
        go_ret
        exact ⟨by rw [hwv.out]; rfl, hn⟩

def newestP (l : List Vr) : Int := (l.getLast?.map Vr.at').getD 0

set_option maxHeartbeats 800000 in
theorem newest_any (h : Hi) (w : World) (H : HistAt w h) (hl : h.live ≠ []) :
    Calls Tryz.prog 168 #[.pointer (some ⟨h.blk, 0, none⟩)] w fun e w' => e = .returned (.int .i64 (newestP h.live)) ∧ ∃ n, w' = w.drewN n := by
  have c1 := H.blk.cell (i := 1) (v := h.row) rfl
  have A := H.rowAt
  have hfew := H.few
  obtain ⟨blk, key, row, all, off⟩ := h
  unfold Hi.live at *
  simp only at *
  have ha : 0 < all.length := by
    rcases Nat.eq_zero_or_pos all.length with h0 | h0
    · exact absurd (by rw [List.length_eq_zero_iff.1 h0]; simp) hl
    · exact h0
  obtain ⟨x, hx⟩ : ∃ x, all[all.length - 1]? = some x := ⟨_, List.getElem?_eq_getElem (by omega)⟩
  have hlast : (all.drop off).getLast? = some x := by
    rw [List.getLast?_drop, if_neg, List.getLast?_eq_getElem?, hx]
    intro hle
    exact hl (List.drop_eq_nil_of_le hle)
  have e : newestP (all.drop off) = x.at' := by unfold newestP; rw [hlast]; rfl
  rw [e]
  clear e hlast hl H
  rcases A with ⟨rfl, rfl⟩ | ⟨g, o, c, rfl, hc, h0, hg, hcell⟩
  · simp at ha
  · obtain ⟨a1, a2, a3⟩ := hcell _ x hx
    have hn1 : (all.length : Int) - 1 = ((all.length - 1 : Nat) : Int) := by omega
    clear hcell hx
    generalize all.length - 1 = k at *
    generalize all.length = ln at *
    have hk : (k : Int) < (ln : Int) := by omega
    have hlnI : (ln : Int) < 1000000 := by omega
    have hk0 : (0 : Int) ≤ (k : Int) := by omega
    clear h0 ha hc hfew
    go_enter Tryz.func168, Tryz.ntmps168
    go_wp2_with fail
    go_region
    go_wp2_with fail
    go_ret
    exact ⟨rfl, 1, rfl⟩
end Go.Proofs.YtlncljfljjaacaaGreatDoor

namespace Go.Proofs.YtlncljfljjaacaaGreatDoor
open Go.ChangeShapes Go.WideShapes Go.ChangeAt Go.RowKit
open Go.Sort (grow)
set_option linter.unusedVariables false
set_option linter.unusedSimpArgs false

theorem block_lt {w : World} {a : Addr} {v : Value} (hc : w.cell? a = some v) : a.block < w.heap.size := World.block_lt_of_cell? w a hc
theorem kept_cell {w w' : World} (h : Below w.heap.size w w') {a : Addr} {v : Value} (hc : w.cell? a = some v) : w'.cell? a = some v := by
  rw [h.cell (block_lt hc)]; exact hc
theorem kept_thawed {w w' : World} (h : Below w.heap.size w w') {a : Addr} (ha : a.block < w.heap.size) (hc : w.frozen? a = false) : w'.frozen? a = false := by
  rw [h.frozen ha]; exact hc
theorem kept_alloc {w : World} {o : Obj} {a : Addr} {v : Value} (h : w.cell? a = some v) : (w.alloc o).cell? a = some v := kept_cell ((Below.refl _ _).alloc (Nat.le_refl _) _) h
theorem grown_of_below {w w' : World} (h : Below w.heap.size w w') (row : Option Nat) : w.grownBy w' row := ⟨h.os, h.tape, h.output, h.size, fun k hk _ => h.block k hk⟩
theorem info_ver : (Tryz.prog.info? 152).map (fun i => (i.zero, i.size, i.bytes)) = some (some (.agg #[.int .i64 0, .string ⟨#[]⟩, .bool false]), 3, 32) := by kernel_rfl

theorem clone_any (s : ByteArray) (hs : s.size ≤ 281474976710656) (w : World) : Calls Tryz.prog 22 #[.string s] w fun e w' => e = .returned (.string s) ∧ Below w.heap.size w w' := by
  have C : Calls Tryz.prog 28 #[.string s] w fun e w' => e = .returned (.string s) ∧ Below w.heap.size w w' := Tryz.stringslite_Clone s w hs
  clear hs
  go_enter Tryz.func22, Tryz.ntmps22
  go_wp2_with fail
  refine C.mono ?_
  rintro e w2 ⟨rfl, hb⟩
  go_wp2_with fail
  go_ret
  exact ⟨rfl, hb⟩

def readL (t : Int) (l : List Vr) : ByteArray × Bool :=
  match upToP t l with
  | 0 => (ByteArray.empty, false)
  | k + 1 => match l[k]? with
    | some x => (x.val, !x.gone)
    | none => (ByteArray.empty, false)

theorem upTo_le (t : Int) (l : List Vr) : upToP t l ≤ l.length := List.countP_le_length

set_option maxHeartbeats 800000 in
theorem empty_any (h : Hi) (w : World) (H : HistAt w h) :
    Calls Tryz.prog 115 #[.pointer (some ⟨h.blk, 0, none⟩)] w fun e w' => e = .returned (.bool h.live.isEmpty) ∧ ∃ n, w' = w.drewN n := by
  have L := live_any h w H
  have A := fun n => (H.drewN n).liveAt
  generalize liveV h.off h.row = lv at L A
  generalize h.live = l at A
  generalize h.blk = hb at L
  have e1 : l.isEmpty = ((l.length : Int) == 0) := by
    cases l with
    | nil => rfl
    | cons x l => simp; omega
  rw [e1]
  obtain ⟨ev, hev⟩ : ∃ ev, ev = ((l.length : Int) == 0) := ⟨_, rfl⟩
  rw [← hev]
  have hev : Hid (ev = ((l.length : Int) == 0)) := hev
  clear H e1
  go_enter Tryz.func115, Tryz.ntmps115
  go_wp2_with fail
  refine L.mono ?_
  rintro e w1 ⟨rfl, n, rfl⟩
  clear L
  obtain ⟨a, c, rfl, -, -⟩ := (A n).atL
  clear A
  generalize l.length = ln at hev
  go_wp2_with fail
  go_ret
  exact ⟨by rw [hev.out]; rfl, n, rfl⟩

set_option maxHeartbeats 1600000 in
theorem hread_any (h : Hi) (t : Int) (w : World) (H : HistAt w h) (hs : Rise h.live) (hsz : ∀ x ∈ h.live, x.val.size ≤ 281474976710656) :
    Calls Tryz.prog 85 #[.pointer (some ⟨h.blk, 0, none⟩), .int .i64 t] w fun e w' => e = .returned (.tuple #[.string (readL t h.live).1, .bool (readL t h.live).2]) ∧ Below w.heap.size w w' := by
  replace hsz : Hid (∀ x ∈ h.live, x.val.size ≤ 281474976710656) := hsz
  have U := upTo_any h t w H hs
  have LL := fun w1 (H1 : HistAt w1 h) => live_any h w1 H1
  have hlt : h.blk < w.heap.size := H.blk.lt
  have HB : ∀ w1, Below w.heap.size w w1 → HistAt w1 h := fun w1 hb => H.of_block (hb.block _ hlt) (fun g hg => hb.block _ (H.row.lt g hg).2)
  have AA := fun w1 (H1 : HistAt w1 h) => H1.liveAt
  obtain ⟨rv, hrv⟩ : ∃ rv, rv = readL t h.live := ⟨_, rfl⟩
  rw [← hrv]
  have hrv : Hid (rv = readL t h.live) := hrv
  have hfew := live_len H.few
  have hle := upTo_le t h.live
  have hread : ∀ k, upToP t h.live = k + 1 → ∃ x, h.live[k]? = some x ∧ rv = (x.val, !x.gone) := by
    intro k hk
    have hkl : k < h.live.length := by omega
    refine ⟨h.live[k], List.getElem?_eq_getElem hkl, ?_⟩
    rw [hrv.out]
    unfold readL
    rw [hk]
    simp [List.getElem?_eq_getElem hkl]
  have hzero : upToP t h.live = 0 → rv = (ByteArray.empty, false) := by
    intro hk
    rw [hrv.out]
    unfold readL
    rw [hk]
  generalize liveV h.off h.row = lv at LL AA
  generalize hu : upToP t h.live = u at *
  clear hu hrv H hs
  generalize h.live = l at *
  generalize hbk : h.blk = hb at *
  go_enter Tryz.func85, Tryz.ntmps85
  go_wp2_with fail
  refine U.mono ?_
  rintro e w1 ⟨rfl, hb1⟩
  clear U
  by_cases hu0 : u = 0
  · subst hu0
    obtain rfl := hzero rfl
    clear hzero hread LL HB AA hle hfew hsz
    go_wp2_with fail
    exact bodyPost_ret (v := .tuple #[.string ⟨#[]⟩, .bool false]) (by simp [results, Tryz.results85, go_sem]) rfl ⟨rfl, hb1⟩
  · obtain ⟨k, hk⟩ : ∃ k, u = k + 1 := ⟨u - 1, by omega⟩
    obtain ⟨x, hx, rfl⟩ := hread k hk
    have L := LL w1 (HB w1 hb1)
    replace hsz : Hid (x.val.size ≤ 281474976710656) := hsz.out x (List.mem_of_getElem? hx)
    have A := fun n => AA (w1.drewN n) ((HB w1 hb1).drewN n)
    have HK : Hid (u = k + 1 ∧ k < l.length ∧ l.length < 1000000) := ⟨hk, by have := (List.getElem?_eq_some_iff.1 hx).1; exact this, hfew⟩
    have hun : ¬ ((u : Int) = 0) := by omega
    clear LL HB AA hread hzero hle hfew hrv hk hu0
    go_wp2_with fail
    refine L.mono ?_
    rintro e w2 ⟨rfl, n, rfl⟩
    clear L
    have hb2 : Below w.heap.size w (w1.drewN n) := hb1.trans ((below_drewN w1 n).mono hb1.size)
    have A := A n
    generalize w1.drewN n = w2 at A hb2
    clear hb1
    rcases A with ⟨rfl, _⟩ | ⟨g, o, c, rfl, _, _, hg, hcell⟩
    · simp at hx
    · obtain ⟨a1, a2, a3⟩ := hcell k x hx
      clear hcell hx
      obtain ⟨hk1, hk2, hk3⟩ := HK.out
      generalize l.length = ln at *
      have hk1 : (u : Int) - 1 = (k : Int) := by omega
      have hkI : (k : Int) < (ln : Int) := by omega
      have hk0 : (0 : Int) ≤ (k : Int) := by omega
      have hlI : (ln : Int) < 1000000 := by omega
      clear HK hk2 hk3
      go_wp2_with fail
      have hb3 : Below w.heap.size w (w2.alloc (.cells #[.int .i64 x.at', .string x.val, .bool x.gone] 152)) := hb2.alloc hb2.size _
      have d0 : (w2.alloc (.cells #[.int .i64 x.at', .string x.val, .bool x.gone] 152)).cell? ⟨w2.heap.size, 1, none⟩ = some (.string x.val) := (Blk.new w2 _ _).cell (i := 1) rfl
      have d1 : (w2.alloc (.cells #[.int .i64 x.at', .string x.val, .bool x.gone] 152)).cell? ⟨w2.heap.size, 2, none⟩ = some (.bool x.gone) := (Blk.new w2 _ _).cell (i := 2) rfl
      clear a1 a2 a3 hb2 hk1 hkI hk0 hlI A hun
      generalize w2.alloc (.cells #[.int .i64 x.at', .string x.val, .bool x.gone] 152) = w3 at *
      generalize w2.heap.size = xb at *
      have e0 := cell_regrown d0
      have e1 := cell_regrown d1
      have Q0 := fun d os => Calls.regrown_of (clone_any x.val hsz.out (grow (redrawn w3 d) os))
      clear hsz
      refine wp_region_quiet_below (by kernel_rfl) (by kernel_rfl) ?_
      repeat (quiet_step (first | with_reducible exact Q0 _ _))
      refine wpQuiet_nil ?_
      intro _ hw'
      obtain ⟨⟨dq, osq⟩, hw''⟩ := hw'
      subst hw''
      have hb4 := below_regrown w3 dq osq
      clear Q0 e0 e1
      generalize grow (redrawn w3 dq) osq = w4 at *
      go_wp2_with fail
      exact bodyPost_ret (v := .tuple #[.string x.val, .bool (!x.gone)]) (by simp [results, Tryz.results85, go_sem]) rfl ⟨rfl, hb3.trans (hb4.mono hb3.size)⟩

set_option maxHeartbeats 1600000 in
/-- One version more. -/
theorem add_any (h : Hi) (x : Vr) (w : World) (H : HistAt w h) (hf : h.all.length < 999999) :
    Calls Tryz.prog 139 #[.pointer (some ⟨h.blk, 0, none⟩), .agg #[.int .i64 x.at', .string x.val, .bool x.gone]] w fun e w' => e = .returned (.tuple #[]) ∧
      ∃ row, HistAt w' { h with row := row, all := h.all ++ [x] } ∧ Only (fun k => k = h.blk ∨ h.row.ownBlock = some k) w w' ∧ ∀ g, row.ownBlock = some g → h.row.ownBlock = some g ∨ w.heap.size ≤ g := by
  obtain ⟨blk, key, row, all, off⟩ := h
  simp only at *
  have c1 := H.blk.cell (i := 1) (v := row) rfl
  have f1 := H.blk.thawed 1
  have hblk := H.blk
  have hrow := H.row
  have hX : blk < w.heap.size := H.blk.lt
  have hkey := H.key
  have hoff := H.off
  simp only at hblk hrow hkey hoff
  have hne : row.ownBlock ≠ some blk := by
    intro e
    rcases hrow.2 with ⟨rfl, _⟩ | ⟨g, cap, cur, rfl, _, hg, _⟩
    · cases e
    · simp [Value.ownBlock] at e
      subst e
      rw [hblk] at hg
      simp at hg
  have hoff2 : off ≤ all.length := by rcases hoff with h | ⟨h, _⟩ <;> omega
  clear H hoff
  obtain ⟨i0, hi0, hz0, hz2, hz3⟩ := info_parts info_ver
  go_enter Tryz.func139, Tryz.ntmps139
  go_wp2_with fail
  have B1 := below_new w (.cells #[.int .i64 x.at', .string x.val, .bool x.gone] 152)
  have x0 : (w.alloc (.cells #[.int .i64 x.at', .string x.val, .bool x.gone] 152)).cell? ⟨w.heap.size, 0, none⟩ = some (.int .i64 x.at') := (Blk.new w _ _).cell (i := 0) rfl
  have x1 : (w.alloc (.cells #[.int .i64 x.at', .string x.val, .bool x.gone] 152)).cell? ⟨w.heap.size, 1, none⟩ = some (.string x.val) := (Blk.new w _ _).cell (i := 1) rfl
  have x2 : (w.alloc (.cells #[.int .i64 x.at', .string x.val, .bool x.gone] 152)).cell? ⟨w.heap.size, 2, none⟩ = some (.bool x.gone) := (Blk.new w _ _).cell (i := 2) rfl
  have hs : (w.alloc (.cells #[.int .i64 x.at', .string x.val, .bool x.gone] 152)).heap.size = w.heap.size + 1 := by simp
  generalize w.alloc (.cells #[.int .i64 x.at', .string x.val, .bool x.gone] 152) = w1 at *
  have c1 := kept_cell B1 c1
  have f1 := kept_thawed B1 hX f1
  have hrow1 := row_thru hrow (fun g hg => B1.block g (hrow.lt g hg).2)
  have hXX : blk ≠ w.heap.size := by omega
  have hXw1 : blk < w1.heap.size := by omega
  have c1d : w1.drew.cell? ⟨blk, 1, none⟩ = some row := c1
  have f1d : w1.drew.frozen? ⟨blk, 1, none⟩ = false := f1
  generalize hXb : w.heap.size = X at *
  clear hs
  go_region_law
    (first
      | (refine step_append_lies _ (by rfl) _ _ _ (by rfl) 0 152 i0 _ 3 32 Tryz.underlying153 hi0 hz0 hz2 hz3 rfl (by omega) row all.length (encVs all) (by rfl) (hrow1.drew.alloc _)
          ⟨w1.heap.size, 0, none⟩ 1 1 [.int .i64 x.at', .string x.val, .bool x.gone] (by rfl) (by rfl) (World.news_of_block (cs := #[.int .i64 x.at', .string x.val, .bool x.gone]) (t := 152) (fr := (0, 0)) (heap_alloc_new w1.drew _)) (by simp [Value.oneCell']) (by omega) (by unfold maxLen; omega) (by omega) (Nat.zero_le _) (w1.heap.size + 1) (by simp) ?_; intro gg cap w6 hown6 hgrow hat hlt6; have x6 := hgrow.cell (kept_alloc c1d) (Ne.symm hne); have th6 : w6.frozen? ⟨blk, 1, none⟩ = false := (hgrow.frozen_far ⟨blk, 1, none⟩ (Nat.lt_of_lt_of_le hXw1 (by simp)) (Ne.symm hne)).trans (kept_thawed ((Below.refl _ _).alloc (Nat.le_refl _) _) hXw1 f1d)))
  all_goals
    clear c1d f1d c1 f1 x0 x1 x2
    have O1 : Only (fun k => k = blk ∨ row.ownBlock = some k) w w6 := by
      have g1 : (w1.alloc (Obj.cells #[.int .i64 x.at', .string x.val, .bool x.gone] 152)).grownBy w6 row.ownBlock := ⟨hgrow.os, hgrow.tape, hgrow.output, hgrow.size, hgrow.block⟩
      have b2 := B1.alloc (by have := B1.size; omega) (Obj.cells #[.int .i64 x.at', .string x.val, .bool x.gone] 152)
      refine ⟨g1.os.trans b2.os, g1.tape.trans b2.tape, g1.output.trans b2.output, Nat.le_trans b2.size g1.size, fun k hk hn => ?_⟩
      rw [hXb] at hk
      rw [g1.block k (by have := b2.size; omega) (fun e => hn (.inr e.symm)), b2.block k hk]
    have O2 : Only (fun k => k = blk ∨ row.ownBlock = some k) w (w6.setCell ⟨blk, 1, none⟩ (.slice (some ⟨gg, 0, none⟩) (all.length + 1) cap)) :=
      ⟨O1.os, O1.tape, O1.output, by simp [World.setCell]; exact O1.size, fun k hk hn => (Below.heap_setCell _ _ _ _ (fun e => hn (.inl e))).trans (O1.block k hk hn)⟩
    have hb6 : Blk w6 blk #[.string key, row, .int .i64 off] 161 := hblk.of_block ((hgrow.block blk (by simp; omega) (Ne.symm hne)).trans ((below_new w1 _).block blk hXw1 |>.trans (B1.block blk hX)))
    have hb7 : Blk (w6.setCell ⟨blk, 1, none⟩ (.slice (some ⟨gg, 0, none⟩) (all.length + 1) cap)) blk #[.string key, .slice (some ⟨gg, 0, none⟩) (all.length + 1) cap, .int .i64 off] 161 := hb6.set 1 _
    have hgb : blk ≠ gg := by
      rintro rfl
      rcases hat with h | h
      · exact hne h
      · omega
    have hr7 := ownsRow_setCell_other hown6 (a := ⟨blk, 1, none⟩) (by simpa [Value.ownBlock] using Ne.symm hgb) (.slice (some ⟨gg, 0, none⟩) (all.length + 1) cap)
    go_wp2_with fail
    go_end0
    refine ⟨rfl, _, ⟨hb7, ?_, .inl ?_, ?_, hkey⟩, O2, ?_⟩
    · simp only [encVs_append, List.length_append, List.length_cons, List.length_nil]
      exact hr7
    · simp; omega
    · simp; omega
    · intro g hg
      simp [Value.ownBlock] at hg
      subst hg
      rcases hat with h | h
      · exact .inl h
      · right
        have := B1.size
        omega
end Go.Proofs.YtlncljfljjaacaaGreatDoor

namespace Go.Proofs.YtlncljfljjaacaaGreatDoor
open Go.ChangeShapes Go.WideShapes Go.ChangeAt Go.RowKit
open Go.Sort (grow)
set_option linter.unusedVariables false
set_option linter.unusedSimpArgs false

def ptrV (b : Nat) : Value := .pointer (some ⟨b, 0, none⟩)
def ptrs (l : List Nat) : List Value := l.map ptrV

theorem ptrs_get {l : List Nat} {j b : Nat} (h : l[j]? = some b) : (ptrs l)[j]? = some (ptrV b) := by simp [ptrs, h]
theorem ptrs_len (l : List Nat) : (ptrs l).length = l.length := by simp [ptrs]

def swapL (l : List Nat) (i j : Nat) : List Nat := (l.set i (l.getD j 0)).set j (l.getD i 0)
theorem swapL_len (l : List Nat) (i j : Nat) : (swapL l i j).length = l.length := by simp [swapL]

/-- The row of a heap, and each history that is in it. -/
structure DueAt (w : World) (v : Value) (l : List Nat) (hi : Nat → Hi) : Prop where
  row : w.ownsRow 0 135 1 v l.length (ptrs l)
  his : ∀ b ∈ l, (hi b).blk = b ∧ HistAt w (hi b) ∧ waitsP (hi b).live = true
  few : l.length < 1000000

theorem HistAt.below {w w' : World} {h : Hi} (H : HistAt w h) (hb : Below w.heap.size w w') : HistAt w' h :=
  H.of_block (hb.block _ H.blk.lt) (fun g hg => hb.block _ (H.row.lt g hg).2)

theorem DueAt.below {w w' : World} {v : Value} {l : List Nat} {hi : Nat → Hi} (D : DueAt w v l hi) (hb : Below w.heap.size w w') : DueAt w' v l hi :=
  ⟨row_thru D.row (fun g hg => hb.block g (D.row.lt g hg).2), fun b m => ⟨(D.his b m).1, (D.his b m).2.1.below hb, (D.his b m).2.2⟩, D.few⟩

theorem next_below (h : Hi) (w : World) (H : HistAt w h) (hw : waitsP h.live = true) :
    Calls Tryz.prog 92 #[.pointer (some ⟨h.blk, 0, none⟩)] w fun e w' => e = .returned (.int .i64 (nextP h.live)) ∧ Below w.heap.size w w' :=
  (next_any h w H hw).mono fun _ _ ⟨h1, n, h2⟩ => ⟨h1, h2 ▸ below_drewN w n⟩

set_option maxHeartbeats 1600000 in
theorem less_any (v : Value) (l : List Nat) (hi : Nat → Hi) (i j a b : Nat) (w : World) (D : DueAt w v l hi) (hi1 : l[i]? = some a) (hj1 : l[j]? = some b) :
    Calls Tryz.prog 395 #[v, .int .i64 i, .int .i64 j] w fun e w' => e = .returned (.bool (decide (nextP (hi a).live < nextP (hi b).live))) ∧ Below w.heap.size w w' := by
  obtain ⟨ha1, ha2, ha3⟩ := D.his a (List.mem_of_getElem? hi1)
  obtain ⟨hb1, hb2, hb3⟩ := D.his b (List.mem_of_getElem? hj1)
  have hil := (List.getElem?_eq_some_iff.1 hi1).1
  have hjl := (List.getElem?_eq_some_iff.1 hj1).1
  obtain ⟨g, cap, rfl, _, hg⟩ := D.row.form (by omega)
  have c1 := D.row.cells (g := g) rfl _ _ (ptrs_get hi1)
  have c2 := D.row.cells (g := g) rfl _ _ (ptrs_get hj1)
  rw [cell_add, Nat.zero_add] at c1 c2
  unfold ptrV at c1 c2
  have e0 := cell_regrown c1
  have e1 := cell_regrown c2
  have Q0 := fun d os => Calls.regrown_of (next_below (hi a) (grow (redrawn w d) os) (ha2.below (below_regrown w d os)) ha3)
  have Q1 := fun d os => Calls.regrown_of (next_below (hi b) (grow (redrawn w d) os) (hb2.below (below_regrown w d os)) hb3)
  rw [ha1] at Q0
  rw [hb1] at Q1
  have hiI : (i : Int) < (l.length : Int) := by omega
  have hjI : (j : Int) < (l.length : Int) := by omega
  clear D ha1 ha2 ha3 hb1 hb2 hb3 hil hjl hi1 hj1
  generalize l.length = ln at *
  generalize nextP (hi a).live = na at *
  generalize nextP (hi b).live = nb at *
  go_enter Tryz.func395, Tryz.ntmps395
  go_wp2_with fail
  refine wp_region_quiet_below (by kernel_rfl) (by kernel_rfl) ?_
  repeat (quiet_step (first | with_reducible exact Q0 _ _ | with_reducible exact Q1 _ _))
  refine wpQuiet_nil ?_
  intro _ hw'
  obtain ⟨⟨dq, osq⟩, hw''⟩ := hw'
  subst hw''
  have hb4 := below_regrown w dq osq
  clear Q0 Q1 e0 e1
  generalize grow (redrawn w dq) osq = w4 at *
  go_wp2_with fail
  go_ret
  exact ⟨rfl, hb4⟩
end Go.Proofs.YtlncljfljjaacaaGreatDoor

namespace Go.Proofs.YtlncljfljjaacaaGreatDoor
open Go.ChangeShapes Go.WideShapes Go.ChangeAt Go.RowKit
open Go.Sort (grow)
set_option linter.unusedVariables false
set_option linter.unusedSimpArgs false

theorem ptrs_set (l : List Nat) (j b : Nat) : (ptrs l).set j (ptrV b) = ptrs (l.set j b) := by simp [ptrs, List.map_set]

set_option maxHeartbeats 1600000 in
theorem swap_any (v : Value) (l : List Nat) (i j : Nat) (w : World) (D : w.ownsRow 0 135 1 v l.length (ptrs l)) (hf : l.length < 1000000) (hil : i < l.length) (hjl : j < l.length) :
    Calls Tryz.prog 396 #[v, .int .i64 i, .int .i64 j] w fun e w' => e = .returned (.tuple #[]) ∧ w'.ownsRow 0 135 1 v l.length (ptrs (swapL l i j)) ∧ Only (fun k => v.ownBlock = some k) w w' := by
  obtain ⟨a, hi1⟩ : ∃ a, l[i]? = some a := ⟨_, List.getElem?_eq_getElem hil⟩
  obtain ⟨b, hj1⟩ : ∃ b, l[j]? = some b := ⟨_, List.getElem?_eq_getElem hjl⟩
  have hsw : swapL l i j = (l.set i b).set j a := by
    unfold swapL
    rw [List.getD_eq_getElem?_getD, List.getD_eq_getElem?_getD, hi1, hj1]
    rfl
  rw [hsw]
  obtain ⟨g, cap, rfl, _, hg⟩ := D.form (by omega)
  have hgw : w.drew.heap.size = w.heap.size := rfl
  have hn1 : l.length * 1 = l.length := by omega
  have c1 := D.cells (g := g) rfl _ _ (ptrs_get hi1)
  have c2 := D.cells (g := g) rfl _ _ (ptrs_get hj1)
  rw [cell_add, Nat.zero_add] at c1 c2
  have f1 := D.frozenAt i
  have f2 := D.frozenAt j
  obtain ⟨R1, G1⟩ := D.stored i (ptrV b)
  obtain ⟨R2, G2⟩ := R1.stored j (ptrV a)
  have F2 := R1.frozenAt j
  have C2 : ∃ z, (w.setCell ⟨g, i, none⟩ (ptrV b)).cell? ⟨g, j, none⟩ = some z := by
    rw [R1.cellAt j (by omega)]
    exact ⟨_, List.getElem?_eq_getElem (by simp [ptrs_len]; omega)⟩
  obtain ⟨z, C2⟩ := C2
  rw [ptrs_set, ptrs_set] at R2
  have OO : Only (fun k => (Value.slice (some ⟨g, 0, none⟩) l.length cap).ownBlock = some k) w ((w.setCell ⟨g, i, none⟩ (ptrV b)).setCell ⟨g, j, none⟩ (ptrV a)).drew :=
    ⟨G2.os.trans G1.os, G2.tape.trans G1.tape, G2.output.trans G1.output, Nat.le_trans G1.size G2.size, fun k hk hn => (G2.block k (Nat.lt_of_lt_of_le hk G1.size) (fun e => hn (by rw [e]; rfl))).trans (G1.block k hk (fun e => hn (by rw [e]; rfl)))⟩
  have RO : Hid _ := And.intro R2.drew OO
  have hiI : (i : Int) < (l.length : Int) := by omega
  have hjI : (j : Int) < (l.length : Int) := by omega
  clear D R1 G1 R2 G2 OO hil hjl hi1 hj1 hsw hf hn1 hgw
  unfold ptrV at c1 c2 C2 F2 RO
  generalize hln : l.length = ln at *
  go_enter Tryz.func396, Tryz.ntmps396
  go_wp2_with fail
  go_region
  go_wp2_with fail
  go_end0
  exact ⟨rfl, RO.out⟩
end Go.Proofs.YtlncljfljjaacaaGreatDoor

namespace Go.Proofs.YtlncljfljjaacaaGreatDoor
set_option linter.unusedVariables false
set_option linter.unusedSimpArgs false

def swK (K : Nat → Int) (i j k : Nat) : Int := if k = j then K i else if k = i then K j else K k
def HeapOn (K : Nat → Int) (n : Nat) : Prop := ∀ k, 0 < k → k < n → K ((k - 1) / 2) ≤ K k
def UpInv (K : Nat → Int) (j n : Nat) : Prop := (∀ k, 0 < k → k < n → k ≠ j → K ((k - 1) / 2) ≤ K k) ∧ (∀ k, 0 < k → k < n → (k - 1) / 2 = j → 0 < j → K ((j - 1) / 2) ≤ K k)
def DownInv (K : Nat → Int) (i n : Nat) : Prop := (∀ k, 0 < k → k < n → (k - 1) / 2 ≠ i → K ((k - 1) / 2) ≤ K k) ∧ (∀ k, 0 < k → k < n → (k - 1) / 2 = i → 0 < i → K ((i - 1) / 2) ≤ K k)

theorem up_done {K : Nat → Int} {j n : Nat} (U : UpInv K j n) (h : j = 0 ∨ K ((j - 1) / 2) ≤ K j) : HeapOn K n := by
  intro k h0 hn
  by_cases e : k = j
  · subst e
    rcases h with h | h
    · omega
    · exact h
  · exact U.1 k h0 hn e

theorem up_step {K : Nat → Int} {j n : Nat} (U : UpInv K j n) (h0 : 0 < j) (hn : j < n) (h : K j < K ((j - 1) / 2)) : UpInv (swK K ((j - 1) / 2) j) ((j - 1) / 2) n := by
  generalize hp : (j - 1) / 2 = p at *
  have hpj : p < j := by omega
  constructor
  · intro k k0 kn kp
    by_cases e : k = j
    · subst e
      rw [hp]
      simp only [swK, if_true, if_neg (show ¬ p = k by omega)]
      omega
    · have a1 := U.1 k k0 kn e
      by_cases e1 : (k - 1) / 2 = j
      · have a2 := U.2 k k0 kn e1 h0
        rw [hp] at a2
        simp only [swK, if_pos e1, if_neg e, if_neg kp]
        exact a2
      · by_cases e2 : (k - 1) / 2 = p
        · rw [e2] at a1
          simp only [swK, e2, if_neg (show ¬ p = j by omega), if_true, if_neg e, if_neg kp]
          omega
        · simp only [swK, if_neg e1, if_neg e2, if_neg e, if_neg kp]
          exact a1
  · intro k k0 kn kp hp0
    have b1 := U.1 p hp0 (by omega) (by omega)
    by_cases e : k = j
    · subst e
      simp only [swK, if_true, if_neg (show ¬ (p - 1) / 2 = k by omega), if_neg (show ¬ (p - 1) / 2 = p by omega)]
      exact b1
    · have a1 := U.1 k k0 kn e
      rw [kp] at a1
      simp only [swK, if_neg (show ¬ (p - 1) / 2 = j by omega), if_neg (show ¬ (p - 1) / 2 = p by omega), if_neg e, if_neg (show ¬ k = p by omega)]
      omega

theorem down_done {K : Nat → Int} {i n : Nat} (U : DownInv K i n) (h : ∀ k, 0 < k → k < n → (k - 1) / 2 = i → K i ≤ K k) : HeapOn K n := by
  intro k h0 hn
  by_cases e : (k - 1) / 2 = i
  · rw [e]; exact h k h0 hn e
  · exact U.1 k h0 hn e

theorem down_step {K : Nat → Int} {i j n : Nat} (U : DownInv K i n) (hj : (j - 1) / 2 = i) (h0 : 0 < j) (hn : j < n) (hmin : ∀ k, 0 < k → k < n → (k - 1) / 2 = i → K j ≤ K k) (h : K j < K i) : DownInv (swK K i j) j n := by
  have hij : i < j := by omega
  constructor
  · intro k k0 kn kp
    by_cases e1 : (k - 1) / 2 = i
    · have a := hmin k k0 kn e1
      by_cases e : k = j
      · subst e
        simp only [swK, e1, if_true, if_neg (show ¬ i = k by omega)]
        omega
      · simp only [swK, e1, if_neg (show ¬ i = j by omega), if_true, if_neg e, if_neg (show ¬ k = i by omega)]
        exact a
    · have a := U.1 k k0 kn e1
      have e : ¬ k = j := by rintro rfl; exact e1 hj
      by_cases e2 : k = i
      · subst e2
        have b := U.2 j h0 hn hj k0
        simp only [swK, if_neg kp, if_neg e1, if_neg e, if_true]
        exact b
      · simp only [swK, if_neg kp, if_neg e1, if_neg e, if_neg e2]
        exact a
  · intro k k0 kn kp _
    have a := U.1 k k0 kn (by omega)
    rw [kp] at a
    simp only [swK, hj, if_neg (show ¬ i = j by omega), if_true, if_neg (show ¬ k = j by omega), if_neg (show ¬ k = i by omega)]
    exact a

/-- The keys of a list. -/
def keyL (f : Nat → Int) (l : List Nat) (k : Nat) : Int := f (l.getD k 0)

theorem swapL_get {l : List Nat} {i j : Nat} (hi : i < l.length) (hj : j < l.length) (k : Nat) : (swapL l i j).getD k 0 = if k = j then l.getD i 0 else if k = i then l.getD j 0 else l.getD k 0 := by
  unfold swapL
  simp only [List.getD_eq_getElem?_getD, List.getElem?_set, List.length_set]
  by_cases e : k = j
  · subst e; simp [hj]
  · rw [if_neg (Ne.symm e), if_neg e]
    by_cases e2 : k = i
    · subst e2; simp [hi]
    · rw [if_neg (Ne.symm e2), if_neg e2]

theorem keyL_swap (f : Nat → Int) {l : List Nat} {i j : Nat} (hi : i < l.length) (hj : j < l.length) : keyL f (swapL l i j) = swK (keyL f l) i j := by
  funext k
  unfold keyL swK
  rw [swapL_get hi hj k]
  split
  · rfl
  · split <;> rfl

theorem swapL_perm {l : List Nat} {i j : Nat} (hi : i < l.length) (hj : j < l.length) : (swapL l i j).Perm l := by
  unfold swapL
  rw [List.getD_eq_getElem?_getD, List.getD_eq_getElem?_getD, List.getElem?_eq_getElem hi, List.getElem?_eq_getElem hj]
  exact List.set_set_perm hi hj

theorem push_inv {f : Nat → Int} {l : List Nat} {x : Nat} (H : HeapOn (keyL f l) l.length) : UpInv (keyL f (l ++ [x])) l.length (l ++ [x]).length := by
  have e : ∀ k, k < l.length → keyL f (l ++ [x]) k = keyL f l k := by
    intro k hk
    unfold keyL
    rw [List.getD_eq_getElem?_getD, List.getD_eq_getElem?_getD, List.getElem?_append_left hk]
  constructor
  · intro k k0 kn kj
    have : k < l.length := by simp at kn; omega
    rw [e _ this, e _ (by omega)]
    exact H k k0 this
  · intro k k0 kn kp h0
    simp at kn
    omega

theorem pop_inv {f : Nat → Int} {l : List Nat} (h0 : 0 < l.length) (H : HeapOn (keyL f l) l.length) : DownInv (keyL f (swapL l 0 (l.length - 1))) 0 (l.length - 1) := by
  rw [keyL_swap f h0 (by omega)]
  constructor
  · intro k k0 kn kp
    simp only [swK, if_neg (show ¬ (k - 1) / 2 = l.length - 1 by omega), if_neg kp, if_neg (show ¬ k = l.length - 1 by omega), if_neg (show ¬ k = 0 by omega)]
    exact H k k0 (by omega)
  · intro k _ _ _ h; omega
end Go.Proofs.YtlncljfljjaacaaGreatDoor

namespace Go.Proofs.YtlncljfljjaacaaGreatDoor
open Go.ChangeShapes Go.WideShapes Go.ChangeAt Go.RowKit
set_option linter.unusedVariables false
set_option linter.unusedSimpArgs false

theorem meth_info {t : TypeId} {name : String} {f : FuncId} {b : Bool} (h : ((Tryz.prog.info? t).bind fun i => (i.methods.find? (·.name == name)).map fun m => (m.path, m.func)) = some (#[], some (f, b))) (w : World) :
    ∃ i m, Sem.run Tryz.prog (typeInfo t) w = .ok i w ∧ i.methods.find? (·.name == name) = some m ∧ m.path = #[] ∧ m.func = some (f, b) := by
  cases hi : Tryz.prog.info? t with
  | none => rw [hi] at h; cases h
  | some i =>
    rw [hi] at h
    cases hm : i.methods.find? (·.name == name) with
    | none => simp [hm] at h
    | some m =>
      simp only [Option.bind_some, hm, Option.map_some, Option.some.injEq, Prod.mk.injEq] at h
      exact ⟨i, m, by simp [typeInfo, hi, go_sem], hm, h.1, h.2⟩
theorem run_wrapchk {P : Program} (ats : Array TypeId) (t : TypeId) (q : Addr) (a b : String) (w : World) : Sem.run P (Builtin.ssaWrapNilChk_ ats t #[.pointer (some q), strVal a, strVal b]) w = .ok (.pointer (some q)) w := rfl

theorem less_m (w : World) (q : Addr) (v : Value) (hq : w.cell? q = some v) : Sem.run Tryz.prog (method 556 199 (.pointer (some q)) "Less") w = .ok (395, v) w := by
  obtain ⟨i, m, h1, h2, h3, h4⟩ := meth_info (t := 199) (name := "Less") (f := 395) (b := false) (by kernel_rfl) w
  unfold method
  simp only [Sem.run_bind, h1, Result.andThen_ok, h2]
  simp [follow, receiverAt, go_sem, Place.get, run_wrapchk, hq, h3, h4]
theorem swap_m (w : World) (q : Addr) (v : Value) (hq : w.cell? q = some v) : Sem.run Tryz.prog (method 556 199 (.pointer (some q)) "Swap") w = .ok (396, v) w := by
  obtain ⟨i, m, h1, h2, h3, h4⟩ := meth_info (t := 199) (name := "Swap") (f := 396) (b := false) (by kernel_rfl) w
  unfold method
  simp only [Sem.run_bind, h1, Result.andThen_ok, h2]
  simp [follow, receiverAt, go_sem, Place.get, run_wrapchk, hq, h3, h4]
theorem len_m (w : World) (q : Addr) (v : Value) (hq : w.cell? q = some v) : Sem.run Tryz.prog (method 556 199 (.pointer (some q)) "Len") w = .ok (394, v) w := by
  obtain ⟨i, m, h1, h2, h3, h4⟩ := meth_info (t := 199) (name := "Len") (f := 394) (b := false) (by kernel_rfl) w
  unfold method
  simp only [Sem.run_bind, h1, Result.andThen_ok, h2]
  simp [follow, receiverAt, go_sem, Place.get, run_wrapchk, hq, h3, h4]
theorem push_m (w : World) (q : Addr) : Sem.run Tryz.prog (method 556 199 (.pointer (some q)) "Push") w = .ok (399, .pointer (some q)) w := by
  obtain ⟨i, m, h1, h2, h3, h4⟩ := meth_info (t := 199) (name := "Push") (f := 399) (b := true) (by kernel_rfl) w
  unfold method
  simp only [Sem.run_bind, h1, Result.andThen_ok, h2]
  simp [follow, receiverAt, go_sem, Place.get, run_wrapchk, h3, h4]
theorem pop_m (w : World) (q : Addr) : Sem.run Tryz.prog (method 556 199 (.pointer (some q)) "Pop") w = .ok (398, .pointer (some q)) w := by
  obtain ⟨i, m, h1, h2, h3, h4⟩ := meth_info (t := 199) (name := "Pop") (f := 398) (b := true) (by kernel_rfl) w
  unfold method
  simp only [Sem.run_bind, h1, Result.andThen_ok, h2]
  simp [follow, receiverAt, go_sem, Place.get, run_wrapchk, h3, h4]
end Go.Proofs.YtlncljfljjaacaaGreatDoor
