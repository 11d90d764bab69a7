/- What the law StoreFull keeps; a commit of one write. -/
import Derived.Test.YtcnajkclbmddgaaLawsP
namespace Go.Proofs.Ytcnajkclbmddgaa
open Go.ChangeShapes Go.WideShapes Go.ChangeAt Go.RowKit
set_option linter.unusedVariables false
set_option linter.unusedSimpArgs false

structure Filled (B p : Nat) (w0 w : World) (i : Nat) (k : Int) (vl : Nat) (st : Int) (S : St) (s : Sto) : Prop where
  own : OwnP B p w0 w S s 0
  tot : S.tot ≤ 3 * i
  stamp : s.stamp = st
  le : 0 ≤ st ∧ st ≤ i
  all : s.all = k
  len : s.v.length = vl
  lek : (vl : Int) ≤ k

theorem Filled.full {B p i : Nat} {k st : Int} {vl : Nat} {w0 w4 w5 : World} {S : St} {s : Sto} (Q : Filled B p w0 w4 i k vl st S s) (hi : i ≤ 50) {n : Nat} (hb5 : Below w4.heap.size w4 w5) {u : Value} (hu : w5.ownsRow w4.heap.size 54 3 u (writesP n).length (wrsCells (writesP n))) (h : k < (vl : Int) + ((writesP n).length : Int)) :
    Calls Try.prog 14 #[.pointer (some ⟨p, 0, none⟩), u] w5 fun e w' => e = .returned (.tuple #[.int .i64 0, .int .i64 13]) ∧ ∃ S', Filled B p w0 w' (i + 1) k vl st S' s := by
  have h1 := Q.tot
  have h2 := Q.le
  refine (commit_row Q.own hb5 hu (by omega) (by rw [Q.stamp]; omega)).mono ?_
  rintro e w' ⟨S', rfl, O', -, ht⟩
  have hf : commitP s (writesP n) = (s, 0, 13) := by
    unfold commitP
    rw [if_pos (by rw [Q.all, Q.len]; exact h)]
  rw [hf] at O' ⊢
  exact ⟨rfl, S', O', by omega, Q.stamp, by omega, Q.all, Q.len, Q.lek⟩

theorem Filled.room {B p i : Nat} {k st : Int} {vl : Nat} {w0 w4 w5 : World} {S : St} {s : Sto} (Q : Filled B p w0 w4 i k vl st S s) (hi : i ≤ 50) {n : Nat} (hb5 : Below w4.heap.size w4 w5) {u : Value} (hu : w5.ownsRow w4.heap.size 54 3 u (writesP n).length (wrsCells (writesP n))) (h : (vl : Int) + ((writesP n).length : Int) ≤ k) :
    Calls Try.prog 14 #[.pointer (some ⟨p, 0, none⟩), u] w5 fun e w' => e = .returned (.tuple #[.int .i64 (st + 1), .int .i64 0]) ∧ ∃ S' s', Filled B p w0 w' (i + 1) k (vl + (writesP n).length) (st + 1) S' s' := by
  have h1 := Q.tot
  have h2 := Q.le
  refine (commit_row Q.own hb5 hu (by omega) (by rw [Q.stamp]; omega)).mono ?_
  rintro e w' ⟨S', rfl, O', -, ht⟩
  have hr := commit_room (s := s) (ws := writesP n) (by rw [Q.all, Q.len]; exact h)
  rw [hr] at O' ⊢
  refine ⟨by rw [← Q.stamp], S', _, O', by omega, ?_, by omega, Q.all, ?_, by omega⟩
  · show s.stamp + 1 = _
    rw [Q.stamp]
  · show (s.v ++ _).length = _
    simp [Q.len]

theorem Filled.clean {B p i : Nat} {k st : Int} {vl : Nat} {w0 w : World} {S : St} {s : Sto} (Q : Filled B p w0 w i k vl st S s) :
    Calls Try.prog 21 #[.pointer (some ⟨p, 0, none⟩)] w fun e w' => (∃ v, e = .returned (.int .i64 v)) ∧ ∃ (vl' : Nat) (S' : St) (s' : Sto), Filled B p w0 w' i k vl' st S' s' := by
  refine (clean_own Q.own).mono ?_
  rintro e w' ⟨S', rfl, O', -, ht⟩
  have hl := keepP_len (lowP s) s.v
  have h1 := Q.lek
  have h2 := Q.len
  exact ⟨⟨_, rfl⟩, _, S', _, O', by rw [ht]; exact Q.tot, Q.stamp, Q.le, Q.all, rfl, by unfold cleanP; simp only; omega⟩

theorem Filled.count {B p i : Nat} {k st : Int} {vl : Nat} {w0 w : World} {S : St} {s : Sto} (Q : Filled B p w0 w i k vl st S s) :
    Calls Try.prog 29 #[.pointer (some ⟨p, 0, none⟩)] w fun e w' => e = .returned (.int .i64 vl) ∧ w' = w := by
  have := count_own Q.own.own
  rwa [Q.len] at this
theorem Filled.now {B p i : Nat} {k st : Int} {vl : Nat} {w0 w : World} {S : St} {s : Sto} (Q : Filled B p w0 w i k vl st S s) :
    Calls Try.prog 25 #[.pointer (some ⟨p, 0, none⟩)] w fun e w' => e = .returned (.int .i64 st) ∧ w' = w := by
  have := now_own Q.own.own
  rwa [Q.stamp] at this
theorem Filled.later {B p i : Nat} {k st : Int} {vl : Nat} {w0 w w' : World} {S : St} {s : Sto} (Q : Filled B p w0 w i k vl st S s) (h : Below w.heap.size w w') : Filled B p w0 w' i k vl st S s :=
  ⟨Q.own.later h, Q.tot, Q.stamp, Q.le, Q.all, Q.len, Q.lek⟩
/-- A commit of one write that has just been laid. -/
theorem commit_oneP {B p m : Nat} {w0 w : World} {S : St} {s : Sto} (O : OwnP B p w0 w S s m) (x : Wr) (hx : x.key.size ≤ 281474976710656 ∧ x.val.size ≤ 281474976710656) (ht : S.tot ≤ 800000) (hn : s.stamp ≤ 1000000) :
    Calls Try.prog 14 #[.pointer (some ⟨p, 0, none⟩), .slice (some ⟨w.heap.size, 0, none⟩) 1 1] (w.alloc (.cells #[.string x.key, .string x.val, .bool x.gone] 54)) fun e w' => ∃ S', e = .returned (.tuple #[.int .i64 (commitP s [x]).2.1, .int .i64 (commitP s [x]).2.2]) ∧ OwnP B p w0 w' S' (commitP s [x]).1 m ∧ S'.tot ≤ S.tot + 1 := by
  have hnl : ∀ g o, (some ⟨w.heap.size, 0, none⟩ : Option Addr) = some ⟨g, o, none⟩ → ¬ (S.lab g).isSome := fun g o e h => by
    have := O.own.store.lt g h
    injection e with e
    injection e with e1 e2
    omega
  refine (commit_ownP (O.later (below_new w _)) (some ⟨w.heap.size, 0, none⟩) 1 [x] (ws_one w x) hnl (fun y hy => by simp at hy; subst hy; exact hx) (by simp; omega) hn).mono ?_
  rintro e w' ⟨S', rfl, O', -, ht'⟩
  exact ⟨S', rfl, O', by simpa using ht'⟩
end Go.Proofs.Ytcnajkclbmddgaa
