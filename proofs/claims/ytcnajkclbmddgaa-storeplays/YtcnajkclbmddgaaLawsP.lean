/- What the laws' loops keep of a store with its pins. -/
import Derived.Test.YtcnajkclbmddgaaOwnP
import Derived.Test.YtcnajkclbmddgaaLawsL
namespace Go.Proofs.Ytcnajkclbmddgaa
open Go.ChangeShapes Go.WideShapes Go.ChangeAt Go.RowKit
set_option linter.unusedVariables false
set_option linter.unusedSimpArgs false

theorem commit_room {s : Sto} {ws : List Wr} (h : (s.v.length : Int) + ws.length ≤ s.all) : commitP s ws = ({ s with stamp := s.stamp + 1, v := s.v ++ ws.map fun w => ⟨w, s.stamp + 1⟩ }, s.stamp + 1, 0) := by
  unfold commitP
  rw [if_neg (by omega)]

/-- A commit of what writes has told. -/
theorem commit_row {B p m n : Nat} {w0 w4 w5 : World} {S : St} {s : Sto} (O : OwnP B p w0 w4 S s m) (hb5 : Below w4.heap.size w4 w5) {u : Value} (hu : w5.ownsRow w4.heap.size 54 3 u (writesP n).length (wrsCells (writesP n))) (ht : S.tot ≤ 800000) (hn : s.stamp ≤ 1000000) :
    Calls Try.prog 14 #[.pointer (some ⟨p, 0, none⟩), u] w5 fun e w' => ∃ S', e = .returned (.tuple #[.int .i64 (commitP s (writesP n)).2.1, .int .i64 (commitP s (writesP n)).2.2]) ∧ OwnP B p w0 w' S' (commitP s (writesP n)).1 m ∧ Step w5 w' S S' ∧ S'.tot ≤ S.tot + 3 := by
  have hl := writes_len n
  obtain ⟨g, c, rfl, hg1, hg2, WS⟩ := ws_own hu (by omega)
  have hgl : ¬ (S.lab g).isSome := fun e => by have := O.own.store.lt g e; omega
  refine (commit_ownP (O.later hb5) (some ⟨g, 0, none⟩) c (writesP n) WS (fun g' o' e => by injection e with e; injection e with e1 e2; rw [← e1]; exact hgl) (fun y hy => ?_) (by omega) hn).mono ?_
  · obtain ⟨j, hj⟩ := List.getElem?_of_mem hy
    obtain ⟨_, h1, h2⟩ := writes_key hj
    omega
  · rintro e w' ⟨S', rfl, O', T, ht'⟩
    exact ⟨S', rfl, O', T, by omega⟩

theorem commit_nil {B p m : Nat} {w0 w : World} {S : St} {s : Sto} (O : OwnP B p w0 w S s m) (ht : S.tot ≤ 800000) (hn : s.stamp ≤ 1000000) :
    Calls Try.prog 14 #[.pointer (some ⟨p, 0, none⟩), .slice none 0 0] w fun e w' => ∃ S', e = .returned (.tuple #[.int .i64 (commitP s []).2.1, .int .i64 (commitP s []).2.2]) ∧ OwnP B p w0 w' S' (commitP s []).1 m ∧ Step w w' S S' ∧ S'.tot ≤ S.tot := by
  refine (commit_ownP O none 0 [] ⟨fun h => by simp at h⟩ (fun g o e => by cases e) (fun x hx => by simp at hx) (by simp; omega) hn).mono ?_
  rintro e w' ⟨S', rfl, O', T, ht'⟩
  exact ⟨S', rfl, O', T, by simpa using ht'⟩

theorem OwnP.room {B p m : Nat} {w0 w : World} {S : St} {s : Sto} (O : OwnP B p w0 w S s m) {n : Nat} (h : (S.tot : Int) + 3 ≤ s.all) : (s.v.length : Int) + (writesP n).length ≤ s.all := by
  have := O.own.abs.tot
  have := writes_len n
  omega

structure Stamped (B p : Nat) (w0 w : World) (i : Nat) (t : Int) (S : St) (s : Sto) : Prop where
  own : OwnP B p w0 w S s i
  tot : S.tot ≤ 3 * i
  stamp : s.stamp = t
  all : s.all = 10000
  le : 0 ≤ t ∧ t ≤ i

theorem Stamped.commit {B p i : Nat} {w0 w w' : World} {t : Int} {S S' : St} {s : Sto} (Q : Stamped B p w0 w i t S s) (hi : i ≤ 50) {n : Nat} (O : OwnP B p w0 w' S' (commitP s (writesP n)).1 i) (ht : S'.tot ≤ S.tot + 3) :
    (commitP s (writesP n)).2 = (t + 1, 0) ∧ ∃ s', Stamped B p w0 w' (i + 1) (t + 1) S' s' := by
  have h1 := Q.tot
  have h2 := Q.all
  have h3 := Q.le
  have hr := commit_room (ws := writesP n) (Q.own.room (n := n) (by omega))
  rw [hr] at O ⊢
  refine ⟨by rw [← Q.stamp], _, O.more (by omega), by omega, ?_, h2, by omega⟩
  show s.stamp + 1 = t + 1
  rw [Q.stamp]

theorem Stamped.nil {B p i : Nat} {w0 w w' : World} {t : Int} {S S' : St} {s : Sto} (Q : Stamped B p w0 w i t S s) (hi : i ≤ 50) (O : OwnP B p w0 w' S' (commitP s []).1 i) (ht : S'.tot ≤ S.tot) :
    (commitP s []).2.1 = t + 1 ∧ ∃ s', Stamped B p w0 w' (i + 1) (t + 1) S' s' := by
  have h1 := Q.tot
  have h2 := Q.all
  have h3 := Q.le
  have h4 := Q.own.own.abs.tot
  have hr := commit_room (ws := []) (s := s) (by simp; omega)
  rw [hr] at O ⊢
  refine ⟨by show s.stamp + 1 = _; rw [← Q.stamp], _, O.more (by omega), by omega, ?_, h2, by omega⟩
  show s.stamp + 1 = t + 1
  rw [Q.stamp]

theorem Stamped.same {B p i : Nat} {w0 w w' : World} {t : Int} {S S' : St} {s s' : Sto} (Q : Stamped B p w0 w i t S s) (O : OwnP B p w0 w' S' s' (i + 1)) (ht : S'.tot = S.tot) (h1 : s'.stamp = s.stamp) (h2 : s'.all = s.all) : Stamped B p w0 w' (i + 1) t S' s' := by
  have q1 := Q.tot
  have q2 := Q.le
  exact ⟨O, by omega, h1.trans Q.stamp, h2.trans Q.all, by omega⟩
end Go.Proofs.Ytcnajkclbmddgaa
