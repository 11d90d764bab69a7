/- Requests, step by step, in memory: Begin. -/
import Derived.Test.YtlncljfljjaacaaGreatDoorStD
import Derived.Test.YtlncljfljjaacaaGreatDoorExH
namespace Go.Proofs.YtlncljfljjaacaaGreatDoor
open Go.ChangeShapes Go.WideShapes Go.ChangeAt Go.RowKit
set_option linter.unusedVariables false
set_option linter.unusedSimpArgs false

theorem Blk.new' {w : World} {cs : Array Value} {t : TypeId} {X : Nat} (h : w.heap.size = X) : Blk (w.alloc (.cells cs t)) X cs t := h ▸ Blk.new w cs t

/-- A function, as a value. -/
def fnV (f : Nat) : Value := .func (.func f) #[] #[]
/-- A request on its way: its cells. -/
def txCs (p b : Nat) (k : Int) (n t : E.Bs) (tries : Int) (y next : Value) : Array Value :=
  #[.pointer (some ⟨p, 0, none⟩), .pointer (some ⟨b, 0, none⟩), .int .i64 k, .string (E.bs n), .string (E.bs t), .int .i64 0, .int .i64 tries, y, next]
/-- One that goes no further. -/
def offCs (tries : Int) : Array Value := #[.pointer none, .pointer none, .int .i64 0, .string ⟨#[]⟩, .string ⟨#[]⟩, .int .i64 0, .int .i64 tries, .pointer none, .nilFunc]
/-- A try. -/
def tryCs (p b : Nat) (k : Int) (n t : E.Bs) (st fi : Nat) (at' : Int) (looks : Value) (past : Int) (names : Value) (text : E.Bs) (is : Bool) : Array Value :=
  #[.pointer (some ⟨p, 0, none⟩), .pointer (some ⟨b, 0, none⟩), .int .i64 k, .string (E.bs n), .string (E.bs t), .int .i64 0,
    .string ⟨#[100]⟩, .string ⟨#[102]⟩, .int .i64 8, fnV st, fnV fi, .int .i64 at', looks, .int .i64 past, names, .string (E.bs text), .bool is, .slice none 0 0, .slice none 0 0]

set_option maxHeartbeats 3200000 in
set_option maxRecDepth 20000 in
theorem begin_any (p b : Nat) (k : Int) (n t : E.Bs) (R : E.Rq3 k n t) (w : World) (T : E.Tab w) :
    Calls Tryz.prog 13 #[.pointer (some ⟨p, 0, none⟩), .pointer (some ⟨b, 0, none⟩), E.rqV k n t] w fun e w' => ∃ g, e = .returned (.pointer (some ⟨g, 0, none⟩)) ∧ Below w.heap.size w w' ∧ Blk w' g (txCs p b k n t 0 (.pointer none) (fnV 25)) 77 ∧ w.heap.size ≤ g := by
  have hb0 := E.below_new w (.cells #[.int .i64 k, .string (E.bs n), .string (E.bs t), .int .i64 0] 37)
  have N := E.right_any k n t R _ (T.later hb0)
  unfold E.rqV at *
  go_enter Tryz.func13, Tryz.ntmps13
  go_wp2_with fail
  refine N.mono ?_
  rintro e w1 ⟨rfl, hb⟩
  have hb1 := hb0.trans (hb.mono hb0.size)
  have c : ∀ i x, #[Value.int .i64 k, .string (E.bs n), .string (E.bs t), .int .i64 0][i]? = some x → w1.cell? ⟨w.heap.size, i, none⟩ = some x := fun i x h => E.kept_cell hb (E.new_cell _ i x h)
  have c0 := c 0 _ rfl
  have c1 := c 1 _ rfl
  have c2 := c 2 _ rfl
  have c3 := c 3 _ rfl
  have C : ∀ s, s = n ∨ s = t → ∀ W, Calls Tryz.prog 22 #[.string (E.bs s)] W fun e w' => e = .returned (.string (E.bs s)) ∧ Below W.heap.size W w' := by
    have h1 := E.wordS_len R.name
    have h2 := R.text
    rintro s (rfl | rfl) W
    · exact E.clone_any s (by omega) W
    · exact E.clone_any s (by omega) W
  have f : ∀ i, w1.frozen? ⟨w.heap.size, i, none⟩ = false := fun i => E.kept_thawed hb (by simp) (E.new_thawed _ _)
  have f1 := f 1
  have f2 := f 2
  have hlt : w.heap.size < w1.heap.size := World.block_lt_of_cell? _ _ c0
  clear N c hb hb0 R T f
  replace hb1 := hb1.drew
  replace c0 : w1.drew.cell? _ = _ := c0
  replace c1 : w1.drew.cell? _ = _ := c1
  replace c2 : w1.drew.cell? _ = _ := c2
  replace c3 : w1.drew.cell? _ = _ := c3
  replace f1 : w1.drew.frozen? _ = _ := f1
  replace f2 : w1.drew.frozen? _ = _ := f2
  replace hlt : w.heap.size < w1.drew.heap.size := hlt
  go_wp2_with fail
  go_region_with (go_at_call 22; refine (C _ (by simp) _).mono ?_; rintro e w2 ⟨rfl, hb2⟩; replace hb1 := hb1.trans (hb2.mono hb1.size); replace f1 := E.kept_thawed hb2 hlt f1; replace f2 := E.kept_thawed hb2 hlt f2; replace hlt := Nat.lt_of_lt_of_le hlt hb2.size; replace c0 := E.kept_cell hb2 c0; replace c1 := E.kept_cell hb2 c1; replace c2 := E.kept_cell hb2 c2; replace c3 := E.kept_cell hb2 c3; clear hb2)
  all_goals go_wp2
  all_goals go_ret
  all_goals exact ⟨_, rfl, (hb1.setCell (Nat.le_refl _) _ |>.setCell (Nat.le_refl _) _ |>.alloc (by simpa using hb1.size) _), Blk.new' (by simp), hb1.size⟩
end Go.Proofs.YtlncljfljjaacaaGreatDoor
