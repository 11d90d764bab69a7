/- The heap of histories that wait: one against another, two exchanged. -/
import Derived.Test.YtcnajkclbmddgaaRead
import Derived.BigRegion
namespace Go.Proofs.Ytcnajkclbmddgaa
open Go.ChangeShapes Go.WideShapes Go.ChangeAt Go.RowKit
open Go.Sort (grow)
set_option linter.unusedVariables false
set_option linter.unusedSimpArgs false

def ptrV (b : Nat) : Value := .pointer (some ⟨b, 0, none⟩)
def ptrs (l : List Nat) : List Value := l.map ptrV

theorem ptrs_get {l : List Nat} {j b : Nat} (h : l[j]? = some b) : (ptrs l)[j]? = some (ptrV b) := by simp [ptrs, h]
theorem ptrs_len (l : List Nat) : (ptrs l).length = l.length := by simp [ptrs]

def swapL (l : List Nat) (i j : Nat) : List Nat := (l.set i (l.getD j 0)).set j (l.getD i 0)
theorem swapL_len (l : List Nat) (i j : Nat) : (swapL l i j).length = l.length := by simp [swapL]

/-- The row of a heap, and each history that is in it. -/
structure DueAt (w : World) (v : Value) (l : List Nat) (hi : Nat → Hi) : Prop where
  row : w.ownsRow 0 76 1 v l.length (ptrs l)
  his : ∀ b ∈ l, (hi b).blk = b ∧ HistAt w (hi b) ∧ waitsP (hi b).live = true
  few : l.length < 1000000

theorem HistAt.below {w w' : World} {h : Hi} (H : HistAt w h) (hb : Below w.heap.size w w') : HistAt w' h :=
  H.of_block (hb.block _ H.blk.lt) (fun g hg => hb.block _ (H.row.lt g hg).2)

theorem DueAt.below {w w' : World} {v : Value} {l : List Nat} {hi : Nat → Hi} (D : DueAt w v l hi) (hb : Below w.heap.size w w') : DueAt w' v l hi :=
  ⟨row_thru D.row (fun g hg => hb.block g (D.row.lt g hg).2), fun b m => ⟨(D.his b m).1, (D.his b m).2.1.below hb, (D.his b m).2.2⟩, D.few⟩

theorem next_below (h : Hi) (w : World) (H : HistAt w h) (hw : waitsP h.live = true) :
    Calls Try.prog 35 #[.pointer (some ⟨h.blk, 0, none⟩)] w fun e w' => e = .returned (.int .i64 (nextP h.live)) ∧ Below w.heap.size w w' :=
  (next_any h w H hw).mono fun _ _ ⟨h1, n, h2⟩ => ⟨h1, h2 ▸ below_drewN w n⟩

set_option maxHeartbeats 1600000 in
theorem less_any (v : Value) (l : List Nat) (hi : Nat → Hi) (i j a b : Nat) (w : World) (D : DueAt w v l hi) (hi1 : l[i]? = some a) (hj1 : l[j]? = some b) :
    Calls Try.prog 77 #[v, .int .i64 i, .int .i64 j] w fun e w' => e = .returned (.bool (decide (nextP (hi a).live < nextP (hi b).live))) ∧ Below w.heap.size w w' := by
  obtain ⟨ha1, ha2, ha3⟩ := D.his a (List.mem_of_getElem? hi1)
  obtain ⟨hb1, hb2, hb3⟩ := D.his b (List.mem_of_getElem? hj1)
  have hil := (List.getElem?_eq_some_iff.1 hi1).1
  have hjl := (List.getElem?_eq_some_iff.1 hj1).1
  obtain ⟨g, cap, rfl, _, hg⟩ := D.row.form (by omega)
  have c1 := D.row.cells (g := g) rfl _ _ (ptrs_get hi1)
  have c2 := D.row.cells (g := g) rfl _ _ (ptrs_get hj1)
  rw [cell_add, Nat.zero_add] at c1 c2
  unfold ptrV at c1 c2
  have e0 := cell_regrown c1
  have e1 := cell_regrown c2
  have Q0 := fun d os => Calls.regrown_of (next_below (hi a) (grow (redrawn w d) os) (ha2.below (below_regrown w d os)) ha3)
  have Q1 := fun d os => Calls.regrown_of (next_below (hi b) (grow (redrawn w d) os) (hb2.below (below_regrown w d os)) hb3)
  rw [ha1] at Q0
  rw [hb1] at Q1
  have hiI : (i : Int) < (l.length : Int) := by omega
  have hjI : (j : Int) < (l.length : Int) := by omega
  clear D ha1 ha2 ha3 hb1 hb2 hb3 hil hjl hi1 hj1
  generalize l.length = ln at *
  generalize nextP (hi a).live = na at *
  generalize nextP (hi b).live = nb at *
  go_enter Try.func77, Try.ntmps77
  go_wp2_with fail
  refine wp_region_quiet_below (by kernel_rfl) (by kernel_rfl) ?_
  repeat (quiet_step (first | with_reducible exact Q0 _ _ | with_reducible exact Q1 _ _))
  refine wpQuiet_nil ?_
  intro _ hw'
  obtain ⟨⟨dq, osq⟩, hw''⟩ := hw'
  subst hw''
  have hb4 := below_regrown w dq osq
  clear Q0 Q1 e0 e1
  generalize grow (redrawn w dq) osq = w4 at *
  go_wp2_with fail
  go_ret
  exact ⟨rfl, hb4⟩
end Go.Proofs.Ytcnajkclbmddgaa
