/- Worlds: what stays, what is new; the reader's cells; an expression in memory. -/
import Derived.Test.YtopfnfmglnjljaaGreatDoorProg
import Derived.Test.YtopfnfmglnjljaaGreatDoorSpec
import Derived.WalkKit
import Derived.ProofKit
import Derived.OpenShut
import Derived.WalkLawsBesides
import Derived.BigQuiet
import Derived.Lib.QuietBelow
import Derived.Laws.EntriesVeiled
namespace Go.Proofs.YtopfnfmglnjljaaGreatDoor
open Go.ChangeShapes Go.WideShapes Go.ChangeAt Go.RowKit
set_option linter.unusedVariables false
set_option linter.unusedSimpArgs false

def bs (l : List UInt8) : ByteArray := ⟨l.toArray⟩

theorem bs_list (l : List UInt8) : (bs l).data.toList = l := by simp [bs]
theorem bs_size (l : List UInt8) : (bs l).size = l.length := by simp [bs, ByteArray.size]
theorem bs_of (s : ByteArray) : s = bs s.data.toList := by cases s; simp [bs]

theorem kept_cell {w w' : World} (h : Below w.heap.size w w') {a : Addr} {v : Value} (hc : w.cell? a = some v) : w'.cell? a = some v := by
  rw [h.cell (block_lt_of_cell hc)]; exact hc

theorem new_cell {w : World} {t : TypeId} (cs : Array Value) (i : Nat) (x : Value) (h : cs[i]? = some x) : (w.alloc (.cells cs t)).cell? ⟨w.heap.size, i, none⟩ = some x := by simp [h]

theorem new_thawed {w : World} {t : TypeId} (cs : Array Value) (i : Nat) : (w.alloc (.cells cs t)).frozen? ⟨w.heap.size, i, none⟩ = false := by simp

theorem kept_thawed {w w' : World} (h : Below w.heap.size w w') {a : Addr} (ha : a.block < w.heap.size) (hc : w.frozen? a = false) : w'.frozen? a = false := by
  rw [h.frozen ha]; exact hc

theorem below_drewN (w : World) (n : Nat) : Below w.heap.size w (w.drewN n) := ⟨rfl, rfl, rfl, Nat.le_refl _, fun _ _ => rfl⟩
theorem below_new (w : World) (o : Obj) : Below w.heap.size w (w.alloc o) := (Below.refl _ _).alloc (Nat.le_refl _) _

/-- All but block b is as it was; there may be more. -/
structure Beside (b : Nat) (w w' : World) : Prop where
  below : Below b w w'
  above : ∀ k, b < k → k < w.heap.size → w'.heap[k]? = w.heap[k]?

theorem Beside.refl (b : Nat) (w : World) : Beside b w w := ⟨Below.refl _ _, fun _ _ _ => rfl⟩
theorem Beside.trans {b : Nat} {w1 w2 w3 : World} (h : Beside b w1 w2) (k : Beside b w2 w3) : Beside b w1 w3 :=
  ⟨h.below.trans k.below, fun i h1 h2 => (k.above i h1 (Nat.lt_of_lt_of_le h2 h.below.size)).trans (h.above i h1 h2)⟩
theorem Beside.of {b : Nat} {w w' : World} (h : Below w.heap.size w w') (hb : b < w.heap.size) : Beside b w w' := ⟨h.mono (Nat.le_of_lt hb), fun k _ hk => h.block k hk⟩
theorem Beside.set {b : Nat} (w : World) {a : Addr} (ha : a.block = b) (u : Value) : Beside b w (w.setCell a u) :=
  ⟨(Below.refl _ _).setCell (by omega) u, fun k hk _ => Below.heap_setCell _ _ _ _ (by omega)⟩
theorem Beside.size {b : Nat} {w w' : World} (h : Beside b w w') : w.heap.size ≤ w'.heap.size := h.below.size

theorem cell_of_block {w w' : World} {a : Addr} (h : w'.heap[a.block]? = w.heap[a.block]?) : w'.cell? a = w.cell? a := by
  unfold World.cell?; rw [h]
theorem frozen_of_block {w w' : World} {a : Addr} (h : w'.heap[a.block]? = w.heap[a.block]?) : w'.frozen? a = w.frozen? a := by
  unfold World.frozen?; rw [h]

theorem Beside.cell {b : Nat} {w w' : World} (h : Beside b w w') {a : Addr} {v : Value} (hc : w.cell? a = some v) (ha : a.block ≠ b) : w'.cell? a = some v := by
  rw [cell_of_block (w := w), hc]
  by_cases hl : a.block < b
  · exact h.below.block _ hl
  · exact h.above _ (by omega) (block_lt_of_cell hc)

/-- The reader at b: what is left of the text, how deep it stands. -/
structure Rdr (w : World) (b : Nat) (s : Bs) (d : Nat) : Prop where
  c0 : w.cell? ⟨b, 0, none⟩ = some (.string (bs s))
  c1 : w.cell? ⟨b, 1, none⟩ = some (.int .i64 d)
  f0 : w.frozen? ⟨b, 0, none⟩ = false
  f1 : w.frozen? ⟨b, 1, none⟩ = false

theorem Rdr.lt {w : World} {b : Nat} {s : Bs} {d : Nat} (h : Rdr w b s d) : b < w.heap.size := block_lt_of_cell h.c0

theorem Rdr.later {w w' : World} {b : Nat} {s : Bs} {d : Nat} (h : Rdr w b s d) (hb : Below w.heap.size w w') : Rdr w' b s d :=
  ⟨kept_cell hb h.c0, kept_cell hb h.c1, kept_thawed hb h.lt h.f0, kept_thawed hb h.lt h.f1⟩

theorem Rdr.of_block {w w' : World} {b : Nat} {s : Bs} {d : Nat} (h : Rdr w b s d) (e : w'.heap[b]? = w.heap[b]?) : Rdr w' b s d := by
  constructor
  · rw [cell_of_block e]; exact h.c0
  · rw [cell_of_block e]; exact h.c1
  · rw [frozen_of_block e]; exact h.f0
  · rw [frozen_of_block e]; exact h.f1

/-- An expression in memory, in blocks of which P holds. -/
def ExAt (P : Nat → Prop) (w : World) : Value → Ex → Prop
  | v, .zero => v = .agg #[.int .i64 0, .int .i64 0, .string (bs []), .slice none 0 0]
  | v, .num n => v = .agg #[.int .i64 1, .int .i64 n, .string (bs []), .slice none 0 0]
  | v, .name s => v = .agg #[.int .i64 2, .int .i64 0, .string (bs s), .slice none 0 0]
  | v, .here => v = .agg #[.int .i64 3, .int .i64 0, .string (bs []), .slice none 0 0]
  | v, .neg x => ∃ k c0 c1 c2 c3, v = .agg #[.int .i64 4, .int .i64 0, .string (bs []), .slice (some ⟨k, 0, none⟩) 1 1] ∧ P k ∧
      w.cell? ⟨k, 0, none⟩ = some c0 ∧ w.cell? ⟨k, 1, none⟩ = some c1 ∧ w.cell? ⟨k, 2, none⟩ = some c2 ∧ w.cell? ⟨k, 3, none⟩ = some c3 ∧ ExAt P w (.agg #[c0, c1, c2, c3]) x
  | v, .two op x y => ∃ k c0 c1 c2 c3 d0 d1 d2 d3, v = .agg #[.int .i64 op, .int .i64 0, .string (bs []), .slice (some ⟨k, 0, none⟩) 2 2] ∧ P k ∧
      w.cell? ⟨k, 0, none⟩ = some c0 ∧ w.cell? ⟨k, 1, none⟩ = some c1 ∧ w.cell? ⟨k, 2, none⟩ = some c2 ∧ w.cell? ⟨k, 3, none⟩ = some c3 ∧
      w.cell? ⟨k, 4, none⟩ = some d0 ∧ w.cell? ⟨k, 5, none⟩ = some d1 ∧ w.cell? ⟨k, 6, none⟩ = some d2 ∧ w.cell? ⟨k, 7, none⟩ = some d3 ∧
      ExAt P w (.agg #[c0, c1, c2, c3]) x ∧ ExAt P w (.agg #[d0, d1, d2, d3]) y

/-- From one world, and one choice of blocks, to another. -/
theorem ExAt.later {P Q : Nat → Prop} {w w' : World} (hb : ∀ (a : Addr) (v : Value), P a.block → w.cell? a = some v → w'.cell? a = some v ∧ Q a.block) : ∀ {x : Ex} {v : Value}, ExAt P w v x → ExAt Q w' v x
  | .zero, _, h => h
  | .num _, _, h => h
  | .name _, _, h => h
  | .here, _, h => h
  | .neg _, _, ⟨k, c0, c1, c2, c3, e, hl, h0, h1, h2, h3, hx⟩ => ⟨k, c0, c1, c2, c3, e, (hb _ _ hl h0).2, (hb _ _ hl h0).1, (hb _ _ hl h1).1, (hb _ _ hl h2).1, (hb _ _ hl h3).1, ExAt.later hb hx⟩
  | .two _ _ _, _, ⟨k, c0, c1, c2, c3, d0, d1, d2, d3, e, hl, h0, h1, h2, h3, g0, g1, g2, g3, hx, hy⟩ =>
    ⟨k, c0, c1, c2, c3, d0, d1, d2, d3, e, (hb _ _ hl h0).2, (hb _ _ hl h0).1, (hb _ _ hl h1).1, (hb _ _ hl h2).1, (hb _ _ hl h3).1, (hb _ _ hl g0).1, (hb _ _ hl g1).1, (hb _ _ hl g2).1, (hb _ _ hl g3).1, ExAt.later hb hx, ExAt.later hb hy⟩

theorem ExAt.below {P : Nat → Prop} {w w' : World} {x : Ex} {v : Value} (h : ExAt P w v x) (hb : Below w.heap.size w w') : ExAt P w' v x := h.later fun _ _ hp hc => ⟨kept_cell hb hc, hp⟩
theorem ExAt.beside {b : Nat} {P : Nat → Prop} {w w' : World} {x : Ex} {v : Value} (h : ExAt P w v x) (hb : Beside b w w') (hl : ∀ k, P k → k ≠ b) : ExAt P w' v x := h.later fun _ _ hp hc => ⟨hb.cell hc (hl _ hp), hp⟩
theorem ExAt.imp {P Q : Nat → Prop} {w : World} {x : Ex} {v : Value} (h : ExAt P w v x) (hl : ∀ k, P k → k < w.heap.size → Q k) : ExAt Q w v x := h.later fun a _ hp hc => ⟨hc, hl _ hp (block_lt_of_cell hc)⟩
theorem ExAt.set {P : Nat → Prop} {w : World} {x : Ex} {v : Value} (h : ExAt P w v x) (a : Addr) (u : Value) (hl : ∀ k, P k → k ≠ a.block) : ExAt P (w.setCell a u) v x :=
  h.later fun a' _ hp hc => ⟨by rw [World.cell?_setCell_other _ _ _ _ (fun e => hl _ hp (by rw [e]))]; exact hc, hp⟩

/-- A value of four cells, as an expression has. -/
def Four (v : Value) : Prop := ∃ (k n : Int) (s : ByteArray) (p : Option Addr) (l c : Nat), v = .agg #[.int .i64 k, .int .i64 n, .string s, .slice p l c]

theorem ExAt.form {P : Nat → Prop} {w : World} {x : Ex} {v : Value} (h : ExAt P w v x) : Four v := by
  cases x with
  | neg x => obtain ⟨k, c0, c1, c2, c3, rfl, _⟩ := h; exact ⟨_, _, _, _, _, _, rfl⟩
  | two o x y => obtain ⟨k, c0, c1, c2, c3, d0, d1, d2, d3, rfl, _⟩ := h; exact ⟨_, _, _, _, _, _, rfl⟩
  | _ => simp only [ExAt] at h; subst h; exact ⟨_, _, _, _, _, _, rfl⟩

theorem Beside.alloc {b : Nat} {w w' : World} (h : Beside b w w') (hb : b < w.heap.size) (o : Obj) : Beside b w (w'.alloc o) :=
  h.trans (Beside.of (below_new _ _) (Nat.lt_of_lt_of_le hb h.size))
theorem Beside.setNew {b : Nat} {w w' : World} (h : Beside b w w') (hb : b < w.heap.size) {a : Addr} (ha : w.heap.size ≤ a.block) (u : Value) : Beside b w (w'.setCell a u) :=
  ⟨h.below.setCell (by omega) u, fun k h1 h2 => (Below.heap_setCell _ _ _ _ (by omega)).trans (h.above k h1 h2)⟩

/-- Block k holds these four, and may be written. -/
structure Blk (w : World) (k : Nat) (a0 a1 a2 a3 : Value) : Prop where
  c0 : w.cell? ⟨k, 0, none⟩ = some a0
  c1 : w.cell? ⟨k, 1, none⟩ = some a1
  c2 : w.cell? ⟨k, 2, none⟩ = some a2
  c3 : w.cell? ⟨k, 3, none⟩ = some a3
  f0 : w.frozen? ⟨k, 0, none⟩ = false
  f1 : w.frozen? ⟨k, 1, none⟩ = false
  f2 : w.frozen? ⟨k, 2, none⟩ = false
  f3 : w.frozen? ⟨k, 3, none⟩ = false

theorem Blk.lt {w : World} {k : Nat} {a0 a1 a2 a3 : Value} (h : Blk w k a0 a1 a2 a3) : k < w.heap.size := block_lt_of_cell h.c0
theorem Blk.new (w : World) (t : TypeId) (a0 a1 a2 a3 : Value) : Blk (w.alloc (.cells #[a0, a1, a2, a3] t)) w.heap.size a0 a1 a2 a3 := by
  constructor <;> simp
theorem Blk.of_block {w w' : World} {k : Nat} {a0 a1 a2 a3 : Value} (h : Blk w k a0 a1 a2 a3) (e : w'.heap[k]? = w.heap[k]?) : Blk w' k a0 a1 a2 a3 := by
  constructor
  · rw [cell_of_block e]; exact h.c0
  · rw [cell_of_block e]; exact h.c1
  · rw [cell_of_block e]; exact h.c2
  · rw [cell_of_block e]; exact h.c3
  · rw [frozen_of_block e]; exact h.f0
  · rw [frozen_of_block e]; exact h.f1
  · rw [frozen_of_block e]; exact h.f2
  · rw [frozen_of_block e]; exact h.f3
theorem Blk.later {w w' : World} {k : Nat} {a0 a1 a2 a3 : Value} (h : Blk w k a0 a1 a2 a3) (hb : Below w.heap.size w w') : Blk w' k a0 a1 a2 a3 := h.of_block (hb.block _ h.lt)
theorem Blk.beside {b : Nat} {w w' : World} {k : Nat} {a0 a1 a2 a3 : Value} (h : Blk w k a0 a1 a2 a3) (hb : Beside b w w') (hk : k ≠ b) : Blk w' k a0 a1 a2 a3 := by
  refine h.of_block ?_
  by_cases hl : k < b
  · exact hb.below.block _ hl
  · exact hb.above _ (by omega) h.lt
theorem Blk.alloc {w : World} {k : Nat} {a0 a1 a2 a3 : Value} (h : Blk w k a0 a1 a2 a3) (o : Obj) : Blk (w.alloc o) k a0 a1 a2 a3 := h.later (below_new _ _)
theorem Blk.other {w : World} {k : Nat} {a0 a1 a2 a3 : Value} (h : Blk w k a0 a1 a2 a3) (a : Addr) (u : Value) (hk : k ≠ a.block) : Blk (w.setCell a u) k a0 a1 a2 a3 :=
  h.of_block (Below.heap_setCell _ _ _ _ hk)

/-- All four laid anew. -/
def put4 (w : World) (k : Nat) (b0 b1 b2 b3 : Value) : World := (((w.setCell ⟨k, 0, none⟩ b0).setCell ⟨k, 1, none⟩ b1).setCell ⟨k, 2, none⟩ b2).setCell ⟨k, 3, none⟩ b3

theorem Blk.put {w : World} {k : Nat} {a0 a1 a2 a3 : Value} (h : Blk w k a0 a1 a2 a3) (b0 b1 b2 b3 : Value) : Blk (put4 w k b0 b1 b2 b3) k b0 b1 b2 b3 := by
  have n01 : (⟨k, 0, none⟩ : Addr) ≠ ⟨k, 1, none⟩ := fun e => by cases e
  have n02 : (⟨k, 0, none⟩ : Addr) ≠ ⟨k, 2, none⟩ := fun e => by cases e
  have n03 : (⟨k, 0, none⟩ : Addr) ≠ ⟨k, 3, none⟩ := fun e => by cases e
  have n12 : (⟨k, 1, none⟩ : Addr) ≠ ⟨k, 2, none⟩ := fun e => by cases e
  have n13 : (⟨k, 1, none⟩ : Addr) ≠ ⟨k, 3, none⟩ := fun e => by cases e
  have n23 : (⟨k, 2, none⟩ : Addr) ≠ ⟨k, 3, none⟩ := fun e => by cases e
  unfold put4
  constructor
  · rw [World.cell?_setCell_other _ _ _ _ n03.symm, World.cell?_setCell_other _ _ _ _ n02.symm, World.cell?_setCell_other _ _ _ _ n01.symm, World.cell?_setCell_same _ _ _ h.c0]
  · rw [World.cell?_setCell_other _ _ _ _ n13.symm, World.cell?_setCell_other _ _ _ _ n12.symm, World.cell?_setCell_same _ _ _ (by rw [World.cell?_setCell_other _ _ _ _ n01]; exact h.c1)]
  · rw [World.cell?_setCell_other _ _ _ _ n23.symm, World.cell?_setCell_same _ _ _ (by rw [World.cell?_setCell_other _ _ _ _ n12, World.cell?_setCell_other _ _ _ _ n02]; exact h.c2)]
  · rw [World.cell?_setCell_same _ _ _ (by rw [World.cell?_setCell_other _ _ _ _ n23, World.cell?_setCell_other _ _ _ _ n13, World.cell?_setCell_other _ _ _ _ n03]; exact h.c3)]
  · simp only [World.frozen?_setCell]; exact h.f0
  · simp only [World.frozen?_setCell]; exact h.f1
  · simp only [World.frozen?_setCell]; exact h.f2
  · simp only [World.frozen?_setCell]; exact h.f3

theorem put4_block (w : World) (k : Nat) (b0 b1 b2 b3 : Value) (j : Nat) (hj : j ≠ k) : (put4 w k b0 b1 b2 b3).heap[j]? = w.heap[j]? := by
  unfold put4
  rw [Below.heap_setCell _ _ _ _ hj, Below.heap_setCell _ _ _ _ hj, Below.heap_setCell _ _ _ _ hj, Below.heap_setCell _ _ _ _ hj]
theorem put4_size (w : World) (k : Nat) (b0 b1 b2 b3 : Value) : (put4 w k b0 b1 b2 b3).heap.size = w.heap.size := by simp [put4]
theorem ExAt.put {P : Nat → Prop} {w : World} {x : Ex} {v : Value} (h : ExAt P w v x) (k : Nat) (b0 b1 b2 b3 : Value) (hl : ∀ i, P i → i ≠ k) : ExAt P (put4 w k b0 b1 b2 b3) v x :=
  h.later fun a' _ hp hc => ⟨by rw [cell_of_block (put4_block _ _ _ _ _ _ _ (hl _ hp))]; exact hc, hp⟩
theorem Rdr.put4 {w : World} {b : Nat} {s : Bs} {d : Nat} (h : Rdr w b s d) (k : Nat) (b0 b1 b2 b3 : Value) (hk : b ≠ k) : Rdr (put4 w k b0 b1 b2 b3) b s d := h.of_block (put4_block _ _ _ _ _ _ _ hk)
theorem Blk.put4 {w : World} {j : Nat} {a0 a1 a2 a3 : Value} (h : Blk w j a0 a1 a2 a3) (k : Nat) (b0 b1 b2 b3 : Value) (hk : j ≠ k) : Blk (put4 w k b0 b1 b2 b3) j a0 a1 a2 a3 := h.of_block (put4_block _ _ _ _ _ _ _ hk)
theorem put4_beside (w : World) (k : Nat) (b0 b1 b2 b3 : Value) : Beside k w (put4 w k b0 b1 b2 b3) :=
  (((Beside.set (a := ⟨k, 0, none⟩) w rfl b0).trans (Beside.set (a := ⟨k, 1, none⟩) _ rfl b1)).trans (Beside.set (a := ⟨k, 2, none⟩) _ rfl b2)).trans (Beside.set (a := ⟨k, 3, none⟩) _ rfl b3)
/-- Into a block that is new since w. -/
theorem Beside.putNew {b : Nat} {w w' : World} (h : Beside b w w') (hb : b < w.heap.size) {k : Nat} (ha : w.heap.size ≤ k) (b0 b1 b2 b3 : Value) : Beside b w (put4 w' k b0 b1 b2 b3) :=
  (((h.setNew hb (a := ⟨k, 0, none⟩) ha b0).setNew hb (a := ⟨k, 1, none⟩) ha b1).setNew hb (a := ⟨k, 2, none⟩) ha b2).setNew hb (a := ⟨k, 3, none⟩) ha b3
end Go.Proofs.YtopfnfmglnjljaaGreatDoor
