/- The one of twenty-one numbers that IsaRight lays in place of an operand; single operations for it. -/
import Derived.Test.YtcehfaonmiocgaaDoorArgs2
namespace Go.Proofs.YtcehfaonmiocgaaDoor
open Go.ChangeShapes Go.WideShapes Go.ChangeAt Go.RowKit
open Plain
open Orders
set_option linter.unusedVariables false
set_option linter.unusedSimpArgs false

def lit21 (v : Int) : List Int := [v, -1, 8, 23, 24, 32, 33, 64, 127, 128, 255, 256, -256, -258, 32767, 32768, -32769, 524288, 16777216, 3, 61]

theorem lit21_range (v : Int) (h0 : -9223372036854775808 ≤ v) (h1 : v ≤ 9223372036854775807) : InRange (lit21 v) := by
  intro x hx
  unfold lit21 at hx
  simp at hx
  omega

set_option maxHeartbeats 1600000 in
theorem run_build21 (a : Act) (w : World) (o : Oper) (t : Operand) (x : Int) (ho : o.op = .buildSlice 22 21
              #[(0, t), (1, Operand.const (Value.int IntKind.i64 (-1))),
                (2, Operand.const (Value.int IntKind.i64 8)), (3, Operand.const (Value.int IntKind.i64 23)),
                (4, Operand.const (Value.int IntKind.i64 24)), (5, Operand.const (Value.int IntKind.i64 32)),
                (6, Operand.const (Value.int IntKind.i64 33)), (7, Operand.const (Value.int IntKind.i64 64)),
                (8, Operand.const (Value.int IntKind.i64 127)), (9, Operand.const (Value.int IntKind.i64 128)),
                (10, Operand.const (Value.int IntKind.i64 255)), (11, Operand.const (Value.int IntKind.i64 256)),
                (12, Operand.const (Value.int IntKind.i64 (-256))), (13, Operand.const (Value.int IntKind.i64 (-258))),
                (14, Operand.const (Value.int IntKind.i64 32767)), (15, Operand.const (Value.int IntKind.i64 32768)),
                (16, Operand.const (Value.int IntKind.i64 (-32769))),
                (17, Operand.const (Value.int IntKind.i64 524288)),
                (18, Operand.const (Value.int IntKind.i64 16777216)), (19, Operand.const (Value.int IntKind.i64 3)),
                (20, Operand.const (Value.int IntKind.i64 61))]) (ht : a.eval t = .int .i64 x) :
    (execOp a.eval o).run Tryd.prog w = .ok (.value (.slice (some ⟨w.heap.size, 0, none⟩) 21 21)) (w.alloc (.cells ((lit21 x).map fun y => Value.int .i64 y).toArray 3)) := by
  have hc : ∀ v, a.eval (.const v) = v := fun _ => rfl
  generalize a.eval = ρ at *
  simp [execOp, ho, hc, ht, go_sem, Tryd.underlying22, lit21]

theorem run_callWithin (a : Act) (w : World) (o : Oper) (p : Operand) (x n : Int) (ats : Array TypeId) (ho : o.op = .call { callee := .value (.func 17), args := #[p, .const (.int .i64 n)], argTypes := ats }) (hp : a.eval p = .int .i64 x) :
    (execOp a.eval o).run Tryd.prog w = .ok (.enter 17 #[.int .i64 x, .int .i64 n]) w := by
  have hc : ∀ v, a.eval (.const v) = v := fun _ => rfl
  have hf : a.eval (.func 17) = .func (.func 17) #[] #[] := rfl
  generalize a.eval = ρ at *
  simp [execOp, ho, hc, hf, hp, go_sem, Tryd.func17]

theorem run_loadInst (a : Act) (w : World) (o : Oper) (p : Operand) (g : Nat) (x : Int) (q : Option Addr) (n c : Nat) (ho : o.op = .load 26 p) (hp : a.eval p = .pointer (some ⟨g, 0, none⟩)) (c0 : w.cell? ⟨g, 0, none⟩ = some (.int .i64 x)) (c1 : w.cell? ⟨g, 1, none⟩ = some (.slice q n c)) :
    (execOp a.eval o).run Tryd.prog w = .ok (.value (.agg #[.int .i64 x, .slice q n c])) w := by
  generalize a.eval = ρ at *
  simp [execOp, ho, hp, go_sem, Tryd.underlying26, c0, c1]

theorem run_buildInst1 (a : Act) (w : World) (o : Oper) (p : Operand) (n : Int) (ho : o.op = .build 26 #[(0, p)]) (hp : a.eval p = .int .i64 n) :
    (execOp a.eval o).run Tryd.prog w = .ok (.value (.agg #[.int .i64 n, .slice none 0 0])) w := by
  generalize a.eval = ρ at *
  simp [execOp, ho, hp, go_sem, Tryd.underlying26]

theorem run_buildInsts (a : Act) (w : World) (o : Oper) (t0 t1 t2 t3 : Operand) (x0 x1 x2 x3 : Int) (q0 q1 q2 q3 : Option Addr) (n0 n1 n2 n3 c0 c1 c2 c3 : Nat) (ho : o.op = .buildSlice 37 4 #[(0, t0), (1, t1), (2, t2), (3, t3)])
    (h0 : a.eval t0 = .agg #[.int .i64 x0, .slice q0 n0 c0]) (h1 : a.eval t1 = .agg #[.int .i64 x1, .slice q1 n1 c1]) (h2 : a.eval t2 = .agg #[.int .i64 x2, .slice q2 n2 c2]) (h3 : a.eval t3 = .agg #[.int .i64 x3, .slice q3 n3 c3]) :
    (execOp a.eval o).run Tryd.prog w = .ok (.value (.slice (some ⟨w.heap.size, 0, none⟩) 4 4)) (w.alloc (.cells #[.int .i64 x0, .slice q0 n0 c0, .int .i64 x1, .slice q1 n1 c1, .int .i64 x2, .slice q2 n2 c2, .int .i64 x3, .slice q3 n3 c3] 26)) := by
  generalize a.eval = ρ at *
  simp [execOp, ho, h0, h1, h2, h3, go_sem, Tryd.underlying37]

/-- A slice that was there ahead stays, whatever is set in a newer block. -/
theorem slice_set_far {w W : World} {v u : Value} {fs : List Int} {g j : Nat} (h : SliceIs w v fs) (hb : Below w.heap.size w W) (hg : w.heap.size ≤ g) : SliceIs (W.setCell ⟨g, j, none⟩ u) v fs := by
  obtain ⟨p, cap, rfl, hc⟩ := h
  refine ⟨p, cap, rfl, fun hn => ?_⟩
  obtain ⟨b, o, e, hcc⟩ := hc hn
  refine ⟨b, o, e, fun i x hx => ?_⟩
  have hlt := block_lt_of_cell (hcc i x hx)
  simp only at hlt
  exact cell_far (by omega) (kept_cell hb (hcc i x hx))

theorem run_assign (a : Act) (w : World) (o : Oper) (p : Operand) (x : Value) (ho : o.op = .assign p) (hp : a.eval p = x) : (execOp a.eval o).run Tryd.prog w = .ok (.value x) w := by
  generalize a.eval = ρ at *
  simp [execOp, ho, hp, go_sem]

theorem blkNil {w : World} {H : Nat} {v : Value} {o : Obj} (h : ∃ g, v = .slice (some ⟨g, 0, none⟩) 0 0 ∧ H ≤ g ∧ w.heap[g]? = some (.cells #[] 3 (0, 0))) : ∃ g, v = .slice (some ⟨g, 0, none⟩) 0 0 ∧ H ≤ g ∧ (w.alloc o).heap[g]? = some (.cells #[] 3 (0, 0)) := by
  obtain ⟨g, e, h1, h2⟩ := h
  exact ⟨g, e, h1, blk_alloc h2⟩
theorem blkOne {w : World} {H : Nat} {v : Value} {o : Obj} (h : ∃ g, v = .slice (some ⟨g, 0, none⟩) 1 1 ∧ H ≤ g ∧ w.heap[g]? = some (.cells #[.int .i64 0] 3 (0, 0))) : ∃ g, v = .slice (some ⟨g, 0, none⟩) 1 1 ∧ H ≤ g ∧ (w.alloc o).heap[g]? = some (.cells #[.int .i64 0] 3 (0, 0)) := by
  obtain ⟨g, e, h1, h2⟩ := h
  exact ⟨g, e, h1, blk_alloc h2⟩
theorem blkIn {w : World} {H : Nat} {v : Value} {o : Obj} {cs : Array Value} (h : ∃ g, v = .slice (some ⟨g, 0, none⟩) 4 4 ∧ H ≤ g ∧ w.heap[g]? = some (.cells cs 26 (0, 0))) : ∃ g, v = .slice (some ⟨g, 0, none⟩) 4 4 ∧ H ≤ g ∧ (w.alloc o).heap[g]? = some (.cells cs 26 (0, 0)) := by
  obtain ⟨g, e, h1, h2⟩ := h
  exact ⟨g, e, h1, blk_alloc h2⟩

/-- Four instructions lie there, each with its operands. -/
def Insts (w : World) (g : Nat) : Prop := ∀ i : Nat, i < 4 → ∃ (op : Int) (q : Option Addr) (n c : Nat) (fs : List Int), w.cell? ⟨g, i * 2, none⟩ = some (.int .i64 op) ∧ w.cell? ⟨g, i * 2 + 1, none⟩ = some (.slice q n c) ∧ SliceIs w (.slice q n c) fs ∧ InRange fs ∧ fs.length ≤ maxLen

theorem Insts.later {w w' : World} {g : Nat} (h : Insts w g) (hb : Below w.heap.size w w') : Insts w' g := by
  intro i hi
  obtain ⟨op, q, n, c, fs, h1, h2, h3, h4, h5⟩ := h i hi
  exact ⟨op, q, n, c, fs, kept_cell hb h1, kept_cell hb h2, h3.later hb, h4, h5⟩

theorem insts_of {w : World} {g : Nat} {o0 ox a5 : Int} {q0 q1 q2 : Option Addr} {n0 n1 n2 c0 c1 c2 : Nat} {f0 f1 f2 : List Int}
    (h : w.heap[g]? = some (.cells #[.int .i64 o0, .slice q0 n0 c0, .int .i64 ox, .slice q1 n1 c1, .int .i64 ox, .slice q2 n2 c2, .int .i64 a5, .slice none 0 0] 26 (0, 0)))
    (s0 : SliceIs w (.slice q0 n0 c0) f0) (r0 : InRange f0) (l0 : f0.length ≤ maxLen) (s1 : SliceIs w (.slice q1 n1 c1) f1) (r1 : InRange f1) (l1 : f1.length ≤ maxLen) (s2 : SliceIs w (.slice q2 n2 c2) f2) (r2 : InRange f2) (l2 : f2.length ≤ maxLen) : Insts w g := by
  intro i hi
  match i, hi with
  | 0, _ => exact ⟨o0, q0, n0, c0, f0, by simp [World.cell?, h], by simp [World.cell?, h], s0, r0, l0⟩
  | 1, _ => exact ⟨ox, q1, n1, c1, f1, by simp [World.cell?, h], by simp [World.cell?, h], s1, r1, l1⟩
  | 2, _ => exact ⟨ox, q2, n2, c2, f2, by simp [World.cell?, h], by simp [World.cell?, h], s2, r2, l2⟩
  | 3, _ => exact ⟨a5, none, 0, 0, [], by simp [World.cell?, h], by simp [World.cell?, h], ⟨none, 0, rfl, fun h => absurd rfl h⟩, fun x hx => by simp at hx, by simp⟩

theorem conv_nil (W : World) : (convert 23 9 (.slice none 0 0)).run Tryd.prog W = .ok (.string ByteArray.empty) W := by
  simp [convert, go_sem, Tryd.underlying23, Tryd.underlying9, Tryd.underlying5]
  try rfl

theorem row_le {w : World} {b b' : Nat} {e : TypeId} {v : Value} {n : Nat} {xs : List Value} (hb : b' ≤ b) (h : w.ownsRow b e 1 v n xs) : w.ownsRow b' e 1 v n xs := by
  refine ⟨h.1, ?_⟩
  rcases h.2 with h | ⟨g, cap, cur, h1, h2, h3⟩
  · exact .inl h
  · exact .inr ⟨g, cap, cur, h1, Nat.le_trans hb h2, h3⟩
end Go.Proofs.YtcehfaonmiocgaaDoor
