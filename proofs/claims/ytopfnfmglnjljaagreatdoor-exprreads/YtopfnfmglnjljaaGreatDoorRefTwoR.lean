/- Single operations of the reference's two, run by themselves; what holds while the next part is read and laid behind, in whatever order. -/
import Derived.Test.YtopfnfmglnjljaaGreatDoorRefNext
import Derived.Test.YtopfnfmglnjljaaGreatDoorRow
import Derived.Test.YtopfnfmglnjljaaGreatDoorSymsR
namespace Go.Proofs.YtopfnfmglnjljaaGreatDoor.Rf
open Go.Proofs.YtopfnfmglnjljaaGreatDoor
open Go.ChangeShapes Go.WideShapes Go.ChangeAt Go.RowKit
open Orders
set_option linter.unusedVariables false
set_option linter.unusedSimpArgs false

theorem run_loadX (a : Act) (w : World) (o : Oper) (p : Operand) (k : Nat) (c0 c1 : Int) (c2 : ByteArray) (c3 : Option Addr) (l m : Nat) (ho : o.op = .load 27 p) (hp : a.eval p = .pointer (some ⟨k, 0, none⟩)) (X : Blk w k (.int .i64 c0) (.int .i64 c1) (.string c2) (.slice c3 l m)) :
    (execOp a.eval o).run Tryz.prog w = .ok (.value (.agg #[.int .i64 c0, .int .i64 c1, .string c2, .slice c3 l m])) w := by
  obtain ⟨h0, h1, h2, h3, _, _, _, _⟩ := X
  generalize a.eval = ρ at *
  simp [execOp, ho, hp, go_sem, Tryz.underlying27, Tryz.underlying9, Tryz.underlying3, Tryz.underlying25, h0, h1, h2, h3]

theorem run_inc (a : Act) (w : World) (o : Oper) (t : Operand) (x : Nat) (ho : o.op = .binOp .add 3 t (.const (.int .i64 1)) 3) (ht : a.eval t = .int .i64 (x : Int)) (hx : x ≤ 10) :
    (execOp a.eval o).run Tryz.prog w = .ok (.value (.int .i64 ((x : Int) + 1))) w := by
  have hc : ∀ v, a.eval (.const v) = v := fun _ => rfl
  have hq : IntKind.i64.wrap ((x : Int) + 1) = (x : Int) + 1 := IntWalk.i64_in _ (by omega)
  generalize a.eval = ρ at *
  simp [execOp, ho, hc, ht, go_sem, Tryz.underlying3, hq]

theorem run_callTwo (a : Act) (w : World) (o : Oper) (s t : Operand) (u v : Value) (ats : Array TypeId) (ho : o.op = .call { callee := .value (.func 35), args := #[s, t], argTypes := ats }) (hs : a.eval s = u) (ht : a.eval t = v) :
    (execOp a.eval o).run Tryz.prog w = .ok (.enter 35 #[u, v]) w := by
  have hf : ∀ f, a.eval (.func f) = .func (.func f) #[] #[] := fun _ => rfl
  generalize a.eval = ρ at *
  simp [execOp, ho, hs, ht, hf, go_sem, Tryz.underlying3]

theorem run_pairX (a : Act) (w : World) (o : Oper) (s t : Operand) (c0 c1 d0 d1 : Int) (c2 d2 : ByteArray) (c3 d3 : Option Addr) (l m l' m' : Nat) (ho : o.op = .buildSlice 25 2 #[(0, s), (1, t)])
    (hs : a.eval s = .agg #[.int .i64 c0, .int .i64 c1, .string c2, .slice c3 l m]) (ht : a.eval t = .agg #[.int .i64 d0, .int .i64 d1, .string d2, .slice d3 l' m']) :
    (execOp a.eval o).run Tryz.prog w = .ok (.value (.slice (some ⟨w.heap.size, 0, none⟩) 2 2)) (w.alloc (.cells #[.int .i64 c0, .int .i64 c1, .string c2, .slice c3 l m, .int .i64 d0, .int .i64 d1, .string d2, .slice d3 l' m'] 27)) := by
  generalize a.eval = ρ at *
  simp [execOp, ho, hs, ht, go_sem, Tryz.underlying25, Tryz.underlying27]

theorem run_makeX (a : Act) (w : World) (o : Oper) (s t : Operand) (k : Int) (p : Option Addr) (l m : Nat) (ho : o.op = .build 27 #[(0, s), (3, t)]) (hs : a.eval s = .int .i64 k) (ht : a.eval t = .slice p l m) :
    (execOp a.eval o).run Tryz.prog w = .ok (.value (.agg #[.int .i64 k, .int .i64 0, .string ⟨#[]⟩, .slice p l m])) w := by
  generalize a.eval = ρ at *
  simp [execOp, ho, hs, ht, go_sem, Tryz.underlying27]

theorem run_storeX (a : Act) (w : World) (o : Oper) (s t : Operand) (k : Nat) (c0 c1 : Int) (c2 : ByteArray) (c3 : Option Addr) (l m : Nat) {x0 x1 x2 x3 : Value} (ho : o.op = .store 27 s t) (hs : a.eval s = .pointer (some ⟨k, 0, none⟩)) (ht : a.eval t = .agg #[.int .i64 c0, .int .i64 c1, .string c2, .slice c3 l m]) (X : Blk w k x0 x1 x2 x3) :
    (execOp a.eval o).run Tryz.prog w = .ok .skip (put4 w k (.int .i64 c0) (.int .i64 c1) (.string c2) (.slice c3 l m)) := by
  have hl := X.lt
  obtain ⟨h0, h1, h2, h3, f0, f1, f2, f3⟩ := X
  generalize a.eval = ρ at *
  simp [execOp, ho, hs, ht, go_sem, Tryz.underlying27, put4, h0, h1, h2, h3, f0, f1, f2, f3, hl]

theorem step_skip {ops : Array Oper} {Q : Exit → Act → World → Prop} {i : Nat} {o : Oper} {K : Act → World → Prop} {a : Act} {w w' : World} (hi : ops[i]? = some o) (hg : o.guard = none)
    (h : (execOp a.eval o).run Tryz.prog w = .ok .skip w') (hK : K (a.put o.dst undef) w') : wpOp Tryz.prog ops Q i K a w := by
  refine step_oper hi hg ?_
  unfold Oper.wp
  rw [h]
  exact hK

/-- The world, by what is done: nothing; the part is read; both are laid in a row; that is stored. -/
def TwoW (W : World) (Q : Value → World → Prop) (xb : Nat) (x0 x1 : Int) (x2 : ByteArray) (x3 : Option Addr) (xl xm kk : Nat) (L : Nat → Bool) (u : Nat → Value) (v : World) : Prop :=
  if L 5 = true then
    ∃ (y0 y1 : Int) (y2 : ByteArray) (y3 : Option Addr) (yl ym : Nat) (w4 : World), u 5 = .agg #[.int .i64 y0, .int .i64 y1, .string y2, .slice y3 yl ym] ∧ Q (u 5) w4 ∧
      if L 6 = true then u 6 = .slice (some ⟨w4.heap.size, 0, none⟩) 2 2 ∧
        if L 8 = true then v = put4 (w4.alloc (.cells #[.int .i64 x0, .int .i64 x1, .string x2, .slice x3 xl xm, .int .i64 y0, .int .i64 y1, .string y2, .slice y3 yl ym] 27)) xb (.int .i64 kk) (.int .i64 0) (.string ⟨#[]⟩) (.slice (some ⟨w4.heap.size, 0, none⟩) 2 2)
        else v = w4.alloc (.cells #[.int .i64 x0, .int .i64 x1, .string x2, .slice x3 xl xm, .int .i64 y0, .int .i64 y1, .string y2, .slice y3 yl ym] 27)
      else L 8 = false ∧ v = w4
  else v = W ∧ L 6 = false ∧ L 8 = false
end Go.Proofs.YtopfnfmglnjljaaGreatDoor.Rf
