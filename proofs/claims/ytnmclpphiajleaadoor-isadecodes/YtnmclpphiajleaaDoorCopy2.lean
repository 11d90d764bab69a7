/- More single operations, run by themselves: moves, indexes, loads, calls, a store of a number. -/
import Derived.Test.YtnmclpphiajleaaDoorCopy
namespace Go.Proofs.YtnmclpphiajleaaDoor
open Go.ChangeShapes Go.WideShapes Go.ChangeAt Go.RowKit
open Plain
open Orders
set_option linter.unusedVariables false
set_option linter.unusedSimpArgs false

theorem run_move (a : Act) (w : World) (o : Oper) (p : Operand) (x : Value) (ho : o.op = .move p) (hp : a.eval p = x) : (execOp a.eval o).run Tryd.prog w = .ok (.value x) w := by
  generalize a.eval = ρ at *
  simp [execOp, ho, hp, go_sem]

theorem run_indexInts (a : Act) (w : World) (o : Oper) (s t : Operand) (g len cap j : Nat) (ho : o.op = .indexAddr 23 s t) (hs : a.eval s = .slice (some ⟨g, 0, none⟩) len cap) (ht : a.eval t = .int .i64 (j : Int)) (hj : j < len) :
    (execOp a.eval o).run Tryd.prog w = .ok (.value (.pointer (some ⟨g, j, none⟩))) w := by
  have h1 : (j : Int) < (len : Int) := by omega
  generalize a.eval = ρ at *
  simp [execOp, ho, hs, ht, go_sem, Tryd.underlying23, h1]

theorem run_indexTexts (a : Act) (w : World) (o : Oper) (s t : Operand) (g len cap j : Nat) (ho : o.op = .indexAddr 44 s t) (hs : a.eval s = .slice (some ⟨g, 0, none⟩) len cap) (ht : a.eval t = .int .i64 (j : Int)) (hj : j < len) :
    (execOp a.eval o).run Tryd.prog w = .ok (.value (.pointer (some ⟨g, j, none⟩))) w := by
  have h1 : (j : Int) < (len : Int) := by omega
  generalize a.eval = ρ at *
  simp [execOp, ho, hs, ht, go_sem, Tryd.underlying44, h1]

theorem run_loadText (a : Act) (w : World) (o : Oper) (p : Operand) (ad : Addr) (x : ByteArray) (ho : o.op = .load 9 p) (hp : a.eval p = .pointer (some ad)) (hc : w.cell? ad = some (.string x)) :
    (execOp a.eval o).run Tryd.prog w = .ok (.value (.string x)) w := by
  generalize a.eval = ρ at *
  simp [execOp, ho, hp, go_sem, Tryd.underlying9, hc]

theorem run_callKinds (a : Act) (w : World) (o : Oper) (p : Operand) (x : Value) (ats : Array TypeId) (ho : o.op = .call { callee := .value (.func 20), args := #[p], argTypes := ats }) (hp : a.eval p = x) :
    (execOp a.eval o).run Tryd.prog w = .ok (.enter 20 #[x]) w := by
  have hf : a.eval (.func 20) = .func (.func 20) #[] #[] := rfl
  generalize a.eval = ρ at *
  simp [execOp, ho, hf, hp, go_sem, Tryd.func20]

theorem run_callWords (a : Act) (w : World) (o : Oper) (p : Operand) (x : Value) (ats : Array TypeId) (ho : o.op = .call { callee := .value (.func 17), args := #[p], argTypes := ats }) (hp : a.eval p = x) :
    (execOp a.eval o).run Tryd.prog w = .ok (.enter 17 #[x]) w := by
  have hf : a.eval (.func 17) = .func (.func 17) #[] #[] := rfl
  generalize a.eval = ρ at *
  simp [execOp, ho, hf, hp, go_sem, Tryd.func17]

theorem run_callOperand (a : Act) (w : World) (o : Oper) (p q : Operand) (x y : Value) (ats : Array TypeId) (ho : o.op = .call { callee := .value (.func 21), args := #[p, q], argTypes := ats }) (hp : a.eval p = x) (hq : a.eval q = y) :
    (execOp a.eval o).run Tryd.prog w = .ok (.enter 21 #[x, y]) w := by
  have hf : a.eval (.func 21) = .func (.func 21) #[] #[] := rfl
  generalize a.eval = ρ at *
  simp [execOp, ho, hf, hp, hq, go_sem, Tryd.func21]

theorem run_storeInt (a : Act) (w : World) (o : Oper) (p v : Operand) (ad : Addr) (x : Int) (old : Value) (ho : o.op = .store 3 p v) (hp : a.eval p = .pointer (some ad)) (hv : a.eval v = .int .i64 x) (hc : w.cell? ad = some old) (hf : w.frozen? ad = false) :
    (execOp a.eval o).run Tryd.prog w = .ok .skip (w.setCell ad (.int .i64 x)) := by
  generalize a.eval = ρ at *
  simp [execOp, ho, hp, hv, go_sem, Tryd.underlying3, hc, hf]
end Go.Proofs.YtnmclpphiajleaaDoor
