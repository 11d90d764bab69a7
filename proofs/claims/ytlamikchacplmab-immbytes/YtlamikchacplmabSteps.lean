/- Single operations on numbers and slices of numbers, run by themselves. -/
import Derived.Test.YtlamikchacplmabSplit
import Derived.Test.YtlamikchacplmabOrders
namespace Go.Proofs.Ytlamikchacplmab
open Go.ChangeShapes Go.WideShapes Go.ChangeAt Go.RowKit
open Plain
set_option linter.unusedVariables false
set_option linter.unusedSimpArgs false

theorem run_build3 (a : Act) (w : World) (o : Oper) (t : Tmp) (x y z : Int) (ho : o.op = .buildSlice 23 3 #[(0, .const (.int .i64 x)), (1, .const (.int .i64 y)), (2, .tmp t)]) (hz : a.eval (.tmp t) = .int .i64 z) :
    (execOp a.eval o).run Try.prog w = .ok (.value (.slice (some ⟨w.heap.size, 0, none⟩) 3 3)) (w.alloc (.cells #[.int .i64 x, .int .i64 y, .int .i64 z] 3)) := by
  have hc : ∀ v, a.eval (.const v) = v := fun _ => rfl
  generalize a.eval = ρ at *
  simp [execOp, ho, hc, hz, go_sem, Try.underlying23]

theorem run_index (a : Act) (w : World) (o : Oper) (s t : Tmp) (g len : Nat) (n : Int) (ho : o.op = .indexAddr 23 (.tmp s) (.tmp t)) (hs : a.eval (.tmp s) = .slice (some ⟨g, 0, none⟩) len len) (ht : a.eval (.tmp t) = .int .i64 n)
    (h0 : 0 ≤ n) (h1 : n < len) :
    (execOp a.eval o).run Try.prog w = .ok (.value (.pointer (some ⟨g, n.toNat, none⟩))) w := by
  generalize a.eval = ρ at *
  simp [execOp, ho, hs, ht, go_sem, Try.underlying23, h0, h1]

theorem run_load1 (a : Act) (w : World) (o : Oper) (t : Tmp) (p : Addr) (x : Int) (ho : o.op = .load 3 (.tmp t)) (ht : a.eval (.tmp t) = .pointer (some p)) (hc : w.cell? p = some (.int .i64 x)) :
    (execOp a.eval o).run Try.prog w = .ok (.value (.int .i64 x)) w := by
  generalize a.eval = ρ at *
  simp [execOp, ho, ht, go_sem, Try.underlying3, hc]

theorem run_and255 (a : Act) (w : World) (o : Oper) (t : Tmp) (x : Int) (ho : o.op = .binOp .and 3 (.tmp t) (.const (.int .i64 255)) 3) (ht : a.eval (.tmp t) = .int .i64 x) :
    (execOp a.eval o).run Try.prog w = .ok (.value (.int .i64 (x % 256))) w := by
  have hc : ∀ v, a.eval (.const v) = v := fun _ => rfl
  have h8 : bits .and .i64 x 255 = x % 256 := and_mask x 8 (by omega)
  generalize a.eval = ρ at *
  simp [execOp, ho, hc, ht, go_sem, Try.underlying3, h8]

theorem run_callWithin (a : Act) (w : World) (o : Oper) (t : Tmp) (x n : Int) (ats : Array TypeId) (ho : o.op = .call { callee := .value (.func 9), args := #[.tmp t, .const (.int .i64 n)], argTypes := ats }) (ht : a.eval (.tmp t) = .int .i64 x) :
    (execOp a.eval o).run Try.prog w = .ok (.enter 9 #[.int .i64 x, .int .i64 n]) w := by
  have hc : ∀ v, a.eval (.const v) = v := fun _ => rfl
  have hf : a.eval (.func 9) = .func (.func 9) #[] #[] := rfl
  generalize a.eval = ρ at *
  simp [execOp, ho, hc, hf, ht, go_sem, Try.func9]

theorem run_build4 (a : Act) (w : World) (o : Oper) (t0 t1 t2 t3 : Tmp) (x0 x1 x2 x3 : Int) (ho : o.op = .buildSlice 23 4 #[(0, .tmp t0), (1, .tmp t1), (2, .tmp t2), (3, .tmp t3)])
    (h0 : a.eval (.tmp t0) = .int .i64 x0) (h1 : a.eval (.tmp t1) = .int .i64 x1) (h2 : a.eval (.tmp t2) = .int .i64 x2) (h3 : a.eval (.tmp t3) = .int .i64 x3) :
    (execOp a.eval o).run Try.prog w = .ok (.value (.slice (some ⟨w.heap.size, 0, none⟩) 4 4)) (w.alloc (.cells #[.int .i64 x0, .int .i64 x1, .int .i64 x2, .int .i64 x3] 3)) := by
  generalize a.eval = ρ at *
  simp [execOp, ho, h0, h1, h2, h3, go_sem, Try.underlying23]
end Go.Proofs.Ytlamikchacplmab
