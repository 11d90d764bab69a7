/- Which function a heap's methods are. -/
import Derived.Test.YtcnajkclbmddgabHeapP
namespace Go.Proofs.Ytcnajkclbmddgab
open Go.ChangeShapes Go.WideShapes Go.ChangeAt Go.RowKit
set_option linter.unusedVariables false
set_option linter.unusedSimpArgs false

theorem meth_info {t : TypeId} {name : String} {f : FuncId} {b : Bool} (h : ((Try.prog.info? t).bind fun i => (i.methods.find? (·.name == name)).map fun m => (m.path, m.func)) = some (#[], some (f, b))) (w : World) :
    ∃ i m, Sem.run Try.prog (typeInfo t) w = .ok i w ∧ i.methods.find? (·.name == name) = some m ∧ m.path = #[] ∧ m.func = some (f, b) := by
  cases hi : Try.prog.info? t with
  | none => rw [hi] at h; cases h
  | some i =>
    rw [hi] at h
    cases hm : i.methods.find? (·.name == name) with
    | none => simp [hm] at h
    | some m =>
      simp only [Option.bind_some, hm, Option.map_some, Option.some.injEq, Prod.mk.injEq] at h
      exact ⟨i, m, by simp [typeInfo, hi, go_sem], hm, h.1, h.2⟩
theorem run_wrapchk {P : Program} (ats : Array TypeId) (t : TypeId) (q : Addr) (a b : String) (w : World) : Sem.run P (Builtin.ssaWrapNilChk_ ats t #[.pointer (some q), strVal a, strVal b]) w = .ok (.pointer (some q)) w := rfl

theorem less_m (w : World) (q : Addr) (v : Value) (hq : w.cell? q = some v) : Sem.run Try.prog (method 213 79 (.pointer (some q)) "Less") w = .ok (69, v) w := by
  obtain ⟨i, m, h1, h2, h3, h4⟩ := meth_info (t := 79) (name := "Less") (f := 69) (b := false) (by kernel_rfl) w
  unfold method
  simp only [Sem.run_bind, h1, Result.andThen_ok, h2]
  simp [follow, receiverAt, go_sem, Place.get, run_wrapchk, hq, h3, h4]
theorem swap_m (w : World) (q : Addr) (v : Value) (hq : w.cell? q = some v) : Sem.run Try.prog (method 213 79 (.pointer (some q)) "Swap") w = .ok (70, v) w := by
  obtain ⟨i, m, h1, h2, h3, h4⟩ := meth_info (t := 79) (name := "Swap") (f := 70) (b := false) (by kernel_rfl) w
  unfold method
  simp only [Sem.run_bind, h1, Result.andThen_ok, h2]
  simp [follow, receiverAt, go_sem, Place.get, run_wrapchk, hq, h3, h4]
theorem len_m (w : World) (q : Addr) (v : Value) (hq : w.cell? q = some v) : Sem.run Try.prog (method 213 79 (.pointer (some q)) "Len") w = .ok (68, v) w := by
  obtain ⟨i, m, h1, h2, h3, h4⟩ := meth_info (t := 79) (name := "Len") (f := 68) (b := false) (by kernel_rfl) w
  unfold method
  simp only [Sem.run_bind, h1, Result.andThen_ok, h2]
  simp [follow, receiverAt, go_sem, Place.get, run_wrapchk, hq, h3, h4]
theorem push_m (w : World) (q : Addr) : Sem.run Try.prog (method 213 79 (.pointer (some q)) "Push") w = .ok (72, .pointer (some q)) w := by
  obtain ⟨i, m, h1, h2, h3, h4⟩ := meth_info (t := 79) (name := "Push") (f := 72) (b := true) (by kernel_rfl) w
  unfold method
  simp only [Sem.run_bind, h1, Result.andThen_ok, h2]
  simp [follow, receiverAt, go_sem, Place.get, run_wrapchk, h3, h4]
theorem pop_m (w : World) (q : Addr) : Sem.run Try.prog (method 213 79 (.pointer (some q)) "Pop") w = .ok (71, .pointer (some q)) w := by
  obtain ⟨i, m, h1, h2, h3, h4⟩ := meth_info (t := 79) (name := "Pop") (f := 71) (b := true) (by kernel_rfl) w
  unfold method
  simp only [Sem.run_bind, h1, Result.andThen_ok, h2]
  simp [follow, receiverAt, go_sem, Place.get, run_wrapchk, h3, h4]
end Go.Proofs.Ytcnajkclbmddgab
