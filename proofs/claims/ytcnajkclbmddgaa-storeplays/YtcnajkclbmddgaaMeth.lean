/- Which function a heap's methods are. -/
import Derived.Test.YtcnajkclbmddgaaHeapP
namespace Go.Proofs.Ytcnajkclbmddgaa
open Go.ChangeShapes Go.WideShapes Go.ChangeAt Go.RowKit
set_option linter.unusedVariables false
set_option linter.unusedSimpArgs false

theorem meth_info {t : TypeId} {name : String} {f : FuncId} {b : Bool} (h : ((Try.prog.info? t).bind fun i => (i.methods.find? (·.name == name)).map fun m => (m.path, m.func)) = some (#[], some (f, b))) (w : World) :
    ∃ i m, Sem.run Try.prog (typeInfo t) w = .ok i w ∧ i.methods.find? (·.name == name) = some m ∧ m.path = #[] ∧ m.func = some (f, b) := by
  cases hi : Try.prog.info? t with
  | none => rw [hi] at h; cases h
  | some i =>
    rw [hi] at h
    cases hm : i.methods.find? (·.name == name) with
    | none => simp [hm] at h
    | some m =>
      simp only [Option.bind_some, hm, Option.map_some, Option.some.injEq, Prod.mk.injEq] at h
      exact ⟨i, m, by simp [typeInfo, hi, go_sem], hm, h.1, h.2⟩
theorem run_wrapchk {P : Program} (ats : Array TypeId) (t : TypeId) (q : Addr) (a b : String) (w : World) : Sem.run P (Builtin.ssaWrapNilChk_ ats t #[.pointer (some q), strVal a, strVal b]) w = .ok (.pointer (some q)) w := rfl

theorem less_m (w : World) (q : Addr) (v : Value) (hq : w.cell? q = some v) : Sem.run Try.prog (method 223 92 (.pointer (some q)) "Less") w = .ok (77, v) w := by
  obtain ⟨i, m, h1, h2, h3, h4⟩ := meth_info (t := 92) (name := "Less") (f := 77) (b := false) (by kernel_rfl) w
  unfold method
  simp only [Sem.run_bind, h1, Result.andThen_ok, h2]
  simp [follow, receiverAt, go_sem, Place.get, run_wrapchk, hq, h3, h4]
theorem swap_m (w : World) (q : Addr) (v : Value) (hq : w.cell? q = some v) : Sem.run Try.prog (method 223 92 (.pointer (some q)) "Swap") w = .ok (78, v) w := by
  obtain ⟨i, m, h1, h2, h3, h4⟩ := meth_info (t := 92) (name := "Swap") (f := 78) (b := false) (by kernel_rfl) w
  unfold method
  simp only [Sem.run_bind, h1, Result.andThen_ok, h2]
  simp [follow, receiverAt, go_sem, Place.get, run_wrapchk, hq, h3, h4]
theorem len_m (w : World) (q : Addr) (v : Value) (hq : w.cell? q = some v) : Sem.run Try.prog (method 223 92 (.pointer (some q)) "Len") w = .ok (76, v) w := by
  obtain ⟨i, m, h1, h2, h3, h4⟩ := meth_info (t := 92) (name := "Len") (f := 76) (b := false) (by kernel_rfl) w
  unfold method
  simp only [Sem.run_bind, h1, Result.andThen_ok, h2]
  simp [follow, receiverAt, go_sem, Place.get, run_wrapchk, hq, h3, h4]
theorem push_m (w : World) (q : Addr) : Sem.run Try.prog (method 223 92 (.pointer (some q)) "Push") w = .ok (80, .pointer (some q)) w := by
  obtain ⟨i, m, h1, h2, h3, h4⟩ := meth_info (t := 92) (name := "Push") (f := 80) (b := true) (by kernel_rfl) w
  unfold method
  simp only [Sem.run_bind, h1, Result.andThen_ok, h2]
  simp [follow, receiverAt, go_sem, Place.get, run_wrapchk, h3, h4]
theorem pop_m (w : World) (q : Addr) : Sem.run Try.prog (method 223 92 (.pointer (some q)) "Pop") w = .ok (79, .pointer (some q)) w := by
  obtain ⟨i, m, h1, h2, h3, h4⟩ := meth_info (t := 92) (name := "Pop") (f := 79) (b := true) (by kernel_rfl) w
  unfold method
  simp only [Sem.run_bind, h1, Result.andThen_ok, h2]
  simp [follow, receiverAt, go_sem, Place.get, run_wrapchk, h3, h4]
end Go.Proofs.Ytcnajkclbmddgaa
