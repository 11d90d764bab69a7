/- Single operations of the law's own Syms, run by themselves. -/
import Derived.Test.YtopfnfmglnjljaaGreatDoorKids
import Derived.Test.YtopfnfmglnjljaaGreatDoorMake
import Derived.Test.YtopfnfmglnjljaaGreatDoorArgs
import Derived.Deep.AppendLies
import Derived.Deep.RegionLaw
import Derived.Test.YtopfnfmglnjljaaGreatDoorSymsI
namespace Go.Proofs.YtopfnfmglnjljaaGreatDoor
open Go.ChangeShapes Go.WideShapes Go.ChangeAt Go.RowKit
set_option linter.unusedVariables false
set_option linter.unusedSimpArgs false
open Orders

def symVals : List Int := [0, 1, -1, 1099511627776, -1099511627776, 100, 3, 1048576]

/-- Of the first so many numbers. -/
def symsGo (ns : List Int) : Nat → List (Bs × Int)
  | 0 => []
  | j + 1 => symsGo ns j ++ (if 0 < (ns.getD j 0) % 5 then [(rawNames.getD j [], symVals.getD (((ns.getD j 0).tdiv 5) % 8).toNat 0)] else [])

def symsP (ns : List Int) : List (Bs × Int) := symsGo ns (min ns.length 4)

def flat (l : List (Bs × Int)) : List Value := l.flatMap fun p => [.string (bs p.1), .int .i64 p.2]

theorem vals_cell (s : Nat) (h : s < 8) : (#[.int .i64 0, .int .i64 1, .int .i64 (-1), .int .i64 1099511627776, .int .i64 (-1099511627776), .int .i64 100, .int .i64 3, .int .i64 1048576] : Array Value)[s]? = some (.int .i64 (symVals.getD s 0)) := by
  match s, h with
  | 0, _ => rfl
  | 1, _ => rfl
  | 2, _ => rfl
  | 3, _ => rfl
  | 4, _ => rfl
  | 5, _ => rfl
  | 6, _ => rfl
  | 7, _ => rfl

theorem symsGo_len (ns : List Int) : ∀ j, (symsGo ns j).length ≤ j
  | 0 => by simp [symsGo]
  | j + 1 => by have := symsGo_len ns j; simp only [symsGo, List.length_append]; split <;> simp <;> omega

theorem run_move (a : Act) (w : World) (o : Oper) (p : Operand) (x : Value) (ho : o.op = .move p) (hp : a.eval p = x) : (execOp a.eval o).run Tryz.prog w = .ok (.value x) w := by
  generalize a.eval = ρ at *
  simp [execOp, ho, hp, go_sem]

theorem run_assign (a : Act) (w : World) (o : Oper) (p : Operand) (x : Value) (ho : o.op = .assign p) (hp : a.eval p = x) : (execOp a.eval o).run Tryz.prog w = .ok (.value x) w := by
  generalize a.eval = ρ at *
  simp [execOp, ho, hp, go_sem]

theorem run_indexInts (a : Act) (w : World) (o : Oper) (s t : Operand) (g off len cap j : Nat) (ho : o.op = .indexAddr 35 s t) (hs : a.eval s = .slice (some ⟨g, off, none⟩) len cap) (ht : a.eval t = .int .i64 (j : Int)) (hj : j < len) :
    (execOp a.eval o).run Tryz.prog w = .ok (.value (.pointer (some ⟨g, off + j, none⟩))) w := by
  have h1 : (j : Int) < (len : Int) := by omega
  generalize a.eval = ρ at *
  simp [execOp, ho, hs, ht, go_sem, Tryz.underlying35, h1]

theorem run_indexTexts (a : Act) (w : World) (o : Oper) (s t : Operand) (g len cap j : Nat) (ho : o.op = .indexAddr 32 s t) (hs : a.eval s = .slice (some ⟨g, 0, none⟩) len cap) (ht : a.eval t = .int .i64 (j : Int)) (hj : j < len) :
    (execOp a.eval o).run Tryz.prog w = .ok (.value (.pointer (some ⟨g, j, none⟩))) w := by
  have h1 : (j : Int) < (len : Int) := by omega
  generalize a.eval = ρ at *
  simp [execOp, ho, hs, ht, go_sem, Tryz.underlying32, h1]

theorem run_loadText (a : Act) (w : World) (o : Oper) (p : Operand) (ad : Addr) (x : ByteArray) (ho : o.op = .load 9 p) (hp : a.eval p = .pointer (some ad)) (hc : w.cell? ad = some (.string x)) :
    (execOp a.eval o).run Tryz.prog w = .ok (.value (.string x)) w := by
  generalize a.eval = ρ at *
  simp [execOp, ho, hp, go_sem, Tryz.underlying9, hc]

theorem run_loadInt (a : Act) (w : World) (o : Oper) (p : Operand) (ad : Addr) (x : Int) (ho : o.op = .load 3 p) (hp : a.eval p = .pointer (some ad)) (hc : w.cell? ad = some (.int .i64 x)) :
    (execOp a.eval o).run Tryz.prog w = .ok (.value (.int .i64 x)) w := by
  generalize a.eval = ρ at *
  simp [execOp, ho, hp, go_sem, Tryz.underlying3, hc]

theorem run_build8 (a : Act) (w : World) (o : Oper) (ho : o.op = .buildSlice 35 8 #[(0, .const (.int .i64 0)), (1, .const (.int .i64 1)), (2, .const (.int .i64 (-1))), (3, .const (.int .i64 1099511627776)), (4, .const (.int .i64 (-1099511627776))), (5, .const (.int .i64 100)), (6, .const (.int .i64 3)), (7, .const (.int .i64 1048576))]) :
    (execOp a.eval o).run Tryz.prog w = .ok (.value (.slice (some ⟨w.heap.size, 0, none⟩) 8 8)) (w.alloc (.cells #[.int .i64 0, .int .i64 1, .int .i64 (-1), .int .i64 1099511627776, .int .i64 (-1099511627776), .int .i64 100, .int .i64 3, .int .i64 1048576] 3)) := by
  have hc : ∀ v, a.eval (.const v) = v := fun _ => rfl
  generalize a.eval = ρ at *
  simp [execOp, ho, hc, go_sem, Tryz.underlying35]

theorem run_quo5 (a : Act) (w : World) (o : Oper) (t : Operand) (x : Int) (ho : o.op = .binOp .quo 3 t (.const (.int .i64 5)) 3) (ht : a.eval t = .int .i64 x) (hx : -9223372036854775808 ≤ x ∧ x ≤ 9223372036854775807) :
    (execOp a.eval o).run Tryz.prog w = .ok (.value (.int .i64 (x.tdiv 5))) w := by
  have hc : ∀ v, a.eval (.const v) = v := fun _ => rfl
  have hq := IntWalk.i64_quo' x 5 ⟨hx.1, hx.2, by omega⟩
  generalize a.eval = ρ at *
  simp [execOp, ho, hc, ht, go_sem, Tryz.underlying3, hq]

theorem run_callWithin8 (a : Act) (w : World) (o : Oper) (t : Operand) (x : Int) (ats : Array TypeId) (ho : o.op = .call { callee := .value (.func 17), args := #[t, .const (.int .i64 8)], argTypes := ats }) (ht : a.eval t = .int .i64 x) :
    (execOp a.eval o).run Tryz.prog w = .ok (.enter 17 #[.int .i64 x, .int .i64 8]) w := by
  have hc : ∀ v, a.eval (.const v) = v := fun _ => rfl
  have hf : a.eval (.func 17) = .func (.func 17) #[] #[] := rfl
  generalize a.eval = ρ at *
  simp [execOp, ho, hc, hf, ht, go_sem, Tryz.func17]

theorem run_callNames (a : Act) (w : World) (o : Oper) (ats : Array TypeId) (ho : o.op = .call { callee := .value (.func 37), args := #[], argTypes := ats }) :
    (execOp a.eval o).run Tryz.prog w = .ok (.enter 37 #[]) w := by
  have hf : a.eval (.func 37) = .func (.func 37) #[] #[] := rfl
  generalize a.eval = ρ at *
  simp [execOp, ho, hf, go_sem, Tryz.func37]

theorem run_buildSym (a : Act) (w : World) (o : Oper) (p q : Operand) (s : ByteArray) (n : Int) (ho : o.op = .build 51 #[(0, p), (1, q)]) (hp : a.eval p = .string s) (hq : a.eval q = .int .i64 n) :
    (execOp a.eval o).run Tryz.prog w = .ok (.value (.agg #[.string s, .int .i64 n])) w := by
  generalize a.eval = ρ at *
  simp [execOp, ho, hp, hq, go_sem, Tryz.underlying51]

theorem run_buildSyms (a : Act) (w : World) (o : Oper) (p : Operand) (s : ByteArray) (n : Int) (ho : o.op = .buildSlice 39 1 #[(0, p)]) (hp : a.eval p = .agg #[.string s, .int .i64 n]) :
    (execOp a.eval o).run Tryz.prog w = .ok (.value (.slice (some ⟨w.heap.size, 0, none⟩) 1 1)) (w.alloc (.cells #[.string s, .int .i64 n] 51)) := by
  generalize a.eval = ρ at *
  simp [execOp, ho, hp, go_sem, Tryz.underlying39]

/-- A step that calls, by what the call leaves. -/
theorem step_called {ops : Array Oper} {Q : Exit → Act → World → Prop} {i : Nat} {o : Oper} {K : Act → World → Prop} {a : Act} {w : World} {f : FuncId} {args : Array Value} {R : Value → World → Prop} (hi : ops[i]? = some o) (hg : o.guard = none)
    (h : (execOp a.eval o).run Tryz.prog w = .ok (.enter f args) w) (hc : Calls Tryz.prog f args w fun e w' => ∃ v, e = .returned v ∧ R v w') (hK : ∀ v w', R v w' → K (a.put o.dst v) w') : wpOp Tryz.prog ops Q i K a w := by
  unfold wpOp
  rw [hi]
  have hw : Region.wanted o (yielded ops a.tmps) = true := by unfold Region.wanted; rw [hg]
  simp only [hw, if_true]
  refine .inl ?_
  unfold Oper.wp
  rw [h, Oper.upon_enter]
  refine hc.mono ?_
  rintro e w' ⟨v, rfl, hR⟩
  exact hK v w' hR

theorem step_oper {ops : Array Oper} {Q : Exit → Act → World → Prop} {i : Nat} {o : Oper} {K : Act → World → Prop} {a : Act} {w : World} (hi : ops[i]? = some o) (hg : o.guard = none)
    (h : Oper.wp Tryz.prog o a w K Q) : wpOp Tryz.prog ops Q i K a w := by
  unfold wpOp
  rw [hi]
  have hw : Region.wanted o (yielded ops a.tmps) = true := by unfold Region.wanted; rw [hg]
  simp only [hw, if_true]
  exact .inl h

theorem grown_of_below {w w' : World} (h : Below w.heap.size w w') (row : Option Nat) : w.grownBy w' row := ⟨h.os, h.tape, h.output, h.size, fun k hk _ => h.block k hk⟩

theorem below_grown {W w w' : World} {H : Nat} {row : Option Nat} (h : Below H W w) (hH : H ≤ w.heap.size) (hg : w.grownBy w' row) (hr : ∀ j, row = some j → H ≤ j) : Below H W w' :=
  ⟨hg.os.trans h.os, hg.tape.trans h.tape, hg.output.trans h.output, Nat.le_trans h.size hg.size, fun k hk => (hg.block k (by omega) (fun e => by have := hr k e.symm; omega)).trans (h.block k hk)⟩

theorem flat_get : ∀ (l : List (Bs × Int)) (i : Nat) (s : Bs) (n : Int), l[i]? = some (s, n) → (flat l)[i * 2]? = some (.string (bs s)) ∧ (flat l)[i * 2 + 1]? = some (.int .i64 n)
  | [], i, s, n, h => by simp at h
  | (a, b) :: l, 0, s, n, h => by simp at h; obtain ⟨rfl, rfl⟩ := h; simp [flat]
  | (a, b) :: l, i + 1, s, n, h => by
    have := flat_get l i s n (by simpa using h)
    rw [show (i + 1) * 2 = i * 2 + 1 + 1 by omega]
    simpa [flat] using this

theorem flat_len : ∀ (l : List (Bs × Int)), (flat l).length = l.length * 2
  | [] => rfl
  | (a, b) :: l => by have := flat_len l; simp [flat] at this ⊢; omega

theorem syms_of_own {w : World} {base : Nat} {t : TypeId} {v : Value} {l : List (Bs × Int)} (h : w.ownsRow base t 2 v l.length (flat l)) (hl : l.length ≤ 4) : SymsAt w v l := by
  rcases h.2 with ⟨rfl, hn⟩ | ⟨g, cap, cur, rfl, hg, hc, h1, h2, h3, h4⟩
  · exact ⟨none, 0, by rw [hn], by unfold maxLen; omega, fun hne => absurd (List.length_eq_zero_iff.1 hn) hne⟩
  · refine ⟨_, cap, rfl, by unfold maxLen; omega, fun _ => ⟨g, 0, rfl, fun i s n hi => ?_⟩⟩
    obtain ⟨e1, e2⟩ := flat_get l i s n hi
    have hlt := (List.getElem?_eq_some_iff.1 hi).1
    rw [← h4, List.getElem?_take, if_pos (by omega)] at e1 e2
    simp [World.cell?, hc]
    exact ⟨by simpa using e1, by simpa using e2⟩

theorem info_sym : (Tryz.prog.info? 51).map (fun i => (i.zero, i.size, i.bytes)) = some (some (.agg #[.string ⟨#[]⟩, .int .i64 0]), 2, 24) := by kernel_rfl

end Go.Proofs.YtopfnfmglnjljaaGreatDoor
