/- A statement that draws its order and only reads, calls, compares: what lies ready on the way. -/
import Derived.Test.YtkaclahcpmogaaaGreatDoorFrAB
import Derived.Test.YtkaclahcpmogaaaGreatDoorFrAD
namespace Go.Proofs.YtkaclahcpmogaaaGreatDoor
open Go.ChangeShapes Go.WideShapes Go.ChangeAt Go.RowKit
open Orders
set_option linter.unusedVariables false
set_option linter.unusedSimpArgs false

/-- Values that are known, rows of bytes that were made, a world in which nothing old has turned. -/
structure GI (W0 : World) (E : Nat → Value) (R : Nat → Option Bs) (L : Nat → Bool) (u : Nat → Value) (w : World) : Prop where
  val : ∀ i, R i = none → L i = true → u i = E i
  row : ∀ i l, R i = some l → L i = true → ∃ B, Own B w (u i) l
  blw : Below W0.heap.size W0 w

section
variable {W0 : World} {E : Nat → Value} {R : Nat → Option Bs} {L : Nat → Bool} {u : Nat → Value} {w : World}

theorem GI.call (h : GI W0 E R L u w) (i : Nat) (hR : R i = none) {y : Value} {w' : World} (hy : y = E i) (hb : Below w.heap.size w w') : GI W0 E R (updL L i) (upd u i y) w' := by
  refine ⟨fun q hq hl => ?_, fun q l hq hl => ?_, h.blw.trans (hb.mono h.blw.size)⟩
  · by_cases eq : q = i
    · subst eq; rw [upd_same]; exact hy
    · rw [upd_other _ _ _ _ eq]; rw [updL_other _ _ _ eq] at hl; exact h.val q hq hl
  · have eq : q ≠ i := by rintro rfl; rw [hR] at hq; cases hq
    rw [upd_other _ _ _ _ eq]
    rw [updL_other _ _ _ eq] at hl
    obtain ⟨B, hO⟩ := h.row q l hq hl
    exact ⟨B, hO.later hb⟩

theorem GI.put (h : GI W0 E R L u w) (i : Nat) (hR : R i = none) {y : Value} (hy : y = E i) : GI W0 E R (updL L i) (upd u i y) w := h.call i hR hy (Below.refl _ _)

theorem GI.made (h : GI W0 E R L u w) (i : Nat) (l : Bs) (hR : R i = some l) {v : Value} {w' : World} (B : Nat) (hO : Own B w' v l) (hb : Below w.heap.size w w') : GI W0 E R (updL L i) (upd u i v) w' := by
  refine ⟨fun q hq hl => ?_, fun q l' hq hl => ?_, h.blw.trans (hb.mono h.blw.size)⟩
  · have eq : q ≠ i := by rintro rfl; rw [hR] at hq; cases hq
    rw [upd_other _ _ _ _ eq]
    rw [updL_other _ _ _ eq] at hl
    exact h.val q hq hl
  · by_cases eq : q = i
    · subst eq
      rw [hR] at hq
      cases hq
      rw [upd_same]
      exact ⟨B, hO⟩
    · rw [upd_other _ _ _ _ eq]
      rw [updL_other _ _ _ eq] at hl
      obtain ⟨B', hO'⟩ := h.row q l' hq hl
      exact ⟨B', hO'.later hb⟩
end

theorem step_valueG {ops : Array Oper} {Q : Exit → Act → World → Prop} {i : Nat} {o : Oper} {K : Act → World → Prop} {a : Act} {w w' : World} {v : Value} (hi : ops[i]? = some o) (hw : Region.wanted o (yielded ops a.tmps) = true)
    (h : (execOp a.eval o).run Tryz.prog w = .ok (.value v) w') (hK : K (a.put o.dst v) w') : wpOp Tryz.prog ops Q i K a w := by
  unfold wpOp
  rw [hi]
  simp only [hw, if_true]
  refine .inl ?_
  unfold Oper.wp
  rw [h]
  exact hK

theorem step_calledG {ops : Array Oper} {Q : Exit → Act → World → Prop} {i : Nat} {o : Oper} {K : Act → World → Prop} {a : Act} {w : World} {f : FuncId} {args : Array Value} {R : Value → World → Prop} (hi : ops[i]? = some o) (hw : Region.wanted o (yielded ops a.tmps) = true)
    (h : (execOp a.eval o).run Tryz.prog w = .ok (.enter f args) w) (hc : Calls Tryz.prog f args w fun e w' => ∃ v, e = .returned v ∧ R v w') (hK : ∀ v w', R v w' → K (a.put o.dst v) w') : wpOp Tryz.prog ops Q i K a w := by
  unfold wpOp
  rw [hi]
  simp only [hw, if_true]
  refine .inl ?_
  unfold Oper.wp
  rw [h, Oper.upon_enter]
  refine hc.mono ?_
  rintro e w' ⟨v, rfl, hR⟩
  exact hK v w' hR

theorem wanted_true {ops : Array Oper} {o oj : Oper} {ts : Array Value} {j d : Nat} (hg : o.guard = some (j, true)) (hj : ops[j]? = some oj) (hd : oj.dst = some d) (ht : ts[d]? = some (.bool true)) : Region.wanted o (yielded ops ts) = true := by
  unfold Region.wanted yielded
  simp [hg, hj, hd, ht]

theorem run_ldReq (a : Act) (w : World) (o : Oper) (p : Operand) (k : Nat) (r : Rq) (ho : o.op = .load 27 p) (hp : a.eval p = .pointer (some ⟨k, 0, none⟩)) (hc : w.heap[k]? = some (.cells #[.int .i64 r.kind, .string (bs r.name), .string (bs r.text), .int .i64 r.value] 27 (0, 0))) : (execOp a.eval o).run Tryz.prog w = .ok (.value (rqVal r)) w := by
  have c0 := cell_at hc 0 _ rfl
  have c1 := cell_at hc 1 _ rfl
  have c2 := cell_at hc 2 _ rfl
  have c3 := cell_at hc 3 _ rfl
  generalize a.eval = ρ at *
  simp [execOp, ho, hp, go_sem, Tryz.underlying27, Tryz.underlying3, Tryz.underlying9, c0, c1, c2, c3, rqVal]

theorem run_ldResp (a : Act) (w : World) (o : Oper) (p : Operand) (k : Nat) (r : Rp) (ip dp : Option Addr) (im ic dm dc : Nat) (ho : o.op = .load 42 p) (hp : a.eval p = .pointer (some ⟨k, 0, none⟩)) (hc : w.heap[k]? = some (.cells #[.int .i64 r.e, .string (bs r.text), .slice ip im ic, .slice dp dm dc] 42 (0, 0))) : (execOp a.eval o).run Tryz.prog w = .ok (.value (rpVal r (.slice ip im ic) (.slice dp dm dc))) w := by
  have c0 := cell_at hc 0 _ rfl
  have c1 := cell_at hc 1 _ rfl
  have c2 := cell_at hc 2 _ rfl
  have c3 := cell_at hc 3 _ rfl
  generalize a.eval = ρ at *
  simp [execOp, ho, hp, go_sem, Tryz.underlying42, Tryz.underlying31, Tryz.underlying9, Tryz.underlying23, Tryz.underlying40, c0, c1, c2, c3, rpVal]

theorem run_eqS (a : Act) (w : World) (o : Oper) (p q : Operand) (x y : Bs) (c : Bool) (ho : o.op = .binOp .eql 9 p q 9) (hp : a.eval p = .string (bs x)) (hq : a.eval q = .string (bs y)) (hxy : decide (x = y) = c) : (execOp a.eval o).run Tryz.prog w = .ok (.value (.bool c)) w := by
  have e := bs_eq x y
  generalize a.eval = ρ at *
  simp [execOp, ho, hp, hq, go_sem, Tryz.underlying9, e, hxy]

theorem run_eqB (a : Act) (w : World) (o : Oper) (p q : Operand) (x y : Bool) (ho : o.op = .binOp .eql 4 p q 4) (hp : a.eval p = .bool x) (hq : a.eval q = .bool y) : (execOp a.eval o).run Tryz.prog w = .ok (.value (.bool (x == y))) w := by
  generalize a.eval = ρ at *
  simp [execOp, ho, hp, hq, go_sem, Tryz.underlying4]

theorem run_eqQ (a : Act) (w : World) (o : Oper) (p q : Operand) (x y : Rq) (ho : o.op = .binOp .eql 27 p q 27) (hp : a.eval p = rqVal x) (hq : a.eval q = rqVal y) : (execOp a.eval o).run Tryz.prog w = .ok (.value (.bool (decide (x = y)))) w := by
  have h := rq_eq x y w
  have hg : (eqGuard .eql 27 p q (rqVal x) (rqVal y)).run Tryz.prog w = .ok () w := run_eqGuard_agg (P := Tryz.prog) w .eql 27 p q _ _ (by kernel_rfl)
  generalize a.eval = ρ at *
  unfold execOp
  simp only [ho, hp, hq, Sem.run_bind, hg, h, Sem.run_pure, Result.andThen_ok]

theorem run_pickT (a : Act) (w : World) (o : Oper) (p q r : Operand) (x : Value) (ho : o.op = .pick p q r) (hp : a.eval p = .bool true) (hq : a.eval q = x) : (execOp a.eval o).run Tryz.prog w = .ok (.value x) w := by
  generalize a.eval = ρ at *
  simp [execOp, ho, hp, hq, go_sem]

theorem run_enter1 (a : Act) (w : World) (o : Oper) (p : Operand) (x : Value) (ats : Array TypeId) (f : FuncId) (hf2 : f = 13 ∨ f = 18) (ho : o.op = .call { callee := .value (.func f), args := #[p], argTypes := ats }) (hp : a.eval p = x) :
    (execOp a.eval o).run Tryz.prog w = .ok (.enter f #[x]) w := by
  have hf : a.eval (.func f) = .func (.func f) #[] #[] := rfl
  generalize a.eval = ρ at *
  rcases hf2 with rfl | rfl
  · simp [execOp, ho, hf, hp, go_sem, Tryz.func13]
  · simp [execOp, ho, hf, hp, go_sem, Tryz.func18]

theorem run_enter11 (a : Act) (w : World) (o : Oper) (p : Operand) (x : Value) (ats : Array TypeId) (ho : o.op = .call { callee := .value (.func 20), args := #[p], argTypes := ats }) (hp : a.eval p = x) :
    (execOp a.eval o).run Tryz.prog w = .ok (.enter 20 #[x]) w := by
  have hf : a.eval (.func 20) = .func (.func 20) #[] #[] := rfl
  generalize a.eval = ρ at *
  simp [execOp, ho, hf, hp, go_sem, Tryz.func20]

theorem run_enter9 (a : Act) (w : World) (o : Oper) (p q : Operand) (x y : Value) (ats : Array TypeId) (ho : o.op = .call { callee := .value (.func 21), args := #[p, q], argTypes := ats }) (hp : a.eval p = x) (hq : a.eval q = y) :
    (execOp a.eval o).run Tryz.prog w = .ok (.enter 21 #[x, y]) w := by
  have hf : a.eval (.func 21) = .func (.func 21) #[] #[] := rfl
  generalize a.eval = ρ at *
  simp [execOp, ho, hf, hp, hq, go_sem, Tryz.func21]

theorem run_len (a : Act) (w : World) (o : Oper) (p : Operand) (q : Option Addr) (n c : Nat) (ho : o.op = .call { callee := .builtin .len, args := #[p], argTypes := #[23] }) (hp : a.eval p = .slice q n c) : (execOp a.eval o).run Tryz.prog w = .ok (.value (.int .i64 n)) w := by
  generalize a.eval = ρ at *
  simp [execOp, ho, hp, go_sem, Tryz.underlying23]

theorem run_eqI (a : Act) (w : World) (o : Oper) (p q : Operand) (x y : Int) (ho : o.op = .binOp .eql 3 p q 3) (hp : a.eval p = .int .i64 x) (hq : a.eval q = .int .i64 y) : (execOp a.eval o).run Tryz.prog w = .ok (.value (.bool (x == y))) w := by
  generalize a.eval = ρ at *
  simp [execOp, ho, hp, hq, go_sem, Tryz.underlying3]
end Go.Proofs.YtkaclahcpmogaaaGreatDoor
