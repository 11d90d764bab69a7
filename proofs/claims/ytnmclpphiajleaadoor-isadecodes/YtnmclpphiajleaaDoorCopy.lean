/- Slices that are copied by append, a step at a time, in whatever order is drawn. -/
import Derived.Test.YtnmclpphiajleaaDoorOrders2
import Derived.Test.YtnmclpphiajleaaDoorConv
import Derived.Test.YtnmclpphiajleaaDoorEncodeAt
import Derived.Deep.Upon
namespace Go.Proofs.YtnmclpphiajleaaDoor
open Go.ChangeShapes Go.WideShapes Go.ChangeAt Go.RowKit
open Plain
open Orders
set_option linter.unusedVariables false
set_option linter.unusedSimpArgs false

/-- The slice holds these cells. -/
def Holds (w : World) (y : Value) (news : List Value) : Prop :=
  ∃ p cap, y = .slice p news.length cap ∧ (news ≠ [] → ∃ b o, p = some ⟨b, o, none⟩ ∧ ∀ i u, news[i]? = some u → w.cell? ⟨b, o + i, none⟩ = some u)

theorem Holds.later {w w' : World} {y : Value} {news : List Value} (h : Holds w y news) (hb : Below w.heap.size w w') : Holds w' y news := by
  obtain ⟨p, cap, rfl, h⟩ := h
  refine ⟨p, cap, rfl, fun hn => ?_⟩
  obtain ⟨b, o, e, h2⟩ := h hn
  exact ⟨b, o, e, fun i x hx => kept_cell hb (h2 i x hx)⟩

theorem holds_ints {w : World} {v : Value} {fs : List Int} (h : SliceIs w v fs) : Holds w v (fs.map fun x => Value.int .i64 x) := by
  obtain ⟨p, cap, rfl, h⟩ := h
  refine ⟨p, cap, by simp, fun hn => ?_⟩
  obtain ⟨b, o, e, h2⟩ := h (by intro e; subst e; simp at hn)
  refine ⟨b, o, e, fun i u hu => ?_⟩
  rw [List.getElem?_map] at hu
  obtain ⟨x, hx, rfl⟩ := Option.map_eq_some_iff.1 hu
  exact h2 i x hx

theorem holds_bytes {w : World} {v : Value} {fs : List Int} (h : BytesAt w v fs) : Holds w v (fs.map fun x => Value.int .u8 x) := by
  obtain ⟨p, cap, rfl, _, h⟩ := h
  refine ⟨p, cap, by simp, fun hn => ?_⟩
  obtain ⟨b, o, e, h2⟩ := h (by intro e; subst e; simp at hn)
  refine ⟨b, o, e, fun i u hu => ?_⟩
  rw [List.getElem?_map] at hu
  obtain ⟨x, hx, rfl⟩ := Option.map_eq_some_iff.1 hu
  exact h2 i x hx

theorem row_form {w : World} {base : Nat} {e : TypeId} {v : Value} {n : Nat} {xs : List Value} (h : w.ownsRow base e 1 v n xs) : ∃ p cap, v = .slice p n cap ∧ n ≤ cap := by
  rcases h.2 with ⟨rfl, rfl⟩ | ⟨g, cap, cur, rfl, _, _, h, _⟩
  · exact ⟨_, _, rfl, Nat.le_refl _⟩
  · exact ⟨_, _, rfl, h⟩

/-- One append, run. -/
theorem run_app {w : World} (t ty : TypeId) (e : TypeId) (i : TypeInfo) (z : Value) (bytes : Nat) (ht : Tryd.prog.underlying t = some (.slice e)) (hi : Tryd.prog.info? e = some i) (hz : i.zero = some z)
    (hsize : i.size = 1) (hby : i.bytes = bytes) (hzs : z.cells.size = 1) (H : Nat) (v : Value) (xs : List Value) (hown : w.ownsRow H e 1 v xs.length xs) (y : Value) (news : List Value) (hy : Holds w y news)
    (h1 : ∀ u ∈ news, u.oneCell' = true) (h63 : xs.length + news.length ≤ maxLen) (hbytes : (xs.length + news.length) * bytes ≤ 140737488355328) (hbase : H ≤ w.heap.size) :
    ∃ v' w', (Builtin.append_ #[t, t] ty #[v, y]).run Tryd.prog w = .ok v' w' ∧ w'.ownsRow H e 1 v' (xs ++ news).length (xs ++ news) ∧ w.grownBy w' v.ownBlock := by
  obtain ⟨p, cap, rfl, hc⟩ := hy
  rw [List.length_append]
  cases p with
  | none =>
    have hn : news = [] := by
      by_cases h : news = []
      · exact h
      · obtain ⟨b, o, e, _⟩ := hc h; simp at e
    subst hn
    obtain ⟨p, c, rfl, hle⟩ := row_form hown
    refine ⟨_, w, run_append_nothing (P := Tryd.prog) w t t ty e i ht hi p xs.length c hle (.slice none 0 cap) ⟨.inl ⟨e, ht⟩, fun w' => by simp [Builtin.lenOf, go_sem], by simp [Builtin.firstCells, go_sem, hsize], by simp [Builtin.firstCells, go_sem, hsize], by simp, by simp⟩, by simpa using hown, ?_⟩
    exact ⟨rfl, rfl, rfl, Nat.le_refl _, fun _ _ _ => rfl⟩
  | some ad =>
    obtain ⟨v', w', h1', h2, h3, _⟩ := run_append_own (P := Tryd.prog) (w := w) H t ty e i z 1 bytes ht hi hz hsize hby hzs (by omega) v xs.length xs hown ad news.length cap news (by simp) (fun j u hu => by
      obtain ⟨b, o, e, h2⟩ := hc (by intro e; subst e; simp at hu)
      cases e
      rw [add_plain]
      exact h2 j u hu) h1 h63 hbytes hbase
    exact ⟨v', w', h1', h2, h3⟩

section
variable {ops : Array Oper} {Q : Exit → Act → World → Prop}

theorem step_app {i : Nat} {o : Oper} {K : Act → World → Prop} {a : Act} {w : World} (hi : ops[i]? = some o) (hg : o.guard = none) (s x : Operand) (t : TypeId)
    (ho : o.op = .call { callee := .builtin .append, args := #[s, x], argTypes := #[t, t] }) (e : TypeId) (z : Value) (bytes : Nat) (ht : Tryd.prog.underlying t = some (.slice e))
    (hinf : (Tryd.prog.info? e).map (fun i => (i.zero, i.size, i.bytes)) = some (some z, 1, bytes)) (hzs : z.cells.size = 1) (H : Nat) (v : Value) (xs : List Value) (hs : a.eval s = v) (hown : w.ownsRow H e 1 v xs.length xs)
    (y : Value) (news : List Value) (hx : a.eval x = y) (hy : Holds w y news) (h1 : ∀ u ∈ news, u.oneCell' = true) (h63 : xs.length + news.length ≤ maxLen) (hbytes : (xs.length + news.length) * bytes ≤ 140737488355328) (hbase : H ≤ w.heap.size)
    (hK : ∀ v' w', w'.ownsRow H e 1 v' (xs ++ news).length (xs ++ news) → w.grownBy w' v.ownBlock → K (a.put o.dst v') w') : wpOp Tryd.prog ops Q i K a w := by
  obtain ⟨inf, q1, q2, q3, q4⟩ := info_parts hinf
  obtain ⟨v', w', hr, h2, h3⟩ := run_app t o.type e inf z bytes ht q1 q2 q3 q4 hzs H v xs hown y news hy h1 h63 hbytes hbase
  refine step_value hi hg ?_ (hK v' w' h2 h3)
  simp [execOp, ho, resolve, invoke, builtin, hs, hx, hr, Result.andThen]
end

theorem info_u8 : (Tryd.prog.info? 5).map (fun i => (i.zero, i.size, i.bytes)) = some (some (.int .u8 0), 1, 1) := by kernel_rfl

theorem below_grown {W w w' : World} {H : Nat} {row : Option Nat} (h : Below H W w) (hH : H ≤ w.heap.size) (hg : w.grownBy w' row) (hr : ∀ j, row = some j → H ≤ j) : Below H W w' :=
  ⟨hg.os.trans h.os, hg.tape.trans h.tape, hg.output.trans h.output, Nat.le_trans h.size hg.size, fun k hk => (hg.block k (by omega) (fun e => by have := hr k e.symm; omega)).trans (h.block k hk)⟩

theorem blk_kept {w w' : World} {g : Nat} {o : Obj} {row : Option Nat} (h : w.heap[g]? = some o) (hg : w.grownBy w' row) (hne : some g ≠ row) : w'.heap[g]? = some o := by
  have hlt : g < w.heap.size := by
    by_cases hl : g < w.heap.size
    · exact hl
    · rw [Array.getElem?_eq_none (by omega)] at h; cases h
  rw [hg.block g hlt hne]; exact h

theorem blk_alloc {w : World} {g : Nat} {o o' : Obj} (h : w.heap[g]? = some o) : (w.alloc o').heap[g]? = some o := blk_kept h (World.grownBy_alloc w o' none) (by simp)

/-- A slice that is there holds what it holds, whatever else was made. -/
theorem holds_row {w : World} {base : Nat} {e : TypeId} {v : Value} {xs : List Value} (h : w.ownsRow base e 1 v xs.length xs) : Holds w v xs := by
  rcases h.2 with ⟨rfl, h0⟩ | ⟨g, cap, cur, rfl, _, hb, hc, _, _, htk⟩
  · refine ⟨none, 0, by rw [h0], fun hn => absurd (List.length_eq_zero_iff.1 h0) hn⟩
  · refine ⟨_, _, rfl, fun hn => ⟨g, 0, rfl, fun i u hu => ?_⟩⟩
    rw [Nat.zero_add, World.cell?]
    have hu' : cur[i]? = some u := by
      have hi : i < xs.length := (List.getElem?_eq_some_iff.1 hu).1
      rw [← htk] at hu
      rw [List.getElem?_take, if_pos (by rw [Nat.mul_one]; omega)] at hu
      simpa using hu
    simp [hb, hu']

theorem run_build0 (a : Act) (w : World) (o : Oper) (ho : o.op = .buildSlice 23 0 #[]) :
    (execOp a.eval o).run Tryd.prog w = .ok (.value (.slice (some ⟨w.heap.size, 0, none⟩) 0 0)) (w.alloc (.cells #[] 3)) := by
  generalize a.eval = ρ at *
  simp [execOp, ho, go_sem, Tryd.underlying23]

theorem run_build0b (a : Act) (w : World) (o : Oper) (ho : o.op = .buildSlice 22 0 #[]) :
    (execOp a.eval o).run Tryd.prog w = .ok (.value (.slice (some ⟨w.heap.size, 0, none⟩) 0 0)) (w.alloc (.cells #[] 5)) := by
  generalize a.eval = ρ at *
  simp [execOp, ho, go_sem, Tryd.underlying22]

theorem run_build1 (a : Act) (w : World) (o : Oper) (c : Int) (ho : o.op = .buildSlice 23 1 #[(0, .const (.int .i64 c))]) :
    (execOp a.eval o).run Tryd.prog w = .ok (.value (.slice (some ⟨w.heap.size, 0, none⟩) 1 1)) (w.alloc (.cells #[.int .i64 c] 3)) := by
  have hc : ∀ v, a.eval (.const v) = v := fun _ => rfl
  generalize a.eval = ρ at *
  simp [execOp, ho, hc, go_sem, Tryd.underlying23]

theorem run_allocInst (a : Act) (w : World) (o : Oper) (ho : o.op = .alloc 28) :
    (execOp a.eval o).run Tryd.prog w = .ok (.value (.pointer (some ⟨w.heap.size, 0, none⟩))) (w.alloc (.cells #[.int .i64 0, .slice none 0 0] 28)) := by
  generalize a.eval = ρ at *
  simp [execOp, ho, go_sem, Tryd.underlying28]

theorem run_storeInst (a : Act) (w : World) (o : Oper) (p v : Operand) (g : Nat) (x' y' : Value) (op : Int) (q : Option Addr) (n c : Nat) (ho : o.op = .store 28 p v) (hp : a.eval p = .pointer (some ⟨g, 0, none⟩)) (hv : a.eval v = .agg #[.int .i64 op, .slice q n c])
    (hb : w.heap[g]? = some (.cells #[x', y'] 28 (0, 0))) :
    ∃ w', (execOp a.eval o).run Tryd.prog w = .ok .skip w' ∧ w.grownBy w' (some g) ∧ w'.heap[g]? = some (.cells #[.int .i64 op, .slice q n c] 28 (0, 0)) := by
  generalize a.eval = ρ at *
  have c0 : w.cell? ⟨g, 0, none⟩ = some x' := by simp [World.cell?, hb]
  have c1 : w.cell? ⟨g, 1, none⟩ = some y' := by simp [World.cell?, hb]
  have f0 : w.frozen? ⟨g, 0, none⟩ = false := by simp [World.frozen?, hb]
  have f1 : w.frozen? ⟨g, 1, none⟩ = false := by simp [World.frozen?, hb]
  refine ⟨(w.setCell ⟨g, 0, none⟩ (.int .i64 op)).setCell ⟨g, 1, none⟩ (.slice q n c), ?_, ?_, ?_⟩

  · simp [execOp, ho, hp, hv, go_sem, Tryd.underlying28, c0, c1, f0, f1]
  · exact World.grownBy.trans (grown_set w ⟨g, 0, none⟩ _) (grown_set _ ⟨g, 1, none⟩ _)
  · simp [World.setCell, Array.getElem?_modify, hb]

/-- A step that yields nothing. -/
theorem step_skip {ops : Array Oper} {Q : Exit → Act → World → Prop} {i : Nat} {o : Oper} {K : Act → World → Prop} {a : Act} {w w' : World} (hi : ops[i]? = some o) (hg : o.guard = none)
    (h : (execOp a.eval o).run Tryd.prog w = .ok .skip w') (hK : K (a.put o.dst undef) w') : wpOp Tryd.prog ops Q i K a w := by
  unfold wpOp
  rw [hi]
  have hw : Region.wanted o (yielded ops a.tmps) = true := by unfold Region.wanted; rw [hg]
  simp only [hw, if_true]
  refine .inl ?_
  unfold Oper.wp
  rw [h]
  exact hK

/-- A step that calls, by what the call leaves. -/
theorem step_called {ops : Array Oper} {Q : Exit → Act → World → Prop} {i : Nat} {o : Oper} {K : Act → World → Prop} {a : Act} {w : World} {f : FuncId} {args : Array Value} {R : Value → World → Prop} (hi : ops[i]? = some o) (hg : o.guard = none)
    (h : (execOp a.eval o).run Tryd.prog w = .ok (.enter f args) w) (hc : Calls Tryd.prog f args w fun e w' => ∃ v, e = .returned v ∧ R v w') (hK : ∀ v w', R v w' → K (a.put o.dst v) w') : wpOp Tryd.prog ops Q i K a w := by
  unfold wpOp
  rw [hi]
  have hw : Region.wanted o (yielded ops a.tmps) = true := by unfold Region.wanted; rw [hg]
  simp only [hw, if_true]
  refine .inl ?_
  unfold Oper.wp
  rw [h, Oper.upon_enter]
  refine hc.mono ?_
  rintro e w' ⟨v, rfl, hR⟩
  exact hK v w' hR

theorem run_field0 (a : Act) (w : World) (o : Oper) (p : Operand) (g : Nat) (ho : o.op = .fieldAddr 28 p 0) (hp : a.eval p = .pointer (some ⟨g, 0, none⟩)) :
    (execOp a.eval o).run Tryd.prog w = .ok (.value (.pointer (some ⟨g, 0, none⟩))) w := by
  generalize a.eval = ρ at *
  simp [execOp, ho, hp, go_sem, Tryd.underlying28]

theorem run_field1 (a : Act) (w : World) (o : Oper) (p : Operand) (g : Nat) (ho : o.op = .fieldAddr 28 p 1) (hp : a.eval p = .pointer (some ⟨g, 0, none⟩)) :
    (execOp a.eval o).run Tryd.prog w = .ok (.value (.pointer (some ⟨g, 1, none⟩))) w := by
  generalize a.eval = ρ at *
  simp [execOp, ho, hp, go_sem, Tryd.underlying28]

theorem run_loadInt (a : Act) (w : World) (o : Oper) (p : Operand) (ad : Addr) (x : Int) (ho : o.op = .load 3 p) (hp : a.eval p = .pointer (some ad)) (hc : w.cell? ad = some (.int .i64 x)) :
    (execOp a.eval o).run Tryd.prog w = .ok (.value (.int .i64 x)) w := by
  generalize a.eval = ρ at *
  simp [execOp, ho, hp, go_sem, Tryd.underlying3, hc]

theorem run_loadInts (a : Act) (w : World) (o : Oper) (p : Operand) (ad : Addr) (q : Option Addr) (n c : Nat) (ho : o.op = .load 23 p) (hp : a.eval p = .pointer (some ad)) (hc : w.cell? ad = some (.slice q n c)) :
    (execOp a.eval o).run Tryd.prog w = .ok (.value (.slice q n c)) w := by
  generalize a.eval = ρ at *
  simp [execOp, ho, hp, go_sem, Tryd.underlying23, hc]

theorem run_buildInst (a : Act) (w : World) (o : Oper) (p q : Operand) (n : Int) (qq : Option Addr) (m c : Nat) (ho : o.op = .build 28 #[(0, p), (1, q)]) (hp : a.eval p = .int .i64 n) (hq : a.eval q = .slice qq m c) :
    (execOp a.eval o).run Tryd.prog w = .ok (.value (.agg #[.int .i64 n, .slice qq m c])) w := by
  generalize a.eval = ρ at *
  simp [execOp, ho, hp, hq, go_sem, Tryd.underlying28]

theorem step_storeInst {ops : Array Oper} {Q : Exit → Act → World → Prop} {i : Nat} {o : Oper} {K : Act → World → Prop} {a : Act} {w : World} (hi : ops[i]? = some o) (hg : o.guard = none) (p v : Operand) (ho : o.op = .store 28 p v)
    (g : Nat) (x' y' : Value) (op : Int) (q : Option Addr) (n c : Nat) (hp : a.eval p = .pointer (some ⟨g, 0, none⟩)) (hv : a.eval v = .agg #[.int .i64 op, .slice q n c]) (hb : w.heap[g]? = some (.cells #[x', y'] 28 (0, 0)))
    (hK : ∀ w', w.grownBy w' (some g) → w'.heap[g]? = some (.cells #[.int .i64 op, .slice q n c] 28 (0, 0)) → K (a.put o.dst undef) w') : wpOp Tryd.prog ops Q i K a w := by
  obtain ⟨w', hr, h1, h2⟩ := run_storeInst a w o p v g x' y' op q n c ho hp hv hb
  exact step_skip hi hg hr (hK w' h1 h2)

theorem no_ft {x : Bool} (a : x = true) (b : x = false) : False := by rw [a] at b; cases b

theorem own_ne {w : World} {base e : Nat} {v : Value} {n : Nat} {xs : List Value} {g : Nat} {cs : Array Value} {t : TypeId} (h : w.ownsRow base e 1 v n xs) (hg : w.heap[g]? = some (.cells cs t (0, 0))) (ht : t ≠ e) : some g ≠ v.ownBlock := by
  rcases h.2 with ⟨rfl, _⟩ | ⟨g', cap, cur, rfl, _, hb, _⟩
  · simp [Value.ownBlock]
  · simp only [Value.ownBlock, ne_eq, Option.some.injEq]
    rintro rfl
    rw [hb] at hg
    simp at hg
    exact ht hg.2.symm

theorem new_block (w : World) (cs : Array Value) (t : TypeId) : (w.alloc (.cells cs t)).heap[w.heap.size]? = some (.cells cs t (0, 0)) := heap_alloc_new w _

theorem row_nil {w : World} {base g : Nat} {e : TypeId} (hb : base ≤ g) (h : w.heap[g]? = some (.cells #[] e (0, 0))) : w.ownsRow base e 1 (.slice (some ⟨g, 0, none⟩) 0 0) ([] : List Value).length [] :=
  ⟨rfl, .inr ⟨g, 0, #[], rfl, hb, h, Nat.le_refl _, by unfold maxLen; omega, rfl, rfl⟩⟩
end Go.Proofs.YtnmclpphiajleaaDoor
