/- Single operations of a statement that draws its order; what holds on the way through the round of a law's Response. -/
import Derived.Test.YtkaclahcpmogaaaGreatDoorFrY
import Derived.Test.YtkaclahcpmogaaaGreatDoorOrA
namespace Go.Proofs.YtkaclahcpmogaaaGreatDoor
open Go.ChangeShapes Go.WideShapes Go.ChangeAt Go.RowKit
open Orders
set_option linter.unusedVariables false
set_option linter.unusedSimpArgs false

theorem step_skip {ops : Array Oper} {Q : Exit → Act → World → Prop} {i : Nat} {o : Oper} {K : Act → World → Prop} {a : Act} {w w' : World} (hi : ops[i]? = some o) (hg : o.guard = none)
    (h : (execOp a.eval o).run Tryz.prog w = .ok .skip w') (hK : K (a.put o.dst undef) w') : wpOp Tryz.prog ops Q i K a w := by
  unfold wpOp
  rw [hi]
  have hw : Region.wanted o (yielded ops a.tmps) = true := by unfold Region.wanted; rw [hg]
  simp only [hw, if_true]
  refine .inl ?_
  unfold Oper.wp
  rw [h]
  exact hK

theorem run_move (a : Act) (w : World) (o : Oper) (p : Operand) (x : Value) (ho : o.op = .move p) (hp : a.eval p = x) : (execOp a.eval o).run Tryz.prog w = .ok (.value x) w := by
  generalize a.eval = ρ at *
  simp [execOp, ho, hp, go_sem]

theorem run_fldR3 (a : Act) (w : World) (o : Oper) (p : Operand) (k : Nat) (ho : o.op = .fieldAddr 42 p 3) (hp : a.eval p = .pointer (some ⟨k, 0, none⟩)) :
    (execOp a.eval o).run Tryz.prog w = .ok (.value (.pointer (some ⟨k, 3, none⟩))) w := by
  generalize a.eval = ρ at *
  simp [execOp, ho, hp, go_sem, Tryz.underlying42, Tryz.underlying23, Tryz.underlying9, Tryz.underlying31]

theorem run_ldDiags (a : Act) (w : World) (o : Oper) (p : Operand) (ad : Addr) (q : Option Addr) (n c : Nat) (ho : o.op = .load 40 p) (hp : a.eval p = .pointer (some ad)) (hc : w.cell? ad = some (.slice q n c)) :
    (execOp a.eval o).run Tryz.prog w = .ok (.value (.slice q n c)) w := by
  generalize a.eval = ρ at *
  simp [execOp, ho, hp, go_sem, Tryz.underlying40, hc]

theorem run_ldInt (a : Act) (w : World) (o : Oper) (p : Operand) (ad : Addr) (x : Int) (ho : o.op = .load 3 p) (hp : a.eval p = .pointer (some ad)) (hc : w.cell? ad = some (.int .i64 x)) :
    (execOp a.eval o).run Tryz.prog w = .ok (.value (.int .i64 x)) w := by
  generalize a.eval = ρ at *
  simp [execOp, ho, hp, go_sem, Tryz.underlying3, hc]

theorem run_ldText (a : Act) (w : World) (o : Oper) (p : Operand) (ad : Addr) (x : ByteArray) (ho : o.op = .load 9 p) (hp : a.eval p = .pointer (some ad)) (hc : w.cell? ad = some (.string x)) :
    (execOp a.eval o).run Tryz.prog w = .ok (.value (.string x)) w := by
  generalize a.eval = ρ at *
  simp [execOp, ho, hp, go_sem, Tryz.underlying9, hc]

def arr4 : Array Value := #[.string ⟨#[]⟩, .string ⟨#[109, 97, 105, 110]⟩, .string ⟨#[97]⟩, .string ⟨#[116, 119, 101, 108, 118, 101, 95, 98, 121, 116, 101, 115]⟩]
theorem run_bld4 (a : Act) (w : World) (o : Oper) (ho : o.op = .buildSlice 73 4 #[(0, .const (.string ⟨#[]⟩)), (1, .const (.string ⟨#[109, 97, 105, 110]⟩)), (2, .const (.string ⟨#[97]⟩)), (3, .const (.string ⟨#[116, 119, 101, 108, 118, 101, 95, 98, 121, 116, 101, 115]⟩))]) :
    (execOp a.eval o).run Tryz.prog w = .ok (.value (.slice (some ⟨w.heap.size, 0, none⟩) 4 4)) (w.alloc (.cells arr4 9)) := by
  have hc : ∀ v, a.eval (.const v) = v := fun _ => rfl
  generalize a.eval = ρ at *
  simp [execOp, ho, hc, go_sem, Tryz.underlying73, arr4]

theorem run_ixInts (a : Act) (w : World) (o : Oper) (s t : Operand) (g f len cap j : Nat) (ho : o.op = .indexAddr 35 s t) (hs : a.eval s = .slice (some ⟨g, f, none⟩) len cap) (ht : a.eval t = .int .i64 (j : Int)) (hj : j < len) :
    (execOp a.eval o).run Tryz.prog w = .ok (.value (.pointer (some ⟨g, f + j, none⟩))) w := by
  have h1 : (j : Int) < (len : Int) := by omega
  generalize a.eval = ρ at *
  simp [execOp, ho, hs, ht, go_sem, Tryz.underlying35, h1]

theorem run_ixTexts (a : Act) (w : World) (o : Oper) (s t : Operand) (g len cap j : Nat) (ho : o.op = .indexAddr 73 s t) (hs : a.eval s = .slice (some ⟨g, 0, none⟩) len cap) (ht : a.eval t = .int .i64 (j : Int)) (hj : j < len) :
    (execOp a.eval o).run Tryz.prog w = .ok (.value (.pointer (some ⟨g, j, none⟩))) w := by
  have h1 : (j : Int) < (len : Int) := by omega
  generalize a.eval = ρ at *
  simp [execOp, ho, hs, ht, go_sem, Tryz.underlying73, h1]

theorem run_call11 (a : Act) (w : World) (o : Oper) (p q : Operand) (x y : Value) (ats : Array TypeId) (ho : o.op = .call { callee := .value (.func 12), args := #[p, q], argTypes := ats }) (hp : a.eval p = x) (hq : a.eval q = y) :
    (execOp a.eval o).run Tryz.prog w = .ok (.enter 12 #[x, y]) w := by
  have hf : a.eval (.func 12) = .func (.func 12) #[] #[] := rfl
  generalize a.eval = ρ at *
  simp [execOp, ho, hf, hp, hq, go_sem, Tryz.func12]

theorem tdiv_in4 {x : Int} (h0 : -9223372036854775808 ≤ x) (h1 : x ≤ 9223372036854775807) : -9223372036854775808 ≤ x.tdiv 4 ∧ x.tdiv 4 ≤ 9223372036854775807 := by
  have h := Int.mul_tdiv_add_tmod x 4
  have lo := Int.lt_tmod_of_pos x (show (0 : Int) < 4 by decide)
  have up := Int.tmod_lt_of_pos x (show (0 : Int) < 4 by decide)
  omega
theorem tdiv_in7 {x : Int} (h0 : -9223372036854775808 ≤ x) (h1 : x ≤ 9223372036854775807) : -9223372036854775808 ≤ x.tdiv 7 ∧ x.tdiv 7 ≤ 9223372036854775807 := by
  have h := Int.mul_tdiv_add_tmod x 7
  have lo := Int.lt_tmod_of_pos x (show (0 : Int) < 7 by decide)
  have up := Int.tmod_lt_of_pos x (show (0 : Int) < 7 by decide)
  omega

theorem run_quo (a : Act) (w : World) (o : Oper) (p q : Operand) (x c : Int) (ho : o.op = .binOp .quo 3 p q 3) (hp : a.eval p = .int .i64 x) (hq : a.eval q = .int .i64 c) (hc : c = 4 ∨ c = 7) (h0 : -9223372036854775808 ≤ x) (h1 : x ≤ 9223372036854775807) :
    (execOp a.eval o).run Tryz.prog w = .ok (.value (.int .i64 (x.tdiv c))) w := by
  generalize a.eval = ρ at *
  rcases hc with rfl | rfl
  · have h2 := IntWalk.i64_in _ (tdiv_in4 h0 h1)
    simp [execOp, ho, hp, hq, go_sem, Tryz.underlying3, h2]
  · have h2 := IntWalk.i64_in _ (tdiv_in7 h0 h1)
    simp [execOp, ho, hp, hq, go_sem, Tryz.underlying3, h2]

theorem run_bldDiag (a : Act) (w : World) (o : Oper) (p q r : Operand) (s : ByteArray) (l e : Int) (ho : o.op = .build 75 #[(0, p), (1, q), (2, r)]) (hp : a.eval p = .string s) (hq : a.eval q = .int .i64 l) (hr : a.eval r = .int .i64 e) :
    (execOp a.eval o).run Tryz.prog w = .ok (.value (.agg #[.string s, .int .i64 l, .int .i64 e])) w := by
  generalize a.eval = ρ at *
  simp [execOp, ho, hp, hq, hr, go_sem, Tryz.underlying75]

theorem run_bldOne (a : Act) (w : World) (o : Oper) (p : Operand) (s : ByteArray) (l e : Int) (ho : o.op = .buildSlice 40 1 #[(0, p)]) (hp : a.eval p = .agg #[.string s, .int .i64 l, .int .i64 e]) :
    (execOp a.eval o).run Tryz.prog w = .ok (.value (.slice (some ⟨w.heap.size, 0, none⟩) 1 1)) (w.alloc (.cells #[.string s, .int .i64 l, .int .i64 e] 75)) := by
  generalize a.eval = ρ at *
  simp [execOp, ho, hp, go_sem, Tryz.underlying40]

theorem run_appD (a : Act) (w : World) (o : Oper) (s x : Operand) (v y v' : Value) (w' : World) (ho : o.op = .call { callee := .builtin .append, args := #[s, x], argTypes := #[40, 40] }) (hs : a.eval s = v) (hx : a.eval x = y)
    (hr : ∀ ty, (Builtin.append_ #[40, 40] ty #[v, y]).run Tryz.prog w = .ok v' w') : (execOp a.eval o).run Tryz.prog w = .ok (.value v') w' := by
  unfold execOp
  simp only [ho, resolve, invoke, builtin, Sem.run_bind, Sem.run_pure, Result.andThen_ok, List.map_toArray, List.map_cons, List.map_nil, hs, hx, hr]

theorem run_stDiags (a : Act) (w : World) (o : Oper) (p v : Operand) (ad : Addr) (q : Option Addr) (n c : Nat) (old : Value) (ho : o.op = .store 40 p v) (hp : a.eval p = .pointer (some ad)) (hv : a.eval v = .slice q n c) (hc : w.cell? ad = some old) (hf : w.frozen? ad = false) :
    (execOp a.eval o).run Tryz.prog w = .ok .skip (w.setCell ad (.slice q n c)) := by
  generalize a.eval = ρ at *
  simp [execOp, ho, hp, hv, go_sem, Tryz.underlying40, hc, hf]

/-- What the operations yield that are known ahead. -/
def RE (nsv dv : Value) (nb f j k : Nat) (x : Int) : Nat → Value
  | 0 => .pointer (some ⟨k, 3, none⟩)
  | 1 => dv
  | 3 => nsv
  | 4 => .int .i64 j
  | 5 => .pointer (some ⟨nb, f + j, none⟩)
  | 6 => .int .i64 x
  | 7 => .int .i64 (x % 4)
  | 9 => .string (bs (fragAt (x % 4).toNat))
  | 10 => nsv
  | 11 => .int .i64 j
  | 12 => .pointer (some ⟨nb, f + j, none⟩)
  | 13 => .int .i64 x
  | 14 => .int .i64 (x.tdiv 4)
  | 15 => .int .i64 (x.tdiv 4 % 5001)
  | 16 => nsv
  | 17 => .int .i64 j
  | 18 => .pointer (some ⟨nb, f + j, none⟩)
  | 19 => .int .i64 x
  | 20 => .int .i64 (x.tdiv 7)
  | 21 => .int .i64 (x.tdiv 7 % 15)
  | 22 => .agg #[.string (bs (dgOf x).frag), .int .i64 (dgOf x).line, .int .i64 (dgOf x).e]
  | 25 => .pointer (some ⟨k, 3, none⟩)
  | _ => .int .i64 0

def dgObj (x : Int) : Obj := .cells #[.string (bs (dgOf x).frag), .int .i64 (dgOf x).line, .int .i64 (dgOf x).e] 75 (0, 0)
theorem arr4_at (m : Nat) (h : m < 4) : arr4[m]? = some (.string (bs (fragAt m))) := by
  match m, h with
  | 0, _ => rfl
  | 1, _ => rfl
  | 2, _ => rfl
  | 3, _ => rfl
def special (i : Nat) : Bool := i == 2 || i == 8 || i == 23 || i == 24 || i == 26

/-- What holds of what is listed so far. -/
structure RI (wr : World) (nsv dv : Value) (nb f j k : Nat) (x : Int) (ds : List Dg) (e : Int) (t : Bs) (iv : Value) (L : Nat → Bool) (u : Nat → Value) (w : World) : Prop where
  val : ∀ i, special i = false → L i = true → u i = RE nsv dv nb f j k x i
  arr : L 2 = true → L 24 = false → ∃ b, u 2 = .slice (some ⟨b, 0, none⟩) 4 4 ∧ w.heap[b]? = some (.cells arr4 9 (0, 0))
  ptr : L 8 = true → L 2 = true ∧ ∀ b, u 2 = .slice (some ⟨b, 0, none⟩) 4 4 → u 8 = .pointer (some ⟨b, (x % 4).toNat, none⟩)
  dia : L 23 = true → L 24 = false → ∃ g, u 23 = .slice (some ⟨g, 0, none⟩) 1 1 ∧ w.heap[g]? = some (dgObj x)
  p0 : L 24 = false → L 26 = false ∧ Below wr.heap.size wr w
  p1 : L 24 = true → L 26 = false → (∃ q c, u 24 = .slice q (ds.length + 1) c) ∧ OwnD (k + 1) w (u 24) (ds ++ [dgOf x]) ∧ Below (k + 1) wr w
  p2 : L 26 = true → ∃ v, OwnD (k + 1) w v (ds ++ [dgOf x]) ∧ w.heap[k]? = some (.cells #[.int .i64 e, .string (bs t), iv, v] 42 (0, 0)) ∧ Below k wr w

section
variable {wr : World} {nsv dv : Value} {nb f j k : Nat} {x : Int} {ds : List Dg} {e : Int} {t : Bs} {iv : Value} {L : Nat → Bool} {u : Nat → Value} {w : World}

theorem RI.put (h : RI wr nsv dv nb f j k x ds e t iv L u w) (i : Nat) (hs : special i = false) (hL : L i = false) {y : Value} (hy : y = RE nsv dv nb f j k x i) : RI wr nsv dv nb f j k x ds e t iv (updL L i) (upd u i y) w := by
  have hs' := hs
  unfold special at hs'
  simp only [Bool.or_eq_false_iff, beq_eq_false_iff_ne, ne_eq] at hs'
  obtain ⟨⟨⟨⟨n2, n8⟩, n23⟩, n24⟩, n26⟩ := hs'
  have l2 := updL_other L i 2 (Ne.symm n2)
  have l8 := updL_other L i 8 (Ne.symm n8)
  have l23 := updL_other L i 23 (Ne.symm n23)
  have l24 := updL_other L i 24 (Ne.symm n24)
  have l26 := updL_other L i 26 (Ne.symm n26)
  have u2 := upd_other u i 2 y (Ne.symm n2)
  have u8 := upd_other u i 8 y (Ne.symm n8)
  have u23 := upd_other u i 23 y (Ne.symm n23)
  have u24 := upd_other u i 24 y (Ne.symm n24)
  refine ⟨fun q hq hl => ?_, ?_, ?_, ?_, ?_, ?_, ?_⟩
  · by_cases eq : q = i
    · subst eq; rw [upd_same]; exact hy
    · rw [upd_other _ _ _ _ eq]; rw [updL_other _ _ _ eq] at hl; exact h.val q hq hl
  · rw [l2, l24, u2]; exact h.arr
  · rw [l8, l2, u2, u8]; exact h.ptr
  · rw [l23, l24, u23]; exact h.dia
  · rw [l24, l26]; exact h.p0
  · rw [l24, l26, u24]; exact h.p1
  · rw [l26]; exact h.p2

theorem RI.vals (h : RI wr nsv dv nb f j k x ds e t iv L u w) (i : Nat) (hs : special i = true) (y : Value) : ∀ p, special p = false → updL L i p = true → upd u i y p = RE nsv dv nb f j k x p := by
  intro p hp hl
  have hne : p ≠ i := by rintro rfl; rw [hs] at hp; cases hp
  rw [upd_other _ _ _ _ hne]
  rw [updL_other _ _ _ hne] at hl
  exact h.val p hp hl

/-- The four names laid. -/
theorem RI.step2 (h : RI wr nsv dv nb f j k x ds e t iv L u w) (hL : L 2 = false) (h24 : L 24 = false) : RI wr nsv dv nb f j k x ds e t iv (updL L 2) (upd u 2 (.slice (some ⟨w.heap.size, 0, none⟩) 4 4)) (w.alloc (.cells arr4 9)) := by
  obtain ⟨h26, hb⟩ := h.p0 h24
  refine ⟨h.vals 2 rfl _, fun _ _ => ⟨_, upd_same _ _ _, heap_alloc_new w _⟩, fun hl => ?_, fun hl _ => ?_, fun _ => ⟨by rw [updL_other _ _ _ (by decide)]; exact h26, hb.alloc hb.size _⟩, fun hl => ?_, fun hl => ?_⟩
  · rw [updL_other _ _ _ (by decide)] at hl
    have := (h.ptr hl).1
    rw [hL] at this; cases this
  · rw [updL_other _ _ _ (by decide)] at hl
    obtain ⟨g, e1, e2⟩ := h.dia hl h24
    exact ⟨g, by rw [upd_other _ _ _ _ (by decide)]; exact e1, (Below.heap_alloc _ _ _ (Array.getElem?_eq_some_iff.1 e2).1).trans e2⟩
  · rw [updL_other _ _ _ (by decide), h24] at hl; cases hl
  · rw [updL_other _ _ _ (by decide), h26] at hl; cases hl

theorem RI.step8 (h : RI wr nsv dv nb f j k x ds e t iv L u w) (h2 : L 2 = true) (b : Nat) (hb : u 2 = .slice (some ⟨b, 0, none⟩) 4 4) : RI wr nsv dv nb f j k x ds e t iv (updL L 8) (upd u 8 (.pointer (some ⟨b, (x % 4).toNat, none⟩))) w := by
  refine ⟨h.vals 8 rfl _, ?_, fun _ => ⟨by rw [updL_other _ _ _ (by decide)]; exact h2, fun b' hb' => ?_⟩, ?_, ?_, ?_, ?_⟩
  · rw [updL_other _ _ _ (by decide), updL_other _ _ _ (by decide), upd_other _ _ _ _ (by decide)]; exact h.arr
  · rw [upd_other _ _ _ _ (by decide), hb] at hb'
    cases hb'
    exact upd_same _ _ _
  · rw [updL_other _ _ _ (by decide), updL_other _ _ _ (by decide), upd_other _ _ _ _ (by decide)]; exact h.dia
  · rw [updL_other _ _ _ (by decide), updL_other _ _ _ (by decide)]; exact h.p0
  · rw [updL_other _ _ _ (by decide), updL_other _ _ _ (by decide), upd_other _ _ _ _ (by decide)]; exact h.p1
  · rw [updL_other _ _ _ (by decide)]; exact h.p2

theorem RI.step23 (h : RI wr nsv dv nb f j k x ds e t iv L u w) (h24 : L 24 = false) : RI wr nsv dv nb f j k x ds e t iv (updL L 23) (upd u 23 (.slice (some ⟨w.heap.size, 0, none⟩) 1 1)) (w.alloc (dgObj x)) := by
  obtain ⟨h26, hb⟩ := h.p0 h24
  refine ⟨h.vals 23 rfl _, fun hl _ => ?_, ?_, fun _ _ => ⟨_, upd_same _ _ _, heap_alloc_new w _⟩, fun _ => ⟨by rw [updL_other _ _ _ (by decide)]; exact h26, hb.alloc hb.size _⟩, fun hl => ?_, fun hl => ?_⟩
  · rw [updL_other _ _ _ (by decide)] at hl
    obtain ⟨g, e1, e2⟩ := h.arr hl h24
    exact ⟨g, by rw [upd_other _ _ _ _ (by decide)]; exact e1, (Below.heap_alloc _ _ _ (Array.getElem?_eq_some_iff.1 e2).1).trans e2⟩
  · rw [updL_other _ _ _ (by decide), updL_other _ _ _ (by decide), upd_other _ _ _ _ (by decide), upd_other _ _ _ _ (by decide)]; exact h.ptr
  · rw [updL_other _ _ _ (by decide), h24] at hl; cases hl
  · rw [updL_other _ _ _ (by decide), h26] at hl; cases hl

theorem RI.step24 (h : RI wr nsv dv nb f j k x ds e t iv L u w) (h24 : L 24 = false) {w' : World} {v' : Value} (hO : OwnD (k + 1) w' v' (ds ++ [dgOf x])) (hb : Below (k + 1) wr w') : RI wr nsv dv nb f j k x ds e t iv (updL L 24) (upd u 24 v') w' := by
  obtain ⟨h26, _⟩ := h.p0 h24
  refine ⟨h.vals 24 rfl _, fun _ hl => ?_, ?_, fun _ hl => ?_, fun hl => ?_, fun _ _ => ?_, fun hl => ?_⟩
  · rw [updL_same] at hl; cases hl
  · rw [updL_other _ _ _ (by decide), updL_other _ _ _ (by decide), upd_other _ _ _ _ (by decide), upd_other _ _ _ _ (by decide)]; exact h.ptr
  · rw [updL_same] at hl; cases hl
  · rw [updL_same] at hl; cases hl
  · rw [upd_same]
    obtain ⟨q, c, hv, _⟩ := ownD_slice hO
    refine ⟨⟨q, c, ?_⟩, hO, hb⟩
    rw [hv, List.length_append]
    rfl
  · rw [updL_other _ _ _ (by decide), h26] at hl; cases hl

theorem ownD_set {B k' : Nat} {w : World} {v : Value} {ds : List Dg} (h : OwnD B w v ds) (hk : k' < B) (i : Nat) (y : Value) : OwnD B (w.setCell ⟨k', i, none⟩ y) v ds := by
  refine ⟨h.1, ?_⟩
  rcases h.2 with hn | ⟨g, cap, cur, h1, h2, h3, h4⟩
  · exact .inl hn
  · exact .inr ⟨g, cap, cur, h1, h2, (Below.heap_setCell _ _ _ _ (by simp only; omega)).trans h3, h4⟩

theorem RI.step26 (h : RI wr nsv dv nb f j k x ds e t iv L u w) (h24 : L 24 = true) (hL : L 26 = false) (hk : wr.heap[k]? = some (.cells #[.int .i64 e, .string (bs t), iv, dv] 42 (0, 0))) : RI wr nsv dv nb f j k x ds e t iv (updL L 26) (upd u 26 undef) (w.setCell ⟨k, 3, none⟩ (u 24)) := by
  obtain ⟨_, hO, hb⟩ := h.p1 h24 hL
  have hk' := (hb.block k (by omega)).trans hk
  refine ⟨h.vals 26 rfl _, fun _ hl => ?_, ?_, fun _ hl => ?_, fun hl => ?_, fun _ hl => ?_, fun _ => ?_⟩
  · rw [updL_other _ _ _ (by decide), h24] at hl; cases hl
  · rw [updL_other _ _ _ (by decide), updL_other _ _ _ (by decide), upd_other _ _ _ _ (by decide), upd_other _ _ _ _ (by decide)]; exact h.ptr
  · rw [updL_other _ _ _ (by decide), h24] at hl; cases hl
  · rw [updL_other _ _ _ (by decide), h24] at hl; cases hl
  · rw [updL_same] at hl; cases hl
  · exact ⟨u 24, ownD_set hO (Nat.lt_succ_self k) _ _, set_at hk' 3 (u 24), (hb.mono (Nat.le_succ k)).setCell (p := ⟨k, 3, none⟩) (Nat.le_refl _) _⟩
end
end Go.Proofs.YtkaclahcpmogaaaGreatDoor
