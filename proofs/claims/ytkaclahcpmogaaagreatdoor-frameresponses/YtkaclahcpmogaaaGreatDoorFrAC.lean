/- A law's request, made. -/
import Derived.Test.YtkaclahcpmogaaaGreatDoorFrAA
namespace Go.Proofs.YtkaclahcpmogaaaGreatDoor
open Go.ChangeShapes Go.WideShapes Go.ChangeAt Go.RowKit
open Orders
set_option linter.unusedVariables false
set_option linter.unusedSimpArgs false

def seven : List Int := [0, 1, 7, 300, -1, 1099511627776, -1099511627776]
theorem seven_in : ∀ x ∈ seven, -1099511627776 ≤ x ∧ x ≤ 1099511627776 := by decide
def sevenCells : Array Value := (seven.map fun x => Value.int .i64 x).toArray

theorem run_ixSeven (a : Act) (w : World) (o : Oper) (s t : Operand) (g len cap j : Nat) (ho : o.op = .indexAddr 35 s t) (hs : a.eval s = .slice (some ⟨g, 0, none⟩) len cap) (ht : a.eval t = .int .i64 (j : Int)) (hj : j < len) :
    (execOp a.eval o).run Tryz.prog w = .ok (.value (.pointer (some ⟨g, j, none⟩))) w := by
  have h := run_ixInts a w o s t g 0 len cap j ho hs ht hj
  rw [Nat.zero_add] at h
  exact h
theorem run_quo12 (a : Act) (w : World) (o : Oper) (p q : Operand) (x : Int) (ho : o.op = .binOp .quo 3 p q 3) (hp : a.eval p = .int .i64 x) (hq : a.eval q = .int .i64 12) (h0 : 0 ≤ x) (h1 : x ≤ 9223372036854775807) :
    (execOp a.eval o).run Tryz.prog w = .ok (.value (.int .i64 (x / 12))) w := by
  have e : x.tdiv 12 = x / 12 := Int.tdiv_eq_ediv_of_nonneg h0
  have h2 := IntWalk.i64_in (x / 12) (by omega)
  generalize a.eval = ρ at *
  simp [execOp, ho, hp, hq, go_sem, Tryz.underlying3, e, h2]
theorem run_call9 (a : Act) (w : World) (o : Oper) (p q : Operand) (x y : Value) (ats : Array TypeId) (ho : o.op = .call { callee := .value (.func 24), args := #[p, q], argTypes := ats }) (hp : a.eval p = x) (hq : a.eval q = y) :
    (execOp a.eval o).run Tryz.prog w = .ok (.enter 24 #[x, y]) w := by
  have hf : a.eval (.func 24) = .func (.func 24) #[] #[] := rfl
  generalize a.eval = ρ at *
  simp [execOp, ho, hf, hp, hq, go_sem, Tryz.func24]
theorem run_bld7 (a : Act) (w : World) (o : Oper) (ho : o.op = .buildSlice 35 7 #[(0, .const (.int .i64 0)), (1, .const (.int .i64 1)), (2, .const (.int .i64 7)), (3, .const (.int .i64 300)), (4, .const (.int .i64 (-1))), (5, .const (.int .i64 1099511627776)), (6, .const (.int .i64 (-1099511627776)))]) :
    (execOp a.eval o).run Tryz.prog w = .ok (.value (.slice (some ⟨w.heap.size, 0, none⟩) 7 7)) (w.alloc (.cells sevenCells 3)) := by
  have hc : ∀ v, a.eval (.const v) = v := fun _ => rfl
  generalize a.eval = ρ at *
  simp [execOp, ho, hc, go_sem, Tryz.underlying35, sevenCells, seven]
theorem run_fldQ0 (a : Act) (w : World) (o : Oper) (p : Operand) (k : Nat) (ho : o.op = .fieldAddr 27 p 0) (hp : a.eval p = .pointer (some ⟨k, 0, none⟩)) : (execOp a.eval o).run Tryz.prog w = .ok (.value (.pointer (some ⟨k, 0, none⟩))) w := by
  generalize a.eval = ρ at *
  simp [execOp, ho, hp, go_sem, Tryz.underlying27]
theorem run_fldQ3 (a : Act) (w : World) (o : Oper) (p : Operand) (k : Nat) (ho : o.op = .fieldAddr 27 p 3) (hp : a.eval p = .pointer (some ⟨k, 0, none⟩)) : (execOp a.eval o).run Tryz.prog w = .ok (.value (.pointer (some ⟨k, 3, none⟩))) w := by
  generalize a.eval = ρ at *
  simp [execOp, ho, hp, go_sem, Tryz.underlying27, Tryz.underlying3, Tryz.underlying9]
theorem run_stInt (a : Act) (w : World) (o : Oper) (p v : Operand) (ad : Addr) (x : Int) (old : Value) (ho : o.op = .store 3 p v) (hp : a.eval p = .pointer (some ad)) (hv : a.eval v = .int .i64 x) (hc : w.cell? ad = some old) (hf : w.frozen? ad = false) :
    (execOp a.eval o).run Tryz.prog w = .ok .skip (w.setCell ad (.int .i64 x)) := by
  generalize a.eval = ρ at *
  simp [execOp, ho, hp, hv, go_sem, Tryz.underlying3, hc, hf]

/-- What holds on the way through the round that draws: a row of seven, one of it chosen, two fields stored. -/
def ME (k : Nat) (n : Int) (m : Nat) (x : Int) : Nat → Value
  | 1 => .int .i64 n
  | 2 => .int .i64 (n / 12)
  | 3 => .int .i64 m
  | 5 => .int .i64 x
  | 6 => .pointer (some ⟨k, 0, none⟩)
  | 8 => .pointer (some ⟨k, 3, none⟩)
  | _ => .int .i64 0
def spM (i : Nat) : Bool := i == 0 || i == 4 || i == 7 || i == 9
structure MI (W0 : World) (k : Nat) (s : Bs) (n : Int) (m : Nat) (x : Int) (L : Nat → Bool) (u : Nat → Value) (w : World) : Prop where
  val : ∀ i, spM i = false → L i = true → u i = ME k n m x i
  arr : L 0 = true → ∃ b, u 0 = .slice (some ⟨b, 0, none⟩) 7 7 ∧ b ≠ k ∧ w.heap[b]? = some (.cells sevenCells 3 (0, 0))
  ptr : L 4 = true → L 0 = true ∧ ∀ b, u 0 = .slice (some ⟨b, 0, none⟩) 7 7 → u 4 = .pointer (some ⟨b, m, none⟩)
  cell : w.heap[k]? = some (.cells #[.int .i64 (if L 7 then 5 else 0), .string (bs s), .string ⟨#[]⟩, .int .i64 (if L 9 then x else 0)] 27 (0, 0))
  blw : Below k W0 w

section
variable {W0 : World} {k : Nat} {s : Bs} {n : Int} {m : Nat} {x : Int} {L : Nat → Bool} {u : Nat → Value} {w : World}
theorem MI.put (h : MI W0 k s n m x L u w) (i : Nat) (hs : spM i = false) {y : Value} (hy : y = ME k n m x i) : MI W0 k s n m x (updL L i) (upd u i y) w := by
  have hs' := hs
  unfold spM at hs'
  simp only [Bool.or_eq_false_iff, beq_eq_false_iff_ne, ne_eq] at hs'
  obtain ⟨⟨⟨n0, n4⟩, n7⟩, n9⟩ := hs'
  have l0 := updL_other L i 0 (Ne.symm n0)
  have l4 := updL_other L i 4 (Ne.symm n4)
  have l7 := updL_other L i 7 (Ne.symm n7)
  have l9 := updL_other L i 9 (Ne.symm n9)
  have u0 := upd_other u i 0 y (Ne.symm n0)
  have u4 := upd_other u i 4 y (Ne.symm n4)
  refine ⟨fun q hq hl => ?_, ?_, ?_, ?_, h.blw⟩
  · by_cases eq : q = i
    · subst eq; rw [upd_same]; exact hy
    · rw [upd_other _ _ _ _ eq]; rw [updL_other _ _ _ eq] at hl; exact h.val q hq hl
  · rw [l0, u0]; exact h.arr
  · rw [l0, l4, u0, u4]; exact h.ptr
  · rw [l7, l9]; exact h.cell
theorem MI.vals (h : MI W0 k s n m x L u w) (i : Nat) (hs : spM i = true) (y : Value) : ∀ p, spM p = false → updL L i p = true → upd u i y p = ME k n m x p := by
  intro p hp hl
  have hne : p ≠ i := by rintro rfl; rw [hs] at hp; cases hp
  rw [upd_other _ _ _ _ hne]
  rw [updL_other _ _ _ hne] at hl
  exact h.val p hp hl
theorem MI.step0 (h : MI W0 k s n m x L u w) (hL : L 0 = false) : MI W0 k s n m x (updL L 0) (upd u 0 (.slice (some ⟨w.heap.size, 0, none⟩) 7 7)) (w.alloc (.cells sevenCells 3)) := by
  have hk := (Array.getElem?_eq_some_iff.1 h.cell).1
  refine ⟨h.vals 0 rfl _, fun _ => ⟨_, upd_same _ _ _, by omega, heap_alloc_new w _⟩, fun hl => ?_, ?_, h.blw.alloc (Nat.le_of_lt hk) _⟩
  · rw [updL_other _ _ _ (by decide)] at hl
    have := (h.ptr hl).1
    rw [hL] at this; cases this
  · rw [updL_other _ _ _ (by decide), updL_other _ _ _ (by decide)]; exact (Below.heap_alloc _ _ _ hk).trans h.cell
theorem MI.step4 (h : MI W0 k s n m x L u w) (h0 : L 0 = true) (b : Nat) (hb : u 0 = .slice (some ⟨b, 0, none⟩) 7 7) : MI W0 k s n m x (updL L 4) (upd u 4 (.pointer (some ⟨b, m, none⟩))) w := by
  refine ⟨h.vals 4 rfl _, ?_, fun _ => ⟨by rw [updL_other _ _ _ (by decide)]; exact h0, fun b' hb' => ?_⟩, ?_, h.blw⟩
  · rw [updL_other _ _ _ (by decide), upd_other _ _ _ _ (by decide)]; exact h.arr
  · rw [upd_other _ _ _ _ (by decide), hb] at hb'
    cases hb'
    exact upd_same _ _ _
  · rw [updL_other _ _ _ (by decide), updL_other _ _ _ (by decide)]; exact h.cell
theorem MI.arrSet (h : MI W0 k s n m x L u w) (i : Nat) (y : Value) : L 0 = true → ∃ b, u 0 = .slice (some ⟨b, 0, none⟩) 7 7 ∧ b ≠ k ∧ (w.setCell ⟨k, i, none⟩ y).heap[b]? = some (.cells sevenCells 3 (0, 0)) := by
  intro h0
  obtain ⟨b, e1, e2, e3⟩ := h.arr h0
  exact ⟨b, e1, e2, (Below.heap_setCell _ _ _ _ (by simp only; omega)).trans e3⟩
theorem MI.step7 (h : MI W0 k s n m x L u w) : MI W0 k s n m x (updL L 7) (upd u 7 undef) (w.setCell ⟨k, 0, none⟩ (.int .i64 5)) := by
  refine ⟨h.vals 7 rfl _, ?_, ?_, ?_, h.blw.setCell (p := ⟨k, 0, none⟩) (Nat.le_refl _) _⟩
  · rw [updL_other _ _ _ (by decide), upd_other _ _ _ _ (by decide)]; exact h.arrSet 0 _
  · rw [updL_other _ _ _ (by decide), updL_other _ _ _ (by decide), upd_other _ _ _ _ (by decide), upd_other _ _ _ _ (by decide)]; exact h.ptr
  · rw [updL_same, updL_other _ _ _ (by decide)]; exact set_at h.cell 0 (.int .i64 5)
theorem MI.step9 (h : MI W0 k s n m x L u w) : MI W0 k s n m x (updL L 9) (upd u 9 undef) (w.setCell ⟨k, 3, none⟩ (.int .i64 x)) := by
  refine ⟨h.vals 9 rfl _, ?_, ?_, ?_, h.blw.setCell (p := ⟨k, 3, none⟩) (Nat.le_refl _) _⟩
  · rw [updL_other _ _ _ (by decide), upd_other _ _ _ _ (by decide)]; exact h.arrSet 3 _
  · rw [updL_other _ _ _ (by decide), updL_other _ _ _ (by decide), upd_other _ _ _ _ (by decide), upd_other _ _ _ _ (by decide)]; exact h.ptr
  · rw [updL_same, updL_other _ _ _ (by decide)]; exact set_at h.cell 3 (.int .i64 x)
end

theorem mk_fin {w W : World} {k : Nat} {a0 a1 a2 a3 : Value} (LK : W.heap[k]? = some (.cells #[a0, a1, a2, a3] 27 (0, 0))) (X : Blk W w.heap.size (.int .i64 0) (.string ⟨#[]⟩) (.string ⟨#[]⟩) (.int .i64 0)) (B : Below w.heap.size w W) :
    Blk W k a0 a1 a2 a3 ∧ Blk W w.heap.size (.int .i64 0) (.string ⟨#[]⟩) (.string ⟨#[]⟩) (.int .i64 0) ∧ Blk (put4 W w.heap.size a0 a1 a2 a3) w.heap.size a0 a1 a2 a3 ∧ Below w.heap.size w (put4 W w.heap.size a0 a1 a2 a3) :=
  ⟨⟨cell_at LK 0 _ rfl, cell_at LK 1 _ rfl, cell_at LK 2 _ rfl, cell_at LK 3 _ rfl, froz_at LK 0, froz_at LK 1, froz_at LK 2, froz_at LK 3⟩, X, X.put _ _ _ _, below_put B (Nat.le_refl _) _ _ _ _⟩

set_option maxHeartbeats 3200000 in
set_option maxRecDepth 20000 in
theorem make_any (n : Int) (h0 : 0 ≤ n) (hn : n < 1073741824) (w : World) :
    Calls Tryz.prog 11 #[.int .i64 n, .slice none 0 0] w fun e w' => ∃ rq, rightP rq = true ∧ e = .returned (rqVal rq) ∧ Below w.heap.size w w' := by
  have W16 := within9_any n 16 (by omega) (by omega)
  have W7 := fun a => within9_any a 7 (by omega) (by omega)
  have j0 := Int.emod_nonneg n (show (16 : Int) ≠ 0 by decide)
  have j1 := Int.emod_lt_of_pos n (show (0 : Int) < 16 by decide)
  obtain ⟨j, hj⟩ : ∃ j : Int, n % 16 = j := ⟨_, rfl⟩
  rw [hj] at W16 j0 j1
  clear hj
  go_enter Tryz.func11, Tryz.ntmps11
  go_wp2_with fail
  have hb0 := below_new w (.cells #[.int .i64 0, .string ⟨#[]⟩, .string ⟨#[]⟩, .int .i64 0] 27)
  have X0 : Blk (w.alloc (.cells #[.int .i64 0, .string ⟨#[]⟩, .string ⟨#[]⟩, .int .i64 0] 27)) w.heap.size (.int .i64 0) (.string ⟨#[]⟩) (.string ⟨#[]⟩) (.int .i64 0) := Blk.new _ _ _ _ _ _
  refine (name_any _ _).mono ?_
  rintro e w1 ⟨⟨s, hs, rfl⟩, hb1⟩
  have hw := names_word s hs
  have B1 := hb0.trans (hb1.mono hb0.size)
  have X1 := X0.later hb1
  clear hb0 hb1 X0
  go_wp2_with fail
  have hb2 := below_new w1 (.cells #[.int .i64 0, .string (bs s), .string ⟨#[]⟩, .int .i64 0] 27)
  have L6 := heap_alloc_new w1 (.cells #[.int .i64 0, .string (bs s), .string ⟨#[]⟩, .int .i64 0] 27)
  have B2 := B1.trans (hb2.mono B1.size)
  have X2 := X1.later hb2
  have hkk : w.heap.size < w1.heap.size := X1.lt
  generalize w1.alloc (.cells #[.int .i64 0, .string (bs s), .string ⟨#[]⟩, .int .i64 0] 27) = w2 at *
  generalize w1.heap.size = k at *
  clear B1 X1 hb2
  refine (W16 w2).mono ?_
  rintro e w3 ⟨rfl, rfl⟩
  have hne : w.heap.size ≠ k := by omega
  have hle : w.heap.size ≤ k := by omega
  have hkl : k < w2.heap.size := (Array.getElem?_eq_some_iff.1 L6).1
  have c0 := cell_at L6 0 _ rfl
  have c1 := cell_at L6 1 _ rfl
  have c2 := cell_at L6 2 _ rfl
  have c3 := cell_at L6 3 _ rfl
  have f0 := froz_at L6 0
  have f1 := froz_at L6 1
  have f2 := froz_at L6 2
  have f3 := froz_at L6 3
  clear hkk hs
  by_cases t4 : j < 4
  · clear W7
    go_upto_region 21 with fail
    have LW : ((w2.setCell ⟨k, 0, none⟩ (.int .i64 1)).setCell ⟨k, 2, none⟩ (.string ⟨#[]⟩)).heap[k]? = some (.cells #[.int .i64 1, .string (bs s), .string ⟨#[]⟩, .int .i64 0] 27 (0, 0)) := (set_at (set_at L6 0 (.int .i64 1)) 2 (.string ⟨#[]⟩))
    have XW := ((X2.other ⟨k, 0, none⟩ (.int .i64 1) hne).other ⟨k, 2, none⟩ (.string ⟨#[]⟩) hne)
    have BW := ((B2.setCell (p := ⟨k, 0, none⟩) hle (.int .i64 1)).setCell (p := ⟨k, 2, none⟩) hle (.string ⟨#[]⟩))
    clear c0 c1 c2 c3 f0 f1 f2 f3 L6 X2 B2
    generalize ((w2.setCell ⟨k, 0, none⟩ (.int .i64 1)).setCell ⟨k, 2, none⟩ (.string ⟨#[]⟩)) = w5 at *
    obtain ⟨⟨a0, a1, a2, a3, _, _, _, _⟩, ⟨m0, m1, m2, m3, g0, g1, g2, g3⟩, ⟨z0, z1, z2, z3, _, _, _, _⟩, BZ⟩ := mk_fin LW XW BW
    clear LW XW BW
    unfold put4 at z0 z1 z2 z3 BZ
    go_wp2_with fail
    exact bodyPost_ret (v := .agg #[.int .i64 1, .string (bs s), .string ⟨#[]⟩, .int .i64 0]) (by simp [results, Tryz.results11, go_sem, z0, z1, z2, z3]) rfl ⟨⟨1, s, [], 0⟩, by unfold rightP nameOk textOk valueOk; simp [hw], rfl, BZ⟩
  · by_cases t5 : j < 5
    · clear W7
      go_upto_region 21 with fail
      have LW : (w2.setCell ⟨k, 0, none⟩ (.int .i64 2)).heap[k]? = some (.cells #[.int .i64 2, .string (bs s), .string ⟨#[]⟩, .int .i64 0] 27 (0, 0)) := (set_at L6 0 (.int .i64 2))
      have XW := (X2.other ⟨k, 0, none⟩ (.int .i64 2) hne)
      have BW := (B2.setCell (p := ⟨k, 0, none⟩) hle (.int .i64 2))
      clear c0 c1 c2 c3 f0 f1 f2 f3 L6 X2 B2
      generalize (w2.setCell ⟨k, 0, none⟩ (.int .i64 2)) = w5 at *
      obtain ⟨⟨a0, a1, a2, a3, _, _, _, _⟩, ⟨m0, m1, m2, m3, g0, g1, g2, g3⟩, ⟨z0, z1, z2, z3, _, _, _, _⟩, BZ⟩ := mk_fin LW XW BW
      clear LW XW BW
      unfold put4 at z0 z1 z2 z3 BZ
      go_wp2_with fail
      exact bodyPost_ret (v := .agg #[.int .i64 2, .string (bs s), .string ⟨#[]⟩, .int .i64 0]) (by simp [results, Tryz.results11, go_sem, z0, z1, z2, z3]) rfl ⟨⟨2, s, [], 0⟩, by unfold rightP nameOk textOk valueOk; simp [hw], rfl, BZ⟩
    · by_cases t8 : j < 8
      · clear W7
        go_upto_region 21 with fail
        have LW : ((w2.setCell ⟨k, 0, none⟩ (.int .i64 3)).setCell ⟨k, 2, none⟩ (.string ⟨#[]⟩)).heap[k]? = some (.cells #[.int .i64 3, .string (bs s), .string ⟨#[]⟩, .int .i64 0] 27 (0, 0)) := (set_at (set_at L6 0 (.int .i64 3)) 2 (.string ⟨#[]⟩))
        have XW := ((X2.other ⟨k, 0, none⟩ (.int .i64 3) hne).other ⟨k, 2, none⟩ (.string ⟨#[]⟩) hne)
        have BW := ((B2.setCell (p := ⟨k, 0, none⟩) hle (.int .i64 3)).setCell (p := ⟨k, 2, none⟩) hle (.string ⟨#[]⟩))
        clear c0 c1 c2 c3 f0 f1 f2 f3 L6 X2 B2
        generalize ((w2.setCell ⟨k, 0, none⟩ (.int .i64 3)).setCell ⟨k, 2, none⟩ (.string ⟨#[]⟩)) = w5 at *
        obtain ⟨⟨a0, a1, a2, a3, _, _, _, _⟩, ⟨m0, m1, m2, m3, g0, g1, g2, g3⟩, ⟨z0, z1, z2, z3, _, _, _, _⟩, BZ⟩ := mk_fin LW XW BW
        clear LW XW BW
        unfold put4 at z0 z1 z2 z3 BZ
        go_wp2_with fail
        exact bodyPost_ret (v := .agg #[.int .i64 3, .string (bs s), .string ⟨#[]⟩, .int .i64 0]) (by simp [results, Tryz.results11, go_sem, z0, z1, z2, z3]) rfl ⟨⟨3, s, [], 0⟩, by unfold rightP nameOk textOk valueOk; simp [hw], rfl, BZ⟩
      · by_cases t9 : j < 9
        · clear W7
          go_upto_region 21 with fail
          have LW : (w2.setCell ⟨k, 0, none⟩ (.int .i64 4)).heap[k]? = some (.cells #[.int .i64 4, .string (bs s), .string ⟨#[]⟩, .int .i64 0] 27 (0, 0)) := (set_at L6 0 (.int .i64 4))
          have XW := (X2.other ⟨k, 0, none⟩ (.int .i64 4) hne)
          have BW := (B2.setCell (p := ⟨k, 0, none⟩) hle (.int .i64 4))
          clear c0 c1 c2 c3 f0 f1 f2 f3 L6 X2 B2
          generalize (w2.setCell ⟨k, 0, none⟩ (.int .i64 4)) = w5 at *
          obtain ⟨⟨a0, a1, a2, a3, _, _, _, _⟩, ⟨m0, m1, m2, m3, g0, g1, g2, g3⟩, ⟨z0, z1, z2, z3, _, _, _, _⟩, BZ⟩ := mk_fin LW XW BW
          clear LW XW BW
          unfold put4 at z0 z1 z2 z3 BZ
          go_wp2_with fail
          exact bodyPost_ret (v := .agg #[.int .i64 4, .string (bs s), .string ⟨#[]⟩, .int .i64 0]) (by simp [results, Tryz.results11, go_sem, z0, z1, z2, z3]) rfl ⟨⟨4, s, [], 0⟩, by unfold rightP nameOk textOk valueOk; simp [hw], rfl, BZ⟩
        · by_cases t12 : j < 12
          · have hn16 : 0 ≤ n / 16 := by omega
            have m0' := Int.emod_nonneg (n / 16 / 12) (show (7 : Int) ≠ 0 by decide)
            have m1' := Int.emod_lt_of_pos (n / 16 / 12) (show (0 : Int) < 7 by decide)
            have W := W7 (n / 16 / 12)
            obtain ⟨m, hm⟩ : ∃ m : Nat, n / 16 / 12 % 7 = m := ⟨(n / 16 / 12 % 7).toNat, by omega⟩
            rw [hm] at W m0' m1'
            have hm7 : m < 7 := by omega
            obtain ⟨x, hx⟩ : ∃ x, seven[m]? = some x := ⟨_, List.getElem?_eq_getElem (show m < seven.length from hm7)⟩
            obtain ⟨x0, x1⟩ := seven_in x (List.mem_of_getElem? hx)
            have hc : sevenCells[m]? = some (.int .i64 x) := by unfold sevenCells; simp [hx]
            have hsv : #[Value.int .i64 0, .int .i64 1, .int .i64 7, .int .i64 300, .int .i64 (-1), .int .i64 1099511627776, .int .i64 (-1099511627776)] = sevenCells := rfl
            clear hm hx W7 W16
            go_upto_region 18 with fail
            have hI0 : MI w2 k s (n / 16) m x (fun _ => false) (fun _ => undef) { w2 with drawn := w2.drawn + 1 } := ⟨fun _ _ h => (by cases h), fun h => (by cases h), fun h => (by cases h), L6, ⟨rfl, rfl, rfl, Nat.le_refl _, fun _ _ => rfl⟩⟩
            have hxx : k = k := rfl
            clear c0 c1 c2 c3 f0 f1 f2 f3 L6
            refine region_inv2 (by kernel_rfl) (fun u => { tmps := #[Value.int IntKind.i64 n, Value.slice none 0 0, undef, undef, Value.pointer (some { block := w.heap.size, off := 0 }), Value.int IntKind.i64 (n / 16), Value.pointer (some { block := k, off := 0 }), Value.string { data := #[] }, undef, Value.int IntKind.i64 j, Value.int IntKind.i64 n, Value.int IntKind.i64 (n / 16), Value.int IntKind.i64 (n / 16), Value.string (bs s), Value.agg #[Value.int IntKind.i64 0, Value.string (bs s), Value.string { data := #[] }, Value.int IntKind.i64 0], Value.slice none 0 0, Value.int IntKind.i64 0, Value.bool false, undef, undef, undef, undef, undef, undef, undef, undef, undef, undef, undef, undef, undef, undef, undef, Value.int IntKind.i64 n, Value.int IntKind.i64 j, undef, undef, Value.bool (decide (j < 4)), Value.int IntKind.i64 j, Value.bool (decide (j < 4)), undef, undef, undef, Value.bool (decide (j < 5)), Value.int IntKind.i64 j, Value.bool (decide (j < 5)), undef, Value.bool (decide (j < 8)), Value.int IntKind.i64 j, Value.bool (decide (j < 8)), undef, undef, undef, Value.bool (decide (j < 9)), Value.int IntKind.i64 j, Value.bool (decide (j < 9)), undef, Value.bool true, Value.int IntKind.i64 j, Value.bool true, u 0, u 1, u 2, u 3, u 4, u 5, u 6, u 8, undef, undef, undef, undef, undef], defers := [] }) (MI w2 k s (n / 16) m x) (by kernel_rfl) (fun _ => undef) hI0 ?_ ?_
            · intro i o L u v ho hL hp hcl hI
              have hi : i < 10 := by
                by_cases hi : i < 10
                · exact hi
                · rw [Array.getElem?_eq_none (by simp; omega)] at ho; cases ho
              match i, hi with
              | 0, _ =>
                cases ho
                exact step_value rfl rfl (run_bld7 _ _ _ rfl) ⟨_, rfl, hI.step0 hL⟩
              | 1, _ =>
                cases ho
                exact step_value rfl rfl (run_move _ _ _ _ _ rfl rfl) ⟨_, rfl, hI.put 1 rfl rfl⟩
              | 2, _ =>
                cases ho
                exact step_value rfl rfl (run_quo12 _ _ _ _ _ (n / 16) rfl (hI.val 1 rfl (hp ⟨1, Ground.data⟩ (by simp) rfl)) rfl hn16 (by omega)) ⟨_, rfl, hI.put 2 rfl rfl⟩
              | 3, _ =>
                cases ho
                exact step_call rfl rfl (run_call9 _ _ _ _ _ _ _ _ rfl (hI.val 2 rfl (hp ⟨2, Ground.data⟩ (by simp) rfl)) rfl) (W v) ⟨_, rfl, hI.put 3 rfl rfl⟩
              | 4, _ =>
                cases ho
                have p0 := (hp ⟨0, Ground.data⟩ (by simp) rfl)
                obtain ⟨b, e0, _⟩ := hI.arr p0
                exact step_value rfl rfl (run_ixSeven _ _ _ _ _ b 7 7 m rfl e0 (hI.val 3 rfl (hp ⟨3, Ground.data⟩ (by simp) rfl)) hm7) ⟨_, rfl, hI.step4 p0 b e0⟩
              | 5, _ =>
                cases ho
                obtain ⟨p0, hpt⟩ := hI.ptr (hp ⟨4, Ground.data⟩ (by simp) rfl)
                obtain ⟨b, e0, _, hblk⟩ := hI.arr p0
                exact step_value rfl rfl (run_ldInt _ _ _ _ ⟨b, m, none⟩ x rfl (hpt b e0) (cell_at hblk m _ hc)) ⟨_, rfl, hI.put 5 rfl rfl⟩
              | 6, _ =>
                cases ho
                exact step_value rfl rfl (run_fldQ0 _ _ _ _ k rfl rfl) ⟨_, rfl, hI.put 6 rfl rfl⟩
              | 7, _ =>
                cases ho
                exact step_skip rfl rfl (run_stInt _ _ _ _ _ ⟨k, 0, none⟩ 5 _ rfl (hI.val 6 rfl (hp ⟨6, Ground.data⟩ (by simp) rfl)) rfl (cell_at hI.cell 0 _ rfl) (froz_at hI.cell 0)) ⟨undef, rfl, hI.step7⟩
              | 8, _ =>
                cases ho
                exact step_value rfl rfl (run_fldQ3 _ _ _ _ k rfl rfl) ⟨_, rfl, hI.put 8 rfl rfl⟩
              | 9, _ =>
                cases ho
                exact step_skip rfl rfl (run_stInt _ _ _ _ _ ⟨k, 3, none⟩ x _ rfl (hI.val 8 rfl (hp ⟨8, Ground.data⟩ (by simp) rfl)) (hI.val 5 rfl (hp ⟨5, Ground.data⟩ (by simp) rfl)) (cell_at hI.cell 3 _ rfl) (froz_at hI.cell 3)) ⟨undef, rfl, hI.step9⟩
            · intro L u w5 hall hI
              have h7 := hall 7 (by simp)
              have h9 := hall 9 (by simp)
              have LW := hI.cell
              rw [h7, h9] at LW
              simp only [if_true] at LW
              have XW := X2.of_block (hI.blw.block w.heap.size (by omega))
              have BW := B2.trans (hI.blw.mono hle)
              clear hI hall h7 h9 X2 B2 W
              obtain ⟨⟨a0, a1, a2, a3, _, _, _, _⟩, ⟨m0, m1, m2, m3, g0, g1, g2, g3⟩, ⟨z0, z1, z2, z3, _, _, _, _⟩, BZ⟩ := mk_fin LW XW BW
              clear LW XW BW
              unfold put4 at z0 z1 z2 z3 BZ
              go_wp2_with fail
              exact bodyPost_ret (v := .agg #[.int .i64 5, .string (bs s), .string ⟨#[]⟩, .int .i64 x]) (by simp [results, Tryz.results11, go_sem, z0, z1, z2, z3]) rfl ⟨⟨5, s, [], x⟩, by unfold rightP nameOk textOk valueOk; simp [hw, x0, x1], rfl, BZ⟩
          · clear W7
            by_cases t13 : j < 13
            · skip
              go_upto_region 21 with fail
              have LW : (w2.setCell ⟨k, 0, none⟩ (.int .i64 6)).heap[k]? = some (.cells #[.int .i64 6, .string (bs s), .string ⟨#[]⟩, .int .i64 0] 27 (0, 0)) := (set_at L6 0 (.int .i64 6))
              have XW := (X2.other ⟨k, 0, none⟩ (.int .i64 6) hne)
              have BW := (B2.setCell (p := ⟨k, 0, none⟩) hle (.int .i64 6))
              clear c0 c1 c2 c3 f0 f1 f2 f3 L6 X2 B2
              generalize (w2.setCell ⟨k, 0, none⟩ (.int .i64 6)) = w5 at *
              obtain ⟨⟨a0, a1, a2, a3, _, _, _, _⟩, ⟨m0, m1, m2, m3, g0, g1, g2, g3⟩, ⟨z0, z1, z2, z3, _, _, _, _⟩, BZ⟩ := mk_fin LW XW BW
              clear LW XW BW
              unfold put4 at z0 z1 z2 z3 BZ
              go_wp2_with fail
              exact bodyPost_ret (v := .agg #[.int .i64 6, .string (bs s), .string ⟨#[]⟩, .int .i64 0]) (by simp [results, Tryz.results11, go_sem, z0, z1, z2, z3]) rfl ⟨⟨6, s, [], 0⟩, by unfold rightP nameOk textOk valueOk; simp [hw], rfl, BZ⟩
            · skip
              go_upto_region 21 with fail
              have LW : ((w2.setCell ⟨k, 0, none⟩ (.int .i64 7)).setCell ⟨k, 1, none⟩ (.string ⟨#[]⟩)).heap[k]? = some (.cells #[.int .i64 7, .string ⟨#[]⟩, .string ⟨#[]⟩, .int .i64 0] 27 (0, 0)) := (set_at (set_at L6 0 (.int .i64 7)) 1 (.string ⟨#[]⟩))
              have XW := ((X2.other ⟨k, 0, none⟩ (.int .i64 7) hne).other ⟨k, 1, none⟩ (.string ⟨#[]⟩) hne)
              have BW := ((B2.setCell (p := ⟨k, 0, none⟩) hle (.int .i64 7)).setCell (p := ⟨k, 1, none⟩) hle (.string ⟨#[]⟩))
              clear c0 c1 c2 c3 f0 f1 f2 f3 L6 X2 B2
              generalize ((w2.setCell ⟨k, 0, none⟩ (.int .i64 7)).setCell ⟨k, 1, none⟩ (.string ⟨#[]⟩)) = w5 at *
              obtain ⟨⟨a0, a1, a2, a3, _, _, _, _⟩, ⟨m0, m1, m2, m3, g0, g1, g2, g3⟩, ⟨z0, z1, z2, z3, _, _, _, _⟩, BZ⟩ := mk_fin LW XW BW
              clear LW XW BW
              unfold put4 at z0 z1 z2 z3 BZ
              go_wp2_with fail
              exact bodyPost_ret (v := .agg #[.int .i64 7, .string ⟨#[]⟩, .string ⟨#[]⟩, .int .i64 0]) (by simp [results, Tryz.results11, go_sem, z0, z1, z2, z3]) rfl ⟨⟨7, [], [], 0⟩, by unfold rightP nameOk textOk valueOk; simp [hw], rfl, BZ⟩
end Go.Proofs.YtkaclahcpmogaaaGreatDoor
