/- The reference's reader: two: what binds at a level, or closer. -/
import Derived.Test.YtopfnfmglnjljaaGreatDoorRefNext
import Derived.Test.YtopfnfmglnjljaaGreatDoorRow
import Derived.Test.YtopfnfmglnjljaaGreatDoorSymsR
namespace Go.Proofs.YtopfnfmglnjljaaGreatDoor.Rf
open Go.Proofs.YtopfnfmglnjljaaGreatDoor
open Go.ChangeShapes Go.WideShapes Go.ChangeAt Go.RowKit
open Orders
set_option linter.unusedVariables false
set_option linter.unusedSimpArgs false

theorem run_loadX (a : Act) (w : World) (o : Oper) (p : Operand) (k : Nat) (c0 c1 : Int) (c2 : ByteArray) (c3 : Option Addr) (l m : Nat) (ho : o.op = .load 27 p) (hp : a.eval p = .pointer (some ⟨k, 0, none⟩)) (X : Blk w k (.int .i64 c0) (.int .i64 c1) (.string c2) (.slice c3 l m)) :
    (execOp a.eval o).run Tryz.prog w = .ok (.value (.agg #[.int .i64 c0, .int .i64 c1, .string c2, .slice c3 l m])) w := by
  obtain ⟨h0, h1, h2, h3, _, _, _, _⟩ := X
  generalize a.eval = ρ at *
  simp [execOp, ho, hp, go_sem, Tryz.underlying27, Tryz.underlying9, Tryz.underlying3, Tryz.underlying25, h0, h1, h2, h3]

theorem run_inc (a : Act) (w : World) (o : Oper) (t : Operand) (x : Nat) (ho : o.op = .binOp .add 3 t (.const (.int .i64 1)) 3) (ht : a.eval t = .int .i64 (x : Int)) (hx : x ≤ 10) :
    (execOp a.eval o).run Tryz.prog w = .ok (.value (.int .i64 ((x : Int) + 1))) w := by
  have hc : ∀ v, a.eval (.const v) = v := fun _ => rfl
  have hq : IntKind.i64.wrap ((x : Int) + 1) = (x : Int) + 1 := IntWalk.i64_in _ (by omega)
  generalize a.eval = ρ at *
  simp [execOp, ho, hc, ht, go_sem, Tryz.underlying3, hq]

theorem run_callTwo (a : Act) (w : World) (o : Oper) (s t : Operand) (u v : Value) (ats : Array TypeId) (ho : o.op = .call { callee := .value (.func 35), args := #[s, t], argTypes := ats }) (hs : a.eval s = u) (ht : a.eval t = v) :
    (execOp a.eval o).run Tryz.prog w = .ok (.enter 35 #[u, v]) w := by
  have hf : ∀ f, a.eval (.func f) = .func (.func f) #[] #[] := fun _ => rfl
  generalize a.eval = ρ at *
  simp [execOp, ho, hs, ht, hf, go_sem, Tryz.underlying3]

theorem run_pairX (a : Act) (w : World) (o : Oper) (s t : Operand) (c0 c1 d0 d1 : Int) (c2 d2 : ByteArray) (c3 d3 : Option Addr) (l m l' m' : Nat) (ho : o.op = .buildSlice 25 2 #[(0, s), (1, t)])
    (hs : a.eval s = .agg #[.int .i64 c0, .int .i64 c1, .string c2, .slice c3 l m]) (ht : a.eval t = .agg #[.int .i64 d0, .int .i64 d1, .string d2, .slice d3 l' m']) :
    (execOp a.eval o).run Tryz.prog w = .ok (.value (.slice (some ⟨w.heap.size, 0, none⟩) 2 2)) (w.alloc (.cells #[.int .i64 c0, .int .i64 c1, .string c2, .slice c3 l m, .int .i64 d0, .int .i64 d1, .string d2, .slice d3 l' m'] 27)) := by
  generalize a.eval = ρ at *
  simp [execOp, ho, hs, ht, go_sem, Tryz.underlying25, Tryz.underlying27]

theorem run_makeX (a : Act) (w : World) (o : Oper) (s t : Operand) (k : Int) (p : Option Addr) (l m : Nat) (ho : o.op = .build 27 #[(0, s), (3, t)]) (hs : a.eval s = .int .i64 k) (ht : a.eval t = .slice p l m) :
    (execOp a.eval o).run Tryz.prog w = .ok (.value (.agg #[.int .i64 k, .int .i64 0, .string ⟨#[]⟩, .slice p l m])) w := by
  generalize a.eval = ρ at *
  simp [execOp, ho, hs, ht, go_sem, Tryz.underlying27]

theorem run_storeX (a : Act) (w : World) (o : Oper) (s t : Operand) (k : Nat) (c0 c1 : Int) (c2 : ByteArray) (c3 : Option Addr) (l m : Nat) {x0 x1 x2 x3 : Value} (ho : o.op = .store 27 s t) (hs : a.eval s = .pointer (some ⟨k, 0, none⟩)) (ht : a.eval t = .agg #[.int .i64 c0, .int .i64 c1, .string c2, .slice c3 l m]) (X : Blk w k x0 x1 x2 x3) :
    (execOp a.eval o).run Tryz.prog w = .ok .skip (put4 w k (.int .i64 c0) (.int .i64 c1) (.string c2) (.slice c3 l m)) := by
  have hl := X.lt
  obtain ⟨h0, h1, h2, h3, f0, f1, f2, f3⟩ := X
  generalize a.eval = ρ at *
  simp [execOp, ho, hs, ht, go_sem, Tryz.underlying27, put4, h0, h1, h2, h3, f0, f1, f2, f3, hl]

theorem step_skip {ops : Array Oper} {Q : Exit → Act → World → Prop} {i : Nat} {o : Oper} {K : Act → World → Prop} {a : Act} {w w' : World} (hi : ops[i]? = some o) (hg : o.guard = none)
    (h : (execOp a.eval o).run Tryz.prog w = .ok .skip w') (hK : K (a.put o.dst undef) w') : wpOp Tryz.prog ops Q i K a w := by
  refine step_oper hi hg ?_
  unfold Oper.wp
  rw [h]
  exact hK

/-- The world, by what is done: nothing; the part is read; both are laid in a row; that is stored. -/
def TwoW (W : World) (Q : Value → World → Prop) (xb : Nat) (x0 x1 : Int) (x2 : ByteArray) (x3 : Option Addr) (xl xm kk : Nat) (L : Nat → Bool) (u : Nat → Value) (v : World) : Prop :=
  if L 5 = true then
    ∃ (y0 y1 : Int) (y2 : ByteArray) (y3 : Option Addr) (yl ym : Nat) (w4 : World), u 5 = .agg #[.int .i64 y0, .int .i64 y1, .string y2, .slice y3 yl ym] ∧ Q (u 5) w4 ∧
      if L 6 = true then u 6 = .slice (some ⟨w4.heap.size, 0, none⟩) 2 2 ∧
        if L 8 = true then v = put4 (w4.alloc (.cells #[.int .i64 x0, .int .i64 x1, .string x2, .slice x3 xl xm, .int .i64 y0, .int .i64 y1, .string y2, .slice y3 yl ym] 27)) xb (.int .i64 kk) (.int .i64 0) (.string ⟨#[]⟩) (.slice (some ⟨w4.heap.size, 0, none⟩) 2 2)
        else v = w4.alloc (.cells #[.int .i64 x0, .int .i64 x1, .string x2, .slice x3 xl xm, .int .i64 y0, .int .i64 y1, .string y2, .slice y3 yl ym] 27)
      else L 8 = false ∧ v = w4
  else v = W ∧ L 6 = false ∧ L 8 = false
end Go.Proofs.YtopfnfmglnjljaaGreatDoor.Rf

namespace Go.Proofs.YtopfnfmglnjljaaGreatDoor.Rf
open Go.Proofs.YtopfnfmglnjljaaGreatDoor
open Go.ChangeShapes Go.WideShapes Go.ChangeAt Go.RowKit Orders

set_option linter.unusedVariables false
set_option linter.unusedSimpArgs false

/-- one reads as P does. -/
def OneOk (S : Bs) (b d : Nat) (P : Rd) : Prop := ∀ (w : World) (p : Nat), RR w b S p d false → Calls Tryz.prog 50 #[.pointer (some ⟨b, 0, none⟩)] w fun e w' => Beside b w w' ∧ RRead w.heap.size b d S w' e (P (S.drop p))
/-- two reads at a level as P does. -/
def TwoOk (S : Bs) (b d lv : Nat) (P : Rd) : Prop := ∀ (w : World) (p : Nat), RR w b S p d false → Calls Tryz.prog 35 #[.pointer (some ⟨b, 0, none⟩), .int .i64 (lv : Int)] w fun e w' => Beside b w w' ∧ RRead w.heap.size b d S w' e (P (S.drop p))

theorem RRead.low {n m b d : Nat} {S : Bs} {W : World} {e : Ending} {r : Option (Ex × Bs)} (h : RRead n b d S W e r) (hn : m ≤ n) : RRead m b d S W e r := by
  cases r with
  | none => exact h
  | some r => obtain ⟨x, s⟩ := r; obtain ⟨v, q, e, hx, hR⟩ := h; exact ⟨v, q, e, hx.imp fun i hi _ => Nat.le_trans hn hi, hR⟩
theorem RRead.form {n b d : Nat} {S : Bs} {W : World} {e : Ending} {r : Option (Ex × Bs)} (h : RRead n b d S W e r) : ∃ (k j : Int) (s : ByteArray) (q : Option Addr) (l c : Nat), e = .returned (.agg #[.int .i64 k, .int .i64 j, .string s, .slice q l c]) := by
  cases r with
  | none => obtain ⟨v, q, rfl, ⟨k, j, s, q', l, c, rfl⟩, _⟩ := h; exact ⟨_, _, _, _, _, _, rfl⟩
  | some r => obtain ⟨x, s⟩ := r; obtain ⟨v, q, rfl, hx, _⟩ := h; obtain ⟨k, j, s, q', l, c, rfl⟩ := hx.form; exact ⟨_, _, _, _, _, _, rfl⟩
theorem RRead.put {n b d R : Nat} {S : Bs} {W : World} {e : Ending} {r : Option (Ex × Bs)} (h : RRead n b d S W e r) (hR : R < n) (hb : b ≠ R) (a0 a1 a2 a3 : Value) : RRead n b d S (put4 W R a0 a1 a2 a3) e r := by
  cases r with
  | none => obtain ⟨v, q, e, f, hr⟩ := h; exact ⟨v, q, e, f, hr.put4 _ _ _ _ _ hb⟩
  | some r => obtain ⟨x, s⟩ := r; obtain ⟨v, q, e, hx, hr, hq⟩ := h; exact ⟨v, q, e, hx.put _ _ _ _ _ (fun i hi => by omega), hr.put4 _ _ _ _ _ hb, hq⟩

set_option maxHeartbeats 4000000 in
set_option maxRecDepth 20000 in
theorem two_leaf (S : Bs) (b d : Nat) (P : Rd) (hp : OneOk S b d P) : TwoOk S b d 5 P := by
  intro w p h
  have n0 := below_new w (.cells #[.int .i64 0, .int .i64 0, .string ⟨#[]⟩, .slice none 0 0] 27)
  have R0 := Blk.new w 27 (.int .i64 0) (.int .i64 0) (.string ⟨#[]⟩) (.slice none 0 0)
  have hbw := h.lt
  have C := hp _ p (h.later n0)
  go_enter Tryz.func35, Tryz.ntmps35
  go_wp2_with fail
  obtain ⟨W0, hW0⟩ : ∃ W, W = w.alloc (.cells #[.int .i64 0, .int .i64 0, .string ⟨#[]⟩, .slice none 0 0] 27) := ⟨_, rfl⟩
  have hsz0 : W0.heap.size = w.heap.size + 1 := by rw [hW0]; simp
  rw [← hW0] at n0 R0 C ⊢
  clear hW0
  refine C.mono ?_
  rintro e w1 ⟨hb1, hE⟩
  obtain ⟨k, j, s, q, l, c, rfl⟩ := hE.form
  have R1 := R0.beside hb1 (Nat.ne_of_gt hbw)
  obtain ⟨x0, x1, x2, x3, g0, g1, g2, g3⟩ := id R1
  have hl1 := R1.lt
  have hb := (Beside.of n0 hbw).trans hb1
  clear C n0 R0
  go_wp2_with fail
  have R2 := R1.put (.int .i64 k) (.int .i64 j) (.string s) (.slice q l c)
  have hb2 := hb.putNew hbw (Nat.le_refl _) (.int .i64 k) (.int .i64 j) (.string s) (.slice q l c)
  have hE2 := (hE.put (R := w.heap.size) (by omega) (Nat.ne_of_lt hbw) (.int .i64 k) (.int .i64 j) (.string s) (.slice q l c)).low (m := w.heap.size) (by omega)
  obtain ⟨y0, y1, y2, y3, _, _, _, _⟩ := R2
  unfold put4 at y0 y1 y2 y3
  exact bodyPost_ret (v := .agg #[.int .i64 k, .int .i64 j, .string s, .slice q l c]) (by simp [results, Tryz.results35, go_sem, y0, y1, y2, y3]) rfl ⟨hb2, hE2⟩

theorem between_mem : ∀ (ks : List Nat) (s : Bs) (k : Nat), (betweenP ks s).1 = some k → k ∈ ks
  | [], s, k, h => by simp [betweenP] at h
  | j :: ks, s, k, h => by
    unfold betweenP at h
    split at h
    · simp at h; simp [h]
    · exact List.mem_cons_of_mem _ (between_mem ks _ k h)
theorem lv_pos : ∀ (lv : Fin 5), ∀ k ∈ lvKinds lv.val, k ≠ 0 := by decide
theorem between_kind (lv : Nat) (hlv : lv < 5) (s : Bs) (k : Nat) (h : (betweenP (lvKinds lv) s).1 = some k) : (k : Int) ≠ 0 := by
  have := lv_pos ⟨lv, hlv⟩ k (between_mem _ _ _ h)
  omega

/-- Both, laid in a row, in the cells of the first. -/
theorem two_ex {w4 : World} {B xb n0 kk : Nat} {k n y0 y1 : Int} {t y2 : ByteArray} {q y3 : Option Addr} {l m yl ym : Nat} {x y : Ex} (hB : B < xb) (hl : xb < w4.heap.size) (hn : xb < n0)
    (hx : ExAt (fun i => B < i ∧ i ≠ xb) w4 (.agg #[.int .i64 k, .int .i64 n, .string t, .slice q l m]) x) (hy : ExAt (n0 ≤ ·) w4 (.agg #[.int .i64 y0, .int .i64 y1, .string y2, .slice y3 yl ym]) y) :
    ExAt (fun i => B < i ∧ i ≠ xb) (put4 (w4.alloc (.cells #[.int .i64 k, .int .i64 n, .string t, .slice q l m, .int .i64 y0, .int .i64 y1, .string y2, .slice y3 yl ym] 27)) xb (.int .i64 kk) (.int .i64 0) (.string ⟨#[]⟩) (.slice (some ⟨w4.heap.size, 0, none⟩) 2 2)) (.agg #[.int .i64 kk, .int .i64 0, .string ⟨#[]⟩, .slice (some ⟨w4.heap.size, 0, none⟩) 2 2]) (.two kk x y) := by
  have hn4 := below_new w4 (.cells #[.int .i64 k, .int .i64 n, .string t, .slice q l m, .int .i64 y0, .int .i64 y1, .string y2, .slice y3 yl ym] 27)
  have hy' := hy.imp (Q := fun i => B < i ∧ i ≠ xb) (fun i h1 _ => by omega)
  have fx := (hx.below hn4).put xb (.int .i64 kk) (.int .i64 0) (.string ⟨#[]⟩) (.slice (some ⟨w4.heap.size, 0, none⟩) 2 2) (fun i hi => hi.2)
  have fy := (hy'.below hn4).put xb (.int .i64 kk) (.int .i64 0) (.string ⟨#[]⟩) (.slice (some ⟨w4.heap.size, 0, none⟩) 2 2) (fun i hi => hi.2)
  have nc := fun i x h => new_cell (w := w4) (t := 27) #[.int .i64 k, .int .i64 n, .string t, .slice q l m, .int .i64 y0, .int .i64 y1, .string y2, .slice y3 yl ym] i x h
  have cc : ∀ (i : Nat) x, (#[.int .i64 k, .int .i64 n, .string t, .slice q l m, .int .i64 y0, .int .i64 y1, .string y2, .slice y3 yl ym] : Array Value)[i]? = some x → (put4 (w4.alloc (.cells #[.int .i64 k, .int .i64 n, .string t, .slice q l m, .int .i64 y0, .int .i64 y1, .string y2, .slice y3 yl ym] 27)) xb (.int .i64 kk) (.int .i64 0) (.string ⟨#[]⟩) (.slice (some ⟨w4.heap.size, 0, none⟩) 2 2)).cell? ⟨w4.heap.size, i, none⟩ = some x := fun i x h => by
    rw [cell_of_block (put4_block _ _ _ _ _ _ _ (by show w4.heap.size ≠ xb; omega))]
    exact nc i x h
  exact ⟨w4.heap.size, _, _, _, _, _, _, _, _, rfl, ⟨by omega, by omega⟩, cc 0 _ rfl, cc 1 _ rfl, cc 2 _ rfl, cc 3 _ rfl, cc 4 _ rfl, cc 5 _ rfl, cc 6 _ rfl, cc 7 _ rfl, fx, fy⟩

/-- How much is left to do. -/
def leftR (b : Nat) (S : Bs) (w : World) : Nat := match w.cell? ⟨b, 3, none⟩ with
  | some (.bool false) => leftAt b S w + 1
  | _ => 0
theorem RR.leftR {w : World} {b : Nat} {S : Bs} {p d : Nat} (h : RR w b S p d false) : leftR b S w = (S.drop p).length + 1 := by
  unfold Proofs.YtopfnfmglnjljaaGreatDoor.Rf.leftR; rw [h.c3]; simp [h.left]
theorem RR.leftBad {w : World} {b : Nat} {S : Bs} {p d : Nat} (h : RR w b S p d true) : Proofs.YtopfnfmglnjljaaGreatDoor.Rf.leftR b S w = 0 := by
  unfold Proofs.YtopfnfmglnjljaaGreatDoor.Rf.leftR; rw [h.c3]

set_option maxHeartbeats 8000000 in
set_option maxRecDepth 20000 in
theorem two_row (S : Bs) (hl : S.length ≤ 35184372088832) (b d lv : Nat) (hlv : lv < 5) (P : Rd) (hp : TwoOk S b d (lv + 1) P) (hs : Shrinks P) : TwoOk S b d lv (rowP P (lvKinds lv)) := by
  intro w p h
  obtain ⟨res, hres⟩ : ∃ res, res = rowP P (lvKinds lv) (S.drop p) := ⟨_, rfl⟩
  rw [← hres]
  have HR : Hid (res = rowP P (lvKinds lv) (S.drop p)) := hres
  clear hres
  have n0 := below_new w (.cells #[.int .i64 0, .int .i64 0, .string ⟨#[]⟩, .slice none 0 0] 27)
  have R0 := Blk.new w 27 (.int .i64 0) (.int .i64 0) (.string ⟨#[]⟩) (.slice none 0 0)
  have hbw := h.lt
  have C := hp _ p (h.later n0)
  rw [show ((lv + 1 : Nat) : Int) = (lv : Int) + 1 by omega] at C
  have hlI : ¬ (4 : Int) < (lv : Int) := by omega
  go_enter Tryz.func35, Tryz.ntmps35
  go_wp2_with fail
  obtain ⟨W0, hW0⟩ : ∃ W, W = w.alloc (.cells #[.int .i64 0, .int .i64 0, .string ⟨#[]⟩, .slice none 0 0] 27) := ⟨_, rfl⟩
  have hsz0 : W0.heap.size = w.heap.size + 1 := by rw [hW0]; simp
  rw [← hW0] at n0 R0 C ⊢
  clear hW0
  refine C.mono ?_
  rintro e w1 ⟨hb1, hE⟩
  obtain ⟨kE, jE, sE, qE, lE, cE, rfl⟩ := hE.form
  have R1 := R0.beside hb1 (Nat.ne_of_gt hbw)
  have hb := (Beside.of n0 hbw).trans hb1
  have hne := R1.lt
  have nx := below_new w1 (.cells #[.int .i64 kE, .int .i64 jE, .string sE, .slice qE lE cE] 27)
  have X1 := Blk.new w1 27 (.int .i64 kE) (.int .i64 jE) (.string sE) (.slice qE lE cE)
  have RX := R1.later nx
  have hbX := hb.trans (Beside.of nx (by omega))
  have hXl := X1.lt
  clear C n0 R0
  go_wp2_with fail
  obtain ⟨WX, hWX⟩ : ∃ W, W = w1.alloc (.cells #[.int .i64 kE, .int .i64 jE, .string sE, .slice qE lE cE] 27) := ⟨_, rfl⟩
  rw [← hWX] at nx X1 RX hbX hXl ⊢
  clear hWX
  go_loopw [6] (fun _ wr => Beside b w wr ∧ Blk wr w.heap.size (.int .i64 0) (.int .i64 0) (.string ⟨#[]⟩) (.slice none 0 0) ∧ w1.heap.size < wr.heap.size ∧ ∃ (k n : Int) (t : ByteArray) (q : Option Addr) (l m : Nat), Blk wr w1.heap.size (.int .i64 k) (.int .i64 n) (.string t) (.slice q l m) ∧
      ((∃ (x : Ex) (p' f : Nat), ExAt (fun i => w.heap.size < i ∧ i ≠ w1.heap.size) wr (.agg #[.int .i64 k, .int .i64 n, .string t, .slice q l m]) x ∧ RR wr b S p' d false ∧ (S.drop p').length < f ∧ Hid (rowGo P (lvKinds lv) f x (S.drop p') = res)) ∨
       ((∃ p', RR wr b S p' d true) ∧ Hid (res = none)))) (fun _ wr => leftR b S wr)
  case atStart =>
    refine ⟨hbX, RX, hXl, kE, jE, sE, qE, lE, cE, X1, ?_⟩
    cases hP : P (S.drop p) with
    | none =>
      rw [hP] at hE
      obtain ⟨v, p', e, _, hR⟩ := hE
      exact .inr ⟨⟨p', hR.later nx⟩, by have := HR.out; rw [this]; unfold Hid rowP; rw [hP]⟩
    | some r =>
      obtain ⟨x, s1⟩ := r
      rw [hP] at hE
      obtain ⟨v, p', e, hx, hR, hq⟩ := hE
      cases e
      exact .inl ⟨x, p', s1.length + 1, (hx.imp (Q := fun i => w.heap.size < i ∧ i ≠ w1.heap.size) (fun i h1 h2 => ⟨by omega, Nat.ne_of_lt h2⟩)).below nx, hR.later nx, by rw [hq]; omega, by have := HR.out; rw [this]; unfold Hid rowP; rw [hP, hq]⟩
  case round =>
    obtain ⟨hbr, R, hXr, k, n, t, q, l, m, X, ⟨x, p', f, hx, hR, hf, he⟩ | ⟨⟨p', hR⟩, he⟩⟩ := hrel
    · have NX := next_any b S hl lv hlv p' d wr hR
      have hbl := betweenP_less (lvKinds lv) (S.drop p')
      have hkn := between_kind lv hlv (S.drop p')
      have hll : Hid (leftR b S wr = (S.drop p').length + 1) := hR.leftR
      obtain ⟨f, rfl⟩ : ∃ f', f = f' + 1 := ⟨f - 1, by omega⟩
      have hst : Hid (rowGo P (lvKinds lv) (f + 1) x (S.drop p') = match betweenP (lvKinds lv) (S.drop p') with | (none, s1) => some (x, s1) | (some k, s1) => match P s1 with | none => none | some (y, s2) => rowGo P (lvKinds lv) f (.two k x y) s2) := rfl
      generalize betweenP (lvKinds lv) (S.drop p') = br at *
      obtain ⟨bk, s2⟩ := br
      have hlt := R.lt
      cases bk with
      | none =>
        have heq : Hid (res = some (x, s2)) := he.out.symm.trans hst.out
        clear hbl hst he hf
        go_wp2_with (go_at_call 51; refine NX.mono ?_; rintro e w2 ⟨rfl, hb2, p2, hR2, hq2⟩; have X2 := X.beside hb2 (by omega); have R2 := R.beside hb2 (by omega); obtain ⟨x0, x1, x2, x3, _, _, _, _⟩ := id X2; obtain ⟨c0, c1, c2, c3, f0, f1, f2, f3⟩ := id R2; have hl2 := R2.lt; simp only [kindI])
        have R3 := R2.put (.int .i64 k) (.int .i64 n) (.string t) (.slice q l m)
        obtain ⟨y0, y1, y2, y3, _, _, _, _⟩ := R3
        have hx3 := (hx.beside hb2 (fun i hi => by have := hi.1; omega)).put w.heap.size (.int .i64 k) (.int .i64 n) (.string t) (.slice q l m) (fun i hi => Nat.ne_of_gt hi.1)
        have hb3 := (hbr.trans hb2).putNew hbw (Nat.le_refl _) (.int .i64 k) (.int .i64 n) (.string t) (.slice q l m)
        have hR3 := hR2.put4 w.heap.size (.int .i64 k) (.int .i64 n) (.string t) (.slice q l m) (Nat.ne_of_lt hbw)
        unfold put4 at y0 y1 y2 y3
        exact bodyPost_ret (v := .agg #[.int .i64 k, .int .i64 n, .string t, .slice q l m]) (by simp [results, Tryz.results35, go_sem, y0, y1, y2, y3]) rfl (by
          rw [heq.out]
          exact ⟨hb3, _, p2, rfl, hx3.imp fun i hi _ => Nat.le_of_lt hi.1, hR3, hq2⟩)
      | some kk =>
        have hs2 : s2.length < (S.drop p').length := hbl kk rfl
        have hkk : Hid ((kk : Int) ≠ 0) := hkn kk rfl
        have hkb : ((kk : Int) == 0) = false := by simpa using hkk.out
        clear hbl hkk
        go_wp2_with (go_at_call 51; refine NX.mono ?_; rintro e w2 ⟨rfl, hb2, p2, hR2, hq2⟩; simp only [kindI])
        have d2 : Below w2.heap.size w2 w2.drew := Below.drew (Below.refl _ _)
        have X2 := (X.beside hb2 (by omega)).later d2
        have R2 := (R.beside hb2 (by omega)).later d2
        have hx2 := (hx.beside hb2 (fun i hi => by have := hi.1; omega)).below d2
        have hbr2 := (hbr.trans hb2).trans (Beside.of d2 hR2.lt)
        have C := hp _ p2 (hR2.later d2)
        rw [show ((lv + 1 : Nat) : Int) = (lv : Int) + 1 by omega, hq2] at C
        have hsz2 : w1.heap.size < w2.drew.heap.size := X2.lt
        obtain ⟨x0, x1, x2, x3, _, _, _, _⟩ := id (X.beside hb2 (by omega))
        obtain ⟨x0d, x1d, x2d, x3d, _, _, _, _⟩ := id X2
        clear NX hb2 hR2 hq2 X R hx hR hbr d2
        have QW : ∀ y w4, (Beside b w2.drew w4 ∧ RRead w2.drew.heap.size b d S w4 (.returned y) (P s2)) → Blk w4 w1.heap.size (.int .i64 k) (.int .i64 n) (.string t) (.slice q l m) := fun y w4 h => X2.beside h.1 (by omega)
        clear x0 x1 x2 x3 x0d x1d x2d x3d
        refine region_inv (by kernel_rfl) (fun u => { tmps := #[.pointer (some ⟨b, 0, none⟩), .int .i64 lv, undef, undef, .pointer (some ⟨w.heap.size, 0, none⟩), .pointer (some ⟨w1.heap.size, 0, none⟩), .int .i64 kk, .int .i64 lv, .bool false, undef, undef, .pointer (some ⟨b, 0, none⟩), .int .i64 lv, .int .i64 ((lv : Int) + 1), .agg #[.int .i64 kE, .int .i64 jE, .string sE, .slice qE lE cE], .pointer (some ⟨b, 0, none⟩), .int .i64 lv, .int .i64 kk, .int .i64 kk, .bool false, u20, u 0, u 1, u 2, u 3, u 4, u 5, u 6, u 7], defers := [] })
          (fun L u v => TwoW w2.drew (fun y w4 => Beside b w2.drew w4 ∧ RRead w2.drew.heap.size b d S w4 (.returned y) (P s2)) w1.heap.size k n t q l m kk L u v ∧ (L 0 = true → u 0 = .int .i64 kk) ∧ (L 1 = true → u 1 = .agg #[.int .i64 k, .int .i64 n, .string t, .slice q l m]) ∧ (L 2 = true → u 2 = .pointer (some ⟨b, 0, none⟩)) ∧ (L 3 = true → u 3 = .int .i64 lv) ∧ (L 4 = true → u 4 = .int .i64 ((lv : Int) + 1)) ∧ (L 6 = true → L 1 = true) ∧ (L 7 = true → L 6 = true ∧ ∃ p, u 6 = .slice p 2 2 ∧ u 7 = .agg #[.int .i64 kk, .int .i64 0, .string ⟨#[]⟩, .slice p 2 2]))
          (by kernel_rfl) (fun k => ([u21, u22, u23, u24, u25, u26, u27, u28] : List Value).getD k undef) ?_ ?_ ?_
        · exact ⟨by unfold TwoW; simp, nofun, nofun, nofun, nofun, nofun, nofun, nofun⟩
        · intro i op L u v ho hL hp hI
          have hi : i < 9 := by
            by_cases hi : i < 9
            · exact hi
            · rw [Array.getElem?_eq_none (by simp; omega)] at ho; cases ho
          obtain ⟨hT, h0, h1, h2, h3, h4, h61, h7⟩ := hI
          match i, hi with
          | 0, _ =>
            cases ho
            exact step_value rfl rfl (run_move _ _ _ _ _ rfl rfl) ⟨_, rfl, hT, fun _ => rfl, h1, h2, h3, h4, h61, h7⟩
          | 1, _ =>
            cases ho
            have l6 : L 6 = false := by cases h : L 6 with | false => rfl | true => rw [h61 h] at hL; cases hL
            have X : Blk v w1.heap.size (.int .i64 k) (.int .i64 n) (.string t) (.slice q l m) := by
              unfold TwoW at hT
              split at hT
              · obtain ⟨_, _, _, _, _, _, w4, _, hQ, hv⟩ := hT
                rw [l6, if_neg (by simp)] at hv
                rw [hv.2]; exact QW _ _ hQ
              · rw [hT.1]; exact X2
            exact step_value rfl rfl (run_loadX _ _ _ _ w1.heap.size k n t q l m rfl rfl X) ⟨_, rfl, hT, h0, fun _ => rfl, h2, h3, h4, fun _ => rfl, h7⟩
          | 2, _ =>
            cases ho
            exact step_value rfl rfl (run_move _ _ _ _ _ rfl rfl) ⟨_, rfl, hT, h0, h1, fun _ => rfl, h3, h4, h61, h7⟩
          | 3, _ =>
            cases ho
            exact step_value rfl rfl (run_move _ _ _ _ _ rfl rfl) ⟨_, rfl, hT, h0, h1, h2, fun _ => rfl, h4, h61, h7⟩
          | 4, _ =>
            cases ho
            have e3 := h3 (hp ⟨3, Ground.data⟩ (by simp) rfl)
            exact step_value rfl rfl (run_inc _ _ _ _ lv rfl e3 (by omega)) ⟨_, rfl, hT, h0, h1, h2, h3, fun _ => rfl, h61, h7⟩
          | 5, _ =>
            cases ho
            have e2 := h2 (hp ⟨2, Ground.data⟩ (by simp) rfl)
            have e4 := h4 (hp ⟨4, Ground.data⟩ (by simp) rfl)
            unfold TwoW at hT
            rw [if_neg (by rw [hL]; simp)] at hT
            obtain ⟨rfl, l6, l8⟩ := hT
            refine step_called (R := fun y w4 => Beside b w2.drew w4 ∧ RRead w2.drew.heap.size b d S w4 (.returned y) (P s2)) rfl rfl (run_callTwo _ _ _ _ _ _ _ _ rfl e2 e4) (C.mono fun e w' h => by
              obtain ⟨k', j', s', q', l', c', rfl⟩ := h.2.form
              exact ⟨_, rfl, h⟩) ?_
            intro y w4 hQ
            obtain ⟨k', j', s', q', l', c', e⟩ := hQ.2.form
            cases e
            refine ⟨_, rfl, ?_, h0, h1, h2, h3, h4, h61, h7⟩
            unfold TwoW
            rw [if_pos (by rfl)]
            refine ⟨k', j', s', q', l', c', w4, rfl, hQ, ?_⟩
            rw [if_neg (by show ¬ L 6 = true; rw [l6]; simp)]
            exact ⟨l8, rfl⟩
          | 6, _ =>
            cases ho
            have e1 := h1 (hp ⟨1, Ground.data⟩ (by simp) rfl)
            have l5 : L 5 = true := hp ⟨5, Ground.data⟩ (by simp) rfl
            unfold TwoW at hT
            rw [if_pos l5] at hT
            obtain ⟨y0, y1, y2, y3, yl, ym, w4, e5, hQ, hv⟩ := hT
            rw [if_neg (by rw [hL]; simp)] at hv
            obtain ⟨l8, rfl⟩ := hv
            refine step_value rfl rfl (run_pairX _ _ _ _ _ k n y0 y1 t y2 q y3 l m yl ym rfl e1 e5) ⟨_, rfl, ?_, h0, h1, h2, h3, h4, fun _ => hp ⟨1, Ground.data⟩ (by simp) rfl, fun h => absurd (h7 h).1 (by rw [hL]; simp)⟩
            unfold TwoW
            rw [if_pos (by exact l5)]
            refine ⟨y0, y1, y2, y3, yl, ym, v, e5, hQ, ?_⟩
            rw [if_pos (by rfl)]
            refine ⟨rfl, ?_⟩
            rw [if_neg (by show ¬ L 8 = true; rw [l8]; simp)]
          | 7, _ =>
            cases ho
            have e0 := h0 (hp ⟨0, Ground.data⟩ (by simp) rfl)
            have l6 : L 6 = true := hp ⟨6, Ground.data⟩ (by simp) rfl
            have e6 : ∃ p, u 6 = .slice p 2 2 := by
              unfold TwoW at hT
              split at hT
              · obtain ⟨_, _, _, _, _, _, w4, _, hQ, hv⟩ := hT
                exact ⟨_, hv.1⟩
              · rw [l6] at hT; cases hT.2.1
            obtain ⟨p6, e6⟩ := e6
            exact step_value rfl rfl (run_makeX _ _ _ _ _ kk p6 2 2 rfl e0 e6) ⟨_, rfl, hT, h0, h1, h2, h3, h4, h61, fun _ => ⟨l6, p6, e6, rfl⟩⟩
          | 8, _ =>
            cases ho
            have l7 : L 7 = true := hp ⟨7, Ground.data⟩ (by simp) rfl
            obtain ⟨l6, p6, e6, e7⟩ := h7 l7
            unfold TwoW at hT
            split at hT
            · rename_i l5
              obtain ⟨y0, y1, y2, y3, yl, ym, w4, e5, hQ, hv⟩ := hT
              obtain ⟨e6', hv⟩ := hv
              rw [if_neg (by rw [hL]; simp)] at hv
              subst hv
              rw [e6] at e6'
              cases e6'
              refine step_skip rfl rfl (run_storeX _ _ _ _ _ w1.heap.size kk 0 ⟨#[]⟩ _ 2 2 rfl rfl e7 ((QW _ _ hQ).alloc _)) ⟨undef, rfl, ?_, h0, h1, h2, h3, h4, h61, h7⟩
              unfold TwoW
              rw [if_pos (by exact l5)]
              refine ⟨y0, y1, y2, y3, yl, ym, w4, e5, hQ, ?_⟩
              rw [if_pos (by exact l6)]
              refine ⟨e6, ?_⟩
              rw [if_pos (by rfl)]
            · rw [l6] at hT; cases hT.2.1
        · intro L u v hall hI
          obtain ⟨hT, -⟩ := hI
          unfold TwoW at hT
          rw [if_pos (hall 5 (by decide))] at hT
          obtain ⟨y0, y1, y2, y3, yl, ym, w4, e5, ⟨hb4, hE4⟩, hv⟩ := hT
          rw [if_pos (hall 6 (by decide))] at hv
          obtain ⟨e6, hv⟩ := hv
          rw [if_pos (hall 8 (by decide))] at hv
          rw [e5] at hE4
          have X4 := QW _ _ ⟨hb4, by rw [← e5] at hE4; exact hE4⟩
          have hl4 := X4.lt
          have n4 := below_new w4 (.cells #[.int .i64 k, .int .i64 n, .string t, .slice q l m, .int .i64 y0, .int .i64 y1, .string y2, .slice y3 yl ym] 27)
          have Xv := (X4.alloc (.cells #[.int .i64 k, .int .i64 n, .string t, .slice q l m, .int .i64 y0, .int .i64 y1, .string y2, .slice y3 yl ym] 27)).put (.int .i64 kk) (.int .i64 0) (.string ⟨#[]⟩) (.slice (some ⟨w4.heap.size, 0, none⟩) 2 2)
          have Rv := ((R2.beside hb4 (by omega)).alloc (.cells #[.int .i64 k, .int .i64 n, .string t, .slice q l m, .int .i64 y0, .int .i64 y1, .string y2, .slice y3 yl ym] 27)).put4 w1.heap.size (.int .i64 kk) (.int .i64 0) (.string ⟨#[]⟩) (.slice (some ⟨w4.heap.size, 0, none⟩) 2 2) (by omega)
          have hbv := ((hbr2.trans hb4).alloc hbw (.cells #[.int .i64 k, .int .i64 n, .string t, .slice q l m, .int .i64 y0, .int .i64 y1, .string y2, .slice y3 yl ym] 27)).putNew hbw (k := w1.heap.size) (by omega) (.int .i64 kk) (.int .i64 0) (.string ⟨#[]⟩) (.slice (some ⟨w4.heap.size, 0, none⟩) 2 2)
          have hszv : w1.heap.size < (put4 (w4.alloc (.cells #[.int .i64 k, .int .i64 n, .string t, .slice q l m, .int .i64 y0, .int .i64 y1, .string y2, .slice y3 yl ym] 27)) w1.heap.size (.int .i64 kk) (.int .i64 0) (.string ⟨#[]⟩) (.slice (some ⟨w4.heap.size, 0, none⟩) 2 2)).heap.size := Xv.lt
          have hEx := fun (y : Ex) (hy : ExAt (w2.drew.heap.size ≤ ·) w4 (.agg #[.int .i64 y0, .int .i64 y1, .string y2, .slice y3 yl ym]) y) => two_ex (kk := kk) hne hl4 hsz2 (hx2.beside hb4 (fun i hi => by have := hi.1; omega)) hy
          clear hall C QW X4 X2 R2 hx2 hbr2 e5 e6
          subst hv
          cases hpp : P s2 with
          | none =>
            rw [hpp] at hE4
            obtain ⟨_, p4, _, _, hR4⟩ := hE4
            have hRv := (hR4.later n4).put4 w1.heap.size (.int .i64 kk) (.int .i64 0) (.string ⟨#[]⟩) (.slice (some ⟨w4.heap.size, 0, none⟩) 2 2) (by omega)
            have heq : Hid (res = none) := by
              have h2 := he.out.symm.trans hst.out
              simp only [hpp] at h2
              exact h2
            clear hst he hEx
            go_wp2_with fail
            go_roundw
            case rel => exact ⟨hbv, Rv, hszv, _, _, _, _, _, _, Xv, .inr ⟨⟨p4, hRv⟩, heq⟩⟩
            case measure => rw [hRv.leftBad, hll.out]; omega
          | some r =>
            obtain ⟨y, s3⟩ := r
            rw [hpp] at hE4
            obtain ⟨_, p4, e, hy, hR4, hq4⟩ := hE4
            cases e
            have hRv := (hR4.later n4).put4 w1.heap.size (.int .i64 kk) (.int .i64 0) (.string ⟨#[]⟩) (.slice (some ⟨w4.heap.size, 0, none⟩) 2 2) (by omega)
            have hxv := hEx y hy
            have hs3 := hs _ _ _ hpp
            have heq : Hid (rowGo P (lvKinds lv) f (.two kk x y) (S.drop p4) = res) := by
              have h2 := he.out.symm.trans hst.out
              simp only [hpp] at h2
              rw [Hid, hq4]
              exact h2.symm
            clear hst he hEx
            go_wp2_with fail
            go_roundw
            case rel => exact ⟨hbv, Rv, hszv, _, _, _, _, _, _, Xv, .inl ⟨_, p4, f, hxv, hRv, by rw [hq4]; omega, heq⟩⟩
            case measure => rw [hRv.leftR, hll.out, hq4]; omega
    · have NX := next_bad b S lv p' d wr hR
      have hlt := R.lt
      obtain ⟨x0, x1, x2, x3, _, _, _, _⟩ := id X
      obtain ⟨c0, c1, c2, c3, f0, f1, f2, f3⟩ := id R
      go_wp2_with (go_at_call 51; refine NX.mono ?_; rintro e w' ⟨rfl, rfl⟩)
      have R3 := R.put (.int .i64 k) (.int .i64 n) (.string t) (.slice q l m)
      obtain ⟨y0, y1, y2, y3, _, _, _, _⟩ := R3
      have hb3 := hbr.putNew hbw (Nat.le_refl _) (.int .i64 k) (.int .i64 n) (.string t) (.slice q l m)
      have hR3 := hR.put4 w.heap.size (.int .i64 k) (.int .i64 n) (.string t) (.slice q l m) (Nat.ne_of_lt hbw)
      unfold put4 at y0 y1 y2 y3
      exact bodyPost_ret (v := .agg #[.int .i64 k, .int .i64 n, .string t, .slice q l m]) (by simp [results, Tryz.results35, go_sem, y0, y1, y2, y3]) rfl (by
        rw [he.out]
        exact ⟨hb3, _, p', rfl, ⟨_, _, _, _, _, _, rfl⟩, hR3⟩)
end Go.Proofs.YtopfnfmglnjljaaGreatDoor.Rf
