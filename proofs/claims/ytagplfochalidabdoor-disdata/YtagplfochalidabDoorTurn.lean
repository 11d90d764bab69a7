/- The contract of turn at a page with one line. -/
import Derived.Test.YtagplfochalidabDoorFrags
import Derived.Deep.RegionLaw
import Derived.Laws.BytesArg
import Derived.BigRegion
import Derived.Test.YtagplfochalidabDoorOrders2
namespace Go.Proofs.YtagplfochalidabDoor
open Go.ChangeShapes Go.WideShapes Go.ChangeAt Go.RowKit
open Plain
set_option linter.unusedVariables false
set_option linter.unusedSimpArgs false

theorem info_frag : (Tryd.prog.info? 31).map (fun i => (i.zero, i.size, i.bytes)) = some (some (.agg #[.string ByteArray.empty, .string ByteArray.empty]), 2, 32) := by kernel_rfl

def blrText : List Int := [115, 101, 95, 98, 108, 114, 10]

open Orders

theorem run_move (a : Act) (w : World) (o : Oper) (p : Operand) (x : Value) (ho : o.op = .move p) (hp : a.eval p = x) :
    (execOp a.eval o).run Tryd.prog w = .ok (.value x) w := by
  have hc : ∀ v, a.eval (.const v) = v := fun _ => rfl
  generalize a.eval = ρ at *
  simp [execOp, ho, hp, go_sem]

theorem run_nil (a : Act) (w : World) (o : Oper) (p : Operand) (ad : Addr) (ho : o.op = .nilCheck p) (hp : a.eval p = .pointer (some ad)) :
    (execOp a.eval o).run Tryd.prog w = .ok (.value (.pointer (some ad))) w := by
  have hc : ∀ v, a.eval (.const v) = v := fun _ => rfl
  generalize a.eval = ρ at *
  simp [execOp, ho, hp, go_sem]

theorem run_fld0 (a : Act) (w : World) (o : Oper) (p : Operand) (g : Nat) (ho : o.op = .fieldAddr 36 p 0) (hp : a.eval p = .pointer (some ⟨g, 0, none⟩)) :
    (execOp a.eval o).run Tryd.prog w = .ok (.value (.pointer (some ⟨g, 0, none⟩))) w := by
  have hc : ∀ v, a.eval (.const v) = v := fun _ => rfl
  generalize a.eval = ρ at *
  simp [execOp, ho, hp, go_sem, Tryd.underlying36]

theorem run_fld1 (a : Act) (w : World) (o : Oper) (p : Operand) (g : Nat) (ho : o.op = .fieldAddr 36 p 1) (hp : a.eval p = .pointer (some ⟨g, 0, none⟩)) :
    (execOp a.eval o).run Tryd.prog w = .ok (.value (.pointer (some ⟨g, 1, none⟩))) w := by
  have hc : ∀ v, a.eval (.const v) = v := fun _ => rfl
  generalize a.eval = ρ at *
  simp [execOp, ho, hp, go_sem, Tryd.underlying36]

theorem run_ldF (a : Act) (w : World) (o : Oper) (p : Operand) (ad : Addr) (q : Option Addr) (n c : Nat) (ho : o.op = .load 28 p) (hp : a.eval p = .pointer (some ad)) (hv : w.cell? ad = some (.slice q n c)) :
    (execOp a.eval o).run Tryd.prog w = .ok (.value (.slice q n c)) w := by
  have hc : ∀ v, a.eval (.const v) = v := fun _ => rfl
  generalize a.eval = ρ at *
  simp [execOp, ho, hp, hv, go_sem, Tryd.underlying28]

theorem run_ldB (a : Act) (w : World) (o : Oper) (p : Operand) (ad : Addr) (q : Option Addr) (n c : Nat) (ho : o.op = .load 24 p) (hp : a.eval p = .pointer (some ad)) (hv : w.cell? ad = some (.slice q n c)) :
    (execOp a.eval o).run Tryd.prog w = .ok (.value (.slice q n c)) w := by
  have hc : ∀ v, a.eval (.const v) = v := fun _ => rfl
  generalize a.eval = ρ at *
  simp [execOp, ho, hp, hv, go_sem, Tryd.underlying24]

theorem run_lenF (a : Act) (w : World) (o : Oper) (p : Operand) (q : Option Addr) (n c : Nat) (ho : o.op = .call { callee := .builtin .len, args := #[p], argTypes := #[28] }) (hp : a.eval p = .slice q n c) :
    (execOp a.eval o).run Tryd.prog w = .ok (.value (.int .i64 (n : Int))) w := by
  have hc : ∀ v, a.eval (.const v) = v := fun _ => rfl
  generalize a.eval = ρ at *
  simp [execOp, ho, hp, go_sem, Tryd.underlying28]

theorem run_conv (a : Act) (w : World) (o : Oper) (p : Operand) (s : Value) (x : ByteArray) (ho : o.op = .convert 24 9 p) (hp : a.eval p = s) (hv : (convert 24 9 s).run Tryd.prog w = .ok (.string x) w) :
    (execOp a.eval o).run Tryd.prog w = .ok (.value (.string x)) w := by
  have hc : ∀ v, a.eval (.const v) = v := fun _ => rfl
  generalize a.eval = ρ at *
  simp [execOp, ho, hp, hv, go_sem]

theorem run_bF (a : Act) (w : World) (o : Oper) (p q : Operand) (x y : ByteArray) (ho : o.op = .build 31 #[(0, p), (1, q)]) (hp : a.eval p = .string x) (hq : a.eval q = .string y) :
    (execOp a.eval o).run Tryd.prog w = .ok (.value (.agg #[.string x, .string y])) w := by
  have hc : ∀ v, a.eval (.const v) = v := fun _ => rfl
  generalize a.eval = ρ at *
  simp [execOp, ho, hp, hq, go_sem, Tryd.underlying31]

theorem run_bS (a : Act) (w : World) (o : Oper) (p : Operand) (x y : ByteArray) (ho : o.op = .buildSlice 28 1 #[(0, p)]) (hp : a.eval p = .agg #[.string x, .string y]) :
    (execOp a.eval o).run Tryd.prog w = .ok (.value (.slice (some ⟨w.heap.size, 0, none⟩) 1 1)) (w.alloc (.cells #[.string x, .string y] 31)) := by
  generalize a.eval = ρ at *
  simp [execOp, ho, hp, go_sem, Tryd.underlying28]

theorem run_callName (a : Act) (w : World) (o : Oper) (p : Operand) (x : Value) (ats : Array TypeId) (ho : o.op = .call { callee := .value (.func 17), args := #[p], argTypes := ats }) (hp : a.eval p = x) :
    (execOp a.eval o).run Tryd.prog w = .ok (.enter 17 #[x]) w := by
  have hf : a.eval (.func 17) = .func (.func 17) #[] #[] := rfl
  generalize a.eval = ρ at *
  simp [execOp, ho, hf, hp, go_sem, Tryd.func17]

theorem run_app2 (a : Act) (w : World) (o : Oper) (s x : Operand) (v y v' : Value) (w' : World) (ho : o.op = .call { callee := .builtin .append, args := #[s, x], argTypes := #[28, 28] }) (hs : a.eval s = v) (hx : a.eval x = y)
    (hr : (Builtin.append_ #[28, 28] o.type #[v, y]).run Tryd.prog w = .ok v' w') : (execOp a.eval o).run Tryd.prog w = .ok (.value v') w' := by
  unfold execOp
  simp only [ho, resolve, invoke, builtin, Sem.run_bind, Sem.run_pure, Result.andThen_ok, List.map_toArray, List.map_cons, List.map_nil, hs, hx, hr]

theorem run_stF (a : Act) (w : World) (o : Oper) (p v : Operand) (ad : Addr) (q : Option Addr) (n c : Nat) (old : Value) (ho : o.op = .store 28 p v) (hp : a.eval p = .pointer (some ad)) (hv : a.eval v = .slice q n c) (hc : w.cell? ad = some old) (hf : w.frozen? ad = false) :
    (execOp a.eval o).run Tryd.prog w = .ok .skip (w.setCell ad (.slice q n c)) := by
  generalize a.eval = ρ at *
  simp [execOp, ho, hp, hv, go_sem, Tryd.underlying28, hc, hf]

theorem step_skip {ops : Array Oper} {Q : Exit → Act → World → Prop} {i : Nat} {o : Oper} {K : Act → World → Prop} {a : Act} {w w' : World} (hi : ops[i]? = some o) (hg : o.guard = none)
    (h : (execOp a.eval o).run Tryd.prog w = .ok .skip w') (hK : K (a.put o.dst undef) w') : wpOp Tryd.prog ops Q i K a w := by
  unfold wpOp
  rw [hi]
  have hw : Region.wanted o (yielded ops a.tmps) = true := by unfold Region.wanted; rw [hg]
  simp only [hw, if_true]
  refine .inl ?_
  unfold Oper.wp
  rw [h]
  exact hK

theorem step_called {ops : Array Oper} {Q : Exit → Act → World → Prop} {i : Nat} {o : Oper} {K : Act → World → Prop} {a : Act} {w : World} {f : FuncId} {args : Array Value} {R : Value → World → Prop} (hi : ops[i]? = some o) (hg : o.guard = none)
    (h : (execOp a.eval o).run Tryd.prog w = .ok (.enter f args) w) (hc : Calls Tryd.prog f args w fun e w' => ∃ v, e = .returned v ∧ R v w') (hK : ∀ v w', R v w' → K (a.put o.dst v) w') : wpOp Tryd.prog ops Q i K a w := by
  unfold wpOp
  rw [hi]
  have hw : Region.wanted o (yielded ops a.tmps) = true := by unfold Region.wanted; rw [hg]
  simp only [hw, if_true]
  refine .inl ?_
  unfold Oper.wp
  rw [h, Oper.upon_enter]
  refine hc.mono ?_
  rintro e w' ⟨v, rfl, hR⟩
  exact hK v w' hR

/-- The values of the first seventeen operations. -/
def FV (B gt ct : Nat) (j : Nat) : Value := [Value.pointer (some ⟨B, 0, none⟩), .pointer (some ⟨B, 0, none⟩), .pointer (some ⟨B, 0, none⟩), .pointer (some ⟨B, 0, none⟩), .slice none 0 0, .pointer (some ⟨B, 0, none⟩), .pointer (some ⟨B, 0, none⟩), .pointer (some ⟨B, 0, none⟩), .slice none 0 0, .int .i64 0, (.string (bs [112, 48, 48])), .pointer (some ⟨B, 0, none⟩), .pointer (some ⟨B, 0, none⟩), .pointer (some ⟨B, 1, none⟩), .slice (some ⟨gt, 0, none⟩) 7 ct, (.string (bs [115, 101, 95, 98, 108, 114, 10])), .agg #[(.string (bs [112, 48, 48])), (.string (bs [115, 101, 95, 98, 108, 114, 10]))]].getD j undef

/-- The row of one fragment. -/
def FRow (H g : Nat) (v : World) : Prop := H ≤ g ∧ v.cell? ⟨g, 0, none⟩ = some (.string (bs [112, 48, 48])) ∧ v.cell? ⟨g, 1, none⟩ = some (.string (bs [115, 101, 95, 98, 108, 114, 10]))

theorem FRow.later {H g : Nat} {v v' : World} (h : FRow H g v) (hb : Below v.heap.size v v') : FRow H g v' := ⟨h.1, kept_cell hb h.2.1, kept_cell hb h.2.2⟩

/-- What holds of what is listed so far. -/
def TI (W : World) (B gt ct : Nat) (L : Nat → Bool) (u : Nat → Value) (v : World) : Prop :=
  (L 21 = false ∧ Below W.heap.size W v ∧ (∀ j, j < 17 → L j = true → u j = FV B gt ct j) ∧
    (L 17 = true → ∃ g, u 17 = .slice (some ⟨g, 0, none⟩) 1 1 ∧ FRow W.heap.size g v) ∧
    (L 18 = true → ∃ g cap, u 18 = .slice (some ⟨g, 0, none⟩) 1 cap ∧ FRow W.heap.size g v) ∧
    (L 19 = true → u 19 = .pointer (some ⟨B, 0, none⟩)) ∧ (L 20 = true → u 20 = .pointer (some ⟨B, 0, none⟩) ∧ L 19 = true)) ∨
  ((∀ j, j < 22 → L j = true) ∧ ∃ g cap v0, Below W.heap.size W v0 ∧ FRow W.heap.size g v0 ∧ v = v0.setCell ⟨B, 0, none⟩ (.slice (some ⟨g, 0, none⟩) 1 cap))

theorem TI.put {W : World} {B gt ct : Nat} {L : Nat → Bool} {u : Nat → Value} {v v' : World} (h : TI W B gt ct L u v) (hb : Below v.heap.size v v') (i : Nat) (hi : i < 17) (hL : L i = false) {x : Value} (hx : x = FV B gt ct i) : TI W B gt ct (updL L i) (upd u i x) v' := by
  rcases h with ⟨h0, h1, h2, h3, h4, h5, h6⟩ | ⟨h, _⟩
  · refine .inl ⟨by rw [updL_other _ _ _ (by omega)]; exact h0, h1.trans (hb.mono h1.size), fun j hj hl => ?_, fun hl => ?_, fun hl => ?_, fun hl => ?_, fun hl => ?_⟩
    · by_cases e : j = i
      · subst e; rw [upd_same]; exact hx
      · rw [upd_other _ _ _ _ e]; rw [updL_other _ _ _ e] at hl; exact h2 j hj hl
    · rw [updL_other _ _ _ (by omega)] at hl
      obtain ⟨g, e, hr⟩ := h3 hl
      exact ⟨g, by rw [upd_other _ _ _ _ (by omega)]; exact e, hr.later hb⟩
    · rw [updL_other _ _ _ (by omega)] at hl
      obtain ⟨g, cap, e, hr⟩ := h4 hl
      exact ⟨g, cap, by rw [upd_other _ _ _ _ (by omega)]; exact e, hr.later hb⟩
    · rw [updL_other _ _ _ (by omega)] at hl; rw [upd_other _ _ _ _ (by omega)]; exact h5 hl
    · rw [updL_other _ _ _ (by omega)] at hl; rw [upd_other _ _ _ _ (by omega), updL_other _ _ _ (by omega)]; exact h6 hl
  · have := h i (by omega); rw [hL] at this; cases this

/-- One fragment p00 with the line se_blr. -/
structure Frag1 (B : Nat) (w : World) : Prop where
  full : ∃ g cap, w.cell? ⟨B, 0, none⟩ = some (.slice (some ⟨g, 0, none⟩) 1 cap) ∧ w.cell? ⟨g, 0, none⟩ = some (.string (bs [112, 48, 48])) ∧ w.cell? ⟨g, 1, none⟩ = some (.string (bs [115, 101, 95, 98, 108, 114, 10]))

set_option maxHeartbeats 8000000 in
set_option maxRecDepth 20000 in
theorem turn_page (B : Nat) (w0 w : World) (T : Tab w0) (hB0 : w0.heap.size ≤ B) (hw : Below w0.heap.size w0 w) (h : Page1 B w) :
    Calls Tryd.prog 13 #[.pointer (some ⟨B, 0, none⟩)] w fun e w' => e = .returned (.tuple #[]) ∧ Frag1 B w' ∧ Below B w w' := by
  obtain ⟨h0, ⟨tv, h1, hown⟩, h2, h3, h4⟩ := h
  obtain ⟨gt, ct, cur, rfl, hgt, hblk, hle, hml, hcs, htk⟩ : ∃ g cap cur, tv = .slice (some ⟨g, 0, none⟩) 7 cap ∧ B + 1 ≤ g ∧ w.heap[g]? = some (.cells cur 5 (0, 0)) ∧ 7 ≤ cap ∧ cap ≤ maxLen ∧ cur.size = cap * 1 ∧ cur.toList.take (7 * 1) = blrLf := by
    rcases hown.2 with ⟨_, h⟩ | h
    · cases h
    · exact h
  have hwd : Below w.heap.size w w.drew := ⟨rfl, rfl, rfl, Nat.le_refl _, fun _ _ => rfl⟩
  have gtl : gt < w.heap.size := (hown.lt gt rfl).2
  have Vg : ∀ W, Below w.heap.size w W → (convert 24 9 (.slice (some ⟨gt, 0, none⟩) 7 ct)).run Tryd.prog W = .ok (.string (bs [115, 101, 95, 98, 108, 114, 10])) W := by
    intro W hW
    have h := run_convert_bytes_arg (P := Tryd.prog) W 24 5 Tryd.underlying24 Tryd.underlying5 gt 0 7 ct blrText rfl (fun i hi => by
      have hi7 : i < 7 := hi
      rw [Nat.zero_add]
      refine kept_cell hW ?_
      have hc := hown.cells (g := gt) rfl
      match i, hi7 with
      | 0, _ => simpa [Addr.add, blrText] using hc 0 (.int .u8 115) rfl
      | 1, _ => simpa [Addr.add, blrText] using hc 1 (.int .u8 101) rfl
      | 2, _ => simpa [Addr.add, blrText] using hc 2 (.int .u8 95) rfl
      | 3, _ => simpa [Addr.add, blrText] using hc 3 (.int .u8 98) rfl
      | 4, _ => simpa [Addr.add, blrText] using hc 4 (.int .u8 108) rfl
      | 5, _ => simpa [Addr.add, blrText] using hc 5 (.int .u8 114) rfl
      | 6, _ => simpa [Addr.add, blrText] using hc 6 (.int .u8 10) rfl) 9 Tryd.underlying9
    rw [h]
    rfl
  have V0 := Vg w.drew hwd
  have h0d : w.drew.cell? ⟨B, 0, none⟩ = some (.slice none 0 0) := h0
  have h1d : w.drew.cell? ⟨B, 1, none⟩ = some (.slice (some ⟨gt, 0, none⟩) 7 ct) := h1
  have h2d : w.drew.frozen? ⟨B, 0, none⟩ = false := h2
  have h3d : w.drew.frozen? ⟨B, 1, none⟩ = false := h3
  have h4d : B < w.drew.heap.size := h4
  have hwd' : Below w0.heap.size w0 w.drew := hw.trans (hwd.mono hw.size)
  obtain ⟨i0, hi0, hz0, hz2, hz3⟩ := info_parts info_frag
  have hWs : Hid (w.drew.heap.size = w.heap.size) := rfl
  generalize hWd : w.drew = W at *
  go_enter Tryd.func13, Tryd.ntmps13
  go_wp2_with fail
  refine Orders.region_inv (by kernel_rfl) (fun u => { tmps := #[.pointer (some ⟨B, 0, none⟩), undef, u 0, u 1, u 2, u 3, u 4, u 5, u 6, u 7, u 8, u 9, u 10, u 11, u 12, u 13, u 14, u 15, u 16, u 17, u 18, u 19, u 20, undef, undef, undef, undef, undef, undef, undef, undef], defers := [] }) (TI W B gt ct) (by kernel_rfl) (fun _ => undef) ?_ ?_ ?_
  · exact .inl ⟨rfl, by rw [← hWd]; exact ⟨rfl, rfl, rfl, Nat.le_refl _, fun _ _ => rfl⟩, nofun, nofun, nofun, nofun, nofun⟩
  · intro i o L u v ho hL hp hI
    have hi : i < 22 := by
      by_cases hi : i < 22
      · exact hi
      · rw [Array.getElem?_eq_none (by simp; omega)] at ho; cases ho
    have hbv : Below W.heap.size W v := by
      rcases hI with h | ⟨h, _⟩
      · exact h.2.1
      · have := h i hi; rw [hL] at this; cases this
    have hI2 : ∀ j, j < 17 → L j = true → u j = FV B gt ct j := by
      rcases hI with h | ⟨h, _⟩
      · exact h.2.2.1
      · have := h i hi; rw [hL] at this; cases this
    match i, hi with
    | 0, _ =>
      cases ho
      exact Orders.step_value rfl rfl (run_move _ _ _ _ _ rfl rfl) ⟨_, rfl, hI.put (Below.refl _ _) 0 (by omega) hL rfl⟩
    | 1, _ =>
      cases ho
      exact Orders.step_value rfl rfl (run_move _ _ _ _ _ rfl rfl) ⟨_, rfl, hI.put (Below.refl _ _) 1 (by omega) hL rfl⟩
    | 2, _ =>
      cases ho
      have e0 : u 1 = .pointer (some ⟨B, 0, none⟩) := hI2 1 (by omega) (hp ⟨1, Ground.data⟩ (by simp) rfl)
      exact Orders.step_value rfl rfl (run_nil _ _ _ _ ⟨B, 0, none⟩ rfl e0) ⟨_, rfl, hI.put (Below.refl _ _) 2 (by omega) hL rfl⟩
    | 3, _ =>
      cases ho
      have e0 : u 2 = .pointer (some ⟨B, 0, none⟩) := hI2 2 (by omega) (hp ⟨2, Ground.data⟩ (by simp) rfl)
      exact Orders.step_value rfl rfl (run_fld0 _ _ _ _ B rfl e0) ⟨_, rfl, hI.put (Below.refl _ _) 3 (by omega) hL rfl⟩
    | 4, _ =>
      cases ho
      have e0 : u 3 = .pointer (some ⟨B, 0, none⟩) := hI2 3 (by omega) (hp ⟨3, Ground.data⟩ (by simp) rfl)
      exact Orders.step_value rfl rfl (run_ldF _ _ _ _ ⟨B, 0, none⟩ none 0 0 rfl e0 (kept_cell hbv h0d)) ⟨_, rfl, hI.put (Below.refl _ _) 4 (by omega) hL rfl⟩
    | 5, _ =>
      cases ho
      exact Orders.step_value rfl rfl (run_move _ _ _ _ _ rfl rfl) ⟨_, rfl, hI.put (Below.refl _ _) 5 (by omega) hL rfl⟩
    | 6, _ =>
      cases ho
      have e0 : u 5 = .pointer (some ⟨B, 0, none⟩) := hI2 5 (by omega) (hp ⟨5, Ground.data⟩ (by simp) rfl)
      exact Orders.step_value rfl rfl (run_nil _ _ _ _ ⟨B, 0, none⟩ rfl e0) ⟨_, rfl, hI.put (Below.refl _ _) 6 (by omega) hL rfl⟩
    | 7, _ =>
      cases ho
      have e0 : u 6 = .pointer (some ⟨B, 0, none⟩) := hI2 6 (by omega) (hp ⟨6, Ground.data⟩ (by simp) rfl)
      exact Orders.step_value rfl rfl (run_fld0 _ _ _ _ B rfl e0) ⟨_, rfl, hI.put (Below.refl _ _) 7 (by omega) hL rfl⟩
    | 8, _ =>
      cases ho
      have e0 : u 7 = .pointer (some ⟨B, 0, none⟩) := hI2 7 (by omega) (hp ⟨7, Ground.data⟩ (by simp) rfl)
      exact Orders.step_value rfl rfl (run_ldF _ _ _ _ ⟨B, 0, none⟩ none 0 0 rfl e0 (kept_cell hbv h0d)) ⟨_, rfl, hI.put (Below.refl _ _) 8 (by omega) hL rfl⟩
    | 11, _ =>
      cases ho
      exact Orders.step_value rfl rfl (run_move _ _ _ _ _ rfl rfl) ⟨_, rfl, hI.put (Below.refl _ _) 11 (by omega) hL rfl⟩
    | 12, _ =>
      cases ho
      have e0 : u 11 = .pointer (some ⟨B, 0, none⟩) := hI2 11 (by omega) (hp ⟨11, Ground.data⟩ (by simp) rfl)
      exact Orders.step_value rfl rfl (run_nil _ _ _ _ ⟨B, 0, none⟩ rfl e0) ⟨_, rfl, hI.put (Below.refl _ _) 12 (by omega) hL rfl⟩
    | 13, _ =>
      cases ho
      have e0 : u 12 = .pointer (some ⟨B, 0, none⟩) := hI2 12 (by omega) (hp ⟨12, Ground.data⟩ (by simp) rfl)
      exact Orders.step_value rfl rfl (run_fld1 _ _ _ _ B rfl e0) ⟨_, rfl, hI.put (Below.refl _ _) 13 (by omega) hL rfl⟩
    | 14, _ =>
      cases ho
      have e0 : u 13 = .pointer (some ⟨B, 1, none⟩) := hI2 13 (by omega) (hp ⟨13, Ground.data⟩ (by simp) rfl)
      exact Orders.step_value rfl rfl (run_ldB _ _ _ _ ⟨B, 1, none⟩ (some ⟨gt, 0, none⟩) 7 ct rfl e0 (kept_cell hbv h1d)) ⟨_, rfl, hI.put (Below.refl _ _) 14 (by omega) hL rfl⟩
    | 9, _ =>
      cases ho
      have e0 : u 8 = .slice none 0 0 := hI2 8 (by omega) (hp ⟨8, Ground.data⟩ (by simp) rfl)
      exact Orders.step_value rfl rfl (run_lenF _ _ _ _ none 0 0 rfl e0) ⟨_, rfl, hI.put (Below.refl _ _) 9 (by omega) hL rfl⟩
    | 10, _ =>
      cases ho
      have e0 : u 9 = .int .i64 0 := hI2 9 (by omega) (hp ⟨9, Ground.data⟩ (by simp) rfl)
      refine step_called (R := fun x v' => x = (.string (bs [112, 48, 48])) ∧ Below v.heap.size v v') rfl rfl (run_callName _ _ _ _ _ _ rfl e0) ((nameOf_zero v (T.later (hwd'.trans (hbv.mono hwd'.size)))).mono fun e v' h => ⟨_, h.1, rfl, h.2⟩) ?_
      rintro x v' ⟨rfl, hb⟩
      exact ⟨_, rfl, hI.put hb 10 (by omega) hL rfl⟩
    | 15, _ =>
      cases ho
      have e0 : u 14 = .slice (some ⟨gt, 0, none⟩) 7 ct := hI2 14 (by omega) (hp ⟨14, Ground.data⟩ (by simp) rfl)
      exact Orders.step_value rfl rfl (run_conv _ _ _ _ _ _ rfl e0 (Vg v (hwd.trans (hbv.mono (Nat.le_of_eq hWs.out.symm))))) ⟨_, rfl, hI.put (Below.refl _ _) 15 (by omega) hL rfl⟩
    | 16, _ =>
      cases ho
      have e0 : u 10 = .string (bs [112, 48, 48]) := hI2 10 (by omega) (hp ⟨10, Ground.data⟩ (by simp) rfl)
      have e1 : u 15 = .string (bs [115, 101, 95, 98, 108, 114, 10]) := hI2 15 (by omega) (hp ⟨15, Ground.data⟩ (by simp) rfl)
      exact Orders.step_value rfl rfl (run_bF _ _ _ _ _ _ _ rfl e0 e1) ⟨_, rfl, hI.put (Below.refl _ _) 16 (by omega) hL rfl⟩
    | 17, _ =>
      cases ho
      have e0 : u 16 = .agg #[(.string (bs [112, 48, 48])), (.string (bs [115, 101, 95, 98, 108, 114, 10]))] := hI2 16 (by omega) (hp ⟨16, Ground.data⟩ (by simp) rfl)
      refine Orders.step_value rfl rfl (run_bS _ _ _ _ _ _ rfl e0) ⟨_, rfl, ?_⟩
      have ha : Below v.heap.size v (v.alloc (.cells #[(.string (bs [112, 48, 48])), (.string (bs [115, 101, 95, 98, 108, 114, 10]))] 31)) := (Below.refl _ _).alloc (Nat.le_refl _) _
      rcases hI with ⟨q0, q1, q2, q3, q4, q5, q6⟩ | ⟨q, _⟩
      · refine .inl ⟨q0, q1.trans (ha.mono q1.size), fun j hj hl => by rw [upd_other _ _ _ _ (by omega)]; rw [updL_other _ _ _ (by omega)] at hl; exact q2 j hj hl, fun _ => ⟨v.heap.size, rfl, q1.size, new_cell _ 0 _ rfl, new_cell _ 1 _ rfl⟩, fun hl => ?_, q5, q6⟩
        obtain ⟨g, cap, e, hr⟩ := q4 hl
        exact ⟨g, cap, e, hr.later ha⟩
      · have := q 17 (by omega); rw [hL] at this; cases this
    | 18, _ =>
      cases ho
      have e0 : u 4 = .slice none 0 0 := hI2 4 (by omega) (hp ⟨4, Ground.data⟩ (by simp) rfl)
      rcases hI with ⟨q0, q1, q2, q3, q4, q5, q6⟩ | ⟨q, _⟩
      · obtain ⟨g, eg, hg⟩ := q3 (hp ⟨17, Ground.data⟩ (by simp) rfl)
        obtain ⟨x, v', hr, ho2, hgr, _⟩ := run_append_own (P := Tryd.prog) (w := v) v.heap.size 28 28 31 i0 _ 2 32 Tryd.underlying28 hi0 hz0 hz2 hz3 rfl (by omega) (.slice none 0 0) 0 [] (World.ownsRow_nil _ _ _ _) ⟨g, 0, none⟩ 1 1 [(.string (bs [112, 48, 48])), (.string (bs [115, 101, 95, 98, 108, 114, 10]))] rfl (fun j y hy => by
          match j, hy with
          | 0, hy => cases hy; simpa [Addr.add] using hg.2.1
          | 1, hy => cases hy; simpa [Addr.add] using hg.2.2) (by simp [Value.oneCell']) (by unfold maxLen; omega) (by omega) (Nat.le_refl _)
        have hbe : Below v.heap.size v v' := ⟨hgr.os, hgr.tape, hgr.output, hgr.size, fun k hk => hgr.block k hk (by simp [Value.ownBlock])⟩
        obtain ⟨g2, cap2, rfl, hge2, hc2⟩ : ∃ g2 cap2, x = .slice (some ⟨g2, 0, none⟩) 1 cap2 ∧ v.heap.size ≤ g2 ∧ FRow W.heap.size g2 v' := by
          rcases ho2.2 with ⟨_, h⟩ | ⟨g2, cap2, cur, rfl, hb2, _⟩
          · cases h
          · refine ⟨g2, cap2, rfl, hb2, Nat.le_trans q1.size hb2, ?_, ?_⟩
            · simpa [Addr.add] using ho2.cells (g := g2) rfl 0 _ rfl
            · simpa [Addr.add] using ho2.cells (g := g2) rfl 1 _ rfl
        refine Orders.step_value rfl rfl (run_app2 _ _ _ _ _ _ _ _ _ rfl e0 eg hr) ⟨_, rfl, ?_⟩
        refine .inl ⟨q0, q1.trans (hbe.mono q1.size), fun j hj hl => by rw [upd_other _ _ _ _ (by omega)]; rw [updL_other _ _ _ (by omega)] at hl; exact q2 j hj hl, fun hl => ⟨g, eg, hg.later hbe⟩, fun _ => ⟨g2, cap2, rfl, hc2⟩, q5, q6⟩
      · have := q 18 (by omega); rw [hL] at this; cases this
    | 19, _ =>
      cases ho
      rcases hI with ⟨q0, q1, q2, q3, q4, q5, q6⟩ | ⟨q, _⟩
      · have e0 : u 0 = .pointer (some ⟨B, 0, none⟩) := q2 0 (by omega) (hp ⟨0, Ground.data⟩ (by simp) rfl)
        exact Orders.step_value rfl rfl (run_nil _ _ _ _ ⟨B, 0, none⟩ rfl e0) ⟨_, rfl, .inl ⟨q0, q1, fun j hj hl => by rw [upd_other _ _ _ _ (by omega)]; rw [updL_other _ _ _ (by omega)] at hl; exact q2 j hj hl, q3, q4, fun _ => rfl, fun hl => ⟨(q6 hl).1, rfl⟩⟩⟩
      · have := q 19 (by omega); rw [hL] at this; cases this
    | 20, _ =>
      cases ho
      rcases hI with ⟨q0, q1, q2, q3, q4, q5, q6⟩ | ⟨q, _⟩
      · have e0 : u 19 = .pointer (some ⟨B, 0, none⟩) := q5 (hp ⟨19, Ground.data⟩ (by simp) rfl)
        exact Orders.step_value rfl rfl (run_fld0 _ _ _ _ B rfl e0) ⟨_, rfl, .inl ⟨q0, q1, fun j hj hl => by rw [upd_other _ _ _ _ (by omega)]; rw [updL_other _ _ _ (by omega)] at hl; exact q2 j hj hl, q3, q4, q5, fun _ => ⟨rfl, hp ⟨19, Ground.data⟩ (by simp) rfl⟩⟩⟩
      · have := q 20 (by omega); rw [hL] at this; cases this
    | 21, _ =>
      cases ho
      rcases hI with ⟨q0, q1, q2, q3, q4, q5, q6⟩ | ⟨q, _⟩
      · obtain ⟨e0, hL19⟩ := q6 (hp ⟨20, Ground.data⟩ (by simp) rfl)
        obtain ⟨g, cap, eg, hg⟩ := q4 (hp ⟨18, Ground.data⟩ (by simp) rfl)
        refine step_skip rfl rfl (run_stF _ _ _ _ _ ⟨B, 0, none⟩ (some ⟨g, 0, none⟩) 1 cap (.slice none 0 0) rfl e0 eg (kept_cell hbv h0d) (kept_thawed hbv h4d h2d)) ⟨undef, rfl, .inr ⟨fun j hj => ?_, g, cap, v, q1, hg, rfl⟩⟩
        by_cases ej : j = 21
        · subst ej; exact updL_same _ _
        · rw [updL_other _ _ _ ej]
          by_cases e20 : j = 20
          · subst e20; exact hp ⟨20, Ground.data⟩ (by simp) rfl
          · by_cases e19 : j = 19
            · subst e19
              exact hL19
            · exact hp ⟨j, Ground.phase⟩ (by simp; omega) rfl
      · have := q 21 (by omega); rw [hL] at this; cases this
  · intro L u v hall hI
    rcases hI with ⟨h, _⟩ | ⟨_, g, cap, v0, hb0, hF, rfl⟩
    · have := hall 21 (by decide); rw [h] at this; cases this
    · have hs : W.heap.size = w.heap.size := hWs.out
      have hBW : B < W.heap.size := by omega
      have d1 := kept_cell hb0 h1d
      have t1 := kept_thawed hb0 hBW h3d
      have t0 := kept_thawed hb0 hBW h2d
      have d0 := kept_cell hb0 h0d
      have hbx : Below B w v0 := by
        have := hb0.mono (Nat.le_of_lt hBW)
        rw [← hWd] at this
        exact (⟨rfl, rfl, rfl, Nat.le_refl _, fun _ _ => rfl⟩ : Below B w w.drew).trans this
      obtain ⟨hF1, hF2, hF3⟩ := hF
      have hgB : g ≠ B := by omega
      have e1 : (v0.setCell ⟨B, 0, none⟩ (.slice (some ⟨g, 0, none⟩) 1 cap)).cell? ⟨B, 1, none⟩ = some (.slice (some ⟨gt, 0, none⟩) 7 ct) := by rw [World.cell?_setCell_other _ _ _ _ (by simp)]; exact d1
      have e2 : (v0.setCell ⟨B, 0, none⟩ (.slice (some ⟨g, 0, none⟩) 1 cap)).cell? ⟨B, 0, none⟩ = some (.slice (some ⟨g, 0, none⟩) 1 cap) := World.cell?_setCell_same _ _ _ d0
      have e3 : (v0.setCell ⟨B, 0, none⟩ (.slice (some ⟨g, 0, none⟩) 1 cap)).frozen? ⟨B, 1, none⟩ = false := by rw [World.frozen?_setCell]; exact t1
      have e4 : (v0.setCell ⟨B, 0, none⟩ (.slice (some ⟨g, 0, none⟩) 1 cap)).cell? ⟨g, 0, none⟩ = some (.string (bs [112, 48, 48])) := by rw [World.cell?_setCell_other _ _ _ _ (by first | (simp; done) | (simp; omega))]; exact hF2
      have e5 : (v0.setCell ⟨B, 0, none⟩ (.slice (some ⟨g, 0, none⟩) 1 cap)).cell? ⟨g, 1, none⟩ = some (.string (bs [115, 101, 95, 98, 108, 114, 10])) := by rw [World.cell?_setCell_other _ _ _ _ (by simp)]; exact hF3
      have hbe := hbx.setCell (p := ⟨B, 0, none⟩) (Nat.le_refl _) (.slice (some ⟨g, 0, none⟩) 1 cap)
      clear Vg V0 h0d h1d h2d h3d h4d hs hWs hwd hw hwd' hWd hb0 d1 t1 t0 d0 h0 h1 h2 h3 hown hblk hcs htk hall
      generalize v0.setCell ⟨B, 0, none⟩ (.slice (some ⟨g, 0, none⟩) 1 cap) = v1 at *
      go_wp2
      go_end0
      refine ⟨rfl, ⟨g, cap, by rw [World.cell?_setCell_other _ _ _ _ (by simp)]; exact e2, ?_, ?_⟩, hbe.setCell (Nat.le_refl _) _⟩
      · rw [World.cell?_setCell_other _ _ _ _ (by simp)]; exact e4
      · rw [World.cell?_setCell_other _ _ _ _ (by first | (simp; done) | (simp; omega))]; exact e5
end Go.Proofs.YtagplfochalidabDoor
