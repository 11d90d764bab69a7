/- For every input the law ImmBytes returns true: what may be written so by Sci8 has three bytes of its four that are all 0, or all 255, and what has may. -/
import Derived.Test.YtlamikchacplmabRows
import Derived.WalkKit
import Derived.ProofKit
import Derived.OpenShut
import Derived.Test.YtlamikchacplmabSteps
import Derived.Test.YtlamikchacplmabBytes
namespace Go.Proofs.Ytlamikchacplmab.immBytes
open Plain
open Go.ChangeShapes Go.WideShapes Go.ChangeAt Go.RowKit
set_option linter.unusedVariables false

theorem own : ownKnob Try.prog.godebug = none := by kernel_rfl

/-- The number that is taken of 0, 255 and a. -/
def sel (a : Int) : Int := if a % 3 = 0 then 0 else if a % 3 = 1 then 255 else a

/-- What operation number m of one element yields. -/
def chain (a : Int) (m : Nat) (v : Value) (w : World) : Prop :=
  if m = 1 then ∃ g : Nat, v = .slice (some ⟨g, 0, none⟩) 3 3 ∧ w.cell? ⟨g, 0, none⟩ = some (.int .i64 0) ∧ w.cell? ⟨g, 1, none⟩ = some (.int .i64 255) ∧ w.cell? ⟨g, 2, none⟩ = some (.int .i64 a)
  else if m = 3 then v = .int .i64 (a % 3)
  else if m = 4 then ∃ g k : Nat, v = .pointer (some ⟨g, k, none⟩) ∧ w.cell? ⟨g, k, none⟩ = some (.int .i64 (sel a))
  else if m = 5 then v = .int .i64 (sel a)
  else if m = 6 then v = .int .i64 (sel a % 256)
  else v = .int .i64 a

/-- A slice of the four. -/
def four4 (a0 a1 a2 a3 : Int) (v : Value) (w : World) : Prop :=
  ∃ g : Nat, v = .slice (some ⟨g, 0, none⟩) 4 4 ∧ w.cell? ⟨g, 0, none⟩ = some (.int .i64 (sel a0 % 256)) ∧ w.cell? ⟨g, 1, none⟩ = some (.int .i64 (sel a1 % 256)) ∧ w.cell? ⟨g, 2, none⟩ = some (.int .i64 (sel a2 % 256)) ∧ w.cell? ⟨g, 3, none⟩ = some (.int .i64 (sel a3 % 256))

def RR (a0 a1 a2 a3 : Int) (j : Nat) (v : Value) (w : World) : Prop :=
  if j < 7 then chain a0 j v w else if j < 14 then chain a1 (j - 7) v w else if j < 21 then chain a2 (j - 14) v w else if j < 28 then chain a3 (j - 21) v w else four4 a0 a1 a2 a3 v w

theorem chain_stays {a : Int} {m : Nat} {v : Value} {w w' : World} (hc : ∀ p x, w.cell? p = some x → w'.cell? p = some x) (h : chain a m v w) : chain a m v w' := by
  unfold chain at h ⊢
  split at h
  · obtain ⟨g, e, h0, h1, h2⟩ := h
    rename_i hm
    rw [if_pos hm]
    exact ⟨g, e, hc _ _ h0, hc _ _ h1, hc _ _ h2⟩
  · rename_i hm
    rw [if_neg hm]
    split at h
    · rename_i hm3; rw [if_pos hm3]; exact h
    · rename_i hm3
      rw [if_neg hm3]
      split at h
      · rename_i hm4
        obtain ⟨g, k, e, h0⟩ := h
        rw [if_pos hm4]
        exact ⟨g, k, e, hc _ _ h0⟩
      · rename_i hm4; rw [if_neg hm4]; exact h

theorem RR_stays {a0 a1 a2 a3 : Int} {j : Nat} {v : Value} {w w' : World} (hc : ∀ p x, w.cell? p = some x → w'.cell? p = some x) (h : RR a0 a1 a2 a3 j v w) : RR a0 a1 a2 a3 j v w' := by
  unfold RR at h ⊢
  split at h
  · rename_i hm; rw [if_pos hm]; exact chain_stays hc h
  · rename_i hm
    rw [if_neg hm]
    split at h
    · rename_i hm; rw [if_pos hm]; exact chain_stays hc h
    · rename_i hm
      rw [if_neg hm]
      split at h
      · rename_i hm; rw [if_pos hm]; exact chain_stays hc h
      · rename_i hm
        rw [if_neg hm]
        split at h
        · rename_i hm; rw [if_pos hm]; exact chain_stays hc h
        · rename_i hm
          rw [if_neg hm]
          obtain ⟨g, e, h0, h1, h2, h3⟩ := h
          exact ⟨g, e, hc _ _ h0, hc _ _ h1, hc _ _ h2, hc _ _ h3⟩

theorem lt30 (i : Nat) (h : i < 30) : i = 0 ∨ i = 1 ∨ i = 2 ∨ i = 3 ∨ i = 4 ∨ i = 5 ∨ i = 6 ∨ i = 7 ∨ i = 8 ∨ i = 9 ∨ i = 10 ∨ i = 11 ∨ i = 12 ∨ i = 13 ∨ i = 14 ∨ i = 15 ∨ i = 16 ∨ i = 17 ∨ i = 18 ∨ i = 19 ∨ i = 20 ∨ i = 21 ∨ i = 22 ∨ i = 23 ∨ i = 24 ∨ i = 25 ∨ i = 26 ∨ i = 27 ∨ i = 28 ∨ i = 29 := by omega

theorem cell_at (w : World) (cs : Array Value) (t : TypeId) (j : Nat) {v : Value} (h : cs[j]? = some v) : (w.alloc (.cells cs t)).cell? ⟨w.heap.size, j, none⟩ = some v := by
  rw [World.cell?_alloc_new]; exact h

theorem cell_kept (w : World) (o : Obj) : ∀ p v, w.cell? p = some v → (w.alloc o).cell? p = some v := by
  intro p v h
  rw [World.cell?_alloc_lt _ _ _ (World.block_lt_of_cell? w p h)]
  exact h

theorem sel_cell {w : World} {g : Nat} {a : Int} (c0 : w.cell? ⟨g, 0, none⟩ = some (.int .i64 0)) (c1 : w.cell? ⟨g, 1, none⟩ = some (.int .i64 255)) (c2 : w.cell? ⟨g, 2, none⟩ = some (.int .i64 a)) :
    w.cell? ⟨g, (a % 3).toNat, none⟩ = some (.int .i64 (sel a)) := by
  have h : a % 3 = 0 ∨ a % 3 = 1 ∨ a % 3 = 2 := by omega
  unfold sel
  rcases h with h | h | h <;> simp [h, c0, c1, c2]

/-! ### The walk -/
theorem walk (a0 : Int) (a1 : Int) (a2 : Int) (a3 : Int) (w0 : (Lit.int .i64 a0).wf = true) (w1 : (Lit.int .i64 a1).wf = true) (w2 : (Lit.int .i64 a2).wf = true) (w3 : (Lit.int .i64 a3).wf = true) (w : World) :
    Calls Try.prog 4 #[.int .i64 a0, .int .i64 a1, .int .i64 a2, .int .i64 a3] w fun e w' => e = .returned (.bool true) ∧ Below w.heap.size w w' := by
  go_enter Try.func4, Try.ntmps4
  go_wp2_with fail
  refine (known_true _).mono ?_
  rintro e w' ⟨rfl, n0, rfl⟩
  have G : Hid (Below w.heap.size w (w.drewN n0)) := below_drewN (Below.refl _ _) _
  have G1 : Hid (w.heap.size ≤ (w.drewN n0).heap.size) := Nat.le_refl _
  generalize w.drewN n0 = wk at *
  go_wp2_with fail
  refine Orders.region_by (by kernel_rfl) (fun u => { tmps := #[.int .i64 a0, .int .i64 a1, .int .i64 a2, .int .i64 a3, undef, undef, undef, undef, .bool false, u 29, undef, undef, undef, undef, undef, undef, undef, undef, .bool true, .bool false, u 0, u 1, u 2, u 3, u 4, u 5, u 6, u 7, u 8, u 9, u 10, u 11, u 12, u 13, u 14, u 15, u 16, u 17, u 18, u 19, u 20, u 21, u 22, u 23, u 24, u 25, u 26, u 27, u 28, undef, undef, undef, undef, undef, undef, undef, undef, undef, undef, undef, undef, undef, undef, undef, undef, undef, undef, undef, undef, undef, undef, undef, undef, undef, undef, undef, undef, undef, undef, undef, undef, undef, undef, undef, undef, undef, undef, undef, undef, undef], defers := [] }) (RR a0 a1 a2 a3) (fun x => Below w.heap.size w x ∧ w.heap.size ≤ x.heap.size) (by kernel_rfl) (fun _ => undef) ⟨below_drewN G.out 1, G1.out⟩ ?_ ?_
  · intro i o u x ho hS hp
    have hi : i < 30 := by
      rcases Nat.lt_or_ge i 30 with h | h
      · exact h
      · rw [Array.getElem?_eq_none (by simpa using h)] at ho
        exact absurd ho (by simp)
    rcases lt30 i hi with rfl | rfl | rfl | rfl | rfl | rfl | rfl | rfl | rfl | rfl | rfl | rfl | rfl | rfl | rfl | rfl | rfl | rfl | rfl | rfl | rfl | rfl | rfl | rfl | rfl | rfl | rfl | rfl | rfl | rfl
    · cases ho
      refine Orders.step_value rfl rfl (BigFrame.run_move _ rfl _) ?_
      exact ⟨_, rfl, hS, rfl, fun _ _ h => h⟩
    · cases ho
      have p0 : u 0 = .int .i64 a0 := hp ⟨0, .data⟩ (by simp) rfl
      exact Orders.step_value rfl rfl (run_build3 _ _ _ 20 0 255 a0 rfl p0) ⟨_, rfl, ⟨Below.alloc hS.1 hS.2 _, by simp; omega⟩, ⟨x.heap.size, rfl, cell_at _ _ _ _ rfl, cell_at _ _ _ _ rfl, cell_at _ _ _ _ rfl⟩, fun _ _ h => RR_stays (cell_kept _ _) h⟩
    · cases ho
      refine Orders.step_value rfl rfl (BigFrame.run_move _ rfl _) ?_
      exact ⟨_, rfl, hS, rfl, fun _ _ h => h⟩
    · cases ho
      have p0 : u 2 = .int .i64 a0 := hp ⟨2, .data⟩ (by simp) rfl
      exact Orders.step_call (w' := x) rfl rfl (run_callWithin _ _ _ 22 a0 3 _ rfl p0) (within_any a0 3 (by omega) (by omega) _) ⟨_, rfl, hS, rfl, fun _ _ h => h⟩
    · cases ho
      obtain ⟨g, p0, c0, c1, c2⟩ : chain a0 1 (u 1) x := hp ⟨1, .data⟩ (by simp) rfl
      have p1 : u 3 = .int .i64 (a0 % 3) := hp ⟨3, .data⟩ (by simp) rfl
      exact Orders.step_value rfl rfl (run_index _ _ _ 21 23 g 3 (a0 % 3) rfl p0 p1 (by omega) (by omega)) ⟨_, rfl, hS, ⟨g, _, rfl, sel_cell c0 c1 c2⟩, fun _ _ h => h⟩
    · cases ho
      obtain ⟨g, q, p0, c0⟩ : chain a0 4 (u 4) x := hp ⟨4, .data⟩ (by simp) rfl
      exact Orders.step_value rfl rfl (run_load1 _ _ _ 24 _ (sel a0) rfl p0 c0) ⟨_, rfl, hS, rfl, fun _ _ h => h⟩
    · cases ho
      have p0 : u 5 = .int .i64 (sel a0) := hp ⟨5, .data⟩ (by simp) rfl
      exact Orders.step_value rfl rfl (run_and255 _ _ _ 25 (sel a0) rfl p0) ⟨_, rfl, hS, rfl, fun _ _ h => h⟩
    · cases ho
      refine Orders.step_value rfl rfl (BigFrame.run_move _ rfl _) ?_
      exact ⟨_, rfl, hS, rfl, fun _ _ h => h⟩
    · cases ho
      have p0 : u 7 = .int .i64 a1 := hp ⟨7, .data⟩ (by simp) rfl
      exact Orders.step_value rfl rfl (run_build3 _ _ _ 27 0 255 a1 rfl p0) ⟨_, rfl, ⟨Below.alloc hS.1 hS.2 _, by simp; omega⟩, ⟨x.heap.size, rfl, cell_at _ _ _ _ rfl, cell_at _ _ _ _ rfl, cell_at _ _ _ _ rfl⟩, fun _ _ h => RR_stays (cell_kept _ _) h⟩
    · cases ho
      refine Orders.step_value rfl rfl (BigFrame.run_move _ rfl _) ?_
      exact ⟨_, rfl, hS, rfl, fun _ _ h => h⟩
    · cases ho
      have p0 : u 9 = .int .i64 a1 := hp ⟨9, .data⟩ (by simp) rfl
      exact Orders.step_call (w' := x) rfl rfl (run_callWithin _ _ _ 29 a1 3 _ rfl p0) (within_any a1 3 (by omega) (by omega) _) ⟨_, rfl, hS, rfl, fun _ _ h => h⟩
    · cases ho
      obtain ⟨g, p0, c0, c1, c2⟩ : chain a1 1 (u 8) x := hp ⟨8, .data⟩ (by simp) rfl
      have p1 : u 10 = .int .i64 (a1 % 3) := hp ⟨10, .data⟩ (by simp) rfl
      exact Orders.step_value rfl rfl (run_index _ _ _ 28 30 g 3 (a1 % 3) rfl p0 p1 (by omega) (by omega)) ⟨_, rfl, hS, ⟨g, _, rfl, sel_cell c0 c1 c2⟩, fun _ _ h => h⟩
    · cases ho
      obtain ⟨g, q, p0, c0⟩ : chain a1 4 (u 11) x := hp ⟨11, .data⟩ (by simp) rfl
      exact Orders.step_value rfl rfl (run_load1 _ _ _ 31 _ (sel a1) rfl p0 c0) ⟨_, rfl, hS, rfl, fun _ _ h => h⟩
    · cases ho
      have p0 : u 12 = .int .i64 (sel a1) := hp ⟨12, .data⟩ (by simp) rfl
      exact Orders.step_value rfl rfl (run_and255 _ _ _ 32 (sel a1) rfl p0) ⟨_, rfl, hS, rfl, fun _ _ h => h⟩
    · cases ho
      refine Orders.step_value rfl rfl (BigFrame.run_move _ rfl _) ?_
      exact ⟨_, rfl, hS, rfl, fun _ _ h => h⟩
    · cases ho
      have p0 : u 14 = .int .i64 a2 := hp ⟨14, .data⟩ (by simp) rfl
      exact Orders.step_value rfl rfl (run_build3 _ _ _ 34 0 255 a2 rfl p0) ⟨_, rfl, ⟨Below.alloc hS.1 hS.2 _, by simp; omega⟩, ⟨x.heap.size, rfl, cell_at _ _ _ _ rfl, cell_at _ _ _ _ rfl, cell_at _ _ _ _ rfl⟩, fun _ _ h => RR_stays (cell_kept _ _) h⟩
    · cases ho
      refine Orders.step_value rfl rfl (BigFrame.run_move _ rfl _) ?_
      exact ⟨_, rfl, hS, rfl, fun _ _ h => h⟩
    · cases ho
      have p0 : u 16 = .int .i64 a2 := hp ⟨16, .data⟩ (by simp) rfl
      exact Orders.step_call (w' := x) rfl rfl (run_callWithin _ _ _ 36 a2 3 _ rfl p0) (within_any a2 3 (by omega) (by omega) _) ⟨_, rfl, hS, rfl, fun _ _ h => h⟩
    · cases ho
      obtain ⟨g, p0, c0, c1, c2⟩ : chain a2 1 (u 15) x := hp ⟨15, .data⟩ (by simp) rfl
      have p1 : u 17 = .int .i64 (a2 % 3) := hp ⟨17, .data⟩ (by simp) rfl
      exact Orders.step_value rfl rfl (run_index _ _ _ 35 37 g 3 (a2 % 3) rfl p0 p1 (by omega) (by omega)) ⟨_, rfl, hS, ⟨g, _, rfl, sel_cell c0 c1 c2⟩, fun _ _ h => h⟩
    · cases ho
      obtain ⟨g, q, p0, c0⟩ : chain a2 4 (u 18) x := hp ⟨18, .data⟩ (by simp) rfl
      exact Orders.step_value rfl rfl (run_load1 _ _ _ 38 _ (sel a2) rfl p0 c0) ⟨_, rfl, hS, rfl, fun _ _ h => h⟩
    · cases ho
      have p0 : u 19 = .int .i64 (sel a2) := hp ⟨19, .data⟩ (by simp) rfl
      exact Orders.step_value rfl rfl (run_and255 _ _ _ 39 (sel a2) rfl p0) ⟨_, rfl, hS, rfl, fun _ _ h => h⟩
    · cases ho
      refine Orders.step_value rfl rfl (BigFrame.run_move _ rfl _) ?_
      exact ⟨_, rfl, hS, rfl, fun _ _ h => h⟩
    · cases ho
      have p0 : u 21 = .int .i64 a3 := hp ⟨21, .data⟩ (by simp) rfl
      exact Orders.step_value rfl rfl (run_build3 _ _ _ 41 0 255 a3 rfl p0) ⟨_, rfl, ⟨Below.alloc hS.1 hS.2 _, by simp; omega⟩, ⟨x.heap.size, rfl, cell_at _ _ _ _ rfl, cell_at _ _ _ _ rfl, cell_at _ _ _ _ rfl⟩, fun _ _ h => RR_stays (cell_kept _ _) h⟩
    · cases ho
      refine Orders.step_value rfl rfl (BigFrame.run_move _ rfl _) ?_
      exact ⟨_, rfl, hS, rfl, fun _ _ h => h⟩
    · cases ho
      have p0 : u 23 = .int .i64 a3 := hp ⟨23, .data⟩ (by simp) rfl
      exact Orders.step_call (w' := x) rfl rfl (run_callWithin _ _ _ 43 a3 3 _ rfl p0) (within_any a3 3 (by omega) (by omega) _) ⟨_, rfl, hS, rfl, fun _ _ h => h⟩
    · cases ho
      obtain ⟨g, p0, c0, c1, c2⟩ : chain a3 1 (u 22) x := hp ⟨22, .data⟩ (by simp) rfl
      have p1 : u 24 = .int .i64 (a3 % 3) := hp ⟨24, .data⟩ (by simp) rfl
      exact Orders.step_value rfl rfl (run_index _ _ _ 42 44 g 3 (a3 % 3) rfl p0 p1 (by omega) (by omega)) ⟨_, rfl, hS, ⟨g, _, rfl, sel_cell c0 c1 c2⟩, fun _ _ h => h⟩
    · cases ho
      obtain ⟨g, q, p0, c0⟩ : chain a3 4 (u 25) x := hp ⟨25, .data⟩ (by simp) rfl
      exact Orders.step_value rfl rfl (run_load1 _ _ _ 45 _ (sel a3) rfl p0 c0) ⟨_, rfl, hS, rfl, fun _ _ h => h⟩
    · cases ho
      have p0 : u 26 = .int .i64 (sel a3) := hp ⟨26, .data⟩ (by simp) rfl
      exact Orders.step_value rfl rfl (run_and255 _ _ _ 46 (sel a3) rfl p0) ⟨_, rfl, hS, rfl, fun _ _ h => h⟩
    · cases ho
      have p0 : u 6 = .int .i64 (sel a0 % 256) := hp ⟨6, .data⟩ (by simp) rfl
      have p1 : u 13 = .int .i64 (sel a1 % 256) := hp ⟨13, .data⟩ (by simp) rfl
      have p2 : u 20 = .int .i64 (sel a2 % 256) := hp ⟨20, .data⟩ (by simp) rfl
      have p3 : u 27 = .int .i64 (sel a3 % 256) := hp ⟨27, .data⟩ (by simp) rfl
      exact Orders.step_value rfl rfl (run_build4 _ _ _ 26 33 40 47 _ _ _ _ rfl p0 p1 p2 p3) ⟨_, rfl, ⟨Below.alloc hS.1 hS.2 _, by simp; omega⟩, ⟨x.heap.size, rfl, cell_at _ _ _ _ rfl, cell_at _ _ _ _ rfl, cell_at _ _ _ _ rfl, cell_at _ _ _ _ rfl⟩, fun _ _ h => RR_stays (cell_kept _ _) h⟩
    · cases ho
      have p0 : four4 a0 a1 a2 a3 (u 28) x := hp ⟨28, .data⟩ (by simp) rfl
      refine Orders.step_value rfl rfl (BigFrame.run_assign _ rfl _) ?_
      exact ⟨_, rfl, hS, p0, fun _ _ h => h⟩
  · intro u x hS hR
    obtain ⟨g, hg, c0, c1, c2, c3⟩ : four4 a0 a1 a2 a3 (u 29) x := hR 29 (by simp)
    have HS : Hid (Below w.heap.size w x) := hS.1
    clear hS hR G G1
    have b0 : 0 ≤ sel a0 % 256 ∧ sel a0 % 256 ≤ 255 := by omega
    have b1 : 0 ≤ sel a1 % 256 ∧ sel a1 % 256 ≤ 255 := by omega
    have b2 : 0 ≤ sel a2 % 256 ∧ sel a2 % 256 ≤ 255 := by omega
    have b3 : 0 ≤ sel a3 % 256 ∧ sel a3 % 256 ≤ 255 := by omega
    generalize sel a0 % 256 = y0 at *
    generalize sel a1 % 256 = y1 at *
    generalize sel a2 % 256 = y2 at *
    generalize sel a3 % 256 = y3 at *
    have hcell : ∀ j : Nat, j < 4 → x.cell? ⟨g, j, none⟩ = some (.int .i64 (nth4 y0 y1 y2 y3 j)) := by
      intro j hj
      match j, hj with
      | 0, _ => exact c0
      | 1, _ => exact c1
      | 2, _ => exact c2
      | 3, _ => exact c3
    have hbd : ∀ j : Nat, 0 ≤ nth4 y0 y1 y2 y3 j ∧ nth4 y0 y1 y2 y3 j ≤ 255 := nth4_bounds y0 y1 y2 y3 b0.1 b0.2 b1.1 b1.2 b2.1 b2.2 b3.1 b3.2
    have HL : Hid (∀ j : Nat, j ≤ 3 → 0 ≤ laidUp y0 y1 y2 y3 j ∧ laidUp y0 y1 y2 y3 j ≤ 16777215) := laidUp_bounds y0 y1 y2 y3 b0.1 b0.2 b1.1 b1.2 b2.1 b2.2
    have HW : Hid ((sciP (signP (laidUp y0 y1 y2 y3 4) 32)).2.2.2 = (decide (3 ≤ howMany y0 y1 y2 y3 0 4) || decide (3 ≤ howMany y0 y1 y2 y3 255 4))) := bytes_law y0 y1 y2 y3 b0.1 b0.2 b1.1 b1.2 b2.1 b2.2 b3.1 b3.2
    have HC : Hid (∀ j : Nat, j < 4 → x.cell? ⟨g, j, none⟩ = some (.int .i64 (nth4 y0 y1 y2 y3 j))) := hcell
    have HB : Hid (∀ j : Nat, 0 ≤ nth4 y0 y1 y2 y3 j ∧ nth4 y0 y1 y2 y3 j ≤ 255) := hbd
    clear hcell hbd c0 c1 c2 c3 b0 b1 b2 b3
    simp only [hg]
    clear hg
    go_wp2_with fail
    go_loopw [10, 11, 12, 13] (fun v n al i wr => ∃ j : Nat, j ≤ 4 ∧ i = .int .i64 j ∧ v = .int .i64 (laidUp y0 y1 y2 y3 j) ∧ n = .int .i64 (howMany y0 y1 y2 y3 0 j) ∧ al = .int .i64 (howMany y0 y1 y2 y3 255 j) ∧ wr = x) (fun _ _ _ i _ => 4 - (intOf i).toNat)
    case atStart => exact ⟨0, by omega, rfl, rfl, rfl, rfl, rfl⟩
    case round =>
      obtain ⟨j, hj, rfl, rfl, rfl, rfl, rfl⟩ := hrel
      by_cases hlt : j < 4
      · have hc := HC.out j hlt
        have hbd := HB.out j
        obtain ⟨l0, l1⟩ := HL.out j (by omega)
        obtain ⟨n0, n1⟩ := howMany_bounds y0 y1 y2 y3 0 j
        obtain ⟨m0, m1⟩ := howMany_bounds y0 y1 y2 y3 255 j
        clear HW
        generalize hb : nth4 y0 y1 y2 y3 j = b at *
        generalize hL : laidUp y0 y1 y2 y3 j = L at *
        generalize hN : howMany y0 y1 y2 y3 0 j = N at *
        generalize hA : howMany y0 y1 y2 y3 255 j = M at *
        have three : b = 0 ∨ b = 255 ∨ (¬ b = 0 ∧ ¬ b = 255) := by omega
        rcases three with e0 | e0 | ⟨e0, e1⟩
        · subst e0
          go_wp2
          go_roundw
          case rel =>
            refine ⟨j + 1, by omega, by go_num, ?_, ?_, ?_, by first | rfl | trivial⟩
            · refine congrArg (Value.int IntKind.i64) ?_
              show _ = laidUp y0 y1 y2 y3 j * 256 + nth4 y0 y1 y2 y3 j
              omega
            · refine congrArg (Value.int IntKind.i64) ?_
              show _ = howMany y0 y1 y2 y3 0 j + (if nth4 y0 y1 y2 y3 j = 0 then 1 else 0)
              rw [if_pos hb]
              omega
            · refine congrArg (Value.int IntKind.i64) ?_
              show _ = howMany y0 y1 y2 y3 255 j + (if nth4 y0 y1 y2 y3 j = 255 then 1 else 0)
              rw [if_neg (by rw [hb]; decide)]
              omega
          case measure => simp [intOf]; omega
        · subst e0
          go_wp2
          go_roundw
          case rel =>
            refine ⟨j + 1, by omega, by go_num, ?_, ?_, ?_, by first | rfl | trivial⟩
            · refine congrArg (Value.int IntKind.i64) ?_
              show _ = laidUp y0 y1 y2 y3 j * 256 + nth4 y0 y1 y2 y3 j
              omega
            · refine congrArg (Value.int IntKind.i64) ?_
              show _ = howMany y0 y1 y2 y3 0 j + (if nth4 y0 y1 y2 y3 j = 0 then 1 else 0)
              rw [if_neg (by rw [hb]; decide)]
              omega
            · refine congrArg (Value.int IntKind.i64) ?_
              show _ = howMany y0 y1 y2 y3 255 j + (if nth4 y0 y1 y2 y3 j = 255 then 1 else 0)
              rw [if_pos hb]
              omega
          case measure => simp [intOf]; omega
        · have d0 : (b == 0) = false := by simp [e0]
          have d1 : (b == 255) = false := by simp [e1]
          go_wp2
          go_roundw
          case rel =>
            refine ⟨j + 1, by omega, by go_num, ?_, ?_, ?_, by first | rfl | trivial⟩
            · refine congrArg (Value.int IntKind.i64) ?_
              show _ = laidUp y0 y1 y2 y3 j * 256 + nth4 y0 y1 y2 y3 j
              omega
            · refine congrArg (Value.int IntKind.i64) ?_
              show _ = howMany y0 y1 y2 y3 0 j + (if nth4 y0 y1 y2 y3 j = 0 then 1 else 0)
              rw [if_neg (by rw [hb]; exact e0)]
              omega
            · refine congrArg (Value.int IntKind.i64) ?_
              show _ = howMany y0 y1 y2 y3 255 j + (if nth4 y0 y1 y2 y3 j = 255 then 1 else 0)
              rw [if_neg (by rw [hb]; exact e1)]
              omega
          case measure => simp [intOf]; omega
      · have hge : j = 4 := by omega
        subst hge
        have hw := HW.out
        clear HW HC HB HL
        generalize laidUp y0 y1 y2 y3 4 = L at *
        generalize howMany y0 y1 y2 y3 0 4 = N at *
        generalize howMany y0 y1 y2 y3 255 4 = M at *
        have HW : Hid ((sciP (signP L 32)).2.2.2 = (decide (3 ≤ N) || decide (3 ≤ M))) := hw
        clear hw
        go_wp2_with fail
        refine (immSign_any L 32 (by omega) (by omega) _).mono ?_
        rintro e w' ⟨rfl, rfl⟩
        go_wp2_with fail
        refine (immSci8_any _ _).mono ?_
        rintro e w' ⟨rfl, n1, rfl⟩
        generalize hq : sciP (signP L 32) = r at *
        obtain ⟨r1, r2, r3, is⟩ := r
        have hi : is = (decide (3 ≤ N) || decide (3 ≤ M)) := HW.out
        clear HW hq
        simp only [four]
        by_cases c : 3 ≤ N
        · have hi' : is = true := by rw [hi, decide_eq_true c]; rfl
          clear hi
          subst hi'
          go_wp2
          go_ret
          exact ⟨rfl, below_drewN HS.out _⟩
        · have cN : decide (3 ≤ N) = false := decide_eq_false c
          rw [cN, Bool.false_or] at hi
          by_cases c2 : 3 ≤ M
          · have hi' : is = true := by rw [hi]; exact decide_eq_true c2
            clear hi
            subst hi'
            go_wp2
            go_ret
            exact ⟨rfl, below_drewN HS.out _⟩
          · have cM : decide (3 ≤ M) = false := decide_eq_false c2
            have hi' : is = false := by rw [hi]; exact cM
            clear hi
            subst hi'
            go_wp2
            go_ret
            exact ⟨by simp, below_drewN HS.out _⟩

/-! ### The row's step -/
set_option maxRecDepth 100000 in
theorem lifted (os : Os) (started : os.Started) (H : Type) (enc : TypeId × Value → H) :
    ReturnsInHanded {} Try.checked os 4 .any (Rows.immBytesSpec.pre6 enc Try.prog Try.f4 Rows.immBytesRow.domain false) (Rows.immBytesSpec.post enc Try.prog Try.f4 false true false false) := by
  refine returnsInHanded_of_change (C := Try.checked) own started (by kernel_rfl) Try.func4
    (ChangeSpec.witness6 (enc := enc) (C := Try.checked) false ⟨#[], #[.int .i64 0, .int .i64 0, .int .i64 0, .int .i64 0], []⟩ 8 (by kernel_rfl) (by kernel_rfl) (by kernel_rfl) (by kernel_rfl)) ?_
  intro W base args ds gs before hval0 hW hcnd _
  have hval : ∀ (j : Nat) t v, Try.f4.params[j]? = some t → args[j]? = some v → Value.okWide Try.prog W .any base t v := hval0
  have hW' := hW
  obtain ⟨p, q, hA0, hV, rfl, hfz, hnd⟩ := hW
  have hA : DataW.TrodAll enc Try.prog W 0 (fun _ => true) true Try.f4.params.toList args.toList ds p := hA0
  rw [Try.params4] at hA hval
  obtain ⟨v0, vs0, d0, ds0, p0, q0, hargs, rfl, rfl, h0, r0⟩ := trodAll_cons hA
  obtain ⟨v1, vs1, d1, ds1, p1, q1, rfl, rfl, rfl, h1, r1⟩ := trodAll_cons r0
  obtain ⟨v2, vs2, d2, ds2, p2, q2, rfl, rfl, rfl, h2, r2⟩ := trodAll_cons r1
  obtain ⟨v3, vs3, d3, ds3, p3, q3, rfl, rfl, rfl, h3, r3⟩ := trodAll_cons r2
  obtain ⟨rfl, rfl, rfl⟩ := trodAll_nil r3
  obtain rfl : args = #[v0, v1, v2, v3] := by cases args; simp_all
  obtain ⟨rfl, rfl⟩ := trodVars_none hV
  obtain ⟨a0, rfl, rfl, rfl, w0⟩ := open_int Try.underlying3 (hval 0 3 v0 rfl rfl) h0
  obtain ⟨a1, rfl, rfl, rfl, w1⟩ := open_int Try.underlying3 (hval 1 3 v1 rfl rfl) h1
  obtain ⟨a2, rfl, rfl, rfl, w2⟩ := open_int Try.underlying3 (hval 2 3 v2 rfl rfl) h2
  obtain ⟨a3, rfl, rfl, rfl, w3⟩ := open_int Try.underlying3 (hval 3 3 v3 rfl rfl) h3
  clear hA0 hval0
  simp only [List.append_nil] at hW'
  refine (walk a0 a1 a2 a3 w0 w1 w2 w3 W).mono fun e W' ⟨he, hg⟩ => ?_
  subst he
  exact ⟨_, rfl, _, _, _, [], [], [], hW', (trodAll_cons_mk (shut_bool Try.underlying4 _) trodAll_mk0), (trodAll_cons_mk (shut_int Try.underlying3 w0) (trodAll_cons_mk (shut_int Try.underlying3 w1) (trodAll_cons_mk (shut_int Try.underlying3 w2) (trodAll_cons_mk (shut_int Try.underlying3 w3) trodAll_mk0)))), rfl, hg.frame _, fun h => by cases h⟩

theorem over : Rows.immBytesRow.holds Try.pinned (OpenSpec.ofChange Rows.immBytesSpec) :=
  OpenClaim.holds_of_wide 4 Try.f4 rfl rfl rfl rfl rfl rfl rfl ⟨rfl, rfl, rfl, rfl, rfl⟩ rfl rfl rfl rfl rfl (by kernel_rfl) Try.func4 (by kernel_rfl)
    (of_decide_eq_true (by kernel_rfl)) (by unfold Func.isWrapper; first | (rw [if_pos (by decide +kernel)]; kernel_rfl) | (rw [if_neg (by decide +kernel)]; exact ⟨rfl, rfl⟩))
    (fun os started H enc _ => lifted os started H enc)

/-- The statement. -/
theorem proved : Rows.ImmBytesSaid :=
  over
#print axioms proved
end Go.Proofs.Ytlamikchacplmab.immBytes
