/- A Step that reads. -/
import Derived.Test.YtlncljfljjaacaaGreatDoorTxE
namespace Go.Proofs.YtlncljfljjaacaaGreatDoor
open Go.ChangeShapes Go.WideShapes Go.ChangeAt Go.RowKit
set_option linter.unusedVariables false
set_option linter.unusedSimpArgs false

/-- What is done, where nothing is told. -/
def doneZ : Array Value := #[.int .i64 0, .string ⟨#[]⟩, .slice none 0 0, .slice none 0 0, .int .i64 0, .bool false]

/-- Six stores into one block. -/
def put6 (w : World) (r : Nat) (a0 a1 a2 a3 a4 a5 : Value) : World := (((((w.setCell ⟨r, 0, none⟩ a0).setCell ⟨r, 1, none⟩ a1).setCell ⟨r, 2, none⟩ a2).setCell ⟨r, 3, none⟩ a3).setCell ⟨r, 4, none⟩ a4).setCell ⟨r, 5, none⟩ a5
theorem set_block (w : World) (r i : Nat) (u : Value) (k : Nat) (h : k ≠ r) : (w.setCell ⟨r, i, none⟩ u).heap[k]? = w.heap[k]? := Below.heap_setCell w ⟨r, i, none⟩ u k h
theorem put6_block (w : World) (r : Nat) (a0 a1 a2 a3 a4 a5 : Value) (k : Nat) (h : k ≠ r) : (put6 w r a0 a1 a2 a3 a4 a5).heap[k]? = w.heap[k]? := by
  unfold put6
  rw [set_block _ _ _ _ _ h, set_block _ _ _ _ _ h, set_block _ _ _ _ _ h, set_block _ _ _ _ _ h, set_block _ _ _ _ _ h, set_block _ _ _ _ _ h]
theorem put6_blk {w : World} {r : Nat} {b0 b1 b2 b3 b4 b5 : Value} {t : TypeId} (h : Blk w r #[b0, b1, b2, b3, b4, b5] t) (a0 a1 a2 a3 a4 a5 : Value) : Blk (put6 w r a0 a1 a2 a3 a4 a5) r #[a0, a1, a2, a3, a4, a5] t :=
  (((((h.set 0 a0).set 1 a1).set 2 a2).set 3 a3).set 4 a4).set 5 a5
theorem Only.set1 (w : World) (a : Addr) (u : Value) : Only (fun i => i = a.block) w (w.setCell a u) := ⟨rfl, rfl, rfl, by simp [World.setCell], fun i hi hn => Below.heap_setCell _ _ _ _ hn⟩
theorem Only.setR (w : World) (r i : Nat) (u : Value) : Only (fun k => k = r) w (w.setCell ⟨r, i, none⟩ u) := Only.set1 w ⟨r, i, none⟩ u
theorem put6_only (w : World) (r : Nat) (a0 a1 a2 a3 a4 a5 : Value) : Only (fun i => i = r) w (put6 w r a0 a1 a2 a3 a4 a5) := by
  unfold put6
  have h0 := Only.setR w r 0 a0
  have h1 := h0.trans (Only.setR _ r 1 a1) (fun _ _ h => h)
  have h2 := h1.trans (Only.setR _ r 2 a2) (fun _ _ h => h)
  have h3 := h2.trans (Only.setR _ r 3 a3) (fun _ _ h => h)
  have h4 := h3.trans (Only.setR _ r 4 a4) (fun _ _ h => h)
  exact h4.trans (Only.setR _ r 5 a5) (fun _ _ h => h)
theorem Blk.drew {w : World} {b : Nat} {cs : Array Value} {t : TypeId} (h : Blk w b cs t) : Blk w.drew b cs t := h
theorem Only.drew {F : Nat → Prop} {w w' : World} (h : Only F w w') : Only F w w'.drew := ⟨h.os, h.tape, h.output, h.size, h.block⟩
theorem hasAll_any (x : Nat) (past : Int) (la : Option Addr) (ll lc : Nat) (w : World) (hxl : x < w.heap.size) (d13 : w.cell? ⟨x, 13, none⟩ = some (.int .i64 past)) (d12 : w.cell? ⟨x, 12, none⟩ = some (.slice la ll lc)) :
    Calls Tryz.prog 42 #[.pointer (some ⟨x, 0, none⟩)] w fun e w' => e = .returned (.bool (past == (ll : Int))) ∧ w' = w.drew := by
  go_enter Tryz.func42, Tryz.ntmps42
  go_wp2_with fail
  go_region
  all_goals go_wp2_with fail
  all_goals go_ret
  all_goals exact ⟨rfl, rfl⟩

set_option maxHeartbeats 1600000 in
set_option maxRecDepth 20000 in
theorem txRead_any (tb x p b : Nat) (k : Int) (n t : E.Bs) (tries : Int) (w : World) (Tb : Blk w tb (txCs p b k n t tries (.pointer (some ⟨x, 0, none⟩)) (fnV 35)) 77) (Q : World → Prop) (past : Int) (ll : Nat) (G : Nat → Prop) (hxl : x < w.heap.size)
    (hG1 : ¬ G tb) (hG2 : ¬ G w.heap.size)
    (R : Calls Tryz.prog 41 #[.pointer (some ⟨x, 0, none⟩)] (w.alloc (.cells doneZ 44)) fun e w' => e = .returned (.tuple #[]) ∧ Q w')
    (hQ : ∀ w', Q w' → Only G (w.alloc (.cells doneZ 44)) w' ∧ w'.cell? ⟨x, 13, none⟩ = some (.int .i64 past) ∧ ∃ la lc, w'.cell? ⟨x, 12, none⟩ = some (.slice la ll lc)) :
    Calls Tryz.prog 35 #[.pointer (some ⟨tb, 0, none⟩)] w fun e w' => e = .returned (.tuple #[.agg doneZ, .bool false]) ∧ ∃ w1, Q w1 ∧ Blk w' tb (txCs p b k n t tries (.pointer (some ⟨x, 0, none⟩)) (fnV (if past = ll then 43 else 35))) 77 ∧ Only (fun i => i = tb ∨ i = w.heap.size) w1 w' := by
  have c7 : w.cell? ⟨tb, 7, none⟩ = some (.pointer (some ⟨x, 0, none⟩)) := Tb.cell rfl
  have htl := Tb.lt
  have hbn := hid_of (E.below_new w (.cells doneZ 44))
  have RB := hid_of (Blk.new w doneZ 44)
  have hQ := hid_of hQ
  have hszA : Hid ((w.alloc (.cells doneZ 44)).heap.size = w.heap.size + 1) := by show _ = _; simp
  obtain ⟨nx, hnx⟩ : ∃ nx, nx = if past = ll then 43 else 35 := ⟨_, rfl⟩
  rw [← hnx]
  replace hnx := hid_of hnx
  unfold doneZ at *
  go_enter Tryz.func35, Tryz.ntmps35
  go_wp2_with fail
  refine R.mono ?_
  rintro e w1 ⟨rfl, hq⟩
  obtain ⟨O1, d13, la, lc, d12⟩ := hQ.out w1 hq
  have T1 := (Tb.of_block (hbn.out.block _ htl)).of_block (O1.block tb (by rw [hszA.out]; omega) hG1)
  have R1 := RB.out.of_block (O1.block w.heap.size (by rw [hszA.out]; omega) hG2)
  have hs1 : w.heap.size < w1.heap.size := R1.lt
  have hq := hid_of hq
  have e7 : w1.cell? ⟨tb, 7, none⟩ = some (.pointer (some ⟨x, 0, none⟩)) := T1.cell rfl
  have e8 : w1.cell? ⟨tb, 8, none⟩ = some (.func (.func 35) #[] #[]) := T1.cell rfl
  have ff8 := T1.thawed 8
  have y0 : w1.cell? ⟨w.heap.size, 0, none⟩ = some (.int .i64 0) := R1.cell rfl
  have y1 : w1.cell? ⟨w.heap.size, 1, none⟩ = some (.string ⟨#[]⟩) := R1.cell rfl
  have y2 : w1.cell? ⟨w.heap.size, 2, none⟩ = some (.slice none 0 0) := R1.cell rfl
  have y3 : w1.cell? ⟨w.heap.size, 3, none⟩ = some (.slice none 0 0) := R1.cell rfl
  have y4 : w1.cell? ⟨w.heap.size, 4, none⟩ = some (.int .i64 0) := R1.cell rfl
  have y5 : w1.cell? ⟨w.heap.size, 5, none⟩ = some (.bool false) := R1.cell rfl
  have g0 := R1.thawed 0
  have g1 := R1.thawed 1
  have g2 := R1.thawed 2
  have g3 := R1.thawed 3
  have g4 := R1.thawed 4
  have g5 := R1.thawed 5
  have htl1 := T1.lt
  have hxl1 : x < w1.heap.size := by omega
  have hne : w.heap.size ≠ tb := by omega
  have T1 := hid_of T1
  replace R1 := hid_of R1
  clear R hQ O1 RB hbn hszA Tb c7
  have HA := hasAll_any x past la ll lc w1 hxl1 d13 d12
  by_cases hp : past = ll
  · have ep : (past == (ll : Int)) = true := by simpa using hp
    rw [ep] at HA
    replace hp := hid_of hp
    go_wp2_with fail
    refine HA.mono ?_
    rintro e w2 ⟨rfl, rfl⟩
    clear HA
    go_wp2_with fail
    have hn : nx = 43 := by rw [hnx.out, if_pos hp.out]
    have P := put6_only (w1.setCell ⟨tb, 8, none⟩ (.func (.func 43) #[] #[])) w.heap.size (.int .i64 0) (.string ⟨#[]⟩) (.slice none 0 0) (.slice none 0 0) (.int .i64 0) (.bool false)
    have Z := put6_blk (R1.out.of_block (w' := w1.setCell ⟨tb, 8, none⟩ (.func (.func 43) #[] #[])) (set_block _ _ _ _ _ hne)) (.int .i64 0) (.string ⟨#[]⟩) (.slice none 0 0) (.slice none 0 0) (.int .i64 0) (.bool false)
    have hl8 : tb < (w1.setCell ⟨tb, 8, none⟩ (.func (.func 43) #[] #[])).heap.size := by simp [World.setCell]; exact htl1
    have X := (T1.out.set 8 (.func (.func 43) #[] #[])).of_block (P.block tb hl8 (fun h => hne h.symm))
    have z0 := Z.cell (i := 0) rfl
    have z1 := Z.cell (i := 1) rfl
    have z2 := Z.cell (i := 2) rfl
    have z3 := Z.cell (i := 3) rfl
    have z4 := Z.cell (i := 4) rfl
    have z5 := Z.cell (i := 5) rfl
    unfold put6 at z0 z1 z2 z3 z4 z5
    simp at z0 z1 z2 z3 z4 z5
    refine bodyPost_ret (v := .tuple #[.agg #[.int .i64 0, .string ⟨#[]⟩, .slice none 0 0, .slice none 0 0, .int .i64 0, .bool false], .bool false]) (by simp [results, Tryz.results35, go_sem, z0, z1, z2, z3, z4, z5]) rfl ⟨rfl, w1, hq.out, ?_, ?_⟩
    · rw [hn]
      exact Blk.drew X
    · exact (((Only.set1 w1 ⟨tb, 8, none⟩ _).mono (fun _ _ h => .inl h)).trans (G := fun i => i = w.heap.size) P (fun i _ h => .inr h)).drew
  · have ep : (past == (ll : Int)) = false := by simpa using hp
    rw [ep] at HA
    replace hp := hid_of hp
    go_wp2_with fail
    refine HA.mono ?_
    rintro e w2 ⟨rfl, rfl⟩
    clear HA
    go_wp2_with fail
    have hn : nx = 35 := by rw [hnx.out, if_neg hp.out]
    have P := put6_only w1 w.heap.size (.int .i64 0) (.string ⟨#[]⟩) (.slice none 0 0) (.slice none 0 0) (.int .i64 0) (.bool false)
    have Z := put6_blk R1.out (.int .i64 0) (.string ⟨#[]⟩) (.slice none 0 0) (.slice none 0 0) (.int .i64 0) (.bool false)
    have X := T1.out.of_block (P.block tb htl1 (fun h => hne h.symm))
    have z0 := Z.cell (i := 0) rfl
    have z1 := Z.cell (i := 1) rfl
    have z2 := Z.cell (i := 2) rfl
    have z3 := Z.cell (i := 3) rfl
    have z4 := Z.cell (i := 4) rfl
    have z5 := Z.cell (i := 5) rfl
    unfold put6 at z0 z1 z2 z3 z4 z5
    simp at z0 z1 z2 z3 z4 z5
    refine bodyPost_ret (v := .tuple #[.agg #[.int .i64 0, .string ⟨#[]⟩, .slice none 0 0, .slice none 0 0, .int .i64 0, .bool false], .bool false]) (by simp [results, Tryz.results35, go_sem, z0, z1, z2, z3, z4, z5]) rfl ⟨rfl, w1, hq.out, ?_, ?_⟩
    · rw [hn]
      exact Blk.drew X
    · exact (P.mono (fun i _ h => .inr h)).drew
end Go.Proofs.YtlncljfljjaacaaGreatDoor
