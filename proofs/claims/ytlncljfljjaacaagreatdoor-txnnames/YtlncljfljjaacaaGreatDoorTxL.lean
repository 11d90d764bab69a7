/- What a Put writes: names. -/
import Derived.Test.YtlncljfljjaacaaGreatDoorTxK
namespace Go.Proofs.YtlncljfljjaacaaGreatDoor
open Go.ChangeShapes Go.WideShapes Go.ChangeAt Go.RowKit
set_option linter.unusedVariables false
set_option linter.unusedSimpArgs false

set_option maxHeartbeats 1600000 in
set_option maxRecDepth 20000 in
theorem insert1_any (a : Option Addr) (c : Nat) (w : World) :
    Calls Tryz.prog 121 #[.slice a 1 c, .int .i64 0, .int .i64 1] w fun e w' => e = .returned (.tuple #[]) ∧ w' = w := by
  go_enter Tryz.func121, Tryz.ntmps121
  go_wp2
  refine wp_loop_rounds 1 ?_
  rw [rounds_succ]
  go_wp2
  go_end0
  exact ⟨rfl, rfl⟩

set_option maxHeartbeats 1600000 in
set_option maxRecDepth 20000 in
theorem pdq1_any (a : Option Addr) (c : Nat) (n : Int) (w : World) :
    Calls Tryz.prog 99 #[.slice a 1 c, .int .i64 0, .int .i64 1, .int .i64 n] w fun e w' => e = .returned (.tuple #[]) ∧ w' = w := by
  have I := insert1_any a c w
  go_enter Tryz.func99, Tryz.ntmps99
  go_wp2_with fail
  refine wp_loop_rounds 1 ?_
  rw [rounds_succ]
  go_wp2_with fail
  refine I.mono ?_
  rintro e w1 ⟨rfl, rfl⟩
  go_wp2_with fail
  first
  | (go_end0; exact ⟨rfl, rfl⟩)
  | (refine bodyPost_ret (results_none rfl _ _ _) rfl ?_; exact ⟨rfl, rfl⟩)

set_option maxHeartbeats 1600000 in
set_option maxRecDepth 20000 in
theorem sort1_any (a : Option Addr) (c : Nat) (w : World) :
    Calls Tryz.prog 75 #[.slice a 1 c] w fun e w' => e = .returned (.tuple #[]) ∧ w' = w := by
  have L := Tryz.bits_Len 1 w (by omega) (by omega)
  have P := fun n => pdq1_any a c n w
  go_enter Tryz.func75, Tryz.ntmps75
  go_wp2_with fail
  refine L.mono ?_
  rintro e w1 ⟨rfl, rfl⟩
  go_wp2_with fail
  refine (P _).mono ?_
  rintro e w2 ⟨rfl, rfl⟩
  go_wp2_with fail
  go_end0
  exact ⟨rfl, rfl⟩

set_option maxHeartbeats 1600000 in
set_option maxRecDepth 20000 in
theorem writeNames_any (x : Nat) (cs : Array Value) (N : List E.Bs) (nv : Value) (w : World) (X : Blk w x cs 96) (h6 : cs[6]? = some (.string ⟨#[100]⟩)) (h14 : cs[14]? = some nv) (hN : E.StrsAt w nv N) (hl : (E.joinP N).length ≤ 1000000) (hn : N.length ≤ 1000000) :
    Calls Tryz.prog 76 #[.pointer (some ⟨x, 0, none⟩)] w fun e w' => e = .returned (.agg #[.string ⟨#[100]⟩, .string (E.bs (E.joinP N)), .bool false]) ∧ Below w.heap.size w w' := by
  have hb := E.below_new w (.cells #[.string ⟨#[]⟩, .string ⟨#[]⟩, .bool false] 128)
  have X1 := X.of_block (hb.block x X.lt)
  have J := fun W h => E.join_any N hl hn nv W h
  have HN := hid_of' (hN.later hb)
  obtain ⟨na, nc, rfl, _⟩ := hN
  have RB := Blk.new w #[.string ⟨#[]⟩, .string ⟨#[]⟩, .bool false] 128
  generalize hwA : w.alloc (.cells #[.string ⟨#[]⟩, .string ⟨#[]⟩, .bool false] 128) = wA at *
  replace hwA := hid_of' hwA
  have c6 : wA.drew.cell? ⟨x, 6, none⟩ = some (.string ⟨#[100]⟩) := X1.cell h6
  have c14 : wA.drew.cell? ⟨x, 14, none⟩ = some (.slice na N.length nc) := X1.cell h14
  have hx1 : x < wA.drew.heap.size := X1.lt
  have JJ := J wA.drew (HN.out.later (E.below_drewN wA 1))
  have RR : Hid (Blk wA.drew w.heap.size #[.string ⟨#[]⟩, .string ⟨#[]⟩, .bool false] 128) := RB
  have hR := RR.out.lt
  have hxR : x ≠ w.heap.size := by have := X.lt; omega
  have XX : Hid (Blk wA.drew x cs 96) := X1
  have h6 := hid_of' h6
  have hbd := hid_of' hb.drew
  clear X X1 h14 hb RB hn J HN
  go_enter Tryz.func76, Tryz.ntmps76
  go_wp2_with fail
  rw [hwA.out]
  go_region_with (go_at_call 6; refine JJ.mono ?_; rintro e w3 ⟨rfl, hb3⟩; replace hbd := hid_of' (hbd.out.trans (hb3.mono hbd.out.size)); replace RR := hid_of' (RR.out.of_block (hb3.block _ hR)); replace c6 : w3.cell? ⟨x, 6, none⟩ = some (.string ⟨#[100]⟩) := (XX.out.of_block (hb3.block _ hx1)).cell h6.out; replace hx1 := Nat.lt_of_lt_of_le hx1 hb3.size; clear hb3; have y0 : w3.cell? ⟨w.heap.size, 0, none⟩ = some (.string ⟨#[]⟩) := RR.out.cell rfl; have y1 : w3.cell? ⟨w.heap.size, 1, none⟩ = some (.string ⟨#[]⟩) := RR.out.cell rfl; have y2 : w3.cell? ⟨w.heap.size, 2, none⟩ = some (.bool false) := RR.out.cell rfl; have z0 := RR.out.thawed 0; have z1 := RR.out.thawed 1; have z2 := RR.out.thawed 2; replace hR := RR.out.lt)
  all_goals
    go_wp2_with fail
    have Z := ((RR.out.set 0 (.string ⟨#[100]⟩)).set 1 (.string (E.bs (E.joinP N)))).set 2 (.bool false)
    have u0 := Z.cell (i := 0) rfl
    have u1 := Z.cell (i := 1) rfl
    have u2 := Z.cell (i := 2) rfl
    simp at u0 u1 u2
    refine bodyPost_ret (v := .agg #[.string ⟨#[100]⟩, .string (E.bs (E.joinP N)), .bool false]) (by simp [results, Tryz.results76, go_sem, u0, u1, u2]) rfl ⟨rfl, ?_⟩
    exact ((hbd.out.setCell (Nat.le_refl _) _).setCell (Nat.le_refl _) _).setCell (Nat.le_refl _) _
end Go.Proofs.YtlncljfljjaacaaGreatDoor
