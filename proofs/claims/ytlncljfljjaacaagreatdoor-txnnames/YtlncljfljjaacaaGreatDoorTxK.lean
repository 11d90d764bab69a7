/- What a Put writes. -/
import Derived.Test.YtlncljfljjaacaaGreatDoorTxC
namespace Go.Proofs.YtlncljfljjaacaaGreatDoor
open Go.ChangeShapes Go.WideShapes Go.ChangeAt Go.RowKit
set_option linter.unusedVariables false
set_option linter.unusedSimpArgs false

theorem hid_of' {p : Prop} (h : p) : Hid p := h

set_option maxHeartbeats 800000 in
theorem value_any (x : Nat) (cs : Array Value) (k : Int) (t : E.Bs) (w : World) (X : Blk w x cs 96) (h2 : cs[2]? = some (.int .i64 k)) (h4 : cs[4]? = some (.string (E.bs t))) (hk : k ≠ 5) :
    Calls Tryz.prog 73 #[.pointer (some ⟨x, 0, none⟩)] w fun e w' => e = .returned (.string (E.bs t)) ∧ w' = w := by
  have c2 : w.cell? ⟨x, 2, none⟩ = some (.int .i64 k) := X.cell h2
  have c4 : w.cell? ⟨x, 4, none⟩ = some (.string (E.bs t)) := X.cell h4
  have hxl := X.lt
  have hk5 : (k == 5) = false := by rw [beq_eq_false_iff_ne]; exact hk
  clear X h2 h4 hk
  go_enter Tryz.func73, Tryz.ntmps73
  go_wp2
  go_ret
  exact ⟨rfl, rfl⟩

set_option maxHeartbeats 800000 in
theorem pkey_any (a f n : E.Bs) (m : Int) (w : World) (hl : f.length + n.length ≤ 1000000) :
    Calls Tryz.prog 79 #[.agg #[.string (E.bs a), .string (E.bs f), .int .i64 m], .string (E.bs n)] w fun e w' => e = .returned (.string (E.bs (f ++ n))) ∧ Below w.heap.size w w' := by
  have A := fun W => run_string_add_sum (P := Tryz.prog) W (E.bs f) (E.bs n) (by rw [E.bs_size, E.bs_size]; omega)
  rw [E.bs_add] at A
  go_enter Tryz.func79, Tryz.ntmps79
  go_wp2
  go_ret
  exact ⟨rfl, E.below_new _ _⟩

set_option maxHeartbeats 1600000 in
set_option maxRecDepth 20000 in
theorem twrite_any (x : Nat) (cs : Array Value) (n v : E.Bs) (w : World) (X : Blk w x cs 96) (h3 : cs[3]? = some (.string (E.bs n))) (h6 : cs[6]? = some (.string ⟨#[100]⟩)) (h7 : cs[7]? = some (.string ⟨#[102]⟩)) (h8 : cs[8]? = some (.int .i64 8)) (hn : n.length ≤ 1000) :
    Calls Tryz.prog 72 #[.pointer (some ⟨x, 0, none⟩), .string (E.bs v)] w fun e w' => e = .returned (.agg #[.string (E.bs (102 :: n)), .string (E.bs v), .bool false]) ∧ Below w.heap.size w w' := by
  have hxl := X.lt
  have hb := E.below_new w (.cells #[.string ⟨#[]⟩, .string ⟨#[]⟩, .bool false] 128)
  have X1 := X.of_block (hb.block x hxl)
  have K := fun W => pkey_any [100] [102] n 8 W (by simp; omega)
  rw [show E.bs [100] = (⟨#[100]⟩ : ByteArray) from rfl, show E.bs [102] = (⟨#[102]⟩ : ByteArray) from rfl, show [102] ++ n = 102 :: n from rfl] at K
  have RB := Blk.new w #[.string ⟨#[]⟩, .string ⟨#[]⟩, .bool false] 128
  generalize hwA : w.alloc (.cells #[.string ⟨#[]⟩, .string ⟨#[]⟩, .bool false] 128) = wA at *
  replace hwA := hid_of' hwA
  have c3 : wA.drew.cell? ⟨x, 3, none⟩ = some (.string (E.bs n)) := X1.cell h3
  have c6 : wA.drew.cell? ⟨x, 6, none⟩ = some (.string ⟨#[100]⟩) := X1.cell h6
  have c7 : wA.drew.cell? ⟨x, 7, none⟩ = some (.string ⟨#[102]⟩) := X1.cell h7
  have c8 : wA.drew.cell? ⟨x, 8, none⟩ = some (.int .i64 8) := X1.cell h8
  have hx1 : x < wA.drew.heap.size := X1.lt
  have RR : Hid (Blk wA.drew w.heap.size #[.string ⟨#[]⟩, .string ⟨#[]⟩, .bool false] 128) := RB
  have hR := RR.out.lt
  have hbd := hid_of' hb.drew
  clear X X1 h3 h6 h7 h8 hb RB hn
  go_enter Tryz.func72, Tryz.ntmps72
  go_wp2_with fail
  rw [hwA.out]
  go_region_with (go_at_call 79; refine (K _).mono ?_; rintro e w3 ⟨rfl, hb3⟩; replace hbd := hid_of' (hbd.out.trans (hb3.mono hbd.out.size)); replace RR := hid_of' (RR.out.of_block (hb3.block _ hR)); clear hb3; have y0 : w3.cell? ⟨w.heap.size, 0, none⟩ = some (.string ⟨#[]⟩) := RR.out.cell rfl; have y1 : w3.cell? ⟨w.heap.size, 1, none⟩ = some (.string ⟨#[]⟩) := RR.out.cell rfl; have y2 : w3.cell? ⟨w.heap.size, 2, none⟩ = some (.bool false) := RR.out.cell rfl; have z0 := RR.out.thawed 0; have z1 := RR.out.thawed 1; have z2 := RR.out.thawed 2; replace hR := RR.out.lt)
  all_goals
    go_wp2_with fail
    have Z := ((RR.out.set 0 (.string (E.bs (102 :: n)))).set 1 (.string (E.bs v))).set 2 (.bool false)
    have u0 := Z.cell (i := 0) rfl
    have u1 := Z.cell (i := 1) rfl
    have u2 := Z.cell (i := 2) rfl
    simp at u0 u1 u2
    refine bodyPost_ret (v := .agg #[.string (E.bs (102 :: n)), .string (E.bs v), .bool false]) (by simp [results, Tryz.results72, go_sem, u0, u1, u2]) rfl ⟨rfl, ?_⟩
    exact ((hbd.out.setCell (Nat.le_refl _) _).setCell (Nat.le_refl _) _).setCell (Nat.le_refl _) _
end Go.Proofs.YtlncljfljjaacaaGreatDoor
