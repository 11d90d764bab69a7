/- The last Step of a Put of a new name. -/
import Derived.Test.YtlncljfljjaacaaGreatDoorTxN
import Derived.Test.YtlncljfljjaacaaGreatDoorTxH
namespace Go.Proofs.YtlncljfljjaacaaGreatDoor
open Go.ChangeShapes Go.WideShapes Go.ChangeAt Go.RowKit
set_option linter.unusedVariables false
set_option linter.unusedSimpArgs false

theorem off_eq (p b : Nat) (k : Int) (n t : E.Bs) (tries : Int) (y next : Value) : ((((((((((txCs p b k n t tries y next).setIfInBounds 0 (.pointer none)).setIfInBounds 1 (.pointer none)).setIfInBounds 2 (.int .i64 0)).setIfInBounds 3 (.string ⟨#[]⟩)).setIfInBounds 4 (.string ⟨#[]⟩)).setIfInBounds 5 (.int .i64 0)).setIfInBounds 6 (.int .i64 tries)).setIfInBounds 7 (.pointer none)).setIfInBounds 8 .nilFunc) = offCs tries := by
  simp [txCs, offCs]

set_option maxHeartbeats 1600000 in
set_option maxRecDepth 20000 in
theorem stop_any (tb p b : Nat) (k : Int) (n t : E.Bs) (tries : Int) (y next : Value) (w : World) (Tb : Blk w tb (txCs p b k n t tries y next) 77) :
    Calls Tryz.prog 32 #[.pointer (some ⟨tb, 0, none⟩)] w fun e w' => e = .returned (.tuple #[]) ∧ Blk w' tb (offCs tries) 77 ∧ Only (fun i => i = tb) w w' := by
  have htl := Tb.lt
  have c0 : w.cell? ⟨tb, 0, none⟩ = some (.pointer (some ⟨p, 0, none⟩)) := Tb.cell rfl
  have c1 : w.cell? ⟨tb, 1, none⟩ = some (.pointer (some ⟨b, 0, none⟩)) := Tb.cell rfl
  have c2 : w.cell? ⟨tb, 2, none⟩ = some (.int .i64 k) := Tb.cell rfl
  have c3 : w.cell? ⟨tb, 3, none⟩ = some (.string (E.bs n)) := Tb.cell rfl
  have c4 : w.cell? ⟨tb, 4, none⟩ = some (.string (E.bs t)) := Tb.cell rfl
  have c5 : w.cell? ⟨tb, 5, none⟩ = some (.int .i64 0) := Tb.cell rfl
  have c6 : w.cell? ⟨tb, 6, none⟩ = some (.int .i64 tries) := Tb.cell rfl
  have c7 : w.cell? ⟨tb, 7, none⟩ = some y := Tb.cell rfl
  have c8 : w.cell? ⟨tb, 8, none⟩ = some next := Tb.cell rfl
  have f0 := Tb.thawed 0
  have f1 := Tb.thawed 1
  have f2 := Tb.thawed 2
  have f3 := Tb.thawed 3
  have f4 := Tb.thawed 4
  have f5 := Tb.thawed 5
  have f6 := Tb.thawed 6
  have f7 := Tb.thawed 7
  have f8 := Tb.thawed 8
  replace Tb := hid_of Tb
  go_enter Tryz.func32, Tryz.ntmps32
  go_wp2
  go_end0
  have S0 := Only.setR w tb 0 (.pointer none)
  have S1 := S0.trans (Only.setR _ tb 1 (.pointer none)) (fun _ _ h => h)
  have S2 := S1.trans (Only.setR _ tb 2 (.int .i64 0)) (fun _ _ h => h)
  have S3 := S2.trans (Only.setR _ tb 3 (.string ⟨#[]⟩)) (fun _ _ h => h)
  have S4 := S3.trans (Only.setR _ tb 4 (.string ⟨#[]⟩)) (fun _ _ h => h)
  have S5 := S4.trans (Only.setR _ tb 5 (.int .i64 0)) (fun _ _ h => h)
  have S6 := S5.trans (Only.setR _ tb 6 (.int .i64 tries)) (fun _ _ h => h)
  have S7 := S6.trans (Only.setR _ tb 7 (.pointer none)) (fun _ _ h => h)
  have S8 := S7.trans (Only.setR _ tb 8 .nilFunc) (fun _ _ h => h)
  have X := ((((((((Tb.out.set 0 (.pointer none)).set 1 (.pointer none)).set 2 (.int .i64 0)).set 3 (.string ⟨#[]⟩)).set 4 (.string ⟨#[]⟩)).set 5 (.int .i64 0)).set 6 (.int .i64 tries)).set 7 (.pointer none)).set 8 .nilFunc
  rw [off_eq] at X
  exact ⟨rfl, X, S8⟩

set_option maxHeartbeats 1600000 in
set_option maxRecDepth 20000 in
/-- x.end, where what it comes to is known. -/
theorem tryEnd_any (x fi : Nat) (cs : Array Value) (w : World) (X : Blk w x cs 96) (h10 : cs[10]? = some (fnV fi)) (ef : ∀ args w, (callFunc fi args).run Tryz.prog w = .ok (.enter fi args) w) (E0 : Int) (gl : Nat) (Q : Option Addr → Nat → World → Prop) (G : Nat → Prop) (hG : ¬ G w.heap.size)
    (F : Calls Tryz.prog fi #[.pointer (some ⟨x, 0, none⟩)] (w.alloc (.cells (respV 0) 42)) fun e w' => ∃ ga gc, e = .returned (.tuple #[.agg (respV E0), .slice ga gl gc]) ∧ Q ga gc w') (hQ : ∀ ga gc w', Q ga gc w' → Only G (w.alloc (.cells (respV 0) 42)) w') :
    Calls Tryz.prog 63 #[.pointer (some ⟨x, 0, none⟩)] w fun e w' => ∃ ga gc, e = .returned (.tuple #[.agg (respV E0), .slice ga gl gc]) ∧ ∃ w1, Q ga gc w1 ∧ Only (fun i => i = w.heap.size) w1 w' := by
  have hxl := X.lt
  have c10 : w.cell? ⟨x, 10, none⟩ = some (.func (.func fi) #[] #[]) := X.cell h10
  have RA := hid_of (Blk.new w (respV 0) 42)
  replace hQ := hid_of hQ
  clear X h10
  unfold respV at *
  go_enter Tryz.func63, Tryz.ntmps63
  go_wp2_with fail
  refine F.mono ?_
  rintro e w1 ⟨ga, gc, rfl, hq⟩
  have R1 := RA.out.of_block ((hQ.out ga gc w1 hq).block w.heap.size (by simp) hG)
  have y0 : w1.cell? ⟨w.heap.size, 0, none⟩ = some (.int .i64 0) := R1.cell rfl
  have y1 : w1.cell? ⟨w.heap.size, 1, none⟩ = some (.string ⟨#[]⟩) := R1.cell rfl
  have y2 : w1.cell? ⟨w.heap.size, 2, none⟩ = some (.slice none 0 0) := R1.cell rfl
  have y3 : w1.cell? ⟨w.heap.size, 3, none⟩ = some (.slice none 0 0) := R1.cell rfl
  have z0 := R1.thawed 0
  have z1 := R1.thawed 1
  have z2 := R1.thawed 2
  have z3 := R1.thawed 3
  have hR1 := R1.lt
  replace hq := hid_of hq
  clear F hQ RA
  go_wp2_with fail
  have S0 := Only.setR w1 w.heap.size 0 (.int .i64 E0)
  have S1 := S0.trans (Only.setR _ w.heap.size 1 (.string ⟨#[]⟩)) (fun _ _ h => h)
  have S2 := S1.trans (Only.setR _ w.heap.size 2 (.slice none 0 0)) (fun _ _ h => h)
  have S3 := S2.trans (Only.setR _ w.heap.size 3 (.slice none 0 0)) (fun _ _ h => h)
  have Z := (((R1.set 0 (.int .i64 E0)).set 1 (.string ⟨#[]⟩)).set 2 (.slice none 0 0)).set 3 (.slice none 0 0)
  have u0 := Z.cell (i := 0) rfl
  have u1 := Z.cell (i := 1) rfl
  have u2 := Z.cell (i := 2) rfl
  have u3 := Z.cell (i := 3) rfl
  simp at u0 u1 u2 u3
  refine bodyPost_ret (v := .tuple #[.agg #[.int .i64 E0, .string ⟨#[]⟩, .slice none 0 0, .slice none 0 0], .slice ga gl gc]) (by simp [results, Tryz.results63, go_sem, u0, u1, u2, u3]) rfl ⟨ga, gc, rfl, w1, hq.out, S3⟩
end Go.Proofs.YtlncljfljjaacaaGreatDoor
