/- A Step. -/
import Derived.Test.YtlncljfljjaacaaGreatDoorTxQ
namespace Go.Proofs.YtlncljfljjaacaaGreatDoor
open Go.ChangeShapes Go.WideShapes Go.ChangeAt Go.RowKit
set_option linter.unusedVariables false
set_option linter.unusedSimpArgs false

set_option maxHeartbeats 1600000 in
set_option maxRecDepth 20000 in
/-- t.Step, where what the Step does is known. -/
theorem step_any (tb p b : Nat) (k : Int) (n t : E.Bs) (tries : Int) (y : Value) (f : Nat) (w : World) (Tb : Blk w tb (txCs p b k n t tries y (fnV f)) 77) (ef : ∀ args w, (callFunc f args).run Tryz.prog w = .ok (.enter f args) w) (E1 st : Int) (wr is : Bool) (Q : World → Prop) (G : Nat → Prop) (hG : ¬ G w.heap.size)
    (F : Calls Tryz.prog f #[.pointer (some ⟨tb, 0, none⟩)] (w.alloc (.cells doneZ 44)) fun e w' => e = .returned (.tuple #[.agg #[.int .i64 E1, .string ⟨#[]⟩, .slice none 0 0, .slice none 0 0, .int .i64 st, .bool wr], .bool is]) ∧ Q w')
    (hQ : ∀ w', Q w' → Only G (w.alloc (.cells doneZ 44)) w') :
    Calls Tryz.prog 14 #[.pointer (some ⟨tb, 0, none⟩)] w fun e w' => e = .returned (.tuple #[.agg #[.int .i64 E1, .string ⟨#[]⟩, .slice none 0 0, .slice none 0 0, .int .i64 st, .bool wr], .bool is]) ∧ ∃ w1, Q w1 ∧ Only (fun i => i = w.heap.size) w1 w' := by
  have htl := Tb.lt
  have hb1 := E.below_new w (.cells doneZ 44)
  have c8 : w.cell? ⟨tb, 8, none⟩ = some (.func (.func f) #[] #[]) := Tb.cell rfl
  have RA := hid_of (Blk.new w doneZ 44)
  replace hQ := hid_of hQ
  replace F := F.mono (fun e w' h => (show e = .returned (.tuple #[.agg #[.int .i64 E1, .string ⟨#[]⟩, .slice none 0 0, .slice none 0 0, .int .i64 st, .bool wr], .bool is]) ∧ Hid (Q w') from h))
  clear Tb hb1
  unfold doneZ at *
  have hne : ∀ w : World, (binOp .eql 72 (.func (.func f) #[] #[]) .nilFunc).run Tryz.prog w = .ok (.bool false) w := fun _ => by kernel_rfl
  go_enter Tryz.func14, Tryz.ntmps14
  go_wp2_with fail
  refine F.mono ?_
  rintro e w1 ⟨rfl, hq⟩
  have R1 := RA.out.of_block ((hQ.out w1 hq.out).block w.heap.size (by simp) hG)
  have y0 : w1.cell? ⟨w.heap.size, 0, none⟩ = some (.int .i64 0) := R1.cell rfl
  have y1 : w1.cell? ⟨w.heap.size, 1, none⟩ = some (.string ⟨#[]⟩) := R1.cell rfl
  have y2 : w1.cell? ⟨w.heap.size, 2, none⟩ = some (.slice none 0 0) := R1.cell rfl
  have y3 : w1.cell? ⟨w.heap.size, 3, none⟩ = some (.slice none 0 0) := R1.cell rfl
  have y4 : w1.cell? ⟨w.heap.size, 4, none⟩ = some (.int .i64 0) := R1.cell rfl
  have y5 : w1.cell? ⟨w.heap.size, 5, none⟩ = some (.bool false) := R1.cell rfl
  have z0 := R1.thawed 0
  have z1 := R1.thawed 1
  have z2 := R1.thawed 2
  have z3 := R1.thawed 3
  have z4 := R1.thawed 4
  have z5 := R1.thawed 5
  have hR1 := R1.lt
  replace R1 := hid_of R1
  clear F hQ RA
  go_wp2_with fail
  have Z := put6_blk R1.out (.int .i64 E1) (.string ⟨#[]⟩) (.slice none 0 0) (.slice none 0 0) (.int .i64 st) (.bool wr)
  have u0 := Z.cell (i := 0) rfl
  have u1 := Z.cell (i := 1) rfl
  have u2 := Z.cell (i := 2) rfl
  have u3 := Z.cell (i := 3) rfl
  have u4 := Z.cell (i := 4) rfl
  have u5 := Z.cell (i := 5) rfl
  unfold put6 at u0 u1 u2 u3 u4 u5
  simp at u0 u1 u2 u3 u4 u5
  have P := put6_only w1 w.heap.size (.int .i64 E1) (.string ⟨#[]⟩) (.slice none 0 0) (.slice none 0 0) (.int .i64 st) (.bool wr)
  exact bodyPost_ret (v := .tuple #[.agg #[.int .i64 E1, .string ⟨#[]⟩, .slice none 0 0, .slice none 0 0, .int .i64 st, .bool wr], .bool is]) (by simp [results, Tryz.results14, go_sem, u0, u1, u2, u3, u4, u5]) rfl ⟨rfl, w1, hq.out, P⟩

theorem beginF_enters (args : Array Value) (w : World) : (callFunc 25 args).run Tryz.prog w = .ok (.enter 25 args) w := by
  exact enters_of Tryz.func25 (by kernel_rfl) rfl args w
theorem endF_enters (args : Array Value) (w : World) : (callFunc 43 args).run Tryz.prog w = .ok (.enter 43 args) w := by
  exact enters_of Tryz.func43 (by kernel_rfl) rfl args w

theorem names0 : namesP ⟨100, 0, [], []⟩ 0 = [] := by kernel_rfl
theorem put2_known : (commitP (pinP ⟨100, 0, [], []⟩) (put2 [109] [120])).2 = (1, 0) := by kernel_rfl
theorem left_known : ((cleanP (unpinP (commitP (pinP ⟨100, 0, [], []⟩) (put2 [109] [120])).1 0)).1).v.length = 2 := by kernel_rfl
theorem stale_known (x : Nat) : staleP (pinP ⟨100, 0, [], []⟩) 0 [look0 1 x] = false := by kernel_rfl
theorem join_known : (E.joinP [[109]]).length = 2 := by kernel_rfl
theorem new0 : (readP ⟨100, 0, [], []⟩ ⟨#[100]⟩ 0).1.size = 0 := by kernel_rfl
theorem names0' : namesP (pinP ⟨100, 0, [], []⟩) 0 = [] := by kernel_rfl
end Go.Proofs.YtlncljfljjaacaaGreatDoor
