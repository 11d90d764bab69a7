/- The contracts of Right and Encode. -/
import Derived.Test.YtnmclpphiajleaaDoorCoded
namespace Go.Proofs.YtnmclpphiajleaaDoor
open Go.ChangeShapes Go.WideShapes Go.ChangeAt Go.RowKit
open Plain
set_option linter.unusedVariables false
set_option linter.unusedSimpArgs false

/-- The slice v holds the bytes bs. -/
def BytesIs (w : World) (v : Value) (bs : List Int) : Prop :=
  ∃ p cap, v = .slice p bs.length cap ∧ (bs ≠ [] → ∃ b o, p = some ⟨b, o, none⟩ ∧ ∀ i x, bs[i]? = some x → w.cell? ⟨b, o + i, none⟩ = some (.int .u8 x))

theorem BytesIs.later {w w' : World} {v : Value} {bs : List Int} (h : BytesIs w v bs) (hb : Below w.heap.size w w') : BytesIs w' v bs := by
  obtain ⟨p, cap, rfl, h⟩ := h
  refine ⟨p, cap, rfl, fun hn => ?_⟩
  obtain ⟨b, o, e, h2⟩ := h hn
  exact ⟨b, o, e, fun i x hx => kept_cell hb (h2 i x hx)⟩

/-- The bytes of an instruction's bits, the highest first. -/
def bytesP (size x : Int) : List Int := if size = 2 then [x / 256 % 256, x % 256] else [x / 256 / 256 / 256 % 256, x / 256 / 256 % 256, x / 256 % 256, x % 256]

theorem coded_size {op : Int} {fs : List Int} (h : (codedP op fs).2 = true) : isP op = true := by
  cases hi : isP op with
  | true => rfl
  | false => rw [isP_out hi] at h; simp at h

theorem sizeP_is {op : Int} (h : isP op = true) : sizeP op = 2 ∨ sizeP op = 4 := by
  unfold isP at h
  rw [Bool.and_eq_true, decide_eq_true_eq, decide_eq_true_eq] at h
  unfold sizeP
  rw [if_neg (by omega)]
  by_cases h2 : op < 43
  · rw [if_pos h2]; exact .inl rfl
  · rw [if_neg h2]; exact .inr rfl

set_option maxHeartbeats 800000 in
set_option maxRecDepth 20000 in
theorem encode_no (op : Int) (sl : Value) (fs : List Int) (w : World) (T : Tab w) (hF : SliceIs w sl fs) (hR : InRange fs) (h : (codedP op fs).2 = false) :
    Calls Tryd.prog 11 #[.agg #[.int .i64 op, sl]] w fun e w' => e = .returned (.tuple #[.slice none 0 0, .bool false]) ∧ Below w.heap.size w w' := by
  have hb0 : Below w.heap.size w (w.alloc (.cells #[.int .i64 op, sl] 28)) := (Below.refl _ _).alloc (Nat.le_refl _) _
  have C := coded_any op sl fs _ (T.later hb0) (hF.later hb0) hR
  obtain ⟨p, cap, rfl, _⟩ := hF
  unfold two at C
  generalize codedP op fs = r at *
  obtain ⟨x, is⟩ := r
  simp only at h
  subst h
  go_enter Tryd.func11, Tryd.ntmps11
  go_wp2_with (go_at_call 27; refine C.mono ?_; rintro e w1 ⟨rfl, hw1⟩)
  go_ret2
  exact ⟨rfl, hb0.trans (hw1.mono hb0.size)⟩

theorem make2 (w : World) : (Instr.makeSlice 22 (.int .i64 2) (.int .i64 2)).run Tryd.prog w = .ok (.slice (some ⟨w.heap.size, 0, none⟩) 2 2) (w.alloc (.cells #[.int .u8 0, .int .u8 0] 5)) :=
  by
    have h := run_make_row' (P := Tryd.prog) 22 5 (.int .u8 0) 1 Tryd.underlying22 (by kernel_rfl) rfl .i64 .i64 2 (by omega) (by omega) w
    rw [show ((2 : Nat) : Int) = 2 from rfl, show madeCells #[Value.int .u8 0] 2 = #[.int .u8 0, .int .u8 0] from by kernel_rfl] at h
    exact h
theorem make4 (w : World) : (Instr.makeSlice 22 (.int .i64 4) (.int .i64 4)).run Tryd.prog w = .ok (.slice (some ⟨w.heap.size, 0, none⟩) 4 4) (w.alloc (.cells #[.int .u8 0, .int .u8 0, .int .u8 0, .int .u8 0] 5)) :=
  by
    have h := run_make_row' (P := Tryd.prog) 22 5 (.int .u8 0) 1 Tryd.underlying22 (by kernel_rfl) rfl .i64 .i64 4 (by omega) (by omega) w
    rw [show ((4 : Nat) : Int) = 4 from rfl, show madeCells #[Value.int .u8 0] 4 = #[.int .u8 0, .int .u8 0, .int .u8 0, .int .u8 0] from by kernel_rfl] at h
    exact h

set_option maxHeartbeats 1600000 in
set_option maxRecDepth 20000 in
theorem encode_yes (op : Int) (sl : Value) (fs : List Int) (w : World) (T : Tab w) (hF : SliceIs w sl fs) (hR : InRange fs) (h : (codedP op fs).2 = true) :
    Calls Tryd.prog 11 #[.agg #[.int .i64 op, sl]] w fun e w' => ∃ v, e = .returned (.tuple #[v, .bool true]) ∧ Below w.heap.size w w' ∧ BytesIs w' v (bytesP (sizeP op) (codedP op fs).1) := by
  have hb0 : Below w.heap.size w (w.alloc (.cells #[.int .i64 op, sl] 28)) := (Below.refl _ _).alloc (Nat.le_refl _) _
  have C := coded_any op sl fs _ (T.later hb0) (hF.later hb0) hR
  have cA := new_cell (w := w) (t := 28) #[.int .i64 op, sl] 0 (.int .i64 op) rfl
  have hz := sizeP_is (coded_size h)
  have Z := fun W => size_any op W
  obtain ⟨p, cap, rfl, _⟩ := hF
  unfold two at C
  generalize codedP op fs = r at *
  obtain ⟨x, is⟩ := r
  simp only at h
  subst h
  rcases hz with hz | hz
  · rw [hz] at Z ⊢
    have mk := make2
    clear hz T hR
    go_enter Tryd.func11, Tryd.ntmps11
    go_wp2_with (first | (go_at_call 27; refine C.mono ?_; rintro e w1 ⟨rfl, hw1⟩; have c1 := kept_cell hw1 cA) | (go_at_call 14; refine (Z _).mono ?_; rintro e w2 ⟨rfl, rfl⟩))
    refine wp_loop_rounds 3 ?_
    rw [rounds_succ]
    go_wp2
    rw [rounds_succ]
    go_wp2
    rw [rounds_succ]
    go_wp2
    go_ret2
    refine ⟨_, rfl, (hb0.trans (hw1.mono hb0.size)).alloc (Nat.le_trans hb0.size hw1.size) _, some ⟨w1.heap.size, 0, none⟩, 2, rfl, fun _ => ⟨w1.heap.size, 0, rfl, fun i y hy => ?_⟩⟩
    have hx := new_cell (w := w1) (t := 5) #[.int .u8 (x / 256 % 256), .int .u8 (x % 256)] i (.int .u8 y) (by
      have : (#[.int .u8 (x / 256 % 256), .int .u8 (x % 256)] : Array Value) = ((bytesP 2 x).map fun b => Value.int .u8 b).toArray := rfl
      rw [this]; simp [hy])
    simpa using hx
  · rw [hz] at Z ⊢
    have mk := make4
    clear hz T hR
    go_enter Tryd.func11, Tryd.ntmps11
    go_wp2_with (first | (go_at_call 27; refine C.mono ?_; rintro e w1 ⟨rfl, hw1⟩; have c1 := kept_cell hw1 cA) | (go_at_call 14; refine (Z _).mono ?_; rintro e w2 ⟨rfl, rfl⟩))
    refine wp_loop_rounds 5 ?_
    rw [rounds_succ]
    go_wp2
    rw [rounds_succ]
    go_wp2
    rw [rounds_succ]
    go_wp2
    rw [rounds_succ]
    go_wp2
    rw [rounds_succ]
    go_wp2
    go_ret2
    refine ⟨_, rfl, (hb0.trans (hw1.mono hb0.size)).alloc (Nat.le_trans hb0.size hw1.size) _, some ⟨w1.heap.size, 0, none⟩, 4, rfl, fun _ => ⟨w1.heap.size, 0, rfl, fun i y hy => ?_⟩⟩
    have hx := new_cell (w := w1) (t := 5) #[.int .u8 (x / 256 / 256 / 256 % 256), .int .u8 (x / 256 / 256 % 256), .int .u8 (x / 256 % 256), .int .u8 (x % 256)] i (.int .u8 y) (by
      have : (#[.int .u8 (x / 256 / 256 / 256 % 256), .int .u8 (x / 256 / 256 % 256), .int .u8 (x / 256 % 256), .int .u8 (x % 256)] : Array Value) = ((bytesP 4 x).map fun b => Value.int .u8 b).toArray := rfl
      rw [this]; simp [hy])
    simpa using hx
end Go.Proofs.YtnmclpphiajleaaDoor
