/- The contract of Encode once more: the answer's room is no less than its length. -/
import Derived.Test.YtnmclpphiajleaaDoorLead
namespace Go.Proofs.YtnmclpphiajleaaDoor
open Go.ChangeShapes Go.WideShapes Go.ChangeAt Go.RowKit
open Plain
set_option linter.unusedVariables false
set_option linter.unusedSimpArgs false

theorem BytesAt.later {w w' : World} {v : Value} {bs : List Int} (h : BytesAt w v bs) (hb : Below w.heap.size w w') : BytesAt w' v bs := by
  obtain ⟨p, cap, rfl, hc, h⟩ := h
  refine ⟨p, cap, rfl, hc, fun hn => ?_⟩
  obtain ⟨b, o, e, h2⟩ := h hn
  exact ⟨b, o, e, fun i x hx => kept_cell hb (h2 i x hx)⟩

set_option maxHeartbeats 1600000 in
set_option maxRecDepth 20000 in
theorem encode_at (op : Int) (sl : Value) (fs : List Int) (w : World) (T : Tab w) (hF : SliceIs w sl fs) (hR : InRange fs) (h : (codedP op fs).2 = true) :
    Calls Tryd.prog 11 #[.agg #[.int .i64 op, sl]] w fun e w' => ∃ v, e = .returned (.tuple #[v, .bool true]) ∧ Below w.heap.size w w' ∧ BytesAt w' v (bytesP (sizeP op) (codedP op fs).1) := by
  have hb0 : Below w.heap.size w (w.alloc (.cells #[.int .i64 op, sl] 28)) := (Below.refl _ _).alloc (Nat.le_refl _) _
  have C := coded_any op sl fs _ (T.later hb0) (hF.later hb0) hR
  have cA := new_cell (w := w) (t := 28) #[.int .i64 op, sl] 0 (.int .i64 op) rfl
  have hz := sizeP_is (coded_size h)
  have Z := fun W => size_any op W
  obtain ⟨p, cap, rfl, _⟩ := hF
  unfold two at C
  generalize codedP op fs = r at *
  obtain ⟨x, is⟩ := r
  simp only at h
  subst h
  rcases hz with hz | hz
  · rw [hz] at Z ⊢
    have mk := make2
    clear hz T hR
    go_enter Tryd.func11, Tryd.ntmps11
    go_wp2_with (first | (go_at_call 27; refine C.mono ?_; rintro e w1 ⟨rfl, hw1⟩; have c1 := kept_cell hw1 cA) | (go_at_call 14; refine (Z _).mono ?_; rintro e w2 ⟨rfl, rfl⟩))
    refine wp_loop_rounds 3 ?_
    rw [rounds_succ]
    go_wp2
    rw [rounds_succ]
    go_wp2
    rw [rounds_succ]
    go_wp2
    go_ret2
    refine ⟨_, rfl, (hb0.trans (hw1.mono hb0.size)).alloc (Nat.le_trans hb0.size hw1.size) _, some ⟨w1.heap.size, 0, none⟩, 2, rfl, Nat.le_refl _, fun _ => ⟨w1.heap.size, 0, rfl, fun i y hy => ?_⟩⟩
    have hx := new_cell (w := w1) (t := 5) #[.int .u8 (x / 256 % 256), .int .u8 (x % 256)] i (.int .u8 y) (by
      have : (#[.int .u8 (x / 256 % 256), .int .u8 (x % 256)] : Array Value) = ((bytesP 2 x).map fun b => Value.int .u8 b).toArray := rfl
      rw [this]; simp [hy])
    simpa using hx
  · rw [hz] at Z ⊢
    have mk := make4
    clear hz T hR
    go_enter Tryd.func11, Tryd.ntmps11
    go_wp2_with (first | (go_at_call 27; refine C.mono ?_; rintro e w1 ⟨rfl, hw1⟩; have c1 := kept_cell hw1 cA) | (go_at_call 14; refine (Z _).mono ?_; rintro e w2 ⟨rfl, rfl⟩))
    refine wp_loop_rounds 5 ?_
    rw [rounds_succ]
    go_wp2
    rw [rounds_succ]
    go_wp2
    rw [rounds_succ]
    go_wp2
    rw [rounds_succ]
    go_wp2
    rw [rounds_succ]
    go_wp2
    go_ret2
    refine ⟨_, rfl, (hb0.trans (hw1.mono hb0.size)).alloc (Nat.le_trans hb0.size hw1.size) _, some ⟨w1.heap.size, 0, none⟩, 4, rfl, Nat.le_refl _, fun _ => ⟨w1.heap.size, 0, rfl, fun i y hy => ?_⟩⟩
    have hx := new_cell (w := w1) (t := 5) #[.int .u8 (x / 256 / 256 / 256 % 256), .int .u8 (x / 256 / 256 % 256), .int .u8 (x / 256 % 256), .int .u8 (x % 256)] i (.int .u8 y) (by
      have : (#[.int .u8 (x / 256 / 256 / 256 % 256), .int .u8 (x / 256 / 256 % 256), .int .u8 (x / 256 % 256), .int .u8 (x % 256)] : Array Value) = ((bytesP 4 x).map fun b => Value.int .u8 b).toArray := rfl
      rw [this]; simp [hy])
    simpa using hx
end Go.Proofs.YtnmclpphiajleaaDoor
