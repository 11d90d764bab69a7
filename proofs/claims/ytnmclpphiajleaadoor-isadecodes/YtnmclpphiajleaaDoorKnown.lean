/- The chapter's example: known is true. -/
import Derived.Test.YtnmclpphiajleaaDoorDecode
namespace Go.Proofs.YtnmclpphiajleaaDoor
open Go.ChangeShapes Go.WideShapes Go.ChangeAt Go.RowKit
open Plain
set_option linter.unusedVariables false
set_option linter.unusedSimpArgs false

theorem coded3 : codedP 3 [] = (4, true) := by decide +kernel
theorem row3 : rowP 3 = ⟨[115, 101, 95, 98, 108, 114], 4, []⟩ := by rfl
theorem size3 : sizeP 3 = 2 := by decide
theorem size48 : sizeP 48 = 4 := by decide
theorem kinds15 : (rowP 15).kinds = [88, 32, 89] := by decide +kernel
theorem decode3 : decodeP [0, 4, 9] = some (3, [], 2) := by decide +kernel

set_option maxHeartbeats 1600000 in
set_option maxRecDepth 20000 in
theorem known_true (w : World) (T : Tab w) : Calls Tryd.prog 4 #[] w fun e w' => e = .returned (.bool true) ∧ Below w.heap.size w w' := by
  have E := encode_yes 3 (.slice none 0 0) [] w T ⟨none, 0, rfl, fun h => absurd rfl h⟩ (fun x hx => by simp at hx) (by rw [coded3])
  rw [coded3, size3] at E
  go_enter Tryd.func4, Tryd.ntmps4
  go_wp2_with fail
  refine E.mono ?_
  rintro e w1 ⟨v, rfl, hw1, hB⟩
  obtain ⟨p, cap, rfl, hB⟩ := hB
  obtain ⟨b, o, rfl, hC⟩ := hB (by simp [bytesP])
  have c1 : w1.cell? ⟨b, o + 1, none⟩ = some (.int .u8 4) := hC 1 4 (by decide)
  rw [show (bytesP 2 4).length = 2 from rfl]
  clear hB hC E
  have hbA : Below w.heap.size w (w1.alloc (.cells #[.int .u8 0, .int .u8 4, .int .u8 9] 5)) := hw1.alloc hw1.size _
  have D := decode_any (.slice (some ⟨w1.heap.size, 0, none⟩) 3 3) [0, 4, 9] _ (T.later hbA)
    ⟨some ⟨w1.heap.size, 0, none⟩, 3, rfl, by simp, fun _ => ⟨w1.heap.size, 0, rfl, fun i x hx => by
      rw [Nat.zero_add]
      exact new_cell (w := w1) (t := 5) #[.int .u8 0, .int .u8 4, .int .u8 9] i _ (by
        have e : (#[.int .u8 0, .int .u8 4, .int .u8 9] : Array Value) = (([0, 4, 9] : List Int).map fun b => Value.int .u8 b).toArray := rfl
        rw [e]; simp only [List.getElem?_toArray, List.getElem?_map, hx, Option.map_some])⟩⟩
    (by intro x hx; simp at hx; omega)
  rw [decode3] at D
  go_wp2_with fail
  refine D.mono ?_
  rintro e w2 ⟨hw2, v, rfl, hS⟩
  obtain ⟨p2, cap2, rfl, _⟩ := hS
  have c2 := kept_cell hw2 (kept_alloc c1)
  have hb2 := hbA.trans (hw2.mono hbA.size)
  have hb3 : Below w.heap.size w (w2.alloc (.cells #[.int .i64 3, .slice p2 0 cap2] 28)) := hb2.alloc hb2.size _
  have c3 := kept_alloc (o := .cells #[.int .i64 3, .slice p2 0 cap2] 28) c2
  have c4 := new_cell (w := w2) (t := 28) #[.int .i64 3, .slice p2 0 cap2] 0 (.int .i64 3) rfl
  have N := fun W T' => name_any 3 W T'
  have KK := fun W T' => kinds_any 15 W T'
  have Z := fun W => size_any 48 W
  rw [row3] at N
  rw [kinds15] at KK
  rw [size48] at Z
  clear c1 c2 D hw1 hbA hw2 hb2
  go_wp2_with (first | (go_at_call 12; refine (N _ (T.later hb3)).mono ?_; rintro e w3 ⟨rfl, hw3⟩; have hb4 := hb3.trans (hw3.mono hb3.size)) | (go_at_call 13; refine (KK _ (T.later hb4)).mono ?_; rintro e w4 ⟨rfl, hw4⟩; have hb5 := hb4.trans (hw4.mono hb4.size)) | (go_at_call 14; refine (Z _).mono ?_; rintro e w' ⟨rfl, rfl⟩))
  go_ret
  exact ⟨rfl, hb5⟩
end Go.Proofs.YtnmclpphiajleaaDoor
