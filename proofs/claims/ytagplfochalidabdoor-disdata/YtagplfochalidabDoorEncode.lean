/- The contracts of Right and Encode. -/
import Derived.Test.YtagplfochalidabDoorCoded
namespace Go.Proofs.YtagplfochalidabDoor
open Go.ChangeShapes Go.WideShapes Go.ChangeAt Go.RowKit
open Plain
set_option linter.unusedVariables false
set_option linter.unusedSimpArgs false

/-- The slice v holds the bytes bs. -/
def BytesIs (w : World) (v : Value) (bs : List Int) : Prop :=
  ∃ p cap, v = .slice p bs.length cap ∧ (bs ≠ [] → ∃ b o, p = some ⟨b, o, none⟩ ∧ ∀ i x, bs[i]? = some x → w.cell? ⟨b, o + i, none⟩ = some (.int .u8 x))

theorem BytesIs.later {w w' : World} {v : Value} {bs : List Int} (h : BytesIs w v bs) (hb : Below w.heap.size w w') : BytesIs w' v bs := by
  obtain ⟨p, cap, rfl, h⟩ := h
  refine ⟨p, cap, rfl, fun hn => ?_⟩
  obtain ⟨b, o, e, h2⟩ := h hn
  exact ⟨b, o, e, fun i x hx => kept_cell hb (h2 i x hx)⟩

/-- The bytes of an instruction's bits, the highest first. -/
def bytesP (size x : Int) : List Int := if size = 2 then [x / 256 % 256, x % 256] else [x / 256 / 256 / 256 % 256, x / 256 / 256 % 256, x / 256 % 256, x % 256]

theorem coded_size {op : Int} {fs : List Int} (h : (codedP op fs).2 = true) : isP op = true := by
  cases hi : isP op with
  | true => rfl
  | false => rw [isP_out hi] at h; simp at h

theorem sizeP_is {op : Int} (h : isP op = true) : sizeP op = 2 ∨ sizeP op = 4 := by
  unfold isP at h
  rw [Bool.and_eq_true, decide_eq_true_eq, decide_eq_true_eq] at h
  unfold sizeP
  rw [if_neg (by omega)]
  by_cases h2 : op < 43
  · rw [if_pos h2]; exact .inl rfl
  · rw [if_neg h2]; exact .inr rfl

end Go.Proofs.YtagplfochalidabDoor
