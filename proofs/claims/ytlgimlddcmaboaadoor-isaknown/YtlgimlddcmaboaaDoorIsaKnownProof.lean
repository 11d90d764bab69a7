/- For whatever which: the listed instructions are just the listed bytes. -/
import Derived.Test.YtlgimlddcmaboaaDoorRows
import Derived.WalkKit
import Derived.ProofKit
import Derived.OpenShut
import Derived.LaidMore
import Derived.Stop.Joined
import Derived.SevenTiedAt
import Derived.Laws.BytesArg
import Derived.Test.YtlgimlddcmaboaaDoorTie
import Derived.Test.YtlgimlddcmaboaaDoorCards
import Derived.Test.YtlgimlddcmaboaaDoorDoor
namespace Go.Proofs.YtlgimlddcmaboaaDoor.isaKnown
open Plain
open Go.ChangeShapes Go.WideShapes Go.ChangeAt Go.RowKit
set_option linter.unusedVariables false
set_option linter.unusedSimpArgs false

theorem own : ownKnob Tryd.prog.godebug = none := by kernel_rfl

theorem below_more {w W : World} {o : Obj} (h : Below w.heap.size w W) : Below w.heap.size w (W.alloc o) := h.alloc h.size o

theorem conv_any {W : World} (b o m cap : Nat) (xs : List Int) (hlen : xs.length = m) (hc : ∀ i x, xs[i]? = some x → W.cell? ⟨b, o + i, none⟩ = some (.int .u8 x)) (n : Nat) :
    (convert 23 9 (.slice (some ⟨b, o, none⟩) m cap)).run Tryd.prog (W.drewN n) = .ok (.string (strOfNums xs)) (W.drewN n) :=
  run_convert_bytes_arg (P := Tryd.prog) (W.drewN n) 23 5 Tryd.underlying23 Tryd.underlying5 b o m cap xs hlen (fun i hi => by
    have hx : xs[i]? = some (xs.getD i 0) := by rw [List.getD_eq_getElem?_getD, List.getElem?_eq_getElem (by omega)]; rfl
    exact hc i _ hx) 9 Tryd.underlying9

theorem slice_is0 {W : World} : SliceIs W (.slice none 0 0) [] := ⟨none, 0, rfl, fun h => absurd rfl h⟩
theorem slice_is1 {W : World} {b : Nat} {x : Int} (c0 : W.cell? ⟨b, 0, none⟩ = some (.int .i64 x)) : SliceIs W (.slice (some ⟨b, 0, none⟩) 1 1) [x] :=
  ⟨_, _, rfl, fun _ => ⟨b, 0, rfl, fun i v hv => by
    match i, hv with
    | 0, hv => simp at hv; subst hv; exact c0
    | i + 1, hv => simp at hv⟩⟩
theorem slice_is2 {W : World} {b : Nat} {x y : Int} (c0 : W.cell? ⟨b, 0, none⟩ = some (.int .i64 x)) (c1 : W.cell? ⟨b, 1, none⟩ = some (.int .i64 y)) : SliceIs W (.slice (some ⟨b, 0, none⟩) 2 2) [x, y] :=
  ⟨_, _, rfl, fun _ => ⟨b, 0, rfl, fun i v hv => by
    match i, hv with
    | 0, hv => simp at hv; subst hv; exact c0
    | 1, hv => simp at hv; subst hv; exact c1
    | i + 2, hv => simp at hv⟩⟩
theorem slice_is3 {W : World} {b : Nat} {x y z : Int} (c0 : W.cell? ⟨b, 0, none⟩ = some (.int .i64 x)) (c1 : W.cell? ⟨b, 1, none⟩ = some (.int .i64 y)) (c2 : W.cell? ⟨b, 2, none⟩ = some (.int .i64 z)) : SliceIs W (.slice (some ⟨b, 0, none⟩) 3 3) [x, y, z] :=
  ⟨_, _, rfl, fun _ => ⟨b, 0, rfl, fun i v hv => by
    match i, hv with
    | 0, hv => simp at hv; subst hv; exact c0
    | 1, hv => simp at hv; subst hv; exact c1
    | 2, hv => simp at hv; subst hv; exact c2
    | i + 3, hv => simp at hv⟩⟩

/-- Blocks that are made one behind the other. -/
theorem allocs_below (os : List Obj) : ∀ (w v : World), Below w.heap.size w v → Below w.heap.size w (os.foldl World.alloc v) := by
  induction os with
  | nil => intro w v h; exact h
  | cons o os ih => intro w v h; exact ih w (v.alloc o) (h.alloc h.size o)

theorem allocs_cell (os : List Obj) : ∀ (w : World) (j i : Nat) (c : Array Value) (t : TypeId) (x : Value), os[j]? = some (.cells c t (0, 0)) → c[i]? = some x → (os.foldl World.alloc w).cell? ⟨w.heap.size + j, i, none⟩ = some x := by
  induction os with
  | nil => intro w j i c t x h; simp at h
  | cons o os ih =>
    intro w j i c t x h hx
    cases j with
    | zero =>
      simp at h
      subst h
      exact kept_cell (allocs_below os _ _ (Below.refl _ _)) (new_cell c i x hx)
    | succ j =>
      have := ih (w.alloc o) j i c t x (by simpa using h) hx
      rw [show (w.alloc o).heap.size = w.heap.size + 1 by simp] at this
      rw [show w.heap.size + (j + 1) = w.heap.size + 1 + j by omega]
      exact this

/-- What the statement lays. -/
def laidObjs (v1 : World) : List Obj := [
  .cells #[.int .i64 3, .int .i64 4] 3,
  .cells #[.int .i64 24, .int .i64 31] 3,
  .cells #[.int .i64 5, .int .i64 32] 3,
  .cells #[.int .i64 7, .int .i64 127] 3,
  .cells #[.int .i64 3, .int .i64 60, .int .i64 1] 3,
  .cells #[.int .i64 1, .int .i64 2, .int .i64 (-2)] 3,
  .cells #[.int .i64 (-256)] 3,
  .cells #[.int .i64 254] 3,
  .cells #[.int .i64 3, .int .i64 4, .int .i64 (-1)] 3,
  .cells #[.int .i64 31, .int .i64 0, .int .i64 256] 3,
  .cells #[.int .i64 3, .int .i64 (-1)] 3,
  .cells #[.int .i64 31, .int .i64 2049] 3,
  .cells #[.int .i64 1, .int .i64 (-4), .int .i64 2] 3,
  .cells #[.int .i64 (-2)] 3,
  .cells #[.int .i64 4] 3,
  .cells #[.int .i64 2, .int .i64 5, .int .i64 (-32768)] 3,
  .cells #[.int .i64 1, .int .i64 2, .int .i64 3] 3,
  .cells #[.int .i64 1, .int .i64 2, .int .i64 3] 3,
  .cells #[.int .i64 0, .slice none 0 0, .int .i64 15, .slice (some ⟨v1.heap.size, 0, none⟩) 2 2, .int .i64 16, .slice (some ⟨v1.heap.size + 1, 0, none⟩) 2 2, .int .i64 21, .slice (some ⟨v1.heap.size + 1 + 1, 0, none⟩) 2 2, .int .i64 28, .slice (some ⟨v1.heap.size + 1 + 1 + 1, 0, none⟩) 2 2, .int .i64 38, .slice (some ⟨v1.heap.size + 1 + 1 + 1 + 1, 0, none⟩) 3 3, .int .i64 40, .slice (some ⟨v1.heap.size + 1 + 1 + 1 + 1 + 1, 0, none⟩) 3 3, .int .i64 41, .slice (some ⟨v1.heap.size + 1 + 1 + 1 + 1 + 1 + 1, 0, none⟩) 1 1, .int .i64 42, .slice (some ⟨v1.heap.size + 1 + 1 + 1 + 1 + 1 + 1 + 1, 0, none⟩) 1 1, .int .i64 43, .slice (some ⟨v1.heap.size + 1 + 1 + 1 + 1 + 1 + 1 + 1 + 1, 0, none⟩) 3 3, .int .i64 44, .slice (some ⟨v1.heap.size + 1 + 1 + 1 + 1 + 1 + 1 + 1 + 1 + 1, 0, none⟩) 3 3, .int .i64 48, .slice (some ⟨v1.heap.size + 1 + 1 + 1 + 1 + 1 + 1 + 1 + 1 + 1 + 1, 0, none⟩) 2 2, .int .i64 48, .slice (some ⟨v1.heap.size + 1 + 1 + 1 + 1 + 1 + 1 + 1 + 1 + 1 + 1 + 1, 0, none⟩) 2 2, .int .i64 52, .slice (some ⟨v1.heap.size + 1 + 1 + 1 + 1 + 1 + 1 + 1 + 1 + 1 + 1 + 1 + 1, 0, none⟩) 3 3, .int .i64 56, .slice (some ⟨v1.heap.size + 1 + 1 + 1 + 1 + 1 + 1 + 1 + 1 + 1 + 1 + 1 + 1 + 1, 0, none⟩) 1 1, .int .i64 57, .slice (some ⟨v1.heap.size + 1 + 1 + 1 + 1 + 1 + 1 + 1 + 1 + 1 + 1 + 1 + 1 + 1 + 1, 0, none⟩) 1 1, .int .i64 58, .slice (some ⟨v1.heap.size + 1 + 1 + 1 + 1 + 1 + 1 + 1 + 1 + 1 + 1 + 1 + 1 + 1 + 1 + 1, 0, none⟩) 3 3, .int .i64 60, .slice (some ⟨v1.heap.size + 1 + 1 + 1 + 1 + 1 + 1 + 1 + 1 + 1 + 1 + 1 + 1 + 1 + 1 + 1 + 1, 0, none⟩) 3 3, .int .i64 63, .slice (some ⟨v1.heap.size + 1 + 1 + 1 + 1 + 1 + 1 + 1 + 1 + 1 + 1 + 1 + 1 + 1 + 1 + 1 + 1 + 1, 0, none⟩) 3 3] 26,
  .cells #[.int .u8 0, .int .u8 0] 5,
  .cells #[.int .u8 1, .int .u8 67] 5,
  .cells #[.int .u8 4, .int .u8 248] 5,
  .cells #[.int .u8 33, .int .u8 245] 5,
  .cells #[.int .u8 79, .int .u8 247] 5,
  .cells #[.int .u8 207, .int .u8 49] 5,
  .cells #[.int .u8 230, .int .u8 255] 5,
  .cells #[.int .u8 232, .int .u8 128] 5,
  .cells #[.int .u8 233, .int .u8 127] 5,
  .cells #[.int .u8 28, .int .u8 100, .int .u8 255, .int .u8 255] 5,
  .cells #[.int .u8 27, .int .u8 224, .int .u8 129, .int .u8 1] 5,
  .cells #[.int .u8 112, .int .u8 127, .int .u8 127, .int .u8 255] 5,
  .cells #[.int .u8 115, .int .u8 225, .int .u8 0, .int .u8 1] 5,
  .cells #[.int .u8 80, .int .u8 34, .int .u8 255, .int .u8 252] 5,
  .cells #[.int .u8 121, .int .u8 255, .int .u8 255, .int .u8 254] 5,
  .cells #[.int .u8 120, .int .u8 0, .int .u8 0, .int .u8 5] 5,
  .cells #[.int .u8 122, .int .u8 37, .int .u8 128, .int .u8 0] 5,
  .cells #[.int .u8 124, .int .u8 34, .int .u8 26, .int .u8 20] 5,
  .cells #[.int .u8 124, .int .u8 65, .int .u8 24, .int .u8 56] 5,
  .cells #[.slice (some ⟨v1.heap.size + 1 + 1 + 1 + 1 + 1 + 1 + 1 + 1 + 1 + 1 + 1 + 1 + 1 + 1 + 1 + 1 + 1 + 1 + 1, 0, none⟩) 2 2, .slice (some ⟨v1.heap.size + 1 + 1 + 1 + 1 + 1 + 1 + 1 + 1 + 1 + 1 + 1 + 1 + 1 + 1 + 1 + 1 + 1 + 1 + 1 + 1, 0, none⟩) 2 2, .slice (some ⟨v1.heap.size + 1 + 1 + 1 + 1 + 1 + 1 + 1 + 1 + 1 + 1 + 1 + 1 + 1 + 1 + 1 + 1 + 1 + 1 + 1 + 1 + 1, 0, none⟩) 2 2, .slice (some ⟨v1.heap.size + 1 + 1 + 1 + 1 + 1 + 1 + 1 + 1 + 1 + 1 + 1 + 1 + 1 + 1 + 1 + 1 + 1 + 1 + 1 + 1 + 1 + 1, 0, none⟩) 2 2, .slice (some ⟨v1.heap.size + 1 + 1 + 1 + 1 + 1 + 1 + 1 + 1 + 1 + 1 + 1 + 1 + 1 + 1 + 1 + 1 + 1 + 1 + 1 + 1 + 1 + 1 + 1, 0, none⟩) 2 2, .slice (some ⟨v1.heap.size + 1 + 1 + 1 + 1 + 1 + 1 + 1 + 1 + 1 + 1 + 1 + 1 + 1 + 1 + 1 + 1 + 1 + 1 + 1 + 1 + 1 + 1 + 1 + 1, 0, none⟩) 2 2, .slice (some ⟨v1.heap.size + 1 + 1 + 1 + 1 + 1 + 1 + 1 + 1 + 1 + 1 + 1 + 1 + 1 + 1 + 1 + 1 + 1 + 1 + 1 + 1 + 1 + 1 + 1 + 1 + 1, 0, none⟩) 2 2, .slice (some ⟨v1.heap.size + 1 + 1 + 1 + 1 + 1 + 1 + 1 + 1 + 1 + 1 + 1 + 1 + 1 + 1 + 1 + 1 + 1 + 1 + 1 + 1 + 1 + 1 + 1 + 1 + 1 + 1, 0, none⟩) 2 2, .slice (some ⟨v1.heap.size + 1 + 1 + 1 + 1 + 1 + 1 + 1 + 1 + 1 + 1 + 1 + 1 + 1 + 1 + 1 + 1 + 1 + 1 + 1 + 1 + 1 + 1 + 1 + 1 + 1 + 1 + 1, 0, none⟩) 2 2, .slice (some ⟨v1.heap.size + 1 + 1 + 1 + 1 + 1 + 1 + 1 + 1 + 1 + 1 + 1 + 1 + 1 + 1 + 1 + 1 + 1 + 1 + 1 + 1 + 1 + 1 + 1 + 1 + 1 + 1 + 1 + 1, 0, none⟩) 4 4, .slice (some ⟨v1.heap.size + 1 + 1 + 1 + 1 + 1 + 1 + 1 + 1 + 1 + 1 + 1 + 1 + 1 + 1 + 1 + 1 + 1 + 1 + 1 + 1 + 1 + 1 + 1 + 1 + 1 + 1 + 1 + 1 + 1, 0, none⟩) 4 4, .slice (some ⟨v1.heap.size + 1 + 1 + 1 + 1 + 1 + 1 + 1 + 1 + 1 + 1 + 1 + 1 + 1 + 1 + 1 + 1 + 1 + 1 + 1 + 1 + 1 + 1 + 1 + 1 + 1 + 1 + 1 + 1 + 1 + 1, 0, none⟩) 4 4, .slice (some ⟨v1.heap.size + 1 + 1 + 1 + 1 + 1 + 1 + 1 + 1 + 1 + 1 + 1 + 1 + 1 + 1 + 1 + 1 + 1 + 1 + 1 + 1 + 1 + 1 + 1 + 1 + 1 + 1 + 1 + 1 + 1 + 1 + 1, 0, none⟩) 4 4, .slice (some ⟨v1.heap.size + 1 + 1 + 1 + 1 + 1 + 1 + 1 + 1 + 1 + 1 + 1 + 1 + 1 + 1 + 1 + 1 + 1 + 1 + 1 + 1 + 1 + 1 + 1 + 1 + 1 + 1 + 1 + 1 + 1 + 1 + 1 + 1, 0, none⟩) 4 4, .slice (some ⟨v1.heap.size + 1 + 1 + 1 + 1 + 1 + 1 + 1 + 1 + 1 + 1 + 1 + 1 + 1 + 1 + 1 + 1 + 1 + 1 + 1 + 1 + 1 + 1 + 1 + 1 + 1 + 1 + 1 + 1 + 1 + 1 + 1 + 1 + 1, 0, none⟩) 4 4, .slice (some ⟨v1.heap.size + 1 + 1 + 1 + 1 + 1 + 1 + 1 + 1 + 1 + 1 + 1 + 1 + 1 + 1 + 1 + 1 + 1 + 1 + 1 + 1 + 1 + 1 + 1 + 1 + 1 + 1 + 1 + 1 + 1 + 1 + 1 + 1 + 1 + 1, 0, none⟩) 4 4, .slice (some ⟨v1.heap.size + 1 + 1 + 1 + 1 + 1 + 1 + 1 + 1 + 1 + 1 + 1 + 1 + 1 + 1 + 1 + 1 + 1 + 1 + 1 + 1 + 1 + 1 + 1 + 1 + 1 + 1 + 1 + 1 + 1 + 1 + 1 + 1 + 1 + 1 + 1, 0, none⟩) 4 4, .slice (some ⟨v1.heap.size + 1 + 1 + 1 + 1 + 1 + 1 + 1 + 1 + 1 + 1 + 1 + 1 + 1 + 1 + 1 + 1 + 1 + 1 + 1 + 1 + 1 + 1 + 1 + 1 + 1 + 1 + 1 + 1 + 1 + 1 + 1 + 1 + 1 + 1 + 1 + 1, 0, none⟩) 4 4, .slice (some ⟨v1.heap.size + 1 + 1 + 1 + 1 + 1 + 1 + 1 + 1 + 1 + 1 + 1 + 1 + 1 + 1 + 1 + 1 + 1 + 1 + 1 + 1 + 1 + 1 + 1 + 1 + 1 + 1 + 1 + 1 + 1 + 1 + 1 + 1 + 1 + 1 + 1 + 1 + 1, 0, none⟩) 4 4] 23]

theorem kc0 : bytesP (sizeP 0) (codedP 0 []).1 = [0, 0] ∧ (codedP 0 []).2 = true := by decide +kernel
theorem kc1 : bytesP (sizeP 15) (codedP 15 [3, 4]).1 = [1, 67] ∧ (codedP 15 [3, 4]).2 = true := by decide +kernel
theorem kc2 : bytesP (sizeP 16) (codedP 16 [24, 31]).1 = [4, 248] ∧ (codedP 16 [24, 31]).2 = true := by decide +kernel
theorem kc3 : bytesP (sizeP 21) (codedP 21 [5, 32]).1 = [33, 245] ∧ (codedP 21 [5, 32]).2 = true := by decide +kernel
theorem kc4 : bytesP (sizeP 28) (codedP 28 [7, 127]).1 = [79, 247] ∧ (codedP 28 [7, 127]).2 = true := by decide +kernel
theorem kc5 : bytesP (sizeP 38) (codedP 38 [3, 60, 1]).1 = [207, 49] ∧ (codedP 38 [3, 60, 1]).2 = true := by decide +kernel
theorem kc6 : bytesP (sizeP 40) (codedP 40 [1, 2, -2]).1 = [230, 255] ∧ (codedP 40 [1, 2, -2]).2 = true := by decide +kernel
theorem kc7 : bytesP (sizeP 41) (codedP 41 [-256]).1 = [232, 128] ∧ (codedP 41 [-256]).2 = true := by decide +kernel
theorem kc8 : bytesP (sizeP 42) (codedP 42 [254]).1 = [233, 127] ∧ (codedP 42 [254]).2 = true := by decide +kernel
theorem kc9 : bytesP (sizeP 43) (codedP 43 [3, 4, -1]).1 = [28, 100, 255, 255] ∧ (codedP 43 [3, 4, -1]).2 = true := by decide +kernel
theorem kc10 : bytesP (sizeP 44) (codedP 44 [31, 0, 256]).1 = [27, 224, 129, 1] ∧ (codedP 44 [31, 0, 256]).2 = true := by decide +kernel
theorem kc11 : bytesP (sizeP 48) (codedP 48 [3, -1]).1 = [112, 127, 127, 255] ∧ (codedP 48 [3, -1]).2 = true := by decide +kernel
theorem kc12 : bytesP (sizeP 48) (codedP 48 [31, 2049]).1 = [115, 225, 0, 1] ∧ (codedP 48 [31, 2049]).2 = true := by decide +kernel
theorem kc13 : bytesP (sizeP 52) (codedP 52 [1, -4, 2]).1 = [80, 34, 255, 252] ∧ (codedP 52 [1, -4, 2]).2 = true := by decide +kernel
theorem kc14 : bytesP (sizeP 56) (codedP 56 [-2]).1 = [121, 255, 255, 254] ∧ (codedP 56 [-2]).2 = true := by decide +kernel
theorem kc15 : bytesP (sizeP 57) (codedP 57 [4]).1 = [120, 0, 0, 5] ∧ (codedP 57 [4]).2 = true := by decide +kernel
theorem kc16 : bytesP (sizeP 58) (codedP 58 [2, 5, -32768]).1 = [122, 37, 128, 0] ∧ (codedP 58 [2, 5, -32768]).2 = true := by decide +kernel
theorem kc17 : bytesP (sizeP 60) (codedP 60 [1, 2, 3]).1 = [124, 34, 26, 20] ∧ (codedP 60 [1, 2, 3]).2 = true := by decide +kernel
theorem kc18 : bytesP (sizeP 63) (codedP 63 [1, 2, 3]).1 = [124, 65, 24, 56] ∧ (codedP 63 [1, 2, 3]).2 = true := by decide +kernel

/-! ### The walk -/
set_option maxHeartbeats 8000000 in
set_option maxRecDepth 20000 in
theorem walk (a0 : Int) (w0 : (Lit.int .i64 a0).wf = true) (w : World) (T : Tab w) :
    Calls Tryd.prog 8 #[.int .i64 a0] w fun e w' => e = .returned (.bool true) ∧ Below w.heap.size w w' := by
  have K0 := known_true w T
  have hk : a0 % 19 = 0 ∨ a0 % 19 = 1 ∨ a0 % 19 = 2 ∨ a0 % 19 = 3 ∨ a0 % 19 = 4 ∨ a0 % 19 = 5 ∨ a0 % 19 = 6 ∨ a0 % 19 = 7 ∨ a0 % 19 = 8 ∨ a0 % 19 = 9 ∨ a0 % 19 = 10 ∨ a0 % 19 = 11 ∨ a0 % 19 = 12 ∨ a0 % 19 = 13 ∨ a0 % 19 = 14 ∨ a0 % 19 = 15 ∨ a0 % 19 = 16 ∨ a0 % 19 = 17 ∨ a0 % 19 = 18 := by omega
  have Wi := fun W => within_any a0 19 (by omega) (by omega) W
  go_enter Tryd.func8, Tryd.ntmps8
  go_wp2_with fail
  refine K0.mono ?_
  rintro e v1 ⟨rfl, hv1⟩
  go_wp2_with fail
  generalize hg : World.alloc _ _ = WW
  have hf : WW = (laidObjs v1).foldl World.alloc v1 := hg.symm.trans (by rfl)
  have hbW : Below w.heap.size w WW := by rw [hf]; exact allocs_below _ _ _ hv1
  have ce := fun j i c t x h hx => allocs_cell (laidObjs v1) v1 j i c t x h hx
  rw [← hf] at ce
  clear hg hf
  refine (Wi _).mono ?_
  rintro e w' ⟨rfl, rfl⟩
  clear K0 Wi
  rcases hk with hk | hk | hk | hk | hk | hk | hk | hk | hk | hk | hk | hk | hk | hk | hk | hk | hk | hk | hk
  · have i0 : WW.cell? ⟨v1.heap.size + 1 + 1 + 1 + 1 + 1 + 1 + 1 + 1 + 1 + 1 + 1 + 1 + 1 + 1 + 1 + 1 + 1 + 1, 0, none⟩ = some (.int .i64 0) := ce 18 0 _ _ _ rfl rfl
    have i1 : WW.cell? ⟨v1.heap.size + 1 + 1 + 1 + 1 + 1 + 1 + 1 + 1 + 1 + 1 + 1 + 1 + 1 + 1 + 1 + 1 + 1 + 1, 1, none⟩ = some (.slice none 0 0) := ce 18 1 _ _ _ rfl rfl
    have g : WW.cell? ⟨v1.heap.size + 1 + 1 + 1 + 1 + 1 + 1 + 1 + 1 + 1 + 1 + 1 + 1 + 1 + 1 + 1 + 1 + 1 + 1 + 1 + 1 + 1 + 1 + 1 + 1 + 1 + 1 + 1 + 1 + 1 + 1 + 1 + 1 + 1 + 1 + 1 + 1 + 1 + 1, 0, none⟩ = some (.slice (some ⟨v1.heap.size + 1 + 1 + 1 + 1 + 1 + 1 + 1 + 1 + 1 + 1 + 1 + 1 + 1 + 1 + 1 + 1 + 1 + 1 + 1, 0, none⟩) 2 2) := ce 38 0 _ _ _ rfl rfl
    have d : ∀ i x, ([0, 0] : List Int)[i]? = some x → WW.cell? ⟨v1.heap.size + 1 + 1 + 1 + 1 + 1 + 1 + 1 + 1 + 1 + 1 + 1 + 1 + 1 + 1 + 1 + 1 + 1 + 1 + 1, i, none⟩ = some (.int .u8 x) := fun i x hx => ce 19 i _ _ _ rfl (by
      have e : (#[.int .u8 0, .int .u8 0] : Array Value) = (([0, 0] : List Int).map fun b => Value.int .u8 b).toArray := rfl
      rw [e]; simp only [List.getElem?_toArray, List.getElem?_map, hx, Option.map_some])
    have E := encode_yes 0 (.slice none 0 0) [] WW (T.later hbW) (slice_is0 ) (by intro x hx; simp at hx <;> omega) kc0.2
    rw [kc0.1] at E
    clear ce 
    generalize v1.heap.size + 1 + 1 + 1 + 1 + 1 + 1 + 1 + 1 + 1 + 1 + 1 + 1 + 1 + 1 + 1 + 1 + 1 + 1 + 1 + 1 + 1 + 1 + 1 + 1 + 1 + 1 + 1 + 1 + 1 + 1 + 1 + 1 + 1 + 1 + 1 + 1 + 1 + 1 = B38 at *
    generalize v1.heap.size + 1 + 1 + 1 + 1 + 1 + 1 + 1 + 1 + 1 + 1 + 1 + 1 + 1 + 1 + 1 + 1 + 1 + 1 + 1 = B19 at *
    generalize v1.heap.size + 1 + 1 + 1 + 1 + 1 + 1 + 1 + 1 + 1 + 1 + 1 + 1 + 1 + 1 + 1 + 1 + 1 + 1 = B18 at *
    go_wp2_with (go_at_call 11; refine E.mono ?_; rintro e w2 ⟨v, rfl, hw2, hB⟩)
    obtain ⟨p, cap, rfl, hB⟩ := hB
    obtain ⟨bb, o, rfl, hC⟩ := hB (by simp)
    have g := kept_cell hw2 g
    have hbe := hbW.trans (hw2.mono hbW.size)
    have v1' := fun n => conv_any (W := w2) bb o 2 cap [0, 0] rfl hC n
    have v2' := fun n => conv_any (W := w2) B19 0 2 2 [0, 0] rfl (fun i x hx => by rw [Nat.zero_add]; exact kept_cell hw2 (d i x hx)) n
    rw [show ([0, 0] : List Int).length = 2 from rfl]
    clear hB hC E hw2 hbW i0 i1 d
    go_quiet (fail)
    go_wp2
    go_ret
    exact ⟨rfl, hbe.trans ((below_drewN _ _).mono hbe.size)⟩
  · have i0 : WW.cell? ⟨v1.heap.size + 1 + 1 + 1 + 1 + 1 + 1 + 1 + 1 + 1 + 1 + 1 + 1 + 1 + 1 + 1 + 1 + 1 + 1, 2, none⟩ = some (.int .i64 15) := ce 18 2 _ _ _ rfl rfl
    have i1 : WW.cell? ⟨v1.heap.size + 1 + 1 + 1 + 1 + 1 + 1 + 1 + 1 + 1 + 1 + 1 + 1 + 1 + 1 + 1 + 1 + 1 + 1, 3, none⟩ = some (.slice (some ⟨v1.heap.size, 0, none⟩) 2 2) := ce 18 3 _ _ _ rfl rfl
    have g : WW.cell? ⟨v1.heap.size + 1 + 1 + 1 + 1 + 1 + 1 + 1 + 1 + 1 + 1 + 1 + 1 + 1 + 1 + 1 + 1 + 1 + 1 + 1 + 1 + 1 + 1 + 1 + 1 + 1 + 1 + 1 + 1 + 1 + 1 + 1 + 1 + 1 + 1 + 1 + 1 + 1 + 1, 1, none⟩ = some (.slice (some ⟨v1.heap.size + 1 + 1 + 1 + 1 + 1 + 1 + 1 + 1 + 1 + 1 + 1 + 1 + 1 + 1 + 1 + 1 + 1 + 1 + 1 + 1, 0, none⟩) 2 2) := ce 38 1 _ _ _ rfl rfl
    have d : ∀ i x, ([1, 67] : List Int)[i]? = some x → WW.cell? ⟨v1.heap.size + 1 + 1 + 1 + 1 + 1 + 1 + 1 + 1 + 1 + 1 + 1 + 1 + 1 + 1 + 1 + 1 + 1 + 1 + 1 + 1, i, none⟩ = some (.int .u8 x) := fun i x hx => ce 20 i _ _ _ rfl (by
      have e : (#[.int .u8 1, .int .u8 67] : Array Value) = (([1, 67] : List Int).map fun b => Value.int .u8 b).toArray := rfl
      rw [e]; simp only [List.getElem?_toArray, List.getElem?_map, hx, Option.map_some])
    have f0 : WW.cell? ⟨v1.heap.size, 0, none⟩ = some (.int .i64 3) := ce 0 0 _ _ _ rfl rfl
    have f1 : WW.cell? ⟨v1.heap.size, 1, none⟩ = some (.int .i64 4) := ce 0 1 _ _ _ rfl rfl
    have E := encode_yes 15 (.slice (some ⟨v1.heap.size, 0, none⟩) 2 2) [3, 4] WW (T.later hbW) (slice_is2 f0 f1) (by intro x hx; simp at hx <;> omega) kc1.2
    rw [kc1.1] at E
    clear ce f0 f1
    generalize v1.heap.size + 1 + 1 + 1 + 1 + 1 + 1 + 1 + 1 + 1 + 1 + 1 + 1 + 1 + 1 + 1 + 1 + 1 + 1 + 1 + 1 + 1 + 1 + 1 + 1 + 1 + 1 + 1 + 1 + 1 + 1 + 1 + 1 + 1 + 1 + 1 + 1 + 1 + 1 = B38 at *
    generalize v1.heap.size + 1 + 1 + 1 + 1 + 1 + 1 + 1 + 1 + 1 + 1 + 1 + 1 + 1 + 1 + 1 + 1 + 1 + 1 + 1 + 1 = B19 at *
    generalize v1.heap.size + 1 + 1 + 1 + 1 + 1 + 1 + 1 + 1 + 1 + 1 + 1 + 1 + 1 + 1 + 1 + 1 + 1 + 1 = B18 at *
    go_wp2_with (go_at_call 11; refine E.mono ?_; rintro e w2 ⟨v, rfl, hw2, hB⟩)
    obtain ⟨p, cap, rfl, hB⟩ := hB
    obtain ⟨bb, o, rfl, hC⟩ := hB (by simp)
    have g := kept_cell hw2 g
    have hbe := hbW.trans (hw2.mono hbW.size)
    have v1' := fun n => conv_any (W := w2) bb o 2 cap [1, 67] rfl hC n
    have v2' := fun n => conv_any (W := w2) B19 0 2 2 [1, 67] rfl (fun i x hx => by rw [Nat.zero_add]; exact kept_cell hw2 (d i x hx)) n
    rw [show ([1, 67] : List Int).length = 2 from rfl]
    clear hB hC E hw2 hbW i0 i1 d
    go_quiet (fail)
    go_wp2
    go_ret
    exact ⟨rfl, hbe.trans ((below_drewN _ _).mono hbe.size)⟩
  · have i0 : WW.cell? ⟨v1.heap.size + 1 + 1 + 1 + 1 + 1 + 1 + 1 + 1 + 1 + 1 + 1 + 1 + 1 + 1 + 1 + 1 + 1 + 1, 4, none⟩ = some (.int .i64 16) := ce 18 4 _ _ _ rfl rfl
    have i1 : WW.cell? ⟨v1.heap.size + 1 + 1 + 1 + 1 + 1 + 1 + 1 + 1 + 1 + 1 + 1 + 1 + 1 + 1 + 1 + 1 + 1 + 1, 5, none⟩ = some (.slice (some ⟨v1.heap.size + 1, 0, none⟩) 2 2) := ce 18 5 _ _ _ rfl rfl
    have g : WW.cell? ⟨v1.heap.size + 1 + 1 + 1 + 1 + 1 + 1 + 1 + 1 + 1 + 1 + 1 + 1 + 1 + 1 + 1 + 1 + 1 + 1 + 1 + 1 + 1 + 1 + 1 + 1 + 1 + 1 + 1 + 1 + 1 + 1 + 1 + 1 + 1 + 1 + 1 + 1 + 1 + 1, 2, none⟩ = some (.slice (some ⟨v1.heap.size + 1 + 1 + 1 + 1 + 1 + 1 + 1 + 1 + 1 + 1 + 1 + 1 + 1 + 1 + 1 + 1 + 1 + 1 + 1 + 1 + 1, 0, none⟩) 2 2) := ce 38 2 _ _ _ rfl rfl
    have d : ∀ i x, ([4, 248] : List Int)[i]? = some x → WW.cell? ⟨v1.heap.size + 1 + 1 + 1 + 1 + 1 + 1 + 1 + 1 + 1 + 1 + 1 + 1 + 1 + 1 + 1 + 1 + 1 + 1 + 1 + 1 + 1, i, none⟩ = some (.int .u8 x) := fun i x hx => ce 21 i _ _ _ rfl (by
      have e : (#[.int .u8 4, .int .u8 248] : Array Value) = (([4, 248] : List Int).map fun b => Value.int .u8 b).toArray := rfl
      rw [e]; simp only [List.getElem?_toArray, List.getElem?_map, hx, Option.map_some])
    have f0 : WW.cell? ⟨v1.heap.size + 1, 0, none⟩ = some (.int .i64 24) := ce 1 0 _ _ _ rfl rfl
    have f1 : WW.cell? ⟨v1.heap.size + 1, 1, none⟩ = some (.int .i64 31) := ce 1 1 _ _ _ rfl rfl
    have E := encode_yes 16 (.slice (some ⟨v1.heap.size + 1, 0, none⟩) 2 2) [24, 31] WW (T.later hbW) (slice_is2 f0 f1) (by intro x hx; simp at hx <;> omega) kc2.2
    rw [kc2.1] at E
    clear ce f0 f1
    generalize v1.heap.size + 1 + 1 + 1 + 1 + 1 + 1 + 1 + 1 + 1 + 1 + 1 + 1 + 1 + 1 + 1 + 1 + 1 + 1 + 1 + 1 + 1 + 1 + 1 + 1 + 1 + 1 + 1 + 1 + 1 + 1 + 1 + 1 + 1 + 1 + 1 + 1 + 1 + 1 = B38 at *
    generalize v1.heap.size + 1 + 1 + 1 + 1 + 1 + 1 + 1 + 1 + 1 + 1 + 1 + 1 + 1 + 1 + 1 + 1 + 1 + 1 + 1 + 1 + 1 = B19 at *
    generalize v1.heap.size + 1 + 1 + 1 + 1 + 1 + 1 + 1 + 1 + 1 + 1 + 1 + 1 + 1 + 1 + 1 + 1 + 1 + 1 = B18 at *
    go_wp2_with (go_at_call 11; refine E.mono ?_; rintro e w2 ⟨v, rfl, hw2, hB⟩)
    obtain ⟨p, cap, rfl, hB⟩ := hB
    obtain ⟨bb, o, rfl, hC⟩ := hB (by simp)
    have g := kept_cell hw2 g
    have hbe := hbW.trans (hw2.mono hbW.size)
    have v1' := fun n => conv_any (W := w2) bb o 2 cap [4, 248] rfl hC n
    have v2' := fun n => conv_any (W := w2) B19 0 2 2 [4, 248] rfl (fun i x hx => by rw [Nat.zero_add]; exact kept_cell hw2 (d i x hx)) n
    rw [show ([4, 248] : List Int).length = 2 from rfl]
    clear hB hC E hw2 hbW i0 i1 d
    go_quiet (fail)
    go_wp2
    go_ret
    exact ⟨rfl, hbe.trans ((below_drewN _ _).mono hbe.size)⟩
  · have i0 : WW.cell? ⟨v1.heap.size + 1 + 1 + 1 + 1 + 1 + 1 + 1 + 1 + 1 + 1 + 1 + 1 + 1 + 1 + 1 + 1 + 1 + 1, 6, none⟩ = some (.int .i64 21) := ce 18 6 _ _ _ rfl rfl
    have i1 : WW.cell? ⟨v1.heap.size + 1 + 1 + 1 + 1 + 1 + 1 + 1 + 1 + 1 + 1 + 1 + 1 + 1 + 1 + 1 + 1 + 1 + 1, 7, none⟩ = some (.slice (some ⟨v1.heap.size + 1 + 1, 0, none⟩) 2 2) := ce 18 7 _ _ _ rfl rfl
    have g : WW.cell? ⟨v1.heap.size + 1 + 1 + 1 + 1 + 1 + 1 + 1 + 1 + 1 + 1 + 1 + 1 + 1 + 1 + 1 + 1 + 1 + 1 + 1 + 1 + 1 + 1 + 1 + 1 + 1 + 1 + 1 + 1 + 1 + 1 + 1 + 1 + 1 + 1 + 1 + 1 + 1 + 1, 3, none⟩ = some (.slice (some ⟨v1.heap.size + 1 + 1 + 1 + 1 + 1 + 1 + 1 + 1 + 1 + 1 + 1 + 1 + 1 + 1 + 1 + 1 + 1 + 1 + 1 + 1 + 1 + 1, 0, none⟩) 2 2) := ce 38 3 _ _ _ rfl rfl
    have d : ∀ i x, ([33, 245] : List Int)[i]? = some x → WW.cell? ⟨v1.heap.size + 1 + 1 + 1 + 1 + 1 + 1 + 1 + 1 + 1 + 1 + 1 + 1 + 1 + 1 + 1 + 1 + 1 + 1 + 1 + 1 + 1 + 1, i, none⟩ = some (.int .u8 x) := fun i x hx => ce 22 i _ _ _ rfl (by
      have e : (#[.int .u8 33, .int .u8 245] : Array Value) = (([33, 245] : List Int).map fun b => Value.int .u8 b).toArray := rfl
      rw [e]; simp only [List.getElem?_toArray, List.getElem?_map, hx, Option.map_some])
    have f0 : WW.cell? ⟨v1.heap.size + 1 + 1, 0, none⟩ = some (.int .i64 5) := ce 2 0 _ _ _ rfl rfl
    have f1 : WW.cell? ⟨v1.heap.size + 1 + 1, 1, none⟩ = some (.int .i64 32) := ce 2 1 _ _ _ rfl rfl
    have E := encode_yes 21 (.slice (some ⟨v1.heap.size + 1 + 1, 0, none⟩) 2 2) [5, 32] WW (T.later hbW) (slice_is2 f0 f1) (by intro x hx; simp at hx <;> omega) kc3.2
    rw [kc3.1] at E
    clear ce f0 f1
    generalize v1.heap.size + 1 + 1 + 1 + 1 + 1 + 1 + 1 + 1 + 1 + 1 + 1 + 1 + 1 + 1 + 1 + 1 + 1 + 1 + 1 + 1 + 1 + 1 + 1 + 1 + 1 + 1 + 1 + 1 + 1 + 1 + 1 + 1 + 1 + 1 + 1 + 1 + 1 + 1 = B38 at *
    generalize v1.heap.size + 1 + 1 + 1 + 1 + 1 + 1 + 1 + 1 + 1 + 1 + 1 + 1 + 1 + 1 + 1 + 1 + 1 + 1 + 1 + 1 + 1 + 1 = B19 at *
    generalize v1.heap.size + 1 + 1 + 1 + 1 + 1 + 1 + 1 + 1 + 1 + 1 + 1 + 1 + 1 + 1 + 1 + 1 + 1 + 1 = B18 at *
    go_wp2_with (go_at_call 11; refine E.mono ?_; rintro e w2 ⟨v, rfl, hw2, hB⟩)
    obtain ⟨p, cap, rfl, hB⟩ := hB
    obtain ⟨bb, o, rfl, hC⟩ := hB (by simp)
    have g := kept_cell hw2 g
    have hbe := hbW.trans (hw2.mono hbW.size)
    have v1' := fun n => conv_any (W := w2) bb o 2 cap [33, 245] rfl hC n
    have v2' := fun n => conv_any (W := w2) B19 0 2 2 [33, 245] rfl (fun i x hx => by rw [Nat.zero_add]; exact kept_cell hw2 (d i x hx)) n
    rw [show ([33, 245] : List Int).length = 2 from rfl]
    clear hB hC E hw2 hbW i0 i1 d
    go_quiet (fail)
    go_wp2
    go_ret
    exact ⟨rfl, hbe.trans ((below_drewN _ _).mono hbe.size)⟩
  · have i0 : WW.cell? ⟨v1.heap.size + 1 + 1 + 1 + 1 + 1 + 1 + 1 + 1 + 1 + 1 + 1 + 1 + 1 + 1 + 1 + 1 + 1 + 1, 8, none⟩ = some (.int .i64 28) := ce 18 8 _ _ _ rfl rfl
    have i1 : WW.cell? ⟨v1.heap.size + 1 + 1 + 1 + 1 + 1 + 1 + 1 + 1 + 1 + 1 + 1 + 1 + 1 + 1 + 1 + 1 + 1 + 1, 9, none⟩ = some (.slice (some ⟨v1.heap.size + 1 + 1 + 1, 0, none⟩) 2 2) := ce 18 9 _ _ _ rfl rfl
    have g : WW.cell? ⟨v1.heap.size + 1 + 1 + 1 + 1 + 1 + 1 + 1 + 1 + 1 + 1 + 1 + 1 + 1 + 1 + 1 + 1 + 1 + 1 + 1 + 1 + 1 + 1 + 1 + 1 + 1 + 1 + 1 + 1 + 1 + 1 + 1 + 1 + 1 + 1 + 1 + 1 + 1 + 1, 4, none⟩ = some (.slice (some ⟨v1.heap.size + 1 + 1 + 1 + 1 + 1 + 1 + 1 + 1 + 1 + 1 + 1 + 1 + 1 + 1 + 1 + 1 + 1 + 1 + 1 + 1 + 1 + 1 + 1, 0, none⟩) 2 2) := ce 38 4 _ _ _ rfl rfl
    have d : ∀ i x, ([79, 247] : List Int)[i]? = some x → WW.cell? ⟨v1.heap.size + 1 + 1 + 1 + 1 + 1 + 1 + 1 + 1 + 1 + 1 + 1 + 1 + 1 + 1 + 1 + 1 + 1 + 1 + 1 + 1 + 1 + 1 + 1, i, none⟩ = some (.int .u8 x) := fun i x hx => ce 23 i _ _ _ rfl (by
      have e : (#[.int .u8 79, .int .u8 247] : Array Value) = (([79, 247] : List Int).map fun b => Value.int .u8 b).toArray := rfl
      rw [e]; simp only [List.getElem?_toArray, List.getElem?_map, hx, Option.map_some])
    have f0 : WW.cell? ⟨v1.heap.size + 1 + 1 + 1, 0, none⟩ = some (.int .i64 7) := ce 3 0 _ _ _ rfl rfl
    have f1 : WW.cell? ⟨v1.heap.size + 1 + 1 + 1, 1, none⟩ = some (.int .i64 127) := ce 3 1 _ _ _ rfl rfl
    have E := encode_yes 28 (.slice (some ⟨v1.heap.size + 1 + 1 + 1, 0, none⟩) 2 2) [7, 127] WW (T.later hbW) (slice_is2 f0 f1) (by intro x hx; simp at hx <;> omega) kc4.2
    rw [kc4.1] at E
    clear ce f0 f1
    generalize v1.heap.size + 1 + 1 + 1 + 1 + 1 + 1 + 1 + 1 + 1 + 1 + 1 + 1 + 1 + 1 + 1 + 1 + 1 + 1 + 1 + 1 + 1 + 1 + 1 + 1 + 1 + 1 + 1 + 1 + 1 + 1 + 1 + 1 + 1 + 1 + 1 + 1 + 1 + 1 = B38 at *
    generalize v1.heap.size + 1 + 1 + 1 + 1 + 1 + 1 + 1 + 1 + 1 + 1 + 1 + 1 + 1 + 1 + 1 + 1 + 1 + 1 + 1 + 1 + 1 + 1 + 1 = B19 at *
    generalize v1.heap.size + 1 + 1 + 1 + 1 + 1 + 1 + 1 + 1 + 1 + 1 + 1 + 1 + 1 + 1 + 1 + 1 + 1 + 1 = B18 at *
    go_wp2_with (go_at_call 11; refine E.mono ?_; rintro e w2 ⟨v, rfl, hw2, hB⟩)
    obtain ⟨p, cap, rfl, hB⟩ := hB
    obtain ⟨bb, o, rfl, hC⟩ := hB (by simp)
    have g := kept_cell hw2 g
    have hbe := hbW.trans (hw2.mono hbW.size)
    have v1' := fun n => conv_any (W := w2) bb o 2 cap [79, 247] rfl hC n
    have v2' := fun n => conv_any (W := w2) B19 0 2 2 [79, 247] rfl (fun i x hx => by rw [Nat.zero_add]; exact kept_cell hw2 (d i x hx)) n
    rw [show ([79, 247] : List Int).length = 2 from rfl]
    clear hB hC E hw2 hbW i0 i1 d
    go_quiet (fail)
    go_wp2
    go_ret
    exact ⟨rfl, hbe.trans ((below_drewN _ _).mono hbe.size)⟩
  · have i0 : WW.cell? ⟨v1.heap.size + 1 + 1 + 1 + 1 + 1 + 1 + 1 + 1 + 1 + 1 + 1 + 1 + 1 + 1 + 1 + 1 + 1 + 1, 10, none⟩ = some (.int .i64 38) := ce 18 10 _ _ _ rfl rfl
    have i1 : WW.cell? ⟨v1.heap.size + 1 + 1 + 1 + 1 + 1 + 1 + 1 + 1 + 1 + 1 + 1 + 1 + 1 + 1 + 1 + 1 + 1 + 1, 11, none⟩ = some (.slice (some ⟨v1.heap.size + 1 + 1 + 1 + 1, 0, none⟩) 3 3) := ce 18 11 _ _ _ rfl rfl
    have g : WW.cell? ⟨v1.heap.size + 1 + 1 + 1 + 1 + 1 + 1 + 1 + 1 + 1 + 1 + 1 + 1 + 1 + 1 + 1 + 1 + 1 + 1 + 1 + 1 + 1 + 1 + 1 + 1 + 1 + 1 + 1 + 1 + 1 + 1 + 1 + 1 + 1 + 1 + 1 + 1 + 1 + 1, 5, none⟩ = some (.slice (some ⟨v1.heap.size + 1 + 1 + 1 + 1 + 1 + 1 + 1 + 1 + 1 + 1 + 1 + 1 + 1 + 1 + 1 + 1 + 1 + 1 + 1 + 1 + 1 + 1 + 1 + 1, 0, none⟩) 2 2) := ce 38 5 _ _ _ rfl rfl
    have d : ∀ i x, ([207, 49] : List Int)[i]? = some x → WW.cell? ⟨v1.heap.size + 1 + 1 + 1 + 1 + 1 + 1 + 1 + 1 + 1 + 1 + 1 + 1 + 1 + 1 + 1 + 1 + 1 + 1 + 1 + 1 + 1 + 1 + 1 + 1, i, none⟩ = some (.int .u8 x) := fun i x hx => ce 24 i _ _ _ rfl (by
      have e : (#[.int .u8 207, .int .u8 49] : Array Value) = (([207, 49] : List Int).map fun b => Value.int .u8 b).toArray := rfl
      rw [e]; simp only [List.getElem?_toArray, List.getElem?_map, hx, Option.map_some])
    have f0 : WW.cell? ⟨v1.heap.size + 1 + 1 + 1 + 1, 0, none⟩ = some (.int .i64 3) := ce 4 0 _ _ _ rfl rfl
    have f1 : WW.cell? ⟨v1.heap.size + 1 + 1 + 1 + 1, 1, none⟩ = some (.int .i64 60) := ce 4 1 _ _ _ rfl rfl
    have f2 : WW.cell? ⟨v1.heap.size + 1 + 1 + 1 + 1, 2, none⟩ = some (.int .i64 1) := ce 4 2 _ _ _ rfl rfl
    have E := encode_yes 38 (.slice (some ⟨v1.heap.size + 1 + 1 + 1 + 1, 0, none⟩) 3 3) [3, 60, 1] WW (T.later hbW) (slice_is3 f0 f1 f2) (by intro x hx; simp at hx <;> omega) kc5.2
    rw [kc5.1] at E
    clear ce f0 f1 f2
    generalize v1.heap.size + 1 + 1 + 1 + 1 + 1 + 1 + 1 + 1 + 1 + 1 + 1 + 1 + 1 + 1 + 1 + 1 + 1 + 1 + 1 + 1 + 1 + 1 + 1 + 1 + 1 + 1 + 1 + 1 + 1 + 1 + 1 + 1 + 1 + 1 + 1 + 1 + 1 + 1 = B38 at *
    generalize v1.heap.size + 1 + 1 + 1 + 1 + 1 + 1 + 1 + 1 + 1 + 1 + 1 + 1 + 1 + 1 + 1 + 1 + 1 + 1 + 1 + 1 + 1 + 1 + 1 + 1 = B19 at *
    generalize v1.heap.size + 1 + 1 + 1 + 1 + 1 + 1 + 1 + 1 + 1 + 1 + 1 + 1 + 1 + 1 + 1 + 1 + 1 + 1 = B18 at *
    go_wp2_with (go_at_call 11; refine E.mono ?_; rintro e w2 ⟨v, rfl, hw2, hB⟩)
    obtain ⟨p, cap, rfl, hB⟩ := hB
    obtain ⟨bb, o, rfl, hC⟩ := hB (by simp)
    have g := kept_cell hw2 g
    have hbe := hbW.trans (hw2.mono hbW.size)
    have v1' := fun n => conv_any (W := w2) bb o 2 cap [207, 49] rfl hC n
    have v2' := fun n => conv_any (W := w2) B19 0 2 2 [207, 49] rfl (fun i x hx => by rw [Nat.zero_add]; exact kept_cell hw2 (d i x hx)) n
    rw [show ([207, 49] : List Int).length = 2 from rfl]
    clear hB hC E hw2 hbW i0 i1 d
    go_quiet (fail)
    go_wp2
    go_ret
    exact ⟨rfl, hbe.trans ((below_drewN _ _).mono hbe.size)⟩
  · have i0 : WW.cell? ⟨v1.heap.size + 1 + 1 + 1 + 1 + 1 + 1 + 1 + 1 + 1 + 1 + 1 + 1 + 1 + 1 + 1 + 1 + 1 + 1, 12, none⟩ = some (.int .i64 40) := ce 18 12 _ _ _ rfl rfl
    have i1 : WW.cell? ⟨v1.heap.size + 1 + 1 + 1 + 1 + 1 + 1 + 1 + 1 + 1 + 1 + 1 + 1 + 1 + 1 + 1 + 1 + 1 + 1, 13, none⟩ = some (.slice (some ⟨v1.heap.size + 1 + 1 + 1 + 1 + 1, 0, none⟩) 3 3) := ce 18 13 _ _ _ rfl rfl
    have g : WW.cell? ⟨v1.heap.size + 1 + 1 + 1 + 1 + 1 + 1 + 1 + 1 + 1 + 1 + 1 + 1 + 1 + 1 + 1 + 1 + 1 + 1 + 1 + 1 + 1 + 1 + 1 + 1 + 1 + 1 + 1 + 1 + 1 + 1 + 1 + 1 + 1 + 1 + 1 + 1 + 1 + 1, 6, none⟩ = some (.slice (some ⟨v1.heap.size + 1 + 1 + 1 + 1 + 1 + 1 + 1 + 1 + 1 + 1 + 1 + 1 + 1 + 1 + 1 + 1 + 1 + 1 + 1 + 1 + 1 + 1 + 1 + 1 + 1, 0, none⟩) 2 2) := ce 38 6 _ _ _ rfl rfl
    have d : ∀ i x, ([230, 255] : List Int)[i]? = some x → WW.cell? ⟨v1.heap.size + 1 + 1 + 1 + 1 + 1 + 1 + 1 + 1 + 1 + 1 + 1 + 1 + 1 + 1 + 1 + 1 + 1 + 1 + 1 + 1 + 1 + 1 + 1 + 1 + 1, i, none⟩ = some (.int .u8 x) := fun i x hx => ce 25 i _ _ _ rfl (by
      have e : (#[.int .u8 230, .int .u8 255] : Array Value) = (([230, 255] : List Int).map fun b => Value.int .u8 b).toArray := rfl
      rw [e]; simp only [List.getElem?_toArray, List.getElem?_map, hx, Option.map_some])
    have f0 : WW.cell? ⟨v1.heap.size + 1 + 1 + 1 + 1 + 1, 0, none⟩ = some (.int .i64 1) := ce 5 0 _ _ _ rfl rfl
    have f1 : WW.cell? ⟨v1.heap.size + 1 + 1 + 1 + 1 + 1, 1, none⟩ = some (.int .i64 2) := ce 5 1 _ _ _ rfl rfl
    have f2 : WW.cell? ⟨v1.heap.size + 1 + 1 + 1 + 1 + 1, 2, none⟩ = some (.int .i64 (-2)) := ce 5 2 _ _ _ rfl rfl
    have E := encode_yes 40 (.slice (some ⟨v1.heap.size + 1 + 1 + 1 + 1 + 1, 0, none⟩) 3 3) [1, 2, -2] WW (T.later hbW) (slice_is3 f0 f1 f2) (by intro x hx; simp at hx <;> omega) kc6.2
    rw [kc6.1] at E
    clear ce f0 f1 f2
    generalize v1.heap.size + 1 + 1 + 1 + 1 + 1 + 1 + 1 + 1 + 1 + 1 + 1 + 1 + 1 + 1 + 1 + 1 + 1 + 1 + 1 + 1 + 1 + 1 + 1 + 1 + 1 + 1 + 1 + 1 + 1 + 1 + 1 + 1 + 1 + 1 + 1 + 1 + 1 + 1 = B38 at *
    generalize v1.heap.size + 1 + 1 + 1 + 1 + 1 + 1 + 1 + 1 + 1 + 1 + 1 + 1 + 1 + 1 + 1 + 1 + 1 + 1 + 1 + 1 + 1 + 1 + 1 + 1 + 1 = B19 at *
    generalize v1.heap.size + 1 + 1 + 1 + 1 + 1 + 1 + 1 + 1 + 1 + 1 + 1 + 1 + 1 + 1 + 1 + 1 + 1 + 1 = B18 at *
    go_wp2_with (go_at_call 11; refine E.mono ?_; rintro e w2 ⟨v, rfl, hw2, hB⟩)
    obtain ⟨p, cap, rfl, hB⟩ := hB
    obtain ⟨bb, o, rfl, hC⟩ := hB (by simp)
    have g := kept_cell hw2 g
    have hbe := hbW.trans (hw2.mono hbW.size)
    have v1' := fun n => conv_any (W := w2) bb o 2 cap [230, 255] rfl hC n
    have v2' := fun n => conv_any (W := w2) B19 0 2 2 [230, 255] rfl (fun i x hx => by rw [Nat.zero_add]; exact kept_cell hw2 (d i x hx)) n
    rw [show ([230, 255] : List Int).length = 2 from rfl]
    clear hB hC E hw2 hbW i0 i1 d
    go_quiet (fail)
    go_wp2
    go_ret
    exact ⟨rfl, hbe.trans ((below_drewN _ _).mono hbe.size)⟩
  · have i0 : WW.cell? ⟨v1.heap.size + 1 + 1 + 1 + 1 + 1 + 1 + 1 + 1 + 1 + 1 + 1 + 1 + 1 + 1 + 1 + 1 + 1 + 1, 14, none⟩ = some (.int .i64 41) := ce 18 14 _ _ _ rfl rfl
    have i1 : WW.cell? ⟨v1.heap.size + 1 + 1 + 1 + 1 + 1 + 1 + 1 + 1 + 1 + 1 + 1 + 1 + 1 + 1 + 1 + 1 + 1 + 1, 15, none⟩ = some (.slice (some ⟨v1.heap.size + 1 + 1 + 1 + 1 + 1 + 1, 0, none⟩) 1 1) := ce 18 15 _ _ _ rfl rfl
    have g : WW.cell? ⟨v1.heap.size + 1 + 1 + 1 + 1 + 1 + 1 + 1 + 1 + 1 + 1 + 1 + 1 + 1 + 1 + 1 + 1 + 1 + 1 + 1 + 1 + 1 + 1 + 1 + 1 + 1 + 1 + 1 + 1 + 1 + 1 + 1 + 1 + 1 + 1 + 1 + 1 + 1 + 1, 7, none⟩ = some (.slice (some ⟨v1.heap.size + 1 + 1 + 1 + 1 + 1 + 1 + 1 + 1 + 1 + 1 + 1 + 1 + 1 + 1 + 1 + 1 + 1 + 1 + 1 + 1 + 1 + 1 + 1 + 1 + 1 + 1, 0, none⟩) 2 2) := ce 38 7 _ _ _ rfl rfl
    have d : ∀ i x, ([232, 128] : List Int)[i]? = some x → WW.cell? ⟨v1.heap.size + 1 + 1 + 1 + 1 + 1 + 1 + 1 + 1 + 1 + 1 + 1 + 1 + 1 + 1 + 1 + 1 + 1 + 1 + 1 + 1 + 1 + 1 + 1 + 1 + 1 + 1, i, none⟩ = some (.int .u8 x) := fun i x hx => ce 26 i _ _ _ rfl (by
      have e : (#[.int .u8 232, .int .u8 128] : Array Value) = (([232, 128] : List Int).map fun b => Value.int .u8 b).toArray := rfl
      rw [e]; simp only [List.getElem?_toArray, List.getElem?_map, hx, Option.map_some])
    have f0 : WW.cell? ⟨v1.heap.size + 1 + 1 + 1 + 1 + 1 + 1, 0, none⟩ = some (.int .i64 (-256)) := ce 6 0 _ _ _ rfl rfl
    have E := encode_yes 41 (.slice (some ⟨v1.heap.size + 1 + 1 + 1 + 1 + 1 + 1, 0, none⟩) 1 1) [-256] WW (T.later hbW) (slice_is1 f0) (by intro x hx; simp at hx <;> omega) kc7.2
    rw [kc7.1] at E
    clear ce f0
    generalize v1.heap.size + 1 + 1 + 1 + 1 + 1 + 1 + 1 + 1 + 1 + 1 + 1 + 1 + 1 + 1 + 1 + 1 + 1 + 1 + 1 + 1 + 1 + 1 + 1 + 1 + 1 + 1 + 1 + 1 + 1 + 1 + 1 + 1 + 1 + 1 + 1 + 1 + 1 + 1 = B38 at *
    generalize v1.heap.size + 1 + 1 + 1 + 1 + 1 + 1 + 1 + 1 + 1 + 1 + 1 + 1 + 1 + 1 + 1 + 1 + 1 + 1 + 1 + 1 + 1 + 1 + 1 + 1 + 1 + 1 = B19 at *
    generalize v1.heap.size + 1 + 1 + 1 + 1 + 1 + 1 + 1 + 1 + 1 + 1 + 1 + 1 + 1 + 1 + 1 + 1 + 1 + 1 = B18 at *
    go_wp2_with (go_at_call 11; refine E.mono ?_; rintro e w2 ⟨v, rfl, hw2, hB⟩)
    obtain ⟨p, cap, rfl, hB⟩ := hB
    obtain ⟨bb, o, rfl, hC⟩ := hB (by simp)
    have g := kept_cell hw2 g
    have hbe := hbW.trans (hw2.mono hbW.size)
    have v1' := fun n => conv_any (W := w2) bb o 2 cap [232, 128] rfl hC n
    have v2' := fun n => conv_any (W := w2) B19 0 2 2 [232, 128] rfl (fun i x hx => by rw [Nat.zero_add]; exact kept_cell hw2 (d i x hx)) n
    rw [show ([232, 128] : List Int).length = 2 from rfl]
    clear hB hC E hw2 hbW i0 i1 d
    go_quiet (fail)
    go_wp2
    go_ret
    exact ⟨rfl, hbe.trans ((below_drewN _ _).mono hbe.size)⟩
  · have i0 : WW.cell? ⟨v1.heap.size + 1 + 1 + 1 + 1 + 1 + 1 + 1 + 1 + 1 + 1 + 1 + 1 + 1 + 1 + 1 + 1 + 1 + 1, 16, none⟩ = some (.int .i64 42) := ce 18 16 _ _ _ rfl rfl
    have i1 : WW.cell? ⟨v1.heap.size + 1 + 1 + 1 + 1 + 1 + 1 + 1 + 1 + 1 + 1 + 1 + 1 + 1 + 1 + 1 + 1 + 1 + 1, 17, none⟩ = some (.slice (some ⟨v1.heap.size + 1 + 1 + 1 + 1 + 1 + 1 + 1, 0, none⟩) 1 1) := ce 18 17 _ _ _ rfl rfl
    have g : WW.cell? ⟨v1.heap.size + 1 + 1 + 1 + 1 + 1 + 1 + 1 + 1 + 1 + 1 + 1 + 1 + 1 + 1 + 1 + 1 + 1 + 1 + 1 + 1 + 1 + 1 + 1 + 1 + 1 + 1 + 1 + 1 + 1 + 1 + 1 + 1 + 1 + 1 + 1 + 1 + 1 + 1, 8, none⟩ = some (.slice (some ⟨v1.heap.size + 1 + 1 + 1 + 1 + 1 + 1 + 1 + 1 + 1 + 1 + 1 + 1 + 1 + 1 + 1 + 1 + 1 + 1 + 1 + 1 + 1 + 1 + 1 + 1 + 1 + 1 + 1, 0, none⟩) 2 2) := ce 38 8 _ _ _ rfl rfl
    have d : ∀ i x, ([233, 127] : List Int)[i]? = some x → WW.cell? ⟨v1.heap.size + 1 + 1 + 1 + 1 + 1 + 1 + 1 + 1 + 1 + 1 + 1 + 1 + 1 + 1 + 1 + 1 + 1 + 1 + 1 + 1 + 1 + 1 + 1 + 1 + 1 + 1 + 1, i, none⟩ = some (.int .u8 x) := fun i x hx => ce 27 i _ _ _ rfl (by
      have e : (#[.int .u8 233, .int .u8 127] : Array Value) = (([233, 127] : List Int).map fun b => Value.int .u8 b).toArray := rfl
      rw [e]; simp only [List.getElem?_toArray, List.getElem?_map, hx, Option.map_some])
    have f0 : WW.cell? ⟨v1.heap.size + 1 + 1 + 1 + 1 + 1 + 1 + 1, 0, none⟩ = some (.int .i64 254) := ce 7 0 _ _ _ rfl rfl
    have E := encode_yes 42 (.slice (some ⟨v1.heap.size + 1 + 1 + 1 + 1 + 1 + 1 + 1, 0, none⟩) 1 1) [254] WW (T.later hbW) (slice_is1 f0) (by intro x hx; simp at hx <;> omega) kc8.2
    rw [kc8.1] at E
    clear ce f0
    generalize v1.heap.size + 1 + 1 + 1 + 1 + 1 + 1 + 1 + 1 + 1 + 1 + 1 + 1 + 1 + 1 + 1 + 1 + 1 + 1 + 1 + 1 + 1 + 1 + 1 + 1 + 1 + 1 + 1 + 1 + 1 + 1 + 1 + 1 + 1 + 1 + 1 + 1 + 1 + 1 = B38 at *
    generalize v1.heap.size + 1 + 1 + 1 + 1 + 1 + 1 + 1 + 1 + 1 + 1 + 1 + 1 + 1 + 1 + 1 + 1 + 1 + 1 + 1 + 1 + 1 + 1 + 1 + 1 + 1 + 1 + 1 = B19 at *
    generalize v1.heap.size + 1 + 1 + 1 + 1 + 1 + 1 + 1 + 1 + 1 + 1 + 1 + 1 + 1 + 1 + 1 + 1 + 1 + 1 = B18 at *
    go_wp2_with (go_at_call 11; refine E.mono ?_; rintro e w2 ⟨v, rfl, hw2, hB⟩)
    obtain ⟨p, cap, rfl, hB⟩ := hB
    obtain ⟨bb, o, rfl, hC⟩ := hB (by simp)
    have g := kept_cell hw2 g
    have hbe := hbW.trans (hw2.mono hbW.size)
    have v1' := fun n => conv_any (W := w2) bb o 2 cap [233, 127] rfl hC n
    have v2' := fun n => conv_any (W := w2) B19 0 2 2 [233, 127] rfl (fun i x hx => by rw [Nat.zero_add]; exact kept_cell hw2 (d i x hx)) n
    rw [show ([233, 127] : List Int).length = 2 from rfl]
    clear hB hC E hw2 hbW i0 i1 d
    go_quiet (fail)
    go_wp2
    go_ret
    exact ⟨rfl, hbe.trans ((below_drewN _ _).mono hbe.size)⟩
  · have i0 : WW.cell? ⟨v1.heap.size + 1 + 1 + 1 + 1 + 1 + 1 + 1 + 1 + 1 + 1 + 1 + 1 + 1 + 1 + 1 + 1 + 1 + 1, 18, none⟩ = some (.int .i64 43) := ce 18 18 _ _ _ rfl rfl
    have i1 : WW.cell? ⟨v1.heap.size + 1 + 1 + 1 + 1 + 1 + 1 + 1 + 1 + 1 + 1 + 1 + 1 + 1 + 1 + 1 + 1 + 1 + 1, 19, none⟩ = some (.slice (some ⟨v1.heap.size + 1 + 1 + 1 + 1 + 1 + 1 + 1 + 1, 0, none⟩) 3 3) := ce 18 19 _ _ _ rfl rfl
    have g : WW.cell? ⟨v1.heap.size + 1 + 1 + 1 + 1 + 1 + 1 + 1 + 1 + 1 + 1 + 1 + 1 + 1 + 1 + 1 + 1 + 1 + 1 + 1 + 1 + 1 + 1 + 1 + 1 + 1 + 1 + 1 + 1 + 1 + 1 + 1 + 1 + 1 + 1 + 1 + 1 + 1 + 1, 9, none⟩ = some (.slice (some ⟨v1.heap.size + 1 + 1 + 1 + 1 + 1 + 1 + 1 + 1 + 1 + 1 + 1 + 1 + 1 + 1 + 1 + 1 + 1 + 1 + 1 + 1 + 1 + 1 + 1 + 1 + 1 + 1 + 1 + 1, 0, none⟩) 4 4) := ce 38 9 _ _ _ rfl rfl
    have d : ∀ i x, ([28, 100, 255, 255] : List Int)[i]? = some x → WW.cell? ⟨v1.heap.size + 1 + 1 + 1 + 1 + 1 + 1 + 1 + 1 + 1 + 1 + 1 + 1 + 1 + 1 + 1 + 1 + 1 + 1 + 1 + 1 + 1 + 1 + 1 + 1 + 1 + 1 + 1 + 1, i, none⟩ = some (.int .u8 x) := fun i x hx => ce 28 i _ _ _ rfl (by
      have e : (#[.int .u8 28, .int .u8 100, .int .u8 255, .int .u8 255] : Array Value) = (([28, 100, 255, 255] : List Int).map fun b => Value.int .u8 b).toArray := rfl
      rw [e]; simp only [List.getElem?_toArray, List.getElem?_map, hx, Option.map_some])
    have f0 : WW.cell? ⟨v1.heap.size + 1 + 1 + 1 + 1 + 1 + 1 + 1 + 1, 0, none⟩ = some (.int .i64 3) := ce 8 0 _ _ _ rfl rfl
    have f1 : WW.cell? ⟨v1.heap.size + 1 + 1 + 1 + 1 + 1 + 1 + 1 + 1, 1, none⟩ = some (.int .i64 4) := ce 8 1 _ _ _ rfl rfl
    have f2 : WW.cell? ⟨v1.heap.size + 1 + 1 + 1 + 1 + 1 + 1 + 1 + 1, 2, none⟩ = some (.int .i64 (-1)) := ce 8 2 _ _ _ rfl rfl
    have E := encode_yes 43 (.slice (some ⟨v1.heap.size + 1 + 1 + 1 + 1 + 1 + 1 + 1 + 1, 0, none⟩) 3 3) [3, 4, -1] WW (T.later hbW) (slice_is3 f0 f1 f2) (by intro x hx; simp at hx <;> omega) kc9.2
    rw [kc9.1] at E
    clear ce f0 f1 f2
    generalize v1.heap.size + 1 + 1 + 1 + 1 + 1 + 1 + 1 + 1 + 1 + 1 + 1 + 1 + 1 + 1 + 1 + 1 + 1 + 1 + 1 + 1 + 1 + 1 + 1 + 1 + 1 + 1 + 1 + 1 + 1 + 1 + 1 + 1 + 1 + 1 + 1 + 1 + 1 + 1 = B38 at *
    generalize v1.heap.size + 1 + 1 + 1 + 1 + 1 + 1 + 1 + 1 + 1 + 1 + 1 + 1 + 1 + 1 + 1 + 1 + 1 + 1 + 1 + 1 + 1 + 1 + 1 + 1 + 1 + 1 + 1 + 1 = B19 at *
    generalize v1.heap.size + 1 + 1 + 1 + 1 + 1 + 1 + 1 + 1 + 1 + 1 + 1 + 1 + 1 + 1 + 1 + 1 + 1 + 1 = B18 at *
    go_wp2_with (go_at_call 11; refine E.mono ?_; rintro e w2 ⟨v, rfl, hw2, hB⟩)
    obtain ⟨p, cap, rfl, hB⟩ := hB
    obtain ⟨bb, o, rfl, hC⟩ := hB (by simp)
    have g := kept_cell hw2 g
    have hbe := hbW.trans (hw2.mono hbW.size)
    have v1' := fun n => conv_any (W := w2) bb o 4 cap [28, 100, 255, 255] rfl hC n
    have v2' := fun n => conv_any (W := w2) B19 0 4 4 [28, 100, 255, 255] rfl (fun i x hx => by rw [Nat.zero_add]; exact kept_cell hw2 (d i x hx)) n
    rw [show ([28, 100, 255, 255] : List Int).length = 4 from rfl]
    clear hB hC E hw2 hbW i0 i1 d
    go_quiet (fail)
    go_wp2
    go_ret
    exact ⟨rfl, hbe.trans ((below_drewN _ _).mono hbe.size)⟩
  · have i0 : WW.cell? ⟨v1.heap.size + 1 + 1 + 1 + 1 + 1 + 1 + 1 + 1 + 1 + 1 + 1 + 1 + 1 + 1 + 1 + 1 + 1 + 1, 20, none⟩ = some (.int .i64 44) := ce 18 20 _ _ _ rfl rfl
    have i1 : WW.cell? ⟨v1.heap.size + 1 + 1 + 1 + 1 + 1 + 1 + 1 + 1 + 1 + 1 + 1 + 1 + 1 + 1 + 1 + 1 + 1 + 1, 21, none⟩ = some (.slice (some ⟨v1.heap.size + 1 + 1 + 1 + 1 + 1 + 1 + 1 + 1 + 1, 0, none⟩) 3 3) := ce 18 21 _ _ _ rfl rfl
    have g : WW.cell? ⟨v1.heap.size + 1 + 1 + 1 + 1 + 1 + 1 + 1 + 1 + 1 + 1 + 1 + 1 + 1 + 1 + 1 + 1 + 1 + 1 + 1 + 1 + 1 + 1 + 1 + 1 + 1 + 1 + 1 + 1 + 1 + 1 + 1 + 1 + 1 + 1 + 1 + 1 + 1 + 1, 10, none⟩ = some (.slice (some ⟨v1.heap.size + 1 + 1 + 1 + 1 + 1 + 1 + 1 + 1 + 1 + 1 + 1 + 1 + 1 + 1 + 1 + 1 + 1 + 1 + 1 + 1 + 1 + 1 + 1 + 1 + 1 + 1 + 1 + 1 + 1, 0, none⟩) 4 4) := ce 38 10 _ _ _ rfl rfl
    have d : ∀ i x, ([27, 224, 129, 1] : List Int)[i]? = some x → WW.cell? ⟨v1.heap.size + 1 + 1 + 1 + 1 + 1 + 1 + 1 + 1 + 1 + 1 + 1 + 1 + 1 + 1 + 1 + 1 + 1 + 1 + 1 + 1 + 1 + 1 + 1 + 1 + 1 + 1 + 1 + 1 + 1, i, none⟩ = some (.int .u8 x) := fun i x hx => ce 29 i _ _ _ rfl (by
      have e : (#[.int .u8 27, .int .u8 224, .int .u8 129, .int .u8 1] : Array Value) = (([27, 224, 129, 1] : List Int).map fun b => Value.int .u8 b).toArray := rfl
      rw [e]; simp only [List.getElem?_toArray, List.getElem?_map, hx, Option.map_some])
    have f0 : WW.cell? ⟨v1.heap.size + 1 + 1 + 1 + 1 + 1 + 1 + 1 + 1 + 1, 0, none⟩ = some (.int .i64 31) := ce 9 0 _ _ _ rfl rfl
    have f1 : WW.cell? ⟨v1.heap.size + 1 + 1 + 1 + 1 + 1 + 1 + 1 + 1 + 1, 1, none⟩ = some (.int .i64 0) := ce 9 1 _ _ _ rfl rfl
    have f2 : WW.cell? ⟨v1.heap.size + 1 + 1 + 1 + 1 + 1 + 1 + 1 + 1 + 1, 2, none⟩ = some (.int .i64 256) := ce 9 2 _ _ _ rfl rfl
    have E := encode_yes 44 (.slice (some ⟨v1.heap.size + 1 + 1 + 1 + 1 + 1 + 1 + 1 + 1 + 1, 0, none⟩) 3 3) [31, 0, 256] WW (T.later hbW) (slice_is3 f0 f1 f2) (by intro x hx; simp at hx <;> omega) kc10.2
    rw [kc10.1] at E
    clear ce f0 f1 f2
    generalize v1.heap.size + 1 + 1 + 1 + 1 + 1 + 1 + 1 + 1 + 1 + 1 + 1 + 1 + 1 + 1 + 1 + 1 + 1 + 1 + 1 + 1 + 1 + 1 + 1 + 1 + 1 + 1 + 1 + 1 + 1 + 1 + 1 + 1 + 1 + 1 + 1 + 1 + 1 + 1 = B38 at *
    generalize v1.heap.size + 1 + 1 + 1 + 1 + 1 + 1 + 1 + 1 + 1 + 1 + 1 + 1 + 1 + 1 + 1 + 1 + 1 + 1 + 1 + 1 + 1 + 1 + 1 + 1 + 1 + 1 + 1 + 1 + 1 = B19 at *
    generalize v1.heap.size + 1 + 1 + 1 + 1 + 1 + 1 + 1 + 1 + 1 + 1 + 1 + 1 + 1 + 1 + 1 + 1 + 1 + 1 = B18 at *
    go_wp2_with (go_at_call 11; refine E.mono ?_; rintro e w2 ⟨v, rfl, hw2, hB⟩)
    obtain ⟨p, cap, rfl, hB⟩ := hB
    obtain ⟨bb, o, rfl, hC⟩ := hB (by simp)
    have g := kept_cell hw2 g
    have hbe := hbW.trans (hw2.mono hbW.size)
    have v1' := fun n => conv_any (W := w2) bb o 4 cap [27, 224, 129, 1] rfl hC n
    have v2' := fun n => conv_any (W := w2) B19 0 4 4 [27, 224, 129, 1] rfl (fun i x hx => by rw [Nat.zero_add]; exact kept_cell hw2 (d i x hx)) n
    rw [show ([27, 224, 129, 1] : List Int).length = 4 from rfl]
    clear hB hC E hw2 hbW i0 i1 d
    go_quiet (fail)
    go_wp2
    go_ret
    exact ⟨rfl, hbe.trans ((below_drewN _ _).mono hbe.size)⟩
  · have i0 : WW.cell? ⟨v1.heap.size + 1 + 1 + 1 + 1 + 1 + 1 + 1 + 1 + 1 + 1 + 1 + 1 + 1 + 1 + 1 + 1 + 1 + 1, 22, none⟩ = some (.int .i64 48) := ce 18 22 _ _ _ rfl rfl
    have i1 : WW.cell? ⟨v1.heap.size + 1 + 1 + 1 + 1 + 1 + 1 + 1 + 1 + 1 + 1 + 1 + 1 + 1 + 1 + 1 + 1 + 1 + 1, 23, none⟩ = some (.slice (some ⟨v1.heap.size + 1 + 1 + 1 + 1 + 1 + 1 + 1 + 1 + 1 + 1, 0, none⟩) 2 2) := ce 18 23 _ _ _ rfl rfl
    have g : WW.cell? ⟨v1.heap.size + 1 + 1 + 1 + 1 + 1 + 1 + 1 + 1 + 1 + 1 + 1 + 1 + 1 + 1 + 1 + 1 + 1 + 1 + 1 + 1 + 1 + 1 + 1 + 1 + 1 + 1 + 1 + 1 + 1 + 1 + 1 + 1 + 1 + 1 + 1 + 1 + 1 + 1, 11, none⟩ = some (.slice (some ⟨v1.heap.size + 1 + 1 + 1 + 1 + 1 + 1 + 1 + 1 + 1 + 1 + 1 + 1 + 1 + 1 + 1 + 1 + 1 + 1 + 1 + 1 + 1 + 1 + 1 + 1 + 1 + 1 + 1 + 1 + 1 + 1, 0, none⟩) 4 4) := ce 38 11 _ _ _ rfl rfl
    have d : ∀ i x, ([112, 127, 127, 255] : List Int)[i]? = some x → WW.cell? ⟨v1.heap.size + 1 + 1 + 1 + 1 + 1 + 1 + 1 + 1 + 1 + 1 + 1 + 1 + 1 + 1 + 1 + 1 + 1 + 1 + 1 + 1 + 1 + 1 + 1 + 1 + 1 + 1 + 1 + 1 + 1 + 1, i, none⟩ = some (.int .u8 x) := fun i x hx => ce 30 i _ _ _ rfl (by
      have e : (#[.int .u8 112, .int .u8 127, .int .u8 127, .int .u8 255] : Array Value) = (([112, 127, 127, 255] : List Int).map fun b => Value.int .u8 b).toArray := rfl
      rw [e]; simp only [List.getElem?_toArray, List.getElem?_map, hx, Option.map_some])
    have f0 : WW.cell? ⟨v1.heap.size + 1 + 1 + 1 + 1 + 1 + 1 + 1 + 1 + 1 + 1, 0, none⟩ = some (.int .i64 3) := ce 10 0 _ _ _ rfl rfl
    have f1 : WW.cell? ⟨v1.heap.size + 1 + 1 + 1 + 1 + 1 + 1 + 1 + 1 + 1 + 1, 1, none⟩ = some (.int .i64 (-1)) := ce 10 1 _ _ _ rfl rfl
    have E := encode_yes 48 (.slice (some ⟨v1.heap.size + 1 + 1 + 1 + 1 + 1 + 1 + 1 + 1 + 1 + 1, 0, none⟩) 2 2) [3, -1] WW (T.later hbW) (slice_is2 f0 f1) (by intro x hx; simp at hx <;> omega) kc11.2
    rw [kc11.1] at E
    clear ce f0 f1
    generalize v1.heap.size + 1 + 1 + 1 + 1 + 1 + 1 + 1 + 1 + 1 + 1 + 1 + 1 + 1 + 1 + 1 + 1 + 1 + 1 + 1 + 1 + 1 + 1 + 1 + 1 + 1 + 1 + 1 + 1 + 1 + 1 + 1 + 1 + 1 + 1 + 1 + 1 + 1 + 1 = B38 at *
    generalize v1.heap.size + 1 + 1 + 1 + 1 + 1 + 1 + 1 + 1 + 1 + 1 + 1 + 1 + 1 + 1 + 1 + 1 + 1 + 1 + 1 + 1 + 1 + 1 + 1 + 1 + 1 + 1 + 1 + 1 + 1 + 1 = B19 at *
    generalize v1.heap.size + 1 + 1 + 1 + 1 + 1 + 1 + 1 + 1 + 1 + 1 + 1 + 1 + 1 + 1 + 1 + 1 + 1 + 1 = B18 at *
    go_wp2_with (go_at_call 11; refine E.mono ?_; rintro e w2 ⟨v, rfl, hw2, hB⟩)
    obtain ⟨p, cap, rfl, hB⟩ := hB
    obtain ⟨bb, o, rfl, hC⟩ := hB (by simp)
    have g := kept_cell hw2 g
    have hbe := hbW.trans (hw2.mono hbW.size)
    have v1' := fun n => conv_any (W := w2) bb o 4 cap [112, 127, 127, 255] rfl hC n
    have v2' := fun n => conv_any (W := w2) B19 0 4 4 [112, 127, 127, 255] rfl (fun i x hx => by rw [Nat.zero_add]; exact kept_cell hw2 (d i x hx)) n
    rw [show ([112, 127, 127, 255] : List Int).length = 4 from rfl]
    clear hB hC E hw2 hbW i0 i1 d
    go_quiet (fail)
    go_wp2
    go_ret
    exact ⟨rfl, hbe.trans ((below_drewN _ _).mono hbe.size)⟩
  · have i0 : WW.cell? ⟨v1.heap.size + 1 + 1 + 1 + 1 + 1 + 1 + 1 + 1 + 1 + 1 + 1 + 1 + 1 + 1 + 1 + 1 + 1 + 1, 24, none⟩ = some (.int .i64 48) := ce 18 24 _ _ _ rfl rfl
    have i1 : WW.cell? ⟨v1.heap.size + 1 + 1 + 1 + 1 + 1 + 1 + 1 + 1 + 1 + 1 + 1 + 1 + 1 + 1 + 1 + 1 + 1 + 1, 25, none⟩ = some (.slice (some ⟨v1.heap.size + 1 + 1 + 1 + 1 + 1 + 1 + 1 + 1 + 1 + 1 + 1, 0, none⟩) 2 2) := ce 18 25 _ _ _ rfl rfl
    have g : WW.cell? ⟨v1.heap.size + 1 + 1 + 1 + 1 + 1 + 1 + 1 + 1 + 1 + 1 + 1 + 1 + 1 + 1 + 1 + 1 + 1 + 1 + 1 + 1 + 1 + 1 + 1 + 1 + 1 + 1 + 1 + 1 + 1 + 1 + 1 + 1 + 1 + 1 + 1 + 1 + 1 + 1, 12, none⟩ = some (.slice (some ⟨v1.heap.size + 1 + 1 + 1 + 1 + 1 + 1 + 1 + 1 + 1 + 1 + 1 + 1 + 1 + 1 + 1 + 1 + 1 + 1 + 1 + 1 + 1 + 1 + 1 + 1 + 1 + 1 + 1 + 1 + 1 + 1 + 1, 0, none⟩) 4 4) := ce 38 12 _ _ _ rfl rfl
    have d : ∀ i x, ([115, 225, 0, 1] : List Int)[i]? = some x → WW.cell? ⟨v1.heap.size + 1 + 1 + 1 + 1 + 1 + 1 + 1 + 1 + 1 + 1 + 1 + 1 + 1 + 1 + 1 + 1 + 1 + 1 + 1 + 1 + 1 + 1 + 1 + 1 + 1 + 1 + 1 + 1 + 1 + 1 + 1, i, none⟩ = some (.int .u8 x) := fun i x hx => ce 31 i _ _ _ rfl (by
      have e : (#[.int .u8 115, .int .u8 225, .int .u8 0, .int .u8 1] : Array Value) = (([115, 225, 0, 1] : List Int).map fun b => Value.int .u8 b).toArray := rfl
      rw [e]; simp only [List.getElem?_toArray, List.getElem?_map, hx, Option.map_some])
    have f0 : WW.cell? ⟨v1.heap.size + 1 + 1 + 1 + 1 + 1 + 1 + 1 + 1 + 1 + 1 + 1, 0, none⟩ = some (.int .i64 31) := ce 11 0 _ _ _ rfl rfl
    have f1 : WW.cell? ⟨v1.heap.size + 1 + 1 + 1 + 1 + 1 + 1 + 1 + 1 + 1 + 1 + 1, 1, none⟩ = some (.int .i64 2049) := ce 11 1 _ _ _ rfl rfl
    have E := encode_yes 48 (.slice (some ⟨v1.heap.size + 1 + 1 + 1 + 1 + 1 + 1 + 1 + 1 + 1 + 1 + 1, 0, none⟩) 2 2) [31, 2049] WW (T.later hbW) (slice_is2 f0 f1) (by intro x hx; simp at hx <;> omega) kc12.2
    rw [kc12.1] at E
    clear ce f0 f1
    generalize v1.heap.size + 1 + 1 + 1 + 1 + 1 + 1 + 1 + 1 + 1 + 1 + 1 + 1 + 1 + 1 + 1 + 1 + 1 + 1 + 1 + 1 + 1 + 1 + 1 + 1 + 1 + 1 + 1 + 1 + 1 + 1 + 1 + 1 + 1 + 1 + 1 + 1 + 1 + 1 = B38 at *
    generalize v1.heap.size + 1 + 1 + 1 + 1 + 1 + 1 + 1 + 1 + 1 + 1 + 1 + 1 + 1 + 1 + 1 + 1 + 1 + 1 + 1 + 1 + 1 + 1 + 1 + 1 + 1 + 1 + 1 + 1 + 1 + 1 + 1 = B19 at *
    generalize v1.heap.size + 1 + 1 + 1 + 1 + 1 + 1 + 1 + 1 + 1 + 1 + 1 + 1 + 1 + 1 + 1 + 1 + 1 + 1 = B18 at *
    go_wp2_with (go_at_call 11; refine E.mono ?_; rintro e w2 ⟨v, rfl, hw2, hB⟩)
    obtain ⟨p, cap, rfl, hB⟩ := hB
    obtain ⟨bb, o, rfl, hC⟩ := hB (by simp)
    have g := kept_cell hw2 g
    have hbe := hbW.trans (hw2.mono hbW.size)
    have v1' := fun n => conv_any (W := w2) bb o 4 cap [115, 225, 0, 1] rfl hC n
    have v2' := fun n => conv_any (W := w2) B19 0 4 4 [115, 225, 0, 1] rfl (fun i x hx => by rw [Nat.zero_add]; exact kept_cell hw2 (d i x hx)) n
    rw [show ([115, 225, 0, 1] : List Int).length = 4 from rfl]
    clear hB hC E hw2 hbW i0 i1 d
    go_quiet (fail)
    go_wp2
    go_ret
    exact ⟨rfl, hbe.trans ((below_drewN _ _).mono hbe.size)⟩
  · have i0 : WW.cell? ⟨v1.heap.size + 1 + 1 + 1 + 1 + 1 + 1 + 1 + 1 + 1 + 1 + 1 + 1 + 1 + 1 + 1 + 1 + 1 + 1, 26, none⟩ = some (.int .i64 52) := ce 18 26 _ _ _ rfl rfl
    have i1 : WW.cell? ⟨v1.heap.size + 1 + 1 + 1 + 1 + 1 + 1 + 1 + 1 + 1 + 1 + 1 + 1 + 1 + 1 + 1 + 1 + 1 + 1, 27, none⟩ = some (.slice (some ⟨v1.heap.size + 1 + 1 + 1 + 1 + 1 + 1 + 1 + 1 + 1 + 1 + 1 + 1, 0, none⟩) 3 3) := ce 18 27 _ _ _ rfl rfl
    have g : WW.cell? ⟨v1.heap.size + 1 + 1 + 1 + 1 + 1 + 1 + 1 + 1 + 1 + 1 + 1 + 1 + 1 + 1 + 1 + 1 + 1 + 1 + 1 + 1 + 1 + 1 + 1 + 1 + 1 + 1 + 1 + 1 + 1 + 1 + 1 + 1 + 1 + 1 + 1 + 1 + 1 + 1, 13, none⟩ = some (.slice (some ⟨v1.heap.size + 1 + 1 + 1 + 1 + 1 + 1 + 1 + 1 + 1 + 1 + 1 + 1 + 1 + 1 + 1 + 1 + 1 + 1 + 1 + 1 + 1 + 1 + 1 + 1 + 1 + 1 + 1 + 1 + 1 + 1 + 1 + 1, 0, none⟩) 4 4) := ce 38 13 _ _ _ rfl rfl
    have d : ∀ i x, ([80, 34, 255, 252] : List Int)[i]? = some x → WW.cell? ⟨v1.heap.size + 1 + 1 + 1 + 1 + 1 + 1 + 1 + 1 + 1 + 1 + 1 + 1 + 1 + 1 + 1 + 1 + 1 + 1 + 1 + 1 + 1 + 1 + 1 + 1 + 1 + 1 + 1 + 1 + 1 + 1 + 1 + 1, i, none⟩ = some (.int .u8 x) := fun i x hx => ce 32 i _ _ _ rfl (by
      have e : (#[.int .u8 80, .int .u8 34, .int .u8 255, .int .u8 252] : Array Value) = (([80, 34, 255, 252] : List Int).map fun b => Value.int .u8 b).toArray := rfl
      rw [e]; simp only [List.getElem?_toArray, List.getElem?_map, hx, Option.map_some])
    have f0 : WW.cell? ⟨v1.heap.size + 1 + 1 + 1 + 1 + 1 + 1 + 1 + 1 + 1 + 1 + 1 + 1, 0, none⟩ = some (.int .i64 1) := ce 12 0 _ _ _ rfl rfl
    have f1 : WW.cell? ⟨v1.heap.size + 1 + 1 + 1 + 1 + 1 + 1 + 1 + 1 + 1 + 1 + 1 + 1, 1, none⟩ = some (.int .i64 (-4)) := ce 12 1 _ _ _ rfl rfl
    have f2 : WW.cell? ⟨v1.heap.size + 1 + 1 + 1 + 1 + 1 + 1 + 1 + 1 + 1 + 1 + 1 + 1, 2, none⟩ = some (.int .i64 2) := ce 12 2 _ _ _ rfl rfl
    have E := encode_yes 52 (.slice (some ⟨v1.heap.size + 1 + 1 + 1 + 1 + 1 + 1 + 1 + 1 + 1 + 1 + 1 + 1, 0, none⟩) 3 3) [1, -4, 2] WW (T.later hbW) (slice_is3 f0 f1 f2) (by intro x hx; simp at hx <;> omega) kc13.2
    rw [kc13.1] at E
    clear ce f0 f1 f2
    generalize v1.heap.size + 1 + 1 + 1 + 1 + 1 + 1 + 1 + 1 + 1 + 1 + 1 + 1 + 1 + 1 + 1 + 1 + 1 + 1 + 1 + 1 + 1 + 1 + 1 + 1 + 1 + 1 + 1 + 1 + 1 + 1 + 1 + 1 + 1 + 1 + 1 + 1 + 1 + 1 = B38 at *
    generalize v1.heap.size + 1 + 1 + 1 + 1 + 1 + 1 + 1 + 1 + 1 + 1 + 1 + 1 + 1 + 1 + 1 + 1 + 1 + 1 + 1 + 1 + 1 + 1 + 1 + 1 + 1 + 1 + 1 + 1 + 1 + 1 + 1 + 1 = B19 at *
    generalize v1.heap.size + 1 + 1 + 1 + 1 + 1 + 1 + 1 + 1 + 1 + 1 + 1 + 1 + 1 + 1 + 1 + 1 + 1 + 1 = B18 at *
    go_wp2_with (go_at_call 11; refine E.mono ?_; rintro e w2 ⟨v, rfl, hw2, hB⟩)
    obtain ⟨p, cap, rfl, hB⟩ := hB
    obtain ⟨bb, o, rfl, hC⟩ := hB (by simp)
    have g := kept_cell hw2 g
    have hbe := hbW.trans (hw2.mono hbW.size)
    have v1' := fun n => conv_any (W := w2) bb o 4 cap [80, 34, 255, 252] rfl hC n
    have v2' := fun n => conv_any (W := w2) B19 0 4 4 [80, 34, 255, 252] rfl (fun i x hx => by rw [Nat.zero_add]; exact kept_cell hw2 (d i x hx)) n
    rw [show ([80, 34, 255, 252] : List Int).length = 4 from rfl]
    clear hB hC E hw2 hbW i0 i1 d
    go_quiet (fail)
    go_wp2
    go_ret
    exact ⟨rfl, hbe.trans ((below_drewN _ _).mono hbe.size)⟩
  · have i0 : WW.cell? ⟨v1.heap.size + 1 + 1 + 1 + 1 + 1 + 1 + 1 + 1 + 1 + 1 + 1 + 1 + 1 + 1 + 1 + 1 + 1 + 1, 28, none⟩ = some (.int .i64 56) := ce 18 28 _ _ _ rfl rfl
    have i1 : WW.cell? ⟨v1.heap.size + 1 + 1 + 1 + 1 + 1 + 1 + 1 + 1 + 1 + 1 + 1 + 1 + 1 + 1 + 1 + 1 + 1 + 1, 29, none⟩ = some (.slice (some ⟨v1.heap.size + 1 + 1 + 1 + 1 + 1 + 1 + 1 + 1 + 1 + 1 + 1 + 1 + 1, 0, none⟩) 1 1) := ce 18 29 _ _ _ rfl rfl
    have g : WW.cell? ⟨v1.heap.size + 1 + 1 + 1 + 1 + 1 + 1 + 1 + 1 + 1 + 1 + 1 + 1 + 1 + 1 + 1 + 1 + 1 + 1 + 1 + 1 + 1 + 1 + 1 + 1 + 1 + 1 + 1 + 1 + 1 + 1 + 1 + 1 + 1 + 1 + 1 + 1 + 1 + 1, 14, none⟩ = some (.slice (some ⟨v1.heap.size + 1 + 1 + 1 + 1 + 1 + 1 + 1 + 1 + 1 + 1 + 1 + 1 + 1 + 1 + 1 + 1 + 1 + 1 + 1 + 1 + 1 + 1 + 1 + 1 + 1 + 1 + 1 + 1 + 1 + 1 + 1 + 1 + 1, 0, none⟩) 4 4) := ce 38 14 _ _ _ rfl rfl
    have d : ∀ i x, ([121, 255, 255, 254] : List Int)[i]? = some x → WW.cell? ⟨v1.heap.size + 1 + 1 + 1 + 1 + 1 + 1 + 1 + 1 + 1 + 1 + 1 + 1 + 1 + 1 + 1 + 1 + 1 + 1 + 1 + 1 + 1 + 1 + 1 + 1 + 1 + 1 + 1 + 1 + 1 + 1 + 1 + 1 + 1, i, none⟩ = some (.int .u8 x) := fun i x hx => ce 33 i _ _ _ rfl (by
      have e : (#[.int .u8 121, .int .u8 255, .int .u8 255, .int .u8 254] : Array Value) = (([121, 255, 255, 254] : List Int).map fun b => Value.int .u8 b).toArray := rfl
      rw [e]; simp only [List.getElem?_toArray, List.getElem?_map, hx, Option.map_some])
    have f0 : WW.cell? ⟨v1.heap.size + 1 + 1 + 1 + 1 + 1 + 1 + 1 + 1 + 1 + 1 + 1 + 1 + 1, 0, none⟩ = some (.int .i64 (-2)) := ce 13 0 _ _ _ rfl rfl
    have E := encode_yes 56 (.slice (some ⟨v1.heap.size + 1 + 1 + 1 + 1 + 1 + 1 + 1 + 1 + 1 + 1 + 1 + 1 + 1, 0, none⟩) 1 1) [-2] WW (T.later hbW) (slice_is1 f0) (by intro x hx; simp at hx <;> omega) kc14.2
    rw [kc14.1] at E
    clear ce f0
    generalize v1.heap.size + 1 + 1 + 1 + 1 + 1 + 1 + 1 + 1 + 1 + 1 + 1 + 1 + 1 + 1 + 1 + 1 + 1 + 1 + 1 + 1 + 1 + 1 + 1 + 1 + 1 + 1 + 1 + 1 + 1 + 1 + 1 + 1 + 1 + 1 + 1 + 1 + 1 + 1 = B38 at *
    generalize v1.heap.size + 1 + 1 + 1 + 1 + 1 + 1 + 1 + 1 + 1 + 1 + 1 + 1 + 1 + 1 + 1 + 1 + 1 + 1 + 1 + 1 + 1 + 1 + 1 + 1 + 1 + 1 + 1 + 1 + 1 + 1 + 1 + 1 + 1 = B19 at *
    generalize v1.heap.size + 1 + 1 + 1 + 1 + 1 + 1 + 1 + 1 + 1 + 1 + 1 + 1 + 1 + 1 + 1 + 1 + 1 + 1 = B18 at *
    go_wp2_with (go_at_call 11; refine E.mono ?_; rintro e w2 ⟨v, rfl, hw2, hB⟩)
    obtain ⟨p, cap, rfl, hB⟩ := hB
    obtain ⟨bb, o, rfl, hC⟩ := hB (by simp)
    have g := kept_cell hw2 g
    have hbe := hbW.trans (hw2.mono hbW.size)
    have v1' := fun n => conv_any (W := w2) bb o 4 cap [121, 255, 255, 254] rfl hC n
    have v2' := fun n => conv_any (W := w2) B19 0 4 4 [121, 255, 255, 254] rfl (fun i x hx => by rw [Nat.zero_add]; exact kept_cell hw2 (d i x hx)) n
    rw [show ([121, 255, 255, 254] : List Int).length = 4 from rfl]
    clear hB hC E hw2 hbW i0 i1 d
    go_quiet (fail)
    go_wp2
    go_ret
    exact ⟨rfl, hbe.trans ((below_drewN _ _).mono hbe.size)⟩
  · have i0 : WW.cell? ⟨v1.heap.size + 1 + 1 + 1 + 1 + 1 + 1 + 1 + 1 + 1 + 1 + 1 + 1 + 1 + 1 + 1 + 1 + 1 + 1, 30, none⟩ = some (.int .i64 57) := ce 18 30 _ _ _ rfl rfl
    have i1 : WW.cell? ⟨v1.heap.size + 1 + 1 + 1 + 1 + 1 + 1 + 1 + 1 + 1 + 1 + 1 + 1 + 1 + 1 + 1 + 1 + 1 + 1, 31, none⟩ = some (.slice (some ⟨v1.heap.size + 1 + 1 + 1 + 1 + 1 + 1 + 1 + 1 + 1 + 1 + 1 + 1 + 1 + 1, 0, none⟩) 1 1) := ce 18 31 _ _ _ rfl rfl
    have g : WW.cell? ⟨v1.heap.size + 1 + 1 + 1 + 1 + 1 + 1 + 1 + 1 + 1 + 1 + 1 + 1 + 1 + 1 + 1 + 1 + 1 + 1 + 1 + 1 + 1 + 1 + 1 + 1 + 1 + 1 + 1 + 1 + 1 + 1 + 1 + 1 + 1 + 1 + 1 + 1 + 1 + 1, 15, none⟩ = some (.slice (some ⟨v1.heap.size + 1 + 1 + 1 + 1 + 1 + 1 + 1 + 1 + 1 + 1 + 1 + 1 + 1 + 1 + 1 + 1 + 1 + 1 + 1 + 1 + 1 + 1 + 1 + 1 + 1 + 1 + 1 + 1 + 1 + 1 + 1 + 1 + 1 + 1, 0, none⟩) 4 4) := ce 38 15 _ _ _ rfl rfl
    have d : ∀ i x, ([120, 0, 0, 5] : List Int)[i]? = some x → WW.cell? ⟨v1.heap.size + 1 + 1 + 1 + 1 + 1 + 1 + 1 + 1 + 1 + 1 + 1 + 1 + 1 + 1 + 1 + 1 + 1 + 1 + 1 + 1 + 1 + 1 + 1 + 1 + 1 + 1 + 1 + 1 + 1 + 1 + 1 + 1 + 1 + 1, i, none⟩ = some (.int .u8 x) := fun i x hx => ce 34 i _ _ _ rfl (by
      have e : (#[.int .u8 120, .int .u8 0, .int .u8 0, .int .u8 5] : Array Value) = (([120, 0, 0, 5] : List Int).map fun b => Value.int .u8 b).toArray := rfl
      rw [e]; simp only [List.getElem?_toArray, List.getElem?_map, hx, Option.map_some])
    have f0 : WW.cell? ⟨v1.heap.size + 1 + 1 + 1 + 1 + 1 + 1 + 1 + 1 + 1 + 1 + 1 + 1 + 1 + 1, 0, none⟩ = some (.int .i64 4) := ce 14 0 _ _ _ rfl rfl
    have E := encode_yes 57 (.slice (some ⟨v1.heap.size + 1 + 1 + 1 + 1 + 1 + 1 + 1 + 1 + 1 + 1 + 1 + 1 + 1 + 1, 0, none⟩) 1 1) [4] WW (T.later hbW) (slice_is1 f0) (by intro x hx; simp at hx <;> omega) kc15.2
    rw [kc15.1] at E
    clear ce f0
    generalize v1.heap.size + 1 + 1 + 1 + 1 + 1 + 1 + 1 + 1 + 1 + 1 + 1 + 1 + 1 + 1 + 1 + 1 + 1 + 1 + 1 + 1 + 1 + 1 + 1 + 1 + 1 + 1 + 1 + 1 + 1 + 1 + 1 + 1 + 1 + 1 + 1 + 1 + 1 + 1 = B38 at *
    generalize v1.heap.size + 1 + 1 + 1 + 1 + 1 + 1 + 1 + 1 + 1 + 1 + 1 + 1 + 1 + 1 + 1 + 1 + 1 + 1 + 1 + 1 + 1 + 1 + 1 + 1 + 1 + 1 + 1 + 1 + 1 + 1 + 1 + 1 + 1 + 1 = B19 at *
    generalize v1.heap.size + 1 + 1 + 1 + 1 + 1 + 1 + 1 + 1 + 1 + 1 + 1 + 1 + 1 + 1 + 1 + 1 + 1 + 1 = B18 at *
    go_wp2_with (go_at_call 11; refine E.mono ?_; rintro e w2 ⟨v, rfl, hw2, hB⟩)
    obtain ⟨p, cap, rfl, hB⟩ := hB
    obtain ⟨bb, o, rfl, hC⟩ := hB (by simp)
    have g := kept_cell hw2 g
    have hbe := hbW.trans (hw2.mono hbW.size)
    have v1' := fun n => conv_any (W := w2) bb o 4 cap [120, 0, 0, 5] rfl hC n
    have v2' := fun n => conv_any (W := w2) B19 0 4 4 [120, 0, 0, 5] rfl (fun i x hx => by rw [Nat.zero_add]; exact kept_cell hw2 (d i x hx)) n
    rw [show ([120, 0, 0, 5] : List Int).length = 4 from rfl]
    clear hB hC E hw2 hbW i0 i1 d
    go_quiet (fail)
    go_wp2
    go_ret
    exact ⟨rfl, hbe.trans ((below_drewN _ _).mono hbe.size)⟩
  · have i0 : WW.cell? ⟨v1.heap.size + 1 + 1 + 1 + 1 + 1 + 1 + 1 + 1 + 1 + 1 + 1 + 1 + 1 + 1 + 1 + 1 + 1 + 1, 32, none⟩ = some (.int .i64 58) := ce 18 32 _ _ _ rfl rfl
    have i1 : WW.cell? ⟨v1.heap.size + 1 + 1 + 1 + 1 + 1 + 1 + 1 + 1 + 1 + 1 + 1 + 1 + 1 + 1 + 1 + 1 + 1 + 1, 33, none⟩ = some (.slice (some ⟨v1.heap.size + 1 + 1 + 1 + 1 + 1 + 1 + 1 + 1 + 1 + 1 + 1 + 1 + 1 + 1 + 1, 0, none⟩) 3 3) := ce 18 33 _ _ _ rfl rfl
    have g : WW.cell? ⟨v1.heap.size + 1 + 1 + 1 + 1 + 1 + 1 + 1 + 1 + 1 + 1 + 1 + 1 + 1 + 1 + 1 + 1 + 1 + 1 + 1 + 1 + 1 + 1 + 1 + 1 + 1 + 1 + 1 + 1 + 1 + 1 + 1 + 1 + 1 + 1 + 1 + 1 + 1 + 1, 16, none⟩ = some (.slice (some ⟨v1.heap.size + 1 + 1 + 1 + 1 + 1 + 1 + 1 + 1 + 1 + 1 + 1 + 1 + 1 + 1 + 1 + 1 + 1 + 1 + 1 + 1 + 1 + 1 + 1 + 1 + 1 + 1 + 1 + 1 + 1 + 1 + 1 + 1 + 1 + 1 + 1, 0, none⟩) 4 4) := ce 38 16 _ _ _ rfl rfl
    have d : ∀ i x, ([122, 37, 128, 0] : List Int)[i]? = some x → WW.cell? ⟨v1.heap.size + 1 + 1 + 1 + 1 + 1 + 1 + 1 + 1 + 1 + 1 + 1 + 1 + 1 + 1 + 1 + 1 + 1 + 1 + 1 + 1 + 1 + 1 + 1 + 1 + 1 + 1 + 1 + 1 + 1 + 1 + 1 + 1 + 1 + 1 + 1, i, none⟩ = some (.int .u8 x) := fun i x hx => ce 35 i _ _ _ rfl (by
      have e : (#[.int .u8 122, .int .u8 37, .int .u8 128, .int .u8 0] : Array Value) = (([122, 37, 128, 0] : List Int).map fun b => Value.int .u8 b).toArray := rfl
      rw [e]; simp only [List.getElem?_toArray, List.getElem?_map, hx, Option.map_some])
    have f0 : WW.cell? ⟨v1.heap.size + 1 + 1 + 1 + 1 + 1 + 1 + 1 + 1 + 1 + 1 + 1 + 1 + 1 + 1 + 1, 0, none⟩ = some (.int .i64 2) := ce 15 0 _ _ _ rfl rfl
    have f1 : WW.cell? ⟨v1.heap.size + 1 + 1 + 1 + 1 + 1 + 1 + 1 + 1 + 1 + 1 + 1 + 1 + 1 + 1 + 1, 1, none⟩ = some (.int .i64 5) := ce 15 1 _ _ _ rfl rfl
    have f2 : WW.cell? ⟨v1.heap.size + 1 + 1 + 1 + 1 + 1 + 1 + 1 + 1 + 1 + 1 + 1 + 1 + 1 + 1 + 1, 2, none⟩ = some (.int .i64 (-32768)) := ce 15 2 _ _ _ rfl rfl
    have E := encode_yes 58 (.slice (some ⟨v1.heap.size + 1 + 1 + 1 + 1 + 1 + 1 + 1 + 1 + 1 + 1 + 1 + 1 + 1 + 1 + 1, 0, none⟩) 3 3) [2, 5, -32768] WW (T.later hbW) (slice_is3 f0 f1 f2) (by intro x hx; simp at hx <;> omega) kc16.2
    rw [kc16.1] at E
    clear ce f0 f1 f2
    generalize v1.heap.size + 1 + 1 + 1 + 1 + 1 + 1 + 1 + 1 + 1 + 1 + 1 + 1 + 1 + 1 + 1 + 1 + 1 + 1 + 1 + 1 + 1 + 1 + 1 + 1 + 1 + 1 + 1 + 1 + 1 + 1 + 1 + 1 + 1 + 1 + 1 + 1 + 1 + 1 = B38 at *
    generalize v1.heap.size + 1 + 1 + 1 + 1 + 1 + 1 + 1 + 1 + 1 + 1 + 1 + 1 + 1 + 1 + 1 + 1 + 1 + 1 + 1 + 1 + 1 + 1 + 1 + 1 + 1 + 1 + 1 + 1 + 1 + 1 + 1 + 1 + 1 + 1 + 1 = B19 at *
    generalize v1.heap.size + 1 + 1 + 1 + 1 + 1 + 1 + 1 + 1 + 1 + 1 + 1 + 1 + 1 + 1 + 1 + 1 + 1 + 1 = B18 at *
    go_wp2_with (go_at_call 11; refine E.mono ?_; rintro e w2 ⟨v, rfl, hw2, hB⟩)
    obtain ⟨p, cap, rfl, hB⟩ := hB
    obtain ⟨bb, o, rfl, hC⟩ := hB (by simp)
    have g := kept_cell hw2 g
    have hbe := hbW.trans (hw2.mono hbW.size)
    have v1' := fun n => conv_any (W := w2) bb o 4 cap [122, 37, 128, 0] rfl hC n
    have v2' := fun n => conv_any (W := w2) B19 0 4 4 [122, 37, 128, 0] rfl (fun i x hx => by rw [Nat.zero_add]; exact kept_cell hw2 (d i x hx)) n
    rw [show ([122, 37, 128, 0] : List Int).length = 4 from rfl]
    clear hB hC E hw2 hbW i0 i1 d
    go_quiet (fail)
    go_wp2
    go_ret
    exact ⟨rfl, hbe.trans ((below_drewN _ _).mono hbe.size)⟩
  · have i0 : WW.cell? ⟨v1.heap.size + 1 + 1 + 1 + 1 + 1 + 1 + 1 + 1 + 1 + 1 + 1 + 1 + 1 + 1 + 1 + 1 + 1 + 1, 34, none⟩ = some (.int .i64 60) := ce 18 34 _ _ _ rfl rfl
    have i1 : WW.cell? ⟨v1.heap.size + 1 + 1 + 1 + 1 + 1 + 1 + 1 + 1 + 1 + 1 + 1 + 1 + 1 + 1 + 1 + 1 + 1 + 1, 35, none⟩ = some (.slice (some ⟨v1.heap.size + 1 + 1 + 1 + 1 + 1 + 1 + 1 + 1 + 1 + 1 + 1 + 1 + 1 + 1 + 1 + 1, 0, none⟩) 3 3) := ce 18 35 _ _ _ rfl rfl
    have g : WW.cell? ⟨v1.heap.size + 1 + 1 + 1 + 1 + 1 + 1 + 1 + 1 + 1 + 1 + 1 + 1 + 1 + 1 + 1 + 1 + 1 + 1 + 1 + 1 + 1 + 1 + 1 + 1 + 1 + 1 + 1 + 1 + 1 + 1 + 1 + 1 + 1 + 1 + 1 + 1 + 1 + 1, 17, none⟩ = some (.slice (some ⟨v1.heap.size + 1 + 1 + 1 + 1 + 1 + 1 + 1 + 1 + 1 + 1 + 1 + 1 + 1 + 1 + 1 + 1 + 1 + 1 + 1 + 1 + 1 + 1 + 1 + 1 + 1 + 1 + 1 + 1 + 1 + 1 + 1 + 1 + 1 + 1 + 1 + 1, 0, none⟩) 4 4) := ce 38 17 _ _ _ rfl rfl
    have d : ∀ i x, ([124, 34, 26, 20] : List Int)[i]? = some x → WW.cell? ⟨v1.heap.size + 1 + 1 + 1 + 1 + 1 + 1 + 1 + 1 + 1 + 1 + 1 + 1 + 1 + 1 + 1 + 1 + 1 + 1 + 1 + 1 + 1 + 1 + 1 + 1 + 1 + 1 + 1 + 1 + 1 + 1 + 1 + 1 + 1 + 1 + 1 + 1, i, none⟩ = some (.int .u8 x) := fun i x hx => ce 36 i _ _ _ rfl (by
      have e : (#[.int .u8 124, .int .u8 34, .int .u8 26, .int .u8 20] : Array Value) = (([124, 34, 26, 20] : List Int).map fun b => Value.int .u8 b).toArray := rfl
      rw [e]; simp only [List.getElem?_toArray, List.getElem?_map, hx, Option.map_some])
    have f0 : WW.cell? ⟨v1.heap.size + 1 + 1 + 1 + 1 + 1 + 1 + 1 + 1 + 1 + 1 + 1 + 1 + 1 + 1 + 1 + 1, 0, none⟩ = some (.int .i64 1) := ce 16 0 _ _ _ rfl rfl
    have f1 : WW.cell? ⟨v1.heap.size + 1 + 1 + 1 + 1 + 1 + 1 + 1 + 1 + 1 + 1 + 1 + 1 + 1 + 1 + 1 + 1, 1, none⟩ = some (.int .i64 2) := ce 16 1 _ _ _ rfl rfl
    have f2 : WW.cell? ⟨v1.heap.size + 1 + 1 + 1 + 1 + 1 + 1 + 1 + 1 + 1 + 1 + 1 + 1 + 1 + 1 + 1 + 1, 2, none⟩ = some (.int .i64 3) := ce 16 2 _ _ _ rfl rfl
    have E := encode_yes 60 (.slice (some ⟨v1.heap.size + 1 + 1 + 1 + 1 + 1 + 1 + 1 + 1 + 1 + 1 + 1 + 1 + 1 + 1 + 1 + 1, 0, none⟩) 3 3) [1, 2, 3] WW (T.later hbW) (slice_is3 f0 f1 f2) (by intro x hx; simp at hx <;> omega) kc17.2
    rw [kc17.1] at E
    clear ce f0 f1 f2
    generalize v1.heap.size + 1 + 1 + 1 + 1 + 1 + 1 + 1 + 1 + 1 + 1 + 1 + 1 + 1 + 1 + 1 + 1 + 1 + 1 + 1 + 1 + 1 + 1 + 1 + 1 + 1 + 1 + 1 + 1 + 1 + 1 + 1 + 1 + 1 + 1 + 1 + 1 + 1 + 1 = B38 at *
    generalize v1.heap.size + 1 + 1 + 1 + 1 + 1 + 1 + 1 + 1 + 1 + 1 + 1 + 1 + 1 + 1 + 1 + 1 + 1 + 1 + 1 + 1 + 1 + 1 + 1 + 1 + 1 + 1 + 1 + 1 + 1 + 1 + 1 + 1 + 1 + 1 + 1 + 1 = B19 at *
    generalize v1.heap.size + 1 + 1 + 1 + 1 + 1 + 1 + 1 + 1 + 1 + 1 + 1 + 1 + 1 + 1 + 1 + 1 + 1 + 1 = B18 at *
    go_wp2_with (go_at_call 11; refine E.mono ?_; rintro e w2 ⟨v, rfl, hw2, hB⟩)
    obtain ⟨p, cap, rfl, hB⟩ := hB
    obtain ⟨bb, o, rfl, hC⟩ := hB (by simp)
    have g := kept_cell hw2 g
    have hbe := hbW.trans (hw2.mono hbW.size)
    have v1' := fun n => conv_any (W := w2) bb o 4 cap [124, 34, 26, 20] rfl hC n
    have v2' := fun n => conv_any (W := w2) B19 0 4 4 [124, 34, 26, 20] rfl (fun i x hx => by rw [Nat.zero_add]; exact kept_cell hw2 (d i x hx)) n
    rw [show ([124, 34, 26, 20] : List Int).length = 4 from rfl]
    clear hB hC E hw2 hbW i0 i1 d
    go_quiet (fail)
    go_wp2
    go_ret
    exact ⟨rfl, hbe.trans ((below_drewN _ _).mono hbe.size)⟩
  · have i0 : WW.cell? ⟨v1.heap.size + 1 + 1 + 1 + 1 + 1 + 1 + 1 + 1 + 1 + 1 + 1 + 1 + 1 + 1 + 1 + 1 + 1 + 1, 36, none⟩ = some (.int .i64 63) := ce 18 36 _ _ _ rfl rfl
    have i1 : WW.cell? ⟨v1.heap.size + 1 + 1 + 1 + 1 + 1 + 1 + 1 + 1 + 1 + 1 + 1 + 1 + 1 + 1 + 1 + 1 + 1 + 1, 37, none⟩ = some (.slice (some ⟨v1.heap.size + 1 + 1 + 1 + 1 + 1 + 1 + 1 + 1 + 1 + 1 + 1 + 1 + 1 + 1 + 1 + 1 + 1, 0, none⟩) 3 3) := ce 18 37 _ _ _ rfl rfl
    have g : WW.cell? ⟨v1.heap.size + 1 + 1 + 1 + 1 + 1 + 1 + 1 + 1 + 1 + 1 + 1 + 1 + 1 + 1 + 1 + 1 + 1 + 1 + 1 + 1 + 1 + 1 + 1 + 1 + 1 + 1 + 1 + 1 + 1 + 1 + 1 + 1 + 1 + 1 + 1 + 1 + 1 + 1, 18, none⟩ = some (.slice (some ⟨v1.heap.size + 1 + 1 + 1 + 1 + 1 + 1 + 1 + 1 + 1 + 1 + 1 + 1 + 1 + 1 + 1 + 1 + 1 + 1 + 1 + 1 + 1 + 1 + 1 + 1 + 1 + 1 + 1 + 1 + 1 + 1 + 1 + 1 + 1 + 1 + 1 + 1 + 1, 0, none⟩) 4 4) := ce 38 18 _ _ _ rfl rfl
    have d : ∀ i x, ([124, 65, 24, 56] : List Int)[i]? = some x → WW.cell? ⟨v1.heap.size + 1 + 1 + 1 + 1 + 1 + 1 + 1 + 1 + 1 + 1 + 1 + 1 + 1 + 1 + 1 + 1 + 1 + 1 + 1 + 1 + 1 + 1 + 1 + 1 + 1 + 1 + 1 + 1 + 1 + 1 + 1 + 1 + 1 + 1 + 1 + 1 + 1, i, none⟩ = some (.int .u8 x) := fun i x hx => ce 37 i _ _ _ rfl (by
      have e : (#[.int .u8 124, .int .u8 65, .int .u8 24, .int .u8 56] : Array Value) = (([124, 65, 24, 56] : List Int).map fun b => Value.int .u8 b).toArray := rfl
      rw [e]; simp only [List.getElem?_toArray, List.getElem?_map, hx, Option.map_some])
    have f0 : WW.cell? ⟨v1.heap.size + 1 + 1 + 1 + 1 + 1 + 1 + 1 + 1 + 1 + 1 + 1 + 1 + 1 + 1 + 1 + 1 + 1, 0, none⟩ = some (.int .i64 1) := ce 17 0 _ _ _ rfl rfl
    have f1 : WW.cell? ⟨v1.heap.size + 1 + 1 + 1 + 1 + 1 + 1 + 1 + 1 + 1 + 1 + 1 + 1 + 1 + 1 + 1 + 1 + 1, 1, none⟩ = some (.int .i64 2) := ce 17 1 _ _ _ rfl rfl
    have f2 : WW.cell? ⟨v1.heap.size + 1 + 1 + 1 + 1 + 1 + 1 + 1 + 1 + 1 + 1 + 1 + 1 + 1 + 1 + 1 + 1 + 1, 2, none⟩ = some (.int .i64 3) := ce 17 2 _ _ _ rfl rfl
    have E := encode_yes 63 (.slice (some ⟨v1.heap.size + 1 + 1 + 1 + 1 + 1 + 1 + 1 + 1 + 1 + 1 + 1 + 1 + 1 + 1 + 1 + 1 + 1, 0, none⟩) 3 3) [1, 2, 3] WW (T.later hbW) (slice_is3 f0 f1 f2) (by intro x hx; simp at hx <;> omega) kc18.2
    rw [kc18.1] at E
    clear ce f0 f1 f2
    generalize v1.heap.size + 1 + 1 + 1 + 1 + 1 + 1 + 1 + 1 + 1 + 1 + 1 + 1 + 1 + 1 + 1 + 1 + 1 + 1 + 1 + 1 + 1 + 1 + 1 + 1 + 1 + 1 + 1 + 1 + 1 + 1 + 1 + 1 + 1 + 1 + 1 + 1 + 1 + 1 = B38 at *
    generalize v1.heap.size + 1 + 1 + 1 + 1 + 1 + 1 + 1 + 1 + 1 + 1 + 1 + 1 + 1 + 1 + 1 + 1 + 1 + 1 + 1 + 1 + 1 + 1 + 1 + 1 + 1 + 1 + 1 + 1 + 1 + 1 + 1 + 1 + 1 + 1 + 1 + 1 + 1 = B19 at *
    generalize v1.heap.size + 1 + 1 + 1 + 1 + 1 + 1 + 1 + 1 + 1 + 1 + 1 + 1 + 1 + 1 + 1 + 1 + 1 + 1 = B18 at *
    go_wp2_with (go_at_call 11; refine E.mono ?_; rintro e w2 ⟨v, rfl, hw2, hB⟩)
    obtain ⟨p, cap, rfl, hB⟩ := hB
    obtain ⟨bb, o, rfl, hC⟩ := hB (by simp)
    have g := kept_cell hw2 g
    have hbe := hbW.trans (hw2.mono hbW.size)
    have v1' := fun n => conv_any (W := w2) bb o 4 cap [124, 65, 24, 56] rfl hC n
    have v2' := fun n => conv_any (W := w2) B19 0 4 4 [124, 65, 24, 56] rfl (fun i x hx => by rw [Nat.zero_add]; exact kept_cell hw2 (d i x hx)) n
    rw [show ([124, 65, 24, 56] : List Int).length = 4 from rfl]
    clear hB hC E hw2 hbW i0 i1 d
    go_quiet (fail)
    go_wp2
    go_ret
    exact ⟨rfl, hbe.trans ((below_drewN _ _).mono hbe.size)⟩

/-! ### The row's step -/
set_option maxRecDepth 100000 in
theorem lifted (os : Os) (started : os.Started) (H : Type) (enc : TypeId × Value → H) :
    ReturnsInHanded {} Tryd.checked os 8 .any (fun w args => (Rows.isaKnownSpec.pre enc Tryd.prog Tryd.f8 [] false w args ∧ laidMetH Tryd.prog laid4 w) ∧ sizedMet enc Tryd.prog Tryd.f8 (OpenSpec.ofChange Rows.isaKnownSpec) false w args)
      (Rows.isaKnownSpec.post enc Tryd.prog Tryd.f8 false true false false) := by
  refine returnsInHanded_of_change_and (C := Tryd.checked) (X := fun w _ => laidMetH Tryd.prog laid4 w) (fun _ _ _ hh h => h.of_heap hh) own started (by kernel_rfl) Tryd.func8
    (ChangeSpec.witness_shaped (enc := enc) (C := Tryd.checked) (os := os) (X := fun w _ => laidMetH Tryd.prog laid4 w) false (World.doorLaid Tryd.prog 400 os) #[.int .i64 0] 8 rfl (World.shaped_of_RefB (by kernel_rfl) (by kernel_rfl)) (by kernel_rfl) (by kernel_rfl) (by kernel_rfl) (door_met os _)) ?_
  intro W base args ds gs before hval0 hW _ _ hL _
  have hval : ∀ (j : Nat) t v, Tryd.f8.params[j]? = some t → args[j]? = some v → Value.okWide Tryd.prog W .any base t v := hval0
  have hW' := hW
  obtain ⟨p, q, hA0, hV, rfl, hfz, hnd⟩ := hW
  have hA : DataW.TrodAll enc Tryd.prog W 0 (fun _ => true) true Tryd.f8.params.toList args.toList ds p := hA0
  rw [Tryd.params8] at hA hval
  obtain ⟨v0, vs0, d0, ds0, p0, q0, hargs, rfl, rfl, h0, r0⟩ := trodAll_cons hA
  obtain ⟨rfl, rfl, rfl⟩ := trodAll_nil r0
  obtain rfl : args = #[v0] := by cases args; simp_all
  obtain ⟨rfl, rfl⟩ := trodVars_none hV
  obtain ⟨a0, rfl, rfl, rfl, w0⟩ := open_int Tryd.underlying3 (hval 0 3 v0 rfl rfl) h0
  clear hA0 hval0
  simp only [List.append_nil] at hW'
  refine (walk a0 w0 W (tab_of_laid hL)).mono fun e W' ⟨he, hg⟩ => ?_
  subst he
  exact ⟨_, rfl, _, _, _, [], [], [], hW', (trodAll_cons_mk (shut_bool Tryd.underlying4 _) trodAll_mk0), (trodAll_cons_mk (shut_int Tryd.underlying3 w0) trodAll_mk0), rfl, hg.frame _, fun h => by cases h⟩

theorem over : Rows.isaKnownRow.holds Tryd.pinned (OpenSpec.ofChange Rows.isaKnownSpec) :=
  OpenClaim.holds_of_wide 8 Tryd.f8 rfl rfl rfl rfl rfl rfl rfl ⟨rfl, rfl, rfl, rfl, rfl⟩ rfl rfl rfl rfl rfl (by kernel_rfl) Tryd.func8 (by kernel_rfl)
    (of_decide_eq_true (by kernel_rfl)) (by unfold Func.isWrapper; first | (rw [if_pos (by decide +kernel)]; kernel_rfl) | (rw [if_neg (by decide +kernel)]; exact ⟨rfl, rfl⟩))
    (fun os started H enc _ => lifted os started H enc)

theorem row : Rows.IsaKnownSaid :=
  over

/-- The statement. -/
theorem proved : Rows.IsaKnownCardSaid :=
  Claim7.holds_tied_plain_at .later [] [.listed, .data, .data, .data] true (true, "f8a61b81d74079cffdfbdb9b506f022756fa9b39eb6237848ba27f725c41c242") false
    row (fun _ h => by cases h) (by kernel_rfl) (fun _ h => by cases h) isaKnown_row_tie rfl ⟨rfl, rfl⟩ (by kernel_rfl) rfl
    (fun f fn hf hfn => by
      obtain rfl : f = 8 := Option.some.inj ((show Tryd.prog.funcNamed "letterpress/letterpresslaw2.IsaKnown" = some 8 by kernel_rfl).symm.trans hf) |>.symm
      obtain rfl : fn = Tryd.f8 := (Option.some.inj (Tryd.func8.symm.trans hfn)).symm
      exact ⟨by kernel_rfl, fun j t ht => by
        rw [Tryd.params8] at ht
        have hm : t ∈ [3] := by simpa using Array.mem_of_getElem? ht
        have hall : ([3].all fun u => !Tryd.prog.wantsStandIn u) = true := by kernel_rfl
        exact (show Tryd.prog.wantsStandIn t = false by simpa using List.all_eq_true.1 hall t hm)⟩)
    (by kernel_rfl)
#print axioms proved
end Go.Proofs.YtlgimlddcmaboaaDoor.isaKnown
