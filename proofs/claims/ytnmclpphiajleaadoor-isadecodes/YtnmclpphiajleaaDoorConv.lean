/- Bytes as a text: two lists of bytes have one text just where they are the same. -/
import Derived.Test.YtnmclpphiajleaaDoorMade
import Derived.Test.YtnmclpphiajleaaDoorSame
import Derived.Test.YtnmclpphiajleaaDoorArgs
import Derived.Laws.BytesArg
import Derived.Lib.QuietBelow
namespace Go.Proofs.YtnmclpphiajleaaDoor
open Go.ChangeShapes Go.WideShapes Go.ChangeAt Go.RowKit
open Plain
set_option linter.unusedVariables false
set_option linter.unusedSimpArgs false

theorem conv_any {W : World} (b o m cap : Nat) (xs : List Int) (hlen : xs.length = m) (hc : ∀ i x, xs[i]? = some x → W.cell? ⟨b, o + i, none⟩ = some (.int .u8 x)) (n : Nat) :
    (convert 22 9 (.slice (some ⟨b, o, none⟩) m cap)).run Tryd.prog (W.drewN n) = .ok (.string (strOfNums xs)) (W.drewN n) :=
  run_convert_bytes_arg (P := Tryd.prog) (W.drewN n) 22 5 Tryd.underlying22 Tryd.underlying5 b o m cap xs hlen (fun i hi => by
    have hx : xs[i]? = some (xs.getD i 0) := by rw [List.getD_eq_getElem?_getD, List.getElem?_eq_getElem (by omega)]; rfl
    exact hc i _ hx) 9 Tryd.underlying9

theorem nums_inj : ∀ {xs ys : List Int}, AreBytes xs → AreBytes ys → (xs.map fun n => UInt8.ofNat n.toNat) = (ys.map fun n => UInt8.ofNat n.toNat) → xs = ys
  | [], [], _, _, _ => rfl
  | [], _ :: _, _, _, h => by simp at h
  | _ :: _, [], _, _, h => by simp at h
  | x :: xs, y :: ys, hx, hy, h => by
    simp only [List.map_cons, List.cons.injEq] at h
    have h1 := congrArg UInt8.toNat h.1
    have bx := hx x (by simp)
    have b_y := hy y (by simp)
    simp only [UInt8.toNat_ofNat'] at h1
    have e : x = y := by omega
    rw [e, nums_inj (fun z hz => hx z (by simp [hz])) (fun z hz => hy z (by simp [hz])) h.2]

theorem text_same {xs ys : List Int} (hx : AreBytes xs) (hy : AreBytes ys) : ((strOfNums xs).toList == (strOfNums ys).toList) = decide (xs = ys) := by
  rw [ByteArray.toList_eq, ByteArray.toList_eq]
  rw [strOfNums_data, strOfNums_data]
  by_cases h : xs = ys
  · subst h; simp
  · rw [decide_eq_false h]
    rw [beq_eq_false_iff_ne]
    exact fun e => h (nums_inj hx hy e)

theorem bytesP_bytes (size x : Int) : AreBytes (bytesP size x) := by
  intro b hb
  unfold bytesP at hb
  split at hb <;> simp at hb <;> omega

theorem bytesP_length {op : Int} (h : isP op = true) (x : Int) : ((bytesP (sizeP op) x).length : Int) = sizeP op := by
  rcases sizeP_is h with e | e <;> rw [e] <;> rfl

theorem conv_at {W : World} (b o m cap : Nat) (xs : List Int) (hlen : xs.length = m) (hc : ∀ i x, xs[i]? = some x → W.cell? ⟨b, o + i, none⟩ = some (.int .u8 x)) :
    (convert 22 9 (.slice (some ⟨b, o, none⟩) m cap)).run Tryd.prog W = .ok (.string (strOfNums xs)) W :=
  run_convert_bytes_arg (P := Tryd.prog) W 22 5 Tryd.underlying22 Tryd.underlying5 b o m cap xs hlen (fun i hi => by
    have hx : xs[i]? = some (xs.getD i 0) := by rw [List.getD_eq_getElem?_getD, List.getElem?_eq_getElem (by omega)]; rfl
    exact hc i _ hx) 9 Tryd.underlying9

/-- The first bytes of a slice as a text, whatever was drawn and made. -/
theorem conv_grown {W : World} (b o m cap : Nat) (xs : List Int) (hm : m ≤ xs.length) (hc : ∀ i x, xs[i]? = some x → W.cell? ⟨b, o + i, none⟩ = some (.int .u8 x)) (d : Nat) (os : Array Obj) :
    (convert 22 9 (.slice (some ⟨b, o, none⟩) m cap)).run Tryd.prog (Go.Sort.grow (redrawn W d) os) = .ok (.string (strOfNums (xs.take m))) (Go.Sort.grow (redrawn W d) os) :=
  conv_at b o m cap (xs.take m) (by rw [List.length_take]; omega) (fun i x hx => by
    rw [List.getElem?_take] at hx
    split at hx
    · exact kept_cell (below_regrown W d os) (hc i x hx)
    · simp at hx)

/-- Two instructions that may be: their bytes, as far as the shorter ones go, are the same just where they are. -/
theorem apart_fact {op op' : Int} {fs fs' : List Int} (h : (codedP op fs).2 = true) (h' : (codedP op' fs').2 = true) :
    decide ((bytesP (sizeP op) (codedP op fs).1).take (min (bytesP (sizeP op) (codedP op fs).1).length (bytesP (sizeP op') (codedP op' fs').1).length) =
      (bytesP (sizeP op') (codedP op' fs').1).take (min (bytesP (sizeP op) (codedP op fs).1).length (bytesP (sizeP op') (codedP op' fs').1).length)) = decide (op = op' ∧ fs = fs') := by
  have e : codedP op fs = ((codedP op fs).1, true) := Prod.ext rfl h
  have e' : codedP op' fs' = ((codedP op' fs').1, true) := Prod.ext rfl h'
  have z := sizeP_is (coded_size h)
  have z' := sizeP_is (coded_size h')
  have l := bytesP_length (coded_size h) (codedP op fs).1
  have l' := bytesP_length (coded_size h') (codedP op' fs').1
  have L := lead_of e
  have L' := lead_of e'
  have hs := fun hb => coded_same h h' hb
  by_cases hz : sizeP op = sizeP op'
  · rw [hz] at l
    have l2 : (bytesP (sizeP op) (codedP op fs).1).length = (bytesP (sizeP op') (codedP op' fs').1).length := by rw [hz]; omega
    rw [l2, Nat.min_self]
    rw [List.take_of_length_le (by omega), List.take_of_length_le (Nat.le_refl _)]
    by_cases hb : bytesP (sizeP op) (codedP op fs).1 = bytesP (sizeP op') (codedP op' fs').1
    · rw [decide_eq_true hb, decide_eq_true (hs hb)]
    · rw [decide_eq_false hb, decide_eq_false (by rintro ⟨rfl, rfl⟩; exact hb rfl)]
  · have hn : ¬ (op = op' ∧ fs = fs') := by rintro ⟨rfl, _⟩; exact hz rfl
    rw [decide_eq_false hn]
    apply decide_eq_false
    generalize bytesP (sizeP op) (codedP op fs).1 = B at *
    generalize bytesP (sizeP op') (codedP op' fs').1 = B' at *
    intro hb
    rcases z with z | z <;> rcases z' with z' | z'
    · omega
    · have l1 : B.length = 2 := by omega
      have l2 : B'.length = 4 := by omega
      rw [l1, l2, show min 2 4 = 2 from rfl, List.take_of_length_le (by omega)] at hb
      have t1 := L (B'.drop 2)
      rw [hb, List.take_append_drop] at t1
      have t2 := L' []
      rw [List.append_nil, t1] at t2
      simp at t2
      omega
    · have l1 : B.length = 4 := by omega
      have l2 : B'.length = 2 := by omega
      rw [l1, l2, show min 4 2 = 2 from rfl, List.take_of_length_le (l := B') (by omega)] at hb
      have t1 := L' (B.drop 2)
      rw [← hb, List.take_append_drop] at t1
      have t2 := L []
      rw [List.append_nil, t1] at t2
      simp at t2
      omega
    · omega
end Go.Proofs.YtnmclpphiajleaaDoor
