/- What IsaDecodes stands on: what was decoded is encoded as it was; bytes that are turned, cut off at their ends. -/
import Derived.Test.YtnmclpphiajleaaDoorRefDecode
import Derived.Test.YtnmclpphiajleaaDoorBits2
import Derived.BigRegion
namespace Go.Proofs.YtnmclpphiajleaaDoor
open Go.ChangeShapes Go.WideShapes Go.ChangeAt Go.RowKit
open Plain
set_option linter.unusedVariables false
set_option linter.unusedSimpArgs false

theorem first_hit (size x : Int) : ∀ (n op k : Nat), firstP size x n op = some k → hitP size x k = true
  | 0, _, _, h => by simp [firstP] at h
  | n + 1, op, k, h => by
    unfold firstP at h
    split at h
    · rename_i hh
      cases h
      exact hh
    · exact first_hit size x n (op + 1) k h

theorem decodeP_facts {b : List Int} (hb : AreBytes b) {op : Int} {fs : List Int} {size : Int} (h : decodeP b = some (op, fs, size)) :
    (codedP op fs).2 = true ∧ bytesP (sizeP op) (codedP op fs).1 = b.take size.toNat ∧ size.toNat ≤ b.length ∧ (size = 2 ∨ size = 4) ∧ InRange fs ∧ fs.length ≤ 3 := by
  by_cases h2 : refSize b ≤ b.length
  · cases hf : firstP (refSize b : Int) (numB (b.take (refSize b))) 66 0 with
    | none => rw [decodeP_miss h2 hf] at h; cases h
    | some n =>
      rw [decodeP_hit h2 n hf] at h
      have hh := first_hit _ _ _ _ _ hf
      have hl : (leadP b).2.2 = true := by rw [lead_ref, if_pos h2]
      have hby := bytes_lead hb hl
      rw [lead_ref, if_pos h2] at hby
      simp only at hby
      generalize numB (b.take (refSize b)) = x at *
      simp only [Option.some.injEq, Prod.mk.injEq] at h
      obtain ⟨rfl, rfl, rfl⟩ := h
      unfold hitP at hh
      rw [Bool.and_eq_true, decide_eq_true_eq] at hh
      have hc := told_coded hh.2
      refine ⟨by rw [hc], by rw [hc, hh.1]; exact hby, by simpa using h2, ?_, ?_, ?_⟩
      · rw [refSize_eq]; split <;> simp
      · intro v hv
        unfold tells at hv
        obtain ⟨k, _, rfl⟩ := List.mem_map.1 hv
        exact tell_range k x
      · obtain ⟨_, _, _, hn3, _, _⟩ := rows_fields _ (rowP_mem (n : Int))
        unfold tells
        simpa using hn3
  · rw [decodeP_few h2] at h; cases h

theorem coded_zero : codedP 0 [] = (0, true) := by decide +kernel

/-- A row of bytes of its own. -/
theorem row_bytes {w : World} {base : Nat} {v : Value} {xs : List Int} (h : w.ownsRow base 5 1 v xs.length (xs.map fun x => Value.int .u8 x)) (hn : xs ≠ []) :
    ∃ g cap, v = .slice (some ⟨g, 0, none⟩) xs.length cap ∧ base ≤ g ∧ xs.length ≤ cap ∧ (∀ i, w.frozen? ⟨g, i, none⟩ = false) ∧ ∀ i x, xs[i]? = some x → w.cell? ⟨g, i, none⟩ = some (.int .u8 x) := by
  rcases h.2 with ⟨rfl, h0⟩ | ⟨g, cap, cur, rfl, hg, hb, hc, _, _, htk⟩
  · exact absurd (List.length_eq_zero_iff.1 h0) hn
  · refine ⟨g, cap, rfl, hg, hc, fun i => by simp [World.frozen?, hb], fun i u hu => ?_⟩
    rw [World.cell?]
    have hu' : cur[i]? = some (.int .u8 u) := by
      have hi : i < xs.length := (List.getElem?_eq_some_iff.1 hu).1
      have := congrArg (·[i]?) htk
      simp only [List.getElem?_take, List.getElem?_map, hu, Option.map_some] at this
      rw [if_pos (by omega)] at this
      simpa using this
    simp [hb, hu']

theorem bytes_take {w : World} {p : Option Addr} {n cap : Nat} {B : List Int} (m : Nat) (h : BytesAt w (.slice p n cap) B) (hm : m ≤ B.length) : BytesAt w (.slice p m cap) (B.take m) := by
  obtain ⟨p', cap', e, hc, h⟩ := h
  cases e
  have hl : (B.take m).length = m := by rw [List.length_take]; omega
  refine ⟨p, cap, by rw [hl], by omega, fun hn => ?_⟩
  obtain ⟨b, o, e, h2⟩ := h (by rintro rfl; simp at hn)
  refine ⟨b, o, e, fun i x hx => ?_⟩
  rw [List.getElem?_take] at hx
  split at hx
  · exact h2 i x hx
  · simp at hx

theorem bytes_tail {w : World} {b o n cap : Nat} {B : List Int} (h : BytesAt w (.slice (some ⟨b, o, none⟩) n cap) B) (hm : 1 ≤ B.length) : BytesAt w (.slice (some ⟨b, o + 1, none⟩) (n - 1) (cap - 1)) (B.drop 1) := by
  obtain ⟨p', cap', e, hc, h⟩ := h
  cases e
  have hl : (B.drop 1).length = B.length - 1 := by simp
  refine ⟨_, cap - 1, by rw [hl], by omega, fun hn => ?_⟩
  obtain ⟨b', o', e, h2⟩ := h (by rintro rfl; simp at hm)
  cases e
  refine ⟨b, o + 1, rfl, fun i x hx => ?_⟩
  rw [List.getElem?_drop] at hx
  have := h2 (1 + i) x hx
  rw [show o + 1 + i = o + (1 + i) by omega]
  exact this

theorem bytes_set {W : World} {g n c j : Nat} {fs : List Int} {v : Int} (hj : j < fs.length) (hn : fs.length = n) (hc : n ≤ c) (h : ∀ i x, fs[i]? = some x → W.cell? ⟨g, i, none⟩ = some (.int .u8 x)) : BytesAt (W.setCell ⟨g, j, none⟩ (.int .u8 v)) (.slice (some ⟨g, 0, none⟩) n c) (fs.set j v) := by
  refine ⟨_, c, by rw [List.length_set, hn], by rw [List.length_set, hn]; exact hc, fun _ => ⟨g, 0, rfl, fun i x hx => ?_⟩⟩
  rw [Nat.zero_add]
  rw [List.getElem?_set] at hx
  split at hx
  · rename_i hji
    subst hji
    cases hx
    obtain ⟨y, hy⟩ : ∃ y, fs[j]? = some y := ⟨_, List.getElem?_eq_getElem hj⟩
    exact World.cell?_setCell_same W ⟨g, j, none⟩ _ (h j y hy)
  · rename_i hji
    rw [World.cell?_setCell_other _ _ _ _ (by simp <;> omega)]
    exact h i x hx

theorem bytes_far {W : World} {b o n c g j : Nat} {fs : List Int} {u : Value} (hb : b ≠ g) (h : BytesAt W (.slice (some ⟨b, o, none⟩) n c) fs) : BytesAt (W.setCell ⟨g, j, none⟩ u) (.slice (some ⟨b, o, none⟩) n c) fs := by
  obtain ⟨p, c', e, hc, h⟩ := h
  cases e
  refine ⟨_, c, rfl, hc, fun hn => ?_⟩
  obtain ⟨b', o', e, h2⟩ := h hn
  cases e
  exact ⟨b, o, rfl, fun i x hx => cell_far hb (h2 i x hx)⟩

/-- Four slices of bytes lie there. -/
def Four (w : World) (g : Nat) : Prop := ∀ i : Nat, i < 4 → ∃ (q : Option Addr) (n c : Nat) (B : List Int), w.cell? ⟨g, i, none⟩ = some (.slice q n c) ∧ BytesAt w (.slice q n c) B ∧ AreBytes B ∧ B.length ≤ maxLen

theorem Four.later {w w' : World} {g : Nat} (h : Four w g) (hb : Below w.heap.size w w') : Four w' g := by
  intro i hi
  obtain ⟨q, n, c, B, h1, h2, h3, h4⟩ := h i hi
  exact ⟨q, n, c, B, kept_cell hb h1, h2.later hb, h3, h4⟩

/-- What Decode tells, whatever it is. -/
def outP : Option (Int × List Int × Int) → Int × List Int × Int × Bool
  | some (op, fs, size) => (op, fs, size, true)
  | none => (0, [], 0, false)

theorem decoded_out {w w' : World} {e : Ending} {d : Option (Int × List Int × Int)} (h : Decoded w w' e d) :
    ∃ p c, e = .returned (.tuple #[.agg #[.int .i64 (outP d).1, .slice p (outP d).2.1.length c], .int .i64 (outP d).2.2.1, .bool (outP d).2.2.2]) ∧ SliceIs w' (.slice p (outP d).2.1.length c) (outP d).2.1 := by
  match d, h with
  | none, h => exact ⟨none, 0, h, none, 0, rfl, fun hn => absurd rfl hn⟩
  | some (op, fs, size), h =>
    obtain ⟨v, rfl, hS⟩ := h
    have hI := hS.is
    obtain ⟨p, c, rfl, hT⟩ := hI
    exact ⟨p, c, rfl, p, c, rfl, hT⟩

theorem out_facts {B : List Int} (hb : AreBytes B) : (codedP (outP (decodeP B)).1 (outP (decodeP B)).2.1).2 = true ∧ InRange (outP (decodeP B)).2.1 ∧ (outP (decodeP B)).2.1.length ≤ 3 ∧ 0 ≤ (outP (decodeP B)).2.2.1 ∧ (outP (decodeP B)).2.2.1 ≤ 4 ∧
    ((outP (decodeP B)).2.2.2 = true → bytesP (sizeP (outP (decodeP B)).1) (codedP (outP (decodeP B)).1 (outP (decodeP B)).2.1).1 = B.take (outP (decodeP B)).2.2.1.toNat ∧ (outP (decodeP B)).2.2.1.toNat ≤ B.length ∧ 2 ≤ (outP (decodeP B)).2.2.1) := by
  cases h : decodeP B with
  | none => exact ⟨by show (codedP 0 []).2 = true; rw [coded_zero], fun x hx => by simp [outP] at hx, by simp [outP], by simp [outP], by simp [outP], fun hh => by simp [outP] at hh⟩
  | some d =>
    obtain ⟨op, fs, size⟩ := d
    obtain ⟨h1, h2, h3, h4, h5, h6⟩ := decodeP_facts hb h
    exact ⟨h1, h5, h6, by show 0 ≤ size; omega, by show size ≤ 4; omega, fun _ => ⟨h2, h3, by show 2 ≤ size; omega⟩⟩

theorem xor_u8 (x y : Int) : 0 ≤ bits .xor .u8 x y ∧ bits .xor .u8 x y ≤ 255 := by
  show 0 ≤ IntKind.u8.wrap _ ∧ IntKind.u8.wrap _ ≤ 255
  rw [IntKind.wrap_u8]
  omega
end Go.Proofs.YtnmclpphiajleaaDoor
