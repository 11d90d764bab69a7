/- Contracts of the faces that tell names, kinds, sizes, and find. -/
import Derived.Test.YtnmclpphiajleaaDoorFind
namespace Go.Proofs.YtnmclpphiajleaaDoor
open Go.ChangeShapes Go.WideShapes Go.ChangeAt Go.RowKit
open Plain
set_option linter.unusedVariables false
set_option linter.unusedSimpArgs false

theorem rows2_row : ∀ r : Fin 66, rows2[r.val]? = some ⟨(rowP (r.val : Int)).name, digits (2 * sizeP (r.val : Int)).toNat (rowP (r.val : Int)).bits.toNat, (rowP (r.val : Int)).kinds⟩ ∧ (digits (2 * sizeP (r.val : Int)).toNat (rowP (r.val : Int)).bits.toNat).length = (2 * sizeP (r.val : Int)).toNat ∧ (rowP (r.val : Int)).name ≠ [32] ∧ (rowP (r.val : Int)).name ≠ [] := by decide +kernel

theorem findFrom_none {op : Int} {nm : ByteArray} : ∀ (m r : Nat), (∀ i, r ≤ i → i < r + m → asked op nm i = false) → findFrom op nm m r = none
  | 0, _, _ => rfl
  | m + 1, r, h => by
    unfold findFrom
    rw [if_neg (by rw [h r (by omega) (by omega)]; simp)]
    exact findFrom_none m (r + 1) (fun i h1 h2 => h i (by omega) (by omega))

theorem findFrom_some {op : Int} {nm : ByteArray} {k : Nat} (hk : asked op nm k = true) : ∀ (m r : Nat), r ≤ k → k < r + m → (∀ i, r ≤ i → i < k → asked op nm i = false) → findFrom op nm m r = some k
  | 0, _, _, h2, _ => by omega
  | m + 1, r, h1, h2, h => by
    unfold findFrom
    by_cases e : r = k
    · subst e; rw [if_pos hk]
    · rw [if_neg (by rw [h r (by omega) (by omega)]; simp)]
      exact findFrom_some hk m (r + 1) (by omega) (by omega) (fun i h3 h4 => h i (by omega) h4)

theorem bs_inj {a b : List UInt8} (h : bs a = bs b) : a = b := by
  unfold bs at h
  simpa using h

theorem asked_blank (op : Int) (r : Nat) (hr : r < 66) : asked op (bs [32]) r = ((r : Int) == op) := by
  obtain ⟨h1, _, h3, _⟩ := rows2_row ⟨r, hr⟩
  unfold asked
  rw [h1]
  have : decide (bs (rowP (r : Int)).name = bs [32]) = false := by
    rw [decide_eq_false_iff_not]
    exact fun e => h3 (bs_inj e)
  simp only [this, Bool.or_false]

theorem find_op (op : Int) : findP op (bs [32]) = if isP op = true then some op.toNat else none := by
  unfold findP
  by_cases h : isP op = true
  · rw [if_pos h]
    unfold isP at h
    rw [Bool.and_eq_true, decide_eq_true_eq, decide_eq_true_eq] at h
    refine findFrom_some ?_ 66 0 (by omega) (by omega) (fun i _ h2 => ?_)
    · rw [asked_blank op _ (by omega)]; simp; omega
    · rw [asked_blank op i (by omega)]; simp; omega
  · rw [if_neg h]
    refine findFrom_none 66 0 (fun i _ h2 => ?_)
    rw [asked_blank op i (by omega)]
    unfold isP at h
    simp only [Bool.and_eq_true, decide_eq_true_eq] at h
    simp; omega

/-- The row that the reference tells of a number. -/
theorem found_op (op : Int) (e : Ending) (h : FoundIs e (findP op (bs [32]))) :
    ∃ hx n is, e = .returned (.tuple #[.agg #[.string (bs (rowP op).name), .string (bs hx), .string (bs (rowP op).kinds)], .int .i64 n, .bool is]) ∧ (hx.length : Int) = 2 * sizeP op := by
  rw [find_op] at h
  by_cases hi : isP op = true
  · rw [if_pos hi] at h
    obtain ⟨x, h1, rfl⟩ := h
    have hi2 := hi
    unfold isP at hi2
    rw [Bool.and_eq_true, decide_eq_true_eq, decide_eq_true_eq] at hi2
    obtain ⟨k, rfl⟩ := Int.eq_ofNat_of_zero_le hi2.1
    obtain ⟨g1, g2, _, _⟩ := rows2_row ⟨k, by omega⟩
    simp only [Int.toNat_natCast] at h1
    rw [g1] at h1
    cases h1
    refine ⟨_, _, _, rfl, ?_⟩
    rw [g2]
    rcases sizeP_is hi with e | e <;> rw [e] <;> rfl
  · rw [if_neg hi] at h
    have hout : op < 0 ∨ 66 ≤ op := by
      unfold isP at hi
      simp only [Bool.and_eq_true, decide_eq_true_eq] at hi
      omega
    rw [rowP_out op hout]
    refine ⟨[], 0, false, h, ?_⟩
    unfold sizeP
    rw [if_pos hout]
    rfl

theorem refName_any (op : Int) (w : World) :
    Calls Tryd.prog 24 #[.int .i64 op] w fun e w' => e = .returned (.string (bs (rowP op).name)) ∧ Below w.heap.size w w' := by
  have F := find_any op (bs [32]) w
  rw [show bs [32] = ⟨#[32]⟩ from rfl] at F
  go_enter Tryd.func24, Tryd.ntmps24
  go_wp2_with fail
  refine F.mono ?_
  rintro e w1 ⟨hw1, hF⟩
  obtain ⟨hx, n, is, rfl, _⟩ := found_op op e hF
  go_wp2
  go_ret
  exact ⟨rfl, hw1.alloc hw1.size _⟩

theorem refKinds_any (op : Int) (w : World) :
    Calls Tryd.prog 20 #[.int .i64 op] w fun e w' => e = .returned (.string (bs (rowP op).kinds)) ∧ Below w.heap.size w w' := by
  have F := find_any op (bs [32]) w
  rw [show bs [32] = ⟨#[32]⟩ from rfl] at F
  go_enter Tryd.func20, Tryd.ntmps20
  go_wp2_with fail
  refine F.mono ?_
  rintro e w1 ⟨hw1, hF⟩
  obtain ⟨hx, n, is, rfl, _⟩ := found_op op e hF
  go_wp2
  go_ret
  exact ⟨rfl, hw1.alloc hw1.size _⟩

theorem refSize_any (op : Int) (w : World) :
    Calls Tryd.prog 25 #[.int .i64 op] w fun e w' => e = .returned (.int .i64 (sizeP op)) ∧ Below w.heap.size w w' := by
  have F := find_any op (bs [32]) w
  rw [show bs [32] = ⟨#[32]⟩ from rfl] at F
  go_enter Tryd.func25, Tryd.ntmps25
  go_wp2_with fail
  refine F.mono ?_
  rintro e w1 ⟨hw1, hF⟩
  obtain ⟨hx, n, is, rfl, hl⟩ := found_op op e hF
  have hsz : (((bs hx).size : Nat) : Int) = 2 * sizeP op := by
    rw [← hl]
    unfold bs
    simp [ByteArray.size]
  have hz : 0 ≤ sizeP op ∧ sizeP op ≤ 4 := by unfold sizeP; split <;> first | omega | (split <;> omega)
  obtain ⟨hz0, hz1⟩ := hz
  go_wp2
  go_ret
  refine ⟨?_, hw1.alloc hw1.size _⟩
  simp [hsz]
  try omega

/-- A number, and whether there is one. -/
def pairV : Option Nat → Value
  | some r => .tuple #[.int .i64 r, .bool true]
  | none => .tuple #[.int .i64 0, .bool false]

theorem find_names : ∀ k : Fin 66, findP (-1) (bs (rowP (k.val : Int)).name) = some k.val := by decide +kernel
end Go.Proofs.YtnmclpphiajleaaDoor
