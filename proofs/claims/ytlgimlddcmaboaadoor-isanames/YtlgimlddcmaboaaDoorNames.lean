/- Contracts of the faces that tell names, kinds, sizes, and find. -/
import Derived.Test.YtlgimlddcmaboaaDoorFind
namespace Go.Proofs.YtlgimlddcmaboaaDoor
open Go.ChangeShapes Go.WideShapes Go.ChangeAt Go.RowKit
open Plain
set_option linter.unusedVariables false
set_option linter.unusedSimpArgs false

theorem rows2_row : ∀ r : Fin 66, rows2[r.val]? = some ⟨(rowP (r.val : Int)).name, digits (2 * sizeP (r.val : Int)).toNat (rowP (r.val : Int)).bits.toNat, (rowP (r.val : Int)).kinds⟩ ∧ (digits (2 * sizeP (r.val : Int)).toNat (rowP (r.val : Int)).bits.toNat).length = (2 * sizeP (r.val : Int)).toNat ∧ (rowP (r.val : Int)).name ≠ [32] ∧ (rowP (r.val : Int)).name ≠ [] := by decide +kernel

theorem findFrom_none {op : Int} {nm : ByteArray} : ∀ (m r : Nat), (∀ i, r ≤ i → i < r + m → asked op nm i = false) → findFrom op nm m r = none
  | 0, _, _ => rfl
  | m + 1, r, h => by
    unfold findFrom
    rw [if_neg (by rw [h r (by omega) (by omega)]; simp)]
    exact findFrom_none m (r + 1) (fun i h1 h2 => h i (by omega) (by omega))

theorem findFrom_some {op : Int} {nm : ByteArray} {k : Nat} (hk : asked op nm k = true) : ∀ (m r : Nat), r ≤ k → k < r + m → (∀ i, r ≤ i → i < k → asked op nm i = false) → findFrom op nm m r = some k
  | 0, _, _, h2, _ => by omega
  | m + 1, r, h1, h2, h => by
    unfold findFrom
    by_cases e : r = k
    · subst e; rw [if_pos hk]
    · rw [if_neg (by rw [h r (by omega) (by omega)]; simp)]
      exact findFrom_some hk m (r + 1) (by omega) (by omega) (fun i h3 h4 => h i (by omega) h4)

theorem bs_inj {a b : List UInt8} (h : bs a = bs b) : a = b := by
  unfold bs at h
  simpa using h

theorem asked_blank (op : Int) (r : Nat) (hr : r < 66) : asked op (bs [32]) r = ((r : Int) == op) := by
  obtain ⟨h1, _, h3, _⟩ := rows2_row ⟨r, hr⟩
  unfold asked
  rw [h1]
  have : decide (bs (rowP (r : Int)).name = bs [32]) = false := by
    rw [decide_eq_false_iff_not]
    exact fun e => h3 (bs_inj e)
  simp only [this, Bool.or_false]

theorem find_op (op : Int) : findP op (bs [32]) = if isP op = true then some op.toNat else none := by
  unfold findP
  by_cases h : isP op = true
  · rw [if_pos h]
    unfold isP at h
    rw [Bool.and_eq_true, decide_eq_true_eq, decide_eq_true_eq] at h
    refine findFrom_some ?_ 66 0 (by omega) (by omega) (fun i _ h2 => ?_)
    · rw [asked_blank op _ (by omega)]; simp; omega
    · rw [asked_blank op i (by omega)]; simp; omega
  · rw [if_neg h]
    refine findFrom_none 66 0 (fun i _ h2 => ?_)
    rw [asked_blank op i (by omega)]
    unfold isP at h
    simp only [Bool.and_eq_true, decide_eq_true_eq] at h
    simp; omega

/-- The row that the reference tells of a number. -/
theorem found_op (op : Int) (e : Ending) (h : FoundIs e (findP op (bs [32]))) :
    ∃ hx n is, e = .returned (.tuple #[.agg #[.string (bs (rowP op).name), .string (bs hx), .string (bs (rowP op).kinds)], .int .i64 n, .bool is]) ∧ (hx.length : Int) = 2 * sizeP op := by
  rw [find_op] at h
  by_cases hi : isP op = true
  · rw [if_pos hi] at h
    obtain ⟨x, h1, rfl⟩ := h
    have hi2 := hi
    unfold isP at hi2
    rw [Bool.and_eq_true, decide_eq_true_eq, decide_eq_true_eq] at hi2
    obtain ⟨k, rfl⟩ := Int.eq_ofNat_of_zero_le hi2.1
    obtain ⟨g1, g2, _, _⟩ := rows2_row ⟨k, by omega⟩
    simp only [Int.toNat_natCast] at h1
    rw [g1] at h1
    cases h1
    refine ⟨_, _, _, rfl, ?_⟩
    rw [g2]
    rcases sizeP_is hi with e | e <;> rw [e] <;> rfl
  · rw [if_neg hi] at h
    have hout : op < 0 ∨ 66 ≤ op := by
      unfold isP at hi
      simp only [Bool.and_eq_true, decide_eq_true_eq] at hi
      omega
    rw [rowP_out op hout]
    refine ⟨[], 0, false, h, ?_⟩
    unfold sizeP
    rw [if_pos hout]
    rfl

theorem refName_any (op : Int) (w : World) :
    Calls Tryd.prog 21 #[.int .i64 op] w fun e w' => e = .returned (.string (bs (rowP op).name)) ∧ Below w.heap.size w w' := by
  have F := find_any op (bs [32]) w
  rw [show bs [32] = ⟨#[32]⟩ from rfl] at F
  go_enter Tryd.func21, Tryd.ntmps21
  go_wp2_with fail
  refine F.mono ?_
  rintro e w1 ⟨hw1, hF⟩
  obtain ⟨hx, n, is, rfl, _⟩ := found_op op e hF
  go_wp2
  go_ret
  exact ⟨rfl, hw1.alloc hw1.size _⟩

theorem refKinds_any (op : Int) (w : World) :
    Calls Tryd.prog 23 #[.int .i64 op] w fun e w' => e = .returned (.string (bs (rowP op).kinds)) ∧ Below w.heap.size w w' := by
  have F := find_any op (bs [32]) w
  rw [show bs [32] = ⟨#[32]⟩ from rfl] at F
  go_enter Tryd.func23, Tryd.ntmps23
  go_wp2_with fail
  refine F.mono ?_
  rintro e w1 ⟨hw1, hF⟩
  obtain ⟨hx, n, is, rfl, _⟩ := found_op op e hF
  go_wp2
  go_ret
  exact ⟨rfl, hw1.alloc hw1.size _⟩

theorem refSize_any (op : Int) (w : World) :
    Calls Tryd.prog 24 #[.int .i64 op] w fun e w' => e = .returned (.int .i64 (sizeP op)) ∧ Below w.heap.size w w' := by
  have F := find_any op (bs [32]) w
  rw [show bs [32] = ⟨#[32]⟩ from rfl] at F
  go_enter Tryd.func24, Tryd.ntmps24
  go_wp2_with fail
  refine F.mono ?_
  rintro e w1 ⟨hw1, hF⟩
  obtain ⟨hx, n, is, rfl, hl⟩ := found_op op e hF
  have hsz : (((bs hx).size : Nat) : Int) = 2 * sizeP op := by
    rw [← hl]
    unfold bs
    simp [ByteArray.size]
  have hz : 0 ≤ sizeP op ∧ sizeP op ≤ 4 := by unfold sizeP; split <;> first | omega | (split <;> omega)
  obtain ⟨hz0, hz1⟩ := hz
  go_wp2
  go_ret
  refine ⟨?_, hw1.alloc hw1.size _⟩
  simp [hsz]
  try omega

/-- A number, and whether there is one. -/
def pairV : Option Nat → Value
  | some r => .tuple #[.int .i64 r, .bool true]
  | none => .tuple #[.int .i64 0, .bool false]

theorem refFind_any (nm : ByteArray) (w : World) :
    Calls Tryd.prog 26 #[.string nm] w fun e w' => Below w.heap.size w w' ∧ e = .returned (pairV (findP (-1) nm)) := by
  have F := find_any (-1) nm w
  go_enter Tryd.func26, Tryd.ntmps26
  go_wp2_with fail
  refine F.mono ?_
  rintro e w1 ⟨hw1, hF⟩
  cases hp : findP (-1) nm with
  | none =>
    rw [hp] at hF
    unfold FoundIs at hF
    subst hF
    go_wp2
    go_ret2
    exact ⟨hw1.alloc hw1.size _, by first | rfl | (rw [hp]; rfl)⟩
  | some r =>
    rw [hp] at hF
    obtain ⟨x, _, rfl⟩ := hF
    go_wp2
    go_ret2
    exact ⟨hw1.alloc hw1.size _, by first | rfl | (rw [hp]; rfl)⟩

theorem isaFind_any (nm : ByteArray) (w : World) (T : Tab w) :
    Calls Tryd.prog 25 #[.string nm] w fun e w' => Below w.heap.size w w' ∧ e = .returned (pairV (findP (-1) nm)) := by
  have N := fun op W T' => name_any op W T'
  go_enter Tryd.func25, Tryd.ntmps25
  go_wp2
  go_loopw [5] (fun i wr => ∃ n : Nat, n ≤ 66 ∧ i = .int .i64 n ∧ Hid (findFrom (-1) nm (66 - n) n = findP (-1) nm) ∧ Below w.heap.size w wr) (fun i _ => 66 - (intOf i).toNat)
  case atStart => exact ⟨0, by omega, rfl, rfl, Below.refl _ _⟩
  case round =>
    obtain ⟨n, hn, rfl, hf, hb⟩ := hrel
    by_cases hlt : n < 66
    · have hstep : Hid (findFrom (-1) nm (66 - n) n = _) := findFrom_step (-1) nm n hlt
      have hask : asked (-1) nm n = decide (bs (rowP (n : Int)).name = nm) := by
        obtain ⟨h1, _⟩ := rows2_row ⟨n, hlt⟩
        unfold asked
        rw [h1]
        have : ((n : Int) == -1) = false := by simp <;> omega
        rw [this, Bool.false_or]
      have Nn := N n wr (T.later hb)
      rw [show (⟨(rowP (n : Int)).name.toArray⟩ : ByteArray) = bs (rowP (n : Int)).name from rfl] at Nn
      clear N
      generalize (rowP (n : Int)).name = a at *
      by_cases h2 : bs a = nm
      · have hans : Hid (findP (-1) nm = some n) := by
          have h3 := hstep.out
          rw [hask, if_pos (by simp [h2])] at h3
          exact hf.out.symm.trans h3
        subst h2
        clear hask hstep hf
        go_wp2_with (go_at_call 20; refine Nn.mono ?_; rintro e w1 ⟨rfl, hw1⟩)
        go_ret2
        exact ⟨hb.trans (hw1.mono hb.size), by rw [hans.out]; rfl⟩
      · have hans : Hid (findFrom (-1) nm (66 - (n + 1)) (n + 1) = findP (-1) nm) := by
          have h3 := hstep.out
          rw [hask, if_neg (by simp [h2])] at h3
          exact h3.symm.trans hf.out
        have h2' : ((bs a).toList == nm.toList) = false := by
          have : ¬ (bs a).toList = nm.toList := by
            intro e
            rw [ByteArray.toList_eq, ByteArray.toList_eq] at e
            apply h2
            cases nm
            unfold bs at e ⊢
            simp at e
            simp [e]
          simpa using this
        clear hask hstep hf
        go_wp2_with (go_at_call 20; refine Nn.mono ?_; rintro e w1 ⟨rfl, hw1⟩)
        go_roundw
        case rel => exact ⟨n + 1, by omega, by go_num, hans, hb.trans (hw1.mono hb.size)⟩
        case measure => simp [intOf]; omega
    · have hn66 : n = 66 := by omega
      subst hn66
      have hans : Hid (findP (-1) nm = none) := hf.out.symm
      clear hf N
      go_wp2
      go_ret2
      exact ⟨hb, by rw [hans.out]; rfl⟩

theorem find_names : ∀ k : Fin 66, findP (-1) (bs (rowP (k.val : Int)).name) = some k.val := by decide +kernel
end Go.Proofs.YtlgimlddcmaboaaDoor
