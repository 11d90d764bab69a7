/- Contracts of rowOf, Name, Kinds, Size, and of strings.Fields at the kinds of an instruction. -/
import Derived.Test.YtagplfochalidabDoorLaid
import Derived.Test.YtagplfochalidabDoorEShelf
namespace Go.Proofs.YtagplfochalidabDoor
open Go.ChangeShapes Go.WideShapes Go.ChangeAt Go.RowKit
open Plain
set_option linter.unusedVariables false
set_option linter.unusedSimpArgs false

theorem short_len : short.length = 43 := by decide
theorem long_len : long.length = 23 := by decide

theorem rowP_short (op : Int) (h0 : 0 ≤ op) (h1 : op < 43) : short[op.toNat]? = some (rowP op) := by
  unfold rowP
  rw [if_neg (by omega), if_pos h1, List.getD_eq_getElem?_getD, List.getElem?_eq_getElem (by rw [short_len]; omega)]
  rfl

theorem rowP_long (op : Int) (h0 : 43 ≤ op) (h1 : op < 66) : long[op.toNat - 43]? = some (rowP op) := by
  unfold rowP
  rw [if_neg (by omega), if_neg (by omega), List.getD_eq_getElem?_getD, List.getElem?_eq_getElem (by rw [long_len]; omega)]
  rfl

theorem rowP_out (op : Int) (h : op < 0 ∨ 66 ≤ op) : rowP op = none' := by
  unfold rowP
  by_cases h0 : op < 0
  · rw [if_pos h0]
  · rw [if_neg h0, if_neg (by omega), List.getD_eq_getElem?_getD, List.getElem?_eq_none (by rw [long_len]; omega)]
    rfl

theorem rowOf_any (op : Int) (w : World) (T : TabOp op w) :
    Calls Tryd.prog 27 #[.int .i64 op] w fun e w' => e = .returned (.tuple #[(rowP op).val, .bool (isP op)]) ∧ Below w.heap.size w w' := by
  have hb : ∀ o, Below w.heap.size w (w.alloc o) := fun o => (Below.refl _ _).alloc (Nat.le_refl _) _
  by_cases hout : op < 0 ∨ 66 ≤ op
  · rw [rowP_out op hout, show isP op = false by unfold isP; rcases hout with h | h <;> simp <;> omega]
    clear T
    rcases hout with h | h
    · have d1 : decide (op < 0) = true := by simpa using h
      clear h
      go_enter Tryd.func27, Tryd.ntmps27
      go_wp2
      exact bodyPost_ret (v := .tuple #[(none').val, .bool false]) (by simp [results, Tryd.results27, go_sem, R.val, none', R.kinds, joined]) rfl ⟨rfl, hb _⟩
    · have d1 : decide (op < 0) = false := by simp; omega
      have d2 : decide (66 ≤ op) = true := by simpa using h
      clear h
      go_enter Tryd.func27, Tryd.ntmps27
      go_wp2
      exact bodyPost_ret (v := .tuple #[(none').val, .bool false]) (by simp [results, Tryd.results27, go_sem, R.val, none', R.kinds, joined]) rfl ⟨rfl, hb _⟩
  · have h0 : 0 ≤ op := by omega
    have h1 : op < 66 := by omega
    have d1 : decide (op < 0) = false := by simp; omega
    have d2 : decide (66 ≤ op) = false := by simp; omega
    rw [show isP op = true by unfold isP; simp; omega]
    clear hout
    by_cases hs : op < 43
    · obtain ⟨c0, c1, c2⟩ := T.tab.short _ _ (rowP_short op h0 hs)
      have b0 := block_lt_of_cell c0
      obtain ⟨k, rfl⟩ := Int.eq_ofNat_of_zero_le h0
      clear T d1 d2
      simp only [Int.toNat_natCast] at c0 c1 c2
      unfold R.val
      generalize rowP (k : Int) = r at *
      go_enter Tryd.func27, Tryd.ntmps27
      go_wp2
      exact bodyPost_ret (v := .tuple #[.agg #[.string ⟨r.name.toArray⟩, .int .u32 r.bits, .string ⟨r.kinds.toArray⟩], .bool true]) (by simp [results, Tryd.results27, go_sem]) rfl ⟨rfl, hb _⟩
    · exact absurd T.lt hs

theorem name_any (op : Int) (w : World) (T : TabOp op w) :
    Calls Tryd.prog 21 #[.int .i64 op] w fun e w' => e = .returned (.string ⟨(rowP op).name.toArray⟩) ∧ Below w.heap.size w w' := by
  have C := rowOf_any op w T
  unfold R.val at C
  generalize rowP op = r at *
  go_enter Tryd.func21, Tryd.ntmps21
  go_wp2_with (go_at_call 27; refine C.mono ?_; rintro e w' ⟨rfl, hw'⟩)
  go_ret
  exact ⟨rfl, hw'.alloc hw'.size _⟩

theorem kinds_any (op : Int) (w : World) (T : TabOp op w) :
    Calls Tryd.prog 23 #[.int .i64 op] w fun e w' => e = .returned (.string ⟨(rowP op).kinds.toArray⟩) ∧ Below w.heap.size w w' := by
  have C := rowOf_any op w T
  unfold R.val at C
  generalize rowP op = r at *
  go_enter Tryd.func23, Tryd.ntmps23
  go_wp2_with (go_at_call 27; refine C.mono ?_; rintro e w' ⟨rfl, hw'⟩)
  go_ret
  exact ⟨rfl, hw'.alloc hw'.size _⟩

theorem size_any (op : Int) (w : World) :
    Calls Tryd.prog 19 #[.int .i64 op] w fun e w' => w = w' ∧ e = .returned (.int .i64 (sizeP op)) := by
  by_cases h0 : op < 0
  · have d1 : decide (op < 0) = true := by simpa using h0
    rw [show sizeP op = 0 by unfold sizeP; rw [if_pos (.inl h0)]]
    clear h0
    go_enter Tryd.func19, Tryd.ntmps19
    go_wp2
    go_ret
    exact ⟨rfl, rfl⟩
  · have d1 : decide (op < 0) = false := by simpa using h0
    by_cases h1 : 66 ≤ op
    · have d2 : decide (66 ≤ op) = true := by simpa using h1
      rw [show sizeP op = 0 by unfold sizeP; rw [if_pos (.inr h1)]]
      clear h0 h1
      go_enter Tryd.func19, Tryd.ntmps19
      go_wp2
      go_ret
      exact ⟨rfl, rfl⟩
    · have d2 : decide (66 ≤ op) = false := by simpa using h1
      by_cases h2 : op < 43
      · rw [show sizeP op = 2 by unfold sizeP; rw [if_neg (by omega), if_pos h2]]
        have d3 : decide (op < 43) = true := by simpa using h2
        clear h0 h1 h2
        go_enter Tryd.func19, Tryd.ntmps19
        go_wp2
        go_ret
        exact ⟨rfl, rfl⟩
      · rw [show sizeP op = 4 by unfold sizeP; rw [if_neg (by omega), if_neg h2]]
        have d3 : decide (op < 43) = false := by simpa using h2
        clear h0 h1 h2
        go_enter Tryd.func19, Tryd.ntmps19
        go_wp2
        go_ret
        exact ⟨rfl, rfl⟩

theorem rowP_mem (op : Int) : rowP op ∈ short ++ long ++ [none'] := by
  by_cases h : op < 0 ∨ 66 ≤ op
  · rw [rowP_out op h]; simp
  · by_cases h1 : op < 43
    · have := List.mem_of_getElem? (rowP_short op (by omega) h1)
      simp [this]
    · have := List.mem_of_getElem? (rowP_long op (by omega) (by omega))
      simp [this]

theorem rows_fields : ∀ r ∈ short ++ long ++ [none'], Lib.fields r.kinds = r.ks.map K.name ∧ r.kinds.all (fun b => decide (b.toNat < 128)) = true ∧ r.kinds.length < 100 ∧ r.ks.length ≤ 3 ∧ 0 ≤ r.bits ∧ r.bits < 4294967296 := by decide +kernel

theorem fields_any (op : Int) (w : World) (T : TabOp op w) :
    Calls Tryd.prog 22 #[.string ⟨(rowP op).kinds.toArray⟩] w fun e w' => e = .returned (.slice (some ⟨w.heap.size, 0, none⟩) (rowP op).ks.length (rowP op).ks.length) ∧
      w' = w.alloc (.cells ((rowP op).ks.map fun k => Value.string ⟨k.name.toArray⟩).toArray 9) := by
  obtain ⟨h1, h2, h3, _⟩ := rows_fields _ (rowP_mem op)
  have C := Any.strings_Fields_core Tryd.lays157 (by kernel_rfl) ⟨(rowP op).kinds.toArray⟩ w (by rw [Lib.size_eq]; simp; omega)
    (by
      intro j b hb
      rw [List.all_eq_true] at h2
      have hm : b ∈ (rowP op).kinds := by
        have := List.mem_of_getElem? hb
        simpa using this
      exact of_decide_eq_true (h2 b hm))
    (fun c hc => T.tab.blanks c hc)
  have e : (⟨(rowP op).kinds.toArray⟩ : ByteArray).data.toList = (rowP op).kinds := by simp
  rw [e, h1] at C
  refine C.mono ?_
  rintro e w' ⟨rfl, rfl⟩
  refine ⟨by simp, ?_⟩
  rw [List.map_map]
  rfl
end Go.Proofs.YtagplfochalidabDoor
