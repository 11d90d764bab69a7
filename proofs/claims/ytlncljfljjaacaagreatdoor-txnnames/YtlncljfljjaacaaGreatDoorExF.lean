/- The contracts of WriteByte, Join; of the reference's Join and Parts; of Words. -/
import Derived.Test.YtlncljfljjaacaaGreatDoorExE
namespace Go.Proofs.YtlncljfljjaacaaGreatDoor.E
open Go.ChangeShapes Go.WideShapes Go.ChangeAt Go.RowKit
set_option linter.unusedVariables false
set_option linter.unusedSimpArgs false

set_option maxHeartbeats 2000000 in
set_option maxRecDepth 100000 in
theorem writeByte_any (T : TypeId) (hT : Heads T) (k : Nat) (l : Bs) (c : UInt8) (w : World) (h : Bld T k w l) (hlen : l.length + 1 ≤ 140737488355328) :
    Calls Tryz.prog 19 #[.pointer (some ⟨k, 0, none⟩), .int .u8 c.toNat] w fun e w' => e = .returned .nilIface ∧ Bld T k w' (l ++ [c]) ∧ Below k w w' := by
  have hlt := h.lt
  obtain ⟨p, v, hp, hk, hown⟩ := h
  obtain ⟨i0, hi, hz0, hz1, hz2⟩ := info_parts infoU8
  have C := copyCheck_any T hT k p v hp w hk
  go_enter Tryz.func19, Tryz.ntmps19
  go_wp2_with (go_at_call 26; refine C.mono ?_)
  rintro e w1 ⟨rfl, hk1, hw1⟩
  obtain ⟨hb1, ho1, hbl⟩ := checked hk hw1
  have hown1 := owns_of_block hown hbl
  have c0 : w1.cell? ⟨k, 0, none⟩ = some (.pointer (some ⟨k, 0, none⟩)) := by rw [Lib.cell_of_heap hk1]; rfl
  have c1 : w1.cell? ⟨k, 1, none⟩ = some v := by rw [Lib.cell_of_heap hk1]; rfl
  have hsz1 := hb1.size
  clear hown C hw1
  go_wp2_with (at_builtin; refine wpList_append_own _ rfl _ _ 39 rfl (k + 1) 5 i0 (.int .u8 0) 1 1 Tryz.underlying39 hi hz0 hz1 hz2 rfl (by decide) _ _ _ rfl (hown1.alloc _) ⟨w1.heap.size, 0, none⟩ 1 1 [.int .u8 c.toNat] rfl rfl ?c1 ?c2 ?c3 ?c4 ?c5 ?_)
  case c1 =>
    intro j u hj
    match j, hj with
    | 0, hj => simp at hj; subst hj; simp [Addr.add]
  case c2 => intro u hu; simp at hu; subst hu; rfl
  case c3 => unfold maxLen; omega
  case c4 => omega
  case c5 => simp; omega
  intro v' w2 hown' hgrow _
  have hkA : (w1.alloc (.cells #[.int .u8 c.toNat] 5)).heap[k]? = some (.cells #[.pointer (some ⟨k, 0, none⟩), v] T (0, 0)) := by
    rw [Below.heap_alloc _ _ _ (by omega)]; exact hk1
  have hk2 : w2.heap[k]? = some (.cells #[.pointer (some ⟨k, 0, none⟩), v] T (0, 0)) := by
    rw [hgrow.block k (by simp; omega) (fun e => by have := (row_kind hown1 k e.symm).1; omega)]
    exact hkA
  have d1 : w2.cell? ⟨k, 1, none⟩ = some v := by rw [Lib.cell_of_heap hk2]; rfl
  have f1 : w2.frozen? ⟨k, 1, none⟩ = false := Lib.frozen_of_heap hk2 1
  have hbc : Lib.byteCells l ++ [.int .u8 (c.toNat : Int)] = Lib.byteCells (l ++ [c]) := by rw [Lib.byteCells_append]; rfl
  rw [hbc] at hown'
  obtain ⟨a', c', rfl⟩ := row_slice hown'
  have hbk2 : Below k w w2 := (hb1.alloc (by omega) _).grown hgrow (by simp; omega) (fun g hg => by have := (row_kind hown1 g hg).1; omega)
  have dlt : k < w2.heap.size := (Array.getElem?_eq_some_iff.1 hk2).1
  clear hown1 hgrow c0 c1
  go_wp2
  go_ret
  refine ⟨rfl, ⟨.pointer (some ⟨k, 0, none⟩), _, .inr rfl, ?_, owns_of_block (w := w2) (by simpa using hown') (fun g hg => Below.heap_setCell _ _ _ _ (by simp; omega))⟩, hbk2.setCell (p := ⟨k, 1, none⟩) (Nat.le_refl _) _⟩
  simp [World.setCell, Array.getElem?_modify, hk2]

theorem joinP_take (l : List Bs) (j : Nat) (s : Bs) (h : l[j]? = some s) : joinP (l.take (j + 1)) = joinP (l.take j) ++ s ++ [10] := by
  rw [List.take_add_one, h]
  exact joinP_snoc _ _
theorem joinP_le (l : List Bs) (j : Nat) : (joinP (l.take j)).length ≤ (joinP l).length := by
  have : joinP l = joinP (l.take j) ++ joinP (l.drop j) := by
    unfold joinP
    rw [← List.flatMap_append, List.take_append_drop]
  rw [this, List.length_append]; omega

set_option maxHeartbeats 3200000 in
set_option maxRecDepth 20000 in
theorem join_any (l : List Bs) (hl : (joinP l).length ≤ 1000000) (hn : l.length ≤ 1000000) (v : Value) (w : World) (h : StrsAt w v l) :
    Calls Tryz.prog 6 #[v] w fun e w' => e = .returned (.string (bs (joinP l))) ∧ Below w.heap.size w w' := by
  have hS : ∀ (wr : World), Below w.heap.size w wr → StrsAt wr v l := fun wr hb => h.later hb
  obtain ⟨p, cap, rfl, hc⟩ := h
  go_enter Tryz.func6, Tryz.ntmps6
  go_wp2
  go_loopw [8] (fun i wr => ∃ j : Nat, j ≤ l.length ∧ i = .int .i64 j ∧ Bld 51 w.heap.size wr (joinP (l.take j)) ∧ Below w.heap.size w wr) (fun i _ => l.length - (intOf i).toNat)
  case atStart => exact ⟨0, by omega, rfl, Bld.new w _, below_new _ _⟩
  case round =>
    obtain ⟨j, hj, rfl, hB, hb⟩ := hrel
    have hle := joinP_le l j
    by_cases hjn : j < l.length
    · obtain ⟨s, hs⟩ : ∃ s, l[j]? = some s := ⟨_, List.getElem?_eq_getElem hjn⟩
      obtain ⟨g, o, rfl, hcc⟩ := hc (by rintro rfl; simp at hjn)
      have cz := kept_cell hb (hcc j s hs)
      have hjI : (j : Int) < (l.length : Int) := by omega
      have hnx := joinP_take l j s hs
      have hle2 := joinP_le l (j + 1)
      have hln : (joinP (l.take j)).length + s.length + 1 ≤ 1000000 := by rw [hnx] at hle2; simp at hle2; omega
      have W1 := writeString_any _ heads_builder w.heap.size (joinP (l.take j)) s wr hB (by omega)
      clear hS hc hcc hle hle2
      go_wp2_with fail
      refine W1.mono ?_
      rintro e w1 ⟨rfl, hB1, hb1, _⟩
      have W2 := writeByte_any _ heads_builder w.heap.size (joinP (l.take j) ++ s) 10 w1 hB1 (by simp; omega)
      rw [show ((10 : UInt8).toNat : Int) = 10 from rfl, ← hnx] at W2
      have hb2 := hb.trans hb1
      clear W1 hB hb hb1 hB1 hnx hln
      go_wp2_with fail
      refine W2.mono ?_
      rintro e w3 ⟨rfl, hB3, hb3⟩
      have hb4 := hb2.trans hb3
      clear W2
      go_wp2_with fail
      go_roundw
      case rel => exact ⟨j + 1, by omega, by go_num, hB3, hb4⟩
      case measure => simp [intOf]; omega
    · obtain rfl : j = l.length := by omega
      have hjI : ¬ (l.length : Int) < (l.length : Int) := by omega
      rw [List.take_length] at hB
      have S := Tryz.Builder_String_any_k w.heap.size w.heap.size (joinP l) wr (Lib.IsBuilderF.of hB.is) hb.size
      clear hS hc
      go_wp2_with fail
      refine S.mono ?_
      rintro e w1 ⟨rfl, _, b1, _⟩
      go_wp2_with fail
      go_ret
      exact ⟨rfl, hb.trans b1⟩

theorem bs_add (a b : Bs) : bs a ++ bs b = bs (a ++ b) := by
  apply ByteArray.ext
  simp [bs]

set_option maxHeartbeats 3200000 in
set_option maxRecDepth 20000 in
theorem rjoin_any (l : List Bs) (hl : (joinP l).length ≤ 1000000) (hn : l.length ≤ 1000000) (v : Value) (w : World) (h : StrsAt w v l) :
    Calls Tryz.prog 7 #[v] w fun e w' => e = .returned (.string (bs (joinP l))) ∧ w' = w := by
  obtain ⟨p, cap, rfl, hc⟩ := h
  go_enter Tryz.func7, Tryz.ntmps7
  go_wp2
  go_loopw [3, 4] (fun s i wr => ∃ j : Nat, j ≤ l.length ∧ s = .string (bs (joinP (l.take j))) ∧ i = .int .i64 j ∧ wr = w) (fun _ i _ => l.length - (intOf i).toNat)
  case atStart => exact ⟨0, by omega, rfl, rfl, rfl⟩
  case round =>
    obtain ⟨j, hj, rfl, rfl, rfl⟩ := hrel
    have hle := joinP_le l j
    by_cases hjn : j < l.length
    · obtain ⟨s, hs⟩ : ∃ s, l[j]? = some s := ⟨_, List.getElem?_eq_getElem hjn⟩
      obtain ⟨g, o, rfl, hcc⟩ := hc (by rintro rfl; simp at hjn)
      have cz := hcc j s hs
      have hjI : (j : Int) < (l.length : Int) := by omega
      have hnx := joinP_take l j s hs
      have hle2 := joinP_le l (j + 1)
      have hln : (joinP (l.take j)).length + s.length + 1 ≤ 1000000 := by rw [hnx] at hle2; simp at hle2; omega
      have A1 := run_string_add_sum (P := Tryz.prog) wr (bs (joinP (l.take j))) (bs s) (by rw [bs_size, bs_size]; omega)
      rw [bs_add] at A1
      have A2 := run_string_add_sum (P := Tryz.prog) wr (bs (joinP (l.take j) ++ s)) ⟨#[10]⟩ (by rw [bs_size]; simp [ByteArray.size]; omega)
      rw [show (⟨#[10]⟩ : ByteArray) = bs [10] from rfl, bs_add, ← hnx] at A2
      rw [show bs [10] = (⟨#[10]⟩ : ByteArray) from rfl] at A2
      clear hc hcc hle hle2 hnx hln
      go_wp2
      go_roundw
      case rel => exact ⟨j + 1, by omega, rfl, by go_num, trivial⟩
      case measure => simp [intOf]; omega
    · obtain rfl : j = l.length := by omega
      have hjI : ¬ (l.length : Int) < (l.length : Int) := by omega
      rw [List.take_length]
      clear hc
      go_wp2
      go_ret
      exact ⟨rfl, rfl⟩

set_option maxHeartbeats 3200000 in
set_option maxRecDepth 20000 in
theorem strsEq_any (a b : List Bs) (ha : a.length ≤ 1000000) (hb' : b.length ≤ 1000000) (va vb : Value) (w : World) (h : StrsAt w va a) (h2 : StrsAt w vb b) :
    Calls Tryz.prog 8 #[va, vb] w fun e w' => e = .returned (.bool (decide (a = b))) ∧ Below w.heap.size w w' := by
  obtain ⟨p, cap, rfl, hc⟩ := h
  obtain ⟨p2, cap2, rfl, hc2⟩ := h2
  obtain ⟨r, hr⟩ : ∃ r, r = decide (a = b) := ⟨_, rfl⟩
  rw [← hr]
  have HR : Hid (r = decide (a = b)) := hr
  clear hr
  by_cases hab : a.length = b.length
  · have e1 : ((a.length : Int) == (b.length : Int)) = true := by simp [hab]
    go_enter Tryz.func8, Tryz.ntmps8
    go_wp2
    go_loopw [5] (fun i wr => ∃ j : Nat, j ≤ a.length ∧ i = .int .i64 j ∧ Below w.heap.size w wr ∧ Hid (a.take j = b.take j)) (fun i _ => a.length - (intOf i).toNat)
    case atStart => exact ⟨0, by omega, rfl, Below.refl _ _, by simp [Hid]⟩
    case round =>
      obtain ⟨j, hj, rfl, hb, hI⟩ := hrel
      by_cases hjn : j < a.length
      · obtain ⟨s, hs⟩ : ∃ s, a[j]? = some s := ⟨_, List.getElem?_eq_getElem hjn⟩
        obtain ⟨t, ht⟩ : ∃ t, b[j]? = some t := ⟨_, List.getElem?_eq_getElem (by omega)⟩
        obtain ⟨g, o, rfl, hcc⟩ := hc (by rintro rfl; simp at hjn)
        obtain ⟨g2, o2, rfl, hcc2⟩ := hc2 (by rintro rfl; simp at ht)
        have cz := kept_cell hb (hcc j s hs)
        have cz2 := kept_cell hb (hcc2 j t ht)
        have hjI : (j : Int) < (a.length : Int) := by omega
        have hjI2 : (j : Int) < (b.length : Int) := by omega
        by_cases hst : s = t
        · subst hst
          have e2 : ((bs s).toList == (bs s).toList) = true := by simp
          have HS : Hid (a.take (j + 1) = b.take (j + 1)) := by
            show a.take (j + 1) = b.take (j + 1)
            rw [List.take_add_one, List.take_add_one, hs, ht, hI.out]
          clear hc hcc hc2 hcc2 hI hs ht e1
          go_wp2
          go_region
          all_goals go_wp2
          all_goals go_roundw
          case rel => exact ⟨j + 1, by omega, by go_num, hb.drew, HS⟩
          case measure => simp [intOf]; omega
        · have e2 : ((bs s).toList == (bs t).toList) = false := by simp only [ByteArray.toList_eq, bs_list]; simpa using hst
          obtain rfl : r = false := by
            rw [HR.out]; simp
            intro e
            rw [e, ht] at hs
            exact hst (Option.some.inj hs).symm
          clear hc hcc hc2 hcc2 hI hs ht e1 ha hb' HR
          go_wp2
          go_region
          all_goals go_wp2
          all_goals go_ret
          all_goals exact ⟨rfl, hb.drew⟩
      · obtain rfl : j = a.length := by omega
        have hjI : ¬ (a.length : Int) < (a.length : Int) := by omega
        obtain rfl : r = true := by
          have := hI.out
          rw [List.take_length, hab, List.take_length] at this
          rw [HR.out]; simpa using this
        clear hc hc2 HR hI
        go_wp2
        go_ret
        exact ⟨rfl, hb⟩
  · obtain rfl : r = false := by rw [HR.out]; simp; intro e; exact hab (by rw [e])
    have e1 : ((a.length : Int) == (b.length : Int)) = false := by simp; omega
    clear HR hc hc2
    go_enter Tryz.func8, Tryz.ntmps8
    go_wp2
    go_ret
    exact ⟨rfl, Below.refl _ _⟩
end Go.Proofs.YtlncljfljjaacaaGreatDoor.E
