/- The contracts of sign and between. -/
import Derived.Test.YtopfnfmglnjljaaGreatDoorTook
import Derived.Lib.LaidTab
import Derived.WalkSmall
namespace Go.Proofs.YtopfnfmglnjljaaGreatDoor
open Go.ChangeShapes Go.WideShapes Go.ChangeAt Go.RowKit
set_option linter.unusedVariables false
set_option linter.unusedSimpArgs false

/-- What the listed variables hold. -/
structure Tab (w : World) : Prop where
  signs : ∀ i : Nat, i < 7 → w.cell? ⟨0, i, none⟩ = some (.string (bs (signOf (5 + i))))
  pow : Lib.TabIs Tryz.prog w "internal/strconv.uint64pow10" .u64 Lib.pow10Tab
  synt : ∃ ev, w.cell? ⟨7, 0, none⟩ = some ev ∧ (ev = .nilIface ∨ ∃ te pe, ev = .iface te pe)
  range : ∃ ev, w.cell? ⟨8, 0, none⟩ = some ev ∧ (ev = .nilIface ∨ ∃ te pe, ev = .iface te pe)

/-- Kinds in memory, behind block b. -/
def KindsAt (b : Nat) (w : World) (v : Value) (ks : List Nat) : Prop :=
  ∃ kb, v = .slice (some ⟨kb, 0, none⟩) ks.length ks.length ∧ b < kb ∧ ∀ (i k : Nat), ks[i]? = some k → w.cell? ⟨kb, i, none⟩ = some (.int .i64 k)

theorem KindsAt.beside {b : Nat} {w w' : World} {v : Value} {ks : List Nat} (h : KindsAt b w v ks) (hb : Beside b w w') : KindsAt b w' v ks := by
  obtain ⟨kb, rfl, hl, hc⟩ := h
  exact ⟨kb, rfl, hl, fun i k hk => hb.cell (hc i k hk) (by simp; omega)⟩

theorem sign_any (k : Nat) (h5 : 5 ≤ k) (h11 : k ≤ 11) (w : World) (T : Tab w) :
    Calls Tryz.prog 45 #[.int .i64 k] w fun e w' => e = .returned (.string (bs (signOf k))) ∧ w' = w := by
  have c := T.signs (k - 5) (by omega)
  rw [show 5 + (k - 5) = k by omega] at c
  go_enter Tryz.func45, Tryz.ntmps45
  go_wp2
  go_ret
  exact ⟨rfl, rfl⟩

/-- All listed variables lie below this block. -/
def gtop : Nat := max (max (0 + 1) (1 + 1)) (max (7 + 1) (8 + 1))

theorem gPow : Tryz.prog.globalNamed "internal/strconv.uint64pow10" = some 1 := by kernel_rfl

theorem Tab.low {B : Nat} {w w' : World} (T : Tab w) (hb : Below B w w') (hl : gtop ≤ B) : Tab w' := by
  have l1 : 0 < B := by unfold gtop at hl; omega
  have l2 : 1 < B := by unfold gtop at hl; omega
  have l3 : 7 < B := by unfold gtop at hl; omega
  have l4 : 8 < B := by unfold gtop at hl; omega
  refine ⟨fun i hi => ?_, ?_, ?_, ?_⟩
  · rw [cell_of_block (hb.block _ l1)]; exact T.signs i hi
  · exact var?_below hb gPow l2 T.pow
  · obtain ⟨ev, h1, h2⟩ := T.synt; exact ⟨ev, by rw [cell_of_block (hb.block _ l3)]; exact h1, h2⟩
  · obtain ⟨ev, h1, h2⟩ := T.range; exact ⟨ev, by rw [cell_of_block (hb.block _ l4)]; exact h1, h2⟩

theorem Tab.size {w : World} (T : Tab w) : gtop ≤ w.heap.size := by
  have l1 := block_lt_of_cell (T.signs 0 (by omega))
  have l2 : 1 < w.heap.size := block_lt_of_cell (v := .int .u64 1) (by rw [World.var?_cell gPow T.pow]; rfl : w.cell? ⟨1, 0, none⟩ = _)
  obtain ⟨_, h3, _⟩ := T.synt
  obtain ⟨_, h4, _⟩ := T.range
  have l3 := block_lt_of_cell h3
  have l4 := block_lt_of_cell h4
  unfold gtop
  simp only at l1 l2 l3 l4
  omega

theorem Tab.later {w w' : World} (T : Tab w) (hb : Below w.heap.size w w') : Tab w' := T.low hb T.size
theorem Tab.beside {b : Nat} {w w' : World} (T : Tab w) (hb : Beside b w w') (hl : gtop ≤ b) : Tab w' := T.low hb.below hl

theorem betweenP_step {ks : List Nat} {j k : Nat} (h : ks[j]? = some k) (s : Bs) : betweenP (ks.drop j) s = if (tookP s (signOf k)).2 then (some k, (tookP s (signOf k)).1) else betweenP (ks.drop (j + 1)) (tookP s (signOf k)).1 := by
  obtain ⟨h1, rfl⟩ := List.getElem?_eq_some_iff.1 h
  rw [List.drop_eq_getElem_cons h1]
  rfl

set_option maxHeartbeats 800000 in
theorem between_any (b : Nat) (v : Value) (ks : List Nat) (s : Bs) (d : Nat) (w : World) (hg : gtop ≤ b) (T : Tab w) (h : Rdr w b s d) (hk : KindsAt b w v ks) (hr : ∀ k ∈ ks, 5 ≤ k ∧ k ≤ 11) (hm : ks.length ≤ 2) :
    Calls Tryz.prog 61 #[.pointer (some ⟨b, 0, none⟩), v] w fun e w' => e = .returned (.tuple #[.int .i64 ((betweenP ks s).1.getD 0), .bool (betweenP ks s).1.isSome]) ∧ Beside b w w' ∧ Rdr w' b (betweenP ks s).2 d := by
  obtain ⟨kb, rfl, hl, hc⟩ := id hk
  go_enter Tryz.func61, Tryz.ntmps61
  go_wp2
  go_loopw [10] (fun i wr => ∃ (j : Nat) (s' : Bs), j ≤ ks.length ∧ i = .int .i64 j ∧ Beside b w wr ∧ Rdr wr b s' d ∧ Hid (betweenP (ks.drop j) s' = betweenP ks s)) (fun i _ => ks.length - (intOf i).toNat)
  case atStart => exact ⟨0, s, by omega, rfl, Beside.refl _ _, h, rfl⟩
  case round =>
    obtain ⟨j, s', hj, rfl, hb, hR, he⟩ := hrel
    by_cases hjn : j < ks.length
    · obtain ⟨k, hk1⟩ : ∃ k, ks[j]? = some k := ⟨_, List.getElem?_eq_getElem hjn⟩
      have ck := hb.cell (hc j k hk1) (by simp; omega)
      have hk5 := hr k (List.mem_of_getElem? hk1)
      have hst : Hid (_ = _) := betweenP_step hk1 s'
      have S := sign_any k hk5.1 hk5.2 wr (T.beside hb hg)
      have K := took_any b s' (signOf k) d wr hR
      have hjI : (j : Int) < (ks.length : Int) := by omega
      clear hc hk hr T h
      cases ht : (tookP s' (signOf k)).2 with
      | true =>
        rw [ht] at K
        go_wp2_with (first | (go_at_call 45; refine S.mono ?_; rintro e w' ⟨rfl, rfl⟩) | (go_at_call 78; refine K.mono ?_; rintro e w2 ⟨rfl, hb2, h2⟩))
        go_ret2
        have e := hst.out
        rw [he.out, if_pos ht] at e
        rw [e]
        exact ⟨rfl, hb.trans hb2, h2⟩
      | false =>
        rw [ht] at K
        go_wp2_with (first | (go_at_call 45; refine S.mono ?_; rintro e w' ⟨rfl, rfl⟩) | (go_at_call 78; refine K.mono ?_; rintro e w2 ⟨rfl, hb2, h2⟩))
        go_roundw
        case rel => exact ⟨j + 1, _, by omega, by go_num, hb.trans hb2, h2, by have e := hst.out; rw [he.out, if_neg (by simp [ht])] at e; exact e.symm⟩
        case measure => simp [intOf]; omega
    · have hjn : j = ks.length := by omega
      subst hjn
      have e := he.out
      rw [List.drop_length] at e
      go_wp2
      go_ret2
      rw [← e]
      exact ⟨rfl, hb, hR⟩
end Go.Proofs.YtopfnfmglnjljaaGreatDoor
