/- The contracts of formed, named, place, value, Eval. -/
import Derived.Test.YtopfnfmglnjljaaGreatDoorReckon
namespace Go.Proofs.YtopfnfmglnjljaaGreatDoor
open Go.ChangeShapes Go.WideShapes Go.ChangeAt Go.RowKit
open Go.Sort (grow)
set_option linter.unusedVariables false
set_option linter.unusedSimpArgs false

/-- Symbols in memory. -/
def SymsAt (w : World) (v : Value) (syms : List (Bs × Int)) : Prop :=
  ∃ p cap, v = .slice p syms.length cap ∧ syms.length ≤ maxLen ∧ (syms ≠ [] → ∃ b o, p = some ⟨b, o, none⟩ ∧ ∀ (i : Nat) s n, syms[i]? = some (s, n) → w.cell? ⟨b, o + i * 2, none⟩ = some (.string (bs s)) ∧ w.cell? ⟨b, o + i * 2 + 1, none⟩ = some (.int .i64 n))

theorem SymsAt.later {w w' : World} {v : Value} {syms : List (Bs × Int)} (h : SymsAt w v syms) (hb : Below w.heap.size w w') : SymsAt w' v syms := by
  obtain ⟨p, cap, rfl, hm, h⟩ := h
  refine ⟨p, cap, rfl, hm, fun hn => ?_⟩
  obtain ⟨b, o, e, h2⟩ := h hn
  exact ⟨b, o, e, fun i s n hi => ⟨kept_cell hb (h2 i s n hi).1, kept_cell hb (h2 i s n hi).2⟩⟩

theorem formed_leaf (k n : Int) (s : ByteArray) (hk : 1 ≤ k) (hk3 : k ≤ 3) (w : World) :
    Calls Tryz.prog 41 #[.agg #[.int .i64 k, .int .i64 n, .string s, .slice none 0 0]] w fun e w' => e = .returned (.bool true) ∧ Below w.heap.size w w' := by
  have h0 := below_new w (.cells #[.int .i64 k, .int .i64 n, .string s, .slice none 0 0] 27)
  go_enter Tryz.func41, Tryz.ntmps41
  go_wp2
  go_ret
  exact ⟨rfl, h0⟩

theorem formed_neg (n : Int) (s : ByteArray) (p : Option Addr) (c : Nat) (w : World) :
    Calls Tryz.prog 41 #[.agg #[.int .i64 4, .int .i64 n, .string s, .slice p 1 c]] w fun e w' => e = .returned (.bool true) ∧ Below w.heap.size w w' := by
  have h0 := below_new w (.cells #[.int .i64 4, .int .i64 n, .string s, .slice p 1 c] 27)
  go_enter Tryz.func41, Tryz.ntmps41
  go_wp2
  go_ret
  exact ⟨rfl, h0⟩

theorem formed_two (k n : Int) (s : ByteArray) (p : Option Addr) (c : Nat) (hk : 5 ≤ k) (hk3 : k ≤ 11) (w : World) :
    Calls Tryz.prog 41 #[.agg #[.int .i64 k, .int .i64 n, .string s, .slice p 2 c]] w fun e w' => e = .returned (.bool true) ∧ Below w.heap.size w w' := by
  have h0 := below_new w (.cells #[.int .i64 k, .int .i64 n, .string s, .slice p 2 c] 27)
  have h4 : (k == 4) = false := by simp; omega
  go_enter Tryz.func41, Tryz.ntmps41
  go_wp2
  go_ret
  exact ⟨rfl, h0⟩

theorem formed_zero (w : World) :
    Calls Tryz.prog 41 #[.agg #[.int .i64 0, .int .i64 0, .string ⟨#[]⟩, .slice none 0 0]] w fun e w' => e = .returned (.bool false) ∧ Below w.heap.size w w' := by
  have h0 := below_new w (.cells #[.int .i64 0, .int .i64 0, .string ⟨#[]⟩, .slice none 0 0] 27)
  go_enter Tryz.func41, Tryz.ntmps41
  go_wp2
  go_ret
  exact ⟨rfl, h0⟩

theorem place_any (here : Int) (sv : Value) (w : World) (hs : ∃ p n c, sv = .slice p n c) :
    Calls Tryz.prog 54 #[.agg #[.int .i64 here, sv]] w fun e w' => e = pair (if here < 0 ∨ 1048576 < here then (0, 6) else (here, 0)) ∧ Below w.heap.size w w' := by
  obtain ⟨p, n, c, rfl⟩ := hs
  have h0 := below_new w (.cells #[.int .i64 here, .slice p n c] 83)
  unfold pair
  by_cases h : here < 0
  · rw [if_pos (.inl h)]
    go_enter Tryz.func54, Tryz.ntmps54
    go_wp2
    go_ret2
    exact ⟨rfl, h0⟩
  · by_cases h2 : 1048576 < here
    · rw [if_pos (.inr h2)]
      go_enter Tryz.func54, Tryz.ntmps54
      go_wp2
      go_ret2
      exact ⟨rfl, h0⟩
    · rw [if_neg (by omega)]
      go_enter Tryz.func54, Tryz.ntmps54
      go_wp2
      go_ret2
      exact ⟨rfl, h0⟩

theorem namedP_step {syms : List (Bs × Int)} {j : Nat} {s : Bs} {n : Int} (h : syms[j]? = some (s, n)) (nm : Bs) : namedP nm (syms.drop j) = if s = nm then boundP n else namedP nm (syms.drop (j + 1)) := by
  obtain ⟨h1, h2⟩ := List.getElem?_eq_some_iff.1 h
  rw [List.drop_eq_getElem_cons h1, h2]
  rfl

set_option maxHeartbeats 1600000 in
theorem named_any (here : Int) (sv : Value) (syms : List (Bs × Int)) (nm : Bs) (w : World) (hS : SymsAt w sv syms) :
    Calls Tryz.prog 53 #[.agg #[.int .i64 here, sv], .string (bs nm)] w fun e w' => e = pair (namedP nm syms) ∧ Below w.heap.size w w' := by
  obtain ⟨p, c, rfl, hm, hc⟩ := hS
  unfold maxLen at hm
  have h0 := below_new w (.cells #[.int .i64 here, .slice p syms.length c] 83)
  unfold pair
  go_enter Tryz.func53, Tryz.ntmps53
  go_wp2
  go_loopw [11] (fun i wr => ∃ j : Nat, j ≤ syms.length ∧ i = .int .i64 j ∧ Below w.heap.size w wr ∧ Hid (namedP nm (syms.drop j) = namedP nm syms)) (fun i _ => syms.length - (intOf i).toNat)
  case atStart => exact ⟨0, by omega, rfl, h0, rfl⟩
  case round =>
    obtain ⟨j, hj, rfl, hb, he⟩ := hrel
    by_cases hjn : j < syms.length
    · obtain ⟨r, hr⟩ : ∃ r, syms[j]? = some r := ⟨_, List.getElem?_eq_getElem hjn⟩
      obtain ⟨s, n⟩ := r
      obtain ⟨b, o, rfl, hcl⟩ := hc (by intro e; rw [e] at hjn; simp at hjn)
      obtain ⟨z0, z1⟩ := hcl j s n hr
      replace z0 := kept_cell hb z0
      replace z1 := kept_cell hb z1
      have hst : Hid (_ = _) := namedP_step hr nm
      have hjI : (j : Int) < (syms.length : Int) := by omega
      have B := fun W => bounded_any n W
      unfold pair at B
      clear hc hcl hr h0
      by_cases hs : s = nm
      · have hs2 : ((bs s).toList == (bs nm).toList) = true := by simp [hs]
        have HE : Hid (namedP nm syms = boundP n) := by have h2 := hst.out; rw [he.out, if_pos hs] at h2; exact h2
        clear hst he hs
        generalize bs s = S at *
        generalize bs nm = NM at *
        go_wp2_with (go_at_call 52; refine (B _).mono ?_; rintro e w' ⟨rfl, rfl⟩)
        go_ret2
        rw [HE.out]
        exact ⟨rfl, hb.alloc hb.size _⟩
      · have hs2 : ((bs s).toList == (bs nm).toList) = false := by
          simp only [ByteArray.toList_eq, bs_list]
          simpa using hs
        have HE : Hid (namedP nm (syms.drop (j + 1)) = namedP nm syms) := by have h2 := hst.out; rw [he.out, if_neg hs] at h2; exact h2.symm
        clear hst he hs
        generalize bs s = S at *
        generalize bs nm = NM at *
        go_wp2
        go_roundw
        case rel => exact ⟨j + 1, by omega, by go_num, hb.alloc hb.size _, HE⟩
        case measure => simp [intOf]; omega
    · have hjn : j = syms.length := by omega
      subst hjn
      have e := he.out
      rw [List.drop_length] at e
      have HE : Hid (namedP nm syms = (0, 4)) := e.symm
      clear he e
      go_wp2
      go_ret2
      rw [HE.out]
      exact ⟨rfl, hb⟩

/-- Numbers that an expression holds may be. -/
def Small : Ex → Prop
  | .num n => n ≤ 4294967295
  | .neg x => Small x
  | .two k x y => 5 ≤ k ∧ k ≤ 11 ∧ Small x ∧ Small y
  | _ => True

theorem evalP_zero (here : Int) (syms : List (Bs × Int)) : evalP here syms .zero = (0, 6) := rfl

set_option maxHeartbeats 3200000 in
set_option maxRecDepth 100000 in
theorem value_any (here : Int) (syms : List (Bs × Int)) (P : Nat → Prop) : ∀ (x : Ex), Small x → ∀ (v sv : Value) (w : World), ExAt P w v x → SymsAt w sv syms →
    Calls Tryz.prog 38 #[.agg #[.int .i64 here, sv], v] w fun e w' => e = pair (evalP here syms x) ∧ Below w.heap.size w w' := by
  intro x
  induction x with
  | zero =>
    intro hsm v sv w hx hS
    simp only [ExAt] at hx
    subst hx
    rw [show bs [] = ⟨#[]⟩ from rfl]
    have hS0 := hS
    obtain ⟨p, c, rfl, hm, hc⟩ := hS
    have h0 := below_new w (.cells #[.int .i64 here, .slice p syms.length c] 83)
    have h1 := below_new (w.alloc (.cells #[.int .i64 here, .slice p syms.length c] 83)) (.cells #[.int .i64 0, .int .i64 0, .string ⟨#[]⟩, .slice none 0 0] 27)
    have s0 := kept_cell h1 (new_cell (w := w) (t := 83) #[.int .i64 here, .slice p syms.length c] 0 _ rfl)
    have s1 := kept_cell h1 (new_cell (w := w) (t := 83) #[.int .i64 here, .slice p syms.length c] 1 _ rfl)
    have X := Blk.new (w.alloc (.cells #[.int .i64 here, .slice p syms.length c] 83)) 27 (.int .i64 0) (.int .i64 0) (.string ⟨#[]⟩) (.slice none 0 0)
    have hz : (w.alloc (.cells #[.int .i64 here, .slice p syms.length c] 83)).heap.size = w.heap.size + 1 := by simp
    rw [hz] at X
    have hb1 : Below w.heap.size w ((w.alloc (.cells #[.int .i64 here, .slice p syms.length c] 83)).alloc (.cells #[.int .i64 0, .int .i64 0, .string ⟨#[]⟩, .slice none 0 0] 27)) := h0.trans (h1.mono h0.size)
    clear h0 h1 hz
    have F := formed_zero ((w.alloc (.cells #[.int .i64 here, .slice p syms.length c] 83)).alloc (.cells #[.int .i64 0, .int .i64 0, .string ⟨#[]⟩, .slice none 0 0] 27))
    clear hc
    go_enter Tryz.func38, Tryz.ntmps38
    go_wp2_with fail
    generalize ((w.alloc (.cells #[.int .i64 here, .slice p syms.length c] 83)).alloc (.cells #[.int .i64 0, .int .i64 0, .string ⟨#[]⟩, .slice none 0 0] 27)) = w1 at *
    refine F.mono ?_
    rintro e w2 ⟨rfl, hb2⟩
    replace s0 := kept_cell hb2 s0
    replace s1 := kept_cell hb2 s1
    replace X := X.later hb2
    obtain ⟨x0, x1, x2, x3, _, _, _, _⟩ := id X
    replace hb1 := hb1.trans (hb2.mono hb1.size)
    have hS2 := hS0.later hb1
    clear F hb2
    go_wp2
    go_ret2
    exact ⟨rfl, hb1⟩
  | num n =>
    intro hsm v sv w hx hS
    simp only [ExAt] at hx
    subst hx
    rw [show bs [] = ⟨#[]⟩ from rfl]
    have hnI : (n : Int) ≤ 4294967295 := by have : n ≤ 4294967295 := hsm; omega
    have hS0 := hS
    obtain ⟨p, c, rfl, hm, hc⟩ := hS
    have h0 := below_new w (.cells #[.int .i64 here, .slice p syms.length c] 83)
    have h1 := below_new (w.alloc (.cells #[.int .i64 here, .slice p syms.length c] 83)) (.cells #[.int .i64 1, .int .i64 n, .string ⟨#[]⟩, .slice none 0 0] 27)
    have s0 := kept_cell h1 (new_cell (w := w) (t := 83) #[.int .i64 here, .slice p syms.length c] 0 _ rfl)
    have s1 := kept_cell h1 (new_cell (w := w) (t := 83) #[.int .i64 here, .slice p syms.length c] 1 _ rfl)
    have X := Blk.new (w.alloc (.cells #[.int .i64 here, .slice p syms.length c] 83)) 27 (.int .i64 1) (.int .i64 n) (.string ⟨#[]⟩) (.slice none 0 0)
    have hz : (w.alloc (.cells #[.int .i64 here, .slice p syms.length c] 83)).heap.size = w.heap.size + 1 := by simp
    rw [hz] at X
    have hb1 : Below w.heap.size w ((w.alloc (.cells #[.int .i64 here, .slice p syms.length c] 83)).alloc (.cells #[.int .i64 1, .int .i64 n, .string ⟨#[]⟩, .slice none 0 0] 27)) := h0.trans (h1.mono h0.size)
    clear h0 h1 hz
    have F := formed_leaf 1 n ⟨#[]⟩ (by omega) (by omega) ((w.alloc (.cells #[.int .i64 here, .slice p syms.length c] 83)).alloc (.cells #[.int .i64 1, .int .i64 n, .string ⟨#[]⟩, .slice none 0 0] 27))
    clear hc
    go_enter Tryz.func38, Tryz.ntmps38
    go_wp2_with fail
    generalize ((w.alloc (.cells #[.int .i64 here, .slice p syms.length c] 83)).alloc (.cells #[.int .i64 1, .int .i64 n, .string ⟨#[]⟩, .slice none 0 0] 27)) = w1 at *
    refine F.mono ?_
    rintro e w2 ⟨rfl, hb2⟩
    replace s0 := kept_cell hb2 s0
    replace s1 := kept_cell hb2 s1
    replace X := X.later hb2
    obtain ⟨x0, x1, x2, x3, _, _, _, _⟩ := id X
    replace hb1 := hb1.trans (hb2.mono hb1.size)
    have hS2 := hS0.later hb1
    clear F hb2
    have B := fun W => bounded_any (n : Int) W
    unfold pair at B
    go_wp2_with (go_at_call 52; refine (B _).mono ?_; rintro e w' ⟨rfl, rfl⟩)
    go_ret2
    exact ⟨rfl, hb1⟩
  | name s =>
    intro hsm v sv w hx hS
    simp only [ExAt] at hx
    subst hx
    have hS0 := hS
    obtain ⟨p, c, rfl, hm, hc⟩ := hS
    have h0 := below_new w (.cells #[.int .i64 here, .slice p syms.length c] 83)
    have h1 := below_new (w.alloc (.cells #[.int .i64 here, .slice p syms.length c] 83)) (.cells #[.int .i64 2, .int .i64 0, .string (bs s), .slice none 0 0] 27)
    have s0 := kept_cell h1 (new_cell (w := w) (t := 83) #[.int .i64 here, .slice p syms.length c] 0 _ rfl)
    have s1 := kept_cell h1 (new_cell (w := w) (t := 83) #[.int .i64 here, .slice p syms.length c] 1 _ rfl)
    have X := Blk.new (w.alloc (.cells #[.int .i64 here, .slice p syms.length c] 83)) 27 (.int .i64 2) (.int .i64 0) (.string (bs s)) (.slice none 0 0)
    have hz : (w.alloc (.cells #[.int .i64 here, .slice p syms.length c] 83)).heap.size = w.heap.size + 1 := by simp
    rw [hz] at X
    have hb1 : Below w.heap.size w ((w.alloc (.cells #[.int .i64 here, .slice p syms.length c] 83)).alloc (.cells #[.int .i64 2, .int .i64 0, .string (bs s), .slice none 0 0] 27)) := h0.trans (h1.mono h0.size)
    clear h0 h1 hz
    have F := formed_leaf 2 0 (bs s) (by omega) (by omega) ((w.alloc (.cells #[.int .i64 here, .slice p syms.length c] 83)).alloc (.cells #[.int .i64 2, .int .i64 0, .string (bs s), .slice none 0 0] 27))
    clear hc
    go_enter Tryz.func38, Tryz.ntmps38
    go_wp2_with fail
    generalize ((w.alloc (.cells #[.int .i64 here, .slice p syms.length c] 83)).alloc (.cells #[.int .i64 2, .int .i64 0, .string (bs s), .slice none 0 0] 27)) = w1 at *
    refine F.mono ?_
    rintro e w2 ⟨rfl, hb2⟩
    replace s0 := kept_cell hb2 s0
    replace s1 := kept_cell hb2 s1
    replace X := X.later hb2
    obtain ⟨x0, x1, x2, x3, _, _, _, _⟩ := id X
    replace hb1 := hb1.trans (hb2.mono hb1.size)
    have hS2 := hS0.later hb1
    clear F hb2
    have B := named_any here _ syms s w2 hS2
    unfold pair at B
    go_wp2_with (go_at_call 53; refine B.mono ?_; rintro e w3 ⟨rfl, hb3⟩)
    go_ret2
    exact ⟨rfl, hb1.trans (hb3.mono hb1.size)⟩
  | here =>
    intro hsm v sv w hx hS
    simp only [ExAt] at hx
    subst hx
    rw [show bs [] = ⟨#[]⟩ from rfl]
    have hS0 := hS
    obtain ⟨p, c, rfl, hm, hc⟩ := hS
    have h0 := below_new w (.cells #[.int .i64 here, .slice p syms.length c] 83)
    have h1 := below_new (w.alloc (.cells #[.int .i64 here, .slice p syms.length c] 83)) (.cells #[.int .i64 3, .int .i64 0, .string ⟨#[]⟩, .slice none 0 0] 27)
    have s0 := kept_cell h1 (new_cell (w := w) (t := 83) #[.int .i64 here, .slice p syms.length c] 0 _ rfl)
    have s1 := kept_cell h1 (new_cell (w := w) (t := 83) #[.int .i64 here, .slice p syms.length c] 1 _ rfl)
    have X := Blk.new (w.alloc (.cells #[.int .i64 here, .slice p syms.length c] 83)) 27 (.int .i64 3) (.int .i64 0) (.string ⟨#[]⟩) (.slice none 0 0)
    have hz : (w.alloc (.cells #[.int .i64 here, .slice p syms.length c] 83)).heap.size = w.heap.size + 1 := by simp
    rw [hz] at X
    have hb1 : Below w.heap.size w ((w.alloc (.cells #[.int .i64 here, .slice p syms.length c] 83)).alloc (.cells #[.int .i64 3, .int .i64 0, .string ⟨#[]⟩, .slice none 0 0] 27)) := h0.trans (h1.mono h0.size)
    clear h0 h1 hz
    have F := formed_leaf 3 0 ⟨#[]⟩ (by omega) (by omega) ((w.alloc (.cells #[.int .i64 here, .slice p syms.length c] 83)).alloc (.cells #[.int .i64 3, .int .i64 0, .string ⟨#[]⟩, .slice none 0 0] 27))
    clear hc
    go_enter Tryz.func38, Tryz.ntmps38
    go_wp2_with fail
    generalize ((w.alloc (.cells #[.int .i64 here, .slice p syms.length c] 83)).alloc (.cells #[.int .i64 3, .int .i64 0, .string ⟨#[]⟩, .slice none 0 0] 27)) = w1 at *
    refine F.mono ?_
    rintro e w2 ⟨rfl, hb2⟩
    replace s0 := kept_cell hb2 s0
    replace s1 := kept_cell hb2 s1
    replace X := X.later hb2
    obtain ⟨x0, x1, x2, x3, _, _, _, _⟩ := id X
    replace hb1 := hb1.trans (hb2.mono hb1.size)
    have hS2 := hS0.later hb1
    clear F hb2
    have B := place_any here (.slice p syms.length c) w2 ⟨_, _, _, rfl⟩
    unfold pair at B
    obtain ⟨r, hr⟩ : ∃ r : Int × Int, r = (if here < 0 ∨ 1048576 < here then (0, 6) else (here, 0)) := ⟨_, rfl⟩
    rw [← hr] at B
    have HR : Hid (evalP here syms .here = r) := hr.symm
    clear hr
    go_wp2_with (go_at_call 54; refine B.mono ?_; rintro e w3 ⟨rfl, hb3⟩)
    go_ret2
    rw [HR.out]
    exact ⟨rfl, hb1.trans (hb3.mono hb1.size)⟩
  | neg x ih =>
    intro hsm v sv w hx hS
    obtain ⟨k, c0, c1, c2, c3, rfl, hP, z0, z1, z2, z3, hx⟩ := hx
    rw [show bs [] = ⟨#[]⟩ from rfl]
    have hS0 := hS
    obtain ⟨p, c, rfl, hm, hc⟩ := hS
    have h0 := below_new w (.cells #[.int .i64 here, .slice p syms.length c] 83)
    have h1 := below_new (w.alloc (.cells #[.int .i64 here, .slice p syms.length c] 83)) (.cells #[.int .i64 4, .int .i64 0, .string ⟨#[]⟩, .slice (some ⟨k, 0, none⟩) 1 1] 27)
    have s0 := kept_cell h1 (new_cell (w := w) (t := 83) #[.int .i64 here, .slice p syms.length c] 0 _ rfl)
    have s1 := kept_cell h1 (new_cell (w := w) (t := 83) #[.int .i64 here, .slice p syms.length c] 1 _ rfl)
    have X := Blk.new (w.alloc (.cells #[.int .i64 here, .slice p syms.length c] 83)) 27 (.int .i64 4) (.int .i64 0) (.string ⟨#[]⟩) (.slice (some ⟨k, 0, none⟩) 1 1)
    have hz : (w.alloc (.cells #[.int .i64 here, .slice p syms.length c] 83)).heap.size = w.heap.size + 1 := by simp
    rw [hz] at X
    have hb1 : Below w.heap.size w ((w.alloc (.cells #[.int .i64 here, .slice p syms.length c] 83)).alloc (.cells #[.int .i64 4, .int .i64 0, .string ⟨#[]⟩, .slice (some ⟨k, 0, none⟩) 1 1] 27)) := h0.trans (h1.mono h0.size)
    clear h0 h1 hz
    have F := formed_neg 0 ⟨#[]⟩ (some ⟨k, 0, none⟩) 1 ((w.alloc (.cells #[.int .i64 here, .slice p syms.length c] 83)).alloc (.cells #[.int .i64 4, .int .i64 0, .string ⟨#[]⟩, .slice (some ⟨k, 0, none⟩) 1 1] 27))
    have hamt := evalP_amt here syms x
    clear hc
    rw [show evalP here syms (.neg x) = if (evalP here syms x).2 = 0 then boundP (-(evalP here syms x).1) else (0, (evalP here syms x).2) from rfl]
    have ih := ih hsm (.agg #[c0, c1, c2, c3]) (.slice p syms.length c)
    generalize evalP here syms x = r at *
    obtain ⟨r1, r2⟩ := r
    simp only at hamt ⊢
    have HX := hx.form
    obtain ⟨ka, na, ta, qa, la, ma, hfx⟩ := HX
    simp only [Value.agg.injEq, Array.mk.injEq, List.cons.injEq, and_true] at hfx
    obtain ⟨rfl, rfl, rfl, rfl⟩ := hfx
    by_cases h2 : r2 = 0
    · rw [if_pos h2]
      subst h2
      have M := fun W => minus_any 0 r1 ⟨by omega, by omega⟩ (hamt rfl) W
      rw [Int.zero_sub] at M
      unfold pair at M ih ⊢
      go_enter Tryz.func38, Tryz.ntmps38
      go_wp2_with fail
      generalize ((w.alloc (.cells #[.int .i64 here, .slice p syms.length c] 83)).alloc (.cells #[.int .i64 4, .int .i64 0, .string ⟨#[]⟩, .slice (some ⟨k, 0, none⟩) 1 1] 27)) = w1 at *
      refine F.mono ?_
      rintro e w2 ⟨rfl, hb2⟩
      replace s0 := kept_cell hb2 s0
      replace s1 := kept_cell hb2 s1
      replace X := X.later hb2
      obtain ⟨x0, x1, x2, x3, _, _, _, _⟩ := id X
      replace hb1 := hb1.trans (hb2.mono hb1.size)
      have hS2 := hS0.later hb1
      replace z0 := kept_cell hb1 z0
      replace z1 := kept_cell hb1 z1
      replace z2 := kept_cell hb1 z2
      replace z3 := kept_cell hb1 z3
      have hx2 := hx.below hb1
      clear F hb2
      have e0 := cell_regrown s0
      have e1 := cell_regrown s1
      have e2 := cell_regrown x3
      have e3 := cell_regrown z0
      have e4 := cell_regrown z1
      have e5 := cell_regrown z2
      have e6 := cell_regrown z3
      have Q0 := fun d os => Calls.regrown_of (ih (grow (redrawn w2 d) os) (hx2.below (below_regrown w2 d os)) (hS2.later (below_regrown w2 d os)))
      go_wp2_with fail
      refine wp_region_quiet_below (by kernel_rfl) (by kernel_rfl) ?_
      repeat (quiet_step (first | with_reducible exact Q0 _ _))
      refine wpQuiet_nil ?_
      intro _ hw'
      obtain ⟨⟨dq, osq⟩, hw''⟩ := hw'
      subst hw''
      have hb3 := below_regrown w2 dq osq
      clear Q0 e0 e1 e2 e3 e4 e5 e6
      generalize grow (redrawn w2 dq) osq = w3 at *
      have X3 := X.later hb3
      obtain ⟨u0, u1, u2, u3, _, _, _, _⟩ := id X3
      go_wp2_with (first | (go_at_call 55; refine (M _).mono ?_; rintro e w' ⟨rfl, rfl⟩))
      go_ret2
      exact ⟨rfl, hb1.trans (hb3.mono hb1.size)⟩
    · rw [if_neg h2]
      have h2b : (r2 != 0) = true := by simpa using h2
      unfold pair at ih ⊢
      go_enter Tryz.func38, Tryz.ntmps38
      go_wp2_with fail
      generalize ((w.alloc (.cells #[.int .i64 here, .slice p syms.length c] 83)).alloc (.cells #[.int .i64 4, .int .i64 0, .string ⟨#[]⟩, .slice (some ⟨k, 0, none⟩) 1 1] 27)) = w1 at *
      refine F.mono ?_
      rintro e w2 ⟨rfl, hb2⟩
      replace s0 := kept_cell hb2 s0
      replace s1 := kept_cell hb2 s1
      replace X := X.later hb2
      obtain ⟨x0, x1, x2, x3, _, _, _, _⟩ := id X
      replace hb1 := hb1.trans (hb2.mono hb1.size)
      have hS2 := hS0.later hb1
      replace z0 := kept_cell hb1 z0
      replace z1 := kept_cell hb1 z1
      replace z2 := kept_cell hb1 z2
      replace z3 := kept_cell hb1 z3
      have hx2 := hx.below hb1
      clear F hb2
      have e0 := cell_regrown s0
      have e1 := cell_regrown s1
      have e2 := cell_regrown x3
      have e3 := cell_regrown z0
      have e4 := cell_regrown z1
      have e5 := cell_regrown z2
      have e6 := cell_regrown z3
      have Q0 := fun d os => Calls.regrown_of (ih (grow (redrawn w2 d) os) (hx2.below (below_regrown w2 d os)) (hS2.later (below_regrown w2 d os)))
      go_wp2_with fail
      refine wp_region_quiet_below (by kernel_rfl) (by kernel_rfl) ?_
      repeat (quiet_step (first | with_reducible exact Q0 _ _))
      refine wpQuiet_nil ?_
      intro _ hw'
      obtain ⟨⟨dq, osq⟩, hw''⟩ := hw'
      subst hw''
      have hb3 := below_regrown w2 dq osq
      clear Q0 e0 e1 e2 e3 e4 e5 e6
      generalize grow (redrawn w2 dq) osq = w3 at *
      go_wp2
      go_ret2
      exact ⟨rfl, hb1.trans (hb3.mono hb1.size)⟩
  | two op x y ihx ihy =>
    intro hsm v sv w hx hS
    obtain ⟨k, c0, c1, c2, c3, d0, d1, d2, d3, rfl, hP, z0, z1, z2, z3, y0, y1, y2, y3, hx, hy⟩ := hx
    obtain ⟨h5, h11, hsx, hsy⟩ := hsm
    rw [show bs [] = ⟨#[]⟩ from rfl]
    have hS0 := hS
    obtain ⟨p, c, rfl, hm, hc⟩ := hS
    have h0 := below_new w (.cells #[.int .i64 here, .slice p syms.length c] 83)
    have h1 := below_new (w.alloc (.cells #[.int .i64 here, .slice p syms.length c] 83)) (.cells #[.int .i64 op, .int .i64 0, .string ⟨#[]⟩, .slice (some ⟨k, 0, none⟩) 2 2] 27)
    have s0 := kept_cell h1 (new_cell (w := w) (t := 83) #[.int .i64 here, .slice p syms.length c] 0 _ rfl)
    have s1 := kept_cell h1 (new_cell (w := w) (t := 83) #[.int .i64 here, .slice p syms.length c] 1 _ rfl)
    have X := Blk.new (w.alloc (.cells #[.int .i64 here, .slice p syms.length c] 83)) 27 (.int .i64 op) (.int .i64 0) (.string ⟨#[]⟩) (.slice (some ⟨k, 0, none⟩) 2 2)
    have hz : (w.alloc (.cells #[.int .i64 here, .slice p syms.length c] 83)).heap.size = w.heap.size + 1 := by simp
    rw [hz] at X
    have hb1 : Below w.heap.size w ((w.alloc (.cells #[.int .i64 here, .slice p syms.length c] 83)).alloc (.cells #[.int .i64 op, .int .i64 0, .string ⟨#[]⟩, .slice (some ⟨k, 0, none⟩) 2 2] 27)) := h0.trans (h1.mono h0.size)
    clear h0 h1 hz
    have F := formed_two op 0 ⟨#[]⟩ (some ⟨k, 0, none⟩) 2 (by omega) (by omega) ((w.alloc (.cells #[.int .i64 here, .slice p syms.length c] 83)).alloc (.cells #[.int .i64 op, .int .i64 0, .string ⟨#[]⟩, .slice (some ⟨k, 0, none⟩) 2 2] 27))
    have hax := evalP_amt here syms x
    have hay := evalP_amt here syms y
    clear hc
    rw [show evalP here syms (.two op x y) = if (evalP here syms x).2 = 0 then (if (evalP here syms y).2 = 0 then reckonP op (evalP here syms x).1 (evalP here syms y).1 else (0, (evalP here syms y).2)) else (0, (evalP here syms x).2) from rfl]
    have ihx := ihx hsx (.agg #[c0, c1, c2, c3]) (.slice p syms.length c)
    have ihy := ihy hsy (.agg #[d0, d1, d2, d3]) (.slice p syms.length c)
    generalize evalP here syms x = r at *
    generalize evalP here syms y = r' at *
    obtain ⟨r1, r2⟩ := r
    obtain ⟨q1, q2⟩ := r'
    simp only at hax hay ⊢
    obtain ⟨ka, na, ta, qa, la, ma, hfx⟩ := hx.form
    simp only [Value.agg.injEq, Array.mk.injEq, List.cons.injEq, and_true] at hfx
    obtain ⟨rfl, rfl, rfl, rfl⟩ := hfx
    obtain ⟨kb, nb, tb, qb, lb, mb, hfy⟩ := hy.form
    simp only [Value.agg.injEq, Array.mk.injEq, List.cons.injEq, and_true] at hfy
    obtain ⟨rfl, rfl, rfl, rfl⟩ := hfy
    have o4 : ((op : Int) == 4) = false := by simp; omega
    have o1 : ((op : Int) == 1) = false := by simp; omega
    have o2 : ((op : Int) == 2) = false := by simp; omega
    have o3 : ((op : Int) == 3) = false := by simp; omega
    have oI : (5 : Int) ≤ op := by omega
    by_cases h2 : r2 = 0
    · rw [if_pos h2]
      subst h2
      by_cases h3 : q2 = 0
      · rw [if_pos h3]
        subst h3
        have Wy := fun W => way_any r1 op h5 h11 W
        have Wc := fun W => wayOf_any op h5 h11 r1 q1 (hax rfl) (hay rfl) W
        have We := wayOf_enters op h5 h11
        unfold pair at Wc ihx ihy ⊢
        generalize wayOf op = g at *
        go_enter Tryz.func38, Tryz.ntmps38
        go_wp2_with fail
        generalize ((w.alloc (.cells #[.int .i64 here, .slice p syms.length c] 83)).alloc (.cells #[.int .i64 op, .int .i64 0, .string ⟨#[]⟩, .slice (some ⟨k, 0, none⟩) 2 2] 27)) = w1 at *
        refine F.mono ?_
        rintro e w2 ⟨rfl, hb2⟩
        replace s0 := kept_cell hb2 s0
        replace s1 := kept_cell hb2 s1
        replace X := X.later hb2
        obtain ⟨x0, x1, x2, x3, _, _, _, _⟩ := id X
        replace hb1 := hb1.trans (hb2.mono hb1.size)
        have hS2 := hS0.later hb1
        replace z0 := kept_cell hb1 z0
        replace z1 := kept_cell hb1 z1
        replace z2 := kept_cell hb1 z2
        replace z3 := kept_cell hb1 z3
        replace y0 := kept_cell hb1 y0
        replace y1 := kept_cell hb1 y1
        replace y2 := kept_cell hb1 y2
        replace y3 := kept_cell hb1 y3
        have hx2 := hx.below hb1
        replace hy := hy.below hb1
        clear F hb2
        have e0 := cell_regrown s0
        have e1 := cell_regrown s1
        have e2 := cell_regrown x3
        have e3 := cell_regrown z0
        have e4 := cell_regrown z1
        have e5 := cell_regrown z2
        have e6 := cell_regrown z3
        have Q0 := fun d os => Calls.regrown_of (ihx (grow (redrawn w2 d) os) (hx2.below (below_regrown w2 d os)) (hS2.later (below_regrown w2 d os)))
        go_wp2_with fail
        refine wp_region_quiet_below (by kernel_rfl) (by kernel_rfl) ?_
        repeat (quiet_step (first | with_reducible exact Q0 _ _))
        refine wpQuiet_nil ?_
        intro _ hw'
        obtain ⟨⟨dq, osq⟩, hw''⟩ := hw'
        subst hw''
        have hb3 := below_regrown w2 dq osq
        clear Q0 e0 e1 e2 e3 e4 e5 e6
        generalize grow (redrawn w2 dq) osq = w3 at *
        replace s0 := kept_cell hb3 s0
        replace s1 := kept_cell hb3 s1
        replace X := X.later hb3
        obtain ⟨u0, u1, u2, u3, _, _, _, _⟩ := id X
        replace hb1 := hb1.trans (hb3.mono hb1.size)
        replace y0 := kept_cell hb3 y0
        replace y1 := kept_cell hb3 y1
        replace y2 := kept_cell hb3 y2
        replace y3 := kept_cell hb3 y3
        have hy3 := hy.below hb3
        have hS3 := hS2.later hb3
        clear x0 x1 x2 x3 hb3 ihx
        have e0 := cell_regrown s0
        have e1 := cell_regrown s1
        have e2 := cell_regrown u3
        have e3 := cell_regrown y0
        have e4 := cell_regrown y1
        have e5 := cell_regrown y2
        have e6 := cell_regrown y3
        have Q0 := fun d os => Calls.regrown_of (ihy (grow (redrawn w3 d) os) (hy3.below (below_regrown w3 d os)) (hS3.later (below_regrown w3 d os)))
        go_wp2_with fail
        refine wp_region_quiet_below (by kernel_rfl) (by kernel_rfl) ?_
        repeat (quiet_step (first | with_reducible exact Q0 _ _))
        refine wpQuiet_nil ?_
        intro _ hw'
        obtain ⟨⟨dq, osq⟩, hw''⟩ := hw'
        subst hw''
        have hb4 := below_regrown w3 dq osq
        clear Q0 e0 e1 e2 e3 e4 e5 e6
        generalize grow (redrawn w3 dq) osq = w4 at *
        replace X := X.later hb4
        obtain ⟨v0, v1, v2, v3, _, _, _, _⟩ := id X
        replace hb1 := hb1.trans (hb4.mono hb1.size)
        clear u0 u1 u2 u3 hb4
        go_wp2_with (go_at_call 56; refine (Wy _).mono ?_; rintro e w' ⟨rfl, rfl⟩)
        refine (Wc _).mono ?_
        rintro e w' ⟨rfl, rfl⟩
        go_wp2
        go_ret2
        exact ⟨rfl, hb1⟩
      · rw [if_neg h3]
        have h3b : (q2 != 0) = true := by simpa using h3
        unfold pair at ihx ihy ⊢
        go_enter Tryz.func38, Tryz.ntmps38
        go_wp2_with fail
        generalize ((w.alloc (.cells #[.int .i64 here, .slice p syms.length c] 83)).alloc (.cells #[.int .i64 op, .int .i64 0, .string ⟨#[]⟩, .slice (some ⟨k, 0, none⟩) 2 2] 27)) = w1 at *
        refine F.mono ?_
        rintro e w2 ⟨rfl, hb2⟩
        replace s0 := kept_cell hb2 s0
        replace s1 := kept_cell hb2 s1
        replace X := X.later hb2
        obtain ⟨x0, x1, x2, x3, _, _, _, _⟩ := id X
        replace hb1 := hb1.trans (hb2.mono hb1.size)
        have hS2 := hS0.later hb1
        replace z0 := kept_cell hb1 z0
        replace z1 := kept_cell hb1 z1
        replace z2 := kept_cell hb1 z2
        replace z3 := kept_cell hb1 z3
        replace y0 := kept_cell hb1 y0
        replace y1 := kept_cell hb1 y1
        replace y2 := kept_cell hb1 y2
        replace y3 := kept_cell hb1 y3
        have hx2 := hx.below hb1
        replace hy := hy.below hb1
        clear F hb2
        have e0 := cell_regrown s0
        have e1 := cell_regrown s1
        have e2 := cell_regrown x3
        have e3 := cell_regrown z0
        have e4 := cell_regrown z1
        have e5 := cell_regrown z2
        have e6 := cell_regrown z3
        have Q0 := fun d os => Calls.regrown_of (ihx (grow (redrawn w2 d) os) (hx2.below (below_regrown w2 d os)) (hS2.later (below_regrown w2 d os)))
        go_wp2_with fail
        refine wp_region_quiet_below (by kernel_rfl) (by kernel_rfl) ?_
        repeat (quiet_step (first | with_reducible exact Q0 _ _))
        refine wpQuiet_nil ?_
        intro _ hw'
        obtain ⟨⟨dq, osq⟩, hw''⟩ := hw'
        subst hw''
        have hb3 := below_regrown w2 dq osq
        clear Q0 e0 e1 e2 e3 e4 e5 e6
        generalize grow (redrawn w2 dq) osq = w3 at *
        replace s0 := kept_cell hb3 s0
        replace s1 := kept_cell hb3 s1
        replace X := X.later hb3
        obtain ⟨u0, u1, u2, u3, _, _, _, _⟩ := id X
        replace hb1 := hb1.trans (hb3.mono hb1.size)
        replace y0 := kept_cell hb3 y0
        replace y1 := kept_cell hb3 y1
        replace y2 := kept_cell hb3 y2
        replace y3 := kept_cell hb3 y3
        have hy3 := hy.below hb3
        have hS3 := hS2.later hb3
        clear x0 x1 x2 x3 hb3 ihx
        have e0 := cell_regrown s0
        have e1 := cell_regrown s1
        have e2 := cell_regrown u3
        have e3 := cell_regrown y0
        have e4 := cell_regrown y1
        have e5 := cell_regrown y2
        have e6 := cell_regrown y3
        have Q0 := fun d os => Calls.regrown_of (ihy (grow (redrawn w3 d) os) (hy3.below (below_regrown w3 d os)) (hS3.later (below_regrown w3 d os)))
        go_wp2_with fail
        refine wp_region_quiet_below (by kernel_rfl) (by kernel_rfl) ?_
        repeat (quiet_step (first | with_reducible exact Q0 _ _))
        refine wpQuiet_nil ?_
        intro _ hw'
        obtain ⟨⟨dq, osq⟩, hw''⟩ := hw'
        subst hw''
        have hb4 := below_regrown w3 dq osq
        clear Q0 e0 e1 e2 e3 e4 e5 e6
        generalize grow (redrawn w3 dq) osq = w4 at *
        replace X := X.later hb4
        obtain ⟨v0, v1, v2, v3, _, _, _, _⟩ := id X
        replace hb1 := hb1.trans (hb4.mono hb1.size)
        clear u0 u1 u2 u3 hb4
        go_wp2
        go_ret2
        exact ⟨rfl, hb1⟩
    · rw [if_neg h2]
      have h2b : (r2 != 0) = true := by simpa using h2
      unfold pair at ihx ihy ⊢
      go_enter Tryz.func38, Tryz.ntmps38
      go_wp2_with fail
      generalize ((w.alloc (.cells #[.int .i64 here, .slice p syms.length c] 83)).alloc (.cells #[.int .i64 op, .int .i64 0, .string ⟨#[]⟩, .slice (some ⟨k, 0, none⟩) 2 2] 27)) = w1 at *
      refine F.mono ?_
      rintro e w2 ⟨rfl, hb2⟩
      replace s0 := kept_cell hb2 s0
      replace s1 := kept_cell hb2 s1
      replace X := X.later hb2
      obtain ⟨x0, x1, x2, x3, _, _, _, _⟩ := id X
      replace hb1 := hb1.trans (hb2.mono hb1.size)
      have hS2 := hS0.later hb1
      replace z0 := kept_cell hb1 z0
      replace z1 := kept_cell hb1 z1
      replace z2 := kept_cell hb1 z2
      replace z3 := kept_cell hb1 z3
      replace y0 := kept_cell hb1 y0
      replace y1 := kept_cell hb1 y1
      replace y2 := kept_cell hb1 y2
      replace y3 := kept_cell hb1 y3
      have hx2 := hx.below hb1
      replace hy := hy.below hb1
      clear F hb2
      have e0 := cell_regrown s0
      have e1 := cell_regrown s1
      have e2 := cell_regrown x3
      have e3 := cell_regrown z0
      have e4 := cell_regrown z1
      have e5 := cell_regrown z2
      have e6 := cell_regrown z3
      have Q0 := fun d os => Calls.regrown_of (ihx (grow (redrawn w2 d) os) (hx2.below (below_regrown w2 d os)) (hS2.later (below_regrown w2 d os)))
      go_wp2_with fail
      refine wp_region_quiet_below (by kernel_rfl) (by kernel_rfl) ?_
      repeat (quiet_step (first | with_reducible exact Q0 _ _))
      refine wpQuiet_nil ?_
      intro _ hw'
      obtain ⟨⟨dq, osq⟩, hw''⟩ := hw'
      subst hw''
      have hb3 := below_regrown w2 dq osq
      clear Q0 e0 e1 e2 e3 e4 e5 e6
      generalize grow (redrawn w2 dq) osq = w3 at *
      go_wp2
      go_ret2
      exact ⟨rfl, hb1.trans (hb3.mono hb1.size)⟩

set_option maxHeartbeats 800000 in
theorem eval_any (here : Int) (syms : List (Bs × Int)) (P : Nat → Prop) (x : Ex) (hx : Small x) (v sv : Value) (w : World) (hv : ExAt P w v x) (hS : SymsAt w sv syms) :
    Calls Tryz.prog 20 #[v, .int .i64 here, sv] w fun e w' => e = pair (evalP here syms x) ∧ Below w.heap.size w w' := by
  obtain ⟨ka, na, ta, qa, la, ma, rfl⟩ := hv.form
  have h0 := below_new w (.cells #[.int .i64 ka, .int .i64 na, .string ta, .slice qa la ma] 27)
  have V := value_any here syms P x hx _ sv _ (hv.below h0) (hS.later h0)
  obtain ⟨p, c, rfl, hm, hc⟩ := hS
  unfold pair at V ⊢
  clear hc
  go_enter Tryz.func20, Tryz.ntmps20
  go_wp2_with (go_at_call 38; refine V.mono ?_; rintro e w1 ⟨rfl, hb1⟩)
  go_ret2
  exact ⟨rfl, h0.trans (hb1.mono h0.size)⟩
end Go.Proofs.YtopfnfmglnjljaaGreatDoor
