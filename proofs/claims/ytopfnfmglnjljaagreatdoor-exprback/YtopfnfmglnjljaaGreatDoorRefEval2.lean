/- The reference's Eval. -/
import Derived.Test.YtopfnfmglnjljaaGreatDoorRefEval
namespace Go.Proofs.YtopfnfmglnjljaaGreatDoor
open Go.ChangeShapes Go.WideShapes Go.ChangeAt Go.RowKit
open Go.Sort (grow)
set_option linter.unusedVariables false
set_option linter.unusedSimpArgs false

/-- There is no part that is none. -/
def Whole : Ex → Prop
  | .zero => False
  | .neg x => Whole x
  | .two _ x y => Whole x ∧ Whole y
  | _ => True

def SymsOk (syms : List (Bs × Int)) : Prop := ∀ p ∈ syms, Amt p.2

theorem boundP_in {n : Int} (h : Amt n) : boundP n = (n, 0) := by
  obtain ⟨h1, h2⟩ := h
  unfold boundP
  rw [if_neg (by omega)]

set_option maxHeartbeats 1600000 in
set_option maxRecDepth 20000 in
theorem reval_name (here : Int) (syms : List (Bs × Int)) (hok : SymsOk syms) (s : Bs) (sv : Value) (w : World) (hS : SymsAt w sv syms) :
    Calls Tryz.prog 21 #[.agg #[.int .i64 2, .int .i64 0, .string (bs s), .slice none 0 0], .int .i64 here, sv] w fun e w' => e = pair (namedP s syms) ∧ Below w.heap.size w w' := by
  obtain ⟨p, c, rfl, hm, hc⟩ := hS
  unfold maxLen at hm
  have n0 := below_new w (.cells #[.int .i64 2, .int .i64 0, .string (bs s), .slice none 0 0] 27)
  have X0 := Blk.new w 27 (.int .i64 2) (.int .i64 0) (.string (bs s)) (.slice none 0 0)
  unfold pair
  go_enter Tryz.func21, Tryz.ntmps21
  go_wp2_with fail
  generalize w.alloc (.cells #[.int .i64 2, .int .i64 0, .string (bs s), .slice none 0 0] 27) = W0 at *
  obtain ⟨x0, x1, x2, x3, _, _, _, _⟩ := id X0
  go_loopw [8] (fun i wr => ∃ j : Nat, j ≤ syms.length ∧ i = .int .i64 j ∧ Below W0.heap.size W0 wr ∧ Hid (namedP s (syms.drop j) = namedP s syms)) (fun i _ => syms.length - (intOf i).toNat)
  case atStart => exact ⟨0, by omega, rfl, Below.refl _ _, rfl⟩
  case round =>
    obtain ⟨j, hj, rfl, hb, he⟩ := hrel
    have B1 := n0.trans (hb.mono n0.size)
    replace x2 := kept_cell hb x2
    clear x0 x1 x3
    by_cases hjn : j < syms.length
    · obtain ⟨r, hr⟩ : ∃ r, syms[j]? = some r := ⟨_, List.getElem?_eq_getElem hjn⟩
      obtain ⟨s', n⟩ := r
      have hn : boundP n = (n, 0) := boundP_in (hok _ (List.mem_of_getElem? hr))
      obtain ⟨b, o, rfl, hcl⟩ := hc (by intro e; rw [e] at hjn; simp at hjn)
      obtain ⟨z0, z1⟩ := hcl j s' n hr
      replace z0 := kept_cell B1 z0
      replace z1 := kept_cell B1 z1
      have hst : Hid (_ = _) := namedP_step hr s
      have hjI : (j : Int) < (syms.length : Int) := by omega
      clear hc hcl hr hok
      by_cases hs : s' = s
      · have hs2 : ((bs s').toList == (bs s).toList) = true := by simp [hs]
        have HE : Hid (namedP s syms = (n, 0)) := by have h2 := hst.out; rw [he.out, if_pos hs, hn] at h2; exact h2
        clear hst he hs hn
        generalize bs s' = S at *
        generalize bs s = NM at *
        go_wp2_with fail
        go_region
        all_goals
          go_wp2_with fail
          go_ret2
          rw [HE.out]
          exact ⟨rfl, B1.trans ((below_drewN wr 1).mono B1.size)⟩
      · have hs2 : ((bs s').toList == (bs s).toList) = false := by
          simp only [ByteArray.toList_eq, bs_list]
          simpa using hs
        have HE : Hid (namedP s (syms.drop (j + 1)) = namedP s syms) := by have h2 := hst.out; rw [he.out, if_neg hs] at h2; exact h2.symm
        clear hst he hs hn
        generalize bs s' = S at *
        generalize bs s = NM at *
        go_wp2_with fail
        go_region
        all_goals
          go_wp2_with fail
          go_roundw
          case rel => exact ⟨j + 1, by omega, by simp, hb.trans ((below_drewN wr 1).mono hb.size), HE⟩
          case measure => simp [intOf]; omega
    · have hjI : ¬ (j : Int) < (syms.length : Int) := by omega
      obtain rfl : j = syms.length := by omega
      have e := he.out
      rw [List.drop_length] at e
      have HE : Hid (namedP s syms = (0, 4)) := e.symm
      clear he e hc
      go_wp2_with fail
      go_ret2
      rw [HE.out]
      exact ⟨rfl, B1⟩

set_option maxHeartbeats 3200000 in
set_option maxRecDepth 100000 in
theorem reval_any (here : Int) (h0 : 0 ≤ here) (h1 : here ≤ 1048576) (syms : List (Bs × Int)) (hok : SymsOk syms) (P : Nat → Prop) : ∀ (x : Ex), Small x → Whole x → ∀ (v sv : Value) (w : World), ExAt P w v x → SymsAt w sv syms →
    Calls Tryz.prog 21 #[v, .int .i64 here, sv] w fun e w' => e = pair (evalP here syms x) ∧ Below w.heap.size w w' := by
  intro x
  induction x with
  | zero => intro _ h; exact absurd h id
  | num n =>
    intro hsm _ v sv w hx hS
    simp only [ExAt] at hx
    subst hx
    obtain ⟨p, c, rfl, hm, hc⟩ := hS
    clear hc
    have hn : evalP here syms (.num n) = ((n : Int), 0) := boundP_in ⟨by omega, by have : n ≤ 4294967295 := hsm; omega⟩
    rw [hn]
    unfold pair
    have n0 := below_new w (.cells #[.int .i64 1, .int .i64 n, .string (bs []), .slice none 0 0] 27)
    clear hn hsm
    go_enter Tryz.func21, Tryz.ntmps21
    go_wp2_with fail
    go_ret2
    exact ⟨rfl, n0⟩
  | name s =>
    intro hsm _ v sv w hx hS
    simp only [ExAt] at hx
    subst hx
    exact reval_name here syms hok s sv w hS
  | here =>
    intro hsm _ v sv w hx hS
    simp only [ExAt] at hx
    subst hx
    obtain ⟨p, c, rfl, hm, hc⟩ := hS
    clear hc
    have hn : evalP here syms .here = (here, 0) := by unfold evalP; rw [if_neg (by omega)]
    rw [hn]
    unfold pair
    have n0 := below_new w (.cells #[.int .i64 3, .int .i64 0, .string (bs []), .slice none 0 0] 27)
    clear hn hsm
    go_enter Tryz.func21, Tryz.ntmps21
    go_wp2_with fail
    go_ret2
    exact ⟨rfl, n0⟩
  | neg x ih =>
    intro hsm hwh v sv w hx hS
    obtain ⟨k, c0, c1, c2, c3, rfl, hP, z0, z1, z2, z3, hx⟩ := hx
    have hS0 := hS
    obtain ⟨p, c, rfl, hm, hc⟩ := hS
    have n0 := below_new w (.cells #[.int .i64 4, .int .i64 0, .string (bs []), .slice (some ⟨k, 0, none⟩) 1 1] 27)
    have X0 := Blk.new w 27 (.int .i64 4) (.int .i64 0) (.string (bs [])) (.slice (some ⟨k, 0, none⟩) 1 1)
    have hamt := evalP_amt here syms x
    clear hc
    rw [show evalP here syms (.neg x) = if (evalP here syms x).2 = 0 then boundP (-(evalP here syms x).1) else (0, (evalP here syms x).2) from rfl]
    have ih := ih hsm hwh (.agg #[c0, c1, c2, c3]) (.slice p syms.length c)
    generalize evalP here syms x = r at *
    obtain ⟨r1, r2⟩ := r
    simp only at hamt ⊢
    obtain ⟨ka, na, ta, qa, la, ma, hfx⟩ := hx.form
    simp only [Value.agg.injEq, Array.mk.injEq, List.cons.injEq, and_true] at hfx
    obtain ⟨rfl, rfl, rfl, rfl⟩ := hfx
    replace z0 := kept_cell n0 z0
    replace z1 := kept_cell n0 z1
    replace z2 := kept_cell n0 z2
    replace z3 := kept_cell n0 z3
    have hx0 := hx.below n0
    have hS1 := hS0.later n0
    unfold pair at ih ⊢
    have I0 := ih _ hx0 hS1
    go_enter Tryz.func21, Tryz.ntmps21
    go_wp2_with fail
    generalize w.alloc (.cells #[.int .i64 4, .int .i64 0, .string (bs []), .slice (some ⟨k, 0, none⟩) 1 1] 27) = W0 at *
    refine I0.mono ?_
    rintro e w3 ⟨rfl, hb3⟩
    have X3 := X0.later hb3
    have B3 := n0.trans (hb3.mono n0.size)
    obtain ⟨u0, u1, u2, u3, _, _, _, _⟩ := id X3
    clear X0 X3 z0 z1 z2 z3 hx0 hS1 I0
    by_cases h2 : r2 = 0
    · subst h2
      obtain ⟨q1, q2⟩ := hamt rfl
      have HB : Hid (boundP (-r1) = (-r1, 0)) := boundP_in ⟨by omega, by omega⟩
      clear hamt
      go_wp2_with fail
      go_ret2
      rw [HB.out]
      exact ⟨rfl, B3⟩
    · have h2b : (r2 != 0) = true := by simpa using h2
      clear hamt
      go_wp2_with fail
      go_ret2
      exact ⟨rfl, B3⟩
  | two op x y ihx ihy =>
    intro hsm hwh v sv w hx hS
    obtain ⟨k, c0, c1, c2, c3, d0, d1, d2, d3, rfl, hP, z0, z1, z2, z3, y0, y1, y2, y3, hx, hy⟩ := hx
    obtain ⟨h5, h11, hsx, hsy⟩ := hsm
    have hS0 := hS
    obtain ⟨p, c, rfl, hm, hc⟩ := hS
    have n0 := below_new w (.cells #[.int .i64 op, .int .i64 0, .string (bs []), .slice (some ⟨k, 0, none⟩) 2 2] 27)
    have X0 := Blk.new w 27 (.int .i64 op) (.int .i64 0) (.string (bs [])) (.slice (some ⟨k, 0, none⟩) 2 2)
    have hax := evalP_amt here syms x
    have hay := evalP_amt here syms y
    clear hc
    rw [show evalP here syms (.two op x y) = if (evalP here syms x).2 = 0 then (if (evalP here syms y).2 = 0 then reckonP op (evalP here syms x).1 (evalP here syms y).1 else (0, (evalP here syms y).2)) else (0, (evalP here syms x).2) from rfl]
    have ihx := ihx hsx hwh.1 (.agg #[c0, c1, c2, c3]) (.slice p syms.length c)
    have ihy := ihy hsy hwh.2 (.agg #[d0, d1, d2, d3]) (.slice p syms.length c)
    generalize evalP here syms x = r at *
    generalize evalP here syms y = r' at *
    obtain ⟨r1, r2⟩ := r
    obtain ⟨q1, q2⟩ := r'
    simp only at hax hay ⊢
    obtain ⟨ka, na, ta, qa, la, ma, hfx⟩ := hx.form
    simp only [Value.agg.injEq, Array.mk.injEq, List.cons.injEq, and_true] at hfx
    obtain ⟨rfl, rfl, rfl, rfl⟩ := hfx
    obtain ⟨kb, nb, tb, qb, lb, mb, hfy⟩ := hy.form
    simp only [Value.agg.injEq, Array.mk.injEq, List.cons.injEq, and_true] at hfy
    obtain ⟨rfl, rfl, rfl, rfl⟩ := hfy
    have o4 : ((op : Int) == 4) = false := by simp; omega
    have o1 : ((op : Int) == 1) = false := by simp; omega
    have o2 : ((op : Int) == 2) = false := by simp; omega
    have o3 : ((op : Int) == 3) = false := by simp; omega
    have hx0 := hx.below n0
    have hS1 := hS0.later n0
    unfold pair at ihx ihy ⊢
    have I0 := ihx _ hx0 hS1
    replace z0 := kept_cell n0 z0
    replace z1 := kept_cell n0 z1
    replace z2 := kept_cell n0 z2
    replace z3 := kept_cell n0 z3
    by_cases h2 : r2 = 0
    · subst h2
      rw [if_pos rfl]
      by_cases h3 : q2 = 0
      · subst h3
        rw [if_pos rfl]
        have RK := rreckon_any op h5 h11 r1 q1 (hax rfl) (hay rfl)
        unfold pair at RK
        generalize reckonP op r1 q1 = rr at *
        obtain ⟨rr1, rr2⟩ := rr
        clear hax hay
        go_enter Tryz.func21, Tryz.ntmps21
        go_wp2_with fail
        generalize w.alloc (.cells #[.int .i64 op, .int .i64 0, .string (bs []), .slice (some ⟨k, 0, none⟩) 2 2] 27) = W0 at *
        refine I0.mono ?_
        rintro e w3 ⟨rfl, hb3⟩
        have X3 := X0.later hb3
        have B3 := n0.trans (hb3.mono n0.size)
        obtain ⟨u0, u1, u2, u3, _, _, _, _⟩ := id X3
        replace y0 := kept_cell B3 y0
        replace y1 := kept_cell B3 y1
        replace y2 := kept_cell B3 y2
        replace y3 := kept_cell B3 y3
        have I1 := ihy w3 (hy.below B3) (hS0.later B3)
        clear X0 z0 z1 z2 z3 hx0 hS1 I0 ihx ihy
        go_wp2_with fail
        refine I1.mono ?_
        rintro e w4 ⟨rfl, hb4⟩
        have X4 := X3.later hb4
        have B4 := B3.trans (hb4.mono B3.size)
        clear u0 u1 u2 u3 y0 y1 y2 y3 I1
        obtain ⟨u0, u1, u2, u3, _, _, _, _⟩ := id X4
        go_wp2_with fail
        refine (RK _).mono ?_
        rintro e w' ⟨rfl, rfl⟩
        go_wp2_with fail
        go_ret2
        exact ⟨rfl, B4⟩
      · rw [if_neg h3]
        have h3b : (q2 != 0) = true := by simpa using h3
        clear hax hay
        go_enter Tryz.func21, Tryz.ntmps21
        go_wp2_with fail
        generalize w.alloc (.cells #[.int .i64 op, .int .i64 0, .string (bs []), .slice (some ⟨k, 0, none⟩) 2 2] 27) = W0 at *
        refine I0.mono ?_
        rintro e w3 ⟨rfl, hb3⟩
        have X3 := X0.later hb3
        have B3 := n0.trans (hb3.mono n0.size)
        obtain ⟨u0, u1, u2, u3, _, _, _, _⟩ := id X3
        replace y0 := kept_cell B3 y0
        replace y1 := kept_cell B3 y1
        replace y2 := kept_cell B3 y2
        replace y3 := kept_cell B3 y3
        have I1 := ihy w3 (hy.below B3) (hS0.later B3)
        clear X0 z0 z1 z2 z3 hx0 hS1 I0 ihx ihy
        go_wp2_with fail
        refine I1.mono ?_
        rintro e w4 ⟨rfl, hb4⟩
        have B4 := B3.trans (hb4.mono B3.size)
        clear u0 u1 u2 u3 y0 y1 y2 y3 I1
        go_wp2_with fail
        go_ret2
        exact ⟨rfl, B4⟩
    · rw [if_neg h2]
      have h2b : (r2 != 0) = true := by simpa using h2
      clear hax hay
      go_enter Tryz.func21, Tryz.ntmps21
      go_wp2_with fail
      generalize w.alloc (.cells #[.int .i64 op, .int .i64 0, .string (bs []), .slice (some ⟨k, 0, none⟩) 2 2] 27) = W0 at *
      refine I0.mono ?_
      rintro e w3 ⟨rfl, hb3⟩
      have B3 := n0.trans (hb3.mono n0.size)
      clear X0 z0 z1 z2 z3 hx0 hS1 I0 ihx ihy
      go_wp2_with fail
      go_ret2
      exact ⟨rfl, B3⟩
end Go.Proofs.YtopfnfmglnjljaaGreatDoor
