/- For every row of raw expressions, every place and every numbers for symbols, the statement ExprEvals holds: what an expression comes to, or its error, is the document's. Its condition: what the listed package variables read as when the call begins is what the program's own text lays. -/
import Derived.Test.YtopfnfmglnjljaaGreatDoorRows
import Derived.WalkKit
import Derived.ProofKit
import Derived.OpenShut
import Derived.LaidMore
import Derived.Stop.Joined
import Derived.SevenTiedAt
import Derived.Laws.BytesArg
import Derived.BigQuiet
import Derived.Lay
import Derived.MakeChecks
import Derived.Test.YtopfnfmglnjljaaGreatDoorTie
import Derived.Test.YtopfnfmglnjljaaGreatDoorCards
import Derived.Test.YtopfnfmglnjljaaGreatDoorLaid
import Derived.Test.YtopfnfmglnjljaaGreatDoorKnown
import Derived.Test.YtopfnfmglnjljaaGreatDoorWithin
import Derived.Test.YtopfnfmglnjljaaGreatDoorArgs
import Derived.Test.YtopfnfmglnjljaaGreatDoorRaw
import Derived.Test.YtopfnfmglnjljaaGreatDoorSize
import Derived.Test.YtopfnfmglnjljaaGreatDoorMake
import Derived.Test.YtopfnfmglnjljaaGreatDoorRawOne
import Derived.Test.YtopfnfmglnjljaaGreatDoorKids
import Derived.Test.YtopfnfmglnjljaaGreatDoorSyms
import Derived.Test.YtopfnfmglnjljaaGreatDoorWhole
import Derived.Test.YtopfnfmglnjljaaGreatDoorRefEval
import Derived.Test.YtopfnfmglnjljaaGreatDoorRefEval2
import Derived.Test.YtopfnfmglnjljaaGreatDoorEvals
namespace Go.Proofs.YtopfnfmglnjljaaGreatDoor.exprEvals
open Go.ChangeShapes Go.WideShapes Go.ChangeAt Go.RowKit
open Go.ChangeMaps (open_string shut_string)
set_option linter.unusedVariables false
set_option linter.unusedSimpArgs false

theorem own : ownKnob Tryz.prog.godebug = none := by kernel_rfl

/-! ### The walk -/
set_option maxHeartbeats 8000000 in
set_option maxRecDepth 20000 in
theorem walk (v0 : Value) (a0 : Fo) (a1 : Int) (w1 : (Lit.int .i64 a1).wf = true) (v2 : Value) (a2 : List Int) (w2 : InRange a2) (l2 : a2.length ≤ maxLen) (w : World) (T : Tab w) (s0 : RawsAt w v0 a0) (s2 : SliceIs w v2 a2) :
    Calls Tryz.prog 5 #[v0, .int .i64 a1, v2] w fun e w' => e = .returned (.bool true) ∧ Below w.heap.size w w' := by
  have K := known_any w T
  obtain ⟨p, cap, rfl, hm, hA⟩ := id s0
  obtain ⟨p2, cap2, rfl, hc2⟩ := id s2
  clear hA hc2
  go_enter Tryz.func5, Tryz.ntmps5
  go_wp2_with fail
  refine K.mono ?_
  rintro e U1 ⟨rfl, hb1⟩
  clear K
  have F := few_any a0 _ U1 (s0.later hb1)
  go_wp2_with fail
  refine F.mono ?_
  rintro e U2 ⟨hb2, fw, rfl, hfew⟩
  have B2 := hb1.trans (hb2.mono hb1.size)
  clear F hb1 hb2 hfew
  cases fw with
  | false =>
    go_wp2_with fail
    go_ret
    exact ⟨rfl, B2⟩
  | true =>
    have O := one_any a0 _ U2 (s0.later B2)
    have hsm := one_small a0
    have hwh := one_whole a0
    have hok := symsGo_ok a2 (min a2.length 4)
    generalize oneP a0 = x at *
    go_wp2_with fail
    refine O.mono ?_
    rintro e W3 ⟨hb3, v, rfl, hx⟩
    obtain ⟨ka, na, ta, qa, la, ma, rfl⟩ := hx.form
    have B3 := B2.trans (hb3.mono B2.size)
    have S := syms_any a2 _ W3 (s2.later B3) w2 l2
    clear O hb3
    go_wp2_with fail
    refine S.mono ?_
    rintro e W4 ⟨hb4, sv, rfl, hS⟩
    obtain ⟨ps, cs, rfl, hms, hcs⟩ := id hS
    have B4 := B3.trans (hb4.mono B3.size)
    have hx4 := hx.below hb4
    clear S hb4 hx hcs
    have I := fun W => within_any a1 1048577 (by omega) (by omega) W
    have r1 := Int.emod_nonneg a1 (show (1048577 : Int) ≠ 0 by omega)
    have r2 := Int.emod_lt_of_pos a1 (show (0 : Int) < 1048577 by omega)
    generalize a1 % 1048577 = a at *
    have V2 := fun W hx hS => eval_any a (symsP a2) (U2.heap.size ≤ ·) x hsm (.agg #[.int .i64 ka, .int .i64 na, .string ta, .slice qa la ma]) (.slice ps (symsP a2).length cs) W hx hS
    have V3 := fun W hx hS => reval_any a r1 (by omega) (symsP a2) hok (U2.heap.size ≤ ·) x hsm hwh (.agg #[.int .i64 ka, .int .i64 na, .string ta, .slice qa la ma]) (.slice ps (symsP a2).length cs) W hx hS
    generalize symsP a2 = syms at *
    generalize evalP a syms x = ra at *
    obtain ⟨ra1, ra2⟩ := ra
    unfold pair at V2 V3
    go_wp2_with fail
    have n5 := below_new W4 (.cells #[.int .i64 ka, .int .i64 na, .string ta, .slice qa la ma] 27)
    have X5 := Blk.new W4 27 (.int .i64 ka) (.int .i64 na) (.string ta) (.slice qa la ma)
    have B5 := B4.trans (n5.mono B4.size)
    have hx5 := hx4.below n5
    have hS5 := hS.later n5
    generalize W4.alloc (.cells #[.int .i64 ka, .int .i64 na, .string ta, .slice qa la ma] 27) = W5 at *
    clear n5 hx4 hS B4
    refine (I _).mono ?_
    rintro e w' ⟨rfl, rfl⟩
    clear I
    obtain ⟨x0, x1, x2, x3, _, _, _, _⟩ := id X5
    go_wp2_with fail
    refine (V2 W5 hx5 hS5).mono ?_
    rintro e W9 ⟨rfl, hb9⟩
    have X9 := X5.later hb9
    have B9 := B5.trans (hb9.mono B5.size)
    have hx9 := hx5.below hb9
    have hS9 := hS5.later hb9
    clear hb9 X5 hx5 hS5 B5 V2 x0 x1 x2 x3
    obtain ⟨x0, x1, x2, x3, _, _, _, _⟩ := id X9
    go_wp2_with fail
    refine (V3 W9 hx9 hS9).mono ?_
    rintro e W10 ⟨rfl, hb10⟩
    have B10 := B9.trans (hb10.mono B9.size)
    clear hb10 X9 hx9 hS9 B9 V3 x0 x1 x2 x3
    go_wp2_with fail
    go_ret
    exact ⟨by simp, B10⟩

/-! ### The row's step -/
set_option maxRecDepth 100000 in
theorem lifted (os : Os) (started : os.Started) (H : Type) (enc : TypeId × Value → H) :
    ReturnsInHanded {} Tryz.checked os 5 .any (fun w args => (Rows.exprEvalsSpec.pre enc Tryz.prog Tryz.f5 [] false w args ∧ laidMetH Tryz.prog laid8 w) ∧ sizedMet enc Tryz.prog Tryz.f5 (OpenSpec.ofChange Rows.exprEvalsSpec) false w args)
      (Rows.exprEvalsSpec.post enc Tryz.prog Tryz.f5 false true false false) := by
  refine returnsInHanded_of_change_and (C := Tryz.checked) (X := fun w _ => laidMetH Tryz.prog laid8 w) (fun _ _ _ hh h => h.of_heap hh) own started (by kernel_rfl) Tryz.func5
    (ChangeSpec.witness_shaped (enc := enc) (C := Tryz.checked) (os := os) (X := fun w _ => laidMetH Tryz.prog laid8 w) false (World.laidAll Tryz.prog os laid8) #[.slice none 0 0, .int .i64 0, .slice none 0 0] 8 (World.laidAll_os _ _ _) (World.shaped_of_ZipB (by kernel_rfl) (by kernel_rfl)) (by kernel_rfl) (by kernel_rfl) (by kernel_rfl) (by rw [MakeChecks.laidMetH_plain _ _ _ (by kernel_rfl)]; exact laidMet_laidAll _ (by kernel_rfl) (by kernel_rfl))) ?_
  intro W base args ds gs before hval0 hW _ _ hL _
  have hval : ∀ (j : Nat) t v, Tryz.f5.params[j]? = some t → args[j]? = some v → Value.okWide Tryz.prog W .any base t v := hval0
  have hW' := hW
  obtain ⟨p, q, hA0, hV, rfl, hfz, hnd⟩ := hW
  have hA : DataW.TrodAll enc Tryz.prog W 0 (fun _ => true) true Tryz.f5.params.toList args.toList ds p := hA0
  rw [Tryz.params5] at hA hval
  obtain ⟨v0, vs0, d0, ds0, p0, q0, hargs, rfl, rfl, h0, r0⟩ := trodAll_cons hA
  obtain ⟨v1, vs1, d1, ds1, p1, q1, rfl, rfl, rfl, h1, r1⟩ := trodAll_cons r0
  obtain ⟨v2, vs2, d2, ds2, p2, q2, rfl, rfl, rfl, h2, r2⟩ := trodAll_cons r1
  obtain ⟨rfl, rfl, rfl⟩ := trodAll_nil r2
  obtain rfl : args = #[v0, v1, v2] := by cases args; simp_all
  obtain ⟨rfl, rfl⟩ := trodVars_none hV
  have k0 := h0
  obtain ⟨a0, s0⟩ := open_raws (hval 0 22 v0 rfl rfl) h0
  obtain ⟨a1, rfl, rfl, rfl, w1⟩ := open_int Tryz.underlying3 (hval 1 3 v1 rfl rfl) h1
  have k2 := h2
  obtain ⟨a2, s2, w2, l2⟩ := open_ints' (hval 2 35 v2 rfl rfl) h2
  clear hA0 hval0
  simp only [List.append_nil, List.nil_append] at hW'
  have hlt : ∀ x ∈ p0 ++ p2, x.block < W.heap.size := fun x hx => by simpa using hW'.lt x (by simpa [or_assoc] using hx)
  refine (walk v0 a0 a1 w1 v2 a2 w2 l2 W (tab_of_laid hL) s0 s2).mono fun e W' ⟨he, hg⟩ => ?_
  subst he
  exact ⟨_, rfl, _, _, _, [], _, [], hW', (trodAll_cons_mk (shut_bool Tryz.underlying4 _) trodAll_mk0), (trodAll_cons_mk (Below.trod laidOut (by kernel_rfl) (of_decide_eq_true (by kernel_rfl)) k0 hg (fun x hx => hlt x (by simp [hx]))) (trodAll_cons_mk (shut_int Tryz.underlying3 w1) (trodAll_cons_mk (Below.trod laidOut (by kernel_rfl) (of_decide_eq_true (by kernel_rfl)) k2 hg (fun x hx => hlt x (by simp [hx]))) trodAll_mk0))), rfl, hg.frame _, fun h => by cases h⟩

theorem row : Rows.ExprEvalsSaid :=
  OpenClaim.holds_of_wide 5 Tryz.f5 rfl rfl rfl rfl rfl rfl rfl ⟨rfl, rfl, rfl, rfl, rfl⟩ rfl rfl rfl rfl rfl (by kernel_rfl) Tryz.func5 (by kernel_rfl)
    (of_decide_eq_true (by kernel_rfl)) (by unfold Func.isWrapper; first | (rw [if_pos (by decide +kernel)]; kernel_rfl) | (rw [if_neg (by decide +kernel)]; exact ⟨rfl, rfl⟩))
    (fun os started H enc _ => lifted os started H enc)

/-- The statement. -/
theorem proved : Rows.ExprEvalsCardSaid :=
  Claim7.holds_tied_plain_at .later [] [.data, .data, .data, .data, .sentinel, .sentinel, .data, .pinned] true (true, "f08257e55a3ccc68d95a493c92da4daa60ab3f463c0a3b302d2eeb7255323afe") true
    row (fun _ h => by cases h) (by kernel_rfl) (fun _ h => by cases h) exprEvals_row_tie rfl ⟨rfl, rfl⟩ (by kernel_rfl) rfl
    (fun f fn hf hfn => by
      obtain rfl : f = 5 := Option.some.inj ((show Tryz.prog.funcNamed "letterpress/letterpresslaw3.ExprEvals" = some 5 by kernel_rfl).symm.trans hf) |>.symm
      obtain rfl : fn = Tryz.f5 := (Option.some.inj (Tryz.func5.symm.trans hfn)).symm
      exact ⟨by kernel_rfl, fun j t ht => by
        rw [Tryz.params5] at ht
        have hm : t ∈ [22, 3, 35] := by simpa using Array.mem_of_getElem? ht
        have hall : ([22, 3, 35].all fun u => !Tryz.prog.wantsStandIn u) = true := by kernel_rfl
        exact (show Tryz.prog.wantsStandIn t = false by simpa using List.all_eq_true.1 hall t hm)⟩)
    (by kernel_rfl)
#print axioms proved
end Go.Proofs.YtopfnfmglnjljaaGreatDoor.exprEvals
