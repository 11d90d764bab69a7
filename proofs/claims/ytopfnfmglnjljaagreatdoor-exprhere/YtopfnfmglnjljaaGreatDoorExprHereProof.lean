/- For every row of raw expressions, every two places and every numbers for symbols, the statement ExprHere holds: the place is the one that is told, and where an expression does not ask for it it does not matter. Its condition: what the listed package variables read as when the call begins is what the program's own text lays. -/
import Derived.Test.YtopfnfmglnjljaaGreatDoorRows
import Derived.WalkKit
import Derived.ProofKit
import Derived.OpenShut
import Derived.LaidMore
import Derived.Stop.Joined
import Derived.SevenTiedAt
import Derived.Laws.BytesArg
import Derived.BigQuiet
import Derived.Lay
import Derived.MakeChecks
import Derived.Test.YtopfnfmglnjljaaGreatDoorTie
import Derived.Test.YtopfnfmglnjljaaGreatDoorCards
import Derived.Test.YtopfnfmglnjljaaGreatDoorLaid
import Derived.Test.YtopfnfmglnjljaaGreatDoorKnown
import Derived.Test.YtopfnfmglnjljaaGreatDoorWithin
import Derived.Test.YtopfnfmglnjljaaGreatDoorArgs
import Derived.Test.YtopfnfmglnjljaaGreatDoorRaw
import Derived.Test.YtopfnfmglnjljaaGreatDoorSize
import Derived.Test.YtopfnfmglnjljaaGreatDoorMake
import Derived.Test.YtopfnfmglnjljaaGreatDoorRawOne
import Derived.Test.YtopfnfmglnjljaaGreatDoorKids
import Derived.Test.YtopfnfmglnjljaaGreatDoorSyms
import Derived.Test.YtopfnfmglnjljaaGreatDoorWhole
namespace Go.Proofs.YtopfnfmglnjljaaGreatDoor.exprHere
open Go.ChangeShapes Go.WideShapes Go.ChangeAt Go.RowKit
open Go.ChangeMaps (open_string shut_string)
set_option linter.unusedVariables false
set_option linter.unusedSimpArgs false

theorem own : ownKnob Tryz.prog.godebug = none := by kernel_rfl

/-! ### The walk -/
set_option maxHeartbeats 8000000 in
set_option maxRecDepth 20000 in
theorem walk (v0 : Value) (a0 : Fo) (a1 : Int) (w1 : (Lit.int .i64 a1).wf = true) (a2 : Int) (w2 : (Lit.int .i64 a2).wf = true) (v3 : Value) (a3 : List Int) (w3 : InRange a3) (l3 : a3.length ≤ maxLen) (w : World) (T : Tab w) (s0 : RawsAt w v0 a0) (s3 : SliceIs w v3 a3) :
    Calls Tryz.prog 7 #[v0, .int .i64 a1, .int .i64 a2, v3] w fun e w' => e = .returned (.bool true) ∧ Below w.heap.size w w' := by
  have K := known_any w T
  obtain ⟨p, cap, rfl, hm, hA⟩ := id s0
  obtain ⟨p3, cap3, rfl, hc3⟩ := id s3
  clear hA hc3
  go_enter Tryz.func7, Tryz.ntmps7
  go_wp2_with fail
  refine K.mono ?_
  rintro e w1 ⟨rfl, hb1⟩
  clear K
  have F := few_any a0 _ w1 (s0.later hb1)
  go_wp2_with fail
  refine F.mono ?_
  rintro e w2 ⟨hb2, fw, rfl, hfew⟩
  have B2 := hb1.trans (hb2.mono hb1.size)
  clear F hb1 hb2 hfew
  cases fw with
  | false =>
    go_wp2_with fail
    go_ret
    exact ⟨rfl, B2⟩
  | true =>
    have I := fun W => within_any a1 1048576 (by omega) (by omega) W
    have J := fun W => within_any a2 1048576 (by omega) (by omega) W
    have r1 := Int.emod_nonneg a1 (show (1048576 : Int) ≠ 0 by omega)
    have r2 := Int.emod_lt_of_pos a1 (show (0 : Int) < 1048576 by omega)
    generalize a1 % 1048576 = a at *
    generalize a2 % 1048576 = b at *
    go_wp2_with fail
    refine (I _).mono ?_
    rintro e w' ⟨rfl, rfl⟩
    clear I
    go_wp2_with fail
    refine (J _).mono ?_
    rintro e w' ⟨rfl, rfl⟩
    clear J
    have O := one_any a0 _ w2 (s0.later B2)
    have hsm := one_small a0
    generalize oneP a0 = x at *
    go_wp2_with fail
    refine O.mono ?_
    rintro e W3 ⟨hb3, v, rfl, hx⟩
    obtain ⟨ka, na, ta, qa, la, ma, rfl⟩ := hx.form
    have B3 := B2.trans (hb3.mono B2.size)
    have S := syms_any a3 _ W3 (s3.later B3) w3 l3
    clear O hb3
    go_wp2_with fail
    refine S.mono ?_
    rintro e W4 ⟨hb4, sv, rfl, hS⟩
    obtain ⟨ps, cs, rfl, hms, hcs⟩ := id hS
    have B4 := B3.trans (hb4.mono B3.size)
    have hx4 := hx.below hb4
    clear S hb4 hx hcs
    generalize symsP a3 = syms at *
    have HE := eval_elsewhere a b syms x
    have V2 := fun W hx hS => eval_any a syms (w2.heap.size ≤ ·) x hsm (.agg #[.int .i64 ka, .int .i64 na, .string ta, .slice qa la ma]) (.slice ps syms.length cs) W hx hS
    have V3 := fun W hx hS => eval_any b syms (w2.heap.size ≤ ·) x hsm (.agg #[.int .i64 ka, .int .i64 na, .string ta, .slice qa la ma]) (.slice ps syms.length cs) W hx hS
    have V1 := fun W (P : Nat → Prop) v hx hS => eval_any a syms P .here trivial v (.slice ps syms.length cs) W hx hS
    rw [eval_dot a syms r1 r2] at V1
    generalize evalP a syms x = ra at *
    generalize evalP b syms x = rb at *
    obtain ⟨ra1, ra2⟩ := ra
    obtain ⟨rb1, rb2⟩ := rb
    have HEH : Hid (hereP x = false → (ra1, ra2) = (rb1, rb2)) := HE
    unfold pair at V1 V2 V3
    clear HE
    go_wp2_with fail
    have n5 := below_new W4 (.cells #[.int .i64 ka, .int .i64 na, .string ta, .slice qa la ma] 27)
    have X5 := Blk.new W4 27 (.int .i64 ka) (.int .i64 na) (.string ta) (.slice qa la ma)
    have B5 := B4.trans (n5.mono B4.size)
    have hx5 := hx4.below n5
    have hS5 := hS.later n5
    generalize W4.alloc (.cells #[.int .i64 ka, .int .i64 na, .string ta, .slice qa la ma] 27) = W5 at *
    have P := parse1 (t := ⟨#[46]⟩) [46] W5 (T.later B5) rfl (by simp) parse_dot
    clear n5 hx4 hS B4
    refine P.mono ?_
    rintro e W6 ⟨hb6, kd, nd, td, qd, ld, md, rfl, hd⟩
    have X6 := X5.later hb6
    have B6 := B5.trans (hb6.mono B5.size)
    have hx6 := hx5.below hb6
    have hS6 := hS5.later hb6
    have hlt := X6.lt
    clear P hb6 X5 hx5 hS5 B5
    go_wp2_with fail
    have n7 := below_new W6 (.cells #[.int .i64 kd, .int .i64 nd, .string td, .slice qd ld md] 27)
    have X7 := X6.later n7
    have B7 := B6.trans (n7.mono B6.size)
    have hx7 := hx6.below n7
    have hS7 := hS6.later n7
    have hd7 := hd.below n7
    clear n7 X6 hx6 hS6 hd B6
    generalize W6.alloc (.cells #[.int .i64 kd, .int .i64 nd, .string td, .slice qd ld md] 27) = W7 at *
    refine (V1 W7 _ _ hd7 hS7).mono ?_
    rintro e W8 ⟨rfl, hb8⟩
    have X8 := X7.later hb8
    have B8 := B7.trans (hb8.mono B7.size)
    have hx8 := hx7.below hb8
    have hS8 := hS7.later hb8
    clear hb8 X7 hx7 hS7 hd7 B7 V1
    obtain ⟨x0, x1, x2, x3, _, _, _, _⟩ := id X8
    go_wp2_with fail
    refine (V2 W8 hx8 hS8).mono ?_
    rintro e W9 ⟨rfl, hb9⟩
    have X9 := X8.later hb9
    have B9 := B8.trans (hb9.mono B8.size)
    have hx9 := hx8.below hb9
    have hS9 := hS8.later hb9
    clear hb9 X8 hx8 hS8 B8 V2 x0 x1 x2 x3
    obtain ⟨x0, x1, x2, x3, _, _, _, _⟩ := id X9
    go_wp2_with fail
    refine (V3 W9 hx9 hS9).mono ?_
    rintro e W10 ⟨rfl, hb10⟩
    have X10 := X9.later hb10
    have B10 := B9.trans (hb10.mono B9.size)
    have hx10 := hx9.below hb10
    clear hb10 X9 hx9 hS9 B9 V3 x0 x1 x2 x3
    obtain ⟨x0, x1, x2, x3, _, _, _, _⟩ := id X10
    have H := here_any _ (x.size + 1) x (by omega) hsm _ W10 hx10
    go_wp2_with fail
    refine H.mono ?_
    rintro e W11 ⟨rfl, hb11⟩
    have B11 := B10.trans (hb11.mono B10.size)
    clear hb11 X10 hx10 B10 H x0 x1 x2 x3
    cases hh : hereP x with
    | true =>
      clear HEH
      go_wp2_with fail
      go_ret
      exact ⟨by simp, B11⟩
    | false =>
      have q := HEH.out hh
      simp only [Prod.mk.injEq] at q
      obtain ⟨rfl, rfl⟩ := q
      clear HEH
      go_wp2_with fail
      go_ret
      exact ⟨by simp, B11⟩

/-! ### The row's step -/
set_option maxRecDepth 100000 in
theorem lifted (os : Os) (started : os.Started) (H : Type) (enc : TypeId × Value → H) :
    ReturnsInHanded {} Tryz.checked os 7 .any (fun w args => (Rows.exprHereSpec.pre enc Tryz.prog Tryz.f7 [] false w args ∧ laidMetH Tryz.prog laid8 w) ∧ sizedMet enc Tryz.prog Tryz.f7 (OpenSpec.ofChange Rows.exprHereSpec) false w args)
      (Rows.exprHereSpec.post enc Tryz.prog Tryz.f7 false true false false) := by
  refine returnsInHanded_of_change_and (C := Tryz.checked) (X := fun w _ => laidMetH Tryz.prog laid8 w) (fun _ _ _ hh h => h.of_heap hh) own started (by kernel_rfl) Tryz.func7
    (ChangeSpec.witness_shaped (enc := enc) (C := Tryz.checked) (os := os) (X := fun w _ => laidMetH Tryz.prog laid8 w) false (World.laidAll Tryz.prog os laid8) #[.slice none 0 0, .int .i64 0, .int .i64 0, .slice none 0 0] 8 (World.laidAll_os _ _ _) (World.shaped_of_ZipB (by kernel_rfl) (by kernel_rfl)) (by kernel_rfl) (by kernel_rfl) (by kernel_rfl) (by rw [MakeChecks.laidMetH_plain _ _ _ (by kernel_rfl)]; exact laidMet_laidAll _ (by kernel_rfl) (by kernel_rfl))) ?_
  intro W base args ds gs before hval0 hW _ _ hL _
  have hval : ∀ (j : Nat) t v, Tryz.f7.params[j]? = some t → args[j]? = some v → Value.okWide Tryz.prog W .any base t v := hval0
  have hW' := hW
  obtain ⟨p, q, hA0, hV, rfl, hfz, hnd⟩ := hW
  have hA : DataW.TrodAll enc Tryz.prog W 0 (fun _ => true) true Tryz.f7.params.toList args.toList ds p := hA0
  rw [Tryz.params7] at hA hval
  obtain ⟨v0, vs0, d0, ds0, p0, q0, hargs, rfl, rfl, h0, r0⟩ := trodAll_cons hA
  obtain ⟨v1, vs1, d1, ds1, p1, q1, rfl, rfl, rfl, h1, r1⟩ := trodAll_cons r0
  obtain ⟨v2, vs2, d2, ds2, p2, q2, rfl, rfl, rfl, h2, r2⟩ := trodAll_cons r1
  obtain ⟨v3, vs3, d3, ds3, p3, q3, rfl, rfl, rfl, h3, r3⟩ := trodAll_cons r2
  obtain ⟨rfl, rfl, rfl⟩ := trodAll_nil r3
  obtain rfl : args = #[v0, v1, v2, v3] := by cases args; simp_all
  obtain ⟨rfl, rfl⟩ := trodVars_none hV
  have k0 := h0
  obtain ⟨a0, s0⟩ := open_raws (hval 0 22 v0 rfl rfl) h0
  obtain ⟨a1, rfl, rfl, rfl, w1⟩ := open_int Tryz.underlying3 (hval 1 3 v1 rfl rfl) h1
  obtain ⟨a2, rfl, rfl, rfl, w2⟩ := open_int Tryz.underlying3 (hval 2 3 v2 rfl rfl) h2
  have k3 := h3
  obtain ⟨a3, s3, w3, l3⟩ := open_ints' (hval 3 35 v3 rfl rfl) h3
  clear hA0 hval0
  simp only [List.append_nil, List.nil_append] at hW'
  have hlt : ∀ x ∈ p0 ++ p3, x.block < W.heap.size := fun x hx => by simpa using hW'.lt x (by simpa [or_assoc] using hx)
  refine (walk v0 a0 a1 w1 a2 w2 v3 a3 w3 l3 W (tab_of_laid hL) s0 s3).mono fun e W' ⟨he, hg⟩ => ?_
  subst he
  exact ⟨_, rfl, _, _, _, [], _, [], hW', (trodAll_cons_mk (shut_bool Tryz.underlying4 _) trodAll_mk0), (trodAll_cons_mk (Below.trod laidOut (by kernel_rfl) (of_decide_eq_true (by kernel_rfl)) k0 hg (fun x hx => hlt x (by simp [hx]))) (trodAll_cons_mk (shut_int Tryz.underlying3 w1) (trodAll_cons_mk (shut_int Tryz.underlying3 w2) (trodAll_cons_mk (Below.trod laidOut (by kernel_rfl) (of_decide_eq_true (by kernel_rfl)) k3 hg (fun x hx => hlt x (by simp [hx]))) trodAll_mk0)))), rfl, hg.frame _, fun h => by cases h⟩

theorem row : Rows.ExprHereSaid :=
  OpenClaim.holds_of_wide 7 Tryz.f7 rfl rfl rfl rfl rfl rfl rfl ⟨rfl, rfl, rfl, rfl, rfl⟩ rfl rfl rfl rfl rfl (by kernel_rfl) Tryz.func7 (by kernel_rfl)
    (of_decide_eq_true (by kernel_rfl)) (by unfold Func.isWrapper; first | (rw [if_pos (by decide +kernel)]; kernel_rfl) | (rw [if_neg (by decide +kernel)]; exact ⟨rfl, rfl⟩))
    (fun os started H enc _ => lifted os started H enc)

/-- The statement. -/
theorem proved : Rows.ExprHereCardSaid :=
  Claim7.holds_tied_plain_at .later [] [.data, .data, .data, .data, .sentinel, .sentinel, .data, .pinned] true (true, "f08257e55a3ccc68d95a493c92da4daa60ab3f463c0a3b302d2eeb7255323afe") true
    row (fun _ h => by cases h) (by kernel_rfl) (fun _ h => by cases h) exprHere_row_tie rfl ⟨rfl, rfl⟩ (by kernel_rfl) rfl
    (fun f fn hf hfn => by
      obtain rfl : f = 7 := Option.some.inj ((show Tryz.prog.funcNamed "letterpress/letterpresslaw3.ExprHere" = some 7 by kernel_rfl).symm.trans hf) |>.symm
      obtain rfl : fn = Tryz.f7 := (Option.some.inj (Tryz.func7.symm.trans hfn)).symm
      exact ⟨by kernel_rfl, fun j t ht => by
        rw [Tryz.params7] at ht
        have hm : t ∈ [22, 3, 3, 35] := by simpa using Array.mem_of_getElem? ht
        have hall : ([22, 3, 3, 35].all fun u => !Tryz.prog.wantsStandIn u) = true := by kernel_rfl
        exact (show Tryz.prog.wantsStandIn t = false by simpa using List.all_eq_true.1 hall t hm)⟩)
    (by kernel_rfl)
#print axioms proved
end Go.Proofs.YtopfnfmglnjljaaGreatDoor.exprHere
