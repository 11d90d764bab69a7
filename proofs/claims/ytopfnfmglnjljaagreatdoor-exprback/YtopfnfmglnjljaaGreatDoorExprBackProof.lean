/- ExprBack: for every row of raw expressions, and at the laid values of the listed variables, the law answers true: an expression is written as the document says and read as it was, and its names are told, each once, from left to right. -/
import Derived.Test.YtopfnfmglnjljaaGreatDoorRows
import Derived.WalkKit
import Derived.ProofKit
import Derived.OpenShut
import Derived.LaidMore
import Derived.Stop.Joined
import Derived.SevenTiedAt
import Derived.Laws.BytesArg
import Derived.BigQuiet
import Derived.Lay
import Derived.MakeChecks
import Derived.Test.YtopfnfmglnjljaaGreatDoorTie
import Derived.Test.YtopfnfmglnjljaaGreatDoorCards
import Derived.Test.YtopfnfmglnjljaaGreatDoorLaid
import Derived.Test.YtopfnfmglnjljaaGreatDoorKnown
import Derived.Test.YtopfnfmglnjljaaGreatDoorWithin
import Derived.Test.YtopfnfmglnjljaaGreatDoorArgs
import Derived.Test.YtopfnfmglnjljaaGreatDoorFits
import Derived.Test.YtopfnfmglnjljaaGreatDoorRefText
import Derived.Test.YtopfnfmglnjljaaGreatDoorRefSame
import Derived.Test.YtopfnfmglnjljaaGreatDoorText
import Derived.Test.YtopfnfmglnjljaaGreatDoorNames4
namespace Go.Proofs.YtopfnfmglnjljaaGreatDoor.exprBack
open Go.ChangeShapes Go.WideShapes Go.ChangeAt Go.RowKit
open Go.ChangeMaps (open_string shut_string)
set_option linter.unusedVariables false
set_option linter.unusedSimpArgs false

theorem own : ownKnob Tryz.prog.godebug = none := by kernel_rfl

open Go.Proofs.YtopfnfmglnjljaaGreatDoor.Ly Go.Proofs.YtopfnfmglnjljaaGreatDoor.Nn
open Go.Sort (grow)
/-! ### The walk -/
set_option maxHeartbeats 20000000 in
set_option maxRecDepth 20000 in
theorem walk (v0 : Value) (a0 : Fo) (w : World) (T : Tab w) (s0 : RawsAt w v0 a0) :
    Calls Tryz.prog 3 #[v0] w fun e w' => e = .returned (.bool true) ∧ Below w.heap.size w w' := by
  have K := known_any w T
  obtain ⟨p, cap, rfl, hm, hA⟩ := id s0
  clear hA
  go_enter Tryz.func3, Tryz.ntmps3
  go_wp2_with fail
  refine K.mono ?_
  rintro e U1 ⟨rfl, hb1⟩
  clear K
  have F := few_any a0 _ U1 (s0.later hb1)
  go_wp2_with fail
  refine F.mono ?_
  rintro e U2 ⟨hb2, fw, rfl, hfew⟩
  have B2 := hb1.trans (hb2.mono hb1.size)
  clear F hb1 hb2
  cases fw with
  | false =>
    clear hfew
    go_wp2_with fail
    go_ret
    exact ⟨rfl, B2⟩
  | true =>
    have hdeep := (hfew rfl).2
    have O := one_any a0 _ U2 (s0.later B2)
    have hsm := one_small a0
    have hwh := one_whole a0
    have hft := one_fit a0
    have hto := fit_told _ hft
    have hsz := one_size a0 hdeep
    have hlen := one_len a0 hdeep
    have hP := parse_one a0 hdeep
    clear hfew hdeep
    generalize oneP a0 = x0 at *
    go_wp2_with fail
    refine O.mono ?_
    rintro e W3 ⟨hb3, v, rfl, hx⟩
    have B3 := B2.trans (hb3.mono B2.size)
    obtain ⟨ka, na, ta, qa, la, ma, rfl⟩ := hx.form
    clear O hb3 B2 s0
    have n4 := below_new W3 (.cells #[.int .i64 ka, .int .i64 na, .string ta, .slice qa la ma] 27)
    have X4 := Blk.new W3 27 (.int .i64 ka) (.int .i64 na) (.string ta) (.slice qa la ma)
    have B4 := B3.trans (n4.mono B3.size)
    have hx4 := hx.below n4
    go_wp2_with fail
    generalize W3.alloc (.cells #[.int .i64 ka, .int .i64 na, .string ta, .slice qa la ma] 27) = W4 at *
    clear hx n4 B3
    refine (text_any x0 hsm hto _ _ W4 (T.later B4) hx4 (by omega)).mono ?_
    rintro e W5 ⟨rfl, hb5⟩
    have X5 := X4.later hb5
    have hx5 := hx4.below hb5
    have B5 := B4.trans (hb5.mono B4.size)
    have P := parse_any (textP x0) (by omega) W5 (T.later B5)
    rw [hP] at P
    clear X4 hx4 hb5 B4 hP hto
    obtain ⟨tx, htx⟩ : ∃ tx, tx = textP x0 := ⟨_, rfl⟩
    rw [← htx] at P ⊢
    replace htx : Hid (tx = textP x0) := htx
    go_wp2_with fail
    refine P.mono ?_
    rintro e W6 ⟨hb6, v6, rfl, hy6⟩
    obtain ⟨kb, nb, tb, qb, lb, mb, rfl⟩ := hy6.form
    have X6 := X5.later hb6
    have hx6 := hx5.below hb6
    have B6 := B5.trans (hb6.mono B5.size)
    clear P X5 hx5 hb6 B5
    have n7 := below_new W6 (.cells #[.int .i64 kb, .int .i64 nb, .string tb, .slice qb lb mb] 27)
    have Y7 := Blk.new W6 27 (.int .i64 kb) (.int .i64 nb) (.string tb) (.slice qb lb mb)
    have X7 := X6.later n7
    have hx7 := hx6.below n7
    have hy7 := hy6.below n7
    have B7 := B6.trans (n7.mono B6.size)
    clear X6 hx6 hy6 B6 n7
    go_wp2_with fail
    generalize W6.alloc (.cells #[.int .i64 kb, .int .i64 nb, .string tb, .slice qb lb mb] 27) = W7 at *
    have d7 : Below W7.heap.size W7 W7.drew := Below.drew (Below.refl _ _)
    have X7d := X7.later d7
    have Y7d := Y7.later d7
    have hx7d := hx7.below d7
    have hy7d := hy7.below d7
    have B7d := B7.trans (d7.mono B7.size)
    have N7 := Go.Proofs.YtopfnfmglnjljaaGreatDoor.Nn.names_any x0 hft hsz _ W7.drew (hx7d.imp fun k _ h => h)
    have R8 := fun P W (h : ExAt P W (.agg #[.int .i64 ka, .int .i64 na, .string ta, .slice qa la ma]) x0) => rnames_any P (x0.size + 1) x0 (by omega) hsm hsz _ W h
    rw [refN_words] at R8
    have hll := words_len x0 []
    obtain ⟨l, hl⟩ : ∃ l, l = wordsN [] x0 := ⟨_, rfl⟩
    rw [← hl] at N7 R8 hll
    have hlx : l.length ≤ 100000 := by simp only [List.length_nil] at hll; omega
    clear hll hl X7 Y7 hx7 hy7 B7 d7
    obtain ⟨x0c, x1c, x2c, x3c, _, _, _, _⟩ := id X7d
    go_region_with (first
      | (go_at_call 13; refine N7.mono ?_; rintro e W8 ⟨hb8, va, rfl, hS8⟩; have B8 := B7d.trans (hb8.mono B7d.size); have X8 := X7d.later hb8; have Y8 := Y7d.later hb8; have hx8 := hx7d.below hb8; have hy8 := hy7d.below hb8; obtain ⟨y0, y1, y2, y3, _, _, _, _⟩ := id X8)
      | (go_at_call 14; refine (R8 _ _ hx8).mono ?_; rintro e W9 ⟨hb9, vb, rfl, hS9⟩))
    all_goals
      have B9 := B8.trans (hb9.mono B8.size)
      have X9 := X8.later hb9
      have Y9 := Y8.later hb9
      have hx9 := hx8.below hb9
      have hy9 := hy8.below hb9
      obtain ⟨pa, ca, rfl, hca⟩ := hS8.later hb9
      obtain ⟨pb, cb, rfl, hcb⟩ := hS9.at
      clear N7 R8 X7d Y7d hx7d hy7d B7d x0c x1c x2c x3c hb8 hS8 B8 X8 Y8 hx8 hy8 y0 y1 y2 y3 hb9 hS9 T
      go_wp2_with fail
      go_loopw [9] (fun i wr => ∃ j : Nat, j ≤ l.length ∧ i = .int .i64 j ∧ Below W9.heap.size W9 wr) (fun i _ => l.length - (intOf i).toNat)
      case atStart => exact ⟨0, by omega, rfl, Below.refl _ _⟩
      case round =>
        obtain ⟨j, hj, rfl, hb⟩ := hrel
        by_cases hjn : j < l.length
        · obtain ⟨s, hs⟩ : ∃ s, l[j]? = some s := ⟨_, List.getElem?_eq_getElem hjn⟩
          obtain ⟨ga, oa, rfl, ha⟩ := hca (by rintro rfl; simp at hjn)
          obtain ⟨gb, ob, rfl, hb'⟩ := hcb (by rintro rfl; simp at hjn)
          have ea := cell_regrown (kept_cell hb (ha j s hs))
          have eb := cell_regrown (kept_cell hb (hb' j s hs))
          have he : ((bs s).toList == (bs s).toList) = true := by simp
          have hjI : (j : Int) < (l.length : Int) := by omega
          clear ha hb' hca hcb hs X9 Y9 hx9 hy9
          go_wp2_with fail
          refine wp_region_quiet_below (by kernel_rfl) (by kernel_rfl) ?_
          repeat (quiet_step (fail))
          refine wpQuiet_nil ?_
          intro _ hw'
          obtain ⟨⟨dq, osq⟩, hw''⟩ := hw'
          subst hw''
          have hb3 := below_regrown wr dq osq
          clear ea eb
          generalize grow (redrawn wr dq) osq = w3 at *
          go_wp2_with fail
          go_roundw
          case rel => exact ⟨j + 1, by omega, by simp, hb.trans (hb3.mono hb.size)⟩
          case measure => simp [intOf]; omega
        · obtain rfl : j = l.length := by omega
          have hjI : ¬ (l.length : Int) < (l.length : Int) := by omega
          have X10 := X9.later hb
          have Y10 := Y9.later hb
          have hx10 := hx9.below hb
          have hy10 := hy9.below hb
          have B10 := B9.trans (hb.mono B9.size)
          have RT := rtext_any _ x0 hsm hwh (by omega) _ wr hx10
          rw [← htx.out] at RT
          have SM : ∀ (P Q : Nat → Prop) (va vb : Value) (W : World), ExAt P W va x0 → ExAt Q W vb x0 → Calls Tryz.prog 16 #[va, vb] W fun e w' => e = .returned (.bool true) ∧ Below W.heap.size W w' := fun P Q va vb W h1 h2 => by
            have := rsame_any P Q _ x0 x0 (Nat.lt_succ_self _) hsm hsm va vb W h1 h2
            simpa using this
          have he : ((bs tx).toList == (bs tx).toList) = true := by simp
          obtain ⟨x0c, x1c, x2c, x3c, _, _, _, _⟩ := id X10
          clear hca hcb X9 Y9 hx9 hy9 B9 hb hlen hsz hwh hft
          go_wp2_with fail
          refine RT.mono ?_
          rintro e W11 ⟨rfl, hb11⟩
          have B11 := B10.trans (hb11.mono B10.size)
          have S11 := SM _ _ _ _ W11 (hx10.below hb11) (hy10.below hb11)
          obtain ⟨z0, z1, z2, z3, _, _, _, _⟩ := X10.later hb11
          obtain ⟨v0, v1, v2, v3, _, _, _, _⟩ := Y10.later hb11
          clear RT SM X10 Y10 hx10 hy10 B10 hb11 x0c x1c x2c x3c
          go_wp2_with fail
          refine S11.mono ?_
          rintro e W12 ⟨rfl, hb12⟩
          clear S11
          go_wp2_with fail
          go_ret
          exact ⟨rfl, B11.trans (hb12.mono B11.size)⟩

/-! ### The row's step -/
set_option maxRecDepth 100000 in
theorem lifted (os : Os) (started : os.Started) (H : Type) (enc : TypeId × Value → H) :
    ReturnsInHanded {} Tryz.checked os 3 .any (fun w args => (Rows.exprBackSpec.pre enc Tryz.prog Tryz.f3 [] false w args ∧ laidMetH Tryz.prog laid8 w) ∧ sizedMet enc Tryz.prog Tryz.f3 (OpenSpec.ofChange Rows.exprBackSpec) false w args)
      (Rows.exprBackSpec.post enc Tryz.prog Tryz.f3 false true false false) := by
  refine returnsInHanded_of_change_and (C := Tryz.checked) (X := fun w _ => laidMetH Tryz.prog laid8 w) (fun _ _ _ hh h => h.of_heap hh) own started (by kernel_rfl) Tryz.func3
    (ChangeSpec.witness_shaped (enc := enc) (C := Tryz.checked) (os := os) (X := fun w _ => laidMetH Tryz.prog laid8 w) false (World.laidAll Tryz.prog os laid8) #[.slice none 0 0] 8 (World.laidAll_os _ _ _) (World.shaped_of_ZipB (by kernel_rfl) (by kernel_rfl)) (by kernel_rfl) (by kernel_rfl) (by kernel_rfl) (by rw [MakeChecks.laidMetH_plain _ _ _ (by kernel_rfl)]; exact laidMet_laidAll _ (by kernel_rfl) (by kernel_rfl))) ?_
  intro W base args ds gs before hval0 hW _ _ hL _
  have hval : ∀ (j : Nat) t v, Tryz.f3.params[j]? = some t → args[j]? = some v → Value.okWide Tryz.prog W .any base t v := hval0
  have hW' := hW
  obtain ⟨p, q, hA0, hV, rfl, hfz, hnd⟩ := hW
  have hA : DataW.TrodAll enc Tryz.prog W 0 (fun _ => true) true Tryz.f3.params.toList args.toList ds p := hA0
  rw [Tryz.params3] at hA hval
  obtain ⟨v0, vs0, d0, ds0, p0, q0, hargs, rfl, rfl, h0, r0⟩ := trodAll_cons hA
  obtain ⟨rfl, rfl, rfl⟩ := trodAll_nil r0
  obtain rfl : args = #[v0] := by cases args; simp_all
  obtain ⟨rfl, rfl⟩ := trodVars_none hV
  have k0 := h0
  obtain ⟨a0, s0⟩ := open_raws (hval 0 22 v0 rfl rfl) h0
  clear hA0 hval0
  simp only [List.append_nil, List.nil_append] at hW'
  have hlt : ∀ x ∈ p0, x.block < W.heap.size := fun x hx => by simpa using hW'.lt x (by simpa [or_assoc] using hx)
  refine (walk v0 a0 W (tab_of_laid hL) s0).mono fun e W' ⟨he, hg⟩ => ?_
  subst he
  exact ⟨_, rfl, _, _, _, [], _, [], hW', (trodAll_cons_mk (shut_bool Tryz.underlying4 _) trodAll_mk0), (trodAll_cons_mk (Below.trod laidOut (by kernel_rfl) (of_decide_eq_true (by kernel_rfl)) k0 hg (fun x hx => hlt x (by simp [hx]))) trodAll_mk0), rfl, hg.frame _, fun h => by cases h⟩

theorem row : Rows.ExprBackSaid :=
  OpenClaim.holds_of_wide 3 Tryz.f3 rfl rfl rfl rfl rfl rfl rfl ⟨rfl, rfl, rfl, rfl, rfl⟩ rfl rfl rfl rfl rfl (by kernel_rfl) Tryz.func3 (by kernel_rfl)
    (of_decide_eq_true (by kernel_rfl)) (by unfold Func.isWrapper; first | (rw [if_pos (by decide +kernel)]; kernel_rfl) | (rw [if_neg (by decide +kernel)]; exact ⟨rfl, rfl⟩))
    (fun os started H enc _ => lifted os started H enc)

/-- The statement. -/
theorem proved : Rows.ExprBackCardSaid :=
  Claim7.holds_tied_plain_at .later [] [.data, .data, .data, .data, .sentinel, .sentinel, .data, .pinned] true (true, "f08257e55a3ccc68d95a493c92da4daa60ab3f463c0a3b302d2eeb7255323afe") true
    row (fun _ h => by cases h) (by kernel_rfl) (fun _ h => by cases h) exprBack_row_tie rfl ⟨rfl, rfl⟩ (by kernel_rfl) rfl
    (fun f fn hf hfn => by
      obtain rfl : f = 3 := Option.some.inj ((show Tryz.prog.funcNamed "letterpress/letterpresslaw3.ExprBack" = some 3 by kernel_rfl).symm.trans hf) |>.symm
      obtain rfl : fn = Tryz.f3 := (Option.some.inj (Tryz.func3.symm.trans hfn)).symm
      exact ⟨by kernel_rfl, fun j t ht => by
        rw [Tryz.params3] at ht
        have hm : t ∈ [22] := by simpa using Array.mem_of_getElem? ht
        have hall : ([22].all fun u => !Tryz.prog.wantsStandIn u) = true := by kernel_rfl
        exact (show Tryz.prog.wantsStandIn t = false by simpa using List.all_eq_true.1 hall t hm)⟩)
    (by kernel_rfl)
#print axioms proved
end Go.Proofs.YtopfnfmglnjljaaGreatDoor.exprBack
