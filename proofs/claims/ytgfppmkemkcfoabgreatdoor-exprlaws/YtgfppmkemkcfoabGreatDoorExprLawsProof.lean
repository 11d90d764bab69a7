/- ExprLaws: nine texts that come to x: by the contracts of Parse and Eval, a loop, and plain arithmetic of bits. -/
import Derived.Test.YtgfppmkemkcfoabGreatDoorRows
import Derived.WalkKit
import Derived.ProofKit
import Derived.OpenShut
import Derived.LaidMore
import Derived.Stop.Joined
import Derived.SevenTiedAt
import Derived.Laws.BytesArg
import Derived.BigQuiet
import Derived.Lay
import Derived.MakeChecks
import Derived.Test.YtgfppmkemkcfoabGreatDoorTie
import Derived.Test.YtgfppmkemkcfoabGreatDoorCards
import Derived.Test.YtgfppmkemkcfoabGreatDoorLaid
import Derived.Test.YtgfppmkemkcfoabGreatDoorKnown
import Derived.Test.YtgfppmkemkcfoabGreatDoorWithin
import Derived.Test.YtgfppmkemkcfoabGreatDoorLaws
namespace Go.Proofs.YtgfppmkemkcfoabGreatDoor.exprLaws
open Go.ChangeShapes Go.WideShapes Go.ChangeAt Go.RowKit
open Go.ChangeMaps (open_string shut_string)
set_option linter.unusedVariables false
set_option linter.unusedSimpArgs false

theorem own : ownKnob Tryz.prog.godebug = none := by kernel_rfl

theorem cells_of {α : Type} (f : α → Value) (l : List α) (d : α) (i : Nat) (hi : i < l.length) : (l.map f).toArray[i]? = some (f (l.getD i d)) := by simp [List.getD, hi]
theorem syms3 (w : World) (T : TypeId) (s s' s'' : Bs) (n n' n'' : Int) : SymsAt (w.alloc (.cells #[.string (bs s), .int .i64 n, .string (bs s'), .int .i64 n', .string (bs s''), .int .i64 n''] T)) (.slice (some ⟨w.heap.size, 0, none⟩) 3 3) [(s, n), (s', n'), (s'', n'')] :=
  ⟨_, _, rfl, by simp [maxLen], fun _ => ⟨_, _, rfl, fun i u m hi => by
    match i, hi with
    | 0, hi => simp only [List.getElem?_cons_zero, Option.some.injEq, Prod.mk.injEq] at hi; obtain ⟨rfl, rfl⟩ := hi; exact ⟨new_cell _ 0 _ rfl, new_cell _ 1 _ rfl⟩
    | 1, hi => simp only [List.getElem?_cons_succ, List.getElem?_cons_zero, Option.some.injEq, Prod.mk.injEq] at hi; obtain ⟨rfl, rfl⟩ := hi; exact ⟨new_cell _ 2 _ rfl, new_cell _ 3 _ rfl⟩
    | 2, hi => simp only [List.getElem?_cons_succ, List.getElem?_cons_zero, Option.some.injEq, Prod.mk.injEq] at hi; obtain ⟨rfl, rfl⟩ := hi; exact ⟨new_cell _ 4 _ rfl, new_cell _ 5 _ rfl⟩⟩⟩

/-! ### The walk -/
set_option maxHeartbeats 20000000 in
set_option maxRecDepth 20000 in
theorem walk (a0 : Int) (w0 : (Lit.int .i64 a0).wf = true) (a1 : Int) (w1 : (Lit.int .i64 a1).wf = true) (a2 : Int) (w2 : (Lit.int .i64 a2).wf = true) (w : World) (T : Tab w) :
    Calls Tryz.prog 3 #[.int .i64 a0, .int .i64 a1, .int .i64 a2] w fun e w' => e = .returned (.bool true) ∧ Below w.heap.size w w' := by
  have K := known_any w T
  go_enter Tryz.func3, Tryz.ntmps3
  go_wp2_with fail
  refine K.mono ?_
  rintro e w1 ⟨rfl, hb1⟩
  have T1 := T.later hb1
  clear K
  have z1 := Int.emod_nonneg a0 (show (1073741824 : Int) ≠ 0 by omega)
  have z2 := Int.emod_lt_of_pos a0 (show (0 : Int) < 1073741824 by omega)
  have y1 := Int.emod_nonneg a1 (show (1073741824 : Int) ≠ 0 by omega)
  have y2 := Int.emod_lt_of_pos a1 (show (0 : Int) < 1073741824 by omega)
  have s1 := Int.emod_nonneg a2 (show (11 : Int) ≠ 0 by omega)
  have s2 := Int.emod_lt_of_pos a2 (show (0 : Int) < 11 by omega)
  have I := within_any a0 1073741824 (by omega) (by omega)
  have J := within_any a1 1073741824 (by omega) (by omega)
  have L := within_any a2 11 (by omega) (by omega)
  generalize a0 % 1073741824 = x at *
  generalize a1 % 1073741824 = y at *
  generalize a2 % 11 = n at *
  go_wp2_with fail
  refine (I _).mono ?_
  rintro e w' ⟨rfl, rfl⟩
  clear I
  go_wp2_with fail
  refine (J _).mono ?_
  rintro e w' ⟨rfl, rfl⟩
  clear J
  go_wp2_with fail
  refine (L _).mono ?_
  rintro e w' ⟨rfl, rfl⟩
  clear L
  go_wp2_with fail
  have n1 := below_new w1 (.cells #[.string ⟨#[120]⟩, .int .i64 (x - 536870912), .string ⟨#[121]⟩, .int .i64 (y - 536870912), .string ⟨#[98, 97, 115, 101]⟩, .int .i64 n] 25)
  have S := syms3 w1 25 [120] [121] [98, 97, 115, 101] (x - 536870912) (y - 536870912) n
  have S' : SymsAt (w1.alloc (.cells #[.string ⟨#[120]⟩, .int .i64 (x - 536870912), .string ⟨#[121]⟩, .int .i64 (y - 536870912), .string ⟨#[98, 97, 115, 101]⟩, .int .i64 n] 25)) (.slice (some ⟨w1.heap.size, 0, none⟩) 3 3) [([120], x - 536870912), ([121], y - 536870912), ([98, 97, 115, 101], n)] := S
  clear S
  generalize hA : w1.alloc (.cells #[.string ⟨#[120]⟩, .int .i64 (x - 536870912), .string ⟨#[121]⟩, .int .i64 (y - 536870912), .string ⟨#[98, 97, 115, 101]⟩, .int .i64 n] 25) = wA at *
  have hAs : wA.heap.size = w1.heap.size + 1 := by rw [← hA]; simp
  clear hA
  have n2 := below_new wA (.cells #[.string ⟨#[120, 32, 43, 32, 121, 32, 45, 32, 121]⟩, .string ⟨#[121, 32, 43, 32, 120, 32, 45, 32, 121]⟩, .string ⟨#[120, 32, 60, 60, 32, 98, 97, 115, 101, 32, 62, 62, 32, 98, 97, 115, 101]⟩, .string ⟨#[120, 32, 38, 32, 120]⟩, .string ⟨#[120, 32, 124, 32, 120]⟩, .string ⟨#[45, 40, 45, 120, 41]⟩, .string ⟨#[40, 120, 32, 38, 32, 121, 41, 32, 43, 32, 40, 120, 32, 124, 32, 121, 41, 32, 45, 32, 121]⟩, .string ⟨#[120, 32, 42, 32, 49]⟩, .string ⟨#[120, 32, 45, 32, 48]⟩] 9)
  have c1 : ∀ i : Nat, i < 9 → (wA.alloc (.cells #[.string ⟨#[120, 32, 43, 32, 121, 32, 45, 32, 121]⟩, .string ⟨#[121, 32, 43, 32, 120, 32, 45, 32, 121]⟩, .string ⟨#[120, 32, 60, 60, 32, 98, 97, 115, 101, 32, 62, 62, 32, 98, 97, 115, 101]⟩, .string ⟨#[120, 32, 38, 32, 120]⟩, .string ⟨#[120, 32, 124, 32, 120]⟩, .string ⟨#[45, 40, 45, 120, 41]⟩, .string ⟨#[40, 120, 32, 38, 32, 121, 41, 32, 43, 32, 40, 120, 32, 124, 32, 121, 41, 32, 45, 32, 121]⟩, .string ⟨#[120, 32, 42, 32, 49]⟩, .string ⟨#[120, 32, 45, 32, 48]⟩] 9)).cell? ⟨w1.heap.size + 1, i, none⟩ = some (.string (bs (lawTexts.getD i []))) := by
    intro i hi
    rw [← hAs]
    exact new_cell _ i _ (cells_of (fun s => Value.string (bs s)) lawTexts [] i hi)
  have S2 := S'.later n2
  have hb2 := hb1.trans (n1.mono hb1.size)
  replace hb2 := hb2.trans (n2.mono hb2.size)
  have T2 := (T1.later n1).later n2
  generalize wA.alloc (.cells #[.string ⟨#[120, 32, 43, 32, 121, 32, 45, 32, 121]⟩, .string ⟨#[121, 32, 43, 32, 120, 32, 45, 32, 121]⟩, .string ⟨#[120, 32, 60, 60, 32, 98, 97, 115, 101, 32, 62, 62, 32, 98, 97, 115, 101]⟩, .string ⟨#[120, 32, 38, 32, 120]⟩, .string ⟨#[120, 32, 124, 32, 120]⟩, .string ⟨#[45, 40, 45, 120, 41]⟩, .string ⟨#[40, 120, 32, 38, 32, 121, 41, 32, 43, 32, 40, 120, 32, 124, 32, 121, 41, 32, 45, 32, 121]⟩, .string ⟨#[120, 32, 42, 32, 49]⟩, .string ⟨#[120, 32, 45, 32, 48]⟩] 9) = wB at *
  clear n1 n2 hAs T1 hb1 S'
  go_loopw [12] (fun i wr => ∃ j : Nat, j ≤ 9 ∧ i = .int .i64 j ∧ Below wB.heap.size wB wr) (fun i _ => 9 - (intOf i).toNat)
  case atStart => exact ⟨0, by omega, rfl, Below.refl _ _⟩
  case round =>
    obtain ⟨j, hj, rfl, hb⟩ := hrel
    by_cases hjn : j < 9
    · obtain ⟨x', hp, hs, hl, hv⟩ := laws_said (x - 536870912) (y - 536870912) n (by omega) (by omega) (by omega) (by omega) (by omega) (by omega) j hjn
      have k1 := kept_cell hb (c1 j hjn)
      have T3 := T2.later hb
      have S3 := S2.later hb
      have hb3 := hb2.trans (hb.mono hb2.size)
      generalize lawTexts.getD j [] = tx at *
      have P := parse1 (t := bs tx) tx wr T3 rfl (by omega) hp
      go_wp2_with fail
      refine P.mono ?_
      rintro e w2 ⟨hb4, k, m, t, q, l, c, rfl, hx⟩
      have n2 := below_new w2 (.cells #[.int .i64 k, .int .i64 m, .string t, .slice q l c] 30)
      have X2 := Blk.new w2 30 (.int .i64 k) (.int .i64 m) (.string t) (.slice q l c)
      have hx2 := hx.below n2
      have S4 := (S3.later hb4).later n2
      have V := eval_any 0 _ _ x' hs _ _ _ hx2 S4
      rw [hv] at V
      unfold pair at V
      obtain ⟨x0, x1, x2, x3, _, _, _, _⟩ := id X2
      have hbr := hb.trans (hb4.mono hb.size)
      replace hbr := hbr.trans (n2.mono hbr.size)
      clear P hx hx2 S3 S4 hb4 n2 X2 T3 k1
      go_wp2_with fail
      refine V.mono ?_
      rintro e w4 ⟨rfl, hb5⟩
      have hbz := hbr.trans (hb5.mono hbr.size)
      clear V hbr hb5 x0 x1 x2 x3
      go_wp2_with fail
      go_roundw
      case rel => exact ⟨j + 1, by omega, by go_num, hbz⟩
      case measure => simp [intOf]; omega
    · have hjn : j = 9 := by omega
      subst hjn
      have hb3 := hb2.trans (hb.mono hb2.size)
      go_wp2_with fail
      go_ret
      exact ⟨rfl, hb3⟩

/-! ### The row's step -/
set_option maxRecDepth 100000 in
theorem lifted (os : Os) (started : os.Started) (H : Type) (enc : TypeId × Value → H) :
    ReturnsInHanded {} Tryz.checked os 3 .any (fun w args => (Rows.exprLawsSpec.pre enc Tryz.prog Tryz.f3 [] false w args ∧ laidMetH Tryz.prog laid8 w) ∧ sizedMet enc Tryz.prog Tryz.f3 (OpenSpec.ofChange Rows.exprLawsSpec) false w args)
      (Rows.exprLawsSpec.post enc Tryz.prog Tryz.f3 false true false false) := by
  refine returnsInHanded_of_change_and (C := Tryz.checked) (X := fun w _ => laidMetH Tryz.prog laid8 w) (fun _ _ _ hh h => h.of_heap hh) own started (by kernel_rfl) Tryz.func3
    (ChangeSpec.witness_shaped (enc := enc) (C := Tryz.checked) (os := os) (X := fun w _ => laidMetH Tryz.prog laid8 w) false (World.laidAll Tryz.prog os laid8) #[.int .i64 0, .int .i64 0, .int .i64 0] 8 (World.laidAll_os _ _ _) (World.shaped_of_ZipB (by kernel_rfl) (by kernel_rfl)) (by kernel_rfl) (by kernel_rfl) (by kernel_rfl) (by rw [MakeChecks.laidMetH_plain _ _ _ (by kernel_rfl)]; exact laidMet_laidAll _ (by kernel_rfl) (by kernel_rfl))) ?_
  intro W base args ds gs before hval0 hW _ _ hL _
  have hval : ∀ (j : Nat) t v, Tryz.f3.params[j]? = some t → args[j]? = some v → Value.okWide Tryz.prog W .any base t v := hval0
  have hW' := hW
  obtain ⟨p, q, hA0, hV, rfl, hfz, hnd⟩ := hW
  have hA : DataW.TrodAll enc Tryz.prog W 0 (fun _ => true) true Tryz.f3.params.toList args.toList ds p := hA0
  rw [Tryz.params3] at hA hval
  obtain ⟨v0, vs0, d0, ds0, p0, q0, hargs, rfl, rfl, h0, r0⟩ := trodAll_cons hA
  obtain ⟨v1, vs1, d1, ds1, p1, q1, rfl, rfl, rfl, h1, r1⟩ := trodAll_cons r0
  obtain ⟨v2, vs2, d2, ds2, p2, q2, rfl, rfl, rfl, h2, r2⟩ := trodAll_cons r1
  obtain ⟨rfl, rfl, rfl⟩ := trodAll_nil r2
  obtain rfl : args = #[v0, v1, v2] := by cases args; simp_all
  obtain ⟨rfl, rfl⟩ := trodVars_none hV
  obtain ⟨a0, rfl, rfl, rfl, w0⟩ := open_int Tryz.underlying3 (hval 0 3 v0 rfl rfl) h0
  obtain ⟨a1, rfl, rfl, rfl, w1⟩ := open_int Tryz.underlying3 (hval 1 3 v1 rfl rfl) h1
  obtain ⟨a2, rfl, rfl, rfl, w2⟩ := open_int Tryz.underlying3 (hval 2 3 v2 rfl rfl) h2
  clear hA0 hval0
  simp only [List.append_nil, List.nil_append] at hW'
  refine (walk a0 w0 a1 w1 a2 w2 W (tab_of_laid hL)).mono fun e W' ⟨he, hg⟩ => ?_
  subst he
  exact ⟨_, rfl, _, _, _, [], _, [], hW', (trodAll_cons_mk (shut_bool Tryz.underlying4 _) trodAll_mk0), (trodAll_cons_mk (shut_int Tryz.underlying3 w0) (trodAll_cons_mk (shut_int Tryz.underlying3 w1) (trodAll_cons_mk (shut_int Tryz.underlying3 w2) trodAll_mk0))), rfl, hg.frame _, fun h => by cases h⟩

theorem row : Rows.ExprLawsSaid :=
  OpenClaim.holds_of_wide 3 Tryz.f3 rfl rfl rfl rfl rfl rfl rfl ⟨rfl, rfl, rfl, rfl, rfl⟩ rfl rfl rfl rfl rfl (by kernel_rfl) Tryz.func3 (by kernel_rfl)
    (of_decide_eq_true (by kernel_rfl)) (by unfold Func.isWrapper; first | (rw [if_pos (by decide +kernel)]; kernel_rfl) | (rw [if_neg (by decide +kernel)]; exact ⟨rfl, rfl⟩))
    (fun os started H enc _ => lifted os started H enc)

/-- The statement. -/
theorem proved : Rows.ExprLawsCardSaid :=
  Claim7.holds_tied_plain_at .later [] [.data, .data, .data, .data, .sentinel, .sentinel, .data, .pinned] true (true, "93293f4717e598465f0b5db06f45db689804f9e14aa8408f0afbb4dadb8a57d0") true
    row (fun _ h => by cases h) (by kernel_rfl) (fun _ h => by cases h) exprLaws_row_tie rfl ⟨rfl, rfl⟩ (by kernel_rfl) rfl
    (fun f fn hf hfn => by
      obtain rfl : f = 3 := Option.some.inj ((show Tryz.prog.funcNamed "letterpress/letterpresslaw3.ExprLaws" = some 3 by kernel_rfl).symm.trans hf) |>.symm
      obtain rfl : fn = Tryz.f3 := (Option.some.inj (Tryz.func3.symm.trans hfn)).symm
      exact ⟨by kernel_rfl, fun j t ht => by
        rw [Tryz.params3] at ht
        have hm : t ∈ [3, 3, 3] := by simpa using Array.mem_of_getElem? ht
        have hall : ([3, 3, 3].all fun u => !Tryz.prog.wantsStandIn u) = true := by kernel_rfl
        exact (show Tryz.prog.wantsStandIn t = false by simpa using List.all_eq_true.1 hall t hm)⟩)
    (by kernel_rfl)
#print axioms proved
end Go.Proofs.YtgfppmkemkcfoabGreatDoor.exprLaws
