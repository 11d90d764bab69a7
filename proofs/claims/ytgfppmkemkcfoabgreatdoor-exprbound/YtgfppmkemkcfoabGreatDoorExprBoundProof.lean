/- ExprBound: at the bound a sum is still a number, one beyond it is Range: by the contracts of Parse and Eval. -/
import Derived.Test.YtgfppmkemkcfoabGreatDoorRows
import Derived.WalkKit
import Derived.ProofKit
import Derived.OpenShut
import Derived.LaidMore
import Derived.Stop.Joined
import Derived.SevenTiedAt
import Derived.Laws.BytesArg
import Derived.BigQuiet
import Derived.Lay
import Derived.MakeChecks
import Derived.Test.YtgfppmkemkcfoabGreatDoorTie
import Derived.Test.YtgfppmkemkcfoabGreatDoorCards
import Derived.Test.YtgfppmkemkcfoabGreatDoorLaid
import Derived.Test.YtgfppmkemkcfoabGreatDoorKnown
import Derived.Test.YtgfppmkemkcfoabGreatDoorWithin
namespace Go.Proofs.YtgfppmkemkcfoabGreatDoor.exprBound
open Go.ChangeShapes Go.WideShapes Go.ChangeAt Go.RowKit
open Go.ChangeMaps (open_string shut_string)
set_option linter.unusedVariables false
set_option linter.unusedSimpArgs false

theorem own : ownKnob Tryz.prog.godebug = none := by kernel_rfl

def upX : Ex := .two 5 (.name [120]) (.name [121])
def downX : Ex := .two 6 (.neg (.name [120])) (.name [121])
theorem parse_up : parseP [120, 32, 43, 32, 121] = some upX := by kernel_rfl
theorem parse_down : parseP [45, 120, 32, 45, 32, 121] = some downX := by kernel_rfl
theorem eval_up (k : Int) (h1 : -4 ≤ k) (h2 : k ≤ 4) : evalP 0 [([120], 1099511627776), ([121], k)] upX = if 0 < k then (0, 6) else (1099511627776 + k, 0) := by
  have h : ∀ i : Fin 9, evalP 0 [([120], 1099511627776), ([121], (i.val : Int) - 4)] upX = if 0 < (i.val : Int) - 4 then (0, 6) else (1099511627776 + ((i.val : Int) - 4), 0) := by decide +kernel
  have := h ⟨(k + 4).toNat, by omega⟩
  rwa [show ((⟨(k + 4).toNat, by omega⟩ : Fin 9).val : Int) - 4 = k by simp only; omega] at this
theorem eval_down (k : Int) (h1 : -4 ≤ k) (h2 : k ≤ 4) : evalP 0 [([120], 1099511627776), ([121], k)] downX = if 0 < k then (0, 6) else (-1099511627776 - k, 0) := by
  have h : ∀ i : Fin 9, evalP 0 [([120], 1099511627776), ([121], (i.val : Int) - 4)] downX = if 0 < (i.val : Int) - 4 then (0, 6) else (-1099511627776 - ((i.val : Int) - 4), 0) := by decide +kernel
  have := h ⟨(k + 4).toNat, by omega⟩
  rwa [show ((⟨(k + 4).toNat, by omega⟩ : Fin 9).val : Int) - 4 = k by simp only; omega] at this

/-! ### The walk -/
set_option maxHeartbeats 8000000 in
set_option maxRecDepth 20000 in
theorem walk (a0 : Int) (w0 : (Lit.int .i64 a0).wf = true) (a1 : Bool) (w1 : a1 = a1) (w : World) (T : Tab w) :
    Calls Tryz.prog 6 #[.int .i64 a0, .bool a1] w fun e w' => e = .returned (.bool true) ∧ Below w.heap.size w w' := by
  have K := known_any w T
  go_enter Tryz.func6, Tryz.ntmps6
  go_wp2_with fail
  refine K.mono ?_
  rintro e w1 ⟨rfl, hb1⟩
  have T1 := T.later hb1
  clear K
  have I := within_any a0 9 (by omega) (by omega) w1
  have r1 := Int.emod_nonneg a0 (show (9 : Int) ≠ 0 by omega)
  have r2 := Int.emod_lt_of_pos a0 (show (0 : Int) < 9 by omega)
  generalize a0 % 9 = r at *
  cases a1 with
  | true =>
    by_cases c : 4 < r
    · skip
      have P := parse1 (t := ⟨#[45, 120, 32, 45, 32, 121]⟩) [45, 120, 32, 45, 32, 121] w1 T1 rfl (by simp) parse_down
      go_wp2_with (go_at_call 10; refine I.mono ?_; rintro e w' ⟨rfl, rfl⟩)
      refine P.mono ?_
      rintro e w2 ⟨hb2, k, n, t, q, l, m, rfl, hx⟩
      have hbw2 := hb1.trans (hb2.mono hb1.size)
      have T2 := T1.later hb2
      clear P I hb2 T1 hb1
      have n2 := below_new w2 (.cells #[.int .i64 k, .int .i64 n, .string t, .slice q l m] 30)
      have X2 := Blk.new w2 30 (.int .i64 k) (.int .i64 n) (.string t) (.slice q l m)
      have hx2 := hx.below n2
      obtain ⟨x0, x1, x2, x3, _, _, _, _⟩ := id X2
      go_wp2_with fail
      have n3 := below_new (w2.alloc (.cells #[.int .i64 k, .int .i64 n, .string t, .slice q l m] 30)) (.cells #[.string ⟨#[120]⟩, .int .i64 1099511627776, .string ⟨#[121]⟩, .int .i64 (r - 4)] 25)
      have S := syms2 (w2.alloc (.cells #[.int .i64 k, .int .i64 n, .string t, .slice q l m] 30)) 25 [120] [121] 1099511627776 (r - 4)
      rw [show (w2.alloc (.cells #[.int .i64 k, .int .i64 n, .string t, .slice q l m] 30)).heap.size = w2.heap.size + 1 by simp] at S
      have hx3 := hx2.below n3
      have V := eval_any 0 [([120], 1099511627776), ([121], r - 4)] _ downX (by simp [downX, Small]) _ _ _ hx3 S
      rw [eval_down (r - 4) (by omega) (by omega), if_pos (by omega)] at V
      have hb3 := (hbw2.trans (n2.mono hbw2.size))
      replace hb3 := hb3.trans (n3.mono hb3.size)
      unfold pair at V
      clear S n2 n3 hx hx2 hx3 X2 x0 x1 x2 x3 T2 hbw2
      have V' : Calls Tryz.prog 12 #[.agg #[.int .i64 k, .int .i64 n, .string t, .slice q l m], .int .i64 0, .slice (some ⟨w2.heap.size + 1, 0, none⟩) 2 2] ((w2.alloc (.cells #[.int .i64 k, .int .i64 n, .string t, .slice q l m] 30)).alloc (.cells #[.string ⟨#[120]⟩, .int .i64 1099511627776, .string ⟨#[121]⟩, .int .i64 (r - 4)] 25)) _ := V
      clear V
      generalize ((w2.alloc (.cells #[.int .i64 k, .int .i64 n, .string t, .slice q l m] 30)).alloc (.cells #[.string ⟨#[120]⟩, .int .i64 1099511627776, .string ⟨#[121]⟩, .int .i64 (r - 4)] 25)) = w3 at *
      refine V'.mono ?_
      rintro e w4 ⟨rfl, hb4⟩
      have hbw4 := hb3.trans (hb4.mono hb3.size)
      clear V' hb4 hb3
      go_wp2_with fail
      go_ret
      exact ⟨by simp, hbw4⟩
    · skip
      have P := parse1 (t := ⟨#[45, 120, 32, 45, 32, 121]⟩) [45, 120, 32, 45, 32, 121] w1 T1 rfl (by simp) parse_down
      go_wp2_with (go_at_call 10; refine I.mono ?_; rintro e w' ⟨rfl, rfl⟩)
      refine P.mono ?_
      rintro e w2 ⟨hb2, k, n, t, q, l, m, rfl, hx⟩
      have hbw2 := hb1.trans (hb2.mono hb1.size)
      have T2 := T1.later hb2
      clear P I hb2 T1 hb1
      have n2 := below_new w2 (.cells #[.int .i64 k, .int .i64 n, .string t, .slice q l m] 30)
      have X2 := Blk.new w2 30 (.int .i64 k) (.int .i64 n) (.string t) (.slice q l m)
      have hx2 := hx.below n2
      obtain ⟨x0, x1, x2, x3, _, _, _, _⟩ := id X2
      go_wp2_with fail
      have n3 := below_new (w2.alloc (.cells #[.int .i64 k, .int .i64 n, .string t, .slice q l m] 30)) (.cells #[.string ⟨#[120]⟩, .int .i64 1099511627776, .string ⟨#[121]⟩, .int .i64 (r - 4)] 25)
      have S := syms2 (w2.alloc (.cells #[.int .i64 k, .int .i64 n, .string t, .slice q l m] 30)) 25 [120] [121] 1099511627776 (r - 4)
      rw [show (w2.alloc (.cells #[.int .i64 k, .int .i64 n, .string t, .slice q l m] 30)).heap.size = w2.heap.size + 1 by simp] at S
      have hx3 := hx2.below n3
      have V := eval_any 0 [([120], 1099511627776), ([121], r - 4)] _ downX (by simp [downX, Small]) _ _ _ hx3 S
      rw [eval_down (r - 4) (by omega) (by omega), if_neg (by omega)] at V
      have hb3 := (hbw2.trans (n2.mono hbw2.size))
      replace hb3 := hb3.trans (n3.mono hb3.size)
      unfold pair at V
      clear S n2 n3 hx hx2 hx3 X2 x0 x1 x2 x3 T2 hbw2
      have V' : Calls Tryz.prog 12 #[.agg #[.int .i64 k, .int .i64 n, .string t, .slice q l m], .int .i64 0, .slice (some ⟨w2.heap.size + 1, 0, none⟩) 2 2] ((w2.alloc (.cells #[.int .i64 k, .int .i64 n, .string t, .slice q l m] 30)).alloc (.cells #[.string ⟨#[120]⟩, .int .i64 1099511627776, .string ⟨#[121]⟩, .int .i64 (r - 4)] 25)) _ := V
      clear V
      generalize ((w2.alloc (.cells #[.int .i64 k, .int .i64 n, .string t, .slice q l m] 30)).alloc (.cells #[.string ⟨#[120]⟩, .int .i64 1099511627776, .string ⟨#[121]⟩, .int .i64 (r - 4)] 25)) = w3 at *
      refine V'.mono ?_
      rintro e w4 ⟨rfl, hb4⟩
      have hbw4 := hb3.trans (hb4.mono hb3.size)
      clear V' hb4 hb3
      go_wp2_with fail
      go_ret
      exact ⟨by simp, hbw4⟩
  | false =>
    by_cases c : 4 < r
    · skip
      have P := parse1 (t := ⟨#[120, 32, 43, 32, 121]⟩) [120, 32, 43, 32, 121] w1 T1 rfl (by simp) parse_up
      go_wp2_with (go_at_call 10; refine I.mono ?_; rintro e w' ⟨rfl, rfl⟩)
      refine P.mono ?_
      rintro e w2 ⟨hb2, k, n, t, q, l, m, rfl, hx⟩
      have hbw2 := hb1.trans (hb2.mono hb1.size)
      have T2 := T1.later hb2
      clear P I hb2 T1 hb1
      have n2 := below_new w2 (.cells #[.int .i64 k, .int .i64 n, .string t, .slice q l m] 30)
      have X2 := Blk.new w2 30 (.int .i64 k) (.int .i64 n) (.string t) (.slice q l m)
      have hx2 := hx.below n2
      obtain ⟨x0, x1, x2, x3, _, _, _, _⟩ := id X2
      go_wp2_with fail
      have n3 := below_new (w2.alloc (.cells #[.int .i64 k, .int .i64 n, .string t, .slice q l m] 30)) (.cells #[.string ⟨#[120]⟩, .int .i64 1099511627776, .string ⟨#[121]⟩, .int .i64 (r - 4)] 25)
      have S := syms2 (w2.alloc (.cells #[.int .i64 k, .int .i64 n, .string t, .slice q l m] 30)) 25 [120] [121] 1099511627776 (r - 4)
      rw [show (w2.alloc (.cells #[.int .i64 k, .int .i64 n, .string t, .slice q l m] 30)).heap.size = w2.heap.size + 1 by simp] at S
      have hx3 := hx2.below n3
      have V := eval_any 0 [([120], 1099511627776), ([121], r - 4)] _ upX (by simp [upX, Small]) _ _ _ hx3 S
      rw [eval_up (r - 4) (by omega) (by omega), if_pos (by omega)] at V
      have hb3 := (hbw2.trans (n2.mono hbw2.size))
      replace hb3 := hb3.trans (n3.mono hb3.size)
      unfold pair at V
      clear S n2 n3 hx hx2 hx3 X2 x0 x1 x2 x3 T2 hbw2
      have V' : Calls Tryz.prog 12 #[.agg #[.int .i64 k, .int .i64 n, .string t, .slice q l m], .int .i64 0, .slice (some ⟨w2.heap.size + 1, 0, none⟩) 2 2] ((w2.alloc (.cells #[.int .i64 k, .int .i64 n, .string t, .slice q l m] 30)).alloc (.cells #[.string ⟨#[120]⟩, .int .i64 1099511627776, .string ⟨#[121]⟩, .int .i64 (r - 4)] 25)) _ := V
      clear V
      generalize ((w2.alloc (.cells #[.int .i64 k, .int .i64 n, .string t, .slice q l m] 30)).alloc (.cells #[.string ⟨#[120]⟩, .int .i64 1099511627776, .string ⟨#[121]⟩, .int .i64 (r - 4)] 25)) = w3 at *
      refine V'.mono ?_
      rintro e w4 ⟨rfl, hb4⟩
      have hbw4 := hb3.trans (hb4.mono hb3.size)
      clear V' hb4 hb3
      go_wp2_with fail
      go_ret
      exact ⟨by simp, hbw4⟩
    · skip
      have P := parse1 (t := ⟨#[120, 32, 43, 32, 121]⟩) [120, 32, 43, 32, 121] w1 T1 rfl (by simp) parse_up
      go_wp2_with (go_at_call 10; refine I.mono ?_; rintro e w' ⟨rfl, rfl⟩)
      refine P.mono ?_
      rintro e w2 ⟨hb2, k, n, t, q, l, m, rfl, hx⟩
      have hbw2 := hb1.trans (hb2.mono hb1.size)
      have T2 := T1.later hb2
      clear P I hb2 T1 hb1
      have n2 := below_new w2 (.cells #[.int .i64 k, .int .i64 n, .string t, .slice q l m] 30)
      have X2 := Blk.new w2 30 (.int .i64 k) (.int .i64 n) (.string t) (.slice q l m)
      have hx2 := hx.below n2
      obtain ⟨x0, x1, x2, x3, _, _, _, _⟩ := id X2
      go_wp2_with fail
      have n3 := below_new (w2.alloc (.cells #[.int .i64 k, .int .i64 n, .string t, .slice q l m] 30)) (.cells #[.string ⟨#[120]⟩, .int .i64 1099511627776, .string ⟨#[121]⟩, .int .i64 (r - 4)] 25)
      have S := syms2 (w2.alloc (.cells #[.int .i64 k, .int .i64 n, .string t, .slice q l m] 30)) 25 [120] [121] 1099511627776 (r - 4)
      rw [show (w2.alloc (.cells #[.int .i64 k, .int .i64 n, .string t, .slice q l m] 30)).heap.size = w2.heap.size + 1 by simp] at S
      have hx3 := hx2.below n3
      have V := eval_any 0 [([120], 1099511627776), ([121], r - 4)] _ upX (by simp [upX, Small]) _ _ _ hx3 S
      rw [eval_up (r - 4) (by omega) (by omega), if_neg (by omega)] at V
      have hb3 := (hbw2.trans (n2.mono hbw2.size))
      replace hb3 := hb3.trans (n3.mono hb3.size)
      unfold pair at V
      clear S n2 n3 hx hx2 hx3 X2 x0 x1 x2 x3 T2 hbw2
      have V' : Calls Tryz.prog 12 #[.agg #[.int .i64 k, .int .i64 n, .string t, .slice q l m], .int .i64 0, .slice (some ⟨w2.heap.size + 1, 0, none⟩) 2 2] ((w2.alloc (.cells #[.int .i64 k, .int .i64 n, .string t, .slice q l m] 30)).alloc (.cells #[.string ⟨#[120]⟩, .int .i64 1099511627776, .string ⟨#[121]⟩, .int .i64 (r - 4)] 25)) _ := V
      clear V
      generalize ((w2.alloc (.cells #[.int .i64 k, .int .i64 n, .string t, .slice q l m] 30)).alloc (.cells #[.string ⟨#[120]⟩, .int .i64 1099511627776, .string ⟨#[121]⟩, .int .i64 (r - 4)] 25)) = w3 at *
      refine V'.mono ?_
      rintro e w4 ⟨rfl, hb4⟩
      have hbw4 := hb3.trans (hb4.mono hb3.size)
      clear V' hb4 hb3
      go_wp2_with fail
      go_ret
      exact ⟨by simp, hbw4⟩

/-! ### The row's step -/
set_option maxRecDepth 100000 in
theorem lifted (os : Os) (started : os.Started) (H : Type) (enc : TypeId × Value → H) :
    ReturnsInHanded {} Tryz.checked os 6 .any (fun w args => (Rows.exprBoundSpec.pre enc Tryz.prog Tryz.f6 [] false w args ∧ laidMetH Tryz.prog laid8 w) ∧ sizedMet enc Tryz.prog Tryz.f6 (OpenSpec.ofChange Rows.exprBoundSpec) false w args)
      (Rows.exprBoundSpec.post enc Tryz.prog Tryz.f6 false true false false) := by
  refine returnsInHanded_of_change_and (C := Tryz.checked) (X := fun w _ => laidMetH Tryz.prog laid8 w) (fun _ _ _ hh h => h.of_heap hh) own started (by kernel_rfl) Tryz.func6
    (ChangeSpec.witness_shaped (enc := enc) (C := Tryz.checked) (os := os) (X := fun w _ => laidMetH Tryz.prog laid8 w) false (World.laidAll Tryz.prog os laid8) #[.int .i64 0, .bool false] 8 (World.laidAll_os _ _ _) (World.shaped_of_ZipB (by kernel_rfl) (by kernel_rfl)) (by kernel_rfl) (by kernel_rfl) (by kernel_rfl) (by rw [MakeChecks.laidMetH_plain _ _ _ (by kernel_rfl)]; exact laidMet_laidAll _ (by kernel_rfl) (by kernel_rfl))) ?_
  intro W base args ds gs before hval0 hW _ _ hL _
  have hval : ∀ (j : Nat) t v, Tryz.f6.params[j]? = some t → args[j]? = some v → Value.okWide Tryz.prog W .any base t v := hval0
  have hW' := hW
  obtain ⟨p, q, hA0, hV, rfl, hfz, hnd⟩ := hW
  have hA : DataW.TrodAll enc Tryz.prog W 0 (fun _ => true) true Tryz.f6.params.toList args.toList ds p := hA0
  rw [Tryz.params6] at hA hval
  obtain ⟨v0, vs0, d0, ds0, p0, q0, hargs, rfl, rfl, h0, r0⟩ := trodAll_cons hA
  obtain ⟨v1, vs1, d1, ds1, p1, q1, rfl, rfl, rfl, h1, r1⟩ := trodAll_cons r0
  obtain ⟨rfl, rfl, rfl⟩ := trodAll_nil r1
  obtain rfl : args = #[v0, v1] := by cases args; simp_all
  obtain ⟨rfl, rfl⟩ := trodVars_none hV
  obtain ⟨a0, rfl, rfl, rfl, w0⟩ := open_int Tryz.underlying3 (hval 0 3 v0 rfl rfl) h0
  obtain ⟨a1, rfl, rfl, rfl⟩ := open_bool Tryz.underlying4 (hval 1 4 v1 rfl rfl) h1
  have w1 : a1 = a1 := rfl
  clear hA0 hval0
  simp only [List.append_nil, List.nil_append] at hW'
  refine (walk a0 w0 a1 w1 W (tab_of_laid hL)).mono fun e W' ⟨he, hg⟩ => ?_
  subst he
  exact ⟨_, rfl, _, _, _, [], _, [], hW', (trodAll_cons_mk (shut_bool Tryz.underlying4 _) trodAll_mk0), (trodAll_cons_mk (shut_int Tryz.underlying3 w0) (trodAll_cons_mk (shut_bool Tryz.underlying4 a1) trodAll_mk0)), rfl, hg.frame _, fun h => by cases h⟩

theorem row : Rows.ExprBoundSaid :=
  OpenClaim.holds_of_wide 6 Tryz.f6 rfl rfl rfl rfl rfl rfl rfl ⟨rfl, rfl, rfl, rfl, rfl⟩ rfl rfl rfl rfl rfl (by kernel_rfl) Tryz.func6 (by kernel_rfl)
    (of_decide_eq_true (by kernel_rfl)) (by unfold Func.isWrapper; first | (rw [if_pos (by decide +kernel)]; kernel_rfl) | (rw [if_neg (by decide +kernel)]; exact ⟨rfl, rfl⟩))
    (fun os started H enc _ => lifted os started H enc)

/-- The statement. -/
theorem proved : Rows.ExprBoundCardSaid :=
  Claim7.holds_tied_plain_at .later [] [.data, .data, .data, .data, .sentinel, .sentinel, .data, .pinned] true (true, "93293f4717e598465f0b5db06f45db689804f9e14aa8408f0afbb4dadb8a57d0") true
    row (fun _ h => by cases h) (by kernel_rfl) (fun _ h => by cases h) exprBound_row_tie rfl ⟨rfl, rfl⟩ (by kernel_rfl) rfl
    (fun f fn hf hfn => by
      obtain rfl : f = 6 := Option.some.inj ((show Tryz.prog.funcNamed "letterpress/letterpresslaw3.ExprBound" = some 6 by kernel_rfl).symm.trans hf) |>.symm
      obtain rfl : fn = Tryz.f6 := (Option.some.inj (Tryz.func6.symm.trans hfn)).symm
      exact ⟨by kernel_rfl, fun j t ht => by
        rw [Tryz.params6] at ht
        have hm : t ∈ [3, 4] := by simpa using Array.mem_of_getElem? ht
        have hall : ([3, 4].all fun u => !Tryz.prog.wantsStandIn u) = true := by kernel_rfl
        exact (show Tryz.prog.wantsStandIn t = false by simpa using List.all_eq_true.1 hall t hm)⟩)
    (by kernel_rfl)
#print axioms proved
end Go.Proofs.YtgfppmkemkcfoabGreatDoor.exprBound
