/- ExprFirst: the first error from left to right is told, of two symbols of one name the first one counts: by the contracts of Parse and Eval. -/
import Derived.Test.YtgfppmkemkcfoabGreatDoorRows
import Derived.WalkKit
import Derived.ProofKit
import Derived.OpenShut
import Derived.LaidMore
import Derived.Stop.Joined
import Derived.SevenTiedAt
import Derived.Laws.BytesArg
import Derived.BigQuiet
import Derived.Lay
import Derived.MakeChecks
import Derived.Test.YtgfppmkemkcfoabGreatDoorTie
import Derived.Test.YtgfppmkemkcfoabGreatDoorCards
import Derived.Test.YtgfppmkemkcfoabGreatDoorLaid
import Derived.Test.YtgfppmkemkcfoabGreatDoorKnown
import Derived.Test.YtgfppmkemkcfoabGreatDoorWithin
namespace Go.Proofs.YtgfppmkemkcfoabGreatDoor.exprFirst
open Go.ChangeShapes Go.WideShapes Go.ChangeAt Go.RowKit
open Go.ChangeMaps (open_string shut_string)
set_option linter.unusedVariables false
set_option linter.unusedSimpArgs false

theorem own : ownKnob Tryz.prog.godebug = none := by kernel_rfl

def texts : List Bs := [[110, 111, 112, 101, 32, 43, 32, 40, 49, 32, 60, 60, 32, 52, 49, 41], [40, 49, 32, 60, 60, 32, 52, 49, 41, 32, 43, 32, 110, 111, 112, 101], [49, 32, 42, 32, 110, 111, 112, 101, 32, 42, 32, 40, 49, 32, 60, 60, 32, 53, 48, 41], [45, 40, 110, 111, 112, 101, 41], [120, 32, 45, 32, 110, 111, 112, 101], [40, 49, 32, 60, 60, 32, 52, 49, 41, 32, 42, 32, 48]]
def smallB : Ex → Bool
  | .num n => decide (n ≤ 4294967295)
  | .neg x => smallB x
  | .two k x y => decide (5 ≤ k) && decide (k ≤ 11) && smallB x && smallB y
  | _ => true
theorem small_of : ∀ x, smallB x = true → Small x
  | .zero, _ => trivial
  | .num n, h => by simpa [smallB, Small] using h
  | .name _, _ => trivial
  | .here, _ => trivial
  | .neg x, h => small_of x h
  | .two k x y, h => by
    simp only [smallB, Bool.and_eq_true, decide_eq_true_eq] at h
    exact ⟨h.1.1.1, h.1.1.2, small_of x h.1.2, small_of y h.2⟩
def errs : List Int := [4, 6, 4, 4, 4, 6]
def right (i : Nat) (s : Bs) (er : Int) : Bool := match parseP s with
  | none => false
  | some x => smallB x && decide (s.length ≤ 100) && (List.range 99).all fun v => evalP 0 [([120], (v : Int)), ([120], 100)] x == (0, er)
theorem all_right : ((List.range 6).all fun i => right i (texts.getD i []) (errs.getD i 0)) = true := by kernel_rfl
theorem said (i : Nat) (hi : i < 6) : ∃ x, parseP (texts.getD i []) = some x ∧ Small x ∧ (texts.getD i []).length ≤ 100 ∧ ∀ v : Int, 0 ≤ v → v < 99 → evalP 0 [([120], v), ([120], 100)] x = (0, errs.getD i 0) := by
  have h := List.all_eq_true.1 all_right i (List.mem_range.2 hi)
  unfold right at h
  split at h
  · cases h
  · rename_i x hx
    simp only [Bool.and_eq_true, decide_eq_true_eq] at h
    refine ⟨x, hx, small_of x h.1.1, h.1.2, fun v h0 h9 => ?_⟩
    have := List.all_eq_true.1 h.2 v.toNat (List.mem_range.2 (by omega))
    rw [show ((v.toNat : Nat) : Int) = v by omega] at this
    exact eq_of_beq this
theorem parse_x : parseP [120] = some (.name [120]) := by kernel_rfl
theorem eval_x (v : Int) (h0 : 0 ≤ v) (h9 : v < 99) : evalP 0 [([120], v), ([120], 100)] (.name [120]) = (v, 0) := by
  have h : ∀ i : Fin 99, evalP 0 [([120], (i.val : Int)), ([120], 100)] (.name [120]) = ((i.val : Int), 0) := by decide +kernel
  have := h ⟨v.toNat, by omega⟩
  rwa [show ((⟨v.toNat, by omega⟩ : Fin 99).val : Int) = v by simp only; omega] at this

/-! ### The walk -/
set_option maxHeartbeats 30000000 in
set_option maxRecDepth 20000 in
theorem walk (a0 : Int) (w0 : (Lit.int .i64 a0).wf = true) (a1 : Int) (w1 : (Lit.int .i64 a1).wf = true) (w : World) (T : Tab w) :
    Calls Tryz.prog 7 #[.int .i64 a0, .int .i64 a1] w fun e w' => e = .returned (.bool true) ∧ Below w.heap.size w w' := by
  have K := known_any w T
  go_enter Tryz.func7, Tryz.ntmps7
  go_wp2_with fail
  refine K.mono ?_
  rintro e w1 ⟨rfl, hb1⟩
  have T1 := T.later hb1
  clear K
  have n1 := below_new w1 (.cells #[.string ⟨#[110, 111, 112, 101, 32, 43, 32, 40, 49, 32, 60, 60, 32, 52, 49, 41]⟩, .string ⟨#[40, 49, 32, 60, 60, 32, 52, 49, 41, 32, 43, 32, 110, 111, 112, 101]⟩, .string ⟨#[49, 32, 42, 32, 110, 111, 112, 101, 32, 42, 32, 40, 49, 32, 60, 60, 32, 53, 48, 41]⟩, .string ⟨#[45, 40, 110, 111, 112, 101, 41]⟩, .string ⟨#[120, 32, 45, 32, 110, 111, 112, 101]⟩, .string ⟨#[40, 49, 32, 60, 60, 32, 52, 49, 41, 32, 42, 32, 48]⟩] 9)
  have c1 : ∀ i : Nat, i < 6 → (w1.alloc (.cells #[.string ⟨#[110, 111, 112, 101, 32, 43, 32, 40, 49, 32, 60, 60, 32, 52, 49, 41]⟩, .string ⟨#[40, 49, 32, 60, 60, 32, 52, 49, 41, 32, 43, 32, 110, 111, 112, 101]⟩, .string ⟨#[49, 32, 42, 32, 110, 111, 112, 101, 32, 42, 32, 40, 49, 32, 60, 60, 32, 53, 48, 41]⟩, .string ⟨#[45, 40, 110, 111, 112, 101, 41]⟩, .string ⟨#[120, 32, 45, 32, 110, 111, 112, 101]⟩, .string ⟨#[40, 49, 32, 60, 60, 32, 52, 49, 41, 32, 42, 32, 48]⟩] 9)).cell? ⟨w1.heap.size, i, none⟩ = some (.string (bs (texts.getD i []))) := by
    intro i hi
    refine new_cell _ i _ ?_
    match i, hi with
    | 0, _ => rfl
    | 1, _ => rfl
    | 2, _ => rfl
    | 3, _ => rfl
    | 4, _ => rfl
    | 5, _ => rfl
  go_wp2_with fail
  generalize hA : w1.alloc (.cells #[.string ⟨#[110, 111, 112, 101, 32, 43, 32, 40, 49, 32, 60, 60, 32, 52, 49, 41]⟩, .string ⟨#[40, 49, 32, 60, 60, 32, 52, 49, 41, 32, 43, 32, 110, 111, 112, 101]⟩, .string ⟨#[49, 32, 42, 32, 110, 111, 112, 101, 32, 42, 32, 40, 49, 32, 60, 60, 32, 53, 48, 41]⟩, .string ⟨#[45, 40, 110, 111, 112, 101, 41]⟩, .string ⟨#[120, 32, 45, 32, 110, 111, 112, 101]⟩, .string ⟨#[40, 49, 32, 60, 60, 32, 52, 49, 41, 32, 42, 32, 48]⟩] 9) = wA at *
  have hAs : wA.heap.size = w1.heap.size + 1 := by rw [← hA]; simp
  clear hA
  have n2 := below_new wA (.cells #[.int .i64 4, .int .i64 6, .int .i64 4, .int .i64 4, .int .i64 4, .int .i64 6] 33)
  have c2 : ∀ i : Nat, i < 6 → (wA.alloc (.cells #[.int .i64 4, .int .i64 6, .int .i64 4, .int .i64 4, .int .i64 4, .int .i64 6] 33)).cell? ⟨w1.heap.size + 1, i, none⟩ = some (.int .i64 (errs.getD i 0)) := by
    intro i hi
    rw [← hAs]
    refine new_cell _ i _ ?_
    match i, hi with
    | 0, _ => rfl
    | 1, _ => rfl
    | 2, _ => rfl
    | 3, _ => rfl
    | 4, _ => rfl
    | 5, _ => rfl
  replace c1 := fun i hi => kept_cell n2 (c1 i hi)
  have hbA := hb1.trans (n1.mono hb1.size)
  replace hbA := hbA.trans (n2.mono hbA.size)
  have TA := (T1.later n1).later n2
  generalize wA.alloc (.cells #[.int .i64 4, .int .i64 6, .int .i64 4, .int .i64 4, .int .i64 4, .int .i64 6] 33) = wB at *
  have I := within_any a0 6 (by omega) (by omega) wB
  refine I.mono ?_
  rintro e w' ⟨rfl, rfl⟩
  have r1 := Int.emod_nonneg a0 (show (6 : Int) ≠ 0 by omega)
  have r2 := Int.emod_lt_of_pos a0 (show (0 : Int) < 6 by omega)
  generalize a0 % 6 = r at *
  obtain ⟨i, rfl⟩ : ∃ i : Nat, r = i := ⟨r.toNat, by omega⟩
  have hi : i < 6 := by omega
  obtain ⟨x, hp, hs, hl, hv⟩ := said i hi
  have k1 := c1 i hi
  have k2 := c2 i hi
  have P := parse1 (t := bs (texts.getD i [])) (texts.getD i []) wB TA rfl (by omega) hp
  generalize texts.getD i [] = tx at *
  generalize errs.getD i 0 = er at *
  clear I c1 c2 n1 n2 hAs T1 hb1
  go_wp2_with fail
  have z1 := Int.emod_nonneg a1 (show (99 : Int) ≠ 0 by omega)
  have z2 := Int.emod_lt_of_pos a1 (show (0 : Int) < 99 by omega)
  have J := within_any a1 99 (by omega) (by omega)
  replace hv := hv _ z1 z2
  have hv2 := eval_x _ z1 z2
  generalize a1 % 99 = z at *
  refine P.mono ?_
  rintro e w2 ⟨hb2, k, n, t, q, l, m, rfl, hx⟩
  have k3 := kept_cell hb2 k2
  have hbw2 := hbA.trans (hb2.mono hbA.size)
  have T2 := TA.later hb2
  clear P hb2 TA hbA k1 k2
  have n2 := below_new w2 (.cells #[.int .i64 k, .int .i64 n, .string t, .slice q l m] 30)
  have X2 := Blk.new w2 30 (.int .i64 k) (.int .i64 n) (.string t) (.slice q l m)
  have hx2 := hx.below n2
  obtain ⟨x0, x1, x2, x3, _, _, _, _⟩ := id X2
  have V : Calls Tryz.prog 12 #[.agg #[.int .i64 k, .int .i64 n, .string t, .slice q l m], .int .i64 0, .slice (some ⟨w2.heap.size + 1, 0, none⟩) 2 2] ((w2.alloc (.cells #[.int .i64 k, .int .i64 n, .string t, .slice q l m] 30)).alloc (.cells #[.string ⟨#[120]⟩, .int .i64 z, .string ⟨#[120]⟩, .int .i64 100] 25)).drew
      fun e w4 => e = .returned (.tuple #[.int .i64 0, .int .i64 er]) ∧ Below w.heap.size w w4 ∧ Tab w4 ∧ w4.cell? ⟨w1.heap.size + 1, i, none⟩ = some (.int .i64 er) := by
    have n3 := below_new (w2.alloc (.cells #[.int .i64 k, .int .i64 n, .string t, .slice q l m] 30)) (.cells #[.string ⟨#[120]⟩, .int .i64 z, .string ⟨#[120]⟩, .int .i64 100] 25)
    have S := syms2 (w2.alloc (.cells #[.int .i64 k, .int .i64 n, .string t, .slice q l m] 30)) 25 [120] [120] z 100
    rw [show (w2.alloc (.cells #[.int .i64 k, .int .i64 n, .string t, .slice q l m] 30)).heap.size = w2.heap.size + 1 by simp] at S
    have hx3 := hx2.below n3
    have hb3 := (hbw2.trans (n2.mono hbw2.size))
    replace hb3 := hb3.trans (n3.mono hb3.size)
    have T3 := (T2.later n2).later n3
    have k4 := kept_cell n3 (kept_cell n2 k3)
    have hd : Below ((w2.alloc (.cells #[.int .i64 k, .int .i64 n, .string t, .slice q l m] 30)).alloc (.cells #[.string ⟨#[120]⟩, .int .i64 z, .string ⟨#[120]⟩, .int .i64 100] 25)).heap.size ((w2.alloc (.cells #[.int .i64 k, .int .i64 n, .string t, .slice q l m] 30)).alloc (.cells #[.string ⟨#[120]⟩, .int .i64 z, .string ⟨#[120]⟩, .int .i64 100] 25)) ((w2.alloc (.cells #[.int .i64 k, .int .i64 n, .string t, .slice q l m] 30)).alloc (.cells #[.string ⟨#[120]⟩, .int .i64 z, .string ⟨#[120]⟩, .int .i64 100] 25)).drew := (Below.refl _ _).drew
    refine (eval_any 0 [([120], z), ([120], 100)] _ x hs _ _ _ (hx3.below hd) (S.later hd)).mono ?_
    rintro e w4 ⟨rfl, hb4⟩
    rw [hv]
    replace hb4 := hd.trans (hb4.mono hd.size)
    exact ⟨rfl, hb3.trans (hb4.mono hb3.size), T3.later hb4, kept_cell hb4 k4⟩
  clear hx hx2 n2 T2 hbw2 X2 k3
  go_wp2_with fail
  go_region_with (first | (go_at_call 10; refine (J _).mono ?_; rintro e w' ⟨rfl, rfl⟩) | (go_at_call 12; refine V.mono ?_; rintro e w4 ⟨rfl, hb4, T4, k4⟩))
  all_goals clear V hv hs hl hp
  all_goals clear x0 x1 x2 x3
  all_goals have P := parse1 (t := ⟨#[120]⟩) [120] w4 T4 rfl (by simp) parse_x
  all_goals go_wp2_with fail
  all_goals (
    refine P.mono ?_
    rintro e w5 ⟨hb5, k, n, t, q, l, m, rfl, hx⟩
    have k5 := kept_cell hb5 k4
    have hbw5 := hb4.trans (hb5.mono hb4.size)
    clear P hb5 T4 hb4 k4
    have n2 := below_new w5 (.cells #[.int .i64 k, .int .i64 n, .string t, .slice q l m] 30)
    have X2 := Blk.new w5 30 (.int .i64 k) (.int .i64 n) (.string t) (.slice q l m)
    have hx2 := hx.below n2
    obtain ⟨x0, x1, x2, x3, _, _, _, _⟩ := id X2
    have V : Calls Tryz.prog 12 #[.agg #[.int .i64 k, .int .i64 n, .string t, .slice q l m], .int .i64 0, .slice (some ⟨w5.heap.size + 1, 0, none⟩) 2 2] ((w5.alloc (.cells #[.int .i64 k, .int .i64 n, .string t, .slice q l m] 30)).alloc (.cells #[.string ⟨#[120]⟩, .int .i64 z, .string ⟨#[120]⟩, .int .i64 100] 25)).drew
        fun e w6 => e = .returned (.tuple #[.int .i64 z, .int .i64 0]) ∧ Below w.heap.size w w6 ∧ w6.cell? ⟨w1.heap.size + 1, i, none⟩ = some (.int .i64 er) := by
      have n3 := below_new (w5.alloc (.cells #[.int .i64 k, .int .i64 n, .string t, .slice q l m] 30)) (.cells #[.string ⟨#[120]⟩, .int .i64 z, .string ⟨#[120]⟩, .int .i64 100] 25)
      have S := syms2 (w5.alloc (.cells #[.int .i64 k, .int .i64 n, .string t, .slice q l m] 30)) 25 [120] [120] z 100
      rw [show (w5.alloc (.cells #[.int .i64 k, .int .i64 n, .string t, .slice q l m] 30)).heap.size = w5.heap.size + 1 by simp] at S
      have hx3 := hx2.below n3
      have hb3 := (hbw5.trans (n2.mono hbw5.size))
      replace hb3 := hb3.trans (n3.mono hb3.size)
      have k6 := kept_cell n3 (kept_cell n2 k5)
      have hd : Below ((w5.alloc (.cells #[.int .i64 k, .int .i64 n, .string t, .slice q l m] 30)).alloc (.cells #[.string ⟨#[120]⟩, .int .i64 z, .string ⟨#[120]⟩, .int .i64 100] 25)).heap.size ((w5.alloc (.cells #[.int .i64 k, .int .i64 n, .string t, .slice q l m] 30)).alloc (.cells #[.string ⟨#[120]⟩, .int .i64 z, .string ⟨#[120]⟩, .int .i64 100] 25)) ((w5.alloc (.cells #[.int .i64 k, .int .i64 n, .string t, .slice q l m] 30)).alloc (.cells #[.string ⟨#[120]⟩, .int .i64 z, .string ⟨#[120]⟩, .int .i64 100] 25)).drew := (Below.refl _ _).drew
      refine (eval_any 0 [([120], z), ([120], 100)] _ (.name [120]) trivial _ _ _ (hx3.below hd) (S.later hd)).mono ?_
      rintro e w6 ⟨rfl, hb6⟩
      rw [hv2]
      replace hb6 := hd.trans (hb6.mono hd.size)
      exact ⟨rfl, hb3.trans (hb6.mono hb3.size), kept_cell hb6 k6⟩
    clear hx hx2 n2 hbw5 X2 k5 hv2
    go_wp2_with fail)
  all_goals go_region_with (first | (go_at_call 10; refine (J _).mono ?_; rintro e w' ⟨rfl, rfl⟩) | (go_at_call 12; refine V.mono ?_; rintro e w6 ⟨rfl, hb6, k6⟩))
  all_goals clear V x0 x1 x2 x3
  all_goals go_wp2_with (go_at_call 10; refine (J _).mono ?_; rintro e w' ⟨rfl, rfl⟩)
  all_goals go_ret
  all_goals exact ⟨rfl, hb6⟩

/-! ### The row's step -/
set_option maxRecDepth 100000 in
theorem lifted (os : Os) (started : os.Started) (H : Type) (enc : TypeId × Value → H) :
    ReturnsInHanded {} Tryz.checked os 7 .any (fun w args => (Rows.exprFirstSpec.pre enc Tryz.prog Tryz.f7 [] false w args ∧ laidMetH Tryz.prog laid8 w) ∧ sizedMet enc Tryz.prog Tryz.f7 (OpenSpec.ofChange Rows.exprFirstSpec) false w args)
      (Rows.exprFirstSpec.post enc Tryz.prog Tryz.f7 false true false false) := by
  refine returnsInHanded_of_change_and (C := Tryz.checked) (X := fun w _ => laidMetH Tryz.prog laid8 w) (fun _ _ _ hh h => h.of_heap hh) own started (by kernel_rfl) Tryz.func7
    (ChangeSpec.witness_shaped (enc := enc) (C := Tryz.checked) (os := os) (X := fun w _ => laidMetH Tryz.prog laid8 w) false (World.laidAll Tryz.prog os laid8) #[.int .i64 0, .int .i64 0] 8 (World.laidAll_os _ _ _) (World.shaped_of_ZipB (by kernel_rfl) (by kernel_rfl)) (by kernel_rfl) (by kernel_rfl) (by kernel_rfl) (by rw [MakeChecks.laidMetH_plain _ _ _ (by kernel_rfl)]; exact laidMet_laidAll _ (by kernel_rfl) (by kernel_rfl))) ?_
  intro W base args ds gs before hval0 hW _ _ hL _
  have hval : ∀ (j : Nat) t v, Tryz.f7.params[j]? = some t → args[j]? = some v → Value.okWide Tryz.prog W .any base t v := hval0
  have hW' := hW
  obtain ⟨p, q, hA0, hV, rfl, hfz, hnd⟩ := hW
  have hA : DataW.TrodAll enc Tryz.prog W 0 (fun _ => true) true Tryz.f7.params.toList args.toList ds p := hA0
  rw [Tryz.params7] at hA hval
  obtain ⟨v0, vs0, d0, ds0, p0, q0, hargs, rfl, rfl, h0, r0⟩ := trodAll_cons hA
  obtain ⟨v1, vs1, d1, ds1, p1, q1, rfl, rfl, rfl, h1, r1⟩ := trodAll_cons r0
  obtain ⟨rfl, rfl, rfl⟩ := trodAll_nil r1
  obtain rfl : args = #[v0, v1] := by cases args; simp_all
  obtain ⟨rfl, rfl⟩ := trodVars_none hV
  obtain ⟨a0, rfl, rfl, rfl, w0⟩ := open_int Tryz.underlying3 (hval 0 3 v0 rfl rfl) h0
  obtain ⟨a1, rfl, rfl, rfl, w1⟩ := open_int Tryz.underlying3 (hval 1 3 v1 rfl rfl) h1
  clear hA0 hval0
  simp only [List.append_nil, List.nil_append] at hW'
  refine (walk a0 w0 a1 w1 W (tab_of_laid hL)).mono fun e W' ⟨he, hg⟩ => ?_
  subst he
  exact ⟨_, rfl, _, _, _, [], _, [], hW', (trodAll_cons_mk (shut_bool Tryz.underlying4 _) trodAll_mk0), (trodAll_cons_mk (shut_int Tryz.underlying3 w0) (trodAll_cons_mk (shut_int Tryz.underlying3 w1) trodAll_mk0)), rfl, hg.frame _, fun h => by cases h⟩

theorem row : Rows.ExprFirstSaid :=
  OpenClaim.holds_of_wide 7 Tryz.f7 rfl rfl rfl rfl rfl rfl rfl ⟨rfl, rfl, rfl, rfl, rfl⟩ rfl rfl rfl rfl rfl (by kernel_rfl) Tryz.func7 (by kernel_rfl)
    (of_decide_eq_true (by kernel_rfl)) (by unfold Func.isWrapper; first | (rw [if_pos (by decide +kernel)]; kernel_rfl) | (rw [if_neg (by decide +kernel)]; exact ⟨rfl, rfl⟩))
    (fun os started H enc _ => lifted os started H enc)

/-- The statement. -/
theorem proved : Rows.ExprFirstCardSaid :=
  Claim7.holds_tied_plain_at .later [] [.data, .data, .data, .data, .sentinel, .sentinel, .data, .pinned] true (true, "93293f4717e598465f0b5db06f45db689804f9e14aa8408f0afbb4dadb8a57d0") true
    row (fun _ h => by cases h) (by kernel_rfl) (fun _ h => by cases h) exprFirst_row_tie rfl ⟨rfl, rfl⟩ (by kernel_rfl) rfl
    (fun f fn hf hfn => by
      obtain rfl : f = 7 := Option.some.inj ((show Tryz.prog.funcNamed "letterpress/letterpresslaw3.ExprFirst" = some 7 by kernel_rfl).symm.trans hf) |>.symm
      obtain rfl : fn = Tryz.f7 := (Option.some.inj (Tryz.func7.symm.trans hfn)).symm
      exact ⟨by kernel_rfl, fun j t ht => by
        rw [Tryz.params7] at ht
        have hm : t ∈ [3, 3] := by simpa using Array.mem_of_getElem? ht
        have hall : ([3, 3].all fun u => !Tryz.prog.wantsStandIn u) = true := by kernel_rfl
        exact (show Tryz.prog.wantsStandIn t = false by simpa using List.all_eq_true.1 hall t hm)⟩)
    (by kernel_rfl)
#print axioms proved
end Go.Proofs.YtgfppmkemkcfoabGreatDoor.exprFirst
