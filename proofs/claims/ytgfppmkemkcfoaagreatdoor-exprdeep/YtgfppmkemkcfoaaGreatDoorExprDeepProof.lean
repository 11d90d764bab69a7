/- ExprDeep: twelve brackets, or signs ahead, may be in one another, one more may not: by the contract of Parse, a loop over texts, and an induction over the reader in plain data. -/
import Derived.Test.YtgfppmkemkcfoaaGreatDoorRows
import Derived.WalkKit
import Derived.ProofKit
import Derived.OpenShut
import Derived.LaidMore
import Derived.Stop.Joined
import Derived.SevenTiedAt
import Derived.Laws.BytesArg
import Derived.BigQuiet
import Derived.Lay
import Derived.MakeChecks
import Derived.Test.YtgfppmkemkcfoaaGreatDoorTie
import Derived.Test.YtgfppmkemkcfoaaGreatDoorCards
import Derived.Test.YtgfppmkemkcfoaaGreatDoorLaid
import Derived.Test.YtgfppmkemkcfoaaGreatDoorKnown
import Derived.Test.YtgfppmkemkcfoaaGreatDoorWithin
import Derived.Test.YtgfppmkemkcfoaaGreatDoorArgs
import Derived.Test.YtgfppmkemkcfoaaGreatDoorDeep
namespace Go.Proofs.YtgfppmkemkcfoaaGreatDoor.exprDeep
open Go.ChangeShapes Go.WideShapes Go.ChangeAt Go.RowKit
open Go.ChangeMaps (open_string shut_string)
set_option linter.unusedVariables false
set_option linter.unusedSimpArgs false

theorem own : ownKnob Tryz.prog.godebug = none := by kernel_rfl

open Dp
theorem bs_app (a b : Bs) : bs a ++ bs b = bs (a ++ b) := by
  apply ByteArray.ext; simp [bs]
theorem bs_size (a : Bs) : (bs a).size = a.length := by simp [bs, ByteArray.size]
theorem preT_len : ∀ l, (preT l).length ≤ 2 * l.length
  | [] => by simp [preT]
  | true :: l => by have := preT_len l; simp [preT]; omega
  | false :: l => by have := preT_len l; simp [preT]; omega
def cl (l : List Bool) : Bs := List.replicate (l.countP (! ·)) 41
theorem cl_len (l : List Bool) : (cl l).length ≤ l.length := by simp [cl]; exact List.countP_le_length
theorem preT_true (l : List Bool) : bs (preT l) ++ ⟨#[45, 32]⟩ = bs (preT (l ++ [true])) := by rw [preT_append]; exact bs_app _ [45, 32]
theorem preT_false (l : List Bool) : bs (preT l) ++ ⟨#[40]⟩ = bs (preT (l ++ [false])) := by rw [preT_append]; exact bs_app _ [40]
theorem cl_true (l : List Bool) : cl (l ++ [true]) = cl l := by simp [cl]
theorem cl_false (l : List Bool) : bs (cl l) ++ ⟨#[41]⟩ = bs (cl (l ++ [false])) := by
  rw [show cl (l ++ [false]) = cl l ++ [41] by simp [cl, List.replicate_succ']]; exact bs_app _ [41]
theorem whole (l : List Bool) : bs (preT l) ++ ⟨#[55]⟩ ++ bs (cl l) = bs (preT l ++ 55 :: postT l) := by
  rw [postT_eq, show (⟨#[55]⟩ : ByteArray) = bs [55] from rfl, bs_app, bs_app]; simp [cl]

/-! ### The walk -/
set_option maxHeartbeats 8000000 in
set_option maxRecDepth 20000 in
theorem walk (a0 : Int) (w0 : (Lit.int .i64 a0).wf = true) (v1 : Value) (a1 : List Int) (w1 : InRange a1) (l1 : a1.length ≤ maxLen) (w : World) (T : Tab w) (s1 : SliceIs w v1 a1) :
    Calls Tryz.prog 7 #[.int .i64 a0, v1] w fun e w' => e = .returned (.bool true) ∧ Below w.heap.size w w' := by
  have K := known_any w T
  obtain ⟨p, cap, rfl, hc⟩ := id s1
  go_enter Tryz.func7, Tryz.ntmps7
  go_wp2_with fail
  refine K.mono ?_
  rintro e wk ⟨rfl, hb1⟩
  have T1 := T.later hb1
  clear K
  have I := within_any a0 20 (by omega) (by omega) wk
  have r1 := Int.emod_nonneg a0 (show (20 : Int) ≠ 0 by omega)
  have r2 := Int.emod_lt_of_pos a0 (show (0 : Int) < 20 by omega)
  generalize a0 % 20 = r at *
  go_wp2_with fail
  refine I.mono ?_
  rintro e w' ⟨rfl, rfl⟩
  clear I
  go_wp2_with fail
  go_loopw [6, 7, 8] (fun s t i wr => ∃ l : List Bool, (l.length : Int) ≤ r ∧ i = .int .i64 l.length ∧ s = .string (bs (preT l)) ∧ t = .string (bs (cl l)) ∧ wr = wk) (fun s t i _ => 20 - (intOf i).toNat)
  case atStart => exact ⟨[], by simpa using r1, rfl, rfl, rfl, rfl⟩
  case round =>
    obtain ⟨l, hl, rfl, rfl, rfl, rfl⟩ := hrel
    have q1 := preT_len l
    have q2 := cl_len l
    by_cases hj : (l.length : Int) < r
    · have A1 := run_string_add_sum (P := Tryz.prog) wr (bs (preT l)) ⟨#[45, 32]⟩ (by rw [bs_size]; simp [ByteArray.size]; omega)
      have A2 := run_string_add_sum (P := Tryz.prog) wr (bs (preT l)) ⟨#[40]⟩ (by rw [bs_size]; simp [ByteArray.size]; omega)
      have A3 := run_string_add_sum (P := Tryz.prog) wr (bs (cl l)) ⟨#[41]⟩ (by rw [bs_size]; simp [ByteArray.size]; omega)
      rw [preT_true] at A1
      rw [preT_false] at A2
      rw [cl_false] at A3
      by_cases hn : l.length < a1.length
      · obtain ⟨z, hz⟩ : ∃ z, a1[l.length]? = some z := ⟨_, List.getElem?_eq_getElem hn⟩
        obtain ⟨b, o, rfl, hcell⟩ := hc (by intro h; rw [h] at hn; simp at hn)
        have cz := kept_cell hb1 (hcell _ z hz)
        have J := within_any z 2 (by omega) (by omega) wr
        have hnI : (l.length : Int) < (a1.length : Int) := by omega
        have hm := Int.emod_two_eq z
        rcases hm with hm | hm
        · rw [hm] at J
          clear hcell hc q1 q2 A2 A3
          go_wp2_with (go_at_call 17; refine J.mono ?_; rintro e w' ⟨rfl, rfl⟩)
          go_roundw
          case rel => exact ⟨l ++ [true], by simp; omega, by simp, rfl, by rw [cl_true], trivial⟩
          case measure => simp [intOf]; omega
        · rw [hm] at J
          clear hcell hc q1 q2 A1
          go_wp2_with (go_at_call 17; refine J.mono ?_; rintro e w' ⟨rfl, rfl⟩)
          go_roundw
          case rel => exact ⟨l ++ [false], by simp; omega, by simp, rfl, rfl, trivial⟩
          case measure => simp [intOf]; omega
      · have hnI : ¬ (l.length : Int) < (a1.length : Int) := by omega
        clear hc q1 q2 A1
        go_wp2_with fail
        go_roundw
        case rel => exact ⟨l ++ [false], by simp; omega, by simp, rfl, rfl, trivial⟩
        case measure => simp [intOf]; omega
    · have hr : r = l.length := by omega
      subst hr
      have B1 := run_string_add_sum (P := Tryz.prog) wr (bs (preT l)) ⟨#[55]⟩ (by rw [bs_size]; simp [ByteArray.size]; omega)
      have B2 := run_string_add_sum (P := Tryz.prog) wr (bs (preT l) ++ ⟨#[55]⟩) (bs (cl l)) (by rw [show (⟨#[55]⟩ : ByteArray) = bs [55] from rfl, bs_app, bs_size, bs_size]; simp; omega)
      rw [whole] at B2
      have P := parse_any (preT l ++ 55 :: postT l) (by rw [postT_eq]; have : (List.replicate (l.countP (! ·)) (41 : UInt8)).length ≤ l.length := cl_len l; simp at this ⊢; omega) wr T1
      obtain ⟨d1, d2⟩ := parse_deep l
      clear q1 q2 hc
      by_cases h12 : l.length ≤ 12
      · rw [d1 h12] at P
        clear d1 d2
        go_wp2_with fail
        refine P.mono ?_
        rintro e w2 ⟨hb2, v, rfl, hx⟩
        obtain ⟨k, m, t, q, n, c, rfl⟩ := hx.form
        have hb3 := hb1.trans (hb2.mono hb1.size)
        have hb4 := hb3.trans ((below_new w2 (.cells #[.int .i64 k, .int .i64 m, .string t, .slice q n c] 27)).mono hb3.size)
        have hI : (l.length : Int) ≤ 12 := by omega
        clear P hx B1 B2
        go_wp2_with fail
        go_ret
        exact ⟨by simp [hI], by first | exact hb4 | exact hb3⟩
      · rw [d2 (by omega)] at P
        clear d1 d2
        have P' : Calls Tryz.prog 12 #[.string (bs (preT l ++ 55 :: postT l))] wr fun e w' => Below wr.heap.size wr w' ∧ e = .returned (.tuple #[.agg #[.int .i64 0, .int .i64 0, .string ⟨#[]⟩, .slice none 0 0], .bool false]) := P
        clear P
        go_wp2_with fail
        refine P'.mono ?_
        rintro e w2 ⟨hb2, rfl⟩
        have hb3 := hb1.trans (hb2.mono hb1.size)
        have hb4 := hb3.trans ((below_new w2 (.cells #[.int .i64 0, .int .i64 0, .string ⟨#[]⟩, .slice none 0 0] 27)).mono hb3.size)
        have hI : ¬ (l.length : Int) ≤ 12 := by omega
        clear P' B1 B2
        go_wp2_with fail
        go_ret
        exact ⟨by simp [hI], by first | exact hb4 | exact hb3⟩

/-! ### The row's step -/
set_option maxRecDepth 100000 in
theorem lifted (os : Os) (started : os.Started) (H : Type) (enc : TypeId × Value → H) :
    ReturnsInHanded {} Tryz.checked os 7 .any (fun w args => (Rows.exprDeepSpec.pre enc Tryz.prog Tryz.f7 [] false w args ∧ laidMetH Tryz.prog laid8 w) ∧ sizedMet enc Tryz.prog Tryz.f7 (OpenSpec.ofChange Rows.exprDeepSpec) false w args)
      (Rows.exprDeepSpec.post enc Tryz.prog Tryz.f7 false true false false) := by
  refine returnsInHanded_of_change_and (C := Tryz.checked) (X := fun w _ => laidMetH Tryz.prog laid8 w) (fun _ _ _ hh h => h.of_heap hh) own started (by kernel_rfl) Tryz.func7
    (ChangeSpec.witness_shaped (enc := enc) (C := Tryz.checked) (os := os) (X := fun w _ => laidMetH Tryz.prog laid8 w) false (World.laidAll Tryz.prog os laid8) #[.int .i64 0, .slice none 0 0] 8 (World.laidAll_os _ _ _) (World.shaped_of_ZipB (by kernel_rfl) (by kernel_rfl)) (by kernel_rfl) (by kernel_rfl) (by kernel_rfl) (by rw [MakeChecks.laidMetH_plain _ _ _ (by kernel_rfl)]; exact laidMet_laidAll _ (by kernel_rfl) (by kernel_rfl))) ?_
  intro W base args ds gs before hval0 hW _ _ hL _
  have hval : ∀ (j : Nat) t v, Tryz.f7.params[j]? = some t → args[j]? = some v → Value.okWide Tryz.prog W .any base t v := hval0
  have hW' := hW
  obtain ⟨p, q, hA0, hV, rfl, hfz, hnd⟩ := hW
  have hA : DataW.TrodAll enc Tryz.prog W 0 (fun _ => true) true Tryz.f7.params.toList args.toList ds p := hA0
  rw [Tryz.params7] at hA hval
  obtain ⟨v0, vs0, d0, ds0, p0, q0, hargs, rfl, rfl, h0, r0⟩ := trodAll_cons hA
  obtain ⟨v1, vs1, d1, ds1, p1, q1, rfl, rfl, rfl, h1, r1⟩ := trodAll_cons r0
  obtain ⟨rfl, rfl, rfl⟩ := trodAll_nil r1
  obtain rfl : args = #[v0, v1] := by cases args; simp_all
  obtain ⟨rfl, rfl⟩ := trodVars_none hV
  obtain ⟨a0, rfl, rfl, rfl, w0⟩ := open_int Tryz.underlying3 (hval 0 3 v0 rfl rfl) h0
  have k1 := h1
  obtain ⟨a1, s1, w1, l1⟩ := open_ints' (hval 1 35 v1 rfl rfl) h1
  clear hA0 hval0
  simp only [List.append_nil, List.nil_append] at hW'
  have hlt : ∀ x ∈ p1, x.block < W.heap.size := fun x hx => by simpa using hW'.lt x (by simpa [or_assoc] using hx)
  refine (walk a0 w0 v1 a1 w1 l1 W (tab_of_laid hL) s1).mono fun e W' ⟨he, hg⟩ => ?_
  subst he
  exact ⟨_, rfl, _, _, _, [], _, [], hW', (trodAll_cons_mk (shut_bool Tryz.underlying4 _) trodAll_mk0), (trodAll_cons_mk (shut_int Tryz.underlying3 w0) (trodAll_cons_mk (Below.trod laidOut (by kernel_rfl) (of_decide_eq_true (by kernel_rfl)) k1 hg (fun x hx => hlt x (by simp [hx]))) trodAll_mk0)), rfl, hg.frame _, fun h => by cases h⟩

theorem row : Rows.ExprDeepSaid :=
  OpenClaim.holds_of_wide 7 Tryz.f7 rfl rfl rfl rfl rfl rfl rfl ⟨rfl, rfl, rfl, rfl, rfl⟩ rfl rfl rfl rfl rfl (by kernel_rfl) Tryz.func7 (by kernel_rfl)
    (of_decide_eq_true (by kernel_rfl)) (by unfold Func.isWrapper; first | (rw [if_pos (by decide +kernel)]; kernel_rfl) | (rw [if_neg (by decide +kernel)]; exact ⟨rfl, rfl⟩))
    (fun os started H enc _ => lifted os started H enc)

/-- The statement. -/
theorem proved : Rows.ExprDeepCardSaid :=
  Claim7.holds_tied_plain_at .later [] [.data, .data, .data, .data, .sentinel, .sentinel, .data, .pinned] true (true, "acf91c5da21a79b6f721d9c5afdcc26e3276ce75a2eadbf0fd4669e07277e7e4") true
    row (fun _ h => by cases h) (by kernel_rfl) (fun _ h => by cases h) exprDeep_row_tie rfl ⟨rfl, rfl⟩ (by kernel_rfl) rfl
    (fun f fn hf hfn => by
      obtain rfl : f = 7 := Option.some.inj ((show Tryz.prog.funcNamed "letterpress/letterpresslaw3.ExprDeep" = some 7 by kernel_rfl).symm.trans hf) |>.symm
      obtain rfl : fn = Tryz.f7 := (Option.some.inj (Tryz.func7.symm.trans hfn)).symm
      exact ⟨by kernel_rfl, fun j t ht => by
        rw [Tryz.params7] at ht
        have hm : t ∈ [3, 35] := by simpa using Array.mem_of_getElem? ht
        have hall : ([3, 35].all fun u => !Tryz.prog.wantsStandIn u) = true := by kernel_rfl
        exact (show Tryz.prog.wantsStandIn t = false by simpa using List.all_eq_true.1 hall t hm)⟩)
    (by kernel_rfl)
#print axioms proved
end Go.Proofs.YtgfppmkemkcfoaaGreatDoor.exprDeep
