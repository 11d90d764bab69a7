/- Two requests, and two responses, have the same bytes just where they are the same. -/
import Derived.Test.YtkaclahcpmogaaaGreatDoorRows
import Derived.WalkKit
import Derived.ProofKit
import Derived.OpenShut
import Derived.LaidMore
import Derived.Stop.Joined
import Derived.SevenTiedAt
import Derived.Laws.BytesArg
import Derived.BigQuiet
import Derived.Lay
import Derived.MakeChecks
import Derived.Test.YtkaclahcpmogaaaGreatDoorTie
import Derived.Test.YtkaclahcpmogaaaGreatDoorCards
import Derived.Test.YtkaclahcpmogaaaGreatDoorFrAA
import Derived.Test.YtkaclahcpmogaaaGreatDoorFrAC
import Derived.Test.YtkaclahcpmogaaaGreatDoorFrAE
namespace Go.Proofs.YtkaclahcpmogaaaGreatDoor.frameApart
open Go.ChangeShapes Go.WideShapes Go.ChangeAt Go.RowKit
open Go.ChangeMaps (open_string shut_string)
set_option linter.unusedVariables false
set_option linter.unusedSimpArgs false

theorem own : ownKnob Tryz.prog.godebug = none := by kernel_rfl

def AE (qa qb : Rq) (ra rb : Rp) (da db : Value) (ha hb ga gb : Bs) : Nat → Value
  | 0 => rqVal qa
  | 2 => .string (bs ha)
  | 3 => rqVal qb
  | 5 => .string (bs hb)
  | 6 => .bool (decide (qa = qb))
  | 7 => rqVal qa
  | 8 => rqVal qb
  | 9 => .bool (decide (qa = qb))
  | 12 => rpVal ra (.slice none 0 0) da
  | 14 => .string (bs ga)
  | 15 => rpVal rb (.slice none 0 0) db
  | 17 => .string (bs gb)
  | 18 => .bool (decide (ra = rb))
  | 19 => rpVal ra (.slice none 0 0) da
  | 20 => rpVal rb (.slice none 0 0) db
  | 21 => .bool (decide (ra = rb))
  | _ => .bool true
def AR (ha hb ga gb : Bs) : Nat → Option Bs
  | 1 => some ha
  | 4 => some hb
  | 13 => some ga
  | 16 => some gb
  | _ => none
/-! ### The walk -/
set_option maxHeartbeats 6400000 in
set_option maxRecDepth 20000 in
theorem walk (a0 : Int) (w0 : (Lit.int .i64 a0).wf = true) (a1 : Int) (w1 : (Lit.int .i64 a1).wf = true) (v2 : Value) (a2 : List Int) (w2 : InRange a2) (l2 : a2.length ≤ maxLen) (v3 : Value) (a3 : List Int) (w3 : InRange a3) (l3 : a3.length ≤ maxLen) (a4 : ByteArray) (w4 : a4.size ≤ maxLen) (w : World) (T : Tab w) (s2 : SliceIs w v2 a2) (s3 : SliceIs w v3 a3) :
    Calls Tryz.prog 8 #[.int .i64 a0, .int .i64 a1, v2, v3, .string a4] w fun e w' => e = .returned (.bool true) ∧ Below w.heap.size w w' := by
  have K := known_any w T
  obtain ⟨l, rfl⟩ : ∃ l, a4 = bs l := ⟨_, bs_of a4⟩
  have hsz := bs_size l
  by_cases hl : 100 < (l.length : Int)
  · go_enter Tryz.func8, Tryz.ntmps8
    go_wp2_with fail
    refine K.mono ?_
    rintro e wk ⟨rfl, hbk⟩
    go_wp2_with fail
    go_ret
    exact ⟨rfl, hbk⟩
  · have hlI : ¬ 100 < (l.length : Int) := hl
    go_enter Tryz.func8, Tryz.ntmps8
    go_wp2_with fail
    refine K.mono ?_
    rintro e wk ⟨rfl, hbk⟩
    clear K
    have W0 := within11_any a0 1073741824 (by omega) (by omega)
    have W1 := within11_any a1 1073741824 (by omega) (by omega)
    have m0 := Int.emod_nonneg a1 (show (1073741824 : Int) ≠ 0 by decide)
    have m1 := Int.emod_lt_of_pos a1 (show (0 : Int) < 1073741824 by decide)
    have n0 := Int.emod_nonneg a0 (show (1073741824 : Int) ≠ 0 by decide)
    have n1 := Int.emod_lt_of_pos a0 (show (0 : Int) < 1073741824 by decide)
    generalize a0 % 1073741824 = n at *
    generalize a1 % 1073741824 = m at *
    go_wp2_with fail
    refine (W0 wk).mono ?_
    rintro e x0 ⟨rfl, rfl⟩
    go_wp2_with fail
    refine (make_any n n0 n1 wk).mono ?_
    rintro e x1 ⟨qa, hra, rfl, hb1⟩
    have B1 := hbk.trans (hb1.mono hbk.size)
    go_wp2_with fail
    refine (W1 x1).mono ?_
    rintro e x1' ⟨rfl, rfl⟩
    go_wp2_with fail
    refine (make_any m m0 m1 x1).mono ?_
    rintro e x2 ⟨qb, hrb, rfl, hb2⟩
    have B2 := B1.trans (hb2.mono B1.size)
    clear B1 hb1 hb2 hbk W0 W1 n0 n1 m0 m1
    have hvA : rqVal qa = .agg #[.int .i64 qa.kind, .string (bs qa.name), .string (bs qa.text), .int .i64 qa.value] := rfl
    have hvB : rqVal qb = .agg #[.int .i64 qb.kind, .string (bs qb.name), .string (bs qb.text), .int .i64 qb.value] := rfl
    rw [hvA, hvB]
    have LA : ((x2.alloc (.cells #[.int .i64 qa.kind, .string (bs qa.name), .string (bs qa.text), .int .i64 qa.value] 27)).alloc (.cells #[.int .i64 qb.kind, .string (bs qb.name), .string (bs qb.text), .int .i64 qb.value] 27)).heap[x2.heap.size]? = some (.cells #[.int .i64 qa.kind, .string (bs qa.name), .string (bs qa.text), .int .i64 qa.value] 27 (0, 0)) := (Below.heap_alloc _ _ _ (by simp)).trans (heap_alloc_new x2 _)
    have LB := heap_alloc_new (x2.alloc (.cells #[.int .i64 qa.kind, .string (bs qa.name), .string (bs qa.text), .int .i64 qa.value] 27)) (.cells #[.int .i64 qb.kind, .string (bs qb.name), .string (bs qb.text), .int .i64 qb.value] 27)
    have hk1 : (x2.alloc (.cells #[.int .i64 qa.kind, .string (bs qa.name), .string (bs qa.text), .int .i64 qa.value] 27)).heap.size = x2.heap.size + 1 := by simp
    rw [hk1] at LB
    have B4 := B2.trans (((below_new x2 (.cells #[.int .i64 qa.kind, .string (bs qa.name), .string (bs qa.text), .int .i64 qa.value] 27)).alloc (by simp) (.cells #[.int .i64 qb.kind, .string (bs qb.name), .string (bs qb.text), .int .i64 qb.value] 27)).mono B2.size)
    go_wp2_with fail
    clear hk1 B2
    generalize (x2.alloc (.cells #[.int .i64 qa.kind, .string (bs qa.name), .string (bs qa.text), .int .i64 qa.value] 27)).alloc (.cells #[.int .i64 qb.kind, .string (bs qb.name), .string (bs qb.text), .int .i64 qb.value] 27) = x4 at *
    obtain ⟨kB, hkB⟩ : ∃ kB, x2.heap.size + 1 = kB := ⟨_, rfl⟩
    rw [hkB] at LB ⊢
    generalize x2.heap.size = kA at *
    clear hkB
    refine (mkresp_any v2 a2 l none 0 0 x4 (s2.later B4) w2).mono ?_
    rintro e x5 ⟨dv1, rfl, hD1, hb5⟩
    have LA5 := (hb5.block kA (Array.getElem?_eq_some_iff.1 LA).1).trans LA
    have LB5 := (hb5.block kB (Array.getElem?_eq_some_iff.1 LB).1).trans LB
    have B5 := B4.trans (hb5.mono B4.size)
    clear hb5 LA LB B4
    go_wp2_with fail
    refine (mkresp_any v3 a3 l none 0 0 x5 (s3.later B5) w3).mono ?_
    rintro e x6 ⟨dv2, rfl, hD2, hb6⟩
    have LA6 := (hb6.block kA (Array.getElem?_eq_some_iff.1 LA5).1).trans LA5
    have LB6 := (hb6.block kB (Array.getElem?_eq_some_iff.1 LB5).1).trans LB5
    have B6 := B5.trans (hb6.mono B5.size)
    have hD1' := (hD1.later hb6).mono hb6.size
    clear hb6 LA5 LB5 hD1 B5
    have hrA := rpOf_right a2 l [] (by omega) (by simp)
    have hrB := rpOf_right a3 l [] (by omega) (by simp)
    obtain ⟨ra, hra2⟩ : ∃ ra, rpOf a2 l [] = ra := ⟨_, rfl⟩
    obtain ⟨rb, hrb2⟩ : ∃ rb, rpOf a3 l [] = rb := ⟨_, rfl⟩
    have ea : ra.e = (a2.length : Int) % 15 ∧ ra.text = l ∧ ra.image = [] ∧ ra.diags = dgsOf a2 := by rw [← hra2]; exact ⟨rfl, rfl, rfl, rfl⟩
    have eb : rb.e = (a3.length : Int) % 15 ∧ rb.text = l ∧ rb.image = [] ∧ rb.diags = dgsOf a3 := by rw [← hrb2]; exact ⟨rfl, rfl, rfl, rfl⟩
    rw [hra2] at hrA
    rw [hrb2] at hrB
    rw [← ea.2.2.2] at hD1'
    rw [← eb.2.2.2] at hD2
    rw [← ea.1, ← eb.1]
    have et1 : Hid (bs l = bs ra.text) := by rw [ea.2.1]; rfl
    have et2 : Hid (bs l = bs rb.text) := by rw [eb.2.1]; rfl
    have ei1 := ea.2.2.1
    have ei2 := eb.2.2.1
    clear ea eb hra2 hrb2
    obtain ⟨p1, c1, rfl, _⟩ := id hD1'
    obtain ⟨p2, c2, rfl, _⟩ := id hD2
    have LC : ((x6.alloc (.cells #[.int .i64 ra.e, .string (bs l), .slice none 0 0, .slice p1 ra.diags.length c1] 42)).alloc (.cells #[.int .i64 rb.e, .string (bs l), .slice none 0 0, .slice p2 rb.diags.length c2] 42)).heap[x6.heap.size]? = some (.cells #[.int .i64 ra.e, .string (bs l), .slice none 0 0, .slice p1 ra.diags.length c1] 42 (0, 0)) := (Below.heap_alloc _ _ _ (by simp)).trans (heap_alloc_new x6 _)
    have LD := heap_alloc_new (x6.alloc (.cells #[.int .i64 ra.e, .string (bs l), .slice none 0 0, .slice p1 ra.diags.length c1] 42)) (.cells #[.int .i64 rb.e, .string (bs l), .slice none 0 0, .slice p2 rb.diags.length c2] 42)
    have hk1 : (x6.alloc (.cells #[.int .i64 ra.e, .string (bs l), .slice none 0 0, .slice p1 ra.diags.length c1] 42)).heap.size = x6.heap.size + 1 := by simp
    rw [hk1] at LD
    have hb7 := (below_new x6 (.cells #[.int .i64 ra.e, .string (bs l), .slice none 0 0, .slice p1 ra.diags.length c1] 42)).alloc (by simp) (.cells #[.int .i64 rb.e, .string (bs l), .slice none 0 0, .slice p2 rb.diags.length c2] 42)
    have LA7 := (hb7.block kA (Array.getElem?_eq_some_iff.1 LA6).1).trans LA6
    have LB7 := (hb7.block kB (Array.getElem?_eq_some_iff.1 LB6).1).trans LB6
    have B7 := B6.trans (hb7.mono B6.size)
    have hD1 := (hD1'.later hb7).mono hb7.size
    have hD2' := (hD2.later hb7).mono hb7.size
    go_upto_region 7 with fail
    clear hk1 B6 hD2 hb7 LA6 LB6 hD1'
    generalize (x6.alloc (.cells #[.int .i64 ra.e, .string (bs l), .slice none 0 0, .slice p1 ra.diags.length c1] 42)).alloc (.cells #[.int .i64 rb.e, .string (bs l), .slice none 0 0, .slice p2 rb.diags.length c2] 42) = x7 at *
    obtain ⟨kD, hkD⟩ : ∃ kD, x6.heap.size + 1 = kD := ⟨_, rfl⟩
    rw [hkD] at LD ⊢
    generalize x6.heap.size = kC at *
    clear hkD
    rw [et1.out] at LC
    rw [et2.out] at LD
    have hI1 : ∀ W, BytesAt W.heap.size W (.slice none 0 0) ra.image := fun W => by rw [ei1]; exact bytesAt_none _ _
    have hI2 : ∀ W, BytesAt W.heap.size W (.slice none 0 0) rb.image := fun W => by rw [ei2]; exact bytesAt_none _ _
    have hnA := (rp_sizes hrA).2.2.1
    have hnB := (rp_sizes hrB).2.2.1
    replace hnA : ra.diags.length ≤ 16777216 := by omega
    replace hnB : rb.diags.length ≤ 16777216 := by omega
    have hEQ : decide (headed 2 (reqB qa) = headed 2 (reqB qb)) = decide (qa = qb) := decide_eq_decide.2 (headQ_inj hra hrb)
    have hER : decide (headed 3 (respB ra) = headed 3 (respB rb)) = decide (ra = rb) := decide_eq_decide.2 (headR_inj hrA hrB)
    obtain ⟨ha, hha⟩ : ∃ ha, headed 2 (reqB qa) = ha := ⟨_, rfl⟩
    obtain ⟨hb, hhb⟩ : ∃ hb, headed 2 (reqB qb) = hb := ⟨_, rfl⟩
    obtain ⟨ga, hga⟩ : ∃ ga, headed 3 (respB ra) = ga := ⟨_, rfl⟩
    obtain ⟨gb, hgb⟩ : ∃ gb, headed 3 (respB rb) = gb := ⟨_, rfl⟩
    have QA := fun W T => request_any qa hra W T
    have QB := fun W T => request_any qb hrb W T
    have PA := fun dv W T hI hD => response_any ra (.slice none 0 0) dv hrA W T hI hD
    have PB := fun dv W T hI hD => response_any rb (.slice none 0 0) dv hrB W T hI hD
    rw [hha] at QA hEQ
    rw [hhb] at QB hEQ
    rw [hga] at PA hER
    rw [hgb] at PB hER
    clear hha hhb hga hgb hra hrb hrA hrB
    refine region_inv2 (by kernel_rfl) (fun u => { tmps := #[Value.int IntKind.i64 a0, Value.int IntKind.i64 a1, v2, v3, Value.string (bs l), undef, undef, undef, undef, undef, u 24, Value.pointer (some { block := kA, off := 0 }), Value.pointer (some { block := kB, off := 0 }), Value.pointer (some { block := kC, off := 0 }), Value.pointer (some { block := kD, off := 0 }), Value.bool true, Value.bool false, Value.string (bs l), Value.int IntKind.i64 (l.length : Int), Value.bool (decide (100 < (l.length : Int))), Value.int IntKind.i64 a0, Value.int IntKind.i64 n, Value.agg #[Value.int IntKind.i64 qa.kind, Value.string (bs qa.name), Value.string (bs qa.text), Value.int IntKind.i64 qa.value], Value.int IntKind.i64 a1, Value.int IntKind.i64 m, Value.agg #[Value.int IntKind.i64 qb.kind, Value.string (bs qb.name), Value.string (bs qb.text), Value.int IntKind.i64 qb.value], v2, Value.string (bs l), Value.agg #[Value.int IntKind.i64 ra.e, Value.string (bs l), Value.slice none 0 0, Value.slice p1 ra.diags.length c1], v3, Value.string (bs l), Value.agg #[Value.int IntKind.i64 rb.e, Value.string (bs l), Value.slice none 0 0, Value.slice p2 rb.diags.length c2], u 0, u 1, u 2, u 3, u 4, u 5, u 6, u 7, u 8, u 9, u 10, u 11, u 12, u 13, u 14, u 15, u 16, u 17, u 18, u 19, u 20, u 21, u 22, u 23], defers := [] }) (GI x7 (AE qa qb ra rb (.slice p1 ra.diags.length c1) (.slice p2 rb.diags.length c2) ha hb ga gb) (AR ha hb ga gb)) (by kernel_rfl) (fun i => if i = 24 then .bool false else undef) ⟨fun _ _ h => (by cases h), fun _ _ _ h => (by cases h), ⟨rfl, rfl, rfl, Nat.le_refl _, fun _ _ => rfl⟩⟩ ?_ ?_
    · intro i o L u v ho hL hp hcl hI
      have hi : i < 25 := by
        by_cases hi : i < 25
        · exact hi
        · rw [Array.getElem?_eq_none (by simp; omega)] at ho; cases ho
      match i, hi with
      | 0, _ =>
          cases ho
          exact Orders.step_value rfl rfl (run_ldReq _ _ _ _ kA qa rfl rfl ((hI.blw.block kA (Array.getElem?_eq_some_iff.1 LA7).1).trans LA7)) ⟨_, rfl, hI.put 0 rfl rfl⟩
      | 1, _ =>
          cases ho
          exact step_called rfl rfl (run_enter1 _ _ _ _ (rqVal qa) _ 13 (.inl rfl) rfl (hI.val 0 rfl (hp ⟨0, Ground.data⟩ (by simp) rfl))) (QA v (T.later (B7.trans (hI.blw.mono B7.size)))) (fun _ _ hR => ⟨_, rfl, hI.made 1 _ rfl _ hR.1 hR.2⟩)
      | 2, _ =>
          cases ho
          obtain ⟨Bx, hO⟩ := hI.row 1 _ rfl (hp ⟨1, Ground.data⟩ (by simp) rfl)
          exact Orders.step_value rfl rfl (run_conv _ _ _ _ _ _ _ rfl rfl (hO.bytes (Nat.le_refl _))) ⟨_, rfl, hI.put 2 rfl rfl⟩
      | 3, _ =>
          cases ho
          exact Orders.step_value rfl rfl (run_ldReq _ _ _ _ kB qb rfl rfl ((hI.blw.block kB (Array.getElem?_eq_some_iff.1 LB7).1).trans LB7)) ⟨_, rfl, hI.put 3 rfl rfl⟩
      | 4, _ =>
          cases ho
          exact step_called rfl rfl (run_enter1 _ _ _ _ (rqVal qb) _ 13 (.inl rfl) rfl (hI.val 3 rfl (hp ⟨3, Ground.data⟩ (by simp) rfl))) (QB v (T.later (B7.trans (hI.blw.mono B7.size)))) (fun _ _ hR => ⟨_, rfl, hI.made 4 _ rfl _ hR.1 hR.2⟩)
      | 5, _ =>
          cases ho
          obtain ⟨Bx, hO⟩ := hI.row 4 _ rfl (hp ⟨4, Ground.data⟩ (by simp) rfl)
          exact Orders.step_value rfl rfl (run_conv _ _ _ _ _ _ _ rfl rfl (hO.bytes (Nat.le_refl _))) ⟨_, rfl, hI.put 5 rfl rfl⟩
      | 6, _ =>
          cases ho
          exact Orders.step_value rfl rfl (run_eqS _ _ _ _ _ ha hb (decide (qa = qb)) rfl (hI.val 2 rfl (hp ⟨2, Ground.data⟩ (by simp) rfl)) (hI.val 5 rfl (hp ⟨5, Ground.data⟩ (by simp) rfl)) hEQ) ⟨_, rfl, hI.put 6 rfl rfl⟩
      | 7, _ =>
          cases ho
          exact Orders.step_value rfl rfl (run_ldReq _ _ _ _ kA qa rfl rfl ((hI.blw.block kA (Array.getElem?_eq_some_iff.1 LA7).1).trans LA7)) ⟨_, rfl, hI.put 7 rfl rfl⟩
      | 8, _ =>
          cases ho
          exact Orders.step_value rfl rfl (run_ldReq _ _ _ _ kB qb rfl rfl ((hI.blw.block kB (Array.getElem?_eq_some_iff.1 LB7).1).trans LB7)) ⟨_, rfl, hI.put 8 rfl rfl⟩
      | 9, _ =>
          cases ho
          exact Orders.step_value rfl rfl (run_eqQ _ _ _ _ _ qa qb rfl (hI.val 7 rfl (hp ⟨7, Ground.data⟩ (by simp) rfl)) (hI.val 8 rfl (hp ⟨8, Ground.data⟩ (by simp) rfl))) ⟨_, rfl, hI.put 9 rfl rfl⟩
      | 10, _ =>
          cases ho
          exact Orders.step_value rfl rfl (run_eqB _ _ _ _ _ (decide (qa = qb)) (decide (qa = qb)) rfl (hI.val 6 rfl (hp ⟨6, Ground.data⟩ (by simp) rfl)) (hI.val 9 rfl (hp ⟨9, Ground.data⟩ (by simp) rfl))) ⟨_, rfl, hI.put 10 rfl (congrArg Value.bool (beq_self_eq_true _))⟩
      | 11, _ =>
          cases ho
          exact Orders.step_value rfl rfl (run_move _ _ _ _ _ rfl (hI.val 10 rfl (hp ⟨10, Ground.data⟩ (by simp) rfl))) ⟨_, rfl, hI.put 11 rfl rfl⟩
      | 12, _ =>
          cases ho
          exact step_valueG rfl (wanted_true rfl rfl rfl (congrArg some (hI.val 11 rfl (hp ⟨11, Ground.guard⟩ (by simp) rfl)))) (run_ldResp _ _ _ _ kC ra none p1 0 0 ra.diags.length c1 rfl rfl ((hI.blw.block kC (Array.getElem?_eq_some_iff.1 LC).1).trans LC)) ⟨_, rfl, hI.put 12 rfl rfl⟩
      | 13, _ =>
          cases ho
          exact step_calledG rfl (wanted_true rfl rfl rfl (congrArg some (hI.val 11 rfl (hp ⟨11, Ground.guard⟩ (by simp) rfl)))) (run_enter1 _ _ _ _ (rpVal ra _ _) _ 18 (.inr rfl) rfl (hI.val 12 rfl (hp ⟨12, Ground.data⟩ (by simp) rfl))) (PA _ v (T.later (B7.trans (hI.blw.mono B7.size))) (hI1 v) ((hD1.later hI.blw).mono hI.blw.size)) (fun _ _ hR => ⟨_, rfl, hI.made 13 _ rfl _ hR.1 hR.2⟩)
      | 14, _ =>
          cases ho
          obtain ⟨Bx, hO⟩ := hI.row 13 _ rfl (hp ⟨13, Ground.data⟩ (by simp) rfl)
          exact step_valueG rfl (wanted_true rfl rfl rfl (congrArg some (hI.val 11 rfl (hp ⟨11, Ground.guard⟩ (by simp) rfl)))) (run_conv _ _ _ _ _ _ _ rfl rfl (hO.bytes (Nat.le_refl _))) ⟨_, rfl, hI.put 14 rfl rfl⟩
      | 15, _ =>
          cases ho
          exact step_valueG rfl (wanted_true rfl rfl rfl (congrArg some (hI.val 11 rfl (hp ⟨11, Ground.guard⟩ (by simp) rfl)))) (run_ldResp _ _ _ _ kD rb none p2 0 0 rb.diags.length c2 rfl rfl ((hI.blw.block kD (Array.getElem?_eq_some_iff.1 LD).1).trans LD)) ⟨_, rfl, hI.put 15 rfl rfl⟩
      | 16, _ =>
          cases ho
          exact step_calledG rfl (wanted_true rfl rfl rfl (congrArg some (hI.val 11 rfl (hp ⟨11, Ground.guard⟩ (by simp) rfl)))) (run_enter1 _ _ _ _ (rpVal rb _ _) _ 18 (.inr rfl) rfl (hI.val 15 rfl (hp ⟨15, Ground.data⟩ (by simp) rfl))) (PB _ v (T.later (B7.trans (hI.blw.mono B7.size))) (hI2 v) ((hD2'.later hI.blw).mono hI.blw.size)) (fun _ _ hR => ⟨_, rfl, hI.made 16 _ rfl _ hR.1 hR.2⟩)
      | 17, _ =>
          cases ho
          obtain ⟨Bx, hO⟩ := hI.row 16 _ rfl (hp ⟨16, Ground.data⟩ (by simp) rfl)
          exact step_valueG rfl (wanted_true rfl rfl rfl (congrArg some (hI.val 11 rfl (hp ⟨11, Ground.guard⟩ (by simp) rfl)))) (run_conv _ _ _ _ _ _ _ rfl rfl (hO.bytes (Nat.le_refl _))) ⟨_, rfl, hI.put 17 rfl rfl⟩
      | 18, _ =>
          cases ho
          exact step_valueG rfl (wanted_true rfl rfl rfl (congrArg some (hI.val 11 rfl (hp ⟨11, Ground.guard⟩ (by simp) rfl)))) (run_eqS _ _ _ _ _ ga gb (decide (ra = rb)) rfl (hI.val 14 rfl (hp ⟨14, Ground.data⟩ (by simp) rfl)) (hI.val 17 rfl (hp ⟨17, Ground.data⟩ (by simp) rfl)) hER) ⟨_, rfl, hI.put 18 rfl rfl⟩
      | 19, _ =>
          cases ho
          exact step_valueG rfl (wanted_true rfl rfl rfl (congrArg some (hI.val 11 rfl (hp ⟨11, Ground.guard⟩ (by simp) rfl)))) (run_ldResp _ _ _ _ kC ra none p1 0 0 ra.diags.length c1 rfl rfl ((hI.blw.block kC (Array.getElem?_eq_some_iff.1 LC).1).trans LC)) ⟨_, rfl, hI.put 19 rfl rfl⟩
      | 20, _ =>
          cases ho
          exact step_valueG rfl (wanted_true rfl rfl rfl (congrArg some (hI.val 11 rfl (hp ⟨11, Ground.guard⟩ (by simp) rfl)))) (run_ldResp _ _ _ _ kD rb none p2 0 0 rb.diags.length c2 rfl rfl ((hI.blw.block kD (Array.getElem?_eq_some_iff.1 LD).1).trans LD)) ⟨_, rfl, hI.put 20 rfl rfl⟩
      | 21, _ =>
          cases ho
          exact step_calledG (R := fun y w' => y = .bool (decide (ra = rb)) ∧ Below v.heap.size v w') rfl (wanted_true rfl rfl rfl (congrArg some (hI.val 11 rfl (hp ⟨11, Ground.guard⟩ (by simp) rfl)))) (run_enter9 _ _ _ _ _ _ _ _ rfl (hI.val 19 rfl (hp ⟨19, Ground.data⟩ (by simp) rfl)) (hI.val 20 rfl (hp ⟨20, Ground.data⟩ (by simp) rfl))) ((same_any ra rb _ _ _ _ v (hI1 v) ((hD1.later hI.blw).mono hI.blw.size) (hI2 v) ((hD2'.later hI.blw).mono hI.blw.size) hnA hnB).mono fun e w' h => ⟨_, h.1, rfl, h.2⟩) (fun _ _ hR => ⟨_, rfl, hI.call 21 rfl hR.1 hR.2⟩)
      | 22, _ =>
          cases ho
          exact step_valueG rfl (wanted_true rfl rfl rfl (congrArg some (hI.val 11 rfl (hp ⟨11, Ground.guard⟩ (by simp) rfl)))) (run_eqB _ _ _ _ _ (decide (ra = rb)) (decide (ra = rb)) rfl (hI.val 18 rfl (hp ⟨18, Ground.data⟩ (by simp) rfl)) (hI.val 21 rfl (hp ⟨21, Ground.data⟩ (by simp) rfl))) ⟨_, rfl, hI.put 22 rfl (congrArg Value.bool (beq_self_eq_true _))⟩
      | 23, _ =>
          cases ho
          exact Orders.step_value rfl rfl (run_pickT _ _ _ _ _ _ (.bool true) rfl (hI.val 11 rfl (hp ⟨11, Ground.data⟩ (by simp) rfl)) (hI.val 22 rfl (hp ⟨22, Ground.data⟩ (by simp) rfl))) ⟨_, rfl, hI.put 23 rfl rfl⟩
      | 24, _ =>
          cases ho
          exact Orders.step_value rfl rfl (run_asg _ _ _ _ _ rfl (hI.val 23 rfl (hp ⟨23, Ground.data⟩ (by simp) rfl))) ⟨_, rfl, hI.put 24 rfl rfl⟩
    · intro L u x8 hall hI
      have e24 := hI.val 24 rfl (hall 24 (by simp))
      have B8 := B7.trans (hI.blw.mono B7.size)
      rw [e24]
      clear hI hall e24
      go_wp2_with fail
      go_ret
      exact ⟨rfl, B8⟩

/-! ### The row's step -/
set_option maxRecDepth 100000 in
theorem lifted (os : Os) (started : os.Started) (H : Type) (enc : TypeId × Value → H) :
    ReturnsInHanded {} Tryz.checked os 8 .any (fun w args => (Rows.frameApartSpec.pre enc Tryz.prog Tryz.f8 [] false w args ∧ laidMetH Tryz.prog laid8 w) ∧ sizedMet enc Tryz.prog Tryz.f8 (OpenSpec.ofChange Rows.frameApartSpec) false w args)
      (Rows.frameApartSpec.post enc Tryz.prog Tryz.f8 false true false false) := by
  refine returnsInHanded_of_change_and (C := Tryz.checked) (X := fun w _ => laidMetH Tryz.prog laid8 w) (fun _ _ _ hh h => h.of_heap hh) own started (by kernel_rfl) Tryz.func8
    (ChangeSpec.witness_shaped (enc := enc) (C := Tryz.checked) (os := os) (X := fun w _ => laidMetH Tryz.prog laid8 w) false (World.laidAll Tryz.prog os laid8) #[.int .i64 0, .int .i64 0, .slice none 0 0, .slice none 0 0, .string ByteArray.empty] 8 (World.laidAll_os _ _ _) (World.shaped_of_ZipB (by kernel_rfl) (by kernel_rfl)) (by kernel_rfl) (by kernel_rfl) (by kernel_rfl) (by rw [MakeChecks.laidMetH_plain _ _ _ (by kernel_rfl)]; exact laidMet_laidAll _ (by kernel_rfl) (by kernel_rfl))) ?_
  intro W base args ds gs before hval0 hW _ _ hL _
  have hval : ∀ (j : Nat) t v, Tryz.f8.params[j]? = some t → args[j]? = some v → Value.okWide Tryz.prog W .any base t v := hval0
  have hW' := hW
  obtain ⟨p, q, hA0, hV, rfl, hfz, hnd⟩ := hW
  have hA : DataW.TrodAll enc Tryz.prog W 0 (fun _ => true) true Tryz.f8.params.toList args.toList ds p := hA0
  rw [Tryz.params8] at hA hval
  obtain ⟨v0, vs0, d0, ds0, p0, q0, hargs, rfl, rfl, h0, r0⟩ := trodAll_cons hA
  obtain ⟨v1, vs1, d1, ds1, p1, q1, rfl, rfl, rfl, h1, r1⟩ := trodAll_cons r0
  obtain ⟨v2, vs2, d2, ds2, p2, q2, rfl, rfl, rfl, h2, r2⟩ := trodAll_cons r1
  obtain ⟨v3, vs3, d3, ds3, p3, q3, rfl, rfl, rfl, h3, r3⟩ := trodAll_cons r2
  obtain ⟨v4, vs4, d4, ds4, p4, q4, rfl, rfl, rfl, h4, r4⟩ := trodAll_cons r3
  obtain ⟨rfl, rfl, rfl⟩ := trodAll_nil r4
  obtain rfl : args = #[v0, v1, v2, v3, v4] := by cases args; simp_all
  obtain ⟨rfl, rfl⟩ := trodVars_none hV
  obtain ⟨a0, rfl, rfl, rfl, w0⟩ := open_int Tryz.underlying3 (hval 0 3 v0 rfl rfl) h0
  obtain ⟨a1, rfl, rfl, rfl, w1⟩ := open_int Tryz.underlying3 (hval 1 3 v1 rfl rfl) h1
  have k2 := h2
  obtain ⟨a2, s2, w2, l2⟩ := open_ints' (hval 2 35 v2 rfl rfl) h2
  have k3 := h3
  obtain ⟨a3, s3, w3, l3⟩ := open_ints' (hval 3 35 v3 rfl rfl) h3
  obtain ⟨a4, rfl, rfl, rfl, w4⟩ := open_string Tryz.underlying9 (hval 4 9 v4 rfl rfl) h4
  clear hA0 hval0
  simp only [List.append_nil, List.nil_append] at hW'
  have hlt : ∀ x ∈ p2 ++ p3, x.block < W.heap.size := fun x hx => by simpa using hW'.lt x (by simpa [or_assoc] using hx)
  refine (walk a0 w0 a1 w1 v2 a2 w2 l2 v3 a3 w3 l3 a4 w4 W (tab_of_laid hL) s2 s3).mono fun e W' ⟨he, hg⟩ => ?_
  subst he
  exact ⟨_, rfl, _, _, _, [], _, [], hW', (trodAll_cons_mk (shut_bool Tryz.underlying4 _) trodAll_mk0), (trodAll_cons_mk (shut_int Tryz.underlying3 w0) (trodAll_cons_mk (shut_int Tryz.underlying3 w1) (trodAll_cons_mk (Below.trod laidOut (by kernel_rfl) (of_decide_eq_true (by kernel_rfl)) k2 hg (fun x hx => hlt x (by simp [hx]))) (trodAll_cons_mk (Below.trod laidOut (by kernel_rfl) (of_decide_eq_true (by kernel_rfl)) k3 hg (fun x hx => hlt x (by simp [hx]))) (trodAll_cons_mk (shut_string Tryz.underlying9 w4) trodAll_mk0))))), rfl, hg.frame _, fun h => by cases h⟩

theorem row : Rows.FrameApartSaid :=
  OpenClaim.holds_of_wide 8 Tryz.f8 rfl rfl rfl rfl rfl rfl rfl ⟨rfl, rfl, rfl, rfl, rfl⟩ rfl rfl rfl rfl rfl (by kernel_rfl) Tryz.func8 (by kernel_rfl)
    (of_decide_eq_true (by kernel_rfl)) (by unfold Func.isWrapper; first | (rw [if_pos (by decide +kernel)]; kernel_rfl) | (rw [if_neg (by decide +kernel)]; exact ⟨rfl, rfl⟩))
    (fun os started H enc _ => lifted os started H enc)

/-- The statement. -/
theorem proved : Rows.FrameApartCardSaid :=
  Claim7.holds_tied_plain_at .later [] [.data, .data, .data, .data, .sentinel, .sentinel, .data, .pinned] true (true, "2e3a2d191d52d84305a5012db90e303400cfcd659c86cb58d0cfbea904d12172") true
    row (fun _ h => by cases h) (by kernel_rfl) (fun _ h => by cases h) frameApart_row_tie rfl ⟨rfl, rfl⟩ (by kernel_rfl) rfl
    (fun f fn hf hfn => by
      obtain rfl : f = 8 := Option.some.inj ((show Tryz.prog.funcNamed "letterpress/letterpresslaw11.FrameApart" = some 8 by kernel_rfl).symm.trans hf) |>.symm
      obtain rfl : fn = Tryz.f8 := (Option.some.inj (Tryz.func8.symm.trans hfn)).symm
      exact ⟨by kernel_rfl, fun j t ht => by
        rw [Tryz.params8] at ht
        have hm : t ∈ [3, 3, 35, 35, 9] := by simpa using Array.mem_of_getElem? ht
        have hall : ([3, 3, 35, 35, 9].all fun u => !Tryz.prog.wantsStandIn u) = true := by kernel_rfl
        exact (show Tryz.prog.wantsStandIn t = false by simpa using List.all_eq_true.1 hall t hm)⟩)
    (by kernel_rfl)
#print axioms proved
end Go.Proofs.YtkaclahcpmogaaaGreatDoor.frameApart
