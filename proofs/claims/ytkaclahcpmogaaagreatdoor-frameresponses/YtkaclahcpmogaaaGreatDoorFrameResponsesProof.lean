/- A response is written as the document says, and read as it was, whatever is behind it. -/
import Derived.Test.YtkaclahcpmogaaaGreatDoorRows
import Derived.WalkKit
import Derived.ProofKit
import Derived.OpenShut
import Derived.LaidMore
import Derived.Stop.Joined
import Derived.SevenTiedAt
import Derived.Laws.BytesArg
import Derived.BigQuiet
import Derived.Lay
import Derived.MakeChecks
import Derived.Test.YtkaclahcpmogaaaGreatDoorTie
import Derived.Test.YtkaclahcpmogaaaGreatDoorCards
import Derived.Test.YtkaclahcpmogaaaGreatDoorFrAA
import Derived.Test.YtkaclahcpmogaaaGreatDoorFrAC
import Derived.Test.YtkaclahcpmogaaaGreatDoorFrAE
import Derived.Test.YtkaclahcpmogaaaGreatDoorFrAF
namespace Go.Proofs.YtkaclahcpmogaaaGreatDoor.frameResponses
open Go.ChangeShapes Go.WideShapes Go.ChangeAt Go.RowKit
open Go.ChangeMaps (open_string shut_string)
set_option linter.unusedVariables false
set_option linter.unusedSimpArgs false

theorem own : ownKnob Tryz.prog.godebug = none := by kernel_rfl

theorem rpRight_len {r : Rp} (h : rpRight r = true) : (headed 3 (respB r)).length ≤ 90003 := by
  have := respB_len h
  unfold headed
  rw [List.length_append, numB_len]
  omega
def SE (r : Rp) (vb va vx da dx : Value) (hb : Bs) : Nat → Value
  | 0 => vb
  | 1 => .string (bs hb)
  | 2 => rpVal r va da
  | 4 => .string (bs hb)
  | 10 => .int .i64 hb.length
  | 11 => vb
  | 12 => .int .i64 hb.length
  | 16 => rpVal r vx dx
  | 17 => rpVal r va da
  | _ => .bool true
def SR (hb : Bs) : Nat → Option Bs
  | 3 => some hb
  | _ => none
/-! ### The walk -/
set_option maxHeartbeats 6400000 in
set_option maxRecDepth 20000 in
theorem walk (v0 : Value) (a0 : List Int) (w0 : InRange a0) (l0 : a0.length ≤ maxLen) (a1 : ByteArray) (w1 : a1.size ≤ maxLen) (v2 : Value) (a2 : Bs) (v3 : Value) (a3 : Bs) (w : World) (T : Tab w) (s0 : SliceIs w v0 a0) (s2 : BytesAt w.heap.size w v2 a2) (s3 : BytesAt w.heap.size w v3 a3) :
    Calls Tryz.prog 5 #[v0, .string a1, v2, v3] w fun e w' => e = .returned (.bool true) ∧ Below w.heap.size w w' := by
  have K := known_any w T
  obtain ⟨l, rfl⟩ : ∃ l, a1 = bs l := ⟨_, bs_of a1⟩
  have hsz := bs_size l
  obtain ⟨ip, ic, rfl, hic, him, _⟩ := id s2
  obtain ⟨jp, jc, rfl, hjc, hjm, _⟩ := id s3
  by_cases hl : 600 < (l.length : Int)
  · go_enter Tryz.func5, Tryz.ntmps5
    go_wp2_with fail
    refine K.mono ?_
    rintro e wk ⟨rfl, hbk⟩
    go_wp2_with fail
    go_ret
    exact ⟨rfl, hbk⟩
  by_cases hi : 4096 < (a2.length : Int)
  · have hlI : ¬ 600 < (l.length : Int) := hl
    go_enter Tryz.func5, Tryz.ntmps5
    go_wp2_with fail
    refine K.mono ?_
    rintro e wk ⟨rfl, hbk⟩
    go_wp2_with fail
    go_ret
    exact ⟨rfl, hbk⟩
  by_cases hm : 100 < (a3.length : Int)
  · have hlI : ¬ 600 < (l.length : Int) := hl
    have hiI : ¬ 4096 < (a2.length : Int) := hi
    go_enter Tryz.func5, Tryz.ntmps5
    go_wp2_with fail
    refine K.mono ?_
    rintro e wk ⟨rfl, hbk⟩
    go_wp2_with fail
    go_ret
    exact ⟨rfl, hbk⟩
  have hlI : ¬ 600 < (l.length : Int) := hl
  have hiI : ¬ 4096 < (a2.length : Int) := hi
  have hmI : ¬ 100 < (a3.length : Int) := hm
  go_enter Tryz.func5, Tryz.ntmps5
  go_wp2_with fail
  refine K.mono ?_
  rintro e wk ⟨rfl, hbk⟩
  clear K
  go_wp2_with fail
  refine (mkresp_any v0 a0 l ip a2.length ic wk (s0.later hbk) w0).mono ?_
  rintro e x1 ⟨dv, rfl, hD, hb1⟩
  have B1 := hbk.trans (hb1.mono hbk.size)
  have hr := rpOf_right a0 l a2 (by omega) (by omega)
  obtain ⟨r, hre⟩ : ∃ r, rpOf a0 l a2 = r := ⟨_, rfl⟩
  have er : r.e = (a0.length : Int) % 15 ∧ r.text = l ∧ r.image = a2 ∧ r.diags = dgsOf a0 := by rw [← hre]; exact ⟨rfl, rfl, rfl, rfl⟩
  rw [hre] at hr
  rw [← er.2.2.2] at hD
  rw [← er.1]
  have et : Hid (bs l = bs r.text) := by rw [er.2.1]; rfl
  have ei : Hid (r.image = a2) := er.2.2.1
  have s2' : Hid (BytesAt w.heap.size w (.slice ip a2.length ic) a2) := s2
  clear er hre hb1 hbk
  obtain ⟨dp, dc, rfl, _⟩ := id hD
  have hb2 := below_new x1 (.cells #[.int .i64 r.e, .string (bs l), .slice ip a2.length ic, .slice dp r.diags.length dc] 42)
  have L2 := heap_alloc_new x1 (.cells #[.int .i64 r.e, .string (bs l), .slice ip a2.length ic, .slice dp r.diags.length dc] 42)
  have B2 := B1.trans (hb2.mono B1.size)
  have hD2 := (hD.later hb2).mono hb2.size
  have hbl := rpRight_len hr
  have eRR := resp_read hr a3
  have RS := fun W T hI hD => response_any r (.slice ip a2.length ic) (.slice dp r.diags.length dc) hr W T hI hD
  rw [← et.out, ei.out] at RS
  have RX := fun W hI hD => rresp_any r ip ic (.slice dp r.diags.length dc) W hr hI hD
  rw [ei.out] at RX
  obtain ⟨hb, hhb⟩ : ∃ hb, headed 3 (respB r) = hb := ⟨_, rfl⟩
  have hm3 : (3 + ((respB r).length : Int)) = (hb.length : Int) := by rw [← hhb]; unfold headed; rw [List.length_append, numB_len]; omega
  rw [hhb] at RS RX eRR hbl
  rw [hm3] at eRR
  have RR := fun v W T hB => readResp_any v (hb ++ a3) W T hB
  rw [eRR] at RR
  simp only at RR
  clear hm3 hhb
  go_wp2_with fail
  generalize x1.alloc (.cells #[.int .i64 r.e, .string (bs l), .slice ip a2.length ic, .slice dp r.diags.length dc] 42) = x2 at *
  generalize x1.heap.size = kR at *
  clear hD B1 hb2
  refine (RS x2 (T.later B2) ((s2'.out.later B2).mono B2.size) hD2).mono ?_
  rintro e x3 ⟨va, rfl, hO, hb3⟩
  have L3 := (hb3.block kR (Array.getElem?_eq_some_iff.1 L2).1).trans L2
  have B3 := B2.trans (hb3.mono B2.size)
  have hD3 := (hD2.later hb3).mono hb3.size
  obtain ⟨pa, ca, rfl⟩ := row_slice hO
  clear RS L2 B2 hb3 hD2
  have hb4 := below_new x3 (.cells #[] 5)
  have hE : Own x3.heap.size (x3.alloc (.cells #[] 5)) (.slice (some ⟨x3.heap.size, 0, none⟩) 0 0) [] := ⟨rfl, .inr ⟨x3.heap.size, 0, #[], rfl, Nat.le_refl _, heap_alloc_new _ _, Nat.le_refl _, by unfold maxLen; omega, rfl, rfl⟩⟩
  obtain ⟨v5, x5, run5, hO5, hg5⟩ := run_app_bytes _ x3.heap.size _ _ _ [] hb hE ((hO.later hb4).bytes (Nat.le_refl _)) (by simp) (by omega) hb4.size
  rw [List.nil_append] at hO5
  have hb5 := hb4.trans (hE.below hg5 hb4.size)
  obtain ⟨v6, x6, run6, hO6, hg6⟩ := run_app_bytes x5 x3.heap.size w.heap.size v5 (.slice jp a3.length jc) hb a3 hO5 (s3.later (B3.trans (hb5.mono B3.size))) (by omega) (by omega) hb5.size
  have hb6 := hb5.trans (hO5.below hg6 hb5.size)
  have B6 := B3.trans (hb6.mono B3.size)
  have hOb := hO.later hb6
  have L6 := (hb6.block kR (Array.getElem?_eq_some_iff.1 L3).1).trans L3
  have hD6 := (hD3.later hb6).mono hb6.size
  have hy := hO6.bytes (Nat.le_refl x6.heap.size)
  generalize hb ++ a3 = hc at *
  obtain ⟨p5, c5, rfl⟩ := row_slice hO5
  obtain ⟨p6, c6, rfl⟩ := row_slice hO6
  clear hO L3 hb4 hE hO5 hg5 hb5 hg6 hb6 B3 hD3 hO6
  go_wp2_with (first
    | (at_builtin; refine wpList_run_app rfl _ _ _ _ rfl _ _ _ rfl rfl (run5 _) ?_; clear run5)
    | (at_builtin; refine wpList_run_app rfl _ _ _ _ rfl _ _ _ rfl rfl (run6 _) ?_; clear run6))
  refine (RR _ x6 (T.later B6) hy).mono ?_
  rintro e x7 ⟨iv, dv, rfl, hI7, hD7, hb7⟩
  obtain ⟨jq, jd, rfl, _⟩ := id hI7
  obtain ⟨dq, dd, rfl, _⟩ := id hD7
  have L7 := (hb7.block kR (Array.getElem?_eq_some_iff.1 L6).1).trans L6
  have B7 := B6.trans (hb7.mono B6.size)
  have hO7 := hOb.later hb7
  have hDA := (hD6.later hb7).mono hb7.size
  clear RR hy L6 B6 hOb hD6 hb7
  go_upto_region 8 with fail
  have hb8 := below_new x7 (.cells #[.int .i64 r.e, .string (bs r.text), .slice jq r.image.length jd, .slice dq r.diags.length dd] 42)
  have LX := heap_alloc_new x7 (.cells #[.int .i64 r.e, .string (bs r.text), .slice jq r.image.length jd, .slice dq r.diags.length dd] 42)
  have LA := (hb8.block kR (Array.getElem?_eq_some_iff.1 L7).1).trans L7
  have B8 := B7.trans (hb8.mono B7.size)
  have hO8 := hO7.later hb8
  have hDA8 := (hDA.later hb8).mono hb8.size
  have hDX8 := (hD7.later hb8).mono hb8.size
  have hIX8 := (hI7.later hb8).mono hb8.size
  clear L7 B7 hO7 hDA hD7 hI7 hb8
  generalize x7.alloc (.cells #[.int .i64 r.e, .string (bs r.text), .slice jq r.image.length jd, .slice dq r.diags.length dd] 42) = x8 at *
  generalize x7.heap.size = kX at *
  rw [et.out] at LA
  have hnA := (rp_sizes hr).2.2.1
  replace hnA : r.diags.length ≤ 16777216 := by omega
  have hIA : ∀ W, Below w.heap.size w W → BytesAt W.heap.size W (.slice ip a2.length ic) r.image := fun W h => by rw [ei.out]; exact (s2'.out.later h).mono h.size
  refine region_inv2 (by kernel_rfl) (fun u => { tmps := #[v0, Value.string (bs l), Value.slice ip (List.length a2) ic, Value.slice jp (List.length a3) jc, undef, undef, undef, undef, u 20, Value.pointer (some { block := kR, off := 0 }), Value.slice pa (List.length hb) ca, Value.pointer (some { block := kX, off := 0 }), Value.int IntKind.i64 ((List.length hb : Nat) : Int), Value.bool true, Value.bool true, Value.bool false, Value.string (bs l), Value.int IntKind.i64 (l.length : Int), Value.bool (decide (600 < (l.length : Int))), Value.bool (decide (600 < (l.length : Int))), Value.slice ip (List.length a2) ic, Value.int IntKind.i64 ((List.length a2 : Nat) : Int), Value.bool (decide (4096 < ((List.length a2 : Nat) : Int))), Value.bool (decide (600 < (l.length : Int)) || decide (4096 < ((List.length a2 : Nat) : Int))), Value.bool (decide (600 < (l.length : Int)) || decide (4096 < ((List.length a2 : Nat) : Int))), Value.slice jp (List.length a3) jc, Value.int IntKind.i64 ((List.length a3 : Nat) : Int), Value.bool (decide (100 < ((List.length a3 : Nat) : Int))), Value.bool (decide (600 < (l.length : Int)) || decide (4096 < ((List.length a2 : Nat) : Int)) || decide (100 < ((List.length a3 : Nat) : Int))), v0, Value.string (bs l), Value.slice ip (List.length a2) ic, Value.agg #[Value.int IntKind.i64 r.e, Value.string (bs l), Value.slice ip (List.length a2) ic, Value.slice dp r.diags.length dc], Value.agg #[Value.int IntKind.i64 r.e, Value.string (bs l), Value.slice ip (List.length a2) ic, Value.slice dp r.diags.length dc], Value.slice pa (List.length hb) ca, Value.tuple #[Value.agg #[Value.int IntKind.i64 r.e, Value.string (bs r.text), Value.slice jq (List.length r.image) jd, Value.slice dq r.diags.length dd], Value.int IntKind.i64 ((List.length hb : Nat) : Int), Value.bool true], Value.slice (some { block := x3.heap.size, off := 0 }) 0 0, Value.slice pa (List.length hb) ca, Value.slice p5 (List.length hb) c5, Value.slice jp (List.length a3) jc, Value.slice p6 (List.length hc) c6, Value.tuple #[Value.agg #[Value.int IntKind.i64 r.e, Value.string (bs r.text), Value.slice jq (List.length r.image) jd, Value.slice dq r.diags.length dd], Value.int IntKind.i64 ((List.length hb : Nat) : Int), Value.bool true], Value.agg #[Value.int IntKind.i64 r.e, Value.string (bs r.text), Value.slice jq (List.length r.image) jd, Value.slice dq r.diags.length dd], Value.int IntKind.i64 ((List.length hb : Nat) : Int), Value.bool true, u 0, u 1, u 2, u 3, u 4, u 5, u 6, u 7, u 8, u 9, u 10, u 11, u 12, u 13, u 14, u 15, u 16, u 17, u 18, u 19], defers := [] }) (GI x8 (SE r (.slice pa hb.length ca) (.slice ip a2.length ic) (.slice jq r.image.length jd) (.slice dp r.diags.length dc) (.slice dq r.diags.length dd) hb) (SR hb)) (by kernel_rfl) (fun i => if i = 20 then .bool false else undef) ⟨fun _ _ h => (by cases h), fun _ _ _ h => (by cases h), ⟨rfl, rfl, rfl, Nat.le_refl _, fun _ _ => rfl⟩⟩ ?_ ?_
  · intro i o L u v ho hL hp hcl hI
    have hi : i < 21 := by
      by_cases hi : i < 21
      · exact hi
      · rw [Array.getElem?_eq_none (by simp; omega)] at ho; cases ho
    match i, hi with
    | 0, _ =>
      cases ho
      exact Orders.step_value rfl rfl (run_move _ _ _ _ _ rfl rfl) ⟨_, rfl, hI.put 0 rfl rfl⟩
    | 1, _ =>
      cases ho
      exact Orders.step_value rfl rfl (run_conv _ _ _ _ _ _ hb rfl (hI.val 0 rfl (hp ⟨0, Ground.data⟩ (by simp) rfl)) ((hO8.later hI.blw).bytes (Nat.le_refl _))) ⟨_, rfl, hI.put 1 rfl rfl⟩
    | 2, _ =>
      cases ho
      exact Orders.step_value rfl rfl (run_ldResp _ _ _ _ kR r ip dp a2.length ic r.diags.length dc rfl rfl ((hI.blw.block kR (Array.getElem?_eq_some_iff.1 LA).1).trans LA)) ⟨_, rfl, hI.put 2 rfl rfl⟩
    | 3, _ =>
      cases ho
      exact step_called rfl rfl (run_enter11 _ _ _ _ (rpVal r _ _) _ rfl (hI.val 2 rfl (hp ⟨2, Ground.data⟩ (by simp) rfl))) (RX v ((s2'.out.later (B8.trans (hI.blw.mono B8.size))).mono (B8.trans (hI.blw.mono B8.size)).size) ((hDA8.later hI.blw).mono hI.blw.size)) (fun _ _ hR => ⟨_, rfl, hI.made 3 _ rfl _ hR.1 hR.2⟩)
    | 4, _ =>
      cases ho
      obtain ⟨Bx, hO⟩ := hI.row 3 _ rfl (hp ⟨3, Ground.data⟩ (by simp) rfl)
      exact Orders.step_value rfl rfl (run_conv _ _ _ _ _ _ _ rfl rfl (hO.bytes (Nat.le_refl _))) ⟨_, rfl, hI.put 4 rfl rfl⟩
    | 5, _ =>
      cases ho
      exact Orders.step_value rfl rfl (run_eqS _ _ _ _ _ hb hb true rfl (hI.val 1 rfl (hp ⟨1, Ground.data⟩ (by simp) rfl)) (hI.val 4 rfl (hp ⟨4, Ground.data⟩ (by simp) rfl)) (decide_eq_true rfl)) ⟨_, rfl, hI.put 5 rfl rfl⟩
    | 6, _ =>
      cases ho
      exact Orders.step_value rfl rfl (run_move _ _ _ _ _ rfl (hI.val 5 rfl (hp ⟨5, Ground.data⟩ (by simp) rfl))) ⟨_, rfl, hI.put 6 rfl rfl⟩
    | 7, _ =>
      cases ho
      exact step_valueG rfl (wanted_true rfl rfl rfl (congrArg some (hI.val 6 rfl (hp ⟨6, Ground.guard⟩ (by simp) rfl)))) (run_move _ _ _ _ _ rfl rfl) ⟨_, rfl, hI.put 7 rfl rfl⟩
    | 8, _ =>
      cases ho
      exact Orders.step_value rfl rfl (run_pickT _ _ _ _ _ _ (.bool true) rfl (hI.val 6 rfl (hp ⟨6, Ground.data⟩ (by simp) rfl)) (hI.val 7 rfl (hp ⟨7, Ground.data⟩ (by simp) rfl))) ⟨_, rfl, hI.put 8 rfl rfl⟩
    | 9, _ =>
      cases ho
      exact Orders.step_value rfl rfl (run_move _ _ _ _ _ rfl (hI.val 8 rfl (hp ⟨8, Ground.data⟩ (by simp) rfl))) ⟨_, rfl, hI.put 9 rfl rfl⟩
    | 10, _ =>
      cases ho
      exact step_valueG rfl (wanted_true rfl rfl rfl (congrArg some (hI.val 9 rfl (hp ⟨9, Ground.guard⟩ (by simp) rfl)))) (run_move _ _ _ _ _ rfl rfl) ⟨_, rfl, hI.put 10 rfl rfl⟩
    | 11, _ =>
      cases ho
      exact step_valueG rfl (wanted_true rfl rfl rfl (congrArg some (hI.val 9 rfl (hp ⟨9, Ground.guard⟩ (by simp) rfl)))) (run_move _ _ _ _ _ rfl rfl) ⟨_, rfl, hI.put 11 rfl rfl⟩
    | 12, _ =>
      cases ho
      exact step_valueG rfl (wanted_true rfl rfl rfl (congrArg some (hI.val 9 rfl (hp ⟨9, Ground.guard⟩ (by simp) rfl)))) (run_len _ _ _ _ pa hb.length ca rfl (hI.val 11 rfl (hp ⟨11, Ground.data⟩ (by simp) rfl))) ⟨_, rfl, hI.put 12 rfl rfl⟩
    | 13, _ =>
      cases ho
      exact step_valueG rfl (wanted_true rfl rfl rfl (congrArg some (hI.val 9 rfl (hp ⟨9, Ground.guard⟩ (by simp) rfl)))) (run_eqI _ _ _ _ _ hb.length hb.length rfl (hI.val 10 rfl (hp ⟨10, Ground.data⟩ (by simp) rfl)) (hI.val 12 rfl (hp ⟨12, Ground.data⟩ (by simp) rfl))) ⟨_, rfl, hI.put 13 rfl (congrArg Value.bool (beq_self_eq_true _))⟩
    | 14, _ =>
      cases ho
      exact Orders.step_value rfl rfl (run_pickT _ _ _ _ _ _ (.bool true) rfl (hI.val 9 rfl (hp ⟨9, Ground.data⟩ (by simp) rfl)) (hI.val 13 rfl (hp ⟨13, Ground.data⟩ (by simp) rfl))) ⟨_, rfl, hI.put 14 rfl rfl⟩
    | 15, _ =>
      cases ho
      exact Orders.step_value rfl rfl (run_move _ _ _ _ _ rfl (hI.val 14 rfl (hp ⟨14, Ground.data⟩ (by simp) rfl))) ⟨_, rfl, hI.put 15 rfl rfl⟩
    | 16, _ =>
      cases ho
      exact step_valueG rfl (wanted_true rfl rfl rfl (congrArg some (hI.val 15 rfl (hp ⟨15, Ground.guard⟩ (by simp) rfl)))) (run_ldResp _ _ _ _ kX r jq dq r.image.length jd r.diags.length dd rfl rfl ((hI.blw.block kX (Array.getElem?_eq_some_iff.1 LX).1).trans LX)) ⟨_, rfl, hI.put 16 rfl rfl⟩
    | 17, _ =>
      cases ho
      exact step_valueG rfl (wanted_true rfl rfl rfl (congrArg some (hI.val 15 rfl (hp ⟨15, Ground.guard⟩ (by simp) rfl)))) (run_ldResp _ _ _ _ kR r ip dp a2.length ic r.diags.length dc rfl rfl ((hI.blw.block kR (Array.getElem?_eq_some_iff.1 LA).1).trans LA)) ⟨_, rfl, hI.put 17 rfl rfl⟩
    | 18, _ =>
      cases ho
      exact step_calledG (R := fun y w' => y = .bool (decide (r = r)) ∧ Below v.heap.size v w') rfl (wanted_true rfl rfl rfl (congrArg some (hI.val 15 rfl (hp ⟨15, Ground.guard⟩ (by simp) rfl)))) (run_enter9 _ _ _ _ _ _ _ _ rfl (hI.val 16 rfl (hp ⟨16, Ground.data⟩ (by simp) rfl)) (hI.val 17 rfl (hp ⟨17, Ground.data⟩ (by simp) rfl))) ((same_any r r _ _ _ _ v ((hIX8.later hI.blw).mono hI.blw.size) ((hDX8.later hI.blw).mono hI.blw.size) (hIA v (B8.trans (hI.blw.mono B8.size))) ((hDA8.later hI.blw).mono hI.blw.size) hnA hnA).mono fun e w' h => ⟨_, h.1, rfl, h.2⟩) (fun _ _ hR => ⟨_, rfl, hI.call 18 rfl (hR.1.trans (congrArg Value.bool (decide_eq_true rfl))) hR.2⟩)
    | 19, _ =>
      cases ho
      exact Orders.step_value rfl rfl (run_pickT _ _ _ _ _ _ (.bool true) rfl (hI.val 15 rfl (hp ⟨15, Ground.data⟩ (by simp) rfl)) (hI.val 18 rfl (hp ⟨18, Ground.data⟩ (by simp) rfl))) ⟨_, rfl, hI.put 19 rfl rfl⟩
    | 20, _ =>
      cases ho
      exact Orders.step_value rfl rfl (run_asg _ _ _ _ _ rfl (hI.val 19 rfl (hp ⟨19, Ground.data⟩ (by simp) rfl))) ⟨_, rfl, hI.put 20 rfl rfl⟩
  · intro L u x9 hall hI
    have e20 := hI.val 20 rfl (hall 20 (by simp))
    have B9 := B8.trans (hI.blw.mono B8.size)
    rw [e20]
    clear hI hall e20
    go_wp2_with fail
    go_ret
    exact ⟨rfl, B9⟩

/-! ### The row's step -/
set_option maxRecDepth 100000 in
theorem lifted (os : Os) (started : os.Started) (H : Type) (enc : TypeId × Value → H) :
    ReturnsInHanded {} Tryz.checked os 5 .any (fun w args => (Rows.frameResponsesSpec.pre enc Tryz.prog Tryz.f5 [] false w args ∧ laidMetH Tryz.prog laid8 w) ∧ sizedMet enc Tryz.prog Tryz.f5 (OpenSpec.ofChange Rows.frameResponsesSpec) false w args)
      (Rows.frameResponsesSpec.post enc Tryz.prog Tryz.f5 false true false false) := by
  refine returnsInHanded_of_change_and (C := Tryz.checked) (X := fun w _ => laidMetH Tryz.prog laid8 w) (fun _ _ _ hh h => h.of_heap hh) own started (by kernel_rfl) Tryz.func5
    (ChangeSpec.witness_shaped (enc := enc) (C := Tryz.checked) (os := os) (X := fun w _ => laidMetH Tryz.prog laid8 w) false (World.laidAll Tryz.prog os laid8) #[.slice none 0 0, .string ByteArray.empty, .slice none 0 0, .slice none 0 0] 8 (World.laidAll_os _ _ _) (World.shaped_of_ZipB (by kernel_rfl) (by kernel_rfl)) (by kernel_rfl) (by kernel_rfl) (by kernel_rfl) (by rw [MakeChecks.laidMetH_plain _ _ _ (by kernel_rfl)]; exact laidMet_laidAll _ (by kernel_rfl) (by kernel_rfl))) ?_
  intro W base args ds gs before hval0 hW _ _ hL _
  have hval : ∀ (j : Nat) t v, Tryz.f5.params[j]? = some t → args[j]? = some v → Value.okWide Tryz.prog W .any base t v := hval0
  have hW' := hW
  obtain ⟨p, q, hA0, hV, rfl, hfz, hnd⟩ := hW
  have hA : DataW.TrodAll enc Tryz.prog W 0 (fun _ => true) true Tryz.f5.params.toList args.toList ds p := hA0
  rw [Tryz.params5] at hA hval
  obtain ⟨v0, vs0, d0, ds0, p0, q0, hargs, rfl, rfl, h0, r0⟩ := trodAll_cons hA
  obtain ⟨v1, vs1, d1, ds1, p1, q1, rfl, rfl, rfl, h1, r1⟩ := trodAll_cons r0
  obtain ⟨v2, vs2, d2, ds2, p2, q2, rfl, rfl, rfl, h2, r2⟩ := trodAll_cons r1
  obtain ⟨v3, vs3, d3, ds3, p3, q3, rfl, rfl, rfl, h3, r3⟩ := trodAll_cons r2
  obtain ⟨rfl, rfl, rfl⟩ := trodAll_nil r3
  obtain rfl : args = #[v0, v1, v2, v3] := by cases args; simp_all
  obtain ⟨rfl, rfl⟩ := trodVars_none hV
  have k0 := h0
  obtain ⟨a0, s0, w0, l0⟩ := open_ints' (hval 0 35 v0 rfl rfl) h0
  obtain ⟨a1, rfl, rfl, rfl, w1⟩ := open_string Tryz.underlying9 (hval 1 9 v1 rfl rfl) h1
  have k2 := h2
  obtain ⟨a2, s2⟩ := open_bytesB (hval 2 23 v2 rfl rfl) h2
  have k3 := h3
  obtain ⟨a3, s3⟩ := open_bytesB (hval 3 23 v3 rfl rfl) h3
  clear hA0 hval0
  simp only [List.append_nil, List.nil_append] at hW'
  have hlt : ∀ x ∈ p0 ++ p2 ++ p3, x.block < W.heap.size := fun x hx => by simpa using hW'.lt x (by simpa [or_assoc] using hx)
  refine (walk v0 a0 w0 l0 a1 w1 v2 a2 v3 a3 W (tab_of_laid hL) s0 s2 s3).mono fun e W' ⟨he, hg⟩ => ?_
  subst he
  exact ⟨_, rfl, _, _, _, [], _, [], hW', (trodAll_cons_mk (shut_bool Tryz.underlying4 _) trodAll_mk0), (trodAll_cons_mk (Below.trod laidOut (by kernel_rfl) (of_decide_eq_true (by kernel_rfl)) k0 hg (fun x hx => hlt x (by simp [hx]))) (trodAll_cons_mk (shut_string Tryz.underlying9 w1) (trodAll_cons_mk (Below.trod laidOut (by kernel_rfl) (of_decide_eq_true (by kernel_rfl)) k2 hg (fun x hx => hlt x (by simp [hx]))) (trodAll_cons_mk (Below.trod laidOut (by kernel_rfl) (of_decide_eq_true (by kernel_rfl)) k3 hg (fun x hx => hlt x (by simp [hx]))) trodAll_mk0)))), rfl, hg.frame _, fun h => by cases h⟩

theorem row : Rows.FrameResponsesSaid :=
  OpenClaim.holds_of_wide 5 Tryz.f5 rfl rfl rfl rfl rfl rfl rfl ⟨rfl, rfl, rfl, rfl, rfl⟩ rfl rfl rfl rfl rfl (by kernel_rfl) Tryz.func5 (by kernel_rfl)
    (of_decide_eq_true (by kernel_rfl)) (by unfold Func.isWrapper; first | (rw [if_pos (by decide +kernel)]; kernel_rfl) | (rw [if_neg (by decide +kernel)]; exact ⟨rfl, rfl⟩))
    (fun os started H enc _ => lifted os started H enc)

/-- The statement. -/
theorem proved : Rows.FrameResponsesCardSaid :=
  Claim7.holds_tied_plain_at .later [] [.data, .data, .data, .data, .sentinel, .sentinel, .data, .pinned] true (true, "2e3a2d191d52d84305a5012db90e303400cfcd659c86cb58d0cfbea904d12172") true
    row (fun _ h => by cases h) (by kernel_rfl) (fun _ h => by cases h) frameResponses_row_tie rfl ⟨rfl, rfl⟩ (by kernel_rfl) rfl
    (fun f fn hf hfn => by
      obtain rfl : f = 5 := Option.some.inj ((show Tryz.prog.funcNamed "letterpress/letterpresslaw11.FrameResponses" = some 5 by kernel_rfl).symm.trans hf) |>.symm
      obtain rfl : fn = Tryz.f5 := (Option.some.inj (Tryz.func5.symm.trans hfn)).symm
      exact ⟨by kernel_rfl, fun j t ht => by
        rw [Tryz.params5] at ht
        have hm : t ∈ [35, 9, 23, 23] := by simpa using Array.mem_of_getElem? ht
        have hall : ([35, 9, 23, 23].all fun u => !Tryz.prog.wantsStandIn u) = true := by kernel_rfl
        exact (show Tryz.prog.wantsStandIn t = false by simpa using List.all_eq_true.1 hall t hm)⟩)
    (by kernel_rfl)
#print axioms proved
end Go.Proofs.YtkaclahcpmogaaaGreatDoor.frameResponses
