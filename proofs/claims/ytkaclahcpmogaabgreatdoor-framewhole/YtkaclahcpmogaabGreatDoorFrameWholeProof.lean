/- Of whatever numbers and whatever text the law FrameWhole answers true and leaves its arguments as they were: a request that is cut off anywhere is not whole yet and nothing of it is used, and whole it is read as it was. -/
import Derived.Test.YtkaclahcpmogaabGreatDoorRows
import Derived.WalkKit
import Derived.ProofKit
import Derived.OpenShut
import Derived.LaidMore
import Derived.Stop.Joined
import Derived.SevenTiedAt
import Derived.Laws.BytesArg
import Derived.BigQuiet
import Derived.Lay
import Derived.MakeChecks
import Derived.Test.YtkaclahcpmogaabGreatDoorTie
import Derived.Test.YtkaclahcpmogaabGreatDoorCards
import Derived.Test.YtkaclahcpmogaabGreatDoorFrU
namespace Go.Proofs.YtkaclahcpmogaabGreatDoor.frameWhole
open Go.ChangeShapes Go.WideShapes Go.ChangeAt Go.RowKit
open Go.ChangeMaps (open_string shut_string)
set_option linter.unusedVariables false
set_option linter.unusedSimpArgs false

theorem own : ownKnob Tryz.prog.godebug = none := by kernel_rfl

theorem own_prefix {B L : Nat} {w : World} {v : Value} {l : Bs} (h : Own B w v l) (hL : w.heap.size ≤ L) (hl : 0 < l.length) : ∃ g cap, v = .slice (some ⟨g, 0, none⟩) l.length cap ∧ l.length ≤ cap ∧ cap ≤ maxLen ∧ ∀ k, k ≤ l.length → BytesAt L w (.slice (some ⟨g, 0, none⟩) k cap) (l.take k) := by
  have hB := h.bytes hL
  obtain ⟨p, cap, rfl, hc, hm, hn, h2⟩ := hB
  cases p with
  | none => have := hn rfl; omega
  | some a =>
    have hg : ∃ g, a = ⟨g, 0, none⟩ := by
      rcases h.2 with ⟨h1, _⟩ | ⟨g, cap', cur, h1, _⟩
      · cases h1
      · cases h1; exact ⟨g, rfl⟩
    obtain ⟨g, rfl⟩ := hg
    refine ⟨g, cap, rfl, hc, hm, fun k hk => ?_⟩
    have e : (l.take k).length = k := by rw [List.length_take]; omega
    refine ⟨_, cap, by rw [e], by omega, hm, (fun h => by cases h), fun a ha => ?_⟩
    cases ha
    obtain ⟨b, o, e1, hl2, h3⟩ := h2 _ rfl
    cases e1
    refine ⟨g, 0, rfl, hl2, fun i c hi => ?_⟩
    rw [List.getElem?_take] at hi
    split at hi
    · exact h3 i c hi
    · cases hi
/-! ### The walk -/
set_option maxHeartbeats 3200000 in
set_option maxRecDepth 20000 in
theorem walk (a0 : Int) (w0 : (Lit.int .i64 a0).wf = true) (a1 : ByteArray) (w1 : a1.size ≤ maxLen) (a2 : Int) (w2 : (Lit.int .i64 a2).wf = true) (w : World) (T : Tab w) :
    Calls Tryz.prog 3 #[.int .i64 a0, .string a1, .int .i64 a2] w fun e w' => e = .returned (.bool true) ∧ Below w.heap.size w w' := by
  have K := known_any w T
  obtain ⟨l, rfl⟩ : ∃ l, a1 = bs l := ⟨_, bs_of a1⟩
  have hsz := bs_size l
  by_cases hl : 600 < (l.length : Int)
  · go_enter Tryz.func3, Tryz.ntmps3
    go_wp2_with fail
    refine K.mono ?_
    rintro e wk ⟨rfl, hbk⟩
    go_wp2_with fail
    go_ret
    exact ⟨rfl, hbk⟩
  · have hlI : ¬ 600 < (l.length : Int) := hl
    go_enter Tryz.func3, Tryz.ntmps3
    go_wp2_with fail
    refine K.mono ?_
    rintro e wk ⟨rfl, hbk⟩
    clear K
    go_wp2_with fail
    refine (name_any a0 wk).mono ?_
    rintro e w1 ⟨⟨s, hs, rfl⟩, hb1⟩
    have hw := names_word s hs
    have B1 := hbk.trans (hb1.mono hbk.size)
    clear hb1 hbk
    obtain ⟨rq, hrq⟩ : ∃ rq : Rq, rq = ⟨1, s, l, 0⟩ := ⟨_, rfl⟩
    have hr : rightP rq = true := by
      have hl6 : l.length ≤ 600 := by omega
      rw [hrq]
      unfold rightP nameOk textOk valueOk
      simp [hw, hl6]
    have hval : rqVal rq = .agg #[.int .i64 1, .string (bs s), .string (bs l), .int .i64 0] := by rw [hrq]; rfl
    have hlen : (headed 2 (reqB rq)).length = 2 + (reqB rq).length := by unfold headed; rw [List.length_append, numB_len]
    have hlen2 : (reqB rq).length ≤ 700 := by
      obtain ⟨_, h1, h2⟩ := right_fits hr
      have := reqB_len rq
      have := tailB_len rq
      omega
    have eR := read_back hr []
    rw [List.append_nil] at eR
    have eC := fun k hk => read_cut hr k hk
    have Q := fun W T => request_any rq hr W T
    have RR := fun v W T hB => readReq_any v (headed 2 (reqB rq)) W T hB
    rw [eR] at RR
    have RC := fun v k hk W T hB => by have := readReq_any v ((headed 2 (reqB rq)).take k) W T hB; rw [eC k hk] at this; exact this
    have hq := fun W => rq_eq rq rq W
    have hz := fun W => rq_eq .zero .zero W
    simp only [decide_true] at hq hz
    simp only at RR RC
    rw [hval] at Q RR hq
    unfold rqVal Rq.zero at RC hz
    simp only at RC hz
    generalize headed 2 (reqB rq) = hb at *
    generalize (reqB rq).length = m at *
    clear eR eC hval hr hrq hw
    go_wp2_with fail
    have hb2 := below_new w1 (.cells #[.int .i64 1, .string (bs s), .string (bs l), .int .i64 0] 25)
    have L2 := heap_alloc_new w1 (.cells #[.int .i64 1, .string (bs s), .string (bs l), .int .i64 0] 25)
    have B2 := B1.trans (hb2.mono B1.size)
    generalize w1.alloc (.cells #[.int .i64 1, .string (bs s), .string (bs l), .int .i64 0] 25) = w2 at *
    generalize w1.heap.size = k4 at *
    refine (Q w2 (T.later B2)).mono ?_
    rintro e w3 ⟨v3, rfl, hO3, hb3⟩
    have L3 := (hb3.block k4 (Array.getElem?_eq_some_iff.1 L2).1).trans L2
    have B3 := B2.trans (hb3.mono B2.size)
    obtain ⟨g, cap, rfl, hcl, hcm, hpre⟩ := own_prefix hO3 (Nat.le_refl w3.heap.size) (by omega)
    have hy3 := hO3.bytes (Nat.le_refl w3.heap.size)
    clear L2 hb3 hb2 B2 hO3 Q B1
    have hlI : (hb.length : Int) = 2 + (m : Int) := by omega
    have hml : (m : Int) ≤ 700 := by omega
    have hlt2 : ¬ (hb.length : Int) < 2 := by omega
    have W := within11_any a2 hb.length (by omega) (by omega)
    have h0 := Int.emod_nonneg a2 (show (hb.length : Int) ≠ 0 by omega)
    have h1 := Int.emod_lt_of_pos a2 (show (0 : Int) < hb.length by omega)
    obtain ⟨k, hk⟩ : ∃ k : Nat, a2 % hb.length = k := ⟨(a2 % hb.length).toNat, by omega⟩
    rw [hk] at W h0 h1
    have hkl : k ≤ hb.length := by omega
    have hkc : (k : Int) ≤ (cap : Int) := by omega
    have hkm : k < 2 + m := by omega
    replace hlI : Hid _ := hlI
    replace hlen : Hid _ := hlen
    clear hk
    go_wp2_with fail
    refine (W w3).mono ?_
    rintro e w3' ⟨rfl, rfl⟩
    clear W
    go_wp2_with fail
    refine (RC _ k hkm w3 (T.later B3) (hpre k hkl)).mono ?_
    rintro e w4 ⟨rfl, hb4⟩
    have L4 := (hb4.block k4 (Array.getElem?_eq_some_iff.1 L3).1).trans L3
    have B4 := B3.trans (hb4.mono B3.size)
    have hy4 := hy3.later hb4
    have hz3 := hb4.size
    clear L3 hb4 B3 hy3 RC hpre
    go_wp2_with fail
    have hb5 := below_new w4 (.cells #[.int .i64 0, .string (bs []), .string (bs []), .int .i64 0] 25)
    have L5 := (hb5.block k4 (Array.getElem?_eq_some_iff.1 L4).1).trans L4
    have X5 := heap_alloc_new w4 (.cells #[.int .i64 0, .string (bs []), .string (bs []), .int .i64 0] 25)
    have B5 := B4.trans (hb5.mono B4.size)
    have hy5 := hy4.later (hb5.mono hz3)
    have hz5 : w3.heap.size ≤ (w4.alloc (.cells #[.int .i64 0, .string (bs []), .string (bs []), .int .i64 0] 25)).heap.size := Nat.le_trans hz3 hb5.size
    generalize w4.alloc (.cells #[.int .i64 0, .string (bs []), .string (bs []), .int .i64 0] 25) = w5 at *
    generalize w4.heap.size = k5 at *
    refine (RR _ w5 (T.later B5) (hy5.mono hz5)).mono ?_
    rintro e w7 ⟨rfl, hb7⟩
    have L7 := (hb7.block k4 (Array.getElem?_eq_some_iff.1 L5).1).trans L5
    have X7 := (hb7.block k5 (Array.getElem?_eq_some_iff.1 X5).1).trans X5
    have B7 := B5.trans (hb7.mono B5.size)
    have l4 := (Array.getElem?_eq_some_iff.1 L7).1
    have l5 := (Array.getElem?_eq_some_iff.1 X7).1
    have c0 := cell_at L7 0 _ rfl
    have c1 := cell_at L7 1 _ rfl
    have c2 := cell_at L7 2 _ rfl
    have c3 := cell_at L7 3 _ rfl
    have d0 := cell_at X7 0 _ rfl
    have d1 := cell_at X7 1 _ rfl
    have d2 := cell_at X7 2 _ rfl
    have d3 := cell_at X7 3 _ rfl
    have hbe : bs [] = ⟨#[]⟩ := rfl
    rw [hbe] at d1 d2 hz
    have B8 := B7.alloc B7.size (.cells #[.int .i64 1, .string (bs s), .string (bs l), .int .i64 0] 25)
    have hm1 : ((2 + (m : Int)) == (hb.length : Int)) = true := by simp [hlI.out]
    clear L5 X5 L4 hb7 hb5 B5 B4 hy4 hy5 RR L7 X7
    go_wp2_with fail
    go_ret
    exact ⟨rfl, B8⟩

/-! ### The row's step -/
set_option maxRecDepth 100000 in
theorem lifted (os : Os) (started : os.Started) (H : Type) (enc : TypeId × Value → H) :
    ReturnsInHanded {} Tryz.checked os 3 .any (fun w args => (Rows.frameWholeSpec.pre enc Tryz.prog Tryz.f3 [] false w args ∧ laidMetH Tryz.prog laid8 w) ∧ sizedMet enc Tryz.prog Tryz.f3 (OpenSpec.ofChange Rows.frameWholeSpec) false w args)
      (Rows.frameWholeSpec.post enc Tryz.prog Tryz.f3 false true false false) := by
  refine returnsInHanded_of_change_and (C := Tryz.checked) (X := fun w _ => laidMetH Tryz.prog laid8 w) (fun _ _ _ hh h => h.of_heap hh) own started (by kernel_rfl) Tryz.func3
    (ChangeSpec.witness_shaped (enc := enc) (C := Tryz.checked) (os := os) (X := fun w _ => laidMetH Tryz.prog laid8 w) false (World.laidAll Tryz.prog os laid8) #[.int .i64 0, .string ByteArray.empty, .int .i64 0] 8 (World.laidAll_os _ _ _) (World.shaped_of_ZipB (by kernel_rfl) (by kernel_rfl)) (by kernel_rfl) (by kernel_rfl) (by kernel_rfl) (by rw [MakeChecks.laidMetH_plain _ _ _ (by kernel_rfl)]; exact laidMet_laidAll _ (by kernel_rfl) (by kernel_rfl))) ?_
  intro W base args ds gs before hval0 hW _ _ hL _
  have hval : ∀ (j : Nat) t v, Tryz.f3.params[j]? = some t → args[j]? = some v → Value.okWide Tryz.prog W .any base t v := hval0
  have hW' := hW
  obtain ⟨p, q, hA0, hV, rfl, hfz, hnd⟩ := hW
  have hA : DataW.TrodAll enc Tryz.prog W 0 (fun _ => true) true Tryz.f3.params.toList args.toList ds p := hA0
  rw [Tryz.params3] at hA hval
  obtain ⟨v0, vs0, d0, ds0, p0, q0, hargs, rfl, rfl, h0, r0⟩ := trodAll_cons hA
  obtain ⟨v1, vs1, d1, ds1, p1, q1, rfl, rfl, rfl, h1, r1⟩ := trodAll_cons r0
  obtain ⟨v2, vs2, d2, ds2, p2, q2, rfl, rfl, rfl, h2, r2⟩ := trodAll_cons r1
  obtain ⟨rfl, rfl, rfl⟩ := trodAll_nil r2
  obtain rfl : args = #[v0, v1, v2] := by cases args; simp_all
  obtain ⟨rfl, rfl⟩ := trodVars_none hV
  obtain ⟨a0, rfl, rfl, rfl, w0⟩ := open_int Tryz.underlying3 (hval 0 3 v0 rfl rfl) h0
  obtain ⟨a1, rfl, rfl, rfl, w1⟩ := open_string Tryz.underlying9 (hval 1 9 v1 rfl rfl) h1
  obtain ⟨a2, rfl, rfl, rfl, w2⟩ := open_int Tryz.underlying3 (hval 2 3 v2 rfl rfl) h2
  clear hA0 hval0
  simp only [List.append_nil, List.nil_append] at hW'
  refine (walk a0 w0 a1 w1 a2 w2 W (tab_of_laid hL)).mono fun e W' ⟨he, hg⟩ => ?_
  subst he
  exact ⟨_, rfl, _, _, _, [], _, [], hW', (trodAll_cons_mk (shut_bool Tryz.underlying4 _) trodAll_mk0), (trodAll_cons_mk (shut_int Tryz.underlying3 w0) (trodAll_cons_mk (shut_string Tryz.underlying9 w1) (trodAll_cons_mk (shut_int Tryz.underlying3 w2) trodAll_mk0))), rfl, hg.frame _, fun h => by cases h⟩

theorem row : Rows.FrameWholeSaid :=
  OpenClaim.holds_of_wide 3 Tryz.f3 rfl rfl rfl rfl rfl rfl rfl ⟨rfl, rfl, rfl, rfl, rfl⟩ rfl rfl rfl rfl rfl (by kernel_rfl) Tryz.func3 (by kernel_rfl)
    (of_decide_eq_true (by kernel_rfl)) (by unfold Func.isWrapper; first | (rw [if_pos (by decide +kernel)]; kernel_rfl) | (rw [if_neg (by decide +kernel)]; exact ⟨rfl, rfl⟩))
    (fun os started H enc _ => lifted os started H enc)

/-- The statement. -/
theorem proved : Rows.FrameWholeCardSaid :=
  Claim7.holds_tied_plain_at .later [] [.data, .data, .data, .data, .sentinel, .sentinel, .data, .pinned] true (true, "08a89a5e6364c45d122e8fb79607955d50091ce8c52acdef0af13553d2760fe6") true
    row (fun _ h => by cases h) (by kernel_rfl) (fun _ h => by cases h) frameWhole_row_tie rfl ⟨rfl, rfl⟩ (by kernel_rfl) rfl
    (fun f fn hf hfn => by
      obtain rfl : f = 3 := Option.some.inj ((show Tryz.prog.funcNamed "letterpress/letterpresslaw11.FrameWhole" = some 3 by kernel_rfl).symm.trans hf) |>.symm
      obtain rfl : fn = Tryz.f3 := (Option.some.inj (Tryz.func3.symm.trans hfn)).symm
      exact ⟨by kernel_rfl, fun j t ht => by
        rw [Tryz.params3] at ht
        have hm : t ∈ [3, 9, 3] := by simpa using Array.mem_of_getElem? ht
        have hall : ([3, 9, 3].all fun u => !Tryz.prog.wantsStandIn u) = true := by kernel_rfl
        exact (show Tryz.prog.wantsStandIn t = false by simpa using List.all_eq_true.1 hall t hm)⟩)
    (by kernel_rfl)
#print axioms proved
end Go.Proofs.YtkaclahcpmogaabGreatDoor.frameWhole
