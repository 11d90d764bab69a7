/- IsaApart at commit b60feb1: for any two instructions that may be, made of any numbers, the bytes of one are those of the other, as far as the shorter ones go, just where the two are the same. -/
import Derived.Test.YtcehfaonmiocgaaDoorRows
import Derived.WalkKit
import Derived.ProofKit
import Derived.OpenShut
import Derived.LaidMore
import Derived.Stop.Joined
import Derived.SevenTiedAt
import Derived.Laws.BytesArg
import Derived.Test.YtcehfaonmiocgaaDoorTie
import Derived.Test.YtcehfaonmiocgaaDoorCards
import Derived.Test.YtcehfaonmiocgaaDoorDoor
import Derived.Test.YtcehfaonmiocgaaDoorConv
import Derived.Test.YtcehfaonmiocgaaDoorEncodeAt
namespace Go.Proofs.YtcehfaonmiocgaaDoor.isaApart
open Plain
open Go.ChangeShapes Go.WideShapes Go.ChangeAt Go.RowKit
open Go.ChangeMaps (open_string shut_string)
set_option linter.unusedVariables false
set_option linter.unusedSimpArgs false

theorem own : ownKnob Tryd.prog.godebug = none := by kernel_rfl

/-! ### The walk -/
set_option maxHeartbeats 8000000 in
set_option maxRecDepth 20000 in
theorem walk (a0 : Int) (w0 : (Lit.int .i64 a0).wf = true) (v1 : Value) (a1 : List Int) (w1 : InRange a1) (l1 : a1.length ≤ maxLen) (a2 : Int) (w2 : (Lit.int .i64 a2).wf = true) (v3 : Value) (a3 : List Int) (w3 : InRange a3) (l3 : a3.length ≤ maxLen) (w : World) (T : Tab w) (s1 : SliceIs w v1 a1) (s3 : SliceIs w v3 a3) :
    Calls Tryd.prog 6 #[.int .i64 a0, v1, .int .i64 a2, v3] w fun e w' => e = .returned (.bool true) ∧ Below w.heap.size w w' := by
  have K0 := known_true w T
  go_enter Tryd.func6, Tryd.ntmps6
  go_wp2_with (go_at_call 9; refine K0.mono ?_; rintro e w1 ⟨rfl, hb1⟩)
  clear K0
  refine (make_any a0 v1 a1 w1 (s1.later hb1)).mono ?_
  rintro e w2 ⟨x, rfl, hx, hb2⟩
  have hb2 := hb1.trans (hb2.mono hb1.size)
  obtain ⟨px, cx, rfl, _⟩ := id hx
  go_wp2_with fail
  refine (make_any a2 v3 a3 w2 (s3.later hb2)).mono ?_
  rintro e w3 ⟨y, rfl, hy, hb3⟩
  have hx := (hx.later hb3).is
  have hb3 := hb2.trans (hb3.mono hb2.size)
  have hy := hy.is
  obtain ⟨py, cy, rfl, _⟩ := id hy
  have rx := made_right a0 a1
  have ry := made_right a2 a3
  have gx := made_range a0 a1
  have gy := made_range a2 a3
  have lx : (makeF a0 a1).length ≤ maxLen := by
    have := (rows_fields _ (rowP_mem (a0 % 66))).2.2.2.1
    rw [made_length]; unfold maxLen; omega
  have ix := isP_mod a0
  have iy := isP_mod a2
  generalize makeF a0 a1 = fx at *
  generalize makeF a2 a3 = fy at *
  generalize a0 % 66 = ox at *
  generalize a2 % 66 = oy at *
  have hb4 : Below w3.heap.size w3 ((w3.alloc (.cells #[.int .i64 ox, .slice px fx.length cx] 26)).alloc (.cells #[.int .i64 oy, .slice py fy.length cy] 26)) := ((Below.refl _ _).alloc (Nat.le_refl _) _).alloc (by simp) _
  have a1 := kept_alloc (o := .cells #[.int .i64 oy, .slice py fy.length cy] 26) (new_cell (w := w3) (t := 26) #[.int .i64 ox, .slice px fx.length cx] 0 (.int .i64 ox) rfl)
  have a2 := kept_alloc (o := .cells #[.int .i64 oy, .slice py fy.length cy] 26) (new_cell (w := w3) (t := 26) #[.int .i64 ox, .slice px fx.length cx] 1 (.slice px fx.length cx) rfl)
  have a3 := new_cell (w := w3.alloc (.cells #[.int .i64 ox, .slice px fx.length cx] 26)) (t := 26) #[.int .i64 oy, .slice py fy.length cy] 0 (.int .i64 oy) rfl
  have a4 := new_cell (w := w3.alloc (.cells #[.int .i64 ox, .slice px fx.length cx] 26)) (t := 26) #[.int .i64 oy, .slice py fy.length cy] 1 (.slice py fy.length cy) rfl
  rw [show (w3.alloc (.cells #[.int .i64 ox, .slice px fx.length cx] 26)).heap.size = w3.heap.size + 1 by simp] at a3 a4
  go_wp2_with fail
  have hx := hx.later hb4
  have hy := hy.later hb4
  have hb4 := hb3.trans (hb4.mono hb3.size)
  generalize (w3.alloc (.cells #[.int .i64 ox, .slice px fx.length cx] 26)).alloc (.cells #[.int .i64 oy, .slice py fy.length cy] 26) = w4 at *
  refine (encode_at ox _ fx w4 (T.later hb4) hx gx rx).mono ?_
  rintro e w5 ⟨p, rfl, hb5, hp⟩
  have hx := hx.later hb5
  have hy := hy.later hb5
  have a1 := kept_cell hb5 a1
  have a2 := kept_cell hb5 a2
  have a3 := kept_cell hb5 a3
  have a4 := kept_cell hb5 a4
  have hb5 := hb4.trans (hb5.mono hb4.size)
  obtain ⟨pp, cp, rfl, kp, hp⟩ := hp
  have lp := bytesP_length ix (codedP ox fx).1
  have zp := sizeP_is ix
  have yp := bytesP_bytes (sizeP ox) (codedP ox fx).1
  have AF := apart_fact rx ry
  have np : bytesP (sizeP ox) (codedP ox fx).1 ≠ [] := by intro h; rw [h] at lp; simp at lp; omega
  obtain ⟨bp, op, rfl, hpc⟩ := hp np
  go_wp2_with fail
  refine (encode_at oy _ fy w5 (T.later hb5) hy gy ry).mono ?_
  rintro e w6 ⟨q, rfl, hb6, hq⟩
  have hx := hx.later hb6
  have hy := hy.later hb6
  have hpc := fun i x hx => kept_cell hb6 (hpc i x hx)
  have a1 := kept_cell hb6 a1
  have a2 := kept_cell hb6 a2
  have a3 := kept_cell hb6 a3
  have a4 := kept_cell hb6 a4
  have hb6 := hb5.trans (hb6.mono hb5.size)
  clear hb1 hb2 hb3 hb4 hb5 s1 s3 T
  obtain ⟨qp, cq, rfl, kq, hq⟩ := hq
  have lq := bytesP_length iy (codedP oy fy).1
  have zq := sizeP_is iy
  have yq := bytesP_bytes (sizeP oy) (codedP oy fy).1
  have nq : bytesP (sizeP oy) (codedP oy fy).1 ≠ [] := by intro h; rw [h] at lq; simp at lq; omega
  obtain ⟨bq, oq, rfl, hqc⟩ := hq nq
  have Sm : ∀ d os, Calls Tryd.prog 16 #[.agg #[.int .i64 ox, .slice px fx.length cx], .agg #[.int .i64 oy, .slice py fy.length cy]] (Go.Sort.grow (redrawn w6 d) os) fun e w'' => e = .returned (.bool (decide (ox = oy ∧ fx = fy))) ∧ ∃ p : Regrown, w'' = Go.Sort.grow (redrawn w6 p.d) p.os := fun d os =>
    Calls.regrown_of (same_any ox oy _ _ fx fy _ (hx.later (below_regrown w6 d os)) (hy.later (below_regrown w6 d os)) lx)
  have r1 := cell_regrown a1
  have r2 := cell_regrown a2
  have r3 := cell_regrown a3
  have r4 := cell_regrown a4
  have V1 := fun m hm d os => conv_grown (W := w6) bp op m cp _ hm hpc d os
  have V2 := fun m hm d os => conv_grown (W := w6) bq oq m cq _ hm hqc d os
  have hlen : ∀ B : List Int, (B.length : Int) = 2 ∨ (B.length : Int) = 4 → B.length = 2 ∨ B.length = 4 := fun B h => by omega
  have zp := hlen _ (by rw [lp]; exact zp)
  have zq := hlen _ (by rw [lq]; exact zq)
  clear lp lq np nq hp hq hpc hqc hx hy a1 a2 a3 a4 rx ry gx gy ix iy hlen
  generalize bytesP (sizeP ox) (codedP ox fx).1 = B1 at *
  generalize bytesP (sizeP oy) (codedP oy fy).1 = B2 at *
  generalize decide (ox = oy ∧ fx = fy) = sm at *
  have tk : ∀ (B : List Int) (m : Nat), AreBytes B → AreBytes (B.take m) := fun B m h x hx => h x (List.mem_of_mem_take hx)
  have TS := text_same (tk B1 (min B1.length B2.length) yp) (tk B2 (min B1.length B2.length) yq)
  rw [AF] at TS
  clear tk yp yq AF
  obtain ⟨n1, hn1⟩ : ∃ n1, B1.length = n1 := ⟨_, rfl⟩
  obtain ⟨n2, hn2⟩ : ∃ n2, B2.length = n2 := ⟨_, rfl⟩
  simp only [hn1] at kp zp TS V1 ⊢
  simp only [hn2] at kq zq TS V2 ⊢
  clear hn1 hn2
  rcases zp with rfl | rfl <;> rcases zq with rfl | rfl
  · have V1 := V1 2 (by omega)
    have V2 := V2 2 (by omega)
    simp only [show min 2 2 = 2 from rfl] at TS
    have k1 : (2 : Int) ≤ (cp : Int) := by omega
    have k2 : (2 : Int) ≤ (cq : Int) := by omega
    go_wp2_with fail
    refine wp_region_quiet_below (by kernel_rfl) (by kernel_rfl) ?_
    repeat (quiet_step (with_reducible exact Sm _ _))
    refine wpQuiet_nil ?_
    intro _ hw'
    obtain ⟨⟨dq, osq⟩, hw''⟩ := hw'
    subst hw''
    go_wp2
    go_ret
    exact ⟨by simp [TS], reg_below hb6 _ _⟩
  · have V1 := V1 2 (by omega)
    have V2 := V2 2 (by omega)
    simp only [show min 2 4 = 2 from rfl] at TS
    have k1 : (2 : Int) ≤ (cp : Int) := by omega
    have k2 : (2 : Int) ≤ (cq : Int) := by omega
    go_wp2_with fail
    rw [show min (2 : Int) 4 = 2 from rfl]
    refine wp_region_quiet_below (by kernel_rfl) (by kernel_rfl) ?_
    repeat (quiet_step (with_reducible exact Sm _ _))
    refine wpQuiet_nil ?_
    intro _ hw'
    obtain ⟨⟨dq, osq⟩, hw''⟩ := hw'
    subst hw''
    go_wp2
    go_ret
    exact ⟨by simp [TS], reg_below hb6 _ _⟩
  · have V1 := V1 2 (by omega)
    have V2 := V2 2 (by omega)
    simp only [show min 4 2 = 2 from rfl] at TS
    have k1 : (2 : Int) ≤ (cp : Int) := by omega
    have k2 : (2 : Int) ≤ (cq : Int) := by omega
    go_wp2_with fail
    rw [show min (4 : Int) 2 = 2 from rfl]
    refine wp_region_quiet_below (by kernel_rfl) (by kernel_rfl) ?_
    repeat (quiet_step (with_reducible exact Sm _ _))
    refine wpQuiet_nil ?_
    intro _ hw'
    obtain ⟨⟨dq, osq⟩, hw''⟩ := hw'
    subst hw''
    go_wp2
    go_ret
    exact ⟨by simp [TS], reg_below hb6 _ _⟩
  · have V1 := V1 4 (by omega)
    have V2 := V2 4 (by omega)
    simp only [show min 4 4 = 4 from rfl] at TS
    have k1 : (4 : Int) ≤ (cp : Int) := by omega
    have k2 : (4 : Int) ≤ (cq : Int) := by omega
    go_wp2_with fail
    refine wp_region_quiet_below (by kernel_rfl) (by kernel_rfl) ?_
    repeat (quiet_step (with_reducible exact Sm _ _))
    refine wpQuiet_nil ?_
    intro _ hw'
    obtain ⟨⟨dq, osq⟩, hw''⟩ := hw'
    subst hw''
    go_wp2
    go_ret
    exact ⟨by simp [TS], reg_below hb6 _ _⟩

/-! ### The row's step -/
set_option maxRecDepth 100000 in
theorem lifted (os : Os) (started : os.Started) (H : Type) (enc : TypeId × Value → H) :
    ReturnsInHanded {} Tryd.checked os 6 .any (fun w args => (Rows.isaApartSpec.pre enc Tryd.prog Tryd.f6 [] false w args ∧ laidMetH Tryd.prog laid4 w) ∧ sizedMet enc Tryd.prog Tryd.f6 (OpenSpec.ofChange Rows.isaApartSpec) false w args)
      (Rows.isaApartSpec.post enc Tryd.prog Tryd.f6 false true false false) := by
  refine returnsInHanded_of_change_and (C := Tryd.checked) (X := fun w _ => laidMetH Tryd.prog laid4 w) (fun _ _ _ hh h => h.of_heap hh) own started (by kernel_rfl) Tryd.func6
    (ChangeSpec.witness_shaped (enc := enc) (C := Tryd.checked) (os := os) (X := fun w _ => laidMetH Tryd.prog laid4 w) false (World.doorLaid Tryd.prog 400 os) #[.int .i64 0, .slice none 0 0, .int .i64 0, .slice none 0 0] 8 rfl (World.shaped_of_RefB (by kernel_rfl) (by kernel_rfl)) (by kernel_rfl) (by kernel_rfl) (by kernel_rfl) (door_met os _)) ?_
  intro W base args ds gs before hval0 hW _ _ hL _
  have hval : ∀ (j : Nat) t v, Tryd.f6.params[j]? = some t → args[j]? = some v → Value.okWide Tryd.prog W .any base t v := hval0
  have hW' := hW
  obtain ⟨p, q, hA0, hV, rfl, hfz, hnd⟩ := hW
  have hA : DataW.TrodAll enc Tryd.prog W 0 (fun _ => true) true Tryd.f6.params.toList args.toList ds p := hA0
  rw [Tryd.params6] at hA hval
  obtain ⟨v0, vs0, d0, ds0, p0, q0, hargs, rfl, rfl, h0, r0⟩ := trodAll_cons hA
  obtain ⟨v1, vs1, d1, ds1, p1, q1, rfl, rfl, rfl, h1, r1⟩ := trodAll_cons r0
  obtain ⟨v2, vs2, d2, ds2, p2, q2, rfl, rfl, rfl, h2, r2⟩ := trodAll_cons r1
  obtain ⟨v3, vs3, d3, ds3, p3, q3, rfl, rfl, rfl, h3, r3⟩ := trodAll_cons r2
  obtain ⟨rfl, rfl, rfl⟩ := trodAll_nil r3
  obtain rfl : args = #[v0, v1, v2, v3] := by cases args; simp_all
  obtain ⟨rfl, rfl⟩ := trodVars_none hV
  obtain ⟨a0, rfl, rfl, rfl, w0⟩ := open_int Tryd.underlying3 (hval 0 3 v0 rfl rfl) h0
  have k1 := h1
  obtain ⟨a1, s1, w1, l1⟩ := open_ints' (hval 1 22 v1 rfl rfl) h1
  obtain ⟨a2, rfl, rfl, rfl, w2⟩ := open_int Tryd.underlying3 (hval 2 3 v2 rfl rfl) h2
  have k3 := h3
  obtain ⟨a3, s3, w3, l3⟩ := open_ints' (hval 3 22 v3 rfl rfl) h3
  clear hA0 hval0
  simp only [List.append_nil, List.nil_append] at hW'
  have hlt : ∀ x ∈ p1 ++ p3, x.block < W.heap.size := fun x hx => by simpa using hW'.lt x (by simpa [or_assoc] using hx)
  refine (walk a0 w0 v1 a1 w1 l1 a2 w2 v3 a3 w3 l3 W (tab_of_laid hL) s1 s3).mono fun e W' ⟨he, hg⟩ => ?_
  subst he
  exact ⟨_, rfl, _, _, _, [], _, [], hW', (trodAll_cons_mk (shut_bool Tryd.underlying4 _) trodAll_mk0), (trodAll_cons_mk (shut_int Tryd.underlying3 w0) (trodAll_cons_mk (Below.trod laidOut (by kernel_rfl) (of_decide_eq_true (by kernel_rfl)) k1 hg (fun x hx => hlt x (by simp [hx]))) (trodAll_cons_mk (shut_int Tryd.underlying3 w2) (trodAll_cons_mk (Below.trod laidOut (by kernel_rfl) (of_decide_eq_true (by kernel_rfl)) k3 hg (fun x hx => hlt x (by simp [hx]))) trodAll_mk0)))), rfl, hg.frame _, fun h => by cases h⟩

theorem row : Rows.IsaApartSaid :=
  OpenClaim.holds_of_wide 6 Tryd.f6 rfl rfl rfl rfl rfl rfl rfl ⟨rfl, rfl, rfl, rfl, rfl⟩ rfl rfl rfl rfl rfl (by kernel_rfl) Tryd.func6 (by kernel_rfl)
    (of_decide_eq_true (by kernel_rfl)) (by unfold Func.isWrapper; first | (rw [if_pos (by decide +kernel)]; kernel_rfl) | (rw [if_neg (by decide +kernel)]; exact ⟨rfl, rfl⟩))
    (fun os started H enc _ => lifted os started H enc)

/-- The statement. -/
theorem proved : Rows.IsaApartCardSaid :=
  Claim7.holds_tied_plain_at .later [] [.listed, .data, .data, .data] true (true, "445fb9fe314dc75a4bf0a050ff9a5be1ca2ccd5893ae215d4f1456f749247838") false
    row (fun _ h => by cases h) (by kernel_rfl) (fun _ h => by cases h) isaApart_row_tie rfl ⟨rfl, rfl⟩ (by kernel_rfl) rfl
    (fun f fn hf hfn => by
      obtain rfl : f = 6 := Option.some.inj ((show Tryd.prog.funcNamed "letterpress/letterpresslaw2.IsaApart" = some 6 by kernel_rfl).symm.trans hf) |>.symm
      obtain rfl : fn = Tryd.f6 := (Option.some.inj (Tryd.func6.symm.trans hfn)).symm
      exact ⟨by kernel_rfl, fun j t ht => by
        rw [Tryd.params6] at ht
        have hm : t ∈ [3, 22, 3, 22] := by simpa using Array.mem_of_getElem? ht
        have hall : ([3, 22, 3, 22].all fun u => !Tryd.prog.wantsStandIn u) = true := by kernel_rfl
        exact (show Tryd.prog.wantsStandIn t = false by simpa using List.all_eq_true.1 hall t hm)⟩)
    (by kernel_rfl)
#print axioms proved
end Go.Proofs.YtcehfaonmiocgaaDoor.isaApart
