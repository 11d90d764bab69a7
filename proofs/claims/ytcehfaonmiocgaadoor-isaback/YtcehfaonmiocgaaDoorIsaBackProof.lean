/- IsaBack at commit b60feb1: any instruction that is made of numbers is encoded to the bytes that the document says, may be, and is decoded from them as it was, whatever bytes (up to a hundred) are behind. -/
import Derived.Test.YtcehfaonmiocgaaDoorRows
import Derived.WalkKit
import Derived.ProofKit
import Derived.OpenShut
import Derived.LaidMore
import Derived.Stop.Joined
import Derived.SevenTiedAt
import Derived.Laws.BytesArg
import Derived.BigQuiet
import Derived.Test.YtcehfaonmiocgaaDoorTie
import Derived.Test.YtcehfaonmiocgaaDoorCards
import Derived.Test.YtcehfaonmiocgaaDoorDoor
import Derived.Test.YtcehfaonmiocgaaDoorConv
import Derived.Test.YtcehfaonmiocgaaDoorEncodeAt
import Derived.Test.YtcehfaonmiocgaaDoorCopy
import Derived.Test.YtcehfaonmiocgaaDoorCopy2
import Derived.Test.YtcehfaonmiocgaaDoorBits2
import Derived.Test.YtcehfaonmiocgaaDoorRefEncode
import Derived.Test.YtcehfaonmiocgaaDoorApp
namespace Go.Proofs.YtcehfaonmiocgaaDoor.isaBack
open Plain
open Go.ChangeShapes Go.WideShapes Go.ChangeAt Go.RowKit
open Go.ChangeMaps (open_string shut_string)
set_option linter.unusedVariables false
set_option linter.unusedSimpArgs false

theorem own : ownKnob Tryd.prog.godebug = none := by kernel_rfl

/-! ### The walk -/
set_option maxHeartbeats 8000000 in
set_option maxRecDepth 20000 in
theorem walk (a0 : Int) (w0 : (Lit.int .i64 a0).wf = true) (v1 : Value) (a1 : List Int) (w1 : InRange a1) (l1 : a1.length ≤ maxLen) (v2 : Value) (a2 : List Int) (w2 : AreBytes a2) (l2 : a2.length ≤ maxLen) (w : World) (T : Tab w) (s1 : SliceIs w v1 a1) (s2 : BytesAt w v2 a2) :
    Calls Tryd.prog 3 #[.int .i64 a0, v1, v2] w fun e w' => e = .returned (.bool true) ∧ Below w.heap.size w w' := by
  have K0 := known_true w T
  obtain ⟨pm, cm, rfl, km, hm⟩ := s2
  have lm : Hid (a2.length ≤ maxLen) := l2
  have hby : AreBytes a2 := w2
  clear w2
  clear l2
  go_enter Tryd.func3, Tryd.ntmps3
  by_cases hlen : 100 < a2.length
  · have hl' : (100 : Int) < (a2.length : Int) := by omega
    go_wp2_with (go_at_call 9; refine K0.mono ?_; rintro e w1 ⟨rfl, hb1⟩)
    go_ret
    exact ⟨rfl, hb1⟩
  have hl' : ¬ (100 : Int) < (a2.length : Int) := by omega
  go_wp2_with (go_at_call 9; refine K0.mono ?_; rintro e w1 ⟨rfl, hb1⟩)
  clear K0
  refine (make_cap a0 v1 a1 w1 (s1.later hb1)).mono ?_
  rintro e w2 ⟨x, rfl, hx, hb2, kx⟩
  replace hb2 := hb1.trans (hb2.mono hb1.size)
  replace hx := hx.is
  obtain ⟨px, cx, rfl, hj⟩ := id hx
  clear hj kx hb1
  have rx := made_right a0 a1
  have gx := made_range a0 a1
  have ix := isP_mod a0
  have l3 : (makeF a0 a1).length ≤ maxLen := by
    have := (rows_fields _ (rowP_mem (a0 % 66))).2.2.2.1
    rw [made_length]; unfold maxLen; omega
  generalize makeF a0 a1 = fx at *
  generalize a0 % 66 = ox at *
  have hb3 : Below w2.heap.size w2 (w2.alloc (.cells #[.int .i64 ox, .slice px fx.length cx] 26)) := (Below.refl _ _).alloc (Nat.le_refl _) _
  have b1 := new_cell (w := w2) (t := 26) #[.int .i64 ox, .slice px fx.length cx] 0 (.int .i64 ox) rfl
  have b2 := new_cell (w := w2) (t := 26) #[.int .i64 ox, .slice px fx.length cx] 1 (.slice px fx.length cx) rfl
  go_wp2_with fail
  replace hx := hx.later hb3
  replace hb3 := hb2.trans (hb3.mono hb2.size)
  clear hb2
  generalize w2.alloc (.cells #[.int .i64 ox, .slice px fx.length cx] 26) = w3 at *
  refine (encode_at ox _ fx w3 (T.later hb3) hx gx rx).mono ?_
  rintro e w4 ⟨p, rfl, hb4, hp⟩
  replace hx := hx.later hb4
  replace b1 := kept_cell hb4 b1
  replace b2 := kept_cell hb4 b2
  replace hb4 := hb3.trans (hb4.mono hb3.size)
  clear hb3
  have zs := sizeP_is ix
  have lp := bytesP_length ix (codedP ox fx).1
  have np : bytesP (sizeP ox) (codedP ox fx).1 ≠ [] := by intro h; rw [h] at lp; simp at lp; omega
  obtain ⟨pp, cp, rfl, kp, hpp⟩ := hp
  obtain ⟨bp, op, rfl, hpc⟩ := hpp np
  clear hpp
  go_wp2_with fail
  refine (refEncode_yes ox _ fx w4 hx gx l3 rx).mono ?_
  rintro e w5 ⟨q, rfl, hb5, hq⟩
  replace hx := hx.later hb5
  replace b1 := kept_cell hb5 b1
  replace b2 := kept_cell hb5 b2
  replace hpc := fun i x hx => kept_cell hb5 (hpc i x hx)
  replace hb5 := hb4.trans (hb5.mono hb4.size)
  clear hb4
  obtain ⟨qq, cq, rfl, kq, hqq⟩ := hq
  obtain ⟨bq, oq, rfl, hqc⟩ := hqq np
  clear hqq np
  have DF := decode_of (Prod.ext rfl rx : codedP ox fx = ((codedP ox fx).1, true)) a2
  have yB := bytesP_bytes (sizeP ox) (codedP ox fx).1
  have R := right_any ox _ fx w5 (T.later hb5) hx gx
  rw [rx] at R
  have Z := fun W => size_any ox W
  have V1 := conv_at (W := w5) bp op _ cp _ rfl hpc
  have V2 := conv_at (W := w5) bq oq _ cq _ rfl hqc
  generalize bytesP (sizeP ox) (codedP ox fx).1 = B at *
  have nB : Hid (B.length ≤ 4) := by show _ ≤ _; omega
  have hlI : Hid (a2.length ≤ 100) := by show _ ≤ _; omega
  clear hlen
  go_wp2_with (first | (go_at_call 13; refine R.mono ?_; rintro e w6 ⟨rfl, hb6⟩; have b1 := kept_cell hb6 b1) | (go_at_call 14; refine (Z _).mono ?_; rintro e w7 ⟨rfl, rfl⟩) | (at_builtin; refine wpList_app rfl (.tmp 60) (.tmp 61) 23 rfl 5 (.int .u8 0) 1 Tryd.underlying23 info_u8 rfl w6.heap.size (.slice (some ⟨w6.heap.size, 0, none⟩) 0 0) [] rfl (row_nil (Nat.le_refl _) (new_block w6 #[] 5)) _ (B.map fun x => Value.int .u8 x) rfl (holds_bytes (⟨_, _, rfl, kp, fun _ => ⟨bp, op, rfl, fun i x hx => kept_alloc (kept_cell hb6 (hpc i x hx))⟩⟩ : BytesAt (w6.alloc (.cells #[] 5)) _ B)) (by simp [Value.oneCell']) (by have := nB.out; simp; unfold maxLen; omega) (by have := nB.out; simp; omega) (by simp) B.length (by simp) ?_; intro p1 cp1 w8 own1 hg1; have own1 : w8.ownsRow w6.heap.size 5 1 (.slice p1 B.length cp1) (B.map fun x => Value.int .u8 x).length (B.map fun x => Value.int .u8 x) := (by simpa using own1); have hB6 : Below w.heap.size w w6 := hb5.trans (hb6.mono hb5.size); have hB8 : Below w6.heap.size w6 w8 := below_grown ((Below.refl w6.heap.size w6).alloc (Nat.le_refl _) (.cells #[] 5)) (by simp) hg1 (by simp [Value.ownBlock]); have hW8 : Below w.heap.size w w8 := hB6.trans (hB8.mono hB6.size)) | (at_builtin; refine wpList_app rfl (.tmp 62) (.tmp 63) 23 rfl 5 (.int .u8 0) 1 Tryd.underlying23 info_u8 rfl w6.heap.size (.slice p1 B.length cp1) _ rfl own1 _ (a2.map fun x => Value.int .u8 x) rfl (holds_bytes (⟨pm, cm, rfl, km, fun hn => (let ⟨b, o, e, h⟩ := hm hn; ⟨b, o, e, fun i x hx => kept_cell hW8 (h i x hx)⟩)⟩ : BytesAt w8 _ a2)) (by simp [Value.oneCell']) (by have := nB.out; have := hlI.out; simp; unfold maxLen; omega) (by have := nB.out; have := hlI.out; simp; omega) hB8.size (B.length + a2.length) (by simp) ?_; intro p2 cp2 w9 own2 hg2))
  have hB9 : Below w6.heap.size w6 w9 := below_grown hB8 hB8.size hg2 (fun j hj => (own1.lt j hj).1)
  have hW9 : Below w.heap.size w w9 := hB6.trans (hB9.mono hB6.size)
  have BA : BytesAt w9 (.slice p2 (B.length + a2.length) cp2) (B ++ a2) := bytes_of_row (by rw [List.length_append, List.map_append]; exact own2)
  have D := decode_any _ (B ++ a2) w9 (T.later hW9) BA (fun x hx => by
    rcases List.mem_append.1 hx with h | h
    · exact yB x h
    · exact hby x h)
  rw [DF] at D
  refine D.mono ?_
  rintro e w10 ⟨hb10, hD⟩
  obtain ⟨vc, rfl, hvc⟩ := hD
  replace hvc := hvc.is
  replace hx := ((hx.later hb6).later hB9).later hb10
  have x0 := kept_cell hb10 (kept_cell hB9 b1)
  have x1 := kept_cell hb10 (kept_cell hB9 (kept_cell hb6 b2))
  have hW10 := hW9.trans (hb10.mono hW9.size)
  obtain ⟨pc, cc, rfl, hjunk⟩ := id hvc
  have ha := (Below.refl w10.heap.size w10).alloc (Nat.le_refl _) (.cells #[.int .i64 ox, .slice pc fx.length cc] 26)
  have S := same_any ox ox _ _ fx fx _ (hx.later ha) (hvc.later ha) l3
  rw [decide_eq_true (⟨rfl, rfl⟩ : ox = ox ∧ fx = fx)] at S
  replace x0 := kept_cell ha x0
  replace x1 := kept_cell ha x1
  have c0 := new_cell (w := w10) (t := 26) #[.int .i64 ox, .slice pc fx.length cc] 0 (.int .i64 ox) rfl
  have c1 := new_cell (w := w10) (t := 26) #[.int .i64 ox, .slice pc fx.length cc] 1 (.slice pc fx.length cc) rfl
  have hW11 := hW10.trans (ha.mono hW10.size)
  clear hjunk D BA own1 own2 hg1 hg2 hB6 hB8 hB9 hW8 hW9 hW10 hb10 hvc hx hb5 hb6 hpc hqc R Z V1 V2 b1 b2 DF T hm ha
  go_wp2_with (go_at_call 16; refine S.mono ?_; rintro e w12 ⟨rfl, hb12⟩)
  go_ret
  exact ⟨rfl, hW11.trans (hb12.mono hW11.size)⟩

/-! ### The row's step -/
set_option maxRecDepth 100000 in
theorem lifted (os : Os) (started : os.Started) (H : Type) (enc : TypeId × Value → H) :
    ReturnsInHanded {} Tryd.checked os 3 .any (fun w args => (Rows.isaBackSpec.pre enc Tryd.prog Tryd.f3 [] false w args ∧ laidMetH Tryd.prog laid4 w) ∧ sizedMet enc Tryd.prog Tryd.f3 (OpenSpec.ofChange Rows.isaBackSpec) false w args)
      (Rows.isaBackSpec.post enc Tryd.prog Tryd.f3 false true false false) := by
  refine returnsInHanded_of_change_and (C := Tryd.checked) (X := fun w _ => laidMetH Tryd.prog laid4 w) (fun _ _ _ hh h => h.of_heap hh) own started (by kernel_rfl) Tryd.func3
    (ChangeSpec.witness_shaped (enc := enc) (C := Tryd.checked) (os := os) (X := fun w _ => laidMetH Tryd.prog laid4 w) false (World.doorLaid Tryd.prog 400 os) #[.int .i64 0, .slice none 0 0, .slice none 0 0] 8 rfl (World.shaped_of_RefB (by kernel_rfl) (by kernel_rfl)) (by kernel_rfl) (by kernel_rfl) (by kernel_rfl) (door_met os _)) ?_
  intro W base args ds gs before hval0 hW _ _ hL _
  have hval : ∀ (j : Nat) t v, Tryd.f3.params[j]? = some t → args[j]? = some v → Value.okWide Tryd.prog W .any base t v := hval0
  have hW' := hW
  obtain ⟨p, q, hA0, hV, rfl, hfz, hnd⟩ := hW
  have hA : DataW.TrodAll enc Tryd.prog W 0 (fun _ => true) true Tryd.f3.params.toList args.toList ds p := hA0
  rw [Tryd.params3] at hA hval
  obtain ⟨v0, vs0, d0, ds0, p0, q0, hargs, rfl, rfl, h0, r0⟩ := trodAll_cons hA
  obtain ⟨v1, vs1, d1, ds1, p1, q1, rfl, rfl, rfl, h1, r1⟩ := trodAll_cons r0
  obtain ⟨v2, vs2, d2, ds2, p2, q2, rfl, rfl, rfl, h2, r2⟩ := trodAll_cons r1
  obtain ⟨rfl, rfl, rfl⟩ := trodAll_nil r2
  obtain rfl : args = #[v0, v1, v2] := by cases args; simp_all
  obtain ⟨rfl, rfl⟩ := trodVars_none hV
  obtain ⟨a0, rfl, rfl, rfl, w0⟩ := open_int Tryd.underlying3 (hval 0 3 v0 rfl rfl) h0
  have k1 := h1
  obtain ⟨a1, s1, w1, l1⟩ := open_ints' (hval 1 22 v1 rfl rfl) h1
  have k2 := h2
  obtain ⟨a2, s2, w2, l2⟩ := open_bytes' (hval 2 23 v2 rfl rfl) h2
  clear hA0 hval0
  simp only [List.append_nil, List.nil_append] at hW'
  have hlt : ∀ x ∈ p1 ++ p2, x.block < W.heap.size := fun x hx => by simpa using hW'.lt x (by simpa [or_assoc] using hx)
  refine (walk a0 w0 v1 a1 w1 l1 v2 a2 w2 l2 W (tab_of_laid hL) s1 s2).mono fun e W' ⟨he, hg⟩ => ?_
  subst he
  exact ⟨_, rfl, _, _, _, [], _, [], hW', (trodAll_cons_mk (shut_bool Tryd.underlying4 _) trodAll_mk0), (trodAll_cons_mk (shut_int Tryd.underlying3 w0) (trodAll_cons_mk (Below.trod laidOut (by kernel_rfl) (of_decide_eq_true (by kernel_rfl)) k1 hg (fun x hx => hlt x (by simp [hx]))) (trodAll_cons_mk (Below.trod laidOut (by kernel_rfl) (of_decide_eq_true (by kernel_rfl)) k2 hg (fun x hx => hlt x (by simp [hx]))) trodAll_mk0))), rfl, hg.frame _, fun h => by cases h⟩

theorem row : Rows.IsaBackSaid :=
  OpenClaim.holds_of_wide 3 Tryd.f3 rfl rfl rfl rfl rfl rfl rfl ⟨rfl, rfl, rfl, rfl, rfl⟩ rfl rfl rfl rfl rfl (by kernel_rfl) Tryd.func3 (by kernel_rfl)
    (of_decide_eq_true (by kernel_rfl)) (by unfold Func.isWrapper; first | (rw [if_pos (by decide +kernel)]; kernel_rfl) | (rw [if_neg (by decide +kernel)]; exact ⟨rfl, rfl⟩))
    (fun os started H enc _ => lifted os started H enc)

/-- The statement. -/
theorem proved : Rows.IsaBackCardSaid :=
  Claim7.holds_tied_plain_at .later [] [.listed, .data, .data, .data] true (true, "445fb9fe314dc75a4bf0a050ff9a5be1ca2ccd5893ae215d4f1456f749247838") false
    row (fun _ h => by cases h) (by kernel_rfl) (fun _ h => by cases h) isaBack_row_tie rfl ⟨rfl, rfl⟩ (by kernel_rfl) rfl
    (fun f fn hf hfn => by
      obtain rfl : f = 3 := Option.some.inj ((show Tryd.prog.funcNamed "letterpress/letterpresslaw2.IsaBack" = some 3 by kernel_rfl).symm.trans hf) |>.symm
      obtain rfl : fn = Tryd.f3 := (Option.some.inj (Tryd.func3.symm.trans hfn)).symm
      exact ⟨by kernel_rfl, fun j t ht => by
        rw [Tryd.params3] at ht
        have hm : t ∈ [3, 22, 23] := by simpa using Array.mem_of_getElem? ht
        have hall : ([3, 22, 23].all fun u => !Tryd.prog.wantsStandIn u) = true := by kernel_rfl
        exact (show Tryd.prog.wantsStandIn t = false by simpa using List.all_eq_true.1 hall t hm)⟩)
    (by kernel_rfl)
#print axioms proved
end Go.Proofs.YtcehfaonmiocgaaDoor.isaBack
