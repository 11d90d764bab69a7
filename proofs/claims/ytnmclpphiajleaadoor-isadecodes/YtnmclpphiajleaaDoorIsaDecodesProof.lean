/- IsaDecodes at commit 4eb6062: of any bytes (an argument of up to 100, an instruction of numbers with one bit turned, without its last byte, without its first) what they are, how many, or that they are nothing, is the same by the program and by the document said a second time; what they are is encoded as they were. Conditions: the listed package variables read as the program lays them (a tied card). -/
import Derived.Test.YtnmclpphiajleaaDoorRows
import Derived.WalkKit
import Derived.ProofKit
import Derived.OpenShut
import Derived.LaidMore
import Derived.Stop.Joined
import Derived.SevenTiedAt
import Derived.Laws.BytesArg
import Derived.BigQuiet
import Derived.Test.YtnmclpphiajleaaDoorTie
import Derived.Test.YtnmclpphiajleaaDoorCards
import Derived.Test.YtnmclpphiajleaaDoorDoor
import Derived.Test.YtnmclpphiajleaaDoorConv
import Derived.Test.YtnmclpphiajleaaDoorEncodeAt
import Derived.Test.YtnmclpphiajleaaDoorCopy
import Derived.Test.YtnmclpphiajleaaDoorCopy2
import Derived.Test.YtnmclpphiajleaaDoorBits2
import Derived.Test.YtnmclpphiajleaaDoorApp
import Derived.Test.YtnmclpphiajleaaDoorArgs2
import Derived.Test.YtnmclpphiajleaaDoorDecodes
namespace Go.Proofs.YtnmclpphiajleaaDoor.isaDecodes
open Plain
open Go.ChangeShapes Go.WideShapes Go.ChangeAt Go.RowKit
open Go.ChangeMaps (open_string shut_string)
set_option linter.unusedVariables false
set_option linter.unusedSimpArgs false

theorem own : ownKnob Tryd.prog.godebug = none := by kernel_rfl

/-! ### The walk -/
set_option maxHeartbeats 8000000 in
set_option maxRecDepth 20000 in
theorem walk (v0 : Value) (a0 : List Int) (w0 : AreBytes a0) (l0 : a0.length ≤ maxLen) (a1 : Int) (w1 : (Lit.int .i64 a1).wf = true) (v2 : Value) (a2 : List Int) (w2 : InRange a2) (l2 : a2.length ≤ maxLen) (a3 : Int) (w3 : (Lit.int .i64 a3).wf = true) (w : World) (T : Tab w) (s0 : BytesAt w v0 a0) (s2 : SliceIs w v2 a2) :
    Calls Tryd.prog 3 #[v0, .int .i64 a1, v2, .int .i64 a3] w fun e w' => e = .returned (.bool true) ∧ Below w.heap.size w w' := by
  have K0 := known_true w T
  have hby : AreBytes a0 := w0
  clear w0
  obtain ⟨p0, c0, rfl, k0, h0⟩ := id s0
  clear h0
  go_enter Tryd.func3, Tryd.ntmps3
  by_cases hlen : 100 < a0.length
  · have hl' : (100 : Int) < (a0.length : Int) := by omega
    go_wp2_with (go_at_call 4; refine K0.mono ?_; rintro e w1 ⟨rfl, hb1⟩)
    go_ret
    exact ⟨rfl, hb1⟩
  have hl' : ¬ (100 : Int) < (a0.length : Int) := by omega
  go_wp2_with (go_at_call 4; refine K0.mono ?_; rintro e w1 ⟨rfl, hb1⟩)
  clear K0
  refine (make_cap a1 v2 a2 w1 (s2.later hb1)).mono ?_
  rintro e w2 ⟨x, rfl, hx, hb2, kx⟩
  replace hb2 := hb1.trans (hb2.mono hb1.size)
  replace hx := hx.is
  obtain ⟨px, cx, rfl, hj⟩ := id hx
  clear hj kx hb1
  have rx := made_right a1 a2
  have gx := made_range a1 a2
  have ix := isP_mod a1
  have l3 : (makeF a1 a2).length ≤ maxLen := by
    have := (rows_fields _ (rowP_mem (a1 % 66))).2.2.2.1
    rw [made_length]; unfold maxLen; omega
  generalize makeF a1 a2 = fx at *
  generalize a1 % 66 = ox at *
  have E := refEncode_yes ox _ fx w2 hx gx l3 rx
  have zs := sizeP_is ix
  have lp := bytesP_length ix (codedP ox fx).1
  have hBb := bytesP_bytes (sizeP ox) (codedP ox fx).1
  generalize bytesP (sizeP ox) (codedP ox fx).1 = B at *
  clear rx gx ix l3
  go_wp2_with fail
  refine E.mono ?_
  rintro e w3 ⟨vb, rfl, hb3, hB⟩
  replace hb3 := hb2.trans (hb3.mono hb2.size)
  clear E hb2 hx
  have nB : B ≠ [] := by rintro rfl; simp at lp; omega
  obtain ⟨pb, cb, rfl, kb, hBc⟩ := id hB
  obtain ⟨bb, ob, rfl, hBc⟩ := hBc nB
  have hl24 : B.length = 2 ∨ B.length = 4 := by omega
  clear lp zs
  have nB4 : Hid (B.length ≤ 4) := by show _ ≤ _; omega
  have Wi := fun W => within_any a3 (8 * (B.length : Int)) (by omega) (by omega) W
  obtain ⟨kk, hk⟩ : ∃ kk : Nat, a3 % (8 * (B.length : Int)) = (kk : Int) := Int.eq_ofNat_of_zero_le (Int.emod_nonneg _ (by omega))
  have hk8 : (kk : Int) < 8 * (B.length : Int) := by rw [← hk]; exact Int.emod_lt_of_pos _ (by omega)
  rw [hk] at Wi
  clear hk hlen
  obtain ⟨q, hq⟩ : ∃ q : Nat, (kk : Int) / 8 = (q : Int) := Int.eq_ofNat_of_zero_le (by omega)
  obtain ⟨r, hr⟩ : ∃ r : Nat, (kk : Int) % 8 = (r : Int) := Int.eq_ofNat_of_zero_le (by omega)
  have hqB : q < B.length := by omega
  have hr8 : (r : Int) < 8 := by omega
  have hqI : (q : Int) < (B.length : Int) := by omega
  have hB' : BytesAt (w3.alloc (.cells #[] 5)) (.slice (some ⟨bb, ob, none⟩) B.length cb) B := hB.later ((Below.refl _ _).alloc (Nat.le_refl _) _)
  have hHo := holds_bytes hB'
  have hm1 : ([] : List Value).length + (B.map fun x => Value.int .u8 x).length ≤ maxLen := by have := nB4.out; simp; unfold maxLen; omega
  have hm2 : (([] : List Value).length + (B.map fun x => Value.int .u8 x).length) * 1 ≤ 140737488355328 := by have := nB4.out; simp; omega
  go_wp2_with (at_builtin; refine wpList_app rfl (.tmp 35) (.tmp 36) 22 rfl 5 (.int .u8 0) 1 Tryd.underlying22 info_u8 rfl w3.heap.size (.slice (some ⟨w3.heap.size, 0, none⟩) 0 0) [] rfl (row_nil (Nat.le_refl _) (new_block w3 #[] 5)) _ (B.map fun x => Value.int .u8 x) rfl hHo (by simp [Value.oneCell']) hm1 hm2 (by simp) B.length (by simp) ?_; intro p1 cp1 w4 own1 hg1)
  replace own1 : w4.ownsRow w3.heap.size 5 1 (.slice p1 B.length cp1) B.length (B.map fun x => Value.int .u8 x) := by simpa using own1
  have hb4 : Below w3.heap.size w3 w4 := below_grown ((Below.refl w3.heap.size w3).alloc (Nat.le_refl _) (.cells #[] 5)) (by simp) hg1 (by simp [Value.ownBlock])
  obtain ⟨gz, cz, ez, hz1, hz2, hz3, hz4⟩ := row_bytes own1 nB
  cases ez
  obtain ⟨y, hy⟩ : ∃ y, B[q]? = some y := ⟨_, List.getElem?_eq_getElem hqB⟩
  have cy := hz4 q y hy
  have fy := hz3 q
  obtain ⟨y0, y1⟩ := hBb y (List.mem_of_getElem? hy)
  replace hz4 : Hid (∀ (i : Nat) (x : Int), B[i]? = some x → w4.cell? ⟨gz, i, none⟩ = some (.int .u8 x)) := hz4
  replace hBc : Hid (∀ (i : Nat) (x : Int), B[i]? = some x → w3.cell? ⟨bb, ob + i, none⟩ = some (.int .u8 x)) := by obtain ⟨_, _, e, h⟩ := hBc nB; cases e; exact h
  have gzl := block_lt_of_cell cy
  clear own1 hg1 hHo hB' hz3
  refine (Wi _).mono ?_
  rintro e w' ⟨rfl, rfl⟩
  clear Wi
  have yy : Hid (B[q]? = some y) := hy
  clear hy
  go_wp2
  obtain ⟨t0, t1⟩ := xor_u8 y (2 ^ r % 256)
  generalize bits BinOp.xor IntKind.u8 y (2 ^ r % 256) = ty at *
  have hzB := bytes_set (W := w4) (c := cp1) (v := ty) hqB rfl hz2 hz4.out
  have bbl : bb < w3.heap.size := by
    obtain ⟨y', hy'⟩ : ∃ y', B[0]? = some y' := ⟨_, List.getElem?_eq_getElem (by omega)⟩
    exact block_lt_of_cell (hBc.out 0 y' hy')
  have hbB := bytes_far (u := .int .u8 ty) (j := q) (show bb ≠ gz by omega) (hB.later hb4)
  have hb5 : Below w.heap.size w (w4.setCell ⟨gz, q, none⟩ (.int .u8 ty)) := (hb3.trans (hb4.mono hb3.size)).setCell (Nat.le_trans hb3.size hz1) _
  generalize w4.setCell ⟨gz, q, none⟩ (.int .u8 ty) = w5 at *
  have hlB : (1 : Int) ≤ (B.length : Int) := by omega
  have hkb : (B.length : Int) - 1 ≤ (cb : Int) := by omega
  have hkb2 : (B.length : Int) ≤ (cb : Int) := by omega
  have hn1 : ((B.length : Int) - 1).toNat = B.length - 1 := by omega
  go_region
  have ha : Below w5.heap.size w5 (w5.alloc (.cells #[.slice p0 a0.length c0, .slice (some ⟨gz, 0, none⟩) B.length cp1, .slice (some ⟨bb, ob, none⟩) (B.length - 1) cb, .slice (some ⟨bb, ob + 1, none⟩) (B.length - 1) (cb - 1)] 22)).drew := ((Below.refl _ _).alloc (Nat.le_refl _) _).trans ⟨rfl, rfl, rfl, Nat.le_refl _, fun _ _ => rfl⟩
  have nc := fun i x h => new_cell (w := w5) (t := 22) #[.slice p0 a0.length c0, .slice (some ⟨gz, 0, none⟩) B.length cp1, .slice (some ⟨bb, ob, none⟩) (B.length - 1) cb, .slice (some ⟨bb, ob + 1, none⟩) (B.length - 1) (cb - 1)] i x h
  have hzb : AreBytes (B.set q ty) := by
    intro x hx
    rcases List.mem_or_eq_of_mem_set hx with h | rfl
    · exact hBb x h
    · exact ⟨t0, t1⟩
  have hF : Four (w5.alloc (.cells #[.slice p0 a0.length c0, .slice (some ⟨gz, 0, none⟩) B.length cp1, .slice (some ⟨bb, ob, none⟩) (B.length - 1) cb, .slice (some ⟨bb, ob + 1, none⟩) (B.length - 1) (cb - 1)] 22)).drew w5.heap.size := by
    intro i hi
    match i, hi with
    | 0, _ => exact ⟨p0, _, c0, a0, nc 0 _ rfl, (s0.later hb5).later ha, hby, l0⟩
    | 1, _ => exact ⟨_, _, cp1, B.set q ty, nc 1 _ rfl, hzB.later ha, hzb, by have := nB4.out; rw [List.length_set]; unfold maxLen; omega⟩
    | 2, _ => exact ⟨_, _, cb, B.take (B.length - 1), nc 2 _ rfl, (bytes_take (B.length - 1) hbB (by omega)).later ha, fun x hx => hBb x (List.mem_of_mem_take hx), by have := nB4.out; rw [List.length_take]; unfold maxLen; omega⟩
    | 3, _ => exact ⟨_, _, cb - 1, B.drop 1, nc 3 _ rfl, (bytes_tail hbB (by omega)).later ha, fun x hx => hBb x (List.mem_of_mem_drop hx), by have := nB4.out; rw [List.length_drop]; unfold maxLen; omega⟩
  have hb6 := hb5.trans (ha.mono hb5.size)
  clear ha nc s0 hby hzB hbB hB hBc hz4 yy hb3 hb4 hb5 cy fy s2 hr hq hk8 hr8 hqI hn1
  generalize (w5.alloc (.cells #[.slice p0 a0.length c0, .slice (some ⟨gz, 0, none⟩) B.length cp1, .slice (some ⟨bb, ob, none⟩) (B.length - 1) cb, .slice (some ⟨bb, ob + 1, none⟩) (B.length - 1) (cb - 1)] 22)).drew = w6 at *
  generalize w5.heap.size = G at *
  go_wp2
  go_loopw [14] (fun i wr => ∃ j : Nat, j ≤ 4 ∧ i = .int .i64 j ∧ Below w.heap.size w wr ∧ Four wr G) (fun i _ => 4 - (intOf i).toNat)
  case atStart => exact ⟨0, by omega, rfl, hb6, hF⟩
  case round =>
    clear hF hb6
    obtain ⟨j, hj, rfl, hbr, hF⟩ := hrel
    by_cases hj4 : j < 4
    · obtain ⟨qq, n, c, X, hc, hX, hXb, hXm⟩ := hF j hj4
      obtain ⟨_, _, eX, hXc, _⟩ := id hX
      cases eX
      have hj4I : (j : Int) < 4 := by omega
      have D := decode_any _ X wr (T.later hbr) hX hXb
      obtain ⟨o1, o2, o3, o4, o5, o6⟩ := out_facts hXb
      go_wp2_with fail
      refine D.mono ?_
      rintro e wa ⟨hba, hD⟩
      obtain ⟨pd, cd, rfl, hS⟩ := decoded_out hD
      generalize hd : outP (decodeP X) = od at *
      obtain ⟨op, fs, size, is⟩ := od
      simp only at o1 o2 o3 o4 o5 o6 hS ⊢
      replace hc := kept_cell hba hc
      replace hX := hX.later hba
      replace hF := hF.later hba
      replace hbr := hbr.trans (hba.mono hbr.size)
      clear D hba hD
      have hax : Below wa.heap.size wa (wa.alloc (.cells #[.int .i64 op, .slice pd fs.length cd] 28)) := (Below.refl _ _).alloc (Nat.le_refl _) _
      have x0 := new_cell (w := wa) (t := 28) #[.int .i64 op, .slice pd fs.length cd] 0 (.int .i64 op) rfl
      have x1 := new_cell (w := wa) (t := 28) #[.int .i64 op, .slice pd fs.length cd] 1 (.slice pd fs.length cd) rfl
      replace hc := kept_cell hax hc
      replace hX := hX.later hax
      replace hF := hF.later hax
      replace hS := hS.later hax
      replace hbr := hbr.trans (hax.mono hbr.size)
      have D := refDecode_any _ X _ hX hXb hXm
      go_wp2_with fail
      generalize wa.alloc (.cells #[.int .i64 op, .slice pd fs.length cd] 28) = wb at *
      generalize wa.heap.size = XX at *
      refine D.mono ?_
      rintro e wc ⟨hbc, hD⟩
      obtain ⟨pe, ce, rfl, hS2⟩ := decoded_out hD
      rw [hd] at hS2 ⊢
      simp only at hS2 ⊢
      replace hc := kept_cell hbc hc
      replace hX := hX.later hbc
      replace hF := hF.later hbc
      replace hS := hS.later hbc
      replace x0 := kept_cell hbc x0
      replace x1 := kept_cell hbc x1
      replace hbr := hbr.trans (hbc.mono hbr.size)
      clear D hax hbc hD
      have hay : Below wc.heap.size wc (wc.alloc (.cells #[.int .i64 op, .slice pe fs.length ce] 28)) := (Below.refl _ _).alloc (Nat.le_refl _) _
      have y0 := new_cell (w := wc) (t := 28) #[.int .i64 op, .slice pe fs.length ce] 0 (.int .i64 op) rfl
      have y1 := new_cell (w := wc) (t := 28) #[.int .i64 op, .slice pe fs.length ce] 1 (.slice pe fs.length ce) rfl
      replace hc := kept_cell hay hc
      replace hX := hX.later hay
      replace hF := hF.later hay
      replace hS := hS.later hay
      replace hS2 := hS2.later hay
      replace x0 := kept_cell hay x0
      replace x1 := kept_cell hay x1
      replace hbr := hbr.trans (hay.mono hbr.size)
      have S := same_any op op _ _ fs fs _ hS hS2 (by unfold maxLen; omega)
      rw [decide_eq_true (⟨rfl, rfl⟩ : op = op ∧ fs = fs)] at S
      go_wp2_with fail
      generalize wc.alloc (.cells #[.int .i64 op, .slice pe fs.length ce] 28) = we at *
      generalize wc.heap.size = YY at *
      refine S.mono ?_
      rintro e wf ⟨rfl, hbf⟩
      replace hc := kept_cell hbf hc
      replace hX := hX.later hbf
      replace hF := hF.later hbf
      replace hS := hS.later hbf
      replace x0 := kept_cell hbf x0
      replace x1 := kept_cell hbf x1
      replace hbr := hbr.trans (hbf.mono hbr.size)
      clear S hay hbf y0 y1 hS2
      have E := encode_at op _ fs wf (T.later hbr) hS o2 o1
      go_wp2_with fail
      refine E.mono ?_
      rintro e wg ⟨ev, rfl, hbg, hev⟩
      replace hc := kept_cell hbg hc
      replace hX := hX.later hbg
      replace hF := hF.later hbg
      replace hbr := hbr.trans (hbg.mono hbr.size)
      clear E hbg hS x0 x1 o1 o2 o3
      obtain ⟨pv, cv, rfl, kv, hv⟩ := hev
      cases is with
      | false =>
        clear o6
        go_wp2_with fail
        go_quiet (fail)
        go_wp2
        go_roundw
        case rel => exact ⟨j + 1, by omega, by go_num, hbr.trans ⟨rfl, rfl, rfl, Nat.le_refl _, fun _ _ => rfl⟩, hF.later ⟨rfl, rfl, rfl, Nat.le_refl _, fun _ _ => rfl⟩⟩
        case measure => simp [intOf]; omega
      | true =>
        obtain ⟨o7, o8, o9⟩ := o6 rfl
        obtain ⟨m, rfl⟩ := Int.eq_ofNat_of_zero_le o4
        simp only [Int.toNat_natCast] at o7 o8
        rw [o7] at kv hv ⊢
        have tl : (X.take m).length = m := by rw [List.length_take]; omega
        rw [tl] at kv ⊢
        obtain ⟨gv, ov, rfl, hvc⟩ := hv (by intro h; rw [h] at tl; simp at tl; omega)
        obtain ⟨_, _, eX, hXc2, hXX⟩ := id hX
        cases eX
        obtain ⟨gX, oX, rfl, hXY⟩ := hXX (by rintro rfl; simp at o8; omega)
        have V1 := conv_any (W := wg) gv ov m cv (X.take m) tl hvc
        have V2 := conv_any (W := wg) gX oX m c (X.take m) tl (fun i y hy => by
          rw [List.getElem?_take] at hy
          split at hy
          · exact hXY i y hy
          · simp at hy)
        have hmc : (m : Int) ≤ (c : Int) := by omega
        clear o6 o7 hv hvc hXX hXY hX
        go_wp2_with fail
        go_quiet (fail)
        go_wp2
        go_roundw
        case rel => exact ⟨j + 1, by omega, by go_num, hbr.trans ⟨rfl, rfl, rfl, Nat.le_refl _, fun _ _ => rfl⟩, hF.later ⟨rfl, rfl, rfl, Nat.le_refl _, fun _ _ => rfl⟩⟩
        case measure => simp [intOf]; omega
    · have hj4 : 4 = j := by omega
      subst hj4
      go_wp2
      go_ret
      exact ⟨rfl, hbr⟩

/-! ### The row's step -/
set_option maxRecDepth 100000 in
theorem lifted (os : Os) (started : os.Started) (H : Type) (enc : TypeId × Value → H) :
    ReturnsInHanded {} Tryd.checked os 3 .any (fun w args => (Rows.isaDecodesSpec.pre enc Tryd.prog Tryd.f3 [] false w args ∧ laidMetH Tryd.prog laid4 w) ∧ sizedMet enc Tryd.prog Tryd.f3 (OpenSpec.ofChange Rows.isaDecodesSpec) false w args)
      (Rows.isaDecodesSpec.post enc Tryd.prog Tryd.f3 false true false false) := by
  refine returnsInHanded_of_change_and (C := Tryd.checked) (X := fun w _ => laidMetH Tryd.prog laid4 w) (fun _ _ _ hh h => h.of_heap hh) own started (by kernel_rfl) Tryd.func3
    (ChangeSpec.witness_shaped (enc := enc) (C := Tryd.checked) (os := os) (X := fun w _ => laidMetH Tryd.prog laid4 w) false (World.doorLaid Tryd.prog 400 os) #[.slice none 0 0, .int .i64 0, .slice none 0 0, .int .i64 0] 8 rfl (World.shaped_of_RefB (by kernel_rfl) (by kernel_rfl)) (by kernel_rfl) (by kernel_rfl) (by kernel_rfl) (door_met os _)) ?_
  intro W base args ds gs before hval0 hW _ _ hL _
  have hval : ∀ (j : Nat) t v, Tryd.f3.params[j]? = some t → args[j]? = some v → Value.okWide Tryd.prog W .any base t v := hval0
  have hW' := hW
  obtain ⟨p, q, hA0, hV, rfl, hfz, hnd⟩ := hW
  have hA : DataW.TrodAll enc Tryd.prog W 0 (fun _ => true) true Tryd.f3.params.toList args.toList ds p := hA0
  rw [Tryd.params3] at hA hval
  obtain ⟨v0, vs0, d0, ds0, p0, q0, hargs, rfl, rfl, h0, r0⟩ := trodAll_cons hA
  obtain ⟨v1, vs1, d1, ds1, p1, q1, rfl, rfl, rfl, h1, r1⟩ := trodAll_cons r0
  obtain ⟨v2, vs2, d2, ds2, p2, q2, rfl, rfl, rfl, h2, r2⟩ := trodAll_cons r1
  obtain ⟨v3, vs3, d3, ds3, p3, q3, rfl, rfl, rfl, h3, r3⟩ := trodAll_cons r2
  obtain ⟨rfl, rfl, rfl⟩ := trodAll_nil r3
  obtain rfl : args = #[v0, v1, v2, v3] := by cases args; simp_all
  obtain ⟨rfl, rfl⟩ := trodVars_none hV
  have k0 := h0
  obtain ⟨a0, s0, w0, l0⟩ := open_bytes' (hval 0 22 v0 rfl rfl) h0
  obtain ⟨a1, rfl, rfl, rfl, w1⟩ := open_int Tryd.underlying3 (hval 1 3 v1 rfl rfl) h1
  have k2 := h2
  obtain ⟨a2, s2, w2, l2⟩ := open_ints' (hval 2 23 v2 rfl rfl) h2
  obtain ⟨a3, rfl, rfl, rfl, w3⟩ := open_int Tryd.underlying3 (hval 3 3 v3 rfl rfl) h3
  clear hA0 hval0
  simp only [List.append_nil, List.nil_append] at hW'
  have hlt : ∀ x ∈ p0 ++ p2, x.block < W.heap.size := fun x hx => by simpa using hW'.lt x (by simpa [or_assoc] using hx)
  refine (walk v0 a0 w0 l0 a1 w1 v2 a2 w2 l2 a3 w3 W (tab_of_laid hL) s0 s2).mono fun e W' ⟨he, hg⟩ => ?_
  subst he
  exact ⟨_, rfl, _, _, _, [], _, [], hW', (trodAll_cons_mk (shut_bool Tryd.underlying4 _) trodAll_mk0), (trodAll_cons_mk (Below.trod laidOut (by kernel_rfl) (of_decide_eq_true (by kernel_rfl)) k0 hg (fun x hx => hlt x (by simp [hx]))) (trodAll_cons_mk (shut_int Tryd.underlying3 w1) (trodAll_cons_mk (Below.trod laidOut (by kernel_rfl) (of_decide_eq_true (by kernel_rfl)) k2 hg (fun x hx => hlt x (by simp [hx]))) (trodAll_cons_mk (shut_int Tryd.underlying3 w3) trodAll_mk0)))), rfl, hg.frame _, fun h => by cases h⟩

theorem row : Rows.IsaDecodesSaid :=
  OpenClaim.holds_of_wide 3 Tryd.f3 rfl rfl rfl rfl rfl rfl rfl ⟨rfl, rfl, rfl, rfl, rfl⟩ rfl rfl rfl rfl rfl (by kernel_rfl) Tryd.func3 (by kernel_rfl)
    (of_decide_eq_true (by kernel_rfl)) (by unfold Func.isWrapper; first | (rw [if_pos (by decide +kernel)]; kernel_rfl) | (rw [if_neg (by decide +kernel)]; exact ⟨rfl, rfl⟩))
    (fun os started H enc _ => lifted os started H enc)

/-- The statement. -/
theorem proved : Rows.IsaDecodesCardSaid :=
  Claim7.holds_tied_plain_at .later [] [.listed, .data, .data, .data] true (true, "c174bf652a77f15f81f031908b295163d5e89335519fe780f13d13d511c42b30") false
    row (fun _ h => by cases h) (by kernel_rfl) (fun _ h => by cases h) isaDecodes_row_tie rfl ⟨rfl, rfl⟩ (by kernel_rfl) rfl
    (fun f fn hf hfn => by
      obtain rfl : f = 3 := Option.some.inj ((show Tryd.prog.funcNamed "letterpress/letterpresslaw2.IsaDecodes" = some 3 by kernel_rfl).symm.trans hf) |>.symm
      obtain rfl : fn = Tryd.f3 := (Option.some.inj (Tryd.func3.symm.trans hfn)).symm
      exact ⟨by kernel_rfl, fun j t ht => by
        rw [Tryd.params3] at ht
        have hm : t ∈ [22, 3, 23, 3] := by simpa using Array.mem_of_getElem? ht
        have hall : ([22, 3, 23, 3].all fun u => !Tryd.prog.wantsStandIn u) = true := by kernel_rfl
        exact (show Tryd.prog.wantsStandIn t = false by simpa using List.all_eq_true.1 hall t hm)⟩)
    (by kernel_rfl)
#print axioms proved
end Go.Proofs.YtnmclpphiajleaaDoor.isaDecodes
