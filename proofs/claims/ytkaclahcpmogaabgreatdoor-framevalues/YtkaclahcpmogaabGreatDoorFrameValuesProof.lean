/- FrameValues of letterpresslaw11 holds: whatever two numbers are handed in, the law answers true; each of the six values of a define request comes back from its bytes, which are the reference's, and of what was there nothing is turned. -/
import Derived.Test.YtkaclahcpmogaabGreatDoorRows
import Derived.WalkKit
import Derived.ProofKit
import Derived.OpenShut
import Derived.LaidMore
import Derived.Stop.Joined
import Derived.SevenTiedAt
import Derived.Laws.BytesArg
import Derived.BigQuiet
import Derived.Lay
import Derived.MakeChecks
import Derived.Test.YtkaclahcpmogaabGreatDoorTie
import Derived.Test.YtkaclahcpmogaabGreatDoorCards
import Derived.Test.YtkaclahcpmogaabGreatDoorFrX
namespace Go.Proofs.YtkaclahcpmogaabGreatDoor.frameValues
open Go.ChangeShapes Go.WideShapes Go.ChangeAt Go.RowKit
open Go.ChangeMaps (open_string shut_string)
set_option linter.unusedVariables false
set_option linter.unusedSimpArgs false

theorem own : ownKnob Tryz.prog.godebug = none := by kernel_rfl

def vals (a : Int) : List Int := [a % 2199023255552 - 1099511627776, 1099511627776, -1099511627776, 0, -1, a % 300]
theorem vals_in (a : Int) : ∀ x ∈ vals a, -1099511627776 ≤ x ∧ x ≤ 1099511627776 := by
  have h0 := Int.emod_nonneg a (show (2199023255552 : Int) ≠ 0 by decide)
  have h1 := Int.emod_lt_of_pos a (show (0 : Int) < 2199023255552 by decide)
  have h2 := Int.emod_nonneg a (show (300 : Int) ≠ 0 by decide)
  have h3 := Int.emod_lt_of_pos a (show (0 : Int) < 300 by decide)
  intro x hx
  simp only [vals, List.mem_cons, List.not_mem_nil, or_false] at hx
  rcases hx with rfl | rfl | rfl | rfl | rfl | rfl <;> omega
def valCells (a : Int) : Array Value := ((vals a).map fun x => Value.int .i64 x).toArray
/-! ### The walk -/
set_option maxHeartbeats 3200000 in
set_option maxRecDepth 20000 in
theorem walk (a0 : Int) (w0 : (Lit.int .i64 a0).wf = true) (a1 : Int) (w1 : (Lit.int .i64 a1).wf = true) (w : World) (T : Tab w) :
    Calls Tryz.prog 5 #[.int .i64 a0, .int .i64 a1] w fun e w' => e = .returned (.bool true) ∧ Below w.heap.size w w' := by
  have K := known_any w T
  go_enter Tryz.func5, Tryz.ntmps5
  go_wp2_with fail
  refine K.mono ?_
  rintro e wk ⟨rfl, hbk⟩
  clear K
  have W1 := within11_any a0 2199023255552 (by omega) (by omega)
  have W2 := within11_any a0 300 (by omega) (by omega)
  have h0 := Int.emod_nonneg a0 (show (2199023255552 : Int) ≠ 0 by decide)
  have h1 := Int.emod_lt_of_pos a0 (show (0 : Int) < 2199023255552 by decide)
  go_wp2_with fail
  refine (W1 wk).mono ?_
  rintro e wk1 ⟨rfl, rfl⟩
  go_wp2_with fail
  refine (W2 wk).mono ?_
  rintro e wk2 ⟨rfl, rfl⟩
  clear W1 W2
  go_wp2_with fail
  have hvc : #[Value.int .i64 (a0 % 2199023255552 - 1099511627776), .int .i64 1099511627776, .int .i64 (-1099511627776), .int .i64 0, .int .i64 (-1), .int .i64 (a0 % 300)] = valCells a0 := rfl
  have hvl := vals_in a0
  rw [hvc]
  have hbb := below_new wk (.cells (valCells a0) 3)
  have Lb := heap_alloc_new wk (.cells (valCells a0) 3)
  have Bb := hbk.trans (hbb.mono hbk.size)
  generalize wk.alloc (.cells (valCells a0) 3) = wb at *
  generalize wk.heap.size = b at *
  have hbl := (Array.getElem?_eq_some_iff.1 Lb).1
  clear hvc hbb hbk h0 h1
  go_loopw [6] (fun i wr => ∃ j : Nat, j ≤ 6 ∧ i = .int .i64 j ∧ Hid (Below wb.heap.size wb wr)) (fun i _ => 6 - (intW i).toNat)
  case atStart => exact ⟨0, by omega, rfl, Below.refl _ _⟩
  case round =>
    obtain ⟨j, hj, rfl, hB⟩ := hrel
    have Lr := (hB.out.block b hbl).trans Lb
    have Br : Hid (Below w.heap.size w wr) := Bb.trans (hB.out.mono Bb.size)
    by_cases hjl : j < 6
    · obtain ⟨x, hx⟩ : ∃ x, (vals a0)[j]? = some x := ⟨_, List.getElem?_eq_getElem (show j < (vals a0).length from hjl)⟩
      obtain ⟨x0, x1⟩ := hvl x (List.mem_of_getElem? hx)
      have hc : (valCells a0)[j]? = some (.int .i64 x) := by unfold valCells; simp [hx]
      have cj := cell_at Lr j _ hc
      have cjd : wr.drew.cell? ⟨b, j, none⟩ = some (.int .i64 x) := cj
      have hjI : (j : Int) < 6 := by omega
      have hj0 : (0 : Int) ≤ (j : Int) := by omega
      have hblr := Nat.lt_of_lt_of_le hbl hB.out.size
      go_upto_region 7 with fail
      go_cut [7] from 19 to 54 (fun v7 wx => ∃ k s, v7 = .pointer (some ⟨k, 0, none⟩) ∧ s ∈ names12 ∧ wx.heap[k]? = some (.cells #[.int .i64 5, .string (bs s), .string ⟨#[]⟩, .int .i64 x] 25 (0, 0)) ∧ Below wr.heap.size wr wx)
      case first =>
        have hzb := below_new wr (.cells #[.int .i64 0, .string ⟨#[]⟩, .string ⟨#[]⟩, .int .i64 0] 25)
        have Lz : (wr.alloc (.cells #[.int .i64 0, .string ⟨#[]⟩, .string ⟨#[]⟩, .int .i64 0] 25)).drew.heap[wr.heap.size]? = some (.cells #[.int .i64 0, .string ⟨#[]⟩, .string ⟨#[]⟩, .int .i64 0] 25 (0, 0)) := heap_alloc_new wr _
        have cjz : (wr.alloc (.cells #[.int .i64 0, .string ⟨#[]⟩, .string ⟨#[]⟩, .int .i64 0] 25)).drew.cell? ⟨b, j, none⟩ = some (.int .i64 x) := kept_cell hzb cj
        have hzl := (Array.getElem?_eq_some_iff.1 Lz).1
        go_region_with (first
          | (go_at_call 7; refine (name_any a1 wr.drew).mono ?_; rintro e w2 ⟨⟨s, hs, rfl⟩, hbA⟩; have c2 := kept_cell hbA cjd; have c2z := kept_cell (below_new w2 (.cells #[.int .i64 0, .string ⟨#[]⟩, .string ⟨#[]⟩, .int .i64 0] 25)) c2)
          | (go_at_call 7; refine (name_any a1 (wr.alloc (.cells #[.int .i64 0, .string ⟨#[]⟩, .string ⟨#[]⟩, .int .i64 0] 25)).drew).mono ?_; rintro e w2 ⟨⟨s, hs, rfl⟩, hbB⟩; have c2 := kept_cell hbB cjz; have Lz2 := (hbB.block wr.heap.size hzl).trans Lz; have y0 := cell_at Lz2 0 _ rfl; have y1 := cell_at Lz2 1 _ rfl; have y2 := cell_at Lz2 2 _ rfl; have y3 := cell_at Lz2 3 _ rfl; have t0 := froz_at Lz2 0; have t1 := froz_at Lz2 1; have t2 := froz_at Lz2 2; have t3 := froz_at Lz2 3))
        all_goals
          first
            | (have hb3 : Below wr.heap.size wr w2 := ⟨hbA.os, hbA.tape, hbA.output, hbA.size, fun i hi => hbA.block i hi⟩
               have hb4 := hb3.alloc hb3.size (.cells #[.int .i64 5, .string (bs s), .string ⟨#[]⟩, .int .i64 x] 25)
               have L4 := heap_alloc_new w2 (.cells #[.int .i64 5, .string (bs s), .string ⟨#[]⟩, .int .i64 x] 25)
               clear hbA c2 c2z
               go_wp2_with fail
               go_meet
               exact ⟨_, s, rfl, hs, L4, hb4⟩)
            | (have hb3 : Below wr.heap.size wr w2 := hzb.trans (Below.mono ⟨hbB.os, hbB.tape, hbB.output, hbB.size, fun i hi => hbB.block i hi⟩ hzb.size)
               have hb4 := (((hb3.setCell (p := ⟨wr.heap.size, 0, none⟩) (Nat.le_refl _) (.int .i64 5)).setCell (p := ⟨wr.heap.size, 1, none⟩) (Nat.le_refl _) (.string (bs s))).setCell (p := ⟨wr.heap.size, 2, none⟩) (Nat.le_refl _) (.string ⟨#[]⟩)).setCell (p := ⟨wr.heap.size, 3, none⟩) (Nat.le_refl _) (.int .i64 x)
               have L4 := set_at (set_at (set_at (set_at Lz2 0 (.int .i64 5)) 1 (.string (bs s))) 2 (.string ⟨#[]⟩)) 3 (.int .i64 x)
               clear hbB c2
               go_wp2_with fail
               go_meet
               exact ⟨_, s, rfl, hs, L4, hb4⟩)
      case rest =>
      obtain ⟨k, s, rfl, hs, Lk, hBk⟩ := hcut
      have hw := names_word s hs
      obtain ⟨rq, hrq⟩ : ∃ rq : Rq, rq = ⟨5, s, [], x⟩ := ⟨_, rfl⟩
      have hr : rightP rq = true := by
        rw [hrq]
        unfold rightP nameOk textOk valueOk
        simp [hw, x0, x1]
      have hval : rqVal rq = .agg #[.int .i64 5, .string (bs s), .string ⟨#[]⟩, .int .i64 x] := by rw [hrq]; rfl
      have hsl : rq.name.length ≤ 1000 ∧ rq.text.length ≤ 1000 := by obtain ⟨_, h1, h2⟩ := right_fits hr; omega
      have eR := read_back hr []
      rw [List.append_nil] at eR
      have Q := fun W T => request_any rq hr W T
      have RQ := fun W => rreq_any rq W hsl.1 hsl.2
      have RR := fun v W T hB => readReq_any v (headed 2 (reqB rq)) W T hB
      rw [eR] at RR
      simp only at RR
      have hq := fun W => rq_neq rq rq W
      simp only [decide_true] at hq
      rw [hval] at Q RQ RR hq
      have e1 : ((bs (headed 2 (reqB rq))).toList == (bs (headed 2 (reqB rq))).toList) = true := by simp
      generalize headed 2 (reqB rq) = hb at *
      generalize (2 + ((reqB rq).length : Int)) = m at *
      have hkl := (Array.getElem?_eq_some_iff.1 Lk).1
      have c0 := cell_at Lk 0 _ rfl
      have c1 := cell_at Lk 1 _ rfl
      have c2 := cell_at Lk 2 _ rfl
      have c3 := cell_at Lk 3 _ rfl
      have Bc : Hid (Below w.heap.size w wc) := Br.out.trans (hBk.mono Br.out.size)
      have BcB : Hid (Below wb.heap.size wb wc) := hB.out.trans (hBk.mono hB.out.size)
      clear hw hrq hr hval hsl eR hBk hB Br Lr cj cjd hc hx x0 x1
      go_wp2_with fail
      refine (Q wc (T.later Bc.out)).mono ?_
      rintro e w3 ⟨v3, rfl, hO3, hb3⟩
      have L3 := (hb3.block k hkl).trans Lk
      have B3 : Hid (Below w.heap.size w w3) := Bc.out.trans (hb3.mono Bc.out.size)
      have B3B : Hid (Below wb.heap.size wb w3) := BcB.out.trans (hb3.mono BcB.out.size)
      have hy3 := hO3.bytes (Nat.le_refl w3.heap.size)
      obtain ⟨p3, q3, rfl⟩ := row_slice hO3
      clear c0 c1 c2 c3 hb3 hO3
      go_wp2_with fail
      refine (RR _ w3 (T.later B3.out) hy3).mono ?_
      rintro e w4 ⟨rfl, hb4⟩
      have L4 := (hb4.block k (Array.getElem?_eq_some_iff.1 L3).1).trans L3
      have B4 : Hid (Below w.heap.size w w4) := B3.out.trans (hb4.mono B3.out.size)
      have B4B : Hid (Below wb.heap.size wb w4) := B3B.out.trans (hb4.mono B3B.out.size)
      clear hb4 L3 hy3 RR B3 B3B
      go_wp2_with fail
      have hb5 := below_new w4 (.cells #[.int .i64 5, .string (bs s), .string ⟨#[]⟩, .int .i64 x] 25)
      have L5 := (hb5.block k (Array.getElem?_eq_some_iff.1 L4).1).trans L4
      have X5 := heap_alloc_new w4 (.cells #[.int .i64 5, .string (bs s), .string ⟨#[]⟩, .int .i64 x] 25)
      have B5 : Hid (Below w.heap.size w (w4.alloc (.cells #[.int .i64 5, .string (bs s), .string ⟨#[]⟩, .int .i64 x] 25))) := B4.out.trans (hb5.mono B4.out.size)
      have B5B : Hid (Below wb.heap.size wb (w4.alloc (.cells #[.int .i64 5, .string (bs s), .string ⟨#[]⟩, .int .i64 x] 25))) := B4B.out.trans (hb5.mono B4B.out.size)
      generalize w4.alloc (.cells #[.int .i64 5, .string (bs s), .string ⟨#[]⟩, .int .i64 x] 25) = w5 at *
      generalize w4.heap.size = kx at *
      clear L4 B4 B4B hb5
      have d0 := cell_at (w := w5.drew) X5 0 _ rfl
      have d1 := cell_at (w := w5.drew) X5 1 _ rfl
      have d2 := cell_at (w := w5.drew) X5 2 _ rfl
      have d3 := cell_at (w := w5.drew) X5 3 _ rfl
      have c0 := cell_at (w := w5.drew) L5 0 _ rfl
      have c1 := cell_at (w := w5.drew) L5 1 _ rfl
      have c2 := cell_at (w := w5.drew) L5 2 _ rfl
      have c3 := cell_at (w := w5.drew) L5 3 _ rfl
      have QQ := Q w5.drew (T.later (Below.drew B5.out))
      have hkl5 := (Array.getElem?_eq_some_iff.1 L5).1
      clear Q
      go_region_with (first
        | (go_at_call 8; refine QQ.mono ?_; rintro e wa ⟨va, rfl, hOa, hba⟩; have Sa := str_of_bytes (hOa.bytes (Nat.le_refl wa.heap.size)); obtain ⟨pa, ca, rfl⟩ := row_slice hOa; have La := (hba.block k hkl5).trans L5; have r0 := cell_at La 0 _ rfl; have r1 := cell_at La 1 _ rfl; have r2 := cell_at La 2 _ rfl; have r3 := cell_at La 3 _ rfl)
        | (go_at_call 14; refine (RQ wa).mono ?_; rintro e wb2 ⟨vb, rfl, hOb, hbb⟩; have Sb := str_of_bytes (hOb.bytes (Nat.le_refl wb2.heap.size)); have Sa2 := str_of_bytes ((hOa.later hbb).bytes (Nat.le_refl wb2.heap.size)); obtain ⟨pb, cb, rfl⟩ := row_slice hOb))
      all_goals
        have hB6 : Hid (Below wb.heap.size wb wb2) := B5B.out.trans ((Below.trans ⟨hba.os, hba.tape, hba.output, hba.size, fun i hi => hba.block i hi⟩ (hbb.mono hba.size) : Below w5.heap.size w5 wb2).mono B5B.out.size)
        clear QQ RQ Sa Sb Sa2 hOa hOb hba hbb La
        go_wp2_with fail
        go_roundw
        case rel => exact ⟨j + 1, by omega, by go_num, hB6⟩
        case measure => simp [intW]; omega
    · have hjl' : j = 6 := by omega
      subst hjl'
      have Bf := Br.out
      clear Lr Br hB
      go_wp2_with fail
      go_ret
      exact ⟨rfl, Bf⟩

/-! ### The row's step -/
set_option maxRecDepth 100000 in
theorem lifted (os : Os) (started : os.Started) (H : Type) (enc : TypeId × Value → H) :
    ReturnsInHanded {} Tryz.checked os 5 .any (fun w args => (Rows.frameValuesSpec.pre enc Tryz.prog Tryz.f5 [] false w args ∧ laidMetH Tryz.prog laid8 w) ∧ sizedMet enc Tryz.prog Tryz.f5 (OpenSpec.ofChange Rows.frameValuesSpec) false w args)
      (Rows.frameValuesSpec.post enc Tryz.prog Tryz.f5 false true false false) := by
  refine returnsInHanded_of_change_and (C := Tryz.checked) (X := fun w _ => laidMetH Tryz.prog laid8 w) (fun _ _ _ hh h => h.of_heap hh) own started (by kernel_rfl) Tryz.func5
    (ChangeSpec.witness_shaped (enc := enc) (C := Tryz.checked) (os := os) (X := fun w _ => laidMetH Tryz.prog laid8 w) false (World.laidAll Tryz.prog os laid8) #[.int .i64 0, .int .i64 0] 8 (World.laidAll_os _ _ _) (World.shaped_of_ZipB (by kernel_rfl) (by kernel_rfl)) (by kernel_rfl) (by kernel_rfl) (by kernel_rfl) (by rw [MakeChecks.laidMetH_plain _ _ _ (by kernel_rfl)]; exact laidMet_laidAll _ (by kernel_rfl) (by kernel_rfl))) ?_
  intro W base args ds gs before hval0 hW _ _ hL _
  have hval : ∀ (j : Nat) t v, Tryz.f5.params[j]? = some t → args[j]? = some v → Value.okWide Tryz.prog W .any base t v := hval0
  have hW' := hW
  obtain ⟨p, q, hA0, hV, rfl, hfz, hnd⟩ := hW
  have hA : DataW.TrodAll enc Tryz.prog W 0 (fun _ => true) true Tryz.f5.params.toList args.toList ds p := hA0
  rw [Tryz.params5] at hA hval
  obtain ⟨v0, vs0, d0, ds0, p0, q0, hargs, rfl, rfl, h0, r0⟩ := trodAll_cons hA
  obtain ⟨v1, vs1, d1, ds1, p1, q1, rfl, rfl, rfl, h1, r1⟩ := trodAll_cons r0
  obtain ⟨rfl, rfl, rfl⟩ := trodAll_nil r1
  obtain rfl : args = #[v0, v1] := by cases args; simp_all
  obtain ⟨rfl, rfl⟩ := trodVars_none hV
  obtain ⟨a0, rfl, rfl, rfl, w0⟩ := open_int Tryz.underlying3 (hval 0 3 v0 rfl rfl) h0
  obtain ⟨a1, rfl, rfl, rfl, w1⟩ := open_int Tryz.underlying3 (hval 1 3 v1 rfl rfl) h1
  clear hA0 hval0
  simp only [List.append_nil, List.nil_append] at hW'
  refine (walk a0 w0 a1 w1 W (tab_of_laid hL)).mono fun e W' ⟨he, hg⟩ => ?_
  subst he
  exact ⟨_, rfl, _, _, _, [], _, [], hW', (trodAll_cons_mk (shut_bool Tryz.underlying4 _) trodAll_mk0), (trodAll_cons_mk (shut_int Tryz.underlying3 w0) (trodAll_cons_mk (shut_int Tryz.underlying3 w1) trodAll_mk0)), rfl, hg.frame _, fun h => by cases h⟩

theorem row : Rows.FrameValuesSaid :=
  OpenClaim.holds_of_wide 5 Tryz.f5 rfl rfl rfl rfl rfl rfl rfl ⟨rfl, rfl, rfl, rfl, rfl⟩ rfl rfl rfl rfl rfl (by kernel_rfl) Tryz.func5 (by kernel_rfl)
    (of_decide_eq_true (by kernel_rfl)) (by unfold Func.isWrapper; first | (rw [if_pos (by decide +kernel)]; kernel_rfl) | (rw [if_neg (by decide +kernel)]; exact ⟨rfl, rfl⟩))
    (fun os started H enc _ => lifted os started H enc)

/-- The statement. -/
theorem proved : Rows.FrameValuesCardSaid :=
  Claim7.holds_tied_plain_at .later [] [.data, .data, .data, .data, .sentinel, .sentinel, .data, .pinned] true (true, "08a89a5e6364c45d122e8fb79607955d50091ce8c52acdef0af13553d2760fe6") true
    row (fun _ h => by cases h) (by kernel_rfl) (fun _ h => by cases h) frameValues_row_tie rfl ⟨rfl, rfl⟩ (by kernel_rfl) rfl
    (fun f fn hf hfn => by
      obtain rfl : f = 5 := Option.some.inj ((show Tryz.prog.funcNamed "letterpress/letterpresslaw11.FrameValues" = some 5 by kernel_rfl).symm.trans hf) |>.symm
      obtain rfl : fn = Tryz.f5 := (Option.some.inj (Tryz.func5.symm.trans hfn)).symm
      exact ⟨by kernel_rfl, fun j t ht => by
        rw [Tryz.params5] at ht
        have hm : t ∈ [3, 3] := by simpa using Array.mem_of_getElem? ht
        have hall : ([3, 3].all fun u => !Tryz.prog.wantsStandIn u) = true := by kernel_rfl
        exact (show Tryz.prog.wantsStandIn t = false by simpa using List.all_eq_true.1 hall t hm)⟩)
    (by kernel_rfl)
#print axioms proved
end Go.Proofs.YtkaclahcpmogaabGreatDoor.frameValues
