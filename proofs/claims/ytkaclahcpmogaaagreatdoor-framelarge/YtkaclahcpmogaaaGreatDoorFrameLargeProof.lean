/- Of whatever number and whatever bytes the law FrameLarge answers true and leaves its arguments as they were: a request that says that it is longer than a thousand bytes is refused at once, one of a thousand or fewer whose bytes are not there is not whole yet. -/
import Derived.Test.YtkaclahcpmogaaaGreatDoorRows
import Derived.WalkKit
import Derived.ProofKit
import Derived.OpenShut
import Derived.LaidMore
import Derived.Stop.Joined
import Derived.SevenTiedAt
import Derived.Laws.BytesArg
import Derived.BigQuiet
import Derived.Lay
import Derived.MakeChecks
import Derived.Test.YtkaclahcpmogaaaGreatDoorTie
import Derived.Test.YtkaclahcpmogaaaGreatDoorCards
import Derived.Test.YtkaclahcpmogaaaGreatDoorFrW
namespace Go.Proofs.YtkaclahcpmogaaaGreatDoor.frameLarge
open Go.ChangeShapes Go.WideShapes Go.ChangeAt Go.RowKit
open Go.ChangeMaps (open_string shut_string)
set_option linter.unusedVariables false
set_option linter.unusedSimpArgs false

theorem own : ownKnob Tryz.prog.godebug = none := by kernel_rfl

theorem two_cells (n : Int) (h0 : 0 ≤ n) (h1 : n < 65536) : Lib.byteCells (numB 2 n) = [.int .u8 (n / 256), .int .u8 (n % 256)] := by
  have e : numB 2 n = [byteN (n / 2 ^ (8 * 1)), byteN (n / 2 ^ (8 * 0))] := rfl
  rw [e]
  show [Value.int .u8 ((byteN (n / 2 ^ (8 * 1))).toNat : Int), Value.int .u8 ((byteN (n / 2 ^ (8 * 0))).toNat : Int)] = _
  rw [byteN_int, byteN_int]
  have a1 : n / 2 ^ (8 * 1) % 256 = n / 256 := by
    rw [show (2 : Int) ^ (8 * 1) = 256 from rfl]; omega
  have a2 : n / 2 ^ (8 * 0) % 256 = n % 256 := by
    rw [show (2 : Int) ^ (8 * 0) = 1 from rfl, Int.ediv_one]
  rw [a1, a2]

theorem large_read (n : Int) (l : Bs) (h0 : 60 < n) (h1 : n < 65536) (hl : l.length ≤ 60) : readReqP (numB 2 n ++ l) = (.zero, 0, if 1000 < n then 8 else 0) := by
  have e1 : numP 2 ⟨numB 2 n ++ l, false⟩ = (n, ⟨l, false⟩) := num_app (val2 (by omega) (by omega)) _ _
  unfold readReqP
  rw [e1]
  simp only
  by_cases h : 1000 < n
  · rw [if_pos ⟨trivial, h⟩, if_pos h]
  · rw [if_neg (fun x => h x.2), if_pos (.inr (by omega)), if_neg h]
/-! ### The walk -/
set_option maxHeartbeats 3200000 in
set_option maxRecDepth 20000 in
theorem walk (a0 : Int) (w0 : (Lit.int .i64 a0).wf = true) (v1 : Value) (a1 : Bs) (w : World) (T : Tab w) (s1 : BytesAt w.heap.size w v1 a1) :
    Calls Tryz.prog 7 #[.int .i64 a0, v1] w fun e w' => e = .returned (.bool true) ∧ Below w.heap.size w w' := by
  have K := known_any w T
  go_enter Tryz.func7, Tryz.ntmps7
  go_wp2_with fail
  refine K.mono ?_
  rintro e wk ⟨rfl, hbk⟩
  clear K
  obtain ⟨p, cap, rfl, _⟩ := id s1
  by_cases hl : 60 < (a1.length : Int)
  · go_wp2_with fail
    go_ret
    exact ⟨rfl, hbk⟩
  · have hlI : ¬ 60 < (a1.length : Int) := hl
    have W := within11_any a0 12 (by omega) (by omega)
    have h0 := Int.emod_nonneg a0 (show (12 : Int) ≠ 0 by decide)
    have h1 := Int.emod_lt_of_pos a0 (show (0 : Int) < 12 by decide)
    obtain ⟨k, hk⟩ : ∃ k : Nat, a0 % 12 = k := ⟨(a0 % 12).toNat, by omega⟩
    rw [hk] at W h0 h1
    clear hk
    go_wp2_with fail
    refine (W _).mono ?_
    rintro e w1 ⟨rfl, rfl⟩
    have hkI : (995 + (k : Int)) < 65536 := by omega
    have hOwn : Own wk.heap.size (wk.alloc (.cells #[.int .u8 ((995 + (k : Int)) / 256), .int .u8 ((995 + (k : Int)) % 256)] 5)) (.slice (some ⟨wk.heap.size, 0, none⟩) 2 2) (numB 2 (995 + (k : Int))) := by
      unfold Own
      rw [two_cells _ (by omega) hkI, numB_len]
      exact World.ownsRow_lit wk _ 2 (Nat.le_refl _) (by unfold maxLen; omega) rfl
    have hb2 := below_new wk (.cells #[.int .u8 ((995 + (k : Int)) / 256), .int .u8 ((995 + (k : Int)) % 256)] 5)
    have hl60 : a1.length ≤ 60 := by omega
    obtain ⟨v', w', hrun, hO, hgr⟩ := run_app_bytes _ wk.heap.size w.heap.size _ _ _ a1 hOwn ((s1.later hbk).later (hb2.mono hbk.size)) (by rw [numB_len]; omega) (by omega) hb2.size
    have eR := large_read (995 + (k : Int)) a1 (by omega) hkI hl60
    have hB2 : Below wk.heap.size wk w' := by
      refine ⟨hgr.os.trans hb2.os, hgr.tape.trans hb2.tape, hgr.output.trans hb2.output, Nat.le_trans hb2.size hgr.size, fun i hi => ?_⟩
      refine (hgr.block i (by simp; omega) (fun e => ?_)).trans (hb2.block i hi)
      simp [Value.ownBlock] at e
      omega
    have B2 := hbk.trans (hB2.mono hbk.size)
    have R := fun W T hB => readReq_any v' (numB 2 (995 + (k : Int)) ++ a1) W T hB
    rw [eR] at R
    unfold rqVal Rq.zero at R
    simp only at R
    have hz := fun W => rq_neq .zero .zero W
    unfold rqVal Rq.zero at hz
    simp only [decide_true] at hz
    have hy := hO.bytes (Nat.le_refl w'.heap.size)
    clear eR
    generalize numB 2 (995 + (k : Int)) ++ a1 = hb at *
    obtain ⟨p', cap', rfl⟩ := row_slice hO
    clear hOwn hgr hO W s1
    go_wp2_with (at_builtin; refine wpList_run_app rfl _ _ _ _ rfl _ _ _ rfl rfl (hrun _) ?_)
    refine (R w' (T.later B2) hy).mono ?_
    rintro e w4 ⟨rfl, hb4⟩
    have B4 := B2.trans (hb4.mono B2.size)
    have B5 := B4.alloc B4.size (.cells #[.int .i64 0, .string (bs []), .string (bs []), .int .i64 0] 27)
    have hbe : bs [] = ⟨#[]⟩ := rfl
    rw [hbe] at hz B5
    clear R hrun hb4 B4 hy B2 hB2 hb2
    rw [hbe]
    by_cases hbig : 1000 < 995 + (k : Int)
    · rw [if_pos hbig]
      have hle : ¬ 995 + (k : Int) ≤ 1000 := by omega
      go_wp2_with fail
      go_ret
      exact ⟨by simp [hle], B5⟩
    · rw [if_neg hbig]
      have hle : 995 + (k : Int) ≤ 1000 := by omega
      go_wp2_with fail
      go_ret
      exact ⟨by simp [hle], B5⟩

/-! ### The row's step -/
set_option maxRecDepth 100000 in
theorem lifted (os : Os) (started : os.Started) (H : Type) (enc : TypeId × Value → H) :
    ReturnsInHanded {} Tryz.checked os 7 .any (fun w args => (Rows.frameLargeSpec.pre enc Tryz.prog Tryz.f7 [] false w args ∧ laidMetH Tryz.prog laid8 w) ∧ sizedMet enc Tryz.prog Tryz.f7 (OpenSpec.ofChange Rows.frameLargeSpec) false w args)
      (Rows.frameLargeSpec.post enc Tryz.prog Tryz.f7 false true false false) := by
  refine returnsInHanded_of_change_and (C := Tryz.checked) (X := fun w _ => laidMetH Tryz.prog laid8 w) (fun _ _ _ hh h => h.of_heap hh) own started (by kernel_rfl) Tryz.func7
    (ChangeSpec.witness_shaped (enc := enc) (C := Tryz.checked) (os := os) (X := fun w _ => laidMetH Tryz.prog laid8 w) false (World.laidAll Tryz.prog os laid8) #[.int .i64 0, .slice none 0 0] 8 (World.laidAll_os _ _ _) (World.shaped_of_ZipB (by kernel_rfl) (by kernel_rfl)) (by kernel_rfl) (by kernel_rfl) (by kernel_rfl) (by rw [MakeChecks.laidMetH_plain _ _ _ (by kernel_rfl)]; exact laidMet_laidAll _ (by kernel_rfl) (by kernel_rfl))) ?_
  intro W base args ds gs before hval0 hW _ _ hL _
  have hval : ∀ (j : Nat) t v, Tryz.f7.params[j]? = some t → args[j]? = some v → Value.okWide Tryz.prog W .any base t v := hval0
  have hW' := hW
  obtain ⟨p, q, hA0, hV, rfl, hfz, hnd⟩ := hW
  have hA : DataW.TrodAll enc Tryz.prog W 0 (fun _ => true) true Tryz.f7.params.toList args.toList ds p := hA0
  rw [Tryz.params7] at hA hval
  obtain ⟨v0, vs0, d0, ds0, p0, q0, hargs, rfl, rfl, h0, r0⟩ := trodAll_cons hA
  obtain ⟨v1, vs1, d1, ds1, p1, q1, rfl, rfl, rfl, h1, r1⟩ := trodAll_cons r0
  obtain ⟨rfl, rfl, rfl⟩ := trodAll_nil r1
  obtain rfl : args = #[v0, v1] := by cases args; simp_all
  obtain ⟨rfl, rfl⟩ := trodVars_none hV
  obtain ⟨a0, rfl, rfl, rfl, w0⟩ := open_int Tryz.underlying3 (hval 0 3 v0 rfl rfl) h0
  have k1 := h1
  obtain ⟨a1, s1⟩ := open_bytesB (hval 1 23 v1 rfl rfl) h1
  clear hA0 hval0
  simp only [List.append_nil, List.nil_append] at hW'
  have hlt : ∀ x ∈ p1, x.block < W.heap.size := fun x hx => by simpa using hW'.lt x (by simpa [or_assoc] using hx)
  refine (walk a0 w0 v1 a1 W (tab_of_laid hL) s1).mono fun e W' ⟨he, hg⟩ => ?_
  subst he
  exact ⟨_, rfl, _, _, _, [], _, [], hW', (trodAll_cons_mk (shut_bool Tryz.underlying4 _) trodAll_mk0), (trodAll_cons_mk (shut_int Tryz.underlying3 w0) (trodAll_cons_mk (Below.trod laidOut (by kernel_rfl) (of_decide_eq_true (by kernel_rfl)) k1 hg (fun x hx => hlt x (by simp [hx]))) trodAll_mk0)), rfl, hg.frame _, fun h => by cases h⟩

theorem row : Rows.FrameLargeSaid :=
  OpenClaim.holds_of_wide 7 Tryz.f7 rfl rfl rfl rfl rfl rfl rfl ⟨rfl, rfl, rfl, rfl, rfl⟩ rfl rfl rfl rfl rfl (by kernel_rfl) Tryz.func7 (by kernel_rfl)
    (of_decide_eq_true (by kernel_rfl)) (by unfold Func.isWrapper; first | (rw [if_pos (by decide +kernel)]; kernel_rfl) | (rw [if_neg (by decide +kernel)]; exact ⟨rfl, rfl⟩))
    (fun os started H enc _ => lifted os started H enc)

/-- The statement. -/
theorem proved : Rows.FrameLargeCardSaid :=
  Claim7.holds_tied_plain_at .later [] [.data, .data, .data, .data, .sentinel, .sentinel, .data, .pinned] true (true, "2e3a2d191d52d84305a5012db90e303400cfcd659c86cb58d0cfbea904d12172") true
    row (fun _ h => by cases h) (by kernel_rfl) (fun _ h => by cases h) frameLarge_row_tie rfl ⟨rfl, rfl⟩ (by kernel_rfl) rfl
    (fun f fn hf hfn => by
      obtain rfl : f = 7 := Option.some.inj ((show Tryz.prog.funcNamed "letterpress/letterpresslaw11.FrameLarge" = some 7 by kernel_rfl).symm.trans hf) |>.symm
      obtain rfl : fn = Tryz.f7 := (Option.some.inj (Tryz.func7.symm.trans hfn)).symm
      exact ⟨by kernel_rfl, fun j t ht => by
        rw [Tryz.params7] at ht
        have hm : t ∈ [3, 23] := by simpa using Array.mem_of_getElem? ht
        have hall : ([3, 23].all fun u => !Tryz.prog.wantsStandIn u) = true := by kernel_rfl
        exact (show Tryz.prog.wantsStandIn t = false by simpa using List.all_eq_true.1 hall t hm)⟩)
    (by kernel_rfl)
#print axioms proved
end Go.Proofs.YtkaclahcpmogaaaGreatDoor.frameLarge
