/- For whatever n and m: registers of four bits are r0 to r7 and r24 to r31, each with bits of its own. -/
import Derived.Test.YtlgimlddcmaboabDoorRows
import Derived.WalkKit
import Derived.ProofKit
import Derived.OpenShut
import Derived.LaidMore
import Derived.Stop.Joined
import Derived.SevenTiedAt
import Derived.Test.YtlgimlddcmaboabDoorTie
import Derived.Test.YtlgimlddcmaboabDoorCards
import Derived.Test.YtlgimlddcmaboabDoorDoor
namespace Go.Proofs.YtlgimlddcmaboabDoor.isaRegs
open Plain
open Go.ChangeShapes Go.WideShapes Go.ChangeAt Go.RowKit
set_option linter.unusedVariables false
set_option linter.unusedSimpArgs false

theorem own : ownKnob Tryd.prog.godebug = none := by kernel_rfl

def regN (a : Int) : Int := if a < 8 then a else a - 16

theorem regs_coded (a b : Int) (ha : (0 ≤ a ∧ a ≤ 7) ∨ (24 ≤ a ∧ a ≤ 31)) (hb : (0 ≤ b ∧ b ≤ 7) ∨ (24 ≤ b ∧ b ≤ 31)) : codedP 15 [a, b] = (256 + regN b * 16 + regN a, true) := by
  have hr : ∀ f c : Int, (0 ≤ c ∧ c ≤ 7) ∨ (24 ≤ c ∧ c ≤ 31) → regC f 4 c = (regN c * 2 ^ f.toNat, true) := by
    intro f c hc
    unfold regC regN putP
    have p4 : (2 : Int) ^ (4 : Int).toNat = 16 := by decide
    rw [p4]
    rcases hc with hc | hc
    · rw [if_pos (by omega), if_pos (by omega), Int.emod_eq_of_lt (by omega) (by omega)]
    · rw [if_neg (by omega), if_pos (by omega), if_neg (by omega), Int.emod_eq_of_lt (by omega) (by omega)]
  have ra : 0 ≤ regN a ∧ regN a ≤ 15 := by unfold regN; split <;> omega
  have rb : 0 ≤ regN b ∧ regN b ≤ 15 := by unfold regN; split <;> omega
  have e : codedP 15 [a, b] = codeGo [.kX, .kY] [a, b] 256 := rfl
  have e1 : K.kX.code a = (regN a * 1, true) := hr 0 a ha
  have e2 : K.kY.code b = (regN b * 16, true) := hr 4 b hb
  rw [e]
  unfold codeGo
  rw [e1, if_pos rfl]
  unfold codeGo
  rw [e2, if_pos rfl]
  unfold codeGo
  simp only [Int.mul_one]
  have h8 : (2 : Int) ^ 8 = 256 := by decide
  have o1 : bits .or .u32 256 (regN a) = 256 + regN a := or_u32 8 256 (regN a) (by omega) (by omega) (by rw [h8]; decide) (by omega) ra.1 (by rw [h8]; omega)
  rw [o1]
  have o2 : bits .or .u32 (256 + regN a) (regN b * 16) = 256 + regN b * 16 + regN a := by
    have h : ∀ x y : Fin 16, bits .or .u32 (256 + (x.val : Int)) ((y.val : Int) * 16) = 256 + (y.val : Int) * 16 + (x.val : Int) := by decide +kernel
    have := h ⟨(regN a).toNat, by omega⟩ ⟨(regN b).toNat, by omega⟩
    simpa [Int.toNat_of_nonneg ra.1, Int.toNat_of_nonneg rb.1] using this
  rw [o2]

theorem regs_bad (a b : Int) (h : ¬ (((0 ≤ a ∧ a ≤ 7) ∨ (24 ≤ a ∧ a ≤ 31)) ∧ ((0 ≤ b ∧ b ≤ 7) ∨ (24 ≤ b ∧ b ≤ 31)))) : (codedP 15 [a, b]).2 = false := by
  have hr : ∀ f c : Int, ¬ ((0 ≤ c ∧ c ≤ 7) ∨ (24 ≤ c ∧ c ≤ 31)) → regC f 4 c = (0, false) := by
    intro f c hc
    unfold regC
    rw [if_neg (by omega), if_neg (by omega)]
  have e : codedP 15 [a, b] = codeGo [.kX, .kY] [a, b] 256 := rfl
  rw [e]
  unfold codeGo
  by_cases ha : (0 ≤ a ∧ a ≤ 7) ∨ (24 ≤ a ∧ a ≤ 31)
  · have e2 : K.kY.code b = (0, false) := hr 4 b (fun hb => h ⟨ha, hb⟩)
    split
    · unfold codeGo; rw [e2]; simp
    · rfl
  · have e1 : K.kX.code a = (0, false) := hr 0 a ha
    rw [e1]; simp

/-! ### The walk -/
set_option maxHeartbeats 8000000 in
set_option maxRecDepth 20000 in
theorem walk (a0 : Int) (a1 : Int) (w0 : (Lit.int .i64 a0).wf = true) (w1 : (Lit.int .i64 a1).wf = true) (w : World) (T : Tab w) :
    Calls Tryd.prog 6 #[.int .i64 a0, .int .i64 a1] w fun e w' => e = .returned (.bool true) ∧ Below w.heap.size w w' := by
  have K0 := known_true w T
  have na : -4 ≤ a0 % 40 - 4 ∧ a0 % 40 - 4 ≤ 35 := by omega
  have nb : -4 ≤ a1 % 40 - 4 ∧ a1 % 40 - 4 ≤ 35 := by omega
  generalize ha : a0 % 40 - 4 = a at na
  generalize hb : a1 % 40 - 4 = b at nb
  obtain ⟨na0, na1⟩ := na
  obtain ⟨nb0, nb1⟩ := nb
  by_cases good : ((0 ≤ a ∧ a ≤ 7) ∨ (24 ≤ a ∧ a ≤ 31)) ∧ ((0 ≤ b ∧ b ≤ 7) ∨ (24 ≤ b ∧ b ≤ 31))
  · have yes := regs_coded a b good.1 good.2
    obtain ⟨ga, gb⟩ := good
    have ra : 0 ≤ regN a ∧ regN a ≤ 15 := by unfold regN; split <;> omega
    have rb : 0 ≤ regN b ∧ regN b ≤ 15 := by unfold regN; split <;> omega
    have ea : a - 16 * (a / 24) = regN a := by unfold regN; split <;> omega
    have eb : b - 16 * (b / 24) = regN b := by unfold regN; split <;> omega
    have e0 : (256 + regN b * 16 + regN a) / 256 % 256 = 1 := by omega
    have e1 : (256 + regN b * 16 + regN a) % 256 = regN b * 16 + regN a := by omega
    have e2 : bits .and .i64 (regN b * 16 + regN a) 15 = regN a := by
      have h := and_mask (regN b * 16 + regN a) 4 (by omega)
      have h4 : (2 : Int) ^ 4 = 16 := by decide
      rw [h4] at h
      rw [show (16 : Int) - 1 = 15 from rfl] at h
      rw [h]; omega
    have e3 : (regN b * 16 + regN a) / 16 = regN b := by omega
    generalize regN a = x at *
    generalize regN b = y at *
    have bl : bytesP 2 (256 + y * 16 + x) = [1, y * 16 + x] := by
      show [(256 + y * 16 + x) / 256 % 256, (256 + y * 16 + x) % 256] = _
      rw [e0, e1]
    clear e0 e1
    rcases ga with ⟨hc, hc2⟩ | ⟨hc, hc2⟩ <;> rcases gb with ⟨hd, hd2⟩ | ⟨hd, hd2⟩
    all_goals
      go_enter Tryd.func6, Tryd.ntmps6
      go_wp2_with fail
      refine K0.mono ?_
      rintro e w1 ⟨rfl, hw1⟩
      go_wp2_with (go_at_call 15; refine (within_any _ _ (by omega) (by omega) _).mono ?_; rintro e w' ⟨rfl, rfl⟩)
      have hbA : Below w.heap.size w (w1.alloc (.cells #[.int .i64 a, .int .i64 b] 3)) := hw1.alloc hw1.size _
      have hbB : Below w.heap.size w ((w1.alloc (.cells #[.int .i64 a, .int .i64 b] 3)).alloc (.cells #[.int .i64 15, .slice (some ⟨w1.heap.size, 0, none⟩) 2 2] 26)) := hbA.alloc hbA.size _
      have E := encode_yes 15 (.slice (some ⟨w1.heap.size, 0, none⟩) 2 2) [a, b] _ (T.later hbB) ((slice_new rfl [a, b] 3).later ((Below.refl _ _).alloc (Nat.le_refl _) _)) (by intro v hv; simp at hv; omega) (by rw [yes])
      rw [yes, show sizeP 15 = 2 from rfl, bl] at E
      refine E.mono ?_
      rintro e w2 ⟨v, rfl, hw2, hB⟩
      obtain ⟨p, cap, rfl, hB⟩ := hB
      obtain ⟨bb, o, rfl, hC⟩ := hB (by simp)
      have c0 := hC 0 1 rfl
      have c1 := hC 1 (y * 16 + x) rfl
      rw [show ([1, y * 16 + x] : List Int).length = 2 from rfl]
      rw [Nat.add_zero] at c0
      have hbC := hbB.trans (hw2.mono hbB.size)
      have q1 : 0 ≤ y * 16 + x ∧ y * 16 + x ≤ 255 := by omega
      obtain ⟨q1, q2⟩ := q1
      clear E hB hC hbA hbB hw1 hw2 yes bl K0
      go_wp2
      go_ret
      exact ⟨by first | rfl | (simp; omega), hbC⟩
  · have bad := regs_bad a b good
    have hc : a < 0 ∨ (8 ≤ a ∧ a ≤ 23) ∨ 32 ≤ a ∨ (((0 ≤ a ∧ a ≤ 7) ∨ (24 ≤ a ∧ a ≤ 31)) ∧ (b < 0 ∨ (8 ≤ b ∧ b ≤ 23) ∨ 32 ≤ b)) := by omega
    clear good
    rcases hc with hc | ⟨hc, hc2⟩ | hc | ⟨⟨hc, hc2⟩ | ⟨hc, hc2⟩, hd | ⟨hd, hd2⟩ | hd⟩
    all_goals
      go_enter Tryd.func6, Tryd.ntmps6
      go_wp2_with fail
      refine K0.mono ?_
      rintro e w1 ⟨rfl, hw1⟩
      go_wp2_with (go_at_call 15; refine (within_any _ _ (by omega) (by omega) _).mono ?_; rintro e w' ⟨rfl, rfl⟩)
    all_goals
      have hbA : Below w.heap.size w (w1.alloc (.cells #[.int .i64 a, .int .i64 b] 3)) := hw1.alloc hw1.size _
      have hbB : Below w.heap.size w ((w1.alloc (.cells #[.int .i64 a, .int .i64 b] 3)).alloc (.cells #[.int .i64 15, .slice (some ⟨w1.heap.size, 0, none⟩) 2 2] 26)) := hbA.alloc hbA.size _
      have E := encode_no 15 (.slice (some ⟨w1.heap.size, 0, none⟩) 2 2) [a, b] _ (T.later hbB) ((slice_new rfl [a, b] 3).later ((Below.refl _ _).alloc (Nat.le_refl _) _)) (by intro v hv; simp at hv; omega) bad
      refine E.mono ?_
      rintro e w2 ⟨rfl, hw2⟩
      have hbC := hbB.trans (hw2.mono hbB.size)
      clear E hbA hbB hw1 hw2
      go_wp2
      all_goals first
        | (go_ret; exact ⟨by first | rfl | (simp; omega), hbC⟩)
        | (exfalso; rename_i hh; simp at hh; omega)

/-! ### The row's step -/
set_option maxRecDepth 100000 in
theorem lifted (os : Os) (started : os.Started) (H : Type) (enc : TypeId × Value → H) :
    ReturnsInHanded {} Tryd.checked os 6 .any (fun w args => (Rows.isaRegsSpec.pre enc Tryd.prog Tryd.f6 [] false w args ∧ laidMetH Tryd.prog laid4 w) ∧ sizedMet enc Tryd.prog Tryd.f6 (OpenSpec.ofChange Rows.isaRegsSpec) false w args)
      (Rows.isaRegsSpec.post enc Tryd.prog Tryd.f6 false true false false) := by
  refine returnsInHanded_of_change_and (C := Tryd.checked) (X := fun w _ => laidMetH Tryd.prog laid4 w) (fun _ _ _ hh h => h.of_heap hh) own started (by kernel_rfl) Tryd.func6
    (ChangeSpec.witness_shaped (enc := enc) (C := Tryd.checked) (os := os) (X := fun w _ => laidMetH Tryd.prog laid4 w) false (World.doorLaid Tryd.prog 400 os) #[.int .i64 0, .int .i64 0] 8 rfl (World.shaped_of_RefB (by kernel_rfl) (by kernel_rfl)) (by kernel_rfl) (by kernel_rfl) (by kernel_rfl) (door_met os _)) ?_
  intro W base args ds gs before hval0 hW _ _ hL _
  have hval : ∀ (j : Nat) t v, Tryd.f6.params[j]? = some t → args[j]? = some v → Value.okWide Tryd.prog W .any base t v := hval0
  have hW' := hW
  obtain ⟨p, q, hA0, hV, rfl, hfz, hnd⟩ := hW
  have hA : DataW.TrodAll enc Tryd.prog W 0 (fun _ => true) true Tryd.f6.params.toList args.toList ds p := hA0
  rw [Tryd.params6] at hA hval
  obtain ⟨v0, vs0, d0, ds0, p0, q0, hargs, rfl, rfl, h0, r0⟩ := trodAll_cons hA
  obtain ⟨v1, vs1, d1, ds1, p1, q1, rfl, rfl, rfl, h1, r1⟩ := trodAll_cons r0
  obtain ⟨rfl, rfl, rfl⟩ := trodAll_nil r1
  obtain rfl : args = #[v0, v1] := by cases args; simp_all
  obtain ⟨rfl, rfl⟩ := trodVars_none hV
  obtain ⟨a0, rfl, rfl, rfl, w0⟩ := open_int Tryd.underlying3 (hval 0 3 v0 rfl rfl) h0
  obtain ⟨a1, rfl, rfl, rfl, w1⟩ := open_int Tryd.underlying3 (hval 1 3 v1 rfl rfl) h1
  clear hA0 hval0
  simp only [List.append_nil] at hW'
  refine (walk a0 a1 w0 w1 W (tab_of_laid hL)).mono fun e W' ⟨he, hg⟩ => ?_
  subst he
  exact ⟨_, rfl, _, _, _, [], [], [], hW', (trodAll_cons_mk (shut_bool Tryd.underlying4 _) trodAll_mk0), (trodAll_cons_mk (shut_int Tryd.underlying3 w0) (trodAll_cons_mk (shut_int Tryd.underlying3 w1) trodAll_mk0)), rfl, hg.frame _, fun h => by cases h⟩

theorem over : Rows.isaRegsRow.holds Tryd.pinned (OpenSpec.ofChange Rows.isaRegsSpec) :=
  OpenClaim.holds_of_wide 6 Tryd.f6 rfl rfl rfl rfl rfl rfl rfl ⟨rfl, rfl, rfl, rfl, rfl⟩ rfl rfl rfl rfl rfl (by kernel_rfl) Tryd.func6 (by kernel_rfl)
    (of_decide_eq_true (by kernel_rfl)) (by unfold Func.isWrapper; first | (rw [if_pos (by decide +kernel)]; kernel_rfl) | (rw [if_neg (by decide +kernel)]; exact ⟨rfl, rfl⟩))
    (fun os started H enc _ => lifted os started H enc)

theorem row : Rows.IsaRegsSaid :=
  over

/-- The statement. -/
theorem proved : Rows.IsaRegsCardSaid :=
  Claim7.holds_tied_plain_at .later [] [.listed, .data, .data, .data] true (true, "3c5c2bcea24cf93f59a84a958fa7d6663da854b10277eeb6ec24b69937c84ae2") false
    row (fun _ h => by cases h) (by kernel_rfl) (fun _ h => by cases h) isaRegs_row_tie rfl ⟨rfl, rfl⟩ (by kernel_rfl) rfl
    (fun f fn hf hfn => by
      obtain rfl : f = 6 := Option.some.inj ((show Tryd.prog.funcNamed "letterpress/letterpresslaw2.IsaRegs" = some 6 by kernel_rfl).symm.trans hf) |>.symm
      obtain rfl : fn = Tryd.f6 := (Option.some.inj (Tryd.func6.symm.trans hfn)).symm
      exact ⟨by kernel_rfl, fun j t ht => by
        rw [Tryd.params6] at ht
        have hm : t ∈ [3, 3] := by simpa using Array.mem_of_getElem? ht
        have hall : ([3, 3].all fun u => !Tryd.prog.wantsStandIn u) = true := by kernel_rfl
        exact (show Tryd.prog.wantsStandIn t = false by simpa using List.all_eq_true.1 hall t hm)⟩)
    (by kernel_rfl)
#print axioms proved
end Go.Proofs.YtlgimlddcmaboabDoor.isaRegs
