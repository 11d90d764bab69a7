/- For whatever v and which: how far branches reach is as the document says. -/
import Derived.Test.YtlgimlddcmaboabDoorRows
import Derived.WalkKit
import Derived.ProofKit
import Derived.OpenShut
import Derived.LaidMore
import Derived.Stop.Joined
import Derived.SevenTiedAt
import Derived.Test.YtlgimlddcmaboabDoorTie
import Derived.Test.YtlgimlddcmaboabDoorCards
import Derived.Test.YtlgimlddcmaboabDoorDoor
namespace Go.Proofs.YtlgimlddcmaboabDoor.isaReach
open Plain
open Go.ChangeShapes Go.WideShapes Go.ChangeAt Go.RowKit
set_option linter.unusedVariables false
set_option linter.unusedSimpArgs false

theorem own : ownKnob Tryd.prog.godebug = none := by kernel_rfl

theorem sign_right (b : Nat) (f n : Int) (h1 : 1 ≤ b) (h2 : b ≤ 31) : (signC f b 2 n).2 = (decide (n % 2 = 0) && fitsP n (b + 1)) := by
  have hp := half_pow (b + 1) (by omega)
  have e2 : (2 : Int) ^ (b + 1 - 1) = 2 * 2 ^ (b - 1) := by
    have := (half_pow b h1).2
    rw [show b + 1 - 1 = b by omega]; exact this
  unfold signC
  rw [show ((b : Int)).toNat = b by omega]
  unfold fitsP
  rw [e2]
  generalize (2 : Int) ^ (b - 1) = P
  by_cases h : n % 2 = 0
  · by_cases h3 : -P ≤ n / 2 ∧ n / 2 < P
    · have q1 : decide (-P ≤ n / 2) = true := by simpa using h3.1
      have q2 : decide (n / 2 < P) = true := by simpa using h3.2
      rw [if_pos ⟨h, by rw [q1, q2]; rfl⟩]
      have q3 : decide (-(2 * P) ≤ n) = true := by simp; omega
      have q4 : decide (n < 2 * P) = true := by simp; omega
      rw [q3, q4]; simp [h]
    · rw [if_neg (fun hh => h3 (by simpa using hh.2))]
      by_cases h5 : -P ≤ n / 2
      · have q4 : decide (n < 2 * P) = false := by simp; omega
        rw [q4]; simp
      · have q3 : decide (-(2 * P) ≤ n) = false := by simp; omega
        rw [q3]; simp
  · rw [if_neg (fun hh => h hh.1)]
    simp [h]

theorem reach_right (op n : Int) (bt : Nat) (h : (op = 41 ∧ bt = 9) ∨ (op = 42 ∧ bt = 9) ∨ (op = 56 ∧ bt = 25) ∨ (op = 57 ∧ bt = 25)) : (codedP op [n]).2 = (decide (n % 2 = 0) && fitsP n bt) := by
  have gen : ∀ (k : K) (b acc : Int), (codeGo [k] [n] acc).2 = (k.code n).2 := by
    intro k b acc
    unfold codeGo
    by_cases hh : (k.code n).2 = true
    · rw [if_pos hh, hh]; rfl
    · rw [if_neg hh]; simp at hh; rw [hh]
  rcases h with ⟨rfl, rfl⟩ | ⟨rfl, rfl⟩ | ⟨rfl, rfl⟩ | ⟨rfl, rfl⟩
  · have e : codedP 41 [n] = codeGo [.kT8] [n] 0xe800 := rfl
    rw [e, gen _ 0]
    exact sign_right 8 0 n (by omega) (by omega)
  · have e : codedP 42 [n] = codeGo [.kT8] [n] 0xe900 := rfl
    rw [e, gen _ 0]
    exact sign_right 8 0 n (by omega) (by omega)
  · have e : codedP 56 [n] = codeGo [.kT24] [n] 0x78000000 := rfl
    rw [e, gen _ 0]
    exact sign_right 24 1 n (by omega) (by omega)
  · have e : codedP 57 [n] = codeGo [.kT24] [n] 0x78000001 := rfl
    rw [e, gen _ 0]
    exact sign_right 24 1 n (by omega) (by omega)

/-! ### The walk -/
set_option maxHeartbeats 8000000 in
set_option maxRecDepth 20000 in
theorem walk (a0 : Int) (a1 : Int) (w0 : (Lit.int .i64 a0).wf = true) (w1 : (Lit.int .i64 a1).wf = true) (w : World) (T : Tab w) :
    Calls Tryd.prog 7 #[.int .i64 a0, .int .i64 a1] w fun e w' => e = .returned (.bool true) ∧ Below w.heap.size w w' := by
  have K0 := known_true w T
  have hk : a1 % 4 = 0 ∨ a1 % 4 = 1 ∨ a1 % 4 = 2 ∨ a1 % 4 = 3 := by omega
  by_cases h3 : a0 % 3 = 0
  · rcases hk with hk | hk | hk | hk
    all_goals
      have n0 : -33554432 ≤ a0 % 600 - 300 ∧ a0 % 600 - 300 ≤ 33554432 := by omega
      go_enter Tryd.func7, Tryd.ntmps7
      go_wp2_with fail
      refine K0.mono ?_
      rintro e w1 ⟨rfl, hw1⟩
      go_wp2_with (go_at_call 15; refine (within_any _ _ (by omega) (by omega) _).mono ?_; rintro e w' ⟨rfl, rfl⟩)
      have hbA : Below w.heap.size w (w1.alloc (.cells #[.int .i64 41, .int .i64 42, .int .i64 56, .int .i64 57] 3)) := hw1.alloc hw1.size _
      have hbB : Below w.heap.size w ((w1.alloc (.cells #[.int .i64 41, .int .i64 42, .int .i64 56, .int .i64 57] 3)).alloc (.cells #[.int .i64 9, .int .i64 9, .int .i64 25, .int .i64 25] 3)) := hbA.alloc hbA.size _
      refine (right_new1 _ _ _ w _ (by simp) T hbB (by omega) (by omega)).mono ?_
      rintro e w2 ⟨rfl, hw2, hc⟩
      have c0 := hc ⟨w1.heap.size + 1, 0, none⟩ (.int .i64 9) (by simp)
      have c1 := hc ⟨w1.heap.size + 1, 1, none⟩ (.int .i64 9) (by simp)
      have c2 := hc ⟨w1.heap.size + 1, 2, none⟩ (.int .i64 25) (by simp)
      have c3 := hc ⟨w1.heap.size + 1, 3, none⟩ (.int .i64 25) (by simp)
      first
        | rw [reach_right 41 _ 9 (by omega)]
        | rw [reach_right 42 _ 9 (by omega)]
        | rw [reach_right 56 _ 25 (by omega)]
        | rw [reach_right 57 _ 25 (by omega)]
      clear hc hbA hbB hw1 K0
      generalize a0 % 600 - 300 = n at *
      obtain ⟨m0, m1⟩ := n0
      by_cases hev : n % 2 = 0
      · have htm : n.tmod 2 = 0 := Int.tmod_eq_zero_of_dvd (Int.dvd_of_emod_eq_zero hev)
        have F9 := fun W => refFits_any n 9 (by omega) (by omega) W
        have F25 := fun W => refFits_any n 25 (by omega) (by omega) W
        rw [show ((9 : Nat) : Int) = 9 from rfl] at F9
        rw [show ((25 : Nat) : Int) = 25 from rfl] at F25
        go_wp2_with (go_at_call 20; first | (with_reducible refine (F9 _).mono ?_; rintro e w' ⟨rfl, rfl⟩) | (with_reducible refine (F25 _).mono ?_; rintro e w' ⟨rfl, rfl⟩))
        all_goals go_ret
        all_goals exact ⟨by simp, hw2⟩
      · have htm : n.tmod 2 ≠ 0 := fun e => hev (Int.emod_eq_zero_of_dvd (Int.dvd_of_tmod_eq_zero e))
        go_wp2
        all_goals go_ret
        all_goals exact ⟨by simp, hw2⟩
  · rcases hk with hk | hk | hk | hk
    all_goals
      have n0 : -33554432 ≤ a0 % 67108864 - 33554432 ∧ a0 % 67108864 - 33554432 ≤ 33554432 := by omega
      go_enter Tryd.func7, Tryd.ntmps7
      go_wp2_with fail
      refine K0.mono ?_
      rintro e w1 ⟨rfl, hw1⟩
      go_wp2_with (go_at_call 15; refine (within_any _ _ (by omega) (by omega) _).mono ?_; rintro e w' ⟨rfl, rfl⟩)
      have hbA : Below w.heap.size w (w1.alloc (.cells #[.int .i64 41, .int .i64 42, .int .i64 56, .int .i64 57] 3)) := hw1.alloc hw1.size _
      have hbB : Below w.heap.size w ((w1.alloc (.cells #[.int .i64 41, .int .i64 42, .int .i64 56, .int .i64 57] 3)).alloc (.cells #[.int .i64 9, .int .i64 9, .int .i64 25, .int .i64 25] 3)) := hbA.alloc hbA.size _
      refine (right_new1 _ _ _ w _ (by simp) T hbB (by omega) (by omega)).mono ?_
      rintro e w2 ⟨rfl, hw2, hc⟩
      have c0 := hc ⟨w1.heap.size + 1, 0, none⟩ (.int .i64 9) (by simp)
      have c1 := hc ⟨w1.heap.size + 1, 1, none⟩ (.int .i64 9) (by simp)
      have c2 := hc ⟨w1.heap.size + 1, 2, none⟩ (.int .i64 25) (by simp)
      have c3 := hc ⟨w1.heap.size + 1, 3, none⟩ (.int .i64 25) (by simp)
      first
        | rw [reach_right 41 _ 9 (by omega)]
        | rw [reach_right 42 _ 9 (by omega)]
        | rw [reach_right 56 _ 25 (by omega)]
        | rw [reach_right 57 _ 25 (by omega)]
      clear hc hbA hbB hw1 K0
      generalize a0 % 67108864 - 33554432 = n at *
      obtain ⟨m0, m1⟩ := n0
      by_cases hev : n % 2 = 0
      · have htm : n.tmod 2 = 0 := Int.tmod_eq_zero_of_dvd (Int.dvd_of_emod_eq_zero hev)
        have F9 := fun W => refFits_any n 9 (by omega) (by omega) W
        have F25 := fun W => refFits_any n 25 (by omega) (by omega) W
        rw [show ((9 : Nat) : Int) = 9 from rfl] at F9
        rw [show ((25 : Nat) : Int) = 25 from rfl] at F25
        go_wp2_with (go_at_call 20; first | (with_reducible refine (F9 _).mono ?_; rintro e w' ⟨rfl, rfl⟩) | (with_reducible refine (F25 _).mono ?_; rintro e w' ⟨rfl, rfl⟩))
        all_goals go_ret
        all_goals exact ⟨by simp, hw2⟩
      · have htm : n.tmod 2 ≠ 0 := fun e => hev (Int.emod_eq_zero_of_dvd (Int.dvd_of_tmod_eq_zero e))
        go_wp2
        all_goals go_ret
        all_goals exact ⟨by simp, hw2⟩

/-! ### The row's step -/
set_option maxRecDepth 100000 in
theorem lifted (os : Os) (started : os.Started) (H : Type) (enc : TypeId × Value → H) :
    ReturnsInHanded {} Tryd.checked os 7 .any (fun w args => (Rows.isaReachSpec.pre enc Tryd.prog Tryd.f7 [] false w args ∧ laidMetH Tryd.prog laid4 w) ∧ sizedMet enc Tryd.prog Tryd.f7 (OpenSpec.ofChange Rows.isaReachSpec) false w args)
      (Rows.isaReachSpec.post enc Tryd.prog Tryd.f7 false true false false) := by
  refine returnsInHanded_of_change_and (C := Tryd.checked) (X := fun w _ => laidMetH Tryd.prog laid4 w) (fun _ _ _ hh h => h.of_heap hh) own started (by kernel_rfl) Tryd.func7
    (ChangeSpec.witness_shaped (enc := enc) (C := Tryd.checked) (os := os) (X := fun w _ => laidMetH Tryd.prog laid4 w) false (World.doorLaid Tryd.prog 400 os) #[.int .i64 0, .int .i64 0] 8 rfl (World.shaped_of_RefB (by kernel_rfl) (by kernel_rfl)) (by kernel_rfl) (by kernel_rfl) (by kernel_rfl) (door_met os _)) ?_
  intro W base args ds gs before hval0 hW _ _ hL _
  have hval : ∀ (j : Nat) t v, Tryd.f7.params[j]? = some t → args[j]? = some v → Value.okWide Tryd.prog W .any base t v := hval0
  have hW' := hW
  obtain ⟨p, q, hA0, hV, rfl, hfz, hnd⟩ := hW
  have hA : DataW.TrodAll enc Tryd.prog W 0 (fun _ => true) true Tryd.f7.params.toList args.toList ds p := hA0
  rw [Tryd.params7] at hA hval
  obtain ⟨v0, vs0, d0, ds0, p0, q0, hargs, rfl, rfl, h0, r0⟩ := trodAll_cons hA
  obtain ⟨v1, vs1, d1, ds1, p1, q1, rfl, rfl, rfl, h1, r1⟩ := trodAll_cons r0
  obtain ⟨rfl, rfl, rfl⟩ := trodAll_nil r1
  obtain rfl : args = #[v0, v1] := by cases args; simp_all
  obtain ⟨rfl, rfl⟩ := trodVars_none hV
  obtain ⟨a0, rfl, rfl, rfl, w0⟩ := open_int Tryd.underlying3 (hval 0 3 v0 rfl rfl) h0
  obtain ⟨a1, rfl, rfl, rfl, w1⟩ := open_int Tryd.underlying3 (hval 1 3 v1 rfl rfl) h1
  clear hA0 hval0
  simp only [List.append_nil] at hW'
  refine (walk a0 a1 w0 w1 W (tab_of_laid hL)).mono fun e W' ⟨he, hg⟩ => ?_
  subst he
  exact ⟨_, rfl, _, _, _, [], [], [], hW', (trodAll_cons_mk (shut_bool Tryd.underlying4 _) trodAll_mk0), (trodAll_cons_mk (shut_int Tryd.underlying3 w0) (trodAll_cons_mk (shut_int Tryd.underlying3 w1) trodAll_mk0)), rfl, hg.frame _, fun h => by cases h⟩

theorem over : Rows.isaReachRow.holds Tryd.pinned (OpenSpec.ofChange Rows.isaReachSpec) :=
  OpenClaim.holds_of_wide 7 Tryd.f7 rfl rfl rfl rfl rfl rfl rfl ⟨rfl, rfl, rfl, rfl, rfl⟩ rfl rfl rfl rfl rfl (by kernel_rfl) Tryd.func7 (by kernel_rfl)
    (of_decide_eq_true (by kernel_rfl)) (by unfold Func.isWrapper; first | (rw [if_pos (by decide +kernel)]; kernel_rfl) | (rw [if_neg (by decide +kernel)]; exact ⟨rfl, rfl⟩))
    (fun os started H enc _ => lifted os started H enc)

theorem row : Rows.IsaReachSaid :=
  over

/-- The statement. -/
theorem proved : Rows.IsaReachCardSaid :=
  Claim7.holds_tied_plain_at .later [] [.listed, .data, .data, .data] true (true, "3c5c2bcea24cf93f59a84a958fa7d6663da854b10277eeb6ec24b69937c84ae2") false
    row (fun _ h => by cases h) (by kernel_rfl) (fun _ h => by cases h) isaReach_row_tie rfl ⟨rfl, rfl⟩ (by kernel_rfl) rfl
    (fun f fn hf hfn => by
      obtain rfl : f = 7 := Option.some.inj ((show Tryd.prog.funcNamed "letterpress/letterpresslaw2.IsaReach" = some 7 by kernel_rfl).symm.trans hf) |>.symm
      obtain rfl : fn = Tryd.f7 := (Option.some.inj (Tryd.func7.symm.trans hfn)).symm
      exact ⟨by kernel_rfl, fun j t ht => by
        rw [Tryd.params7] at ht
        have hm : t ∈ [3, 3] := by simpa using Array.mem_of_getElem? ht
        have hall : ([3, 3].all fun u => !Tryd.prog.wantsStandIn u) = true := by kernel_rfl
        exact (show Tryd.prog.wantsStandIn t = false by simpa using List.all_eq_true.1 hall t hm)⟩)
    (by kernel_rfl)
#print axioms proved
end Go.Proofs.YtlgimlddcmaboabDoor.isaReach
