/- The reference's reader: next: a sign of a level that stands here. -/
import Derived.Test.YtopfnfmglnjljaaGreatDoorRefNum
namespace Go.Proofs.YtopfnfmglnjljaaGreatDoor.Rf
open Go.Proofs.YtopfnfmglnjljaaGreatDoor
open Go.ChangeShapes Go.WideShapes Go.ChangeAt Go.RowKit

set_option linter.unusedVariables false
set_option linter.unusedSimpArgs false

/-- The kinds of a level. -/
def lvKinds : Nat → List Nat
  | 0 => [9]
  | 1 => [8]
  | 2 => [10, 11]
  | 3 => [5, 6]
  | _ => [7]
def lvOf (k : Nat) : Nat := if k = 5 ∨ k = 6 then 3 else if k = 7 then 4 else if k = 8 then 1 else if k = 9 then 0 else 2

theorem rsign_lv (k : Nat) (h5 : 5 ≤ k) (h11 : k ≤ 11) (w : World) : Calls Tryz.prog 34 #[.int .i64 k] w fun e w' => e = .returned (.tuple #[.string (bs (signOf k)), .int .i64 (lvOf k)]) ∧ w' = w := by
  obtain rfl | rfl | rfl | rfl | rfl | rfl | rfl : k = 5 ∨ k = 6 ∨ k = 7 ∨ k = 8 ∨ k = 9 ∨ k = 10 ∨ k = 11 := by omega
  all_goals
    go_enter Tryz.func34, Tryz.ntmps34
    go_wp2_with fail
    go_ret2
    exact ⟨rfl, rfl⟩

theorem lv_hit : ∀ (lv : Fin 5) (k : Fin 12), 5 ≤ k.val → lvOf k.val = lv.val → (lvKinds lv.val).filter (fun j => decide (k.val ≤ j)) = k.val :: (lvKinds lv.val).filter (fun j => decide (k.val + 1 ≤ j)) := by decide
theorem lv_miss : ∀ (lv : Fin 5) (k : Fin 12), 5 ≤ k.val → lvOf k.val ≠ lv.val → (lvKinds lv.val).filter (fun j => decide (k.val ≤ j)) = (lvKinds lv.val).filter (fun j => decide (k.val + 1 ≤ j)) := by decide
theorem lv_all : ∀ (lv : Fin 5), (lvKinds lv.val).filter (fun j => decide (5 ≤ j)) = lvKinds lv.val := by decide
theorem lv_none : ∀ (lv : Fin 5), (lvKinds lv.val).filter (fun j => decide (12 ≤ j)) = [] := by decide
theorem signOf_le (k : Nat) : (signOf k).length ≤ 2 := by
  unfold signOf
  repeat' split
  all_goals simp

def kindI : Option Nat → Int
  | some k => k
  | none => 0

set_option maxHeartbeats 4000000 in
set_option maxRecDepth 20000 in
theorem next_any (b : Nat) (S : Bs) (hl : S.length ≤ 35184372088832) (lv : Nat) (hlv : lv < 5) (p d : Nat) (w : World) (h : RR w b S p d false) :
    Calls Tryz.prog 51 #[.pointer (some ⟨b, 0, none⟩), .int .i64 lv] w fun e w' => e = .returned (.int .i64 (kindI (betweenP (lvKinds lv) (S.drop p)).1)) ∧ Beside b w w' ∧ ∃ q, RR w' b S q d false ∧ S.drop q = (betweenP (lvKinds lv) (S.drop p)).2 := by
  obtain ⟨r, hr⟩ : ∃ r, r = betweenP (lvKinds lv) (S.drop p) := ⟨_, rfl⟩
  rw [← hr]
  have HR : Hid (betweenP ((lvKinds lv).filter (fun j => decide (5 ≤ j))) (S.drop p) = r) := by unfold Hid; rw [lv_all ⟨lv, hlv⟩, hr]
  clear hr
  have SG := rsign_lv
  go_enter Tryz.func51, Tryz.ntmps51
  go_wp2_with fail
  go_loopw [5] (fun i wr => ∃ k q : Nat, 5 ≤ k ∧ k ≤ 12 ∧ i = .int .i64 k ∧ Beside b w wr ∧ RR wr b S q d false ∧ Hid (betweenP ((lvKinds lv).filter (fun j => decide (k ≤ j))) (S.drop q) = r)) (fun i _ => 12 - (intOf i).toNat)
  case atStart => exact ⟨5, p, by omega, by omega, rfl, Beside.refl _ _, h, HR⟩
  case round =>
    obtain ⟨k, q, h5, h12, rfl, hb, hR, hH⟩ := hrel
    obtain ⟨c0, c1, c2, c3, f0, f1, f2, f3, le⟩ := id hR
    by_cases hk : k ≤ 11
    · have SG1 := SG k h5 hk
      have hkI : (k : Int) ≤ 11 := by omega
      clear SG HR h
      by_cases hlk : lvOf k = lv
      · have e1 : ((lvOf k : Int) == (lv : Int)) = true := by rw [hlk]; simp
        have hs := hH.out
        rw [lv_hit ⟨lv, hlv⟩ ⟨k, by omega⟩ h5 hlk] at hs
        have HS : Hid ((if (tookP (S.drop q) (signOf k)).2 then (some k, (tookP (S.drop q) (signOf k)).1) else betweenP ((lvKinds lv).filter (fun j => decide (k + 1 ≤ j))) (tookP (S.drop q) (signOf k)).1) = r) := hs
        have I := fun W h => is_any b S hl (signOf k) (signOf_le k) q d false W h
        clear hs hH
        generalize tookP (S.drop q) (signOf k) = tk at *
        obtain ⟨s1, t1⟩ := tk
        generalize lvOf k = lk at *
        cases t1 with
        | true =>
          go_wp2_with (first | (go_at_call 34; refine (SG1 _).mono ?_; rintro e w' ⟨rfl, rfl⟩) | (go_at_call 65; refine (I _ hR).mono ?_; rintro e W2 ⟨rfl, hb2, q2, hR2, hq2⟩))
          go_ret
          rw [← HS.out]
          exact ⟨rfl, hb.trans hb2, q2, hR2, hq2⟩
        | false =>
          go_wp2_with (first | (go_at_call 34; refine (SG1 _).mono ?_; rintro e w' ⟨rfl, rfl⟩) | (go_at_call 65; refine (I _ hR).mono ?_; rintro e W2 ⟨rfl, hb2, q2, hR2, hq2⟩))
          exact ⟨⟨k + 1, q2, by omega, by omega, by simp, hb.trans hb2, hR2, by rw [hq2]; exact HS.out⟩, by simp [intOf]; omega⟩
      · have e1 : ((lvOf k : Int) == (lv : Int)) = false := by simp; omega
        have HS : Hid (betweenP ((lvKinds lv).filter (fun j => decide (k + 1 ≤ j))) (S.drop q) = r) := by
          have := hH.out
          rw [lv_miss ⟨lv, hlv⟩ ⟨k, by omega⟩ h5 hlk] at this
          exact this
        clear hH
        generalize lvOf k = lk at *
        go_wp2_with (first | (go_at_call 34; refine (SG1 _).mono ?_; rintro e w' ⟨rfl, rfl⟩))
        go_roundw
        case rel => exact ⟨k + 1, q, by omega, by omega, by simp, hb, hR, HS⟩
        case measure => simp [intOf]; omega
    · obtain rfl : k = 12 := by omega
      have hs := hH.out
      rw [lv_none ⟨lv, hlv⟩] at hs
      have HS : Hid (r = (none, S.drop q)) := hs.symm
      clear hs hH SG HR
      go_wp2_with fail
      go_ret
      rw [HS.out]
      exact ⟨rfl, hb, q, hR, rfl⟩

set_option maxHeartbeats 4000000 in
set_option maxRecDepth 20000 in
theorem next_bad (b : Nat) (S : Bs) (lv p d : Nat) (w : World) (h : RR w b S p d true) :
    Calls Tryz.prog 51 #[.pointer (some ⟨b, 0, none⟩), .int .i64 lv] w fun e w' => e = .returned (.int .i64 0) ∧ w' = w := by
  have SG := rsign_lv
  obtain ⟨c0, c1, c2, c3, f0, f1, f2, f3, le⟩ := id h
  go_enter Tryz.func51, Tryz.ntmps51
  go_wp2_with fail
  go_loopw [5] (fun i wr => ∃ k : Nat, 5 ≤ k ∧ k ≤ 12 ∧ i = .int .i64 k ∧ wr = w) (fun i _ => 12 - (intOf i).toNat)
  case atStart => exact ⟨5, by omega, by omega, rfl, rfl⟩
  case round =>
    obtain ⟨k, h5, h12, rfl, rfl⟩ := hrel
    by_cases hk : k ≤ 11
    · have SG1 := SG k h5 hk
      have hkI : (k : Int) ≤ 11 := by omega
      clear SG h
      by_cases hlk : lvOf k = lv
      · have e1 : ((lvOf k : Int) == (lv : Int)) = true := by rw [hlk]; simp
        generalize lvOf k = lk at *
        go_wp2_with (first | (go_at_call 34; refine (SG1 _).mono ?_; rintro e w' ⟨rfl, rfl⟩))
        go_roundw
        case rel => exact ⟨k + 1, by omega, by omega, by simp, trivial⟩
        case measure => simp [intOf]; omega
      · have e1 : ((lvOf k : Int) == (lv : Int)) = false := by simp; omega
        generalize lvOf k = lk at *
        go_wp2_with (first | (go_at_call 34; refine (SG1 _).mono ?_; rintro e w' ⟨rfl, rfl⟩))
        go_roundw
        case rel => exact ⟨k + 1, by omega, by omega, by simp, trivial⟩
        case measure => simp [intOf]; omega
    · obtain rfl : k = 12 := by omega
      clear SG h
      go_wp2_with fail
      go_ret
      exact ⟨rfl, rfl⟩
end Go.Proofs.YtopfnfmglnjljaaGreatDoor.Rf
