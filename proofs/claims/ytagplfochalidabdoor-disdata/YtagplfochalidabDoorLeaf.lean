/- Contracts of the small functions on the road of the laws of imm: each call returns, and what. -/
import Derived.Test.YtagplfochalidabDoorRows
import Derived.Test.YtagplfochalidabDoorPlain
import Derived.WalkKit
import Derived.ProofKit
import Derived.OpenShut
import Derived.WalkLawsBesides
import Derived.BigQuiet
namespace Go.Proofs.YtagplfochalidabDoor
open Go.ChangeShapes Go.WideShapes Go.ChangeAt Go.RowKit
open Plain
set_option linter.unusedVariables false
set_option linter.unusedSimpArgs false

theorem upTo_any (n m : Int) (w : World) :
    Calls Tryd.prog 76 #[.int .i64 n, .int .i64 m] w fun e w' => w = w' ∧ e = .returned (.bool (decide (0 ≤ n) && decide (n ≤ m))) := by
  by_cases h : 0 ≤ n
  · go_enter Tryd.func76, Tryd.ntmps76
    go_wp2
    go_ret
    simp [h]
  · go_enter Tryd.func76, Tryd.ntmps76
    go_wp2
    go_ret
    have : decide (0 ≤ n) = false := by simp; omega
    simp [this]

theorem rightBits_any (n : Int) (w : World) :
    Calls Tryd.prog 73 #[.int .i64 n] w fun e w' => w = w' ∧ e = .returned (.bool (decide (1 ≤ n) && decide (n ≤ 40))) := by
  by_cases h : 1 ≤ n
  · go_enter Tryd.func73, Tryd.ntmps73
    go_wp2
    go_ret
    simp [h]
  · go_enter Tryd.func73, Tryd.ntmps73
    go_wp2
    go_ret
    have : decide (1 ≤ n) = false := by simp; omega
    simp [this]

theorem within_any (a n : Int) (hn : 0 < n) (hn2 : n ≤ 4611686018427387904) (w : World) :
    Calls Tryd.prog 5 #[.int .i64 a, .int .i64 n] w fun e w' => w = w' ∧ e = .returned (.int .i64 (a % n)) := by
  have hl := Int.lt_tmod_of_pos a hn
  have hlt := Int.tmod_lt_of_pos a hn
  obtain ⟨hm1, hm2⟩ := emod_of_tmod a n hn
  by_cases c : a.tmod n < 0
  · have e : a % n = a.tmod n + n := hm1 c
    clear hm1 hm2
    go_enter Tryd.func5, Tryd.ntmps5
    go_wp2
    go_ret
    simp [IntWalk.wrap64_in (a.tmod n + n) (by omega), e]
  · have e : a % n = a.tmod n := hm2 (by omega)
    clear hm1 hm2
    go_enter Tryd.func5, Tryd.ntmps5
    go_wp2
    go_ret
    simp

theorem signed_any (n : Int) (w : World) :
    Calls Tryd.prog 77 #[.int .u32 n] w fun e w' => w = w' ∧ e = .returned (.int .i64 (wrap32 n)) := by
  have h : -9223372036854775808 ≤ wrap32 n ∧ wrap32 n ≤ 9223372036854775807 := by unfold wrap32; omega
  go_enter Tryd.func77, Tryd.ntmps77
  go_wp2
  go_ret
  simp [IntWalk.wrap64_in _ h]

theorem filled_any (n : Int) (w : World) :
    Calls Tryd.prog 80 #[.int .i64 n] w fun e w' => w = w' ∧ e = .returned (.int .u32 (if n = 1 then 4294967295 else 0)) := by
  by_cases h : n = 1
  · subst h
    go_enter Tryd.func80, Tryd.ntmps80
    go_wp2
    go_ret
    simp
  · go_enter Tryd.func80, Tryd.ntmps80
    go_wp2
    go_ret
    simp [h]

theorem immSign_any (v : Int) (k : Nat) (h1 : 1 ≤ k) (h2 : k ≤ 40) (w : World) :
    Calls Tryd.prog 57 #[.int .i64 v, .int .i64 k] w fun e w' => w = w' ∧ e = .returned (.int .i64 (signP v k)) := by
  have a1 : decide (1 ≤ (k : Int)) = true := by simp; omega
  have a2 : decide ((k : Int) ≤ 40) = true := by simp; omega
  have a3 := shift_sign v k h1 (by omega)
  go_enter Tryd.func57, Tryd.ntmps57
  go_wp2
  go_ret
  simp [a3]

theorem grown_drewN (w : World) (n : Nat) : Grown w (w.drewN n) := Grown.refl w

theorem grown_trans {a b c : World} (h1 : Grown a b) (h2 : Grown b c) : Grown a c :=
  ⟨World.keptBut_trans h1.1 (h2.frame _), fun x => (h2.2.1 x).trans (h1.2.1 x), Nat.le_trans h1.2.2 h2.2.2⟩

theorem part_any (x : Int) (f b : Int) (h0 : 0 ≤ x) (h1 : x < 4294967296) (f0 : 0 ≤ f) (f1 : f ≤ 31) (b0 : 0 ≤ b) (b1 : b ≤ 31) (w : World) :
    Calls Tryd.prog 75 #[.int .u32 x, .int .i64 f, .int .i64 b] w fun e w' => e = .returned (.int .i64 (x / 2 ^ f.toNat % 2 ^ b.toNat)) ∧ ∃ n, w' = w.drewN n := by
  have a1 := part_of x f b h0 h1 f0 f1 b0 b1
  rw [show min f.toNat 32 = f.toNat by omega, show min b.toNat 32 = b.toNat by omega] at a1
  go_enter Tryd.func75, Tryd.ntmps75
  go_wp2
  go_quiet (fail)
  go_wp2
  go_ret
  exact ⟨by simp [a1], _, rfl⟩

theorem float64bits_run (b : Nat) (w : World) : (callFunc 88 #[.float .f64 b]).run Tryd.prog w = .ok (.value (.int .u64 b)) w := by
  kernel_rfl

theorem float64frombits_run (b : Int) (w : World) : (callFunc 91 #[.int .u64 b]).run Tryd.prog w = .ok (.value (.float .f64 b.toNat)) w := by
  kernel_rfl

theorem ldexp_any (e : Nat) (he : e ≤ 39) (w : World) :
    Calls Tryd.prog 84 #[.float .f64 4607182418800017408, .int .i64 e] w fun r w' => w = w' ∧ r = .returned (.float .f64 (edge e)) := by
  have b1 := float64bits_run
  have b2 := float64frombits_run
  have c1 : (FloatKind.f64.format.order 4607182418800017408 0 == some Ordering.eq) = false := by decide +kernel
  have c2 : bits .andNot .u64 4607182418800017408 9223372036854775808 = 4607182418800017408 := by decide +kernel
  have c3 : (FloatKind.f64.format.order 4607182418800017408 9218868437227405311 == some Ordering.gt) = false := by decide +kernel
  have c4 : (FloatKind.f64.format.order 4607182418800017408 4607182418800017408 != some Ordering.eq) = false := by decide +kernel
  have c5 : (FloatKind.f64.format.order 4607182418800017408 4503599627370496 == some Ordering.lt) = false := by decide +kernel
  have c6 : bits .and .i64 1023 2047 = 1023 := by decide +kernel
  have c7 : bits .andNot .u64 4607182418800017408 9218868437227405312 = 0 := by decide +kernel
  have c8 : bits .or .u64 0 (((e : Int) + 1023) * 4503599627370496) = ((edge e : Nat) : Int) := by
    have : ∀ e : Fin 40, bits .or .u64 0 (((e.val : Int) + 1023) * 4503599627370496) = ((edge e.val : Nat) : Int) := by decide +kernel
    exact this ⟨e, by omega⟩
  have c9 : ∀ (t : TypeId) (w : World), (binOp .mul t (.float .f64 4607182418800017408) (.float .f64 (edge e))).run Tryd.prog w = .ok (.float .f64 (edge e)) w :=
    fun t w => run_float_arith w .mul t .f64 _ _ _ (mul_edge e he)
  go_enter Tryd.func84, Tryd.ntmps84
  go_wp2
  go_ret
  simp

theorem Ldexp_any (e : Nat) (he : e ≤ 39) (w : World) :
    Calls Tryd.prog 74 #[.float .f64 4607182418800017408, .int .i64 e] w fun r w' => w = w' ∧ r = .returned (.float .f64 (edge e)) := by
  go_enter Tryd.func74, Tryd.ntmps74
  go_wp2_with fail
  refine (ldexp_any e he _).mono ?_
  rintro r w' ⟨rfl, rfl⟩
  go_wp2
  go_ret
  simp

theorem immFits_any (v : Int) (k : Nat) (h1 : 1 ≤ k) (h2 : k ≤ 40) (hv1 : -9223372036854775808 ≤ v) (hv2 : v ≤ 9223372036854775807) (w : World) :
    Calls Tryd.prog 56 #[.int .i64 v, .int .i64 k] w fun e w' => w = w' ∧ e = .returned (.bool (fitsP v k)) := by
  have a1 : decide (1 ≤ (k : Int)) = true := by simp; omega
  have a2 : decide ((k : Int) ≤ 40) = true := by simp; omega
  have o1 := lss_edge v (k - 1) (by omega) hv1 hv2
  have o2 := leq_edge v (k - 1) (by omega) hv1 hv2
  have hneg : ∀ (b : Nat) (w : World), (Op.unary .neg (.float .f64 b)).run Tryd.prog w = .ok (.float .f64 (Op.negFloat .f64 b)) w := fun _ _ => rfl
  have hk : (k : Int) - 1 = ((k - 1 : Nat) : Int) := by omega
  go_enter Tryd.func56, Tryd.ntmps56
  go_wp2_with fail
  refine (rightBits_any _ _).mono ?_
  rintro e w' ⟨rfl, rfl⟩
  go_wp2_with fail
  refine (Ldexp_any (k - 1) (by omega) _).mono ?_
  rintro e w' ⟨rfl, rfl⟩
  by_cases c : decide (-(2 ^ (k - 1)) ≤ v) = true
  · rw [c] at o2
    go_wp2
    go_ret
    simp [fitsP, c]
  · have c' : decide (-(2 ^ (k - 1)) ≤ v) = false := by simpa using c
    rw [c'] at o2
    go_wp2
    go_ret
    simp [fitsP, c']
end Go.Proofs.YtagplfochalidabDoor
