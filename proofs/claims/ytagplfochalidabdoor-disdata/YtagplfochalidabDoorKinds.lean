/- Contracts of isa's operands: from a number to its bits, and back. -/
import Derived.Test.YtagplfochalidabDoorBits
namespace Go.Proofs.YtagplfochalidabDoor
open Go.ChangeShapes Go.WideShapes Go.ChangeAt Go.RowKit
open Go.Sort (grow)
open Plain
set_option linter.unusedVariables false
set_option linter.unusedSimpArgs false

/-- Three places, as one value. -/
def plV (p0 q0 l0 s0 p1 q1 l1 s1 p2 q2 l2 s2 : Int) : Array Value := #[.int .i64 p0, .int .i64 q0, .int .i64 l0, .int .i64 s0, .int .i64 p1, .int .i64 q1, .int .i64 l1, .int .i64 s1, .int .i64 p2, .int .i64 q2, .int .i64 l2, .int .i64 s2]

def regC (f b v : Int) : Int × Bool := if 0 ≤ v ∧ v < 8 then (putP f b v, true) else if 24 ≤ v ∧ v < 32 then (putP f b (v - 16), true) else (0, false)
def countC (f b l s v : Int) : Int × Bool := if l ≤ v ∧ v < l + 2 ^ b.toNat * s ∧ (v - l) % s = 0 then (putP f b ((v - l) / s), true) else (0, false)
def signC (f b s v : Int) : Int × Bool := if v % s = 0 ∧ fitsP (v / s) b.toNat = true then (putP f b (v / s), true) else (0, false)
def splitC (p0 q0 p1 q1 p2 q2 v : Int) : Int × Bool := if fitsP v 20 = true then (put3 p0 q0 p1 q1 p2 q2 (v / 65536 % 16) (v / 2048 % 32) (v % 2048), true) else (0, false)
def sciC (p0 q0 p1 q1 p2 q2 v : Int) : Int × Bool := (put3 p0 q0 p1 q1 p2 q2 (sciP v).1 (sciP v).2.1 (sciP v).2.2.1, (sciP v).2.2.2)
def two (r : Int × Bool) : Value := .tuple #[.int .u32 r.1, .bool r.2]

def regT (f b x : Int) : Int := if takeP f b x < 8 then takeP f b x else takeP f b x + 16
def countT (f b l s x : Int) : Int := l + takeP f b x * s
def signT (f b s x : Int) : Int := signP (takeP f b x) b.toNat * s
def splitT (p0 q0 p1 q1 p2 q2 x : Int) : Int := signP (takeP p0 q0 x * 65536 + takeP p1 q1 x * 2048 + takeP p2 q2 x) 20
def sciT (p0 q0 p1 q1 p2 q2 x : Int) : Int := backP (takeP p0 q0 x) (takeP p1 q1 x) (takeP p2 q2 x)

theorem takeP_bounds (f b x : Int) (b0 : 0 ≤ b) (b1 : b ≤ 31) : 0 ≤ takeP f b x ∧ takeP f b x < 2 ^ b.toNat := by
  have pB := pow_pos2 b.toNat
  exact ⟨Int.emod_nonneg _ (by omega), Int.emod_lt_of_pos _ (by omega)⟩

theorem register_any (f b v : Int) (f0 : 0 ≤ f) (f1 : f ≤ 31) (b0 : 0 ≤ b) (b1 : b ≤ 31) (fb : f + b ≤ 32) (l0 s0 p1 q1 l1 s1 p2 q2 l2 s2 : Int) (w : World) :
    Calls Tryd.prog 37 #[.int .i64 v, .agg (plV f b l0 s0 p1 q1 l1 s1 p2 q2 l2 s2)] w fun e w' => e = .returned (two (regC f b v)) ∧ Below w.heap.size w w' := by
  have P0 := fun n W => put_any f b l0 s0 n f0 f1 b0 b1 fb W
  have hb : ∀ o, Below w.heap.size w (w.alloc o) := fun o => (Below.refl _ _).alloc (Nat.le_refl _) _
  unfold plV
  by_cases h1 : 0 ≤ v ∧ v < 8
  · obtain ⟨h1, h2⟩ := h1
    go_enter Tryd.func37, Tryd.ntmps37
    go_wp2_with (go_at_call 54; refine (P0 _ _).mono ?_; rintro e w' ⟨rfl, hw'⟩)
    go_ret2
    exact ⟨by simp [two, regC, h1, h2], (hb _).trans (hw'.mono (by simp))⟩
  · by_cases h2 : 24 ≤ v ∧ v < 32
    · have h3 : decide (v < 8) = false := by simp; omega
      have h4 : decide (24 ≤ v) = true := by simp; omega
      have h5 : decide (v < 32) = true := by simp; omega
      have h6 : decide (0 ≤ v) = true := by simp; omega
      obtain ⟨h7, h8⟩ := h2
      go_enter Tryd.func37, Tryd.ntmps37
      go_wp2_with (go_at_call 54; refine (P0 _ _).mono ?_; rintro e w' ⟨rfl, hw'⟩)
      go_ret2
      exact ⟨by have e : v - 24 + 8 = v - 16 := by omega
                have h9 : ¬ (v < 8) := by omega
                simp [two, regC, h9, h7, h8, e], (hb _).trans (hw'.mono (by simp))⟩
    · have e : regC f b v = (0, false) := by unfold regC; rw [if_neg h1, if_neg h2]
      have hc : v < 0 ∨ (8 ≤ v ∧ v < 24) ∨ 32 ≤ v := by omega
      clear P0
      rcases hc with c | ⟨c, c2⟩ | c
      · have h3 : decide (0 ≤ v) = false := by simp; omega
        have h4 : decide (24 ≤ v) = false := by simp; omega
        clear h1 h2
        go_enter Tryd.func37, Tryd.ntmps37
        go_wp2
        go_ret2
        exact ⟨by simp [two, e], hb _⟩
      · have h3 : decide (0 ≤ v) = true := by simp; omega
        have h4 : decide (v < 8) = false := by simp; omega
        have h5 : decide (24 ≤ v) = false := by simp; omega
        clear h1 h2
        go_enter Tryd.func37, Tryd.ntmps37
        go_wp2
        go_ret2
        exact ⟨by simp [two, e], hb _⟩
      · have h3 : decide (0 ≤ v) = true := by simp; omega
        have h4 : decide (v < 8) = false := by simp; omega
        have h5 : decide (24 ≤ v) = true := by simp; omega
        have h6 : decide (v < 32) = false := by simp; omega
        clear h1 h2
        go_enter Tryd.func37, Tryd.ntmps37
        go_wp2
        go_ret2
        exact ⟨by simp [two, e], hb _⟩

theorem tdiv_cases (x s : Int) (hs : 0 < s) : (0 ≤ x ∧ x.tdiv s = x / s) ∨ (x < 0 ∧ x.tdiv s = -((-x) / s)) := by
  by_cases h : 0 ≤ x
  · exact .inl ⟨h, Int.tdiv_eq_ediv_of_nonneg h⟩
  · refine .inr ⟨by omega, ?_⟩
    have e : x = -(-x) := by omega
    rw [← Int.tdiv_eq_ediv_of_nonneg (by omega : 0 ≤ -x), ← Int.neg_tdiv]
    congr 1

theorem count_of (b l s v : Int) (b0 : 0 ≤ b) (b1 : b ≤ 20) (hl : l = 0 ∨ l = 1) (hs : s = 1 ∨ s = 2 ∨ s = 4) (v0 : -9223372036854775808 ≤ v) (v1 : v ≤ 9223372036854775807) :
    (l ≤ v ∧ v < l + 2 ^ b.toNat * s ∧ (v - l) % s = 0 → wrap64 ((wrap64 (v - l)).tdiv s) = (v - l) / s ∧ 0 ≤ (v - l) / s ∧ (v - l) / s < 2 ^ b.toNat ∧ wrap64 (l + wrap64 ((v - l) / s * s)) = v) ∧
    (¬ (l ≤ v ∧ v < l + 2 ^ b.toNat * s ∧ (v - l) % s = 0) → ∃ N, wrap64 ((wrap64 (v - l)).tdiv s) = N ∧ (N < 0 ∨ (0 ≤ N ∧ 2 ^ b.toNat ≤ N) ∨ (0 ≤ N ∧ N < 2 ^ b.toNat ∧ wrap64 (l + wrap64 (N * s)) ≠ v))) := by
  have pB := pow_pos2 b.toNat
  have qB : (2 : Int) ^ b.toNat ≤ 1048576 := pow_le b.toNat 20 (by omega)
  generalize (2 : Int) ^ b.toNat = P at *
  have h4 : 0 < s := by omega
  have t := tdiv_cases (wrap64 (v - l)) s h4
  constructor
  · intro h
    have e : wrap64 (v - l) = v - l := IntWalk.wrap64_in _ (by rcases hs with rfl | rfl | rfl <;> omega)
    rw [e] at t ⊢
    rcases t with ⟨t0, t⟩ | ⟨t0, t⟩
    · rw [t]
      refine ⟨IntWalk.wrap64_in _ ?_, ?_, ?_, ?_⟩
      · rcases hs with rfl | rfl | rfl <;> omega
      · rcases hs with rfl | rfl | rfl <;> omega
      · rcases hs with rfl | rfl | rfl <;> omega
      · rw [IntWalk.wrap64_in ((v - l) / s * s) (by rcases hs with rfl | rfl | rfl <;> omega), IntWalk.wrap64_in _ (by rcases hs with rfl | rfl | rfl <;> omega)]
        rcases hs with rfl | rfl | rfl <;> omega
    · omega
  · intro h
    refine ⟨_, rfl, ?_⟩
    have w1 : -9223372036854775808 ≤ wrap64 (v - l) ∧ wrap64 (v - l) ≤ 9223372036854775807 := by unfold wrap64; omega
    have w2 : wrap64 (v - l) = v - l ∨ (v = -9223372036854775808 ∧ l = 1 ∧ wrap64 (v - l) = 9223372036854775807) := by unfold wrap64; omega
    generalize wrap64 (v - l) = y at *
    by_cases hy : 0 ≤ y
    · have t : y.tdiv s = y / s := by
        rcases t with ⟨t0, t⟩ | ⟨t0, t⟩
        · exact t
        · omega
      rw [t]
      have e : wrap64 (y / s) = y / s := IntWalk.wrap64_in _ (by rcases hs with rfl | rfl | rfl <;> omega)
      rw [e]
      by_cases hN : P ≤ y / s
      · exact .inr (.inl ⟨by rcases hs with rfl | rfl | rfl <;> omega, hN⟩)
      · refine .inr (.inr ⟨by rcases hs with rfl | rfl | rfl <;> omega, by omega, ?_⟩)
        rw [IntWalk.wrap64_in (y / s * s) (by rcases hs with rfl | rfl | rfl <;> omega), IntWalk.wrap64_in _ (by rcases hs with rfl | rfl | rfl <;> omega)]
        intro hv
        apply h
        rcases hs with rfl | rfl | rfl <;> omega
    · have t : y.tdiv s = -((-y) / s) := by
        rcases t with ⟨t0, t⟩ | ⟨t0, t⟩
        · omega
        · exact t
      rw [t]
      have e : wrap64 (-((-y) / s)) = -((-y) / s) := IntWalk.wrap64_in _ (by rcases hs with rfl | rfl | rfl <;> omega)
      rw [e]
      by_cases hN : -((-y) / s) < 0
      · exact .inl hN
      · refine .inr (.inr ⟨by omega, by rcases hs with rfl | rfl | rfl <;> omega, ?_⟩)
        rw [IntWalk.wrap64_in (-((-y) / s) * s) (by rcases hs with rfl | rfl | rfl <;> omega), IntWalk.wrap64_in _ (by rcases hs with rfl | rfl | rfl <;> omega)]
        intro hv
        rcases hs with rfl | rfl | rfl <;> omega

set_option maxHeartbeats 800000 in
theorem count_any (f b l s v : Int) (f0 : 0 ≤ f) (f1 : f ≤ 31) (b0 : 0 ≤ b) (b1 : b ≤ 20) (fb : f + b ≤ 32) (hl : l = 0 ∨ l = 1) (hs : s = 1 ∨ s = 2 ∨ s = 4) (v0 : -9223372036854775808 ≤ v) (v1 : v ≤ 9223372036854775807) (p1 q1 l1 s1 p2 q2 l2 s2 : Int) (w : World) :
    Calls Tryd.prog 39 #[.int .i64 v, .agg (plV f b l s p1 q1 l1 s1 p2 q2 l2 s2)] w fun e w' => e = .returned (two (countC f b l s v)) ∧ Below w.heap.size w w' := by
  have P0 := fun n W => put_any f b l s n f0 f1 b0 (by omega) fb W
  have hb : ∀ o o', Below w.heap.size w ((w.alloc o).alloc o') := fun o o' => ((Below.refl _ _).alloc (Nat.le_refl _) _).alloc (by simp) _
  have z1 : s ≠ 0 := by omega
  have pB := pow_pos2 b.toNat
  have qB : (2 : Int) ^ b.toNat ≤ 1048576 := pow_le b.toNat 20 (by omega)
  have h2 : wrap64 (2 ^ b.toNat) = 2 ^ b.toNat := IntWalk.wrap64_in _ (by omega)
  obtain ⟨H1, H2⟩ := count_of b l s v b0 b1 hl hs v0 v1
  unfold plV
  by_cases hm : l ≤ v ∧ v < l + 2 ^ b.toNat * s ∧ (v - l) % s = 0
  · have e : countC f b l s v = (putP f b ((v - l) / s), true) := by unfold countC; rw [if_pos hm]
    obtain ⟨a1, a2, a3, a4⟩ := H1 hm
    clear H1 H2 hm hl hs v0 v1 f0 f1 fb pB qB
    generalize (v - l) / s = N at *
    have d1 : decide (N < 0) = false := by simp; omega
    have d2 : decide (2 ^ b.toNat ≤ N) = false := by simp; omega
    clear a2 a3
    go_enter Tryd.func39, Tryd.ntmps39
    go_wp2_with (go_at_call 54; refine (P0 _ _).mono ?_; rintro e w' ⟨rfl, hw'⟩)
    go_ret2
    exact ⟨by simp [two, e], (hb _ _).trans (hw'.mono (by simp; omega))⟩
  · have e : countC f b l s v = (0, false) := by unfold countC; rw [if_neg hm]
    obtain ⟨N, a1, a2⟩ := H2 hm
    clear H1 H2 hm hl hs v0 v1 f0 f1 fb pB qB
    rcases a2 with a2 | ⟨a2, a3⟩ | ⟨a2, a3, a4⟩
    · have d1 : decide (N < 0) = true := by simp; omega
      clear a2
      go_enter Tryd.func39, Tryd.ntmps39
      go_wp2
      go_ret2
      exact ⟨by simp [two, e], hb _ _⟩
    · have d1 : decide (N < 0) = false := by simp; omega
      have d2 : decide (2 ^ b.toNat ≤ N) = true := by simp; omega
      clear a2 a3
      go_enter Tryd.func39, Tryd.ntmps39
      go_wp2
      go_ret2
      exact ⟨by simp [two, e], hb _ _⟩
    · have d1 : decide (N < 0) = false := by simp; omega
      have d2 : decide (2 ^ b.toNat ≤ N) = false := by simp; omega
      clear a2 a3
      go_enter Tryd.func39, Tryd.ntmps39
      go_wp2
      go_ret2
      exact ⟨by simp [two, e], hb _ _⟩

theorem signed_of (b s v : Int) (hs : s = 1 ∨ s = 2) (v0 : -9223372036854775808 ≤ v) (v1 : v ≤ 9223372036854775807) :
    (v % s = 0 → wrap64 (v.tdiv s) = v / s ∧ wrap64 (v / s * s) = v ∧ -9223372036854775808 ≤ v / s ∧ v / s ≤ 9223372036854775807) ∧ (v % s ≠ 0 → ∃ N, wrap64 (v.tdiv s) = N ∧ wrap64 (N * s) ≠ v) := by
  have t := tdiv_cases v s (by omega)
  constructor
  · intro h
    refine ⟨?_, ?_, ?_, ?_⟩
    · rw [IntWalk.wrap64_in]
      · rcases hs with rfl | rfl <;> omega
      · rcases hs with rfl | rfl <;> omega
    · rw [IntWalk.wrap64_in]
      · rcases hs with rfl | rfl <;> omega
      · rcases hs with rfl | rfl <;> omega
    · rcases hs with rfl | rfl <;> omega
    · rcases hs with rfl | rfl <;> omega
  · intro h
    refine ⟨_, rfl, ?_⟩
    rw [IntWalk.wrap64_in (v.tdiv s) (by rcases hs with rfl | rfl <;> omega), IntWalk.wrap64_in _ (by rcases hs with rfl | rfl <;> omega)]
    rcases hs with rfl | rfl <;> omega

set_option maxHeartbeats 800000 in
theorem isigned_any (f s v l : Int) (b : Nat) (f0 : 0 ≤ f) (f1 : f ≤ 31) (b0 : 1 ≤ b) (b1 : b ≤ 31) (fb : f + b ≤ 32) (hs : s = 1 ∨ s = 2) (v0 : -9223372036854775808 ≤ v) (v1 : v ≤ 9223372036854775807) (p1 q1 l1 s1 p2 q2 l2 s2 : Int) (w : World) :
    Calls Tryd.prog 41 #[.int .i64 v, .agg (plV f b l s p1 q1 l1 s1 p2 q2 l2 s2)] w fun e w' => e = .returned (two (signC f b s v)) ∧ Below w.heap.size w w' := by
  have P0 := fun n W => put_any f b l s n f0 f1 (by omega) (by omega) fb W
  have hb : ∀ o o', Below w.heap.size w ((w.alloc o).alloc o') := fun o o' => ((Below.refl _ _).alloc (Nat.le_refl _) _).alloc (by simp) _
  have z1 : s ≠ 0 := by omega
  obtain ⟨H1, H2⟩ := signed_of b s v hs v0 v1
  have F := fun n h0 h1 W => immFits_any n b b0 (by omega) h0 h1 W
  unfold plV
  by_cases hm : v % s = 0
  · obtain ⟨a1, a2, a3, a4⟩ := H1 hm
    cases hf : fitsP (v / s) b with
    | true =>
      have e : signC f b s v = (putP f b (v / s), true) := by unfold signC; rw [if_pos ⟨hm, by simpa using hf⟩]
      clear H1 H2 hm hs v0 v1 f0 f1 b0 b1 fb
      generalize v / s = N at *
      have F1 := fun W => F N a3 a4 W
      clear F
      go_enter Tryd.func41, Tryd.ntmps41
      go_wp2_with (first | (go_at_call 54; refine (P0 _ _).mono ?_; rintro e w' ⟨rfl, hw'⟩) | (go_at_call 56; refine (F1 _).mono ?_; rintro e w' ⟨rfl, rfl⟩))
      go_ret2
      exact ⟨by simp [two, e], (hb _ _).trans (hw'.mono (by simp; omega))⟩
    | false =>
      have e : signC f b s v = (0, false) := by unfold signC; rw [if_neg (by simp [hf])]
      clear H1 H2 hm hs v0 v1 f0 f1 b0 b1 fb
      generalize v / s = N at *
      have F1 := fun W => F N a3 a4 W
      clear F P0
      go_enter Tryd.func41, Tryd.ntmps41
      go_wp2_with (go_at_call 56; refine (F1 _).mono ?_; rintro e w' ⟨rfl, rfl⟩)
      go_ret2
      exact ⟨by simp [two, e], hb _ _⟩
  · have e : signC f b s v = (0, false) := by unfold signC; rw [if_neg (by simp [hm])]
    obtain ⟨N, a1, a2⟩ := H2 hm
    clear H1 H2 hm hs v0 v1 f0 f1 b0 b1 fb F P0
    go_enter Tryd.func41, Tryd.ntmps41
    go_wp2
    go_ret2
    exact ⟨by simp [two, e], hb _ _⟩
end Go.Proofs.YtagplfochalidabDoor
