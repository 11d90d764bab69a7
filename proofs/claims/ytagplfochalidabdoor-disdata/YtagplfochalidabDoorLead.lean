/- The contract of leading: the bits that some bytes begin with. -/
import Derived.Test.YtagplfochalidabDoorEncode
namespace Go.Proofs.YtagplfochalidabDoor
open Go.ChangeShapes Go.WideShapes Go.ChangeAt Go.RowKit
open Plain
set_option linter.unusedVariables false
set_option linter.unusedSimpArgs false

/-- Is it the first byte of four? -/
def isLong (a : Int) : Bool := a / 16 == 1 || a / 16 == 3 || a / 16 == 5 || a / 16 == 7

/-- The bits of the instruction that these bytes begin with, its size. -/
def leadP : List Int → Int × Int × Bool
  | a :: b :: rest => if isLong a then (match rest with | c :: d :: _ => (((a * 256 + b) * 256 + c) * 256 + d, 4, true) | _ => (0, 0, false)) else (a * 256 + b, 2, true)
  | _ => (0, 0, false)

def AreBytes (bs : List Int) : Prop := ∀ x ∈ bs, 0 ≤ x ∧ x ≤ 255

theorem or_u32 (i : Nat) (x y : Int) (hi : i ≤ 31) (hx0 : 0 ≤ x) (hx : x % 2 ^ i = 0) (hx1 : x < 4294967296) (hy0 : 0 ≤ y) (hy : y < 2 ^ i) : bits .or .u32 x y = x + y := by
  have h32 : (2 : Int) ^ i ≤ 2147483648 := pow_le i 31 hi
  have p0 := pow_pos2 i
  have e2 : (2 : Int) ^ 32 = 2 ^ (32 - i) * 2 ^ i := by rw [← two_pow_split]; congr 1; omega
  have e3 : x = x / 2 ^ i * 2 ^ i := by have := Int.mul_ediv_add_emod x (2 ^ i); rw [hx] at this; rw [Int.mul_comm]; omega
  have e4 : x / 2 ^ i < 2 ^ (32 - i) := by
    apply Int.ediv_lt_of_lt_mul p0
    rw [← e2]; exact hx1
  have e5 : (x / 2 ^ i + 1) * 2 ^ i ≤ 2 ^ (32 - i) * 2 ^ i := Int.mul_le_mul_of_nonneg_right (by omega) (by omega)
  rw [Int.add_mul, Int.one_mul, ← e3, ← e2] at e5
  exact bits_join .u32 32 (by decide) (fun n h0 h1 => by rw [IntKind.wrap_u32]; omega) i x y hx0 hx (by omega) hy0 hy (by omega)

def three (r : Int × Int × Bool) : Value := .tuple #[.int .u32 r.1, .int .i64 r.2.1, .bool r.2.2]

theorem leading_few (p : Option Addr) (bs : List Int) (cap : Nat) (w : World) (h : bs.length < 2) :
    Calls Tryd.prog 18 #[.slice p bs.length cap] w fun e w' => w = w' ∧ e = .returned (.tuple #[.int .u32 0, .int .i64 0, .bool false]) := by
  have d : decide ((bs.length : Int) < 2) = true := by simp; omega
  go_enter Tryd.func18, Tryd.ntmps18
  go_wp2
  go_ret3
  exact ⟨rfl, rfl⟩

set_option maxHeartbeats 800000 in
theorem leading_two (b o : Nat) (x y : Int) (n cap : Nat) (w : World) (h : 2 ≤ n) (hc : n ≤ cap) (hx : 0 ≤ x ∧ x ≤ 255) (hy : 0 ≤ y ∧ y ≤ 255) (hl : isLong x = false) (c0 : w.cell? ⟨b, o, none⟩ = some (.int .u8 x)) (c1 : w.cell? ⟨b, o + 1, none⟩ = some (.int .u8 y)) :
    Calls Tryd.prog 18 #[.slice (some ⟨b, o, none⟩) n cap] w fun e w' => w = w' ∧ e = .returned (.tuple #[.int .u32 (x * 256 + y), .int .i64 2, .bool true]) := by
  obtain ⟨x0, x1⟩ := hx
  obtain ⟨y0, y1⟩ := hy
  unfold isLong at hl
  simp only [Bool.or_eq_false_iff, beq_eq_false_iff_ne] at hl
  obtain ⟨⟨⟨n1, n3⟩, n5⟩, n7⟩ := hl
  have d : decide ((n : Int) < 2) = false := by simp; omega
  have e1 : bits .or .u32 0 x = x := by
    have := or_u32 8 0 x (by omega) (by omega) (by omega) (by omega) x0 (by omega)
    omega
  have e2 : bits .or .u32 (x * 256) y = x * 256 + y := or_u32 8 (x * 256) y (by omega) (by omega) (by omega) (by omega) y0 (by omega)
  go_enter Tryd.func18, Tryd.ntmps18
  go_wp2
  refine wp_loop_rounds 3 ?_
  rw [rounds_succ]
  go_wp2
  rw [rounds_succ]
  go_wp2
  rw [rounds_succ]
  go_wp2
  go_ret3
  exact ⟨rfl, by simp [e1, e2]⟩

theorem long_cases {x : Int} (h : isLong x = true) : x / 16 = 1 ∨ x / 16 = 3 ∨ x / 16 = 5 ∨ x / 16 = 7 := by
  unfold isLong at h
  simp only [Bool.or_eq_true, beq_iff_eq] at h
  omega

set_option maxHeartbeats 800000 in
theorem leading_short (b o : Nat) (x : Int) (n cap : Nat) (w : World) (h : 2 ≤ n) (h4 : n < 4) (x0 : 0 ≤ x) (x1 : x ≤ 255) (hl : isLong x = true) (c0 : w.cell? ⟨b, o, none⟩ = some (.int .u8 x)) :
    Calls Tryd.prog 18 #[.slice (some ⟨b, o, none⟩) n cap] w fun e w' => w = w' ∧ e = .returned (.tuple #[.int .u32 0, .int .i64 0, .bool false]) := by
  have d : decide ((n : Int) < 2) = false := by simp; omega
  have d4 : decide ((n : Int) < 4) = true := by simp; omega
  rcases long_cases hl with e | e | e | e
  all_goals
    clear hl
    go_enter Tryd.func18, Tryd.ntmps18
    go_wp2
    go_ret3
    exact ⟨rfl, rfl⟩

set_option maxHeartbeats 1600000 in
theorem leading_four (b o : Nat) (x y z u : Int) (n cap : Nat) (w : World) (h : 4 ≤ n) (hc : n ≤ cap) (x0 : 0 ≤ x) (x1 : x ≤ 255) (y0 : 0 ≤ y) (y1 : y ≤ 255) (z0 : 0 ≤ z) (z1 : z ≤ 255) (u0 : 0 ≤ u) (u1 : u ≤ 255) (hl : isLong x = true)
    (c0 : w.cell? ⟨b, o, none⟩ = some (.int .u8 x)) (c1 : w.cell? ⟨b, o + 1, none⟩ = some (.int .u8 y)) (c2 : w.cell? ⟨b, o + 2, none⟩ = some (.int .u8 z)) (c3 : w.cell? ⟨b, o + 3, none⟩ = some (.int .u8 u)) :
    Calls Tryd.prog 18 #[.slice (some ⟨b, o, none⟩) n cap] w fun e w' => w = w' ∧ e = .returned (.tuple #[.int .u32 (((x * 256 + y) * 256 + z) * 256 + u), .int .i64 4, .bool true]) := by
  have d : decide ((n : Int) < 2) = false := by simp; omega
  have d4 : decide ((n : Int) < 4) = false := by simp; omega
  have e1 : bits .or .u32 0 x = x := by
    have := or_u32 8 0 x (by omega) (by omega) (by omega) (by omega) x0 (by omega)
    omega
  have e2 : bits .or .u32 (x * 256) y = x * 256 + y := or_u32 8 (x * 256) y (by omega) (by omega) (by omega) (by omega) y0 (by omega)
  have e3 : bits .or .u32 ((x * 256 + y) * 256) z = (x * 256 + y) * 256 + z := or_u32 8 _ z (by omega) (by omega) (by omega) (by omega) z0 (by omega)
  have e4 : bits .or .u32 (((x * 256 + y) * 256 + z) * 256) u = ((x * 256 + y) * 256 + z) * 256 + u := or_u32 8 _ u (by omega) (by omega) (by omega) (by omega) u0 (by omega)
  rcases long_cases hl with e | e | e | e
  all_goals
    clear hl
    go_enter Tryd.func18, Tryd.ntmps18
    go_wp2
    refine wp_loop_rounds 5 ?_
    rw [rounds_succ]
    go_wp2
    rw [rounds_succ]
    go_wp2
    rw [rounds_succ]
    go_wp2
    rw [rounds_succ]
    go_wp2
    rw [rounds_succ]
    go_wp2
    go_ret3
    exact ⟨rfl, by simp [e1, e2, e3, e4]⟩

/-- The slice holds bytes, and its room is no less than its length. -/
def BytesAt (w : World) (v : Value) (bs : List Int) : Prop :=
  ∃ p cap, v = .slice p bs.length cap ∧ bs.length ≤ cap ∧ (bs ≠ [] → ∃ b o, p = some ⟨b, o, none⟩ ∧ ∀ i x, bs[i]? = some x → w.cell? ⟨b, o + i, none⟩ = some (.int .u8 x))

theorem leading_any (v : Value) (bs : List Int) (w : World) (hB : BytesAt w v bs) (hb : AreBytes bs) :
    Calls Tryd.prog 18 #[v] w fun e w' => w = w' ∧ e = .returned (three (leadP bs)) := by
  obtain ⟨p, cap, rfl, hcap, hB⟩ := hB
  match bs, hcap, hB, hb with
  | [], _, _, _ => exact leading_few p [] cap w (by simp)
  | [x], _, _, _ => exact leading_few p [x] cap w (by simp)
  | x :: y :: rest, hcap, hB, hb =>
    obtain ⟨b, o, rfl, hC⟩ := hB (by simp)
    clear hB
    have c0 := hC 0 x rfl
    have c1 := hC 1 y rfl
    have hx := hb x (by simp)
    have hy := hb y (by simp)
    cases hl : isLong x with
    | false =>
      have e : leadP (x :: y :: rest) = (x * 256 + y, 2, true) := by simp [leadP, hl]
      rw [e]
      exact leading_two b o x y _ cap w (by simp) hcap hx hy hl c0 c1
    | true =>
      match rest, hcap, hC, hb with
      | [], _, _, _ =>
        have e : leadP [x, y] = (0, 0, false) := by simp [leadP, hl]
        rw [e]
        exact leading_short b o x _ cap w (by simp) (by simp) hx.1 hx.2 hl c0
      | [z], _, _, _ =>
        have e : leadP [x, y, z] = (0, 0, false) := by simp [leadP, hl]
        rw [e]
        exact leading_short b o x _ cap w (by simp) (by simp) hx.1 hx.2 hl c0
      | z :: u :: rest, hcap, hC, hb =>
        have e : leadP (x :: y :: z :: u :: rest) = (((x * 256 + y) * 256 + z) * 256 + u, 4, true) := by simp [leadP, hl]
        rw [e]
        have hz := hb z (by simp)
        have hu := hb u (by simp)
        exact leading_four b o x y z u _ cap w (by simp) hcap hx.1 hx.2 hy.1 hy.2 hz.1 hz.2 hu.1 hu.2 hl c0 c1 (hC 2 z rfl) (hC 3 u rfl)
end Go.Proofs.YtagplfochalidabDoor
