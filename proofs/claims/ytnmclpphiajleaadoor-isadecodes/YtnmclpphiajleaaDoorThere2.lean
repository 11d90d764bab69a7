/- Plain facts: what was encoded is told as it was, and as nothing else. -/
import Derived.Test.YtnmclpphiajleaaDoorThere
namespace Go.Proofs.YtnmclpphiajleaaDoor
open Go.RowKit
open Plain
set_option linter.unusedVariables false
set_option linter.unusedSimpArgs false

/-- Where a kind's bits stand. -/
def K.mask : K → Nat
  | .kX => 0xf
  | .kY => 0xf0
  | .kU5 => 0x1f0
  | .kU7 => 0x7f0
  | .kO5 => 0x1f0
  | .kM1 => 0xf00
  | .kM2 => 0xf00
  | .kM4 => 0xf00
  | .kO1 => 0x400
  | .kI2 => 0x300
  | .kT8 => 0xff
  | .kD => 0x3e00000
  | .kA => 0x1f0000
  | .kB => 0xf800
  | .kS16 => 0xffff
  | .kL20 => 0x1f7fff
  | .kC8 => 0x7ff
  | .kO2 => 0x300000
  | .kI4 => 0xf0000
  | .kT15 => 0xfffe
  | .kT24 => 0x1fffffe

theorem put_mask (f b : Nat) (n : Int) : ∃ c : Nat, putP f b n = (c : Int) ∧ c &&& ((2 ^ b - 1) <<< f) = c := by
  have pB : (0 : Int) < 2 ^ b := pow_pos2 b
  have h0 := Int.emod_nonneg n (b := 2 ^ b) (by omega)
  have h1 := Int.emod_lt_of_pos n pB
  obtain ⟨m, hm⟩ := Int.eq_ofNat_of_zero_le h0
  rw [hm] at h1
  have h1' : m < 2 ^ b := by exact_mod_cast h1
  refine ⟨m <<< f, ?_, ?_⟩
  · unfold putP
    rw [Int.toNat_natCast, Int.toNat_natCast, hm, Nat.shiftLeft_eq]
    push_cast
    rfl
  · rw [← Nat.shiftLeft_and_distrib, Nat.and_two_pow_sub_one_eq_mod, Nat.mod_eq_of_lt h1']

theorem take_nat (f b x : Nat) : takeP f b (x : Int) = (((x >>> f) &&& (2 ^ b - 1) : Nat) : Int) := by
  unfold takeP
  rw [Int.toNat_natCast, Int.toNat_natCast, Nat.and_two_pow_sub_one_eq_mod, Nat.shiftRight_eq_div_pow]
  push_cast
  rfl

theorem take_local (f b M x y : Nat) (hM : (M >>> f) &&& (2 ^ b - 1) = 2 ^ b - 1) (h : x &&& M = y &&& M) : takeP f b (x : Int) = takeP f b (y : Int) := by
  have g : ∀ z : Nat, (z >>> f) &&& (2 ^ b - 1) = ((z &&& M) >>> f) &&& (2 ^ b - 1) := by
    intro z
    rw [Nat.shiftRight_and_distrib, Nat.and_assoc, hM]
  rw [take_nat, take_nat, g x, g y, h]

theorem put_or {M a b : Nat} (ha : a &&& M = a) (hb : b &&& M = b) : (a ||| b) &&& M = a ||| b := by
  rw [Nat.and_or_distrib_right, ha, hb]

theorem lt_of_mask {c M : Nat} (h : c &&& M = c) (hM : M < 4294967296) : c < 4294967296 := by
  have := Nat.and_le_right (n := c) (m := M)
  omega

/-- A mask within a mask. -/
theorem mask_sub {c m M : Nat} (h : c &&& m = c) (hm : m &&& M = m) : c &&& M = c := by
  rw [← h, Nat.and_assoc, hm]

theorem put3_mask (p0 q0 p1 q1 p2 q2 : Nat) (x y z : Int) (M : Nat) (h0 : ((2 ^ q0 - 1) <<< p0) &&& M = (2 ^ q0 - 1) <<< p0) (h1 : ((2 ^ q1 - 1) <<< p1) &&& M = (2 ^ q1 - 1) <<< p1) (h2 : ((2 ^ q2 - 1) <<< p2) &&& M = (2 ^ q2 - 1) <<< p2) (hM : M < 4294967296) :
    ∃ c : Nat, put3 p0 q0 p1 q1 p2 q2 x y z = (c : Int) ∧ c &&& M = c := by
  obtain ⟨a, ea, ha⟩ := put_mask p0 q0 x
  obtain ⟨b, eb, hb⟩ := put_mask p1 q1 y
  obtain ⟨c, ec, hc⟩ := put_mask p2 q2 z
  have ha := mask_sub ha h0
  have hb := mask_sub hb h1
  have hc := mask_sub hc h2
  have hab := put_or ha hb
  refine ⟨a ||| b ||| c, ?_, put_or hab hc⟩
  unfold put3
  rw [ea, eb, ec, bits_or_u32_nat a b (lt_of_mask ha hM) (lt_of_mask hb hM), bits_or_u32_nat _ c (lt_of_mask hab hM) (lt_of_mask hc hM)]

theorem zero_mask (M : Nat) : ∃ c : Nat, (0 : Int) = (c : Int) ∧ c &&& M = c := ⟨0, rfl, Nat.zero_and M⟩

/-- An operand's bits stand where its kind's do. -/
theorem code_mask (k : K) (v : Int) : ∃ c : Nat, (k.code v).1 = (c : Int) ∧ c &&& k.mask = c := by
  have hr : ∀ f : Nat, ∃ c : Nat, (regC f 4 v).1 = (c : Int) ∧ c &&& ((2 ^ 4 - 1) <<< f) = c := by
    intro f
    unfold regC
    split
    · exact put_mask f 4 v
    · split
      · exact put_mask f 4 (v - 16)
      · exact zero_mask _
  have hc : ∀ (f b : Nat) (l s : Int), ∃ c : Nat, (countC f b l s v).1 = (c : Int) ∧ c &&& ((2 ^ b - 1) <<< f) = c := by
    intro f b l s
    unfold countC
    split
    · exact put_mask f b ((v - l) / s)
    · exact zero_mask _
  have hg : ∀ (f b : Nat) (s : Int), ∃ c : Nat, (signC f b s v).1 = (c : Int) ∧ c &&& ((2 ^ b - 1) <<< f) = c := by
    intro f b s
    unfold signC
    split
    · exact put_mask f b (v / s)
    · exact zero_mask _
  cases k
  · exact hr 0
  · exact hr 4
  · exact hc 4 5 0 1
  · exact hc 4 7 0 1
  · exact hc 4 5 1 1
  · exact hc 8 4 0 1
  · exact hc 8 4 0 2
  · exact hc 8 4 0 4
  · exact hc 10 1 0 1
  · exact hc 8 2 0 1
  · exact hg 0 8 2
  · exact hc 21 5 0 1
  · exact hc 16 5 0 1
  · exact hc 11 5 0 1
  · exact hg 0 16 1
  · show ∃ c : Nat, (splitC 11 4 16 5 0 11 v).1 = (c : Int) ∧ c &&& 0x1f7fff = c
    unfold splitC
    split
    · exact put3_mask 11 4 16 5 0 11 _ _ _ 0x1f7fff (by decide) (by decide) (by decide) (by decide)
    · exact zero_mask _
  · exact put3_mask 10 1 8 2 0 8 _ _ _ 0x7ff (by decide) (by decide) (by decide) (by decide)
  · exact hc 20 2 0 1
  · exact hc 16 4 0 1
  · exact hg 1 15 2
  · exact hg 1 24 2

/-- What is told of an operand hangs on its kind's bits alone. -/
theorem tell_local (k : K) (x y : Nat) (h : x &&& k.mask = y &&& k.mask) : k.tell (x : Int) = k.tell (y : Int) := by
  have hr : ∀ f : Nat, takeP f 4 (x : Int) = takeP f 4 (y : Int) → regT f 4 (x : Int) = regT f 4 (y : Int) := by
    intro f e; unfold regT; rw [e]
  have hc : ∀ (f b l s : Int), takeP f b (x : Int) = takeP f b (y : Int) → countT f b l s (x : Int) = countT f b l s (y : Int) := by
    intro f b l s e; unfold countT; rw [e]
  have hg : ∀ (f b s : Int), takeP f b (x : Int) = takeP f b (y : Int) → signT f b s (x : Int) = signT f b s (y : Int) := by
    intro f b s e; unfold signT; rw [e]
  cases k
  · exact hr 0 (take_local 0 4 _ x y (by decide) h)
  · exact hr 4 (take_local 4 4 _ x y (by decide) h)
  · exact hc 4 5 0 1 (take_local 4 5 _ x y (by decide) h)
  · exact hc 4 7 0 1 (take_local 4 7 _ x y (by decide) h)
  · exact hc 4 5 1 1 (take_local 4 5 _ x y (by decide) h)
  · exact hc 8 4 0 1 (take_local 8 4 _ x y (by decide) h)
  · exact hc 8 4 0 2 (take_local 8 4 _ x y (by decide) h)
  · exact hc 8 4 0 4 (take_local 8 4 _ x y (by decide) h)
  · exact hc 10 1 0 1 (take_local 10 1 _ x y (by decide) h)
  · exact hc 8 2 0 1 (take_local 8 2 _ x y (by decide) h)
  · exact hg 0 8 2 (take_local 0 8 _ x y (by decide) h)
  · exact hc 21 5 0 1 (take_local 21 5 _ x y (by decide) h)
  · exact hc 16 5 0 1 (take_local 16 5 _ x y (by decide) h)
  · exact hc 11 5 0 1 (take_local 11 5 _ x y (by decide) h)
  · exact hg 0 16 1 (take_local 0 16 _ x y (by decide) h)
  · show splitT 11 4 16 5 0 11 (x : Int) = splitT 11 4 16 5 0 11 (y : Int)
    unfold splitT
    rw [show takeP 11 4 (x : Int) = takeP 11 4 (y : Int) from take_local 11 4 _ x y (by decide) h, show takeP 16 5 (x : Int) = takeP 16 5 (y : Int) from take_local 16 5 _ x y (by decide) h, show takeP 0 11 (x : Int) = takeP 0 11 (y : Int) from take_local 0 11 _ x y (by decide) h]
  · show sciT 10 1 8 2 0 8 (x : Int) = sciT 10 1 8 2 0 8 (y : Int)
    unfold sciT
    rw [show takeP 10 1 (x : Int) = takeP 10 1 (y : Int) from take_local 10 1 _ x y (by decide) h, show takeP 8 2 (x : Int) = takeP 8 2 (y : Int) from take_local 8 2 _ x y (by decide) h, show takeP 0 8 (x : Int) = takeP 0 8 (y : Int) from take_local 0 8 _ x y (by decide) h]
  · exact hc 20 2 0 1 (take_local 20 2 _ x y (by decide) h)
  · exact hc 16 4 0 1 (take_local 16 4 _ x y (by decide) h)
  · exact hg 1 15 2 (take_local 1 15 _ x y (by decide) h)
  · exact hg 1 24 2 (take_local 1 24 _ x y (by decide) h)

theorem split_back (v : Int) (h : (splitC 11 4 16 5 0 11 v).2 = true) : splitT 11 4 16 5 0 11 (splitC 11 4 16 5 0 11 v).1 = v := by
  unfold splitC at h ⊢
  by_cases h1 : fitsP v 20 = true
  · rw [if_pos h1]
    have p19 : (2 : Int) ^ (20 - 1) = 524288 := by decide
    have hv := h1
    unfold fitsP at hv
    rw [Bool.and_eq_true, decide_eq_true_eq, decide_eq_true_eq, p19] at hv
    have p4 : (2 : Int) ^ (4 : Int).toNat = 16 := by decide
    have p5 : (2 : Int) ^ (5 : Int).toNat = 32 := by decide
    have p11 : (2 : Int) ^ (11 : Int).toNat = 2048 := by decide
    have p16 : (2 : Int) ^ (16 : Int).toNat = 65536 := by decide
    have p0 : (2 : Int) ^ (0 : Int).toNat = 1 := by decide
    have e : put3 11 4 16 5 0 11 (v / 65536 % 16) (v / 2048 % 32) (v % 2048) = (v / 2048 % 32) * 65536 + (v / 65536 % 16) * 2048 + v % 2048 := by
      unfold put3 putP
      rw [p4, p5, p11, p16, p0]
      rw [Int.emod_eq_of_lt (by omega : 0 ≤ v / 65536 % 16) (by omega), Int.emod_eq_of_lt (by omega : 0 ≤ v / 2048 % 32) (by omega), Int.emod_eq_of_lt (by omega : 0 ≤ v % 2048) (by omega), Int.mul_one]
      rw [or_comm32 (v / 65536 % 16 * 2048) (v / 2048 % 32 * 65536) (by omega) (by omega) (by omega) (by omega)]
      have q16 : (2 : Int) ^ 16 = 65536 := by decide
      have q11 : (2 : Int) ^ 11 = 2048 := by decide
      rw [or_u32 16 (v / 2048 % 32 * 65536) (v / 65536 % 16 * 2048) (by omega) (by omega) (by rw [q16]; omega) (by omega) (by omega) (by rw [q16]; omega)]
      rw [or_u32 11 _ (v % 2048) (by omega) (by omega) (by rw [q11]; omega) (by omega) (by omega) (by rw [q11]; omega)]
    show splitT 11 4 16 5 0 11 (put3 11 4 16 5 0 11 (v / 65536 % 16) (v / 2048 % 32) (v % 2048)) = v
    rw [e]
    unfold splitT takeP
    rw [p4, p5, p11, p16, p0, sign20]
    have key : ∀ a b c : Int, 0 ≤ a → a < 16 → 0 ≤ b → b < 32 → 0 ≤ c → c < 2048 → (b * 65536 + a * 2048 + c) / 2048 % 16 = a ∧ (b * 65536 + a * 2048 + c) / 65536 % 32 = b ∧ (b * 65536 + a * 2048 + c) / 1 % 2048 = c := by
      intro a b c _ _ _ _ _ _
      refine ⟨?_, ?_, ?_⟩ <;> omega
    obtain ⟨k1, k2, k3⟩ := key (v / 65536 % 16) (v / 2048 % 32) (v % 2048) (by omega) (by omega) (by omega) (by omega) (by omega) (by omega)
    rw [k1, k2, k3]
    clear key k1 k2 k3 e h h1
    omega
  · rw [if_neg h1] at h
    simp at h

theorem sci_back (v : Int) (h : (sciC 10 1 8 2 0 8 v).2 = true) : sciT 10 1 8 2 0 8 (sciC 10 1 8 2 0 8 v).1 = v := by
  unfold sciC at h ⊢
  rcases sci_cases v with e | ⟨a, b, c, e, a0, a1, b0, b1, c0, c1, hb⟩
  · rw [e] at h; simp at h
  · rw [e]
    have p1 : (2 : Int) ^ (1 : Int).toNat = 2 := by decide
    have p2 : (2 : Int) ^ (2 : Int).toNat = 4 := by decide
    have p8 : (2 : Int) ^ (8 : Int).toNat = 256 := by decide
    have p10 : (2 : Int) ^ (10 : Int).toNat = 1024 := by decide
    have p0 : (2 : Int) ^ (0 : Int).toNat = 1 := by decide
    have e2 : put3 10 1 8 2 0 8 a b c = a * 1024 + b * 256 + c := by
      unfold put3 putP
      rw [p1, p2, p8, p10, p0]
      rw [Int.emod_eq_of_lt a0 (by omega), Int.emod_eq_of_lt b0 (by omega), Int.emod_eq_of_lt c0 (by omega), Int.mul_one]
      have q10 : (2 : Int) ^ 10 = 1024 := by decide
      have q8 : (2 : Int) ^ 8 = 256 := by decide
      rw [or_u32 10 (a * 1024) (b * 256) (by omega) (by omega) (by rw [q10]; omega) (by omega) (by omega) (by rw [q10]; omega)]
      rw [or_u32 8 _ c (by omega) (by omega) (by rw [q8]; omega) (by omega) (by omega) (by rw [q8]; omega)]
    show sciT 10 1 8 2 0 8 (put3 10 1 8 2 0 8 a b c) = v
    rw [e2]
    unfold sciT takeP
    rw [p1, p2, p8, p10, p0]
    rw [show (a * 1024 + b * 256 + c) / 1024 % 2 = a by omega, show (a * 1024 + b * 256 + c) / 256 % 4 = b by omega, show (a * 1024 + b * 256 + c) / 1 % 256 = c by omega]
    exact hb

/-- An operand's bits, read back, are the operand. -/
theorem tell_code (k : K) (v : Int) (h : (k.code v).2 = true) : k.tell (k.code v).1 = v := by
  cases k
  · exact reg_back 0 v h
  · exact reg_back 4 v h
  · exact count_back 4 5 0 1 v (by omega) h
  · exact count_back 4 7 0 1 v (by omega) h
  · exact count_back 4 5 1 1 v (by omega) h
  · exact count_back 8 4 0 1 v (by omega) h
  · exact count_back 8 4 0 2 v (by omega) h
  · exact count_back 8 4 0 4 v (by omega) h
  · exact count_back 10 1 0 1 v (by omega) h
  · exact count_back 8 2 0 1 v (by omega) h
  · exact sign_back 0 2 v 8 (by omega) (by omega) h
  · exact count_back 21 5 0 1 v (by omega) h
  · exact count_back 16 5 0 1 v (by omega) h
  · exact count_back 11 5 0 1 v (by omega) h
  · exact sign_back 0 1 v 16 (by omega) (by omega) h
  · exact split_back v h
  · exact sci_back v h
  · exact count_back 20 2 0 1 v (by omega) h
  · exact count_back 16 4 0 1 v (by omega) h
  · exact sign_back 1 2 v 15 (by omega) (by omega) h
  · exact sign_back 1 2 v 24 (by omega) (by omega) h
end Go.Proofs.YtnmclpphiajleaaDoor
