/- Plain facts on whole numbers and on floats of 64 bits, no Go text in sight: what the document's chapter 1 reckons. -/
import Derived.WalkKit
import Derived.WalkLawsBesides
namespace Go.Proofs.YtagplfochalidabDoor.Plain
open Go.RowKit
set_option linter.unusedSimpArgs false

/-- The lowest k bits of v, the highest of them the sign. -/
def signP (v : Int) (k : Nat) : Int := (v + 2 ^ k / 2) % 2 ^ k - 2 ^ k / 2

/-- Whether v fits k bits. -/
def fitsP (v : Int) (k : Nat) : Bool := decide (-(2 ^ (k - 1)) ≤ v) && decide (v < 2 ^ (k - 1))

/-- The four bytes of Back, as a number without a sign. -/
def backU (f s u : Int) : Int :=
  if s = 0 then u + f * 4294967040 else if s = 1 then u * 256 + f * 4294902015 else if s = 2 then u * 65536 + f * 4278255615 else u * 16777216 + f * 16777215

def backP (f s u : Int) : Int := signP (backU f s u) 32

/-! ### Floats -/
open Ieee

/-- The word of 2 ^ e. -/
def edge (e : Nat) : Nat := (e + 1023) * 4503599627370496

theorem cut_zero (neg : Bool) (n : Nat) : Toward.even.cut neg n 0 = n := by
  have h2 : n % 1 = 0 := by omega
  simp [Toward.cut, h2]

theorem read_word (neg : Bool) (q m : Nat) (hm : m < 4503599627370496) (hq : 1 ≤ q) (hq2 : q < 2047) :
    double.read (double.word neg (q * 4503599627370496 + m)) = .number neg (4503599627370496 + m) (-1074 + (q - 1 : Nat)) := by
  have hs : double.signWeight = 9223372036854775808 := by decide
  have hb : double.binade = 4503599627370496 := by decide
  have hi : double.infRung = 2047 * 4503599627370496 := by decide
  have hl : double.leastPlace = -1074 := by decide
  have hr : q * 4503599627370496 + m < 9223372036854775808 := by omega
  have e1 : (double.word neg (q * 4503599627370496 + m)) / 9223372036854775808 % 2 = neg.toNat := by
    unfold Format.word; rw [hs]; cases neg <;> simp <;> omega
  have e2 : (double.word neg (q * 4503599627370496 + m)) % 9223372036854775808 = q * 4503599627370496 + m := by
    unfold Format.word; rw [hs]; cases neg <;> simp <;> omega
  have e3 : (q * 4503599627370496 + m) % 4503599627370496 = m := by omega
  have e4 : (q * 4503599627370496 + m) / 4503599627370496 = q := by omega
  unfold Format.read
  simp only [hs, hb, hi, hl, e1, e2, e3, e4]
  have c1 : ¬ (q * 4503599627370496 + m < 4503599627370496) := by omega
  have c2 : q * 4503599627370496 + m < 2047 * 4503599627370496 := by omega
  rw [if_neg c1, if_pos c2]
  cases neg <;> rfl

theorem num_eq {s : Bool} {K L : Nat} {p q : Int} (h1 : K = L) (h2 : p = q) : Datum.number s K p = .number s L q := by
  subst h1 h2; rfl

theorem nearest_word (neg : Bool) (m : Nat) (h0 : 0 < m) (hm : m ≤ 9223372036854775808) :
    double.nearest neg m 0 = double.word neg ((m.log2 + 1022) * 4503599627370496 + Toward.even.cut neg (m <<< (52 - m.log2)) (m.log2 - 52)) ∧
      Toward.even.cut neg (m <<< (52 - m.log2)) (m.log2 - 52) ≤ 9007199254740992 ∧ 4503599627370496 ≤ Toward.even.cut neg (m <<< (52 - m.log2)) (m.log2 - 52) := by
  have hl : double.leastPlace = -1074 := by decide
  have hb : double.binade = 4503599627370496 := by decide
  have hi : double.infRung = 2047 * 4503599627370496 := by decide
  have hf : double.fractionBits = 52 := by decide
  have hne : m ≠ 0 := by omega
  have lo : 2 ^ m.log2 ≤ m := Nat.log2_self_le hne
  have up : m < 2 ^ (m.log2 + 1) := Nat.lt_log2_self
  have hL : m.log2 ≤ 63 := by
    have : m.log2 < 64 := (Nat.log2_lt hne).2 (by omega)
    omega
  have bounds : Toward.even.cut neg (m <<< (52 - m.log2)) (m.log2 - 52) ≤ 9007199254740992 ∧ 4503599627370496 ≤ Toward.even.cut neg (m <<< (52 - m.log2)) (m.log2 - 52) := by
    by_cases c : m.log2 ≤ 52
    · have e : m.log2 - 52 = 0 := by omega
      rw [e, cut_zero, Nat.shiftLeft_eq]
      have p1 : (2 : Nat) ^ m.log2 * 2 ^ (52 - m.log2) = 4503599627370496 := by
        rw [← Nat.pow_add, show m.log2 + (52 - m.log2) = 52 by omega]
      have p2 : (2 : Nat) ^ (m.log2 + 1) * 2 ^ (52 - m.log2) = 9007199254740992 := by
        rw [← Nat.pow_add, show m.log2 + 1 + (52 - m.log2) = 53 by omega]
      have q1 := Nat.mul_le_mul_right (2 ^ (52 - m.log2)) lo
      have q2 := Nat.mul_le_mul_right (2 ^ (52 - m.log2)) (Nat.le_of_lt up)
      rw [p1] at q1
      rw [p2] at q2
      exact ⟨q2, q1⟩
    · have e : 52 - m.log2 = 0 := by omega
      rw [e, Nat.shiftLeft_zero]
      have g : 1 <<< min (m.log2 - 52) (m.log2 + 2) = 2 ^ (m.log2 - 52) := by
        rw [Nat.min_eq_left (by omega), Nat.shiftLeft_eq, Nat.one_mul]
      have gp : 0 < (2 : Nat) ^ (m.log2 - 52) := Nat.two_pow_pos _
      have p1 : (2 : Nat) ^ m.log2 = 4503599627370496 * 2 ^ (m.log2 - 52) := by
        rw [show (4503599627370496 : Nat) = 2 ^ 52 by decide, ← Nat.pow_add, show 52 + (m.log2 - 52) = m.log2 by omega]
      have p2 : (2 : Nat) ^ (m.log2 + 1) = 9007199254740992 * 2 ^ (m.log2 - 52) := by
        rw [show (9007199254740992 : Nat) = 2 ^ 53 by decide, ← Nat.pow_add, show 53 + (m.log2 - 52) = m.log2 + 1 by omega]
      have d1 : 4503599627370496 ≤ m / 2 ^ (m.log2 - 52) := (Nat.le_div_iff_mul_le gp).2 (by omega)
      have d2 : m / 2 ^ (m.log2 - 52) < 9007199254740992 := (Nat.div_lt_iff_lt_mul gp).2 (by omega)
      have low : ∀ b : Bool, b.toNat ≤ 1 := by decide
      unfold Toward.cut
      simp only [g]
      constructor
      · exact Nat.le_trans (Nat.add_le_add_left (low _) _) (by omega)
      · exact Nat.le_trans d1 (Nat.le_add_right _ _)
  refine ⟨?_, bounds⟩
  unfold Format.nearest
  simp only [hl, hb, hi, hf, hne, if_false]
  have mx : max ((0 : Int) + (m.log2 : Nat) - (52 : Nat)) (-1074) = (m.log2 : Int) - 52 := by omega
  rw [mx]
  have t1 : ((0 : Int) - ((m.log2 : Int) - 52)).toNat = 52 - m.log2 := by omega
  have t2 : ((m.log2 : Int) - 52 - 0).toNat = m.log2 - 52 := by omega
  have t3 : ((m.log2 : Int) - 52 - -1074).toNat = m.log2 + 1022 := by omega
  rw [t1, t2, t3, Nat.min_eq_left (by omega)]

/-- What the nearest word of a whole number reads as: just that number, or one that is beyond 2 ^ 53, as it is itself. -/
theorem read_nearest (neg : Bool) (m : Nat) (h0 : 0 < m) (hm : m ≤ 9223372036854775808) :
    ∃ K p : Nat, double.read (double.nearest neg m 0) = .number neg K ((p : Int) - 52) ∧ 4503599627370496 ≤ K ∧
      ((p ≤ 52 ∧ K = m * 2 ^ (52 - p)) ∨ (53 ≤ p ∧ 9007199254740992 ≤ m)) := by
  obtain ⟨e, b1, b2⟩ := nearest_word neg m h0 hm
  have hne : m ≠ 0 := by omega
  have lo : 2 ^ m.log2 ≤ m := Nat.log2_self_le hne
  have hL : m.log2 ≤ 63 := by
    have : m.log2 < 64 := (Nat.log2_lt hne).2 (by omega)
    omega
  rw [e]
  by_cases c : m.log2 ≤ 52
  · have c0 : m.log2 - 52 = 0 := by omega
    rw [c0, cut_zero, Nat.shiftLeft_eq] at b1 b2 ⊢
    have up : m < 2 ^ (m.log2 + 1) := Nat.lt_log2_self
    have p2 : (2 : Nat) ^ (m.log2 + 1) * 2 ^ (52 - m.log2) = 9007199254740992 := by
      rw [← Nat.pow_add, show m.log2 + 1 + (52 - m.log2) = 53 by omega]
    have q2 := Nat.mul_lt_mul_of_pos_right up (Nat.two_pow_pos (52 - m.log2))
    rw [p2] at q2
    have ew : (m.log2 + 1022) * 4503599627370496 + m * 2 ^ (52 - m.log2) = (m.log2 + 1023) * 4503599627370496 + (m * 2 ^ (52 - m.log2) - 4503599627370496) := by omega
    rw [ew, read_word neg _ _ (by omega) (by omega) (by omega)]
    refine ⟨m * 2 ^ (52 - m.log2), m.log2, ?_, b2, .inl ⟨c, rfl⟩⟩
    have k1 : 4503599627370496 + (m * 2 ^ (52 - m.log2) - 4503599627370496) = m * 2 ^ (52 - m.log2) := Nat.add_sub_cancel' b2
    have k2 : (-1074 : Int) + ((m.log2 + 1023 - 1 : Nat) : Int) = (m.log2 : Int) - 52 := by omega
    exact num_eq k1 k2
  · have hbig : 9007199254740992 ≤ m := by
      have : (2 : Nat) ^ 53 ≤ 2 ^ m.log2 := Nat.pow_le_pow_right (by omega) (by omega)
      omega
    generalize Toward.even.cut neg (m <<< (52 - m.log2)) (m.log2 - 52) = K at b1 b2
    by_cases d : K = 9007199254740992
    · subst d
      have ew : (m.log2 + 1022) * 4503599627370496 + 9007199254740992 = (m.log2 + 1024) * 4503599627370496 + 0 := by omega
      rw [ew, read_word neg _ _ (by omega) (by omega) (by omega)]
      have k2 : (-1074 : Int) + ((m.log2 + 1024 - 1 : Nat) : Int) = ((m.log2 + 1 : Nat) : Int) - 52 := by omega
      exact ⟨4503599627370496, m.log2 + 1, num_eq rfl k2, Nat.le_refl _, .inr ⟨by omega, hbig⟩⟩
    · have ew : (m.log2 + 1022) * 4503599627370496 + K = (m.log2 + 1023) * 4503599627370496 + (K - 4503599627370496) := by omega
      rw [ew, read_word neg _ _ (by omega) (by omega) (by omega)]
      have k1 : 4503599627370496 + (K - 4503599627370496) = K := Nat.add_sub_cancel' b2
      have k2 : (-1074 : Int) + ((m.log2 + 1023 - 1 : Nat) : Int) = (m.log2 : Int) - 52 := by omega
      exact ⟨K, m.log2, num_eq k1 k2, b2, .inr ⟨by omega, hbig⟩⟩

theorem read_edge (e : Nat) (he : e ≤ 39) : double.read (edge e) = .number false 4503599627370496 ((e : Int) - 52) := by
  have h := read_word false (e + 1023) 0 (by omega) (by omega) (by omega)
  have e0 : double.word false ((e + 1023) * 4503599627370496 + 0) = edge e := by simp [Format.word, edge]
  rw [e0] at h
  rw [h]
  exact num_eq (by omega) (by omega)

theorem read_negEdge (e : Nat) (he : e ≤ 39) : double.read (Op.negFloat .f64 (edge e)) = .number true 4503599627370496 ((e : Int) - 52) := by
  have h := read_word true (e + 1023) 0 (by omega) (by omega) (by omega)
  have e0 : double.word true ((e + 1023) * 4503599627370496 + 0) = Op.negFloat .f64 (edge e) := by
    have : ∀ e : Fin 40, double.word true ((e.val + 1023) * 4503599627370496 + 0) = Op.negFloat .f64 (edge e.val) := by decide +kernel
    exact this ⟨e, by omega⟩
  rw [e0] at h
  rw [h]
  exact num_eq (by omega) (by omega)

theorem compare_scaled (a b c : Int) (hc : 0 < c) : compare (a * c) (b * c) = compare a b := by
  rcases Int.lt_trichotomy a b with h | h | h
  · have := Int.mul_lt_mul_of_pos_right h hc
    rw [Int.compare_eq_lt.2 h, Int.compare_eq_lt.2 this]
  · subst h; simp
  · have := Int.mul_lt_mul_of_pos_right h hc
    rw [Int.compare_eq_gt.2 h, Int.compare_eq_gt.2 this]

theorem ofInt_read (v : Int) (h1 : -9223372036854775808 ≤ v) (h2 : v ≤ 9223372036854775807) :
    (v = 0 ∧ double.read (floatOfInt .f64 v) = .number false 0 (-1074)) ∨
    ∃ K p : Nat, double.read (floatOfInt .f64 v) = .number (decide (v < 0)) K ((p : Int) - 52) ∧ 4503599627370496 ≤ K ∧
      ((p ≤ 52 ∧ K = v.natAbs * 2 ^ (52 - p)) ∨ (53 ≤ p ∧ 9007199254740992 ≤ v.natAbs)) := by
  by_cases h : v = 0
  · subst h
    exact .inl ⟨rfl, by decide +kernel⟩
  · refine .inr ?_
    have := read_nearest (decide (v < 0)) v.natAbs (by omega) (by omega)
    exact this

def sg (b : Bool) : Int := if b then -1 else 1

theorem order_num (s t : Bool) (m n : Nat) (i j : Int) :
    (Datum.number s m i).order (.number t n j) = some (compare (sg s * m * 2 ^ (i - min i j).toNat) (sg t * n * 2 ^ (j - min i j).toNat)) := by
  have h : ∀ (b : Bool) (k up : Nat), signed b k up = sg b * k * 2 ^ up := by
    intro b k up
    unfold signed sg
    rw [Nat.shiftLeft_eq]
    cases b <;> simp [Int.neg_mul]
  simp only [Datum.order, h]

theorem sg_natAbs (v : Int) : sg (decide (v < 0)) * (v.natAbs : Int) = v := by
  unfold sg
  by_cases h : v < 0
  · simp [h]; omega
  · simp [h]; omega

/-- Two numbers whose values are known to stand so. -/
theorem order_both {s t : Bool} {m n : Nat} {i j a b : Int}
    (h : compare (sg s * m * 2 ^ (i - min i j).toNat) (sg t * n * 2 ^ (j - min i j).toNat) = compare a b) :
    (Datum.number s m i).order (.number t n j) = some (compare a b) ∧ (Datum.number t n j).order (.number s m i) = some (compare b a) := by
  constructor
  · rw [order_num, h]
  · rw [order_num, Int.min_comm j i]
    have e : ∀ x y : Int, compare y x = (compare x y).swap := by
      intro x y
      rcases Int.lt_trichotomy x y with h | h | h
      · rw [Int.compare_eq_lt.2 h, Int.compare_eq_gt.2 h]; rfl
      · subst h; simp
      · rw [Int.compare_eq_lt.2 h, Int.compare_eq_gt.2 h]; rfl
    rw [e a b, ← h, e]

theorem compare_lt_both {a b c d : Int} (h1 : a < b) (h2 : c < d) : compare a b = compare c d := by
  rw [Int.compare_eq_lt.2 h1, Int.compare_eq_lt.2 h2]

theorem compare_gt_both {a b c d : Int} (h1 : b < a) (h2 : d < c) : compare a b = compare c d := by
  rw [Int.compare_eq_gt.2 h1, Int.compare_eq_gt.2 h2]

theorem pow_le_39 (e : Nat) (he : e ≤ 39) : (2 : Int) ^ e ≤ 549755813888 := by
  have := Nat.pow_le_pow_right (n := 2) (by omega) he
  have h : ((2 ^ e : Nat) : Int) ≤ ((2 ^ 39 : Nat) : Int) := by exact_mod_cast this
  simpa using h

theorem pow_pos2 (n : Nat) : (0 : Int) < 2 ^ n := Int.pow_pos (by omega)

theorem core_zero (e : Nat) (t : Bool) (B : Nat) (hB : 0 < B) :
    (Datum.number false 0 (-1074)).order (.number t B ((e : Int) - 52)) = some (compare 0 (sg t * 2 ^ e)) ∧
    (Datum.number t B ((e : Int) - 52)).order (.number false 0 (-1074)) = some (compare (sg t * 2 ^ e) 0) := by
  refine order_both ?_
  have pe := pow_pos2 e
  have pq := pow_pos2 ((e : Int) - 52 - min (-1074 : Int) ((e : Int) - 52)).toNat
  generalize (2 : Int) ^ ((e : Int) - 52 - min (-1074 : Int) ((e : Int) - 52)).toNat = Q at pq
  have pb : (0 : Int) < (B : Int) * Q := Int.mul_pos (by omega) pq
  cases t
  · simp only [sg, Bool.false_eq_true, if_false, Int.one_mul, Int.natCast_zero, Int.zero_mul]
    exact compare_lt_both pb pe
  · simp only [sg, Bool.false_eq_true, if_false, if_true, Int.one_mul, Int.natCast_zero, Int.zero_mul, Int.neg_mul]
    exact compare_gt_both (by omega) (by omega)

theorem core_exact (v : Int) (e p : Nat) (hp : p ≤ 52) (t : Bool) :
    (Datum.number (decide (v < 0)) (v.natAbs * 2 ^ (52 - p)) ((p : Int) - 52)).order (.number t (2 ^ 52) ((e : Int) - 52)) = some (compare v (sg t * 2 ^ e)) ∧
    (Datum.number t (2 ^ 52) ((e : Int) - 52)).order (.number (decide (v < 0)) (v.natAbs * 2 ^ (52 - p)) ((p : Int) - 52)) = some (compare (sg t * 2 ^ e) v) := by
  refine order_both ?_
  have t1 : ((p : Int) - 52 - min ((p : Int) - 52) ((e : Int) - 52)).toNat = p - min p e := by omega
  have t2 : ((e : Int) - 52 - min ((p : Int) - 52) ((e : Int) - 52)).toNat = e - min p e := by omega
  rw [t1, t2]
  have e1 : sg (decide (v < 0)) * ((v.natAbs * 2 ^ (52 - p) : Nat) : Int) * 2 ^ (p - min p e) = v * 2 ^ (52 - min p e) := by
    rw [Int.natCast_mul, ← Int.mul_assoc, sg_natAbs, Int.mul_assoc, Int.natCast_pow]
    congr 1
    show (2 : Int) ^ (52 - p) * 2 ^ (p - min p e) = _
    rw [← Int.pow_add]
    congr 1
    omega
  have e2 : sg t * ((2 ^ 52 : Nat) : Int) * 2 ^ (e - min p e) = sg t * 2 ^ e * 2 ^ (52 - min p e) := by
    rw [Int.mul_assoc, Int.mul_assoc, Int.natCast_pow]
    congr 1
    show (2 : Int) ^ 52 * 2 ^ (e - min p e) = _
    rw [← Int.pow_add, ← Int.pow_add]
    congr 1
    omega
  rw [e1, e2]
  exact compare_scaled _ _ _ (pow_pos2 _)

theorem core_far (v : Int) (e p K : Nat) (he : e ≤ 39) (hp : 53 ≤ p) (hK : 4503599627370496 ≤ K) (hv : 9007199254740992 ≤ v.natAbs) (t : Bool) :
    (Datum.number (decide (v < 0)) K ((p : Int) - 52)).order (.number t (2 ^ 52) ((e : Int) - 52)) = some (compare v (sg t * 2 ^ e)) ∧
    (Datum.number t (2 ^ 52) ((e : Int) - 52)).order (.number (decide (v < 0)) K ((p : Int) - 52)) = some (compare (sg t * 2 ^ e) v) := by
  refine order_both ?_
  have t1 : ((p : Int) - 52 - min ((p : Int) - 52) ((e : Int) - 52)).toNat = (p - e - 1) + 1 := by omega
  have t2 : ((e : Int) - 52 - min ((p : Int) - 52) ((e : Int) - 52)).toNat = 0 := by omega
  rw [t1, t2, Int.pow_succ, Int.pow_zero, Int.mul_one]
  have pq := pow_pos2 (p - e - 1)
  generalize (2 : Int) ^ (p - e - 1) = Q at pq
  have pe := pow_pos2 e
  have se := pow_le_39 e he
  generalize (2 : Int) ^ e = E at pe se
  have pb : (4503599627370496 : Int) ≤ (K : Int) * Q := by
    have := Int.mul_le_mul_of_nonneg_left (a := 1) (b := Q) (c := (K : Int)) (by omega) (by omega)
    omega
  have b52 : ((2 ^ 52 : Nat) : Int) = 4503599627370496 := by decide
  rw [b52]
  have ea : sg (decide (v < 0)) * (K : Int) * (Q * 2) = sg (decide (v < 0)) * (2 * (K * Q)) := by
    rw [Int.mul_assoc, ← Int.mul_assoc (K : Int) Q 2, Int.mul_comm ((K : Int) * Q) 2]
  rw [ea]
  generalize (K : Int) * Q = M at pb
  by_cases h : v < 0
  · have : compare (sg (decide (v < 0)) * (2 * M)) (sg t * 4503599627370496) = compare v (sg t * E) := by
      simp only [sg, h, decide_true, if_true]
      cases t
      · simp only [Bool.false_eq_true, if_false]; exact compare_lt_both (by omega) (by omega)
      · simp only [if_true]; exact compare_lt_both (by omega) (by omega)
    exact this
  · have : compare (sg (decide (v < 0)) * (2 * M)) (sg t * 4503599627370496) = compare v (sg t * E) := by
      simp only [sg, h, decide_false, Bool.false_eq_true, if_false]
      cases t
      · simp only [Bool.false_eq_true, if_false]; exact compare_gt_both (by omega) (by omega)
      · simp only [if_true]; exact compare_gt_both (by omega) (by omega)
    exact this

/-- How a read whole number stands to plus or minus 2 ^ e. -/
theorem order_core (v : Int) (e : Nat) (he : e ≤ 39) (h1 : -9223372036854775808 ≤ v) (h2 : v ≤ 9223372036854775807) (t : Bool) :
    (double.read (floatOfInt .f64 v)).order (.number t (2 ^ 52) ((e : Int) - 52)) = some (compare v (sg t * 2 ^ e)) ∧
    (Datum.number t (2 ^ 52) ((e : Int) - 52)).order (double.read (floatOfInt .f64 v)) = some (compare (sg t * 2 ^ e) v) := by
  rcases ofInt_read v h1 h2 with ⟨rfl, h⟩ | ⟨K, p, h, hK, ⟨hp, rfl⟩ | ⟨hp, hv⟩⟩
  · rw [h]; exact core_zero e t (2 ^ 52) (Nat.two_pow_pos _)
  · rw [h]; exact core_exact v e p hp t
  · rw [h]; exact core_far v e p K he hp hK hv t

theorem two52 : (4503599627370496 : Nat) = 2 ^ 52 := by decide

/-- A whole number, as a float, stands to 2 ^ e (e at most 39) as it stands itself. -/
theorem order_edge (v : Int) (e : Nat) (he : e ≤ 39) (h1 : -9223372036854775808 ≤ v) (h2 : v ≤ 9223372036854775807) :
    double.order (floatOfInt .f64 v) (edge e) = some (compare v (2 ^ e)) := by
  have := (order_core v e he h1 h2 false).1
  rw [← two52, ← read_edge e he] at this
  simpa [Format.order, sg] using this

theorem order_negEdge (v : Int) (e : Nat) (he : e ≤ 39) (h1 : -9223372036854775808 ≤ v) (h2 : v ≤ 9223372036854775807) :
    double.order (Op.negFloat .f64 (edge e)) (floatOfInt .f64 v) = some (compare (-(2 ^ e)) v) := by
  have := (order_core v e he h1 h2 true).2
  rw [← two52, ← read_negEdge e he] at this
  simpa [Format.order, sg, Int.neg_mul] using this

theorem lss_edge (v : Int) (e : Nat) (he : e ≤ 39) (h1 : -9223372036854775808 ≤ v) (h2 : v ≤ 9223372036854775807) :
    (FloatKind.f64.format.order (floatOfInt .f64 v) (edge e) == some .lt) = decide (v < 2 ^ e) := by
  show (double.order (floatOfInt .f64 v) (edge e) == some .lt) = _
  rw [order_edge v e he h1 h2]
  rcases Int.lt_trichotomy v (2 ^ e) with h | h | h
  · rw [Int.compare_eq_lt.2 h]; simp [h]
  · rw [← h]; simp
  · rw [Int.compare_eq_gt.2 h]
    have : ¬ v < 2 ^ e := by omega
    simp [this]

theorem leq_edge (v : Int) (e : Nat) (he : e ≤ 39) (h1 : -9223372036854775808 ≤ v) (h2 : v ≤ 9223372036854775807) :
    (FloatKind.f64.format.order (Op.negFloat .f64 (edge e)) (floatOfInt .f64 v) == some .lt || FloatKind.f64.format.order (Op.negFloat .f64 (edge e)) (floatOfInt .f64 v) == some .eq) = decide (-(2 ^ e) ≤ v) := by
  show (double.order (Op.negFloat .f64 (edge e)) (floatOfInt .f64 v) == some .lt || double.order (Op.negFloat .f64 (edge e)) (floatOfInt .f64 v) == some .eq) = _
  rw [order_negEdge v e he h1 h2]
  rcases Int.lt_trichotomy (-(2 ^ e)) v with h | h | h
  · rw [Int.compare_eq_lt.2 h]
    have : -(2 ^ e) ≤ v := by omega
    simp [this]
  · rw [← h]; simp
  · rw [Int.compare_eq_gt.2 h]
    have : ¬ -(2 ^ e) ≤ v := by omega
    simp [this]

/-- 1 times 2 ^ e, as floats. -/
theorem mul_edge (e : Nat) (he : e ≤ 39) : double.mul 4607182418800017408 (edge e) = some (edge e) := by
  have : ∀ e : Fin 40, double.mul 4607182418800017408 (edge e.val) = some (edge e.val) := by decide +kernel
  exact this ⟨e, by omega⟩

/-! ### Signs, bits -/

theorem two_pow_split (k a : Nat) : (2 : Int) ^ (k + a) = 2 ^ k * 2 ^ a := Int.pow_add ..

/-- Shifted up to the top of 64 bits and down again. -/
theorem shift_sign (v : Int) (k : Nat) (hk : 1 ≤ k) (hk2 : k ≤ 64) : wrap64 (v * 2 ^ (64 - k)) / 2 ^ (64 - k) = signP v k := by
  have p64 : (18446744073709551616 : Int) = 2 ^ k * 2 ^ (64 - k) := by
    rw [← Int.pow_add, show k + (64 - k) = 64 by omega]; decide
  have p63 : (9223372036854775808 : Int) = 2 ^ (k - 1) * 2 ^ (64 - k) := by
    rw [← Int.pow_add, show k - 1 + (64 - k) = 63 by omega]; decide
  have half : (2 : Int) ^ k / 2 = 2 ^ (k - 1) := by
    have : (2 : Int) ^ k = 2 ^ (k - 1) * 2 := by rw [← Int.pow_succ]; congr 1; omega
    rw [this]; exact Int.mul_ediv_cancel _ (by omega)
  unfold wrap64 signP
  rw [half, p63, p64, ← Int.add_mul, Int.mul_comm (v + 2 ^ (k - 1)), Int.mul_comm (2 ^ k), Int.mul_emod_mul_of_pos _ _ (pow_pos2 _), Int.mul_comm (2 ^ (k - 1)), ← Int.mul_sub]
  exact Int.mul_ediv_cancel_left _ (by have := pow_pos2 (64 - k); omega)

/-- 'and' with 2 ^ k - 1 keeps the lowest k bits, of a number with a sign too. -/
theorem and_mask (v : Int) (k : Nat) (hk : k ≤ 62) : bits .and .i64 v (2 ^ k - 1) = v % 2 ^ k := by
  have c : (2 : Int) ^ k = ((2 ^ k : Nat) : Int) := by simp
  have pk : (2 : Nat) ^ k ≤ 2 ^ 62 := Nat.pow_le_pow_right (by omega) hk
  have p0 : 0 < (2 : Nat) ^ k := Nat.two_pow_pos k
  have h1 : (BitVec.ofInt 64 (2 ^ k - 1)).toNat = 2 ^ k - 1 := by
    rw [BitVec.toNat_ofInt, c, Int.emod_eq_of_lt (by omega) (by omega)]
    omega
  have key : (BitVec.ofInt 64 v &&& BitVec.ofInt 64 (2 ^ k - 1)).toNat = (v % ((2 ^ 64 : Nat) : Int)).toNat % 2 ^ k := by
    rw [BitVec.toNat_and, BitVec.toNat_ofInt, h1, Nat.and_two_pow_sub_one_eq_mod]
  show IntKind.i64.wrap ((BitVec.ofInt 64 v &&& BitVec.ofInt 64 (2 ^ k - 1)).toNat : Nat) = v % 2 ^ k
  have dv : ((2 ^ k : Nat) : Int) ∣ ((2 ^ 64 : Nat) : Int) := Int.natCast_dvd_natCast.2 (Nat.pow_dvd_pow 2 (by omega))
  have e2 : (((v % ((2 ^ 64 : Nat) : Int)).toNat % 2 ^ k : Nat) : Int) = v % ((2 ^ k : Nat) : Int) := by
    rw [Int.natCast_emod, Int.toNat_of_nonneg (Int.emod_nonneg _ (by decide)), Int.emod_emod_of_dvd _ dv]
  rw [key, e2, IntKind.wrap_i64, c]
  have := Int.emod_nonneg v (b := ((2 ^ k : Nat) : Int)) (by omega)
  have := Int.emod_lt_of_pos v (b := ((2 ^ k : Nat) : Int)) (by omega)
  generalize v % ((2 ^ k : Nat) : Int) = x at *
  omega

theorem emod_of_tmod (a n : Int) (hn : 0 < n) : (a.tmod n < 0 → a % n = a.tmod n + n) ∧ (0 ≤ a.tmod n → a % n = a.tmod n) := by
  have h := Int.mul_tdiv_add_tmod a n
  have lo := Int.lt_tmod_of_pos a hn
  have up := Int.tmod_lt_of_pos a hn
  have e : a % n = a.tmod n % n := by
    have : (n * a.tdiv n + a.tmod n) % n = a.tmod n % n := Int.mul_add_emod_self_left n _ _
    rw [h] at this
    exact this
  rw [e]
  constructor
  · intro hl
    have : (a.tmod n + n) % n = a.tmod n % n := Int.add_emod_right _ _
    rw [← this, Int.emod_eq_of_lt (by omega) (by omega)]
  · intro hl
    exact Int.emod_eq_of_lt hl up

theorem pow_le (k j : Nat) (h : k ≤ j) : (2 : Int) ^ k ≤ 2 ^ j := by
  have := Nat.pow_le_pow_right (n := 2) (by omega) h
  exact_mod_cast this

theorem pow62 (k : Nat) (h : k ≤ 62) : (2 : Int) ^ k ≤ 4611686018427387904 := pow_le k 62 h

theorem half_pow (k : Nat) (h : 1 ≤ k) : (2 : Int) ^ k / 2 = 2 ^ (k - 1) ∧ (2 : Int) ^ k = 2 * 2 ^ (k - 1) := by
  have : (2 : Int) ^ k = 2 * 2 ^ (k - 1) := by
    rw [Int.mul_comm, ← Int.pow_succ]; congr 1; omega
  constructor
  · omega
  · exact this

theorem tdiv_two (x : Int) (h : 0 ≤ x) : x.tdiv 2 = x / 2 := Int.tdiv_eq_ediv_of_nonneg h

/-- How the reference reckons a sign. -/
theorem ref_sign (v : Int) (k : Nat) (h1 : 1 ≤ k) (h2 : k ≤ 60) :
    wrap64 (2 ^ k) = 2 ^ k ∧ wrap64 (2 ^ k - 1) = 2 ^ k - 1 ∧ wrap64 ((2 ^ k : Int).tdiv 2) = 2 ^ k / 2 ∧ bits .and .i64 v (2 ^ k - 1) = v % 2 ^ k ∧
    wrap64 (v % 2 ^ k - 2 ^ k) = v % 2 ^ k - 2 ^ k ∧ (2 ^ k / 2 ≤ v % 2 ^ k → v % 2 ^ k - 2 ^ k = signP v k) ∧ (v % 2 ^ k < 2 ^ k / 2 → v % 2 ^ k = signP v k) := by
  obtain ⟨hh, hp⟩ := half_pow k h1
  have p0 := pow_pos2 (k - 1)
  have pk := pow62 k (by omega)
  have m0 := Int.emod_nonneg v (b := 2 ^ k) (by omega)
  have m1 := Int.emod_lt_of_pos v (b := 2 ^ k) (by omega)
  refine ⟨IntWalk.wrap64_in _ (by omega), IntWalk.wrap64_in _ (by omega), ?_, and_mask v k (by omega), IntWalk.wrap64_in _ (by omega), ?_, ?_⟩
  · rw [tdiv_two _ (by omega)]; exact IntWalk.wrap64_in _ (by omega)
  · intro h
    unfold signP
    have e : (v + 2 ^ k / 2) % 2 ^ k = v % 2 ^ k - 2 ^ k / 2 := by
      have e1 : v + 2 ^ k / 2 = (v % 2 ^ k - 2 ^ k / 2) + 2 ^ k * (v / 2 ^ k + 1) := by
        have := Int.mul_ediv_add_emod v (2 ^ k)
        rw [Int.mul_add]
        omega
      rw [e1, Int.add_mul_emod_self_left, Int.emod_eq_of_lt (by omega) (by omega)]
    omega
  · intro h
    unfold signP
    have e : (v + 2 ^ k / 2) % 2 ^ k = v % 2 ^ k + 2 ^ k / 2 := by
      have e1 : v + 2 ^ k / 2 = (v % 2 ^ k + 2 ^ k / 2) + 2 ^ k * (v / 2 ^ k) := by
        have := Int.mul_ediv_add_emod v (2 ^ k)
        omega
      rw [e1, Int.add_mul_emod_self_left, Int.emod_eq_of_lt (by omega) (by omega)]
    omega

theorem u32_mask (x : Int) (k : Nat) (h0 : 0 ≤ x) (h1 : x < 4294967296) (hk : k ≤ 32) : bits .and .u32 x (2 ^ k - 1) = x % 2 ^ k :=
  bits_mask .u32 32 (by decide) (fun n h0 h1 => by rw [IntKind.wrap_u32]; omega) k hk x h0 (by omega)

/-- How a part of a word is reckoned. -/
theorem part_of (x f b : Int) (h0 : 0 ≤ x) (h1 : x < 4294967296) (f0 : 0 ≤ f) (f1 : f ≤ 31) (b0 : 0 ≤ b) (b1 : b ≤ 31) :
    wrap64 (bits .and .u32 (x / 2 ^ min f.toNat 32) ((2 ^ min b.toNat 32 - 1) % 4294967296)) = x / 2 ^ f.toNat % 2 ^ b.toNat := by
  obtain ⟨F, rfl⟩ := Int.eq_ofNat_of_zero_le f0
  obtain ⟨B, rfl⟩ := Int.eq_ofNat_of_zero_le b0
  have e1 : min ((F : Int).toNat) 32 = F := by omega
  have e2 : min ((B : Int).toNat) 32 = B := by omega
  have pF := pow_pos2 F
  have pB := pow_pos2 B
  have qB : (2 : Int) ^ B ≤ 2147483648 := pow_le B 31 (by omega)
  have d0 : 0 ≤ x / 2 ^ F := Int.ediv_nonneg h0 (by omega)
  have d1 : x / 2 ^ F ≤ x := Int.ediv_le_self _ h0
  have m0 := Int.emod_nonneg (x / 2 ^ F) (b := 2 ^ B) (by omega)
  have m1 := Int.emod_lt_of_pos (x / 2 ^ F) (b := 2 ^ B) (by omega)
  rw [e1, e2, Int.emod_eq_of_lt (by omega) (by omega), u32_mask _ _ d0 (by omega) (by omega), IntWalk.wrap64_in _ (by omega)]
  rfl

end Go.Proofs.YtagplfochalidabDoor.Plain
