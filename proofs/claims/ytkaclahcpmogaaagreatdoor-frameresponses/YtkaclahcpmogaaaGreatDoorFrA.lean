/- Frames as plain data: what is written, what is read. Nothing of Go's memory stands here.
   Which requests may be; what ReadRequest answers. -/
import Derived.Test.YtkaclahcpmogaaaGreatDoorExA
import Derived.Laws.Entries
import Derived.RowKit
import Derived.Laws.BitsLemmas
namespace Go.Proofs.YtkaclahcpmogaaaGreatDoor
open Go.RowKit
set_option linter.unusedVariables false
set_option linter.unusedSimpArgs false

/-- So many bytes of a number, the highest first. -/
def byteN (n : Int) : UInt8 := UInt8.ofNat (n % 256).toNat
def numB : Nat → Int → Bs
  | 0, _ => []
  | k + 1, n => byteN (n / 2 ^ (8 * k)) :: numB k n

theorem byteN_int (n : Int) : ((byteN n).toNat : Int) = n % 256 := by
  have h0 := Int.emod_nonneg n (show (256 : Int) ≠ 0 by decide)
  have h1 := Int.emod_lt_of_pos n (show (0 : Int) < 256 by decide)
  have : (byteN n).toNat = (n % 256).toNat := by
    unfold byteN
    simp
    omega
  omega

theorem numB_len (k : Nat) (n : Int) : (numB k n).length = k := by
  induction k with
  | zero => rfl
  | succ k ih => simp [numB, ih]

/-- One byte more behind a number, in 64 bits. -/
def accN (a : Int) (c : UInt8) : Int := bits .or .i64 (wrap64 (a * 256)) c.toNat
def valN (l : Bs) : Int := l.foldl accN 0

theorem ofInt_wrap (x : Int) : BitVec.ofInt 64 (wrap64 x) = BitVec.ofInt 64 x := by
  apply BitVec.eq_of_toNat_eq
  rw [BitVec.toNat_ofInt, BitVec.toNat_ofInt]
  unfold wrap64
  congr 1
  omega

theorem accN_eq (a : Int) (c : UInt8) : accN a c = wrap64 (a * 256 + c.toNat) := by
  have hc : c.toNat < 256 := c.toNat_lt
  show IntKind.wrap .i64 ((BitVec.ofInt 64 (wrap64 (a * 256)) ||| BitVec.ofInt 64 (c.toNat : Int)).toNat : Int) = _
  rw [ofInt_wrap]
  have e1 : BitVec.ofInt 64 (a * 256) = BitVec.ofInt 64 a <<< 8 := by
    apply BitVec.eq_of_toNat_eq
    rw [BitVec.toNat_ofInt, BitVec.toNat_shiftLeft, BitVec.toNat_ofInt, Nat.shiftLeft_eq]
    omega
  have e2 : BitVec.ofInt 64 (c.toNat : Int) = BitVec.ofNat 64 c.toNat := by
    apply BitVec.eq_of_toNat_eq
    rw [BitVec.toNat_ofInt, BitVec.toNat_ofNat]
    omega
  have e3 : (BitVec.ofInt 64 a <<< 8) &&& BitVec.ofNat 64 c.toNat = 0#64 := by
    apply BitVec.eq_of_getLsbD_eq
    intro i hi
    simp only [BitVec.getLsbD_and, BitVec.getLsbD_shiftLeft, BitVec.getLsbD_ofNat, BitVec.getLsbD_zero]
    by_cases h8 : i < 8
    · simp [h8]
    · have : c.toNat.testBit i = false := Nat.testBit_lt_two_pow (Nat.lt_of_lt_of_le hc (Nat.pow_le_pow_right (n := 2) (by decide) (show 8 ≤ i by omega)))
      simp [this]
  rw [e1, e2, ← BitVec.add_eq_or_of_and_eq_zero _ _ e3, ← e1]
  rw [BitVec.toNat_add, BitVec.toNat_ofInt, BitVec.toNat_ofNat]
  rw [IntKind.wrap_i64]
  have e4 : ((a * 256 % ((2 ^ 64 : Nat) : Int)).toNat : Int) = a * 256 % 18446744073709551616 := Int.toNat_of_nonneg (Int.emod_nonneg _ (by decide))
  generalize (a * 256 % ((2 ^ 64 : Nat) : Int)).toNat = N at e4 ⊢
  unfold wrap64
  have e5 : (((N + c.toNat % 2 ^ 64) % 2 ^ 64 : Nat) : Int) = (a * 256 + c.toNat) % 18446744073709551616 := by omega
  rw [e5]
  omega


theorem wrap64_at {x : Int} (h0 : -9223372036854775808 ≤ x) (h1 : x < 9223372036854775808) : wrap64 x = x := by unfold wrap64; omega
theorem wrap64_wrap (x : Int) : wrap64 (wrap64 x) = wrap64 x := by unfold wrap64; omega
theorem wrap64_mul_add (x m y : Int) : wrap64 (wrap64 x * m + y) = wrap64 (x * m + y) := by
  have h : ∃ q, wrap64 x = x + 18446744073709551616 * q := ⟨-((x + 9223372036854775808) / 18446744073709551616), by unfold wrap64; omega⟩
  obtain ⟨q, h⟩ := h
  rw [h, show (x + 18446744073709551616 * q) * m + y = x * m + y + 18446744073709551616 * (q * m) by rw [Int.add_mul, Int.mul_assoc]; omega]
  generalize q * m = z
  unfold wrap64
  omega

theorem low_split (n b : Int) (hb : 0 < b) : n % (b * 256) = (n / b % 256) * b + n % b := by
  have h1 := Int.emod_nonneg n (show b ≠ 0 by omega)
  have h2 := Int.emod_lt_of_pos n hb
  have h3 := Int.emod_nonneg (n / b) (show (256 : Int) ≠ 0 by decide)
  have h4 := Int.emod_lt_of_pos (n / b) (show (0 : Int) < 256 by decide)
  have e1 : n = b * (n / b) + n % b := (Int.mul_ediv_add_emod n b).symm
  have e2 : n / b = 256 * (n / b / 256) + n / b % 256 := (Int.mul_ediv_add_emod (n / b) 256).symm
  have e3 : n = (b * 256) * (n / b / 256) + ((n / b % 256) * b + n % b) := by
    have : b * (n / b) = b * 256 * (n / b / 256) + (n / b % 256) * b := by
      conv => lhs; rw [e2]
      rw [Int.mul_add, Int.mul_assoc, Int.mul_comm b (n / b % 256)]
    omega
  have h5 : 0 ≤ (n / b % 256) * b + n % b := by have := Int.mul_nonneg h3 (Int.le_of_lt hb); omega
  have h6 : (n / b % 256) * b + n % b < b * 256 := by
    have : (n / b % 256) * b ≤ 255 * b := Int.mul_le_mul_of_nonneg_right (by omega) (Int.le_of_lt hb)
    omega
  conv => lhs; rw [e3]
  rw [Int.add_comm, Int.add_mul_emod_self_left, Int.emod_eq_of_lt h5 h6]

theorem fold_num (k : Nat) (n : Int) : ∀ a, wrap64 a = a → (numB k n).foldl accN a = wrap64 (a * 2 ^ (8 * k) + n % 2 ^ (8 * k)) := by
  induction k with
  | zero => intro a h; simp [numB, h, Int.emod_one]
  | succ k ih =>
    intro a h
    have hp : (0 : Int) < 2 ^ (8 * k) := Int.pow_pos (by decide)
    simp only [numB, List.foldl_cons]
    rw [accN_eq, ih _ (wrap64_wrap _), wrap64_mul_add, byteN_int]
    congr 1
    have e : (2 : Int) ^ (8 * (k + 1)) = 2 ^ (8 * k) * 256 := by rw [show 8 * (k + 1) = 8 * k + 8 by omega, Int.pow_add]; rfl
    rw [e, low_split n _ hp, Int.add_mul, Int.mul_assoc, Int.mul_comm 256]
    omega

theorem valN_num (k : Nat) (n : Int) : valN (numB k n) = wrap64 (n % 2 ^ (8 * k)) := by
  unfold valN
  rw [fold_num k n 0 (by unfold wrap64; omega)]
  simp

theorem val1 {n : Int} (h0 : 0 ≤ n) (h1 : n < 256) : valN (numB 1 n) = n := by
  rw [valN_num, show (2 : Int) ^ (8 * 1) = 256 from rfl, Int.emod_eq_of_lt h0 h1, wrap64_at (by omega) (by omega)]
theorem val2 {n : Int} (h0 : 0 ≤ n) (h1 : n < 65536) : valN (numB 2 n) = n := by
  rw [valN_num, show (2 : Int) ^ (8 * 2) = 65536 from rfl, Int.emod_eq_of_lt h0 h1, wrap64_at (by omega) (by omega)]
theorem val3 {n : Int} (h0 : 0 ≤ n) (h1 : n < 16777216) : valN (numB 3 n) = n := by
  rw [valN_num, show (2 : Int) ^ (8 * 3) = 16777216 from rfl, Int.emod_eq_of_lt h0 h1, wrap64_at (by omega) (by omega)]
theorem val8 {n : Int} (h0 : -9223372036854775808 ≤ n) (h1 : n < 9223372036854775808) : valN (numB 8 n) = n := by
  rw [valN_num, show (2 : Int) ^ (8 * 8) = 18446744073709551616 from rfl]
  unfold wrap64
  omega

/-! ### What is read -/
structure Rs where
  left : Bs
  short : Bool
def takeP (n : Nat) (s : Rs) : Bs × Rs := if s.left.length < n then ([], ⟨[], true⟩) else (s.left.take n, ⟨s.left.drop n, s.short⟩)
def numP (k : Nat) (s : Rs) : Int × Rs := (valN (takeP k s).1, (takeP k s).2)
def textR (k : Nat) (s : Rs) : Bs × Rs := takeP (numP k s).1.toNat (numP k s).2
def countP (k : Nat) (s : Rs) : Int × Rs := if ((numP k s).2.left.length : Int) < (numP k s).1 then (0, ⟨[], true⟩) else numP k s

theorem take_app (a b : Bs) (sh : Bool) : takeP a.length ⟨a ++ b, sh⟩ = (a, ⟨b, sh⟩) := by
  unfold takeP
  rw [if_neg (by simp)]
  simp
theorem num_app {k : Nat} {n : Int} (h : valN (numB k n) = n) (b : Bs) (sh : Bool) : numP k ⟨numB k n ++ b, sh⟩ = (n, ⟨b, sh⟩) := by
  unfold numP
  have := take_app (numB k n) b sh
  rw [numB_len] at this
  rw [this, h]

/-- A text behind its length. -/
def textB (k : Nat) (s : Bs) : Bs := numB k s.length ++ s
theorem text_app {k : Nat} {s : Bs} (h : valN (numB k s.length) = s.length) (b : Bs) (sh : Bool) : textR k ⟨textB k s ++ b, sh⟩ = (s, ⟨b, sh⟩) := by
  unfold textR textB
  rw [List.append_assoc, num_app h]
  exact take_app s b sh
theorem textB_len (k : Nat) (s : Bs) : (textB k s).length = k + s.length := by simp [textB, numB_len]

/-! ### Requests -/
structure Rq where
  kind : Int
  name : Bs
  text : Bs
  value : Int
deriving DecidableEq

def tailB (r : Rq) : Bs := if r.kind = 1 ∨ r.kind = 3 then textB 2 r.text else if r.kind = 5 then numB 8 r.value else []
def reqB (r : Rq) : Bs := numB 1 r.kind ++ (textB 1 r.name ++ tailB r)
/-- A frame: its head, and what follows. -/
def headed (k : Nat) (l : Bs) : Bs := numB k l.length ++ l

def reqR (s : Rs) : Rq × Rs :=
  if (numP 1 s).1 = 1 ∨ (numP 1 s).1 = 3 then (⟨(numP 1 s).1, (textR 1 (numP 1 s).2).1, (textR 2 (textR 1 (numP 1 s).2).2).1, 0⟩, (textR 2 (textR 1 (numP 1 s).2).2).2)
  else if (numP 1 s).1 = 5 then (⟨(numP 1 s).1, (textR 1 (numP 1 s).2).1, [], (numP 8 (textR 1 (numP 1 s).2).2).1⟩, (numP 8 (textR 1 (numP 1 s).2).2).2)
  else (⟨(numP 1 s).1, (textR 1 (numP 1 s).2).1, [], 0⟩, (textR 1 (numP 1 s).2).2)

/-- A request whose parts fit their numbers, with nothing in it that its kind hasn't. -/
structure Rq.Fits (r : Rq) : Prop where
  kind : 0 ≤ r.kind ∧ r.kind < 256
  name : r.name.length < 256
  text : r.text.length < 65536
  value : -9223372036854775808 ≤ r.value ∧ r.value < 9223372036854775808
  noText : ¬ (r.kind = 1 ∨ r.kind = 3) → r.text = []
  noValue : r.kind ≠ 5 → r.value = 0

theorem req_back (r : Rq) (h : r.Fits) : reqR ⟨reqB r, false⟩ = (r, ⟨[], false⟩) := by
  have e1 : numP 1 ⟨reqB r, false⟩ = (r.kind, ⟨textB 1 r.name ++ tailB r, false⟩) := num_app (val1 h.kind.1 h.kind.2) _ _
  have hn := h.name
  have ht := h.text
  have e2 : textR 1 ⟨textB 1 r.name ++ tailB r, false⟩ = (r.name, ⟨tailB r, false⟩) := text_app (val1 (by omega) (by omega)) _ _
  unfold reqR
  rw [e1]
  simp only
  rw [e2]
  simp only
  by_cases hk : r.kind = 1 ∨ r.kind = 3
  · have e3 : textR 2 ⟨tailB r, false⟩ = (r.text, ⟨[], false⟩) := by
      unfold tailB
      rw [if_pos hk]
      have := text_app (k := 2) (s := r.text) (val2 (by omega) (by omega)) [] false
      rwa [List.append_nil] at this
    have hv := h.noValue (by omega)
    rw [if_pos hk, e3]
    simp only
    rw [← hv]
  · have ht := h.noText hk
    rw [if_neg hk]
    by_cases h5 : r.kind = 5
    · have e3 : numP 8 ⟨tailB r, false⟩ = (r.value, ⟨[], false⟩) := by
        unfold tailB
        rw [if_neg hk, if_pos h5]
        have := num_app (k := 8) (n := r.value) (val8 h.value.1 h.value.2) [] false
        rwa [List.append_nil] at this
      rw [if_pos h5, e3]
      simp only
      rw [← ht]
    · have hv := h.noValue h5
      have e3 : tailB r = [] := by unfold tailB; rw [if_neg hk, if_neg h5]
      rw [if_neg h5, e3, ← ht, ← hv]
end Go.Proofs.YtkaclahcpmogaaaGreatDoor

namespace Go.Proofs.YtkaclahcpmogaaaGreatDoor
open Go.RowKit
set_option linter.unusedVariables false
set_option linter.unusedSimpArgs false

/-- line.Word, work.Right. -/
def wordL (s : Bs) : Bool := decide (s.length ≤ 12) && decide (parseP s = some (.name s))
def nameOk (r : Rq) : Bool := if r.kind = 7 then decide (r.name = []) else wordL r.name
def textOk (r : Rq) : Bool := if r.kind = 1 ∨ r.kind = 3 then decide (r.text.length ≤ 600) else decide (r.text = [])
def valueOk (r : Rq) : Bool := if r.kind = 5 then decide (-1099511627776 ≤ r.value) && decide (r.value ≤ 1099511627776) else decide (r.value = 0)
def rightP (r : Rq) : Bool := decide (1 ≤ r.kind) && (decide (r.kind ≤ 7) && (nameOk r && (textOk r && valueOk r)))

theorem right_fits {r : Rq} (h : rightP r = true) : r.Fits ∧ r.name.length ≤ 12 ∧ r.text.length ≤ 600 := by
  unfold rightP at h
  simp only [Bool.and_eq_true, decide_eq_true_eq] at h
  obtain ⟨h1, h7, hn, ht, hv⟩ := h
  have hnl : r.name.length ≤ 12 := by
    unfold nameOk wordL at hn
    split at hn
    · simp at hn; simp [hn]
    · simp only [Bool.and_eq_true, decide_eq_true_eq] at hn; exact hn.1
  have htl : r.text.length ≤ 600 := by
    unfold textOk at ht
    split at ht
    · simpa using ht
    · simp at ht; simp [ht]
  refine ⟨⟨⟨by omega, by omega⟩, by omega, by omega, ?_, ?_, ?_⟩, hnl, htl⟩
  · unfold valueOk at hv
    split at hv
    · simp only [Bool.and_eq_true, decide_eq_true_eq] at hv; omega
    · simp at hv; omega
  · intro hk
    unfold textOk at ht
    rw [if_neg hk] at ht
    simpa using ht
  · intro hk
    unfold valueOk at hv
    rw [if_neg hk] at hv
    simpa using hv

def Rq.zero : Rq := ⟨0, [], [], 0⟩
def readReqP (b : Bs) : Rq × Int × Int :=
  if (numP 2 ⟨b, false⟩).2.short = false ∧ 1000 < (numP 2 ⟨b, false⟩).1 then (.zero, 0, 8)
  else if (numP 2 ⟨b, false⟩).2.short = true ∨ ((numP 2 ⟨b, false⟩).2.left.length : Int) < (numP 2 ⟨b, false⟩).1 then (.zero, 0, 0)
  else if (reqR ⟨(numP 2 ⟨b, false⟩).2.left.take (numP 2 ⟨b, false⟩).1.toNat, false⟩).2.short = false ∧ (reqR ⟨(numP 2 ⟨b, false⟩).2.left.take (numP 2 ⟨b, false⟩).1.toNat, false⟩).2.left = [] ∧ rightP (reqR ⟨(numP 2 ⟨b, false⟩).2.left.take (numP 2 ⟨b, false⟩).1.toNat, false⟩).1 = true then
    ((reqR ⟨(numP 2 ⟨b, false⟩).2.left.take (numP 2 ⟨b, false⟩).1.toNat, false⟩).1, 2 + (numP 2 ⟨b, false⟩).1, 0)
  else (.zero, 2 + (numP 2 ⟨b, false⟩).1, 12)

theorem reqB_len (r : Rq) : (reqB r).length = 2 + r.name.length + (tailB r).length := by
  unfold reqB
  simp only [List.length_append, numB_len, textB_len]
  omega
theorem tailB_len (r : Rq) : (tailB r).length ≤ r.text.length + 8 := by
  unfold tailB
  split
  · rw [textB_len]; omega
  · split
    · rw [numB_len]; omega
    · simp

/-- There and back, whatever is behind. -/
theorem read_back {r : Rq} (h : rightP r = true) (more : Bs) : readReqP (headed 2 (reqB r) ++ more) = (r, 2 + ((reqB r).length : Int), 0) := by
  obtain ⟨hf, hn, ht⟩ := right_fits h
  have hl := reqB_len r
  have hl2 := tailB_len r
  have e1 : numP 2 ⟨headed 2 (reqB r) ++ more, false⟩ = (((reqB r).length : Int), ⟨reqB r ++ more, false⟩) := by
    unfold headed
    rw [List.append_assoc]
    exact num_app (val2 (by omega) (by omega)) _ _
  have e2 : (reqB r ++ more).take (((reqB r).length : Int)).toNat = reqB r := by simp
  unfold readReqP
  rw [e1]
  simp only
  rw [e2, req_back r hf]
  simp only
  rw [if_neg (by rintro ⟨_, h⟩; omega), if_neg (by rw [List.length_append]; rintro (h | h); · cases h
                                                   · omega), if_pos ⟨trivial, trivial, h⟩]

/-- Cut off it is not whole. -/
theorem read_cut {r : Rq} (h : rightP r = true) (k : Nat) (hk : k < 2 + (reqB r).length) : readReqP ((headed 2 (reqB r)).take k) = (.zero, 0, 0) := by
  obtain ⟨hf, hn, ht⟩ := right_fits h
  have hl := reqB_len r
  have hl2 := tailB_len r
  have hlen : (headed 2 (reqB r)).length = 2 + (reqB r).length := by unfold headed; rw [List.length_append, numB_len]
  by_cases h2 : k < 2
  · have e1 : numP 2 ⟨(headed 2 (reqB r)).take k, false⟩ = (0, ⟨[], true⟩) := by
      unfold numP takeP
      rw [if_pos (by show ((headed 2 (reqB r)).take k).length < 2; rw [List.length_take]; omega)]
      rfl
    unfold readReqP
    rw [e1]
    simp
  · have e0 : (headed 2 (reqB r)).take k = numB 2 (reqB r).length ++ (reqB r).take (k - 2) := by
      unfold headed
      rw [List.take_append, numB_len, List.take_of_length_le (by rw [numB_len]; omega)]
    have e1 : numP 2 ⟨(headed 2 (reqB r)).take k, false⟩ = (((reqB r).length : Int), ⟨(reqB r).take (k - 2), false⟩) := by
      rw [e0]
      exact num_app (val2 (by omega) (by omega)) _ _
    unfold readReqP
    rw [e1]
    simp only
    rw [if_neg (by rintro ⟨_, h⟩; omega), if_pos (.inr (by rw [List.length_take]; omega))]
end Go.Proofs.YtkaclahcpmogaaaGreatDoor
