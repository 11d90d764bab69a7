/- The contract of the reference's find: a row of its table, by number or by name. -/
import Derived.Test.YtnmclpphiajleaaDoorKnown
namespace Go.Proofs.YtnmclpphiajleaaDoor
open Go.ChangeShapes Go.WideShapes Go.ChangeAt Go.RowKit
open Plain
set_option linter.unusedVariables false
set_option linter.unusedSimpArgs false

/-- A digit of sixteen. -/
def digit (n : Nat) : UInt8 := if n < 10 then UInt8.ofNat (48 + n) else UInt8.ofNat (87 + n)
/-- The lowest k digits of sixteen. -/
def digits : Nat → Nat → List UInt8
  | 0, _ => []
  | k + 1, n => digits k (n / 16) ++ [digit (n % 16)]

/-- The reference's row: name, bits in digits, kinds. -/
structure R2 where
  a : List UInt8
  b : List UInt8
  c : List UInt8
  deriving DecidableEq

def rows2 : List R2 := (short.map fun r => ⟨r.name, digits 4 r.bits.toNat, r.kinds⟩) ++ (long.map fun r => ⟨r.name, digits 8 r.bits.toNat, r.kinds⟩)
def tblL : List UInt8 := rows2.flatMap fun r => r.a ++ 58 :: r.b ++ 58 :: r.c ++ [124]

/-- Where the reading of the table is. -/
structure FS where
  n : Nat
  at' : Nat
  k : Nat
  f0 : List UInt8
  f1 : List UInt8
  f2 : List UInt8

def piece (at' i : Nat) : List UInt8 := (tblL.drop at').take (i - at')

def stepF (i : Nat) (c : UInt8) (s : FS) : FS :=
  if c = 58 then (if s.k = 0 then ⟨s.n, i + 1, 1, piece s.at' i, s.f1, s.f2⟩ else ⟨s.n, i + 1, 2, s.f0, piece s.at' i, s.f2⟩)
  else if c = 124 then ⟨s.n + 1, i + 1, 0, s.f0, s.f1, piece s.at' i⟩
  else s

def s0 : FS := ⟨0, 0, 0, [], [], []⟩
def stateFrom : List UInt8 → Nat → FS → Nat → FS
  | c :: l, i, s, m + 1 => stateFrom l (i + 1) (stepF i c s) m
  | _, _, s, _ => s
def stateAt (m : Nat) : FS := stateFrom tblL 0 s0 m

/-- What holds at each place. -/
def okAt (i : Nat) (c : UInt8) (s : FS) : Bool :=
  decide (s.at' ≤ i) && decide (s.n ≤ 65) && (c != 58 || s.k == 0 || s.k == 1) && (c != 124 || (s.k == 2 && rows2[s.n]? == some ⟨s.f0, s.f1, piece s.at' i⟩))
def runs : List UInt8 → Nat → FS → Bool
  | [], _, s => decide (s.n = 66)
  | c :: l, i, s => okAt i c s && runs l (i + 1) (stepF i c s)

theorem runs_tbl : runs tblL 0 s0 = true := by decide +kernel
theorem tbl_len : tblL.length = 1212 := by decide +kernel

theorem runs_at : ∀ (l : List UInt8) (i : Nat) (s : FS), runs l i s = true → ∀ m c, l[m]? = some c → okAt (i + m) c (stateFrom l i s m) = true ∧ stateFrom l i s (m + 1) = stepF (i + m) c (stateFrom l i s m)
  | [], _, _, _, m, c, h => by simp at h
  | d :: l, i, s, hr, m, c, h => by
    unfold runs at hr
    rw [Bool.and_eq_true] at hr
    cases m with
    | zero =>
      simp at h
      subst h
      exact ⟨by simpa [stateFrom] using hr.1, by simp [stateFrom]⟩
    | succ m =>
      have := runs_at l (i + 1) (stepF i d s) hr.2 m c (by simpa using h)
      rw [show i + (m + 1) = i + 1 + m by omega]
      exact this

theorem state_next {m : Nat} {c : UInt8} (h : tblL[m]? = some c) : okAt m c (stateAt m) = true ∧ stateAt (m + 1) = stepF m c (stateAt m) := by
  have := runs_at tblL 0 s0 runs_tbl m c h
  simpa [stateAt] using this

theorem runs_end : ∀ (l : List UInt8) (i : Nat) (s : FS), runs l i s = true → (stateFrom l i s l.length).n = 66
  | [], _, s, h => by simpa [runs, stateFrom] using h
  | c :: l, i, s, h => by
    unfold runs at h
    rw [Bool.and_eq_true] at h
    simpa [stateFrom] using runs_end l (i + 1) (stepF i c s) h.2

theorem state_end : (stateAt 1212).n = 66 := by
  have := runs_end tblL 0 s0 runs_tbl
  rw [tbl_len] at this
  exact this
end Go.Proofs.YtnmclpphiajleaaDoor
