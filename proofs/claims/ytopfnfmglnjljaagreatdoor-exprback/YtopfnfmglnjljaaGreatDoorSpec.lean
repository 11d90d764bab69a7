/- Expressions as plain data: what Parse reads, what Text writes, what Eval comes to. Nothing of Go stands here. -/
import Derived.Lib.ItoaNum
import Derived.Lib.ParseIntB
import Derived.Lib.TrimByte
import Derived.Lib.Strings
import Derived.Laws.Entries
namespace Go.Proofs.YtopfnfmglnjljaaGreatDoor
set_option linter.unusedVariables false
set_option linter.unusedSimpArgs false

/-- An expression; 'zero': none. 'two k x y': of the kind k (5 to 11). -/
inductive Ex
  | zero
  | num (n : Nat)
  | name (s : List UInt8)
  | here
  | neg (x : Ex)
  | two (k : Nat) (x y : Ex)
deriving Repr, DecidableEq

abbrev Bs := List UInt8

def digitB (c : UInt8) : Bool := decide (48 ≤ c.toNat) && decide (c.toNat ≤ 57)
def letterB (c : UInt8) : Bool := (decide (97 ≤ c.toNat) && decide (c.toNat ≤ 122)) || decide (c.toNat = 95)
def runB (c : UInt8) : Bool := letterB c || digitB c

def skipP (s : Bs) : Bs := Go.Lib.trimLeftB s 32

/-- Behind blanks and this text, if it stands there. -/
def tookP (s t : Bs) : Bs × Bool := (Go.Lib.trimPrefix (skipP s) t, Go.Lib.hasPrefix (skipP s) t)

/-- The sign of a kind of two. -/
def signOf (k : Nat) : Bs :=
  if k = 5 then [43] else if k = 6 then [45] else if k = 7 then [42] else if k = 8 then [38] else if k = 9 then [124] else if k = 10 then [60, 60] else [62, 62]

def wordP (s : Bs) : Bool :=
  match s with
  | [] => false
  | c :: t => decide (s.length ≤ 12) && !digitB c && !(decide (c = 114) && !t.isEmpty && t.all digitB)

def hexDig (c : UInt8) : Option Nat :=
  if 48 ≤ c.toNat ∧ c.toNat ≤ 57 then some (c.toNat - 48) else if 97 ≤ c.toNat ∧ c.toNat ≤ 102 then some (c.toNat - 87) else none

/-- Digits of sixteen behind acc, all below 2^32. -/
def hexGoP (acc : Nat) : Bs → Option Nat
  | [] => some acc
  | c :: t => match hexDig c with
    | none => none
    | some d => if 4294967295 < acc * 16 + d then none else hexGoP (acc * 16 + d) t

def hexP (s : Bs) : Option Nat := if s = [] then none else hexGoP 0 s

def decP (s : Bs) : Option Nat := match Go.Lib.parseUintB 32 s with
  | .ok u => some u
  | _ => none

def numberP (s : Bs) : Option Nat := if Go.Lib.hasPrefix s [48, 120] then hexP (Go.Lib.trimPrefix s [48, 120]) else decP s

def leafP (run : Bs) : Option Ex := if wordP run then some (.name run) else (numberP run).map .num

abbrev Rd := Bs → Option (Ex × Bs)

/-- The first of these kinds whose sign stands here; and what is behind. -/
def betweenP : List Nat → Bs → Option Nat × Bs
  | [], s => (none, s)
  | k :: ks, s => if (tookP s (signOf k)).2 then (some k, (tookP s (signOf k)).1) else betweenP ks (tookP s (signOf k)).1

/-- Parts with signs between them: behind x; fuel: more than there are bytes. -/
def rowGo (part : Rd) (kinds : List Nat) : Nat → Ex → Bs → Option (Ex × Bs)
  | 0, _, _ => none
  | f + 1, x, s => match betweenP kinds s with
    | (none, s1) => some (x, s1)
    | (some k, s1) => match part s1 with
      | none => none
      | some (y, s2) => rowGo part kinds f (.two k x y) s2

def rowP (part : Rd) (kinds : List Nat) : Rd := fun s => match part s with
  | none => none
  | some (x, s1) => rowGo part kinds (s1.length + 1) x s1

def productsP (single : Rd) : Rd := rowP single [7]
def sumsP (single : Rd) : Rd := rowP (productsP single) [5, 6]
def shiftsP (single : Rd) : Rd := rowP (sumsP single) [10, 11]
def andsP (single : Rd) : Rd := rowP (shiftsP single) [8]
def orsP (single : Rd) : Rd := rowP (andsP single) [9]

/-- What stands by itself, within so many more. -/
def singleP : Nat → Rd
  | 0, s =>
    if (tookP s [45]).2 then none
    else if (tookP (tookP s [45]).1 [40]).2 then none
    else if (tookP (tookP (tookP s [45]).1 [40]).1 [46]).2 then some (.here, (tookP (tookP (tookP s [45]).1 [40]).1 [46]).1)
    else (leafP ((tookP (tookP (tookP s [45]).1 [40]).1 [46]).1.takeWhile runB)).map fun x => (x, (tookP (tookP (tookP s [45]).1 [40]).1 [46]).1.dropWhile runB)
  | d + 1, s =>
    if (tookP s [45]).2 then (singleP d (tookP s [45]).1).map fun p => (.neg p.1, p.2)
    else if (tookP (tookP s [45]).1 [40]).2 then
      match orsP (singleP d) (tookP (tookP s [45]).1 [40]).1 with
      | none => none
      | some (x, s1) => if (tookP s1 [41]).2 then some (x, (tookP s1 [41]).1) else none
    else if (tookP (tookP (tookP s [45]).1 [40]).1 [46]).2 then some (.here, (tookP (tookP (tookP s [45]).1 [40]).1 [46]).1)
    else (leafP ((tookP (tookP (tookP s [45]).1 [40]).1 [46]).1.takeWhile runB)).map fun x => (x, (tookP (tookP (tookP s [45]).1 [40]).1 [46]).1.dropWhile runB)

/-- Parse. -/
def parseP (s : Bs) : Option Ex := match orsP (singleP 12) s with
  | none => none
  | some (x, s1) => if (skipP s1).isEmpty then some x else none

def isTwo : Ex → Bool
  | .two _ _ _ => true
  | _ => false

/-- A child's text, of its own. -/
def childP (x : Ex) (t : Bs) : Bs := if isTwo x then 40 :: (t ++ [41]) else t

/-- Text. -/
def textP : Ex → Bs
  | .zero => []
  | .num n => Go.Lib.itoa n
  | .name s => s
  | .here => [46]
  | .neg x => 45 :: childP x (textP x)
  | .two k x y => childP x (textP x) ++ ([32] ++ signOf k ++ [32]) ++ childP y (textP y)

/-- A number, if it may be; else 0 and Range. -/
def boundP (n : Int) : Int × Int := if n < -1099511627776 ∨ 1099511627776 < n then (0, 6) else (n, 0)

def namedP (s : Bs) : List (Bs × Int) → Int × Int
  | [] => (0, 4)
  | (t, v) :: l => if t = s then boundP v else namedP s l

/-- a and b, as two's complement of 64 bits. -/
def andP (a b : Int) : Int := Go.bits .and .i64 a b
def orP (a b : Int) : Int := Go.bits .or .i64 a b

/-- Of two numbers. -/
def reckonP (k : Nat) (a b : Int) : Int × Int :=
  if k = 5 then boundP (a + b)
  else if k = 6 then boundP (a - b)
  else if k = 7 then boundP (a * b)
  else if k = 8 then boundP (andP a b)
  else if k = 9 then boundP (orP a b)
  else if b < 0 ∨ 40 < b then (0, 6)
  else if k = 10 then boundP (a * 2 ^ b.toNat)
  else (a / 2 ^ b.toNat, 0)

/-- Eval: what an expression comes to, and its error. -/
def evalP (here : Int) (syms : List (Bs × Int)) : Ex → Int × Int
  | .zero => (0, 6)
  | .num n => boundP n
  | .name s => namedP s syms
  | .here => if here < 0 ∨ 1048576 < here then (0, 6) else (here, 0)
  | .neg x => if (evalP here syms x).2 = 0 then boundP (-(evalP here syms x).1) else (0, (evalP here syms x).2)
  | .two k x y => if (evalP here syms x).2 = 0 then (if (evalP here syms y).2 = 0 then reckonP k (evalP here syms x).1 (evalP here syms y).1 else (0, (evalP here syms y).2)) else (0, (evalP here syms x).2)

end Go.Proofs.YtopfnfmglnjljaaGreatDoor
