/- The table of chapter 2, as plain data: kinds of operands, instructions. -/
import Derived.Test.YtagplfochalidabDoorKinds3
namespace Go.Proofs.YtagplfochalidabDoor
open Go.RowKit
open Plain
set_option linter.unusedVariables false
set_option linter.unusedSimpArgs false

/-- The kinds of operands. -/
inductive K where
  | kX
  | kY
  | kU5
  | kU7
  | kO5
  | kM1
  | kM2
  | kM4
  | kO1
  | kI2
  | kT8
  | kD
  | kA
  | kB
  | kS16
  | kL20
  | kC8
  | kO2
  | kI4
  | kT15
  | kT24
  deriving DecidableEq

namespace K
def name : K → List UInt8
  | kX => [88]
  | kY => [89]
  | kU5 => [85, 53]
  | kU7 => [85, 55]
  | kO5 => [79, 53]
  | kM1 => [77, 49]
  | kM2 => [77, 50]
  | kM4 => [77, 52]
  | kO1 => [79, 49]
  | kI2 => [73, 50]
  | kT8 => [84, 56]
  | kD => [68]
  | kA => [65]
  | kB => [66]
  | kS16 => [83, 49, 54]
  | kL20 => [76, 50, 48]
  | kC8 => [67, 56]
  | kO2 => [79, 50]
  | kI4 => [73, 52]
  | kT15 => [84, 49, 53]
  | kT24 => [84, 50, 52]
def pl : K → Array Value
  | kX => plV 0 4 0 0 0 0 0 0 0 0 0 0
  | kY => plV 4 4 0 0 0 0 0 0 0 0 0 0
  | kU5 => plV 4 5 0 1 0 0 0 0 0 0 0 0
  | kU7 => plV 4 7 0 1 0 0 0 0 0 0 0 0
  | kO5 => plV 4 5 1 1 0 0 0 0 0 0 0 0
  | kM1 => plV 8 4 0 1 0 0 0 0 0 0 0 0
  | kM2 => plV 8 4 0 2 0 0 0 0 0 0 0 0
  | kM4 => plV 8 4 0 4 0 0 0 0 0 0 0 0
  | kO1 => plV 10 1 0 1 0 0 0 0 0 0 0 0
  | kI2 => plV 8 2 0 1 0 0 0 0 0 0 0 0
  | kT8 => plV 0 8 0 2 0 0 0 0 0 0 0 0
  | kD => plV 21 5 0 1 0 0 0 0 0 0 0 0
  | kA => plV 16 5 0 1 0 0 0 0 0 0 0 0
  | kB => plV 11 5 0 1 0 0 0 0 0 0 0 0
  | kS16 => plV 0 16 0 1 0 0 0 0 0 0 0 0
  | kL20 => plV 11 4 0 0 16 5 0 0 0 11 0 0
  | kC8 => plV 10 1 0 0 8 2 0 0 0 8 0 0
  | kO2 => plV 20 2 0 1 0 0 0 0 0 0 0 0
  | kI4 => plV 16 4 0 1 0 0 0 0 0 0 0 0
  | kT15 => plV 1 15 0 2 0 0 0 0 0 0 0 0
  | kT24 => plV 1 24 0 2 0 0 0 0 0 0 0 0
def codeF : K → Nat
  | kX => 37
  | kY => 37
  | kU5 => 39
  | kU7 => 39
  | kO5 => 39
  | kM1 => 39
  | kM2 => 39
  | kM4 => 39
  | kO1 => 39
  | kI2 => 39
  | kT8 => 41
  | kD => 39
  | kA => 39
  | kB => 39
  | kS16 => 41
  | kL20 => 43
  | kC8 => 45
  | kO2 => 39
  | kI4 => 39
  | kT15 => 41
  | kT24 => 41
def tellF : K → Nat
  | kX => 38
  | kY => 38
  | kU5 => 40
  | kU7 => 40
  | kO5 => 40
  | kM1 => 40
  | kM2 => 40
  | kM4 => 40
  | kO1 => 40
  | kI2 => 40
  | kT8 => 42
  | kD => 40
  | kA => 40
  | kB => 40
  | kS16 => 42
  | kL20 => 44
  | kC8 => 46
  | kO2 => 40
  | kI4 => 40
  | kT15 => 42
  | kT24 => 42
/-- An operand's bits; false: it may not be. -/
def code : K → Int → Int × Bool
  | kX => regC 0 4
  | kY => regC 4 4
  | kU5 => countC 4 5 0 1
  | kU7 => countC 4 7 0 1
  | kO5 => countC 4 5 1 1
  | kM1 => countC 8 4 0 1
  | kM2 => countC 8 4 0 2
  | kM4 => countC 8 4 0 4
  | kO1 => countC 10 1 0 1
  | kI2 => countC 8 2 0 1
  | kT8 => signC 0 8 2
  | kD => countC 21 5 0 1
  | kA => countC 16 5 0 1
  | kB => countC 11 5 0 1
  | kS16 => signC 0 16 1
  | kL20 => splitC 11 4 16 5 0 11
  | kC8 => sciC 10 1 8 2 0 8
  | kO2 => countC 20 2 0 1
  | kI4 => countC 16 4 0 1
  | kT15 => signC 1 15 2
  | kT24 => signC 1 24 2
/-- The way back. -/
def tell : K → Int → Int
  | kX => regT 0 4
  | kY => regT 4 4
  | kU5 => countT 4 5 0 1
  | kU7 => countT 4 7 0 1
  | kO5 => countT 4 5 1 1
  | kM1 => countT 8 4 0 1
  | kM2 => countT 8 4 0 2
  | kM4 => countT 8 4 0 4
  | kO1 => countT 10 1 0 1
  | kI2 => countT 8 2 0 1
  | kT8 => signT 0 8 2
  | kD => countT 21 5 0 1
  | kA => countT 16 5 0 1
  | kB => countT 11 5 0 1
  | kS16 => signT 0 16 1
  | kL20 => splitT 11 4 16 5 0 11
  | kC8 => sciT 10 1 8 2 0 8
  | kO2 => countT 20 2 0 1
  | kI4 => countT 16 4 0 1
  | kT15 => signT 1 15 2
  | kT24 => signT 1 24 2
def val (k : K) : Value := .agg ((k.pl.push (.func (.func k.codeF) #[] #[])).push (.func (.func k.tellF) #[] #[]))
end K

/-- An instruction: its name, its bits, its operands' kinds. -/
structure R where
  name : List UInt8
  bits : Int
  ks : List K

def joined : List K → List UInt8
  | [] => []
  | [k] => k.name
  | k :: k' :: ks => k.name ++ 32 :: joined (k' :: ks)

def R.kinds (r : R) : List UInt8 := joined r.ks
def R.val (r : R) : Value := .agg #[.string ⟨r.name.toArray⟩, .int .u32 r.bits, .string ⟨r.kinds.toArray⟩]

def short : List R := [
  ⟨[115, 101, 95, 105, 108, 108, 101, 103, 97, 108], 0, []⟩,
  ⟨[115, 101, 95, 105, 115, 121, 110, 99], 1, []⟩,
  ⟨[115, 101, 95, 115, 99], 2, []⟩,
  ⟨[115, 101, 95, 98, 108, 114], 4, []⟩,
  ⟨[115, 101, 95, 98, 99, 116, 114], 6, []⟩,
  ⟨[115, 101, 95, 110, 111, 116], 32, [.kX]⟩,
  ⟨[115, 101, 95, 110, 101, 103], 48, [.kX]⟩,
  ⟨[115, 101, 95, 109, 102, 108, 114], 128, [.kX]⟩,
  ⟨[115, 101, 95, 109, 116, 108, 114], 144, [.kX]⟩,
  ⟨[115, 101, 95, 109, 102, 99, 116, 114], 160, [.kX]⟩,
  ⟨[115, 101, 95, 109, 116, 99, 116, 114], 176, [.kX]⟩,
  ⟨[115, 101, 95, 101, 120, 116, 122, 98], 192, [.kX]⟩,
  ⟨[115, 101, 95, 101, 120, 116, 115, 98], 208, [.kX]⟩,
  ⟨[115, 101, 95, 101, 120, 116, 122, 104], 224, [.kX]⟩,
  ⟨[115, 101, 95, 101, 120, 116, 115, 104], 240, [.kX]⟩,
  ⟨[115, 101, 95, 109, 114], 256, [.kX, .kY]⟩,
  ⟨[115, 101, 95, 97, 100, 100], 1024, [.kX, .kY]⟩,
  ⟨[115, 101, 95, 109, 117, 108, 108, 119], 1280, [.kX, .kY]⟩,
  ⟨[115, 101, 95, 115, 117, 98], 1536, [.kX, .kY]⟩,
  ⟨[115, 101, 95, 99, 109, 112], 3072, [.kX, .kY]⟩,
  ⟨[115, 101, 95, 99, 109, 112, 108], 3328, [.kX, .kY]⟩,
  ⟨[115, 101, 95, 97, 100, 100, 105], 8192, [.kX, .kO5]⟩,
  ⟨[115, 101, 95, 99, 109, 112, 108, 105], 8704, [.kX, .kO5]⟩,
  ⟨[115, 101, 95, 115, 117, 98, 105], 9216, [.kX, .kO5]⟩,
  ⟨[115, 101, 95, 99, 109, 112, 105], 10752, [.kX, .kU5]⟩,
  ⟨[115, 101, 95, 111, 114], 17408, [.kX, .kY]⟩,
  ⟨[115, 101, 95, 97, 110, 100, 99], 17664, [.kX, .kY]⟩,
  ⟨[115, 101, 95, 97, 110, 100], 17920, [.kX, .kY]⟩,
  ⟨[115, 101, 95, 108, 105], 18432, [.kX, .kU7]⟩,
  ⟨[115, 101, 95, 98, 99, 108, 114, 105], 24576, [.kX, .kU5]⟩,
  ⟨[115, 101, 95, 98, 115, 101, 116, 105], 25600, [.kX, .kU5]⟩,
  ⟨[115, 101, 95, 98, 116, 115, 116, 105], 26112, [.kX, .kU5]⟩,
  ⟨[115, 101, 95, 115, 114, 119, 105], 26624, [.kX, .kU5]⟩,
  ⟨[115, 101, 95, 115, 108, 119, 105], 27648, [.kX, .kU5]⟩,
  ⟨[115, 101, 95, 108, 98, 122], 32768, [.kY, .kM1, .kX]⟩,
  ⟨[115, 101, 95, 115, 116, 98], 36864, [.kY, .kM1, .kX]⟩,
  ⟨[115, 101, 95, 108, 104, 122], 40960, [.kY, .kM2, .kX]⟩,
  ⟨[115, 101, 95, 115, 116, 104], 45056, [.kY, .kM2, .kX]⟩,
  ⟨[115, 101, 95, 108, 119, 122], 49152, [.kY, .kM4, .kX]⟩,
  ⟨[115, 101, 95, 115, 116, 119], 53248, [.kY, .kM4, .kX]⟩,
  ⟨[115, 101, 95, 98, 99], 57344, [.kO1, .kI2, .kT8]⟩,
  ⟨[115, 101, 95, 98], 59392, [.kT8]⟩,
  ⟨[115, 101, 95, 98, 108], 59648, [.kT8]⟩]

def long : List R := [
  ⟨[101, 95, 97, 100, 100, 49, 54, 105], 469762048, [.kD, .kA, .kS16]⟩,
  ⟨[101, 95, 97, 100, 100, 105], 402685952, [.kD, .kA, .kC8]⟩,
  ⟨[101, 95, 97, 110, 100, 105], 402702336, [.kA, .kD, .kC8]⟩,
  ⟨[101, 95, 111, 114, 105], 402706432, [.kA, .kD, .kC8]⟩,
  ⟨[101, 95, 120, 111, 114, 105], 402710528, [.kA, .kD, .kC8]⟩,
  ⟨[101, 95, 108, 105], 1879048192, [.kD, .kL20]⟩,
  ⟨[101, 95, 108, 98, 122], 805306368, [.kD, .kS16, .kA]⟩,
  ⟨[101, 95, 115, 116, 98], 872415232, [.kD, .kS16, .kA]⟩,
  ⟨[101, 95, 108, 104, 97], 939524096, [.kD, .kS16, .kA]⟩,
  ⟨[101, 95, 108, 119, 122], 1342177280, [.kD, .kS16, .kA]⟩,
  ⟨[101, 95, 115, 116, 119], 1409286144, [.kD, .kS16, .kA]⟩,
  ⟨[101, 95, 108, 104, 122], 1476395008, [.kD, .kS16, .kA]⟩,
  ⟨[101, 95, 115, 116, 104], 1543503872, [.kD, .kS16, .kA]⟩,
  ⟨[101, 95, 98], 2013265920, [.kT24]⟩,
  ⟨[101, 95, 98, 108], 2013265921, [.kT24]⟩,
  ⟨[101, 95, 98, 99], 2046820352, [.kO2, .kI4, .kT15]⟩,
  ⟨[101, 95, 98, 99, 108], 2046820353, [.kO2, .kI4, .kT15]⟩,
  ⟨[97, 100, 100], 2080375316, [.kD, .kA, .kB]⟩,
  ⟨[115, 117, 98, 102], 2080374864, [.kD, .kA, .kB]⟩,
  ⟨[109, 117, 108, 108, 119], 2080375254, [.kD, .kA, .kB]⟩,
  ⟨[97, 110, 100], 2080374840, [.kA, .kD, .kB]⟩,
  ⟨[111, 114], 2080375672, [.kA, .kD, .kB]⟩,
  ⟨[120, 111, 114], 2080375416, [.kA, .kD, .kB]⟩]

def none' : R := ⟨[], 0, []⟩
/-- The instruction of a number. -/
def rowP (op : Int) : R := if op < 0 then none' else if op < 43 then short.getD op.toNat none' else long.getD (op.toNat - 43) none'
def isP (op : Int) : Bool := decide (0 ≤ op) && decide (op < 66)
def sizeP (op : Int) : Int := if op < 0 ∨ 66 ≤ op then 0 else if op < 43 then 2 else 4
end Go.Proofs.YtagplfochalidabDoor
