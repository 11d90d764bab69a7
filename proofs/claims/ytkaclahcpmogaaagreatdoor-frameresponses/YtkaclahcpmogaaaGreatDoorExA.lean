/- Expressions as plain data: what Parse reads, what Text writes, what Eval comes to. Nothing of Go stands here.
   Worlds: what stays, what is new; the reader's cells; an expression in memory.
   The contracts of skip, took, sign, between.
   What may be read: all; what the listed variables hold.
   The contracts of sign and between.
   The contract of row: parts with signs between them. -/
import Derived.Lib.ItoaNum
import Derived.Lib.ParseIntB
import Derived.Lib.TrimByte
import Derived.Lib.Strings
import Derived.Laws.Entries
import Derived.Test.YtkaclahcpmogaaaGreatDoorProg
import Derived.WalkKit
import Derived.ProofKit
import Derived.OpenShut
import Derived.WalkLawsBesides
import Derived.BigQuiet
import Derived.Lib.QuietBelow
import Derived.Laws.EntriesVeiled
import Derived.Test.YtkaclahcpmogaaaGreatDoorEShelf
import Derived.Lib.LaidTab
import Derived.WalkSmall
namespace Go.Proofs.YtkaclahcpmogaaaGreatDoor
set_option linter.unusedVariables false
set_option linter.unusedSimpArgs false

/-- An expression; 'zero': none. 'two k x y': of the kind k (5 to 11). -/
inductive Ex
  | zero
  | num (n : Nat)
  | name (s : List UInt8)
  | here
  | neg (x : Ex)
  | two (k : Nat) (x y : Ex)
deriving Repr, DecidableEq

abbrev Bs := List UInt8

def digitB (c : UInt8) : Bool := decide (48 ≤ c.toNat) && decide (c.toNat ≤ 57)
def letterB (c : UInt8) : Bool := (decide (97 ≤ c.toNat) && decide (c.toNat ≤ 122)) || decide (c.toNat = 95)
def runB (c : UInt8) : Bool := letterB c || digitB c

def skipP (s : Bs) : Bs := Go.Lib.trimLeftB s 32

/-- Behind blanks and this text, if it stands there. -/
def tookP (s t : Bs) : Bs × Bool := (Go.Lib.trimPrefix (skipP s) t, Go.Lib.hasPrefix (skipP s) t)

/-- The sign of a kind of two. -/
def signOf (k : Nat) : Bs :=
  if k = 5 then [43] else if k = 6 then [45] else if k = 7 then [42] else if k = 8 then [38] else if k = 9 then [124] else if k = 10 then [60, 60] else [62, 62]

def wordP (s : Bs) : Bool :=
  match s with
  | [] => false
  | c :: t => decide (s.length ≤ 12) && !digitB c && !(decide (c = 114) && !t.isEmpty && t.all digitB)

def hexDig (c : UInt8) : Option Nat :=
  if 48 ≤ c.toNat ∧ c.toNat ≤ 57 then some (c.toNat - 48) else if 97 ≤ c.toNat ∧ c.toNat ≤ 102 then some (c.toNat - 87) else none

/-- Digits of sixteen behind acc, all below 2^32. -/
def hexGoP (acc : Nat) : Bs → Option Nat
  | [] => some acc
  | c :: t => match hexDig c with
    | none => none
    | some d => if 4294967295 < acc * 16 + d then none else hexGoP (acc * 16 + d) t

def hexP (s : Bs) : Option Nat := if s = [] then none else hexGoP 0 s

def decP (s : Bs) : Option Nat := match Go.Lib.parseUintB 32 s with
  | .ok u => some u
  | _ => none

def numberP (s : Bs) : Option Nat := if Go.Lib.hasPrefix s [48, 120] then hexP (Go.Lib.trimPrefix s [48, 120]) else decP s

def leafP (run : Bs) : Option Ex := if wordP run then some (.name run) else (numberP run).map .num

abbrev Rd := Bs → Option (Ex × Bs)

/-- The first of these kinds whose sign stands here; and what is behind. -/
def betweenP : List Nat → Bs → Option Nat × Bs
  | [], s => (none, s)
  | k :: ks, s => if (tookP s (signOf k)).2 then (some k, (tookP s (signOf k)).1) else betweenP ks (tookP s (signOf k)).1

/-- Parts with signs between them: behind x; fuel: more than there are bytes. -/
def rowGo (part : Rd) (kinds : List Nat) : Nat → Ex → Bs → Option (Ex × Bs)
  | 0, _, _ => none
  | f + 1, x, s => match betweenP kinds s with
    | (none, s1) => some (x, s1)
    | (some k, s1) => match part s1 with
      | none => none
      | some (y, s2) => rowGo part kinds f (.two k x y) s2

def rowP (part : Rd) (kinds : List Nat) : Rd := fun s => match part s with
  | none => none
  | some (x, s1) => rowGo part kinds (s1.length + 1) x s1

def productsP (single : Rd) : Rd := rowP single [7]
def sumsP (single : Rd) : Rd := rowP (productsP single) [5, 6]
def shiftsP (single : Rd) : Rd := rowP (sumsP single) [10, 11]
def andsP (single : Rd) : Rd := rowP (shiftsP single) [8]
def orsP (single : Rd) : Rd := rowP (andsP single) [9]

/-- What stands by itself, within so many more. -/
def singleP : Nat → Rd
  | 0, s =>
    if (tookP s [45]).2 then none
    else if (tookP (tookP s [45]).1 [40]).2 then none
    else if (tookP (tookP (tookP s [45]).1 [40]).1 [46]).2 then some (.here, (tookP (tookP (tookP s [45]).1 [40]).1 [46]).1)
    else (leafP ((tookP (tookP (tookP s [45]).1 [40]).1 [46]).1.takeWhile runB)).map fun x => (x, (tookP (tookP (tookP s [45]).1 [40]).1 [46]).1.dropWhile runB)
  | d + 1, s =>
    if (tookP s [45]).2 then (singleP d (tookP s [45]).1).map fun p => (.neg p.1, p.2)
    else if (tookP (tookP s [45]).1 [40]).2 then
      match orsP (singleP d) (tookP (tookP s [45]).1 [40]).1 with
      | none => none
      | some (x, s1) => if (tookP s1 [41]).2 then some (x, (tookP s1 [41]).1) else none
    else if (tookP (tookP (tookP s [45]).1 [40]).1 [46]).2 then some (.here, (tookP (tookP (tookP s [45]).1 [40]).1 [46]).1)
    else (leafP ((tookP (tookP (tookP s [45]).1 [40]).1 [46]).1.takeWhile runB)).map fun x => (x, (tookP (tookP (tookP s [45]).1 [40]).1 [46]).1.dropWhile runB)

/-- Parse. -/
def parseP (s : Bs) : Option Ex := match orsP (singleP 12) s with
  | none => none
  | some (x, s1) => if (skipP s1).isEmpty then some x else none

def isTwo : Ex → Bool
  | .two _ _ _ => true
  | _ => false

/-- A child's text, of its own. -/
def childP (x : Ex) (t : Bs) : Bs := if isTwo x then 40 :: (t ++ [41]) else t

/-- Text. -/
def textP : Ex → Bs
  | .zero => []
  | .num n => Go.Lib.itoa n
  | .name s => s
  | .here => [46]
  | .neg x => 45 :: childP x (textP x)
  | .two k x y => childP x (textP x) ++ ([32] ++ signOf k ++ [32]) ++ childP y (textP y)

/-- A number, if it may be; else 0 and Range. -/
def boundP (n : Int) : Int × Int := if n < -1099511627776 ∨ 1099511627776 < n then (0, 6) else (n, 0)

def namedP (s : Bs) : List (Bs × Int) → Int × Int
  | [] => (0, 4)
  | (t, v) :: l => if t = s then boundP v else namedP s l

/-- a and b, as two's complement of 64 bits. -/
def andP (a b : Int) : Int := Go.bits .and .i64 a b
def orP (a b : Int) : Int := Go.bits .or .i64 a b

/-- Of two numbers. -/
def reckonP (k : Nat) (a b : Int) : Int × Int :=
  if k = 5 then boundP (a + b)
  else if k = 6 then boundP (a - b)
  else if k = 7 then boundP (a * b)
  else if k = 8 then boundP (andP a b)
  else if k = 9 then boundP (orP a b)
  else if b < 0 ∨ 40 < b then (0, 6)
  else if k = 10 then boundP (a * 2 ^ b.toNat)
  else (a / 2 ^ b.toNat, 0)

/-- Eval: what an expression comes to, and its error. -/
def evalP (here : Int) (syms : List (Bs × Int)) : Ex → Int × Int
  | .zero => (0, 6)
  | .num n => boundP n
  | .name s => namedP s syms
  | .here => if here < 0 ∨ 1048576 < here then (0, 6) else (here, 0)
  | .neg x => if (evalP here syms x).2 = 0 then boundP (-(evalP here syms x).1) else (0, (evalP here syms x).2)
  | .two k x y => if (evalP here syms x).2 = 0 then (if (evalP here syms y).2 = 0 then reckonP k (evalP here syms x).1 (evalP here syms y).1 else (0, (evalP here syms y).2)) else (0, (evalP here syms x).2)

end Go.Proofs.YtkaclahcpmogaaaGreatDoor

namespace Go.Proofs.YtkaclahcpmogaaaGreatDoor
open Go.ChangeShapes Go.WideShapes Go.ChangeAt Go.RowKit
set_option linter.unusedVariables false
set_option linter.unusedSimpArgs false

def bs (l : List UInt8) : ByteArray := ⟨l.toArray⟩

theorem bs_list (l : List UInt8) : (bs l).data.toList = l := by simp [bs]
theorem bs_size (l : List UInt8) : (bs l).size = l.length := by simp [bs, ByteArray.size]
theorem bs_of (s : ByteArray) : s = bs s.data.toList := by cases s; simp [bs]

theorem kept_cell {w w' : World} (h : Below w.heap.size w w') {a : Addr} {v : Value} (hc : w.cell? a = some v) : w'.cell? a = some v := by
  rw [h.cell (block_lt_of_cell hc)]; exact hc

theorem new_cell {w : World} {t : TypeId} (cs : Array Value) (i : Nat) (x : Value) (h : cs[i]? = some x) : (w.alloc (.cells cs t)).cell? ⟨w.heap.size, i, none⟩ = some x := by simp [h]

theorem new_thawed {w : World} {t : TypeId} (cs : Array Value) (i : Nat) : (w.alloc (.cells cs t)).frozen? ⟨w.heap.size, i, none⟩ = false := by simp

theorem kept_thawed {w w' : World} (h : Below w.heap.size w w') {a : Addr} (ha : a.block < w.heap.size) (hc : w.frozen? a = false) : w'.frozen? a = false := by
  rw [h.frozen ha]; exact hc

theorem below_drewN (w : World) (n : Nat) : Below w.heap.size w (w.drewN n) := ⟨rfl, rfl, rfl, Nat.le_refl _, fun _ _ => rfl⟩
theorem below_new (w : World) (o : Obj) : Below w.heap.size w (w.alloc o) := (Below.refl _ _).alloc (Nat.le_refl _) _

/-- All but block b is as it was; there may be more. -/
structure Beside (b : Nat) (w w' : World) : Prop where
  below : Below b w w'
  above : ∀ k, b < k → k < w.heap.size → w'.heap[k]? = w.heap[k]?

theorem Beside.refl (b : Nat) (w : World) : Beside b w w := ⟨Below.refl _ _, fun _ _ _ => rfl⟩
theorem Beside.trans {b : Nat} {w1 w2 w3 : World} (h : Beside b w1 w2) (k : Beside b w2 w3) : Beside b w1 w3 :=
  ⟨h.below.trans k.below, fun i h1 h2 => (k.above i h1 (Nat.lt_of_lt_of_le h2 h.below.size)).trans (h.above i h1 h2)⟩
theorem Beside.of {b : Nat} {w w' : World} (h : Below w.heap.size w w') (hb : b < w.heap.size) : Beside b w w' := ⟨h.mono (Nat.le_of_lt hb), fun k _ hk => h.block k hk⟩
theorem Beside.set {b : Nat} (w : World) {a : Addr} (ha : a.block = b) (u : Value) : Beside b w (w.setCell a u) :=
  ⟨(Below.refl _ _).setCell (by omega) u, fun k hk _ => Below.heap_setCell _ _ _ _ (by omega)⟩
theorem Beside.size {b : Nat} {w w' : World} (h : Beside b w w') : w.heap.size ≤ w'.heap.size := h.below.size

theorem cell_of_block {w w' : World} {a : Addr} (h : w'.heap[a.block]? = w.heap[a.block]?) : w'.cell? a = w.cell? a := by
  unfold World.cell?; rw [h]
theorem frozen_of_block {w w' : World} {a : Addr} (h : w'.heap[a.block]? = w.heap[a.block]?) : w'.frozen? a = w.frozen? a := by
  unfold World.frozen?; rw [h]

theorem Beside.cell {b : Nat} {w w' : World} (h : Beside b w w') {a : Addr} {v : Value} (hc : w.cell? a = some v) (ha : a.block ≠ b) : w'.cell? a = some v := by
  rw [cell_of_block (w := w), hc]
  by_cases hl : a.block < b
  · exact h.below.block _ hl
  · exact h.above _ (by omega) (block_lt_of_cell hc)

/-- The reader at b: what is left of the text, how deep it stands. -/
structure Rdr (w : World) (b : Nat) (s : Bs) (d : Nat) : Prop where
  c0 : w.cell? ⟨b, 0, none⟩ = some (.string (bs s))
  c1 : w.cell? ⟨b, 1, none⟩ = some (.int .i64 d)
  f0 : w.frozen? ⟨b, 0, none⟩ = false
  f1 : w.frozen? ⟨b, 1, none⟩ = false

theorem Rdr.lt {w : World} {b : Nat} {s : Bs} {d : Nat} (h : Rdr w b s d) : b < w.heap.size := block_lt_of_cell h.c0

theorem Rdr.later {w w' : World} {b : Nat} {s : Bs} {d : Nat} (h : Rdr w b s d) (hb : Below w.heap.size w w') : Rdr w' b s d :=
  ⟨kept_cell hb h.c0, kept_cell hb h.c1, kept_thawed hb h.lt h.f0, kept_thawed hb h.lt h.f1⟩

theorem Rdr.of_block {w w' : World} {b : Nat} {s : Bs} {d : Nat} (h : Rdr w b s d) (e : w'.heap[b]? = w.heap[b]?) : Rdr w' b s d := by
  constructor
  · rw [cell_of_block e]; exact h.c0
  · rw [cell_of_block e]; exact h.c1
  · rw [frozen_of_block e]; exact h.f0
  · rw [frozen_of_block e]; exact h.f1

/-- An expression in memory, in blocks of which P holds. -/
def ExAt (P : Nat → Prop) (w : World) : Value → Ex → Prop
  | v, .zero => v = .agg #[.int .i64 0, .int .i64 0, .string (bs []), .slice none 0 0]
  | v, .num n => v = .agg #[.int .i64 1, .int .i64 n, .string (bs []), .slice none 0 0]
  | v, .name s => v = .agg #[.int .i64 2, .int .i64 0, .string (bs s), .slice none 0 0]
  | v, .here => v = .agg #[.int .i64 3, .int .i64 0, .string (bs []), .slice none 0 0]
  | v, .neg x => ∃ k c0 c1 c2 c3, v = .agg #[.int .i64 4, .int .i64 0, .string (bs []), .slice (some ⟨k, 0, none⟩) 1 1] ∧ P k ∧
      w.cell? ⟨k, 0, none⟩ = some c0 ∧ w.cell? ⟨k, 1, none⟩ = some c1 ∧ w.cell? ⟨k, 2, none⟩ = some c2 ∧ w.cell? ⟨k, 3, none⟩ = some c3 ∧ ExAt P w (.agg #[c0, c1, c2, c3]) x
  | v, .two op x y => ∃ k c0 c1 c2 c3 d0 d1 d2 d3, v = .agg #[.int .i64 op, .int .i64 0, .string (bs []), .slice (some ⟨k, 0, none⟩) 2 2] ∧ P k ∧
      w.cell? ⟨k, 0, none⟩ = some c0 ∧ w.cell? ⟨k, 1, none⟩ = some c1 ∧ w.cell? ⟨k, 2, none⟩ = some c2 ∧ w.cell? ⟨k, 3, none⟩ = some c3 ∧
      w.cell? ⟨k, 4, none⟩ = some d0 ∧ w.cell? ⟨k, 5, none⟩ = some d1 ∧ w.cell? ⟨k, 6, none⟩ = some d2 ∧ w.cell? ⟨k, 7, none⟩ = some d3 ∧
      ExAt P w (.agg #[c0, c1, c2, c3]) x ∧ ExAt P w (.agg #[d0, d1, d2, d3]) y

/-- From one world, and one choice of blocks, to another. -/
theorem ExAt.later {P Q : Nat → Prop} {w w' : World} (hb : ∀ (a : Addr) (v : Value), P a.block → w.cell? a = some v → w'.cell? a = some v ∧ Q a.block) : ∀ {x : Ex} {v : Value}, ExAt P w v x → ExAt Q w' v x
  | .zero, _, h => h
  | .num _, _, h => h
  | .name _, _, h => h
  | .here, _, h => h
  | .neg _, _, ⟨k, c0, c1, c2, c3, e, hl, h0, h1, h2, h3, hx⟩ => ⟨k, c0, c1, c2, c3, e, (hb _ _ hl h0).2, (hb _ _ hl h0).1, (hb _ _ hl h1).1, (hb _ _ hl h2).1, (hb _ _ hl h3).1, ExAt.later hb hx⟩
  | .two _ _ _, _, ⟨k, c0, c1, c2, c3, d0, d1, d2, d3, e, hl, h0, h1, h2, h3, g0, g1, g2, g3, hx, hy⟩ =>
    ⟨k, c0, c1, c2, c3, d0, d1, d2, d3, e, (hb _ _ hl h0).2, (hb _ _ hl h0).1, (hb _ _ hl h1).1, (hb _ _ hl h2).1, (hb _ _ hl h3).1, (hb _ _ hl g0).1, (hb _ _ hl g1).1, (hb _ _ hl g2).1, (hb _ _ hl g3).1, ExAt.later hb hx, ExAt.later hb hy⟩

theorem ExAt.below {P : Nat → Prop} {w w' : World} {x : Ex} {v : Value} (h : ExAt P w v x) (hb : Below w.heap.size w w') : ExAt P w' v x := h.later fun _ _ hp hc => ⟨kept_cell hb hc, hp⟩
theorem ExAt.beside {b : Nat} {P : Nat → Prop} {w w' : World} {x : Ex} {v : Value} (h : ExAt P w v x) (hb : Beside b w w') (hl : ∀ k, P k → k ≠ b) : ExAt P w' v x := h.later fun _ _ hp hc => ⟨hb.cell hc (hl _ hp), hp⟩
theorem ExAt.imp {P Q : Nat → Prop} {w : World} {x : Ex} {v : Value} (h : ExAt P w v x) (hl : ∀ k, P k → k < w.heap.size → Q k) : ExAt Q w v x := h.later fun a _ hp hc => ⟨hc, hl _ hp (block_lt_of_cell hc)⟩
theorem ExAt.set {P : Nat → Prop} {w : World} {x : Ex} {v : Value} (h : ExAt P w v x) (a : Addr) (u : Value) (hl : ∀ k, P k → k ≠ a.block) : ExAt P (w.setCell a u) v x :=
  h.later fun a' _ hp hc => ⟨by rw [World.cell?_setCell_other _ _ _ _ (fun e => hl _ hp (by rw [e]))]; exact hc, hp⟩

/-- A value of four cells, as an expression has. -/
def Four (v : Value) : Prop := ∃ (k n : Int) (s : ByteArray) (p : Option Addr) (l c : Nat), v = .agg #[.int .i64 k, .int .i64 n, .string s, .slice p l c]

theorem ExAt.form {P : Nat → Prop} {w : World} {x : Ex} {v : Value} (h : ExAt P w v x) : Four v := by
  cases x with
  | neg x => obtain ⟨k, c0, c1, c2, c3, rfl, _⟩ := h; exact ⟨_, _, _, _, _, _, rfl⟩
  | two o x y => obtain ⟨k, c0, c1, c2, c3, d0, d1, d2, d3, rfl, _⟩ := h; exact ⟨_, _, _, _, _, _, rfl⟩
  | _ => simp only [ExAt] at h; subst h; exact ⟨_, _, _, _, _, _, rfl⟩

theorem Beside.alloc {b : Nat} {w w' : World} (h : Beside b w w') (hb : b < w.heap.size) (o : Obj) : Beside b w (w'.alloc o) :=
  h.trans (Beside.of (below_new _ _) (Nat.lt_of_lt_of_le hb h.size))
theorem Beside.setNew {b : Nat} {w w' : World} (h : Beside b w w') (hb : b < w.heap.size) {a : Addr} (ha : w.heap.size ≤ a.block) (u : Value) : Beside b w (w'.setCell a u) :=
  ⟨h.below.setCell (by omega) u, fun k h1 h2 => (Below.heap_setCell _ _ _ _ (by omega)).trans (h.above k h1 h2)⟩

/-- Block k holds these four, and may be written. -/
structure Blk (w : World) (k : Nat) (a0 a1 a2 a3 : Value) : Prop where
  c0 : w.cell? ⟨k, 0, none⟩ = some a0
  c1 : w.cell? ⟨k, 1, none⟩ = some a1
  c2 : w.cell? ⟨k, 2, none⟩ = some a2
  c3 : w.cell? ⟨k, 3, none⟩ = some a3
  f0 : w.frozen? ⟨k, 0, none⟩ = false
  f1 : w.frozen? ⟨k, 1, none⟩ = false
  f2 : w.frozen? ⟨k, 2, none⟩ = false
  f3 : w.frozen? ⟨k, 3, none⟩ = false

theorem Blk.lt {w : World} {k : Nat} {a0 a1 a2 a3 : Value} (h : Blk w k a0 a1 a2 a3) : k < w.heap.size := block_lt_of_cell h.c0
theorem Blk.new (w : World) (t : TypeId) (a0 a1 a2 a3 : Value) : Blk (w.alloc (.cells #[a0, a1, a2, a3] t)) w.heap.size a0 a1 a2 a3 := by
  constructor <;> simp
theorem Blk.of_block {w w' : World} {k : Nat} {a0 a1 a2 a3 : Value} (h : Blk w k a0 a1 a2 a3) (e : w'.heap[k]? = w.heap[k]?) : Blk w' k a0 a1 a2 a3 := by
  constructor
  · rw [cell_of_block e]; exact h.c0
  · rw [cell_of_block e]; exact h.c1
  · rw [cell_of_block e]; exact h.c2
  · rw [cell_of_block e]; exact h.c3
  · rw [frozen_of_block e]; exact h.f0
  · rw [frozen_of_block e]; exact h.f1
  · rw [frozen_of_block e]; exact h.f2
  · rw [frozen_of_block e]; exact h.f3
theorem Blk.later {w w' : World} {k : Nat} {a0 a1 a2 a3 : Value} (h : Blk w k a0 a1 a2 a3) (hb : Below w.heap.size w w') : Blk w' k a0 a1 a2 a3 := h.of_block (hb.block _ h.lt)
theorem Blk.beside {b : Nat} {w w' : World} {k : Nat} {a0 a1 a2 a3 : Value} (h : Blk w k a0 a1 a2 a3) (hb : Beside b w w') (hk : k ≠ b) : Blk w' k a0 a1 a2 a3 := by
  refine h.of_block ?_
  by_cases hl : k < b
  · exact hb.below.block _ hl
  · exact hb.above _ (by omega) h.lt
theorem Blk.alloc {w : World} {k : Nat} {a0 a1 a2 a3 : Value} (h : Blk w k a0 a1 a2 a3) (o : Obj) : Blk (w.alloc o) k a0 a1 a2 a3 := h.later (below_new _ _)
theorem Blk.other {w : World} {k : Nat} {a0 a1 a2 a3 : Value} (h : Blk w k a0 a1 a2 a3) (a : Addr) (u : Value) (hk : k ≠ a.block) : Blk (w.setCell a u) k a0 a1 a2 a3 :=
  h.of_block (Below.heap_setCell _ _ _ _ hk)

/-- All four laid anew. -/
def put4 (w : World) (k : Nat) (b0 b1 b2 b3 : Value) : World := (((w.setCell ⟨k, 0, none⟩ b0).setCell ⟨k, 1, none⟩ b1).setCell ⟨k, 2, none⟩ b2).setCell ⟨k, 3, none⟩ b3

theorem Blk.put {w : World} {k : Nat} {a0 a1 a2 a3 : Value} (h : Blk w k a0 a1 a2 a3) (b0 b1 b2 b3 : Value) : Blk (put4 w k b0 b1 b2 b3) k b0 b1 b2 b3 := by
  have n01 : (⟨k, 0, none⟩ : Addr) ≠ ⟨k, 1, none⟩ := fun e => by cases e
  have n02 : (⟨k, 0, none⟩ : Addr) ≠ ⟨k, 2, none⟩ := fun e => by cases e
  have n03 : (⟨k, 0, none⟩ : Addr) ≠ ⟨k, 3, none⟩ := fun e => by cases e
  have n12 : (⟨k, 1, none⟩ : Addr) ≠ ⟨k, 2, none⟩ := fun e => by cases e
  have n13 : (⟨k, 1, none⟩ : Addr) ≠ ⟨k, 3, none⟩ := fun e => by cases e
  have n23 : (⟨k, 2, none⟩ : Addr) ≠ ⟨k, 3, none⟩ := fun e => by cases e
  unfold put4
  constructor
  · rw [World.cell?_setCell_other _ _ _ _ n03.symm, World.cell?_setCell_other _ _ _ _ n02.symm, World.cell?_setCell_other _ _ _ _ n01.symm, World.cell?_setCell_same _ _ _ h.c0]
  · rw [World.cell?_setCell_other _ _ _ _ n13.symm, World.cell?_setCell_other _ _ _ _ n12.symm, World.cell?_setCell_same _ _ _ (by rw [World.cell?_setCell_other _ _ _ _ n01]; exact h.c1)]
  · rw [World.cell?_setCell_other _ _ _ _ n23.symm, World.cell?_setCell_same _ _ _ (by rw [World.cell?_setCell_other _ _ _ _ n12, World.cell?_setCell_other _ _ _ _ n02]; exact h.c2)]
  · rw [World.cell?_setCell_same _ _ _ (by rw [World.cell?_setCell_other _ _ _ _ n23, World.cell?_setCell_other _ _ _ _ n13, World.cell?_setCell_other _ _ _ _ n03]; exact h.c3)]
  · simp only [World.frozen?_setCell]; exact h.f0
  · simp only [World.frozen?_setCell]; exact h.f1
  · simp only [World.frozen?_setCell]; exact h.f2
  · simp only [World.frozen?_setCell]; exact h.f3

theorem put4_block (w : World) (k : Nat) (b0 b1 b2 b3 : Value) (j : Nat) (hj : j ≠ k) : (put4 w k b0 b1 b2 b3).heap[j]? = w.heap[j]? := by
  unfold put4
  rw [Below.heap_setCell _ _ _ _ hj, Below.heap_setCell _ _ _ _ hj, Below.heap_setCell _ _ _ _ hj, Below.heap_setCell _ _ _ _ hj]
theorem put4_size (w : World) (k : Nat) (b0 b1 b2 b3 : Value) : (put4 w k b0 b1 b2 b3).heap.size = w.heap.size := by simp [put4]
theorem ExAt.put {P : Nat → Prop} {w : World} {x : Ex} {v : Value} (h : ExAt P w v x) (k : Nat) (b0 b1 b2 b3 : Value) (hl : ∀ i, P i → i ≠ k) : ExAt P (put4 w k b0 b1 b2 b3) v x :=
  h.later fun a' _ hp hc => ⟨by rw [cell_of_block (put4_block _ _ _ _ _ _ _ (hl _ hp))]; exact hc, hp⟩
theorem Rdr.put4 {w : World} {b : Nat} {s : Bs} {d : Nat} (h : Rdr w b s d) (k : Nat) (b0 b1 b2 b3 : Value) (hk : b ≠ k) : Rdr (put4 w k b0 b1 b2 b3) b s d := h.of_block (put4_block _ _ _ _ _ _ _ hk)
theorem Blk.put4 {w : World} {j : Nat} {a0 a1 a2 a3 : Value} (h : Blk w j a0 a1 a2 a3) (k : Nat) (b0 b1 b2 b3 : Value) (hk : j ≠ k) : Blk (put4 w k b0 b1 b2 b3) j a0 a1 a2 a3 := h.of_block (put4_block _ _ _ _ _ _ _ hk)
theorem put4_beside (w : World) (k : Nat) (b0 b1 b2 b3 : Value) : Beside k w (put4 w k b0 b1 b2 b3) :=
  (((Beside.set (a := ⟨k, 0, none⟩) w rfl b0).trans (Beside.set (a := ⟨k, 1, none⟩) _ rfl b1)).trans (Beside.set (a := ⟨k, 2, none⟩) _ rfl b2)).trans (Beside.set (a := ⟨k, 3, none⟩) _ rfl b3)
/-- Into a block that is new since w. -/
theorem Beside.putNew {b : Nat} {w w' : World} (h : Beside b w w') (hb : b < w.heap.size) {k : Nat} (ha : w.heap.size ≤ k) (b0 b1 b2 b3 : Value) : Beside b w (put4 w' k b0 b1 b2 b3) :=
  (((h.setNew hb (a := ⟨k, 0, none⟩) ha b0).setNew hb (a := ⟨k, 1, none⟩) ha b1).setNew hb (a := ⟨k, 2, none⟩) ha b2).setNew hb (a := ⟨k, 3, none⟩) ha b3
end Go.Proofs.YtkaclahcpmogaaaGreatDoor

namespace Go.Proofs.YtkaclahcpmogaaaGreatDoor
open Go.ChangeShapes Go.WideShapes Go.ChangeAt Go.RowKit
set_option linter.unusedVariables false
set_option linter.unusedSimpArgs false

/-- The reader, with another text left. -/
theorem Rdr.put {w : World} {b : Nat} {s : Bs} {d : Nat} (h : Rdr w b s d) (t : Bs) : Rdr (w.setCell ⟨b, 0, none⟩ (.string (bs t))) b t d := by
  have h0 := h.c0; have h1 := h.c1; have f0 := h.f0; have f1 := h.f1
  constructor
  · exact World.cell?_setCell_same _ _ _ h0
  · rw [← h1]; exact World.cell?_setCell_other _ _ _ _ (fun e => by cases e)
  · rw [World.frozen?_setCell]; exact f0
  · rw [World.frozen?_setCell]; exact f1

theorem Rdr.deep {w : World} {b : Nat} {s : Bs} {d : Nat} (h : Rdr w b s d) (n : Nat) : Rdr (w.setCell ⟨b, 1, none⟩ (.int .i64 n)) b s n := by
  have h0 := h.c0; have h1 := h.c1; have f0 := h.f0; have f1 := h.f1
  constructor
  · rw [← h0]; exact World.cell?_setCell_other _ _ _ _ (fun e => by cases e)
  · exact World.cell?_setCell_same _ _ _ h1
  · rw [World.frozen?_setCell]; exact f0
  · rw [World.frozen?_setCell]; exact f1

set_option maxHeartbeats 400000 in
theorem skip_any (b : Nat) (s : Bs) (d : Nat) (w : World) (h : Rdr w b s d) :
    Calls Tryz.prog 96 #[.pointer (some ⟨b, 0, none⟩)] w fun e w' => e = .returned (.tuple #[]) ∧ Beside b w w' ∧ Rdr w' b (skipP s) d := by
  have T := fun W => Tryz.strings_TrimLeft_one (bs s) 32 (by decide) W
  simp only [bs_list] at T
  have h0 := h.c0
  have f0 := h.f0
  go_enter Tryz.func96, Tryz.ntmps96
  go_wp2_with (go_at_call 104; refine (T _).mono ?_; rintro e w' ⟨rfl, rfl⟩)
  go_end0
  exact ⟨rfl, Beside.set (a := ⟨b, 0, none⟩) _ rfl _, h.put _⟩

set_option maxHeartbeats 400000 in
theorem took_any (b : Nat) (s t : Bs) (d : Nat) (w : World) (h : Rdr w b s d) :
    Calls Tryz.prog 105 #[.pointer (some ⟨b, 0, none⟩), .string (bs t)] w fun e w' => e = .returned (.bool (tookP s t).2) ∧ Beside b w w' ∧ Rdr w' b (tookP s t).1 d := by
  have T := fun W => Tryz.strings_CutPrefix (bs (skipP s)) (bs t) W
  simp only [bs_list] at T
  go_enter Tryz.func105, Tryz.ntmps105
  go_wp2_with (first | (go_at_call 96; refine (skip_any b s d _ h).mono ?_; rintro e w1 ⟨rfl, hb1, h1⟩; have c0 := h1.c0; have f0 := h1.f0) | (go_at_call 112; refine (T _).mono ?_; rintro e w' ⟨rfl, rfl⟩))
  go_ret
  exact ⟨rfl, hb1.trans (Beside.set (a := ⟨b, 0, none⟩) _ rfl _), h1.put _⟩

theorem signs_len : ∀ k : Fin 7, True := fun _ => trivial
end Go.Proofs.YtkaclahcpmogaaaGreatDoor

namespace Go.Proofs.YtkaclahcpmogaaaGreatDoor
open Go.ChangeShapes Go.WideShapes Go.ChangeAt Go.RowKit
set_option linter.unusedVariables false
set_option linter.unusedSimpArgs false

def Full : Prop := True
def Nums (w : World) : Prop := (∃ ev, w.cell? ⟨4, 0, none⟩ = some ev ∧ (ev = .nilIface ∨ ∃ te pe, ev = .iface te pe)) ∧ ∃ ev, w.cell? ⟨5, 0, none⟩ = some ev ∧ (ev = .nilIface ∨ ∃ te pe, ev = .iface te pe)

/-- What the listed variables hold. -/
structure Tab (w : World) : Prop where
  signs : ∀ i : Nat, i < 7 → w.cell? ⟨0, i, none⟩ = some (.string (bs (signOf (5 + i))))
  nums : Full → Nums w

/-- All listed variables lie below this block. -/
def gtop : Nat := max (0 + 1) (max (4 + 1) (5 + 1))

theorem Tab.low {B : Nat} {w w' : World} (T : Tab w) (hb : Below B w w') (hl : gtop ≤ B) : Tab w' := by
  have l1 : 0 < B := by unfold gtop at hl; omega
  have l3 : 4 < B := by unfold gtop at hl; omega
  have l4 : 5 < B := by unfold gtop at hl; omega
  refine ⟨fun i hi => ?_, fun h => ⟨?_, ?_⟩⟩
  · rw [cell_of_block (hb.block _ l1)]; exact T.signs i hi
  · obtain ⟨ev, h1, h2⟩ := (T.nums h).1; exact ⟨ev, by rw [cell_of_block (hb.block _ l3)]; exact h1, h2⟩
  · obtain ⟨ev, h1, h2⟩ := (T.nums h).2; exact ⟨ev, by rw [cell_of_block (hb.block _ l4)]; exact h1, h2⟩

theorem Tab.size {w : World} (T : Tab w) : gtop ≤ w.heap.size := by
  have l1 := block_lt_of_cell (T.signs 0 (by omega))
  obtain ⟨_, h3, _⟩ := (T.nums trivial).1
  obtain ⟨_, h4, _⟩ := (T.nums trivial).2
  have l3 := block_lt_of_cell h3
  have l4 := block_lt_of_cell h4
  unfold gtop
  simp only at l1 l3 l4
  omega

/-- A word by itself. -/
def wordS (s : Bs) : Bool := s.all runB && wordP s

/-- What may be read here: where Full doesn't hold, words alone. -/
def Lim (s : Bs) : Prop := s.length ≤ 35184372088832 ∧ (Full ∨ wordS s = true)
def Lim0 (s : Bs) : Prop := Full ∨ wordS s = true ∨ s = []

/-- The signs that are looked for. -/
def Tok (t : Bs) : Prop := t = [45] ∨ t = [40] ∨ t = [46] ∨ t = [41] ∨ ∃ k, t = signOf k

theorem Tok.head {t : Bs} (h : Tok t) : ∃ c r, t = c :: r ∧ runB c = false ∧ c ≠ 32 := by
  rcases h with rfl | rfl | rfl | rfl | ⟨k, rfl⟩
  · exact ⟨_, _, rfl, by decide, by decide⟩
  · exact ⟨_, _, rfl, by decide, by decide⟩
  · exact ⟨_, _, rfl, by decide, by decide⟩
  · exact ⟨_, _, rfl, by decide, by decide⟩
  · unfold signOf
    repeat (split; · exact ⟨_, _, rfl, by decide, by decide⟩)
    exact ⟨_, _, rfl, by decide, by decide⟩

theorem skip_run {c : UInt8} {r : Bs} (h : runB c = true) : skipP (c :: r) = c :: r := by
  have hc : c ≠ 32 := by rintro rfl; exact absurd h (by decide)
  have hb : (c == 32) = false := by rw [beq_eq_false_iff_ne]; exact hc
  unfold skipP Go.Lib.trimLeftB
  simp [List.dropWhile, hb]

theorem took_none {s t : Bs} (hs : wordS s = true ∨ s = []) (ht : Tok t) : tookP s t = (s, false) := by
  obtain ⟨c, r, rfl, hc, _⟩ := ht.head
  rcases hs with hs | rfl
  · cases s with
    | nil => exact absurd hs (by decide)
    | cons a l =>
      unfold wordS at hs
      simp only [List.all_cons, Bool.and_eq_true] at hs
      have ha := hs.1.1
      have hca : (c == a) = false := by
        rw [beq_eq_false_iff_ne]
        rintro rfl
        rw [hc] at ha; cases ha
      have hp : Go.Lib.hasPrefix (a :: l) (c :: r) = false := by
        unfold Go.Lib.hasPrefix
        simp [List.isPrefixOf, hca]
      unfold tookP Go.Lib.trimPrefix
      rw [skip_run ha, hp]
      rfl
  · rfl

theorem full_of_took0 {s t : Bs} (h : Lim0 s) (ht : Tok t) (hp : (tookP s t).2 = true) : Full := by
  rcases h with h | h
  · exact h
  · rw [took_none h ht] at hp; cases hp

theorem Lim.zero {s : Bs} (h : Lim s) : Lim0 s := h.2.imp id .inl

theorem full_of_took {s t : Bs} (h : Lim s) (ht : Tok t) (hp : (tookP s t).2 = true) : Full := full_of_took0 h.zero ht hp

theorem full_of_took2 {s : Bs} (h : Lim s) (hp : (tookP (tookP s [45]).1 [40]).2 = true) : Full := by
  rcases h.zero with h | h
  · exact h
  · rw [took_none h (.inl rfl)] at hp
    rw [took_none h (.inr (.inl rfl))] at hp; cases hp

theorem took3 {s : Bs} (h : wordS s = true) : (tookP (tookP (tookP s [45]).1 [40]).1 [46]).1 = s := by
  rw [took_none (.inl h) (.inl rfl), took_none (.inl h) (.inr (.inl rfl)), took_none (.inl h) (.inr (.inr (.inl rfl)))]

theorem take_all : ∀ {s : Bs}, s.all runB = true → s.takeWhile runB = s ∧ s.dropWhile runB = []
  | [], _ => ⟨rfl, rfl⟩
  | c :: l, h => by
    simp only [List.all_cons, Bool.and_eq_true] at h
    obtain ⟨h1, h2⟩ := take_all h.2
    simp [List.takeWhile, List.dropWhile, h.1, h1, h2]

theorem run_word {s : Bs} (h : Lim s) : Full ∨ wordP ((tookP (tookP (tookP s [45]).1 [40]).1 [46]).1.takeWhile runB) = true := by
  rcases h.2 with h | h
  · exact .inl h
  · right
    rw [took3 h]
    have h' := h
    unfold wordS at h'
    simp only [Bool.and_eq_true] at h'
    rw [(take_all h'.1).1]
    exact h'.2

theorem between_none (s : Bs) (h : wordS s = true ∨ s = []) : ∀ ks : List Nat, betweenP ks s = (none, s)
  | [] => rfl
  | k :: ks => by
    unfold betweenP
    rw [took_none h (.inr (.inr (.inr (.inr ⟨k, rfl⟩))))]
    simpa using between_none s h ks

theorem between_full (ks : List Nat) (s : Bs) (h : Lim0 s) (k : Nat) (hk : (betweenP ks s).1 = some k) : Full := by
  rcases h with h | h
  · exact h
  · rw [between_none s h] at hk; cases hk

theorem rowGo_lim (p : Rd) (ks : List Nat) (f : Nat) (x y : Ex) (s s' : Bs) (e : rowGo p ks f x s = some (y, s')) (h : Lim0 s) : Lim0 s' := by
  rcases h with h | h
  · exact .inl h
  · cases f with
    | zero => cases e
    | succ f =>
      unfold rowGo at e
      rw [between_none s h] at e
      cases e
      exact .inr h
end Go.Proofs.YtkaclahcpmogaaaGreatDoor

namespace Go.Proofs.YtkaclahcpmogaaaGreatDoor
open Go.ChangeShapes Go.WideShapes Go.ChangeAt Go.RowKit
set_option linter.unusedVariables false
set_option linter.unusedSimpArgs false

/-- Kinds in memory, behind block b. -/
def KindsAt (b : Nat) (w : World) (v : Value) (ks : List Nat) : Prop :=
  ∃ kb, v = .slice (some ⟨kb, 0, none⟩) ks.length ks.length ∧ b < kb ∧ ∀ (i k : Nat), ks[i]? = some k → w.cell? ⟨kb, i, none⟩ = some (.int .i64 k)

theorem KindsAt.beside {b : Nat} {w w' : World} {v : Value} {ks : List Nat} (h : KindsAt b w v ks) (hb : Beside b w w') : KindsAt b w' v ks := by
  obtain ⟨kb, rfl, hl, hc⟩ := h
  exact ⟨kb, rfl, hl, fun i k hk => hb.cell (hc i k hk) (by simp; omega)⟩

theorem sign_any (k : Nat) (h5 : 5 ≤ k) (h11 : k ≤ 11) (w : World) (T : Tab w) :
    Calls Tryz.prog 106 #[.int .i64 k] w fun e w' => e = .returned (.string (bs (signOf k))) ∧ w' = w := by
  have c := T.signs (k - 5) (by omega)
  rw [show 5 + (k - 5) = k by omega] at c
  go_enter Tryz.func106, Tryz.ntmps106
  go_wp2
  go_ret
  exact ⟨rfl, rfl⟩

theorem Tab.later {w w' : World} (T : Tab w) (hb : Below w.heap.size w w') : Tab w' := T.low hb T.size
theorem Tab.beside {b : Nat} {w w' : World} (T : Tab w) (hb : Beside b w w') (hl : gtop ≤ b) : Tab w' := T.low hb.below hl

theorem betweenP_step {ks : List Nat} {j k : Nat} (h : ks[j]? = some k) (s : Bs) : betweenP (ks.drop j) s = if (tookP s (signOf k)).2 then (some k, (tookP s (signOf k)).1) else betweenP (ks.drop (j + 1)) (tookP s (signOf k)).1 := by
  obtain ⟨h1, rfl⟩ := List.getElem?_eq_some_iff.1 h
  rw [List.drop_eq_getElem_cons h1]
  rfl

set_option maxHeartbeats 800000 in
theorem between_any (b : Nat) (v : Value) (ks : List Nat) (s : Bs) (d : Nat) (w : World) (hg : gtop ≤ b) (T : Tab w) (h : Rdr w b s d) (hk : KindsAt b w v ks) (hr : ∀ k ∈ ks, 5 ≤ k ∧ k ≤ 11) (hm : ks.length ≤ 2) :
    Calls Tryz.prog 102 #[.pointer (some ⟨b, 0, none⟩), v] w fun e w' => e = .returned (.tuple #[.int .i64 ((betweenP ks s).1.getD 0), .bool (betweenP ks s).1.isSome]) ∧ Beside b w w' ∧ Rdr w' b (betweenP ks s).2 d := by
  obtain ⟨kb, rfl, hl, hc⟩ := id hk
  go_enter Tryz.func102, Tryz.ntmps102
  go_wp2
  go_loopw [10] (fun i wr => ∃ (j : Nat) (s' : Bs), j ≤ ks.length ∧ i = .int .i64 j ∧ Beside b w wr ∧ Rdr wr b s' d ∧ Hid (betweenP (ks.drop j) s' = betweenP ks s)) (fun i _ => ks.length - (intOf i).toNat)
  case atStart => exact ⟨0, s, by omega, rfl, Beside.refl _ _, h, rfl⟩
  case round =>
    obtain ⟨j, s', hj, rfl, hb, hR, he⟩ := hrel
    by_cases hjn : j < ks.length
    · obtain ⟨k, hk1⟩ : ∃ k, ks[j]? = some k := ⟨_, List.getElem?_eq_getElem hjn⟩
      have ck := hb.cell (hc j k hk1) (by simp; omega)
      have hk5 := hr k (List.mem_of_getElem? hk1)
      have hst : Hid (_ = _) := betweenP_step hk1 s'
      have S := sign_any k hk5.1 hk5.2 wr (T.beside hb hg)
      have K := took_any b s' (signOf k) d wr hR
      have hjI : (j : Int) < (ks.length : Int) := by omega
      clear hc hk hr T h
      cases ht : (tookP s' (signOf k)).2 with
      | true =>
        rw [ht] at K
        go_wp2_with (first | (go_at_call 106; refine S.mono ?_; rintro e w' ⟨rfl, rfl⟩) | (go_at_call 105; refine K.mono ?_; rintro e w2 ⟨rfl, hb2, h2⟩))
        go_ret2
        have e := hst.out
        rw [he.out, if_pos ht] at e
        rw [e]
        exact ⟨rfl, hb.trans hb2, h2⟩
      | false =>
        rw [ht] at K
        go_wp2_with (first | (go_at_call 106; refine S.mono ?_; rintro e w' ⟨rfl, rfl⟩) | (go_at_call 105; refine K.mono ?_; rintro e w2 ⟨rfl, hb2, h2⟩))
        go_roundw
        case rel => exact ⟨j + 1, _, by omega, by go_num, hb.trans hb2, h2, by have e := hst.out; rw [he.out, if_neg (by simp [ht])] at e; exact e.symm⟩
        case measure => simp [intOf]; omega
    · have hjn : j = ks.length := by omega
      subst hjn
      have e := he.out
      rw [List.drop_length] at e
      go_wp2
      go_ret2
      rw [← e]
      exact ⟨rfl, hb, hR⟩
end Go.Proofs.YtkaclahcpmogaaaGreatDoor

namespace Go.Proofs.YtkaclahcpmogaaaGreatDoor
open Go.ChangeShapes Go.WideShapes Go.ChangeAt Go.RowKit
set_option linter.unusedVariables false
set_option linter.unusedSimpArgs false

/-- What a call that reads answers; what is told is new since n. -/
def Read (n b d : Nat) (W : World) (e : Ending) : Option (Ex × Bs) → Prop
  | none => ∃ v s, e = .returned (.tuple #[v, .bool false]) ∧ Rdr W b s d ∧ Four v
  | some (x, s) => ∃ v, e = .returned (.tuple #[v, .bool true]) ∧ Rdr W b s d ∧ ExAt (n ≤ ·) W v x

/-- The function g reads as p does. -/
def PartOk (b d : Nat) (g : FuncId) (p : Rd) : Prop :=
  ∀ (W : World) (s : Bs), Tab W → Rdr W b s d → Lim s → Calls Tryz.prog g #[.pointer (some ⟨b, 0, none⟩)] W fun e W' => Beside b W W' ∧ Read W.heap.size b d W' e (p s)

/-- What it leaves is no longer. -/
def Shrinks (p : Rd) : Prop := ∀ s x s', p s = some (x, s') → s'.length ≤ s.length ∧ (Lim s → Lim0 s')

set_option maxHeartbeats 1600000 in
theorem row_none (b d : Nat) (hg : gtop ≤ b) (g : FuncId) (eg : ∀ args w, (callFunc g args).run Tryz.prog w = .ok (.enter g args) w) (p : Rd) (hp : PartOk b d g p) (v : Value) (ks : List Nat)
    (w : World) (s : Bs) (T : Tab w) (h : Rdr w b s d) (hk : KindsAt b w v ks) (hl : Lim s) (hps : p s = none) :
    Calls Tryz.prog 94 #[.pointer (some ⟨b, 0, none⟩), .func (.func g) #[.pointer (some ⟨b, 0, none⟩)] #[], v] w fun e w' => Beside b w w' ∧ Read w.heap.size b d w' e none := by
  obtain ⟨kb, rfl, hkb, hc⟩ := id hk
  have hb0 := below_new w (.cells #[.int .i64 0, .int .i64 0, .string ⟨#[]⟩, .slice none 0 0] 107)
  have R0 := Blk.new w 107 (.int .i64 0) (.int .i64 0) (.string ⟨#[]⟩) (.slice none 0 0)
  have C := hp _ s (T.later hb0) (h.later hb0) hl
  rw [hps] at C
  have hbw := h.lt
  clear hp hc hk
  go_enter Tryz.func94, Tryz.ntmps94
  go_wp2_with fail
  generalize w.alloc (.cells #[.int .i64 0, .int .i64 0, .string ⟨#[]⟩, .slice none 0 0] 107) = w0 at *
  refine C.mono ?_
  rintro e w1 ⟨hb1, v1, s1, rfl, hR1, k1, n1, t1, p1, l1, m1, rfl⟩
  have R1 := R0.beside hb1 (Nat.ne_of_gt hbw)
  obtain ⟨c0, c1, c2, c3, f0, f1, f2, f3⟩ := id R1
  have hlt := R1.lt
  clear C R0
  go_wp2
  refine wp_loop_rounds 1 ?_
  rw [rounds_succ]
  go_wp2
  have R2 := (R1.put (.int .i64 0) (.int .i64 0) (.string ⟨#[]⟩) (.slice none 0 0)).alloc (.cells #[.int .i64 k1, .int .i64 n1, .string t1, .slice p1 l1 m1] 107)
  obtain ⟨y0, y1, y2, y3, _, _, _, _⟩ := R2
  unfold put4 at y0 y1 y2 y3
  have hb2 := ((((Beside.of hb0 hbw).trans hb1).putNew hbw (Nat.le_refl _) (.int .i64 0) (.int .i64 0) (.string ⟨#[]⟩) (.slice none 0 0)).alloc hbw (.cells #[.int .i64 k1, .int .i64 n1, .string t1, .slice p1 l1 m1] 107))
  exact bodyPost_ret (v := .tuple #[.agg #[.int .i64 0, .int .i64 0, .string ⟨#[]⟩, .slice none 0 0], .bool false]) (by simp [results, Tryz.results94, go_sem, y0, y1, y2, y3]) rfl ⟨hb2, _, s1, rfl, (hR1.put4 _ _ _ _ _ (Nat.ne_of_lt hbw)).later (below_new _ _), _, _, _, _, _, _, rfl⟩

theorem betweenP_shrinks : ∀ (ks : List Nat) (s : Bs), (betweenP ks s).2.length ≤ s.length
  | [], s => Nat.le_refl _
  | k :: ks, s => by
    have hk : (skipP s).length ≤ s.length := List.Sublist.length_le (List.dropWhile_sublist _)
    have h1 : (tookP s (signOf k)).1.length ≤ s.length := by
      unfold tookP Go.Lib.trimPrefix
      simp only
      split
      · rw [List.length_drop]; omega
      · exact hk
    unfold betweenP
    split
    · exact h1
    · exact Nat.le_trans (betweenP_shrinks ks _) h1

theorem signOf_len (k : Nat) : 1 ≤ (signOf k).length := by
  unfold signOf
  repeat (split; · simp)
  simp

theorem betweenP_less : ∀ (ks : List Nat) (s : Bs) (k : Nat), (betweenP ks s).1 = some k → (betweenP ks s).2.length < s.length
  | [], s, k, h => by simp [betweenP] at h
  | k0 :: ks, s, k, h => by
    have hk : (skipP s).length ≤ s.length := List.Sublist.length_le (List.dropWhile_sublist _)
    unfold betweenP at h ⊢
    split
    · rename_i ht
      have hp : Go.Lib.hasPrefix (skipP s) (signOf k0) = true := ht
      have hle : (signOf k0).length ≤ (skipP s).length := by
        unfold Go.Lib.hasPrefix at hp
        exact (List.isPrefixOf_iff_prefix.1 hp).length_le
      have h1 := signOf_len k0
      show (Go.Lib.trimPrefix (skipP s) (signOf k0)).length < _
      unfold Go.Lib.trimPrefix
      rw [if_pos hp, List.length_drop]
      omega
    · rename_i ht
      rw [if_neg ht] at h
      have h1 : (tookP s (signOf k0)).1.length ≤ s.length := by
        unfold tookP Go.Lib.trimPrefix
        simp only
        split
        · rw [List.length_drop]; omega
        · exact hk
      exact Nat.lt_of_lt_of_le (betweenP_less ks _ k h) h1

theorem rowGo_shrinks {p : Rd} (hs : Shrinks p) (ks : List Nat) : ∀ (f : Nat) (x y : Ex) (s s' : Bs), rowGo p ks f x s = some (y, s') → s'.length ≤ s.length
  | 0, _, _, _, _, h => by cases h
  | f + 1, x, y, s, s', h => by
    have hb := betweenP_shrinks ks s
    unfold rowGo at h
    split at h
    · rename_i s1 he
      rw [he] at hb
      cases h
      exact hb
    · rename_i k s1 he
      rw [he] at hb
      split at h
      · cases h
      · rename_i z s2 hz
        have h1 := (hs _ _ _ hz).1
        have h2 := rowGo_shrinks hs ks f _ _ _ _ h
        simp only at hb
        omega

theorem rowP_shrinks {p : Rd} (hs : Shrinks p) (ks : List Nat) : Shrinks (rowP p ks) := by
  intro s x s' h
  unfold rowP at h
  split at h
  · cases h
  · rename_i y s1 hy
    exact ⟨Nat.le_trans (rowGo_shrinks hs ks _ _ _ _ _ h) (hs _ _ _ hy).1, fun hl => rowGo_lim p ks _ _ _ _ _ h ((hs _ _ _ hy).2 hl)⟩

/-- How much is left, for as long as it goes on. -/
def leftOf (b : Nat) (is : Value) (w : World) : Nat := match is, w.cell? ⟨b, 0, none⟩ with
  | .bool true, some (.string s) => s.size + 1
  | _, _ => 0

theorem leftOf_true {b : Nat} {w : World} {s : Bs} {d : Nat} (h : Rdr w b s d) : leftOf b (.bool true) w = s.length + 1 := by
  unfold leftOf; rw [h.c0]; simp [bs_size]
theorem leftOf_false (b : Nat) (w : World) : leftOf b (.bool false) w = 0 := by
  unfold leftOf; split <;> simp_all

theorem after_round {b : Nat} {w w1 w2 w4 : World} {k4 n4 t4 q4 b0 b1 b2 b3 : Value} {o : Obj} {r0 r1 r2 r3 : Value} (hbw : b < w.heap.size) (hne : w.heap.size < w1.heap.size) (hsz2 : w1.heap.size < w2.heap.size) (hb4 : Beside b w w4)
    (R4 : Blk w4 w.heap.size r0 r1 r2 r3) :
    Beside b w ((put4 (put4 w4 w2.heap.size k4 n4 t4 q4) w1.heap.size b0 b1 b2 b3).alloc o) ∧ Blk ((put4 (put4 w4 w2.heap.size k4 n4 t4 q4) w1.heap.size b0 b1 b2 b3).alloc o) w.heap.size r0 r1 r2 r3 ∧
      (w2.heap.size < w4.heap.size → w1.heap.size < ((put4 (put4 w4 w2.heap.size k4 n4 t4 q4) w1.heap.size b0 b1 b2 b3).alloc o).heap.size) := by
  refine ⟨((hb4.putNew hbw (by omega) _ _ _ _).putNew hbw (by omega) _ _ _ _).alloc hbw _, ((R4.put4 _ _ _ _ _ (by omega)).put4 _ _ _ _ _ (by omega)).alloc _, fun h => ?_⟩
  have e : ((put4 (put4 w4 w2.heap.size k4 n4 t4 q4) w1.heap.size b0 b1 b2 b3).alloc o).heap.size = w4.heap.size + 1 := by
    rw [show ((put4 (put4 w4 w2.heap.size k4 n4 t4 q4) w1.heap.size b0 b1 b2 b3).alloc o).heap.size = (put4 (put4 w4 w2.heap.size k4 n4 t4 q4) w1.heap.size b0 b1 b2 b3).heap.size + 1 by simp, put4_size, put4_size]
  omega

theorem round_ex {w w1 w2 w3 w4 : World} {k n k4 n4 : Int} {t t4 : ByteArray} {q p4 : Option Addr} {l m l4 m4 : Nat} {x y : Ex} (hne : w.heap.size < w1.heap.size) (hsz2 : w1.heap.size < w2.heap.size) (hl4 : w2.heap.size < w4.heap.size) (hsz3 : w2.heap.size < w3.heap.size)
    (hx : ExAt (fun i => (w.heap.size < i ∧ i ≠ w1.heap.size) ∧ i ≠ w2.heap.size) w4 (.agg #[.int .i64 k, .int .i64 n, .string t, .slice q l m]) x) (hy : ExAt (w3.heap.size ≤ ·) w4 (.agg #[.int .i64 k4, .int .i64 n4, .string t4, .slice p4 l4 m4]) y)
    {a0 a1 a2 a3 : Value} (X : Blk w4 w1.heap.size a0 a1 a2 a3) (kk : Nat) :
    Blk ((put4 (put4 w4 w2.heap.size (.int .i64 k4) (.int .i64 n4) (.string t4) (.slice p4 l4 m4)) w1.heap.size (.int .i64 kk) (.int .i64 0) (.string ⟨#[]⟩) (.slice (some ⟨w4.heap.size, 0, none⟩) 2 2)).alloc (.cells #[.int .i64 k, .int .i64 n, .string t, .slice q l m, .int .i64 k4, .int .i64 n4, .string t4, .slice p4 l4 m4] 107))
        w1.heap.size (.int .i64 kk) (.int .i64 0) (.string ⟨#[]⟩) (.slice (some ⟨w4.heap.size, 0, none⟩) 2 2) ∧
      ExAt (fun i => w.heap.size < i ∧ i ≠ w1.heap.size) ((put4 (put4 w4 w2.heap.size (.int .i64 k4) (.int .i64 n4) (.string t4) (.slice p4 l4 m4)) w1.heap.size (.int .i64 kk) (.int .i64 0) (.string ⟨#[]⟩) (.slice (some ⟨w4.heap.size, 0, none⟩) 2 2)).alloc (.cells #[.int .i64 k, .int .i64 n, .string t, .slice q l m, .int .i64 k4, .int .i64 n4, .string t4, .slice p4 l4 m4] 107))
        (.agg #[.int .i64 kk, .int .i64 0, .string ⟨#[]⟩, .slice (some ⟨w4.heap.size, 0, none⟩) 2 2]) (.two kk x y) := by
  refine ⟨((X.put4 _ _ _ _ _ (by omega)).put _ _ _ _).alloc _, ?_⟩
  have hy' := hy.imp (Q := fun i => (w.heap.size < i ∧ i ≠ w1.heap.size) ∧ i ≠ w2.heap.size) (fun i h1 _ => by omega)
  have fx := ((hx.put w2.heap.size (.int .i64 k4) (.int .i64 n4) (.string t4) (.slice p4 l4 m4) (fun i hi => hi.2)).put w1.heap.size (.int .i64 kk) (.int .i64 0) (.string ⟨#[]⟩) (.slice (some ⟨w4.heap.size, 0, none⟩) 2 2) (fun i hi => hi.1.2)).below (below_new _ (.cells #[.int .i64 k, .int .i64 n, .string t, .slice q l m, .int .i64 k4, .int .i64 n4, .string t4, .slice p4 l4 m4] 107))
  have fy := ((hy'.put w2.heap.size (.int .i64 k4) (.int .i64 n4) (.string t4) (.slice p4 l4 m4) (fun i hi => hi.2)).put w1.heap.size (.int .i64 kk) (.int .i64 0) (.string ⟨#[]⟩) (.slice (some ⟨w4.heap.size, 0, none⟩) 2 2) (fun i hi => hi.1.2)).below (below_new _ (.cells #[.int .i64 k, .int .i64 n, .string t, .slice q l m, .int .i64 k4, .int .i64 n4, .string t4, .slice p4 l4 m4] 107))
  have e : (put4 (put4 w4 w2.heap.size (.int .i64 k4) (.int .i64 n4) (.string t4) (.slice p4 l4 m4)) w1.heap.size (.int .i64 kk) (.int .i64 0) (.string ⟨#[]⟩) (.slice (some ⟨w4.heap.size, 0, none⟩) 2 2)).heap.size = w4.heap.size := by rw [put4_size, put4_size]
  have nc := fun i x h => new_cell (w := put4 (put4 w4 w2.heap.size (.int .i64 k4) (.int .i64 n4) (.string t4) (.slice p4 l4 m4)) w1.heap.size (.int .i64 kk) (.int .i64 0) (.string ⟨#[]⟩) (.slice (some ⟨w4.heap.size, 0, none⟩) 2 2)) (t := 107) #[.int .i64 k, .int .i64 n, .string t, .slice q l m, .int .i64 k4, .int .i64 n4, .string t4, .slice p4 l4 m4] i x h
  rw [e] at nc
  refine ⟨w4.heap.size, _, _, _, _, _, _, _, _, rfl, ⟨by omega, by omega⟩, nc 0 _ rfl, nc 1 _ rfl, nc 2 _ rfl, nc 3 _ rfl, nc 4 _ rfl, nc 5 _ rfl, nc 6 _ rfl, nc 7 _ rfl, fx.imp fun i hi _ => hi.1, fy.imp fun i hi _ => hi.1⟩

set_option maxHeartbeats 3200000 in
theorem row_some (b d : Nat) (hg : gtop ≤ b) (g : FuncId) (eg : ∀ args w, (callFunc g args).run Tryz.prog w = .ok (.enter g args) w) (p : Rd) (hp : PartOk b d g p) (hs : Shrinks p) (v : Value) (ks : List Nat) (hr : ∀ k ∈ ks, 5 ≤ k ∧ k ≤ 11) (hm : ks.length ≤ 2)
    (w : World) (s : Bs) (T : Tab w) (h : Rdr w b s d) (hk : KindsAt b w v ks) (hl : Lim s) (x : Ex) (s1 : Bs) (hps : p s = some (x, s1)) :
    Calls Tryz.prog 94 #[.pointer (some ⟨b, 0, none⟩), .func (.func g) #[.pointer (some ⟨b, 0, none⟩)] #[], v] w fun e w' => Beside b w w' ∧ Read w.heap.size b d w' e (rowGo p ks (s1.length + 1) x s1) := by
  obtain ⟨kb, rfl, hkb, hc⟩ := id hk
  have hb0 := below_new w (.cells #[.int .i64 0, .int .i64 0, .string ⟨#[]⟩, .slice none 0 0] 107)
  have R0 := Blk.new w 107 (.int .i64 0) (.int .i64 0) (.string ⟨#[]⟩) (.slice none 0 0)
  have C := hp _ s (T.later hb0) (h.later hb0) hl
  rw [hps] at C
  have hbw := h.lt
  have hs1 := hs _ _ _ hps
  replace hs1 : s1.length ≤ s.length ∧ Lim0 s1 := ⟨hs1.1, hs1.2 hl⟩
  have hlen := hl.1
  have hw0 : w.heap.size < (w.alloc (.cells #[.int .i64 0, .int .i64 0, .string ⟨#[]⟩, .slice none 0 0] 107)).heap.size := by simp
  clear hc
  go_enter Tryz.func94, Tryz.ntmps94
  go_wp2_with fail
  generalize w.alloc (.cells #[.int .i64 0, .int .i64 0, .string ⟨#[]⟩, .slice none 0 0] 107) = w0 at *
  refine C.mono ?_
  rintro e w1 ⟨hb1, v1, rfl, hR1, hx⟩
  obtain ⟨k1, n1, t1, p1, l1, m1, rfl⟩ := hx.form
  have R1 := R0.beside hb1 (Nat.ne_of_gt hbw)
  have hlt := R1.lt
  have X1 := Blk.new w1 107 (.int .i64 k1) (.int .i64 n1) (.string t1) (.slice p1 l1 m1)
  have hbw1 := (Beside.of hb0 hbw).trans hb1
  have hbX := hbw1.alloc hbw (.cells #[.int .i64 k1, .int .i64 n1, .string t1, .slice p1 l1 m1] 107)
  have hxX := (hx.imp (Q := fun k => w.heap.size < k ∧ k ≠ w1.heap.size) (fun k h1 h2 => ⟨Nat.lt_of_lt_of_le hw0 h1, Nat.ne_of_lt h2⟩)).below (below_new w1 (.cells #[.int .i64 k1, .int .i64 n1, .string t1, .slice p1 l1 m1] 107))
  have hRX := hR1.later (below_new w1 (.cells #[.int .i64 k1, .int .i64 n1, .string t1, .slice p1 l1 m1] 107))
  have RX := R1.alloc (.cells #[.int .i64 k1, .int .i64 n1, .string t1, .slice p1 l1 m1] 107)
  have hne : w.heap.size < w1.heap.size := hlt
  clear C R0 hx hb1 R1 hR1
  go_wp2_with fail
  go_loopw [9] (fun is wr => Beside b w wr ∧ Blk wr w.heap.size (.int .i64 0) (.int .i64 0) (.string ⟨#[]⟩) (.slice none 0 0) ∧ w1.heap.size < wr.heap.size ∧
      ((is = .bool true ∧ ∃ (k n : Int) (t : ByteArray) (q : Option Addr) (l m : Nat) (x' : Ex) (s' : Bs) (f : Nat), Blk wr w1.heap.size (.int .i64 k) (.int .i64 n) (.string t) (.slice q l m) ∧
          ExAt (fun i => w.heap.size < i ∧ i ≠ w1.heap.size) wr (.agg #[.int .i64 k, .int .i64 n, .string t, .slice q l m]) x' ∧ Rdr wr b s' d ∧ (s'.length ≤ s.length ∧ Lim0 s') ∧ s'.length < f ∧ Hid (rowGo p ks f x' s' = rowGo p ks (s1.length + 1) x s1)) ∨
       (is = .bool false ∧ (∃ s', Rdr wr b s' d) ∧ Hid (rowGo p ks (s1.length + 1) x s1 = none)))) (fun is wr => leftOf b is wr)
  case atStart => exact ⟨hbX, RX, by simp, .inl ⟨rfl, k1, n1, t1, p1, l1, m1, x, s1, s1.length + 1, X1, hxX, hRX, hs1, by omega, rfl⟩⟩
  case round =>
    obtain ⟨hb, R, hXl, ⟨rfl, k, n, t, q, l, m, x', s', f, X, hx, hR, hs', hf, he⟩ | ⟨rfl, ⟨s', hR⟩, he⟩⟩ := hrel
    · have B := between_any b _ ks s' d wr hg (T.beside hb hg) hR (hk.beside hb) hr hm
      have hbl := betweenP_less ks s'
      have hbf := fun k (hk : (betweenP ks s').1 = some k) => between_full ks s' hs'.2 k hk
      have hs'' := hs'.1
      have hbs := betweenP_shrinks ks s'
      obtain ⟨f, rfl⟩ : ∃ f', f = f' + 1 := ⟨f - 1, by omega⟩
      have hst : Hid (rowGo p ks (f + 1) x' s' = match betweenP ks s' with | (none, s1) => some (x', s1) | (some k, s1) => match p s1 with | none => none | some (y, s2) => rowGo p ks f (.two k x' y) s2) := rfl
      generalize betweenP ks s' = br at *
      obtain ⟨bk, s2⟩ := br
      cases bk with
      | none =>
        have heq : Hid (rowGo p ks (s1.length + 1) x s1 = some (x', s2)) := he.out.symm.trans hst.out
        have hlt := R.lt
        go_wp2_with (go_at_call 102; refine B.mono ?_; rintro e w2 ⟨rfl, hb2, hR2⟩; have X2 := X.beside hb2 (by omega); have R2 := R.beside hb2 (by omega); obtain ⟨x0, x1, x2, x3, _, _, _, _⟩ := id X2; obtain ⟨c0, c1, c2, c3, f0, f1, f2, f3⟩ := id R2; have hl2 := R2.lt)
        have R3 := R2.put (.int .i64 k) (.int .i64 n) (.string t) (.slice q l m)
        obtain ⟨y0, y1, y2, y3, _, _, _, _⟩ := R3
        have hx3 := (hx.beside hb2 (fun i hi => by have := hi.1; omega)).put w.heap.size (.int .i64 k) (.int .i64 n) (.string t) (.slice q l m) (fun i hi => Nat.ne_of_gt hi.1)
        have hb3 := (hb.trans hb2).putNew hbw (Nat.le_refl _) (.int .i64 k) (.int .i64 n) (.string t) (.slice q l m)
        have hR3 := hR2.put4 w.heap.size (.int .i64 k) (.int .i64 n) (.string t) (.slice q l m) (Nat.ne_of_lt hbw)
        unfold put4 at y0 y1 y2 y3
        exact bodyPost_ret (v := .tuple #[.agg #[.int .i64 k, .int .i64 n, .string t, .slice q l m], .bool true]) (by simp [results, Tryz.results94, go_sem, y0, y1, y2, y3]) rfl (by
          rw [heq.out]
          exact ⟨hb3, _, rfl, hR3, hx3.imp fun i hi _ => Nat.le_of_lt hi.1⟩)
      | some kk =>
        have hlt := R.lt
        have hs2 : s2.length < s'.length := hbl kk rfl
        go_wp2_with (go_at_call 102; refine B.mono ?_; rintro e w2 ⟨rfl, hb2, hR2⟩)
        have hbn := below_new w2 (.cells #[.int .i64 0, .int .i64 0, .string ⟨#[]⟩, .slice none 0 0] 107)
        have hT2 := ((T.beside hb hg).beside hb2 hg).later hbn
        have hF2 : Full := hbf kk rfl
        have C := hp _ s2 hT2 (hR2.later hbn) ⟨by omega, .inl hF2⟩
        have Y2 := Blk.new w2 107 (.int .i64 0) (.int .i64 0) (.string ⟨#[]⟩) (.slice none 0 0)
        have X2 := (X.beside hb2 (by omega)).later hbn
        have R2 := (R.beside hb2 (by omega)).later hbn
        have hx2 := (hx.beside hb2 (fun i hi => by have := hi.1; omega)).below hbn
        have hbw2 := (hb.trans hb2).alloc hbw (.cells #[.int .i64 0, .int .i64 0, .string ⟨#[]⟩, .slice none 0 0] 107)
        have hsz2 : w1.heap.size < w2.heap.size := Nat.lt_of_lt_of_le hXl hb2.size
        have hsz3 : w2.heap.size < (w2.alloc (.cells #[.int .i64 0, .int .i64 0, .string ⟨#[]⟩, .slice none 0 0] 107)).heap.size := by simp
        have hxlt : ∀ i, (w.heap.size < i ∧ i ≠ w1.heap.size) → i < w2.heap.size → i ≠ w2.heap.size := fun i _ h => Nat.ne_of_lt h
        have hx2' := (hx.beside hb2 (fun i hi => by have := hi.1; omega)).imp (Q := fun i => (w.heap.size < i ∧ i ≠ w1.heap.size) ∧ i ≠ w2.heap.size) (fun i h1 h2 => ⟨h1, Nat.ne_of_lt h2⟩)
        replace hx2 := hx2'.below hbn
        have hleft : Hid (leftOf b (.bool true) wr = s'.length + 1) := leftOf_true hR
        clear hx2' hxlt B X R hx hR hb hb2 hR2 hT2 hbn
        generalize w2.alloc (.cells #[.int .i64 0, .int .i64 0, .string ⟨#[]⟩, .slice none 0 0] 107) = w3 at *
        cases hpp : p s2 with
        | none =>
          rw [hpp] at C
          have heq : Hid (rowGo p ks (s1.length + 1) x s1 = none) := by
            have h2 := he.out.symm.trans hst.out
            simp only [hpp] at h2
            exact h2
          clear hst he
          refine C.mono ?_
          rintro e w4 ⟨hb4, v4, s4, rfl, hR4, k4, n4, t4, p4, l4, m4, rfl⟩
          have X4 := X2.beside hb4 (by omega)
          have R4 := R2.beside hb4 (by omega)
          have Y4 := Y2.beside hb4 (by omega)
          obtain ⟨x0, x1, x2, x3, g0, g1, g2, g3⟩ := id X4
          obtain ⟨y0, y1, y2, y3, f0, f1, f2, f3⟩ := id Y4
          have hl4 := Y4.lt
          have hl5 := X4.lt
          clear C X2 R2 Y2
          go_wp2
          go_roundw
          case rel => exact have hF := after_round (k4 := .int .i64 k4) (n4 := .int .i64 n4) (t4 := .string t4) (q4 := .slice p4 l4 m4) hbw hne hsz2 (hbw2.trans hb4) R4; ⟨hF.1, hF.2.1, hF.2.2 hl4, .inr ⟨rfl, ⟨s4, ((hR4.put4 w2.heap.size _ _ _ _ (by omega)).put4 w1.heap.size _ _ _ _ (by omega)).later (below_new _ _)⟩, heq⟩⟩
          case measure => rw [leftOf_false, hleft.out]; omega
        | some r =>
          obtain ⟨y, s3⟩ := r
          rw [hpp] at C
          have hs3 := (hs _ _ _ hpp).1
          have heq : Hid (rowGo p ks f (.two kk x' y) s3 = rowGo p ks (s1.length + 1) x s1) := by
            have h2 := he.out.symm.trans hst.out
            simp only [hpp] at h2
            exact h2.symm
          clear hst he
          refine C.mono ?_
          rintro e w4 ⟨hb4, v4, rfl, hR4, hy4⟩
          obtain ⟨k4, n4, t4, p4, l4, m4, rfl⟩ := hy4.form
          have X4 := X2.beside hb4 (by omega)
          have R4 := R2.beside hb4 (by omega)
          have Y4 := Y2.beside hb4 (by omega)
          have hx4 := hx2.beside hb4 (fun i hi => by have := hi.1.1; omega)
          obtain ⟨x0, x1, x2, x3, g0, g1, g2, g3⟩ := id X4
          obtain ⟨y0, y1, y2, y3, f0, f1, f2, f3⟩ := id Y4
          have hl4 := Y4.lt
          have hl5 := X4.lt
          clear C X2 R2 Y2 hx2
          go_wp2
          have hF := after_round (o := .cells #[.int .i64 k, .int .i64 n, .string t, .slice q l m, .int .i64 k4, .int .i64 n4, .string t4, .slice p4 l4 m4] 107) (k4 := .int .i64 k4) (n4 := .int .i64 n4) (t4 := .string t4) (q4 := .slice p4 l4 m4) (b0 := .int .i64 kk) (b1 := .int .i64 0) (b2 := .string ⟨#[]⟩) (b3 := .slice (some ⟨w4.heap.size, 0, none⟩) 2 2) hbw hne hsz2 (hbw2.trans hb4) R4
          have hE := round_ex hne hsz2 hl4 hsz3 hx4 hy4 X4 kk
          have hRR := ((hR4.put4 w2.heap.size (.int .i64 k4) (.int .i64 n4) (.string t4) (.slice p4 l4 m4) (by omega)).put4 w1.heap.size (.int .i64 kk) (.int .i64 0) (.string ⟨#[]⟩) (.slice (some ⟨w4.heap.size, 0, none⟩) 2 2) (by omega)).later (below_new _ (.cells #[.int .i64 k, .int .i64 n, .string t, .slice q l m, .int .i64 k4, .int .i64 n4, .string t4, .slice p4 l4 m4] 107))
          go_roundw
          case rel => exact ⟨hF.1, hF.2.1, hF.2.2 hl4, .inl ⟨rfl, _, _, _, _, _, _, .two kk x' y, s3, f, hE.1, hE.2, hRR, ⟨by omega, .inl hF2⟩, by omega, heq⟩⟩
          case measure => rw [hleft.out]; exact Nat.lt_of_le_of_lt (Nat.le_of_eq (leftOf_true hRR)) (by omega)
    · obtain ⟨c0, c1, c2, c3, f0, f1, f2, f3⟩ := id R
      have hlt := R.lt
      go_wp2
      have R3 := R.put (.int .i64 0) (.int .i64 0) (.string ⟨#[]⟩) (.slice none 0 0)
      obtain ⟨y0, y1, y2, y3, _, _, _, _⟩ := R3
      have hb3 := hb.putNew hbw (Nat.le_refl _) (.int .i64 0) (.int .i64 0) (.string ⟨#[]⟩) (.slice none 0 0)
      unfold put4 at y0 y1 y2 y3
      exact bodyPost_ret (v := .tuple #[.agg #[.int .i64 0, .int .i64 0, .string ⟨#[]⟩, .slice none 0 0], .bool false]) (by simp [results, Tryz.results94, go_sem, y0, y1, y2, y3]) rfl (by
          rw [he.out]
          exact ⟨hb3, _, s', rfl, hR.put4 _ _ _ _ _ (Nat.ne_of_lt hbw), _, _, _, _, _, _, rfl⟩)

theorem row_any (b d : Nat) (hg : gtop ≤ b) (g : FuncId) (eg : ∀ args w, (callFunc g args).run Tryz.prog w = .ok (.enter g args) w) (p : Rd) (hp : PartOk b d g p) (hs : Shrinks p) (v : Value) (ks : List Nat) (hr : ∀ k ∈ ks, 5 ≤ k ∧ k ≤ 11) (hm : ks.length ≤ 2)
    (w : World) (s : Bs) (T : Tab w) (h : Rdr w b s d) (hk : KindsAt b w v ks) (hl : Lim s) :
    Calls Tryz.prog 94 #[.pointer (some ⟨b, 0, none⟩), .func (.func g) #[.pointer (some ⟨b, 0, none⟩)] #[], v] w fun e w' => Beside b w w' ∧ Read w.heap.size b d w' e (rowP p ks s) := by
  unfold rowP
  cases hps : p s with
  | none => exact row_none b d hg g eg p hp v ks w s T h hk hl hps
  | some r => exact row_some b d hg g eg p hp hs v ks hr hm w s T h hk hl r.1 r.2 hps
end Go.Proofs.YtkaclahcpmogaaaGreatDoor
