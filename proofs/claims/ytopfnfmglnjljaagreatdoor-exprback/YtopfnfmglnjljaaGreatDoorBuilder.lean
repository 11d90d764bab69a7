/- The contracts of strings.Builder's methods, of a builder that lies in whatever block (in a field, too). -/
import Derived.Test.YtopfnfmglnjljaaGreatDoorLevels
import Derived.Lib.AppendStr
import Derived.Lib.OthersKept
import Derived.BigCall
namespace Go.Proofs.YtopfnfmglnjljaaGreatDoor
open Go.ChangeShapes Go.WideShapes Go.ChangeAt Go.RowKit
set_option linter.unusedVariables false
set_option linter.unusedSimpArgs false

/-- A block of that type holds a builder at its head. -/
def Heads (T : TypeId) : Prop := liesAt Tryz.prog Tryz.prog.depth T (2 / Tryz.prog.cellsOf T) 0 58 1 = true ∧ T ≠ 5
theorem heads_builder : Heads 58 := ⟨by kernel_rfl, by decide⟩
theorem heads_writer : Heads 60 := ⟨by kernel_rfl, by decide⟩

/-- The builder at k, in a block of type T, holds these bytes, in a row of its own behind k. -/
def Bld (T : TypeId) (k : Nat) (w : World) (l : Bs) : Prop :=
  ∃ p v, (p = .pointer none ∨ p = .pointer (some ⟨k, 0, none⟩)) ∧ w.heap[k]? = some (.cells #[p, v] T (0, 0)) ∧ w.ownsRow (k + 1) 5 1 v l.length (Lib.byteCells l)

theorem Bld.lt {T : TypeId} {k : Nat} {w : World} {l : Bs} (h : Bld T k w l) : k < w.heap.size := by
  obtain ⟨p, v, _, hb, _⟩ := h
  exact (Array.getElem?_eq_some_iff.1 hb).1

theorem infoB : ∃ j, Tryz.prog.info? 58 = some j ∧ j.size = 2 := by
  have h : (Tryz.prog.info? 58).map (·.size) = some 2 := by kernel_rfl
  rw [Option.map_eq_some_iff] at h
  exact h

set_option maxHeartbeats 800000 in
set_option maxRecDepth 100000 in
theorem copyCheck_any (T : TypeId) (hT : Heads T) (k : Nat) (p v : Value) (hp : p = .pointer none ∨ p = .pointer (some ⟨k, 0, none⟩)) (w : World) (hk : w.heap[k]? = some (.cells #[p, v] T (0, 0))) :
    Calls Tryz.prog 59 #[.pointer (some ⟨k, 0, none⟩)] w fun e w' => e = .returned (.tuple #[]) ∧ w'.heap[k]? = some (.cells #[.pointer (some ⟨k, 0, none⟩), v] T (0, 0)) ∧ (w' = w.setCell ⟨k, 0, none⟩ (.pointer (some ⟨k, 0, none⟩)) ∨ w' = w) := by
  obtain ⟨j, hj, hs⟩ := infoB
  have c0 : w.cell? ⟨k, 0, none⟩ = some p := by rw [Lib.cell_of_heap hk]; rfl
  have f0 : w.frozen? ⟨k, 0, none⟩ = false := Lib.frozen_of_heap hk 0
  have hsh : w.shape? k = some (T, 2) := by simp [World.shape?, hk]
  rcases hp with rfl | rfl
  · have h1 : (convert 56 113 (.pointer (some ⟨k, 0, none⟩))).run Tryz.prog w = .ok (.pointer (some ⟨k, 0, none⟩)) w := Lib.run_to_unsafe w _ Tryz.underlying56 Tryz.underlying113 hj (by omega) hsh (by simp)
    have h2 : (convert 113 56 (.pointer (some ⟨k, 0, none⟩))).run Tryz.prog w = .ok (.pointer (some ⟨k, 0, none⟩)) w := Lib.run_from_unsafe w _ Tryz.underlying113 Tryz.underlying56 hj hsh hT.1
    have h3 : ∀ x, (callFunc 76 #[x]).run Tryz.prog w = .ok (.value x) w := fun x => by rw [run_callFunc_extern Tryz.func76 (by kernel_rfl) (by kernel_rfl) (by kernel_rfl) (e := Extern.AbiNoEscape.same) (by kernel_rfl), Lib.run_noEscape]; rfl
    go_enter Tryz.func59, Tryz.ntmps59
    go_wp2
    go_end0
    refine ⟨rfl, ?_, .inl rfl⟩
    simp [World.setCell, Array.getElem?_modify, hk]
  · have h4 : ∀ W, (binOp .neq 56 (.pointer (some ⟨k, 0, none⟩)) (.pointer (some ⟨k, 0, none⟩))).run Tryz.prog W = .ok (.bool false) W := fun W => Lib.run_neq_ptr_same W _ Tryz.underlying56 hj
    go_enter Tryz.func59, Tryz.ntmps59
    go_wp2
    go_end0
    exact ⟨rfl, hk, .inr rfl⟩

theorem owns_of_block {w w' : World} {base : Nat} {e : TypeId} {v : Value} {n : Nat} {xs : List Value} (h : w.ownsRow base e 1 v n xs) (hb : ∀ g, base ≤ g → w'.heap[g]? = w.heap[g]?) : w'.ownsRow base e 1 v n xs := by
  refine ⟨h.1, ?_⟩
  rcases h.2 with hn | ⟨g, cap, cur, h1, h2, h3, h4⟩
  · exact .inl hn
  · exact .inr ⟨g, cap, cur, h1, h2, (hb g h2).trans h3, h4⟩

/-- Behind the copy check. -/
theorem checked {T : TypeId} {k : Nat} {p v : Value} {w w1 : World} (hk : w.heap[k]? = some (.cells #[p, v] T (0, 0))) (h : w1 = w.setCell ⟨k, 0, none⟩ (.pointer (some ⟨k, 0, none⟩)) ∨ w1 = w) :
    Below k w w1 ∧ Lib.OthersKept 5 (some k) w w1 ∧ ∀ g, k + 1 ≤ g → w1.heap[g]? = w.heap[g]? := by
  rcases h with rfl | rfl
  · exact ⟨(Below.refl _ _).setCell (p := ⟨k, 0, none⟩) (Nat.le_refl _) _, (Lib.OthersKept.refl _ _ _).setCell ⟨k, 0, none⟩ rfl _, fun g hg => Below.heap_setCell _ _ _ _ (by simp; omega)⟩
  · exact ⟨Below.refl _ _, Lib.OthersKept.refl _ _ _, fun _ _ => rfl⟩

theorem row_kind {w : World} {base : Nat} {e : TypeId} {v : Value} {n : Nat} {xs : List Value} (h : w.ownsRow base e 1 v n xs) : ∀ g, v.ownBlock = some g → base ≤ g ∧ ∃ c fz, w.heap[g]? = some (.cells c e fz) := by
  intro g hg
  rcases h.2 with ⟨rfl, _⟩ | ⟨g', cap, cur, rfl, h2, h3, _⟩
  · cases hg
  · cases hg; exact ⟨h2, _, _, h3⟩

theorem row_slice {w : World} {base : Nat} {e : TypeId} {v : Value} {n : Nat} {xs : List Value} (h : w.ownsRow base e 1 v n xs) : ∃ a c, v = .slice a n c := by
  rcases h.2 with ⟨rfl, rfl⟩ | ⟨g', cap, cur, rfl, _⟩
  · exact ⟨_, _, rfl⟩
  · exact ⟨_, _, rfl⟩

theorem infoU8 : (Tryz.prog.info? 5).map (fun i => (i.zero, i.size, i.bytes)) = some (some (.int .u8 0), 1, 1) := by kernel_rfl

theorem strCells_bs (s : Bs) : Lib.strCells (bs s) = Lib.byteCells s := by
  unfold Lib.strCells Lib.byteCells
  simp [bs]

set_option maxHeartbeats 2000000 in
set_option maxRecDepth 100000 in
theorem writeString_any (T : TypeId) (hT : Heads T) (k : Nat) (l s : Bs) (w : World) (h : Bld T k w l) (hlen : l.length + s.length ≤ 140737488355328) :
    Calls Tryz.prog 42 #[.pointer (some ⟨k, 0, none⟩), .string (bs s)] w fun e w' => e = .returned (.tuple #[.int .i64 s.length, .nilIface]) ∧ Bld T k w' (l ++ s) ∧ Below k w w' ∧ Lib.OthersKept 5 (some k) w w' := by
  have hsz : (bs s).size = s.length := bs_size s
  have hlt := h.lt
  obtain ⟨p, v, hp, hk, hown⟩ := h
  obtain ⟨i0, hi, hz0, hz1, hz2⟩ := info_parts infoU8
  have C := copyCheck_any T hT k p v hp w hk
  go_enter Tryz.func42, Tryz.ntmps42
  go_wp2_with (go_at_call 59; refine C.mono ?_)
  rintro e w1 ⟨rfl, hk1, hw1⟩
  obtain ⟨hb1, ho1, hbl⟩ := checked hk hw1
  have hown1 := owns_of_block hown hbl
  have c0 : w1.cell? ⟨k, 0, none⟩ = some (.pointer (some ⟨k, 0, none⟩)) := by rw [Lib.cell_of_heap hk1]; rfl
  have c1 : w1.cell? ⟨k, 1, none⟩ = some v := by rw [Lib.cell_of_heap hk1]; rfl
  have hsz1 := hb1.size
  clear hown C hw1
  go_wp2_with (at_builtin; refine Lib.wpList_append_own_string _ rfl _ _ 36 9 rfl (k + 1) 5 i0 Tryz.underlying36 Tryz.underlying9 hi hz0 hz1 hz2 _ _ _ rfl hown1 (bs s) rfl ?c3 ?c4 ?c5 ?_)
  case c3 => unfold maxLen; omega
  case c4 => omega
  case c5 => omega
  intro v' w2 hown' hgrow _
  have hk2 : w2.heap[k]? = some (.cells #[.pointer (some ⟨k, 0, none⟩), v] T (0, 0)) := by
    rw [hgrow.block k (by omega) (fun e => by have := (row_kind hown1 k e.symm).1; omega)]
    exact hk1
  have d1 : w2.cell? ⟨k, 1, none⟩ = some v := by rw [Lib.cell_of_heap hk2]; rfl
  have f1 : w2.frozen? ⟨k, 1, none⟩ = false := Lib.frozen_of_heap hk2 1
  rw [strCells_bs, ← Lib.byteCells_append] at hown'
  obtain ⟨a', c', rfl⟩ := row_slice hown'
  have hbk2 : Below k w w2 := hb1.grown hgrow (by omega) (fun g hg => by have := (row_kind hown1 g hg).1; omega)
  have hok2 := ho1.grown hgrow (fun g hg => (row_kind hown1 g hg).2)
  clear hown1 hgrow c0 c1
  go_wp2
  go_ret2
  refine ⟨rfl, ⟨.pointer (some ⟨k, 0, none⟩), _, .inr rfl, ?_, owns_of_block (w := w2) (by simpa using hown') (fun g hg => Below.heap_setCell _ _ _ _ (by simp; omega))⟩, hbk2.setCell (p := ⟨k, 1, none⟩) (Nat.le_refl _) _, hok2.setCell ⟨k, 1, none⟩ rfl _⟩
  simp [World.setCell, Array.getElem?_modify, hk2]

set_option maxHeartbeats 2000000 in
set_option maxRecDepth 100000 in
/-- One ASCII byte behind a row of the call's own. -/
theorem appendRune_any (base : Nat) (v : Value) (l : Bs) (c : UInt8) (hc : c.toNat < 128) (w : World) (hown : w.ownsRow base 5 1 v l.length (Lib.byteCells l)) (hlen : l.length + 1 ≤ 140737488355328) (hbase : base ≤ w.heap.size) :
    Calls Tryz.prog 125 #[v, .int .i32 c.toNat] w fun e w' => ∃ v', e = .returned v' ∧ w'.ownsRow base 5 1 v' (l ++ [c]).length (Lib.byteCells (l ++ [c])) ∧ ∃ o, (w.alloc o).grownBy w' v.ownBlock := by
  obtain ⟨i0, hi, hz0, hz1, hz2⟩ := info_parts infoU8
  have h1 : (c.toNat : Int) ≤ 127 := by omega
  have h0 : (0 : Int) ≤ (c.toNat : Int) := by omega
  have e1 : ((c.toNat : Int)) % 4294967296 = c.toNat := by omega
  have e2 : ((c.toNat : Int)) % 256 = c.toNat := by omega
  obtain ⟨a, cap, rfl⟩ := row_slice hown
  go_enter Tryz.func125, Tryz.ntmps125
  go_wp2_with (at_builtin; refine wpList_append_own _ rfl _ _ 36 rfl base 5 i0 (.int .u8 0) 1 1 Tryz.underlying36 hi hz0 hz1 hz2 rfl (by decide) _ _ _ rfl (hown.alloc _) ⟨w.heap.size, 0, none⟩ 1 1 [.int .u8 c.toNat] rfl rfl ?c1 ?c2 ?c3 ?c4 ?c5 ?_)
  case c1 =>
    intro j u hj
    match j, hj with
    | 0, hj => simp at hj; subst hj; simp [Addr.add]
  case c2 => intro u hu; simp at hu; subst hu; rfl
  case c3 => unfold maxLen; omega
  case c4 => omega
  case c5 => simp; omega
  intro v' w2 hown' hgrow _
  go_wp2
  go_ret
  refine ⟨v', rfl, ?_, _, hgrow⟩
  rw [Lib.byteCells_append, show Lib.byteCells [c] = [.int .u8 (c.toNat : Int)] from rfl]
  simpa using hown'

set_option maxHeartbeats 2000000 in
set_option maxRecDepth 100000 in
theorem writeRune_any (T : TypeId) (hT : Heads T) (k : Nat) (l : Bs) (c : UInt8) (hc : c.toNat < 128) (w : World) (h : Bld T k w l) (hlen : l.length + 1 ≤ 140737488355328) :
    Calls Tryz.prog 120 #[.pointer (some ⟨k, 0, none⟩), .int .i32 c.toNat] w fun e w' => e = .returned (.tuple #[.int .i64 1, .nilIface]) ∧ Bld T k w' (l ++ [c]) ∧ Below k w w' ∧ Lib.OthersKept 5 (some k) w w' := by
  have hlt := h.lt
  obtain ⟨p, v, hp, hk, hown⟩ := h
  have C := copyCheck_any T hT k p v hp w hk
  obtain ⟨a, cap, rfl⟩ := row_slice hown
  go_enter Tryz.func120, Tryz.ntmps120
  go_wp2_with (go_at_call 59; refine C.mono ?_)
  rintro e w1 ⟨rfl, hk1, hw1⟩
  obtain ⟨hb1, ho1, hbl⟩ := checked hk hw1
  have hown1 := owns_of_block hown hbl
  have c0 : w1.cell? ⟨k, 0, none⟩ = some (.pointer (some ⟨k, 0, none⟩)) := by rw [Lib.cell_of_heap hk1]; rfl
  have c1 : w1.cell? ⟨k, 1, none⟩ = some (.slice a l.length cap) := by rw [Lib.cell_of_heap hk1]; rfl
  have hsz1 := hb1.size
  have A := appendRune_any (k + 1) _ l c hc w1 hown1 hlen (by omega)
  clear hown C hw1
  go_wp2_with (go_at_call 125; refine A.mono ?_)
  rintro e w2 ⟨v', rfl, hown', o, hgrow⟩
  have hk2 : w2.heap[k]? = some (.cells #[.pointer (some ⟨k, 0, none⟩), .slice a l.length cap] T (0, 0)) := by
    rw [hgrow.block k (by simp; omega) (fun e => by have := (row_kind hown1 k e.symm).1; omega), Below.heap_alloc _ _ _ (by omega)]
    exact hk1
  have d1 : w2.cell? ⟨k, 1, none⟩ = some (.slice a l.length cap) := by rw [Lib.cell_of_heap hk2]; rfl
  have f1 : w2.frozen? ⟨k, 1, none⟩ = false := Lib.frozen_of_heap hk2 1
  obtain ⟨a', c', rfl⟩ := row_slice hown'
  have hl2 : (l ++ [c]).length = l.length + 1 := by simp
  have hrow : ∀ g, Value.ownBlock (.slice a l.length cap) = some g → ∃ c fz, (w1.alloc o).heap[g]? = some (.cells c 5 fz) := by
    intro g hg
    obtain ⟨h1, c2, fz, h2⟩ := row_kind hown1 g hg
    refine ⟨c2, fz, ?_⟩
    rw [Below.heap_alloc _ _ _ (Array.getElem?_eq_some_iff.1 h2).1]
    exact h2
  have hbk2 : Below k w w2 := (hb1.alloc (by omega) o).grown hgrow (by simp; omega) (fun g hg => by have := (row_kind hown1 g hg).1; omega)
  have hok2 := (ho1.alloc o).grown hgrow hrow
  have hlI : (l.length : Int) + 1 ≤ 140737488355328 := by omega
  rw [hl2] at hown'
  rw [hl2]
  have dlt : k < w2.heap.size := (Array.getElem?_eq_some_iff.1 hk2).1
  clear hown1 hgrow c0 c1 A hrow
  go_wp2
  have e1 : ((l.length : Int) + 1 - l.length) = 1 := by omega
  rw [e1]
  go_ret2
  refine ⟨rfl, ⟨.pointer (some ⟨k, 0, none⟩), _, .inr rfl, ?_, owns_of_block (w := w2) (by rw [hl2]; exact hown') (fun g hg => Below.heap_setCell _ _ _ _ (by simp; omega))⟩, hbk2.setCell (p := ⟨k, 1, none⟩) (Nat.le_refl _) _, hok2.setCell ⟨k, 1, none⟩ rfl _⟩
  simp [World.setCell, Array.getElem?_modify, hk2]

theorem Bld.is {T : TypeId} {k : Nat} {w : World} {l : Bs} (h : Bld T k w l) : Lib.IsBuilder T 5 k k (Lib.byteCells l) w := by
  obtain ⟨p, v, hp, hk, hown⟩ := h
  have h1 : w.ownsRow k 5 1 v (Lib.byteCells l).length (Lib.byteCells l) := by
    rw [Lib.byteCells_length]
    refine ⟨hown.1, ?_⟩
    rcases hown.2 with hn | ⟨g, cap, cur, h1, h2, h3⟩
    · exact .inl hn
    · exact .inr ⟨g, cap, cur, h1, by omega, h3⟩
  have h2 : v.ownBlock ≠ some k := fun e => by have := (row_kind hown k e).1; omega
  rcases hp with rfl | rfl
  · exact .inl ⟨Nat.le_refl _, v, hk, h1, h2⟩
  · exact .inr ⟨Nat.le_refl _, v, hk, h1, h2⟩

theorem Bld.new (w : World) (T : TypeId) : Bld T w.heap.size (w.alloc (.cells #[.pointer none, .slice none 0 0] T)) [] :=
  ⟨.pointer none, .slice none 0 0, .inl rfl, by show (w.heap.push _)[w.heap.size]? = _; simp, rfl, .inl ⟨rfl, rfl⟩⟩

/-- Where the builder's block and all rows behind it stay. -/
theorem Bld.of_blocks {T : TypeId} {k : Nat} {w w' : World} {l : Bs} (h : Bld T k w l) (hb : ∀ g c t fz, k ≤ g → w.heap[g]? = some (.cells c t fz) → w'.heap[g]? = some (.cells c t fz)) : Bld T k w' l := by
  obtain ⟨p, v, hp, hk, hown⟩ := h
  refine ⟨p, v, hp, hb k _ _ _ (Nat.le_refl _) hk, hown.1, ?_⟩
  rcases hown.2 with hn | ⟨g, cap, cur, h1, h2, h3, h4⟩
  · exact .inl hn
  · exact .inr ⟨g, cap, cur, h1, h2, hb g _ _ _ (by omega) h3, h4⟩
theorem Bld.alloc {T : TypeId} {k : Nat} {w : World} {l : Bs} (h : Bld T k w l) (o : Obj) : Bld T k (w.alloc o) l :=
  h.of_blocks fun g c t fz _ hg => by rw [Below.heap_alloc _ _ _ (Array.getElem?_eq_some_iff.1 hg).1]; exact hg
theorem Bld.iterAt {T : TypeId} {k : Nat} {w : World} {l : Bs} (h : Bld T k w l) {j : Nat} {s : ByteArray} {pos : Nat} (hj : w.heap[j]? = some (.stringIter s pos)) (pos' : Nat) : Bld T k (w.iterAt j s pos') l :=
  h.of_blocks fun g c t fz _ hg => by
    rw [Lib.iterAt_other _ _ _ _ _ (fun e => by subst e; rw [hj] at hg; cases hg)]; exact hg
end Go.Proofs.YtopfnfmglnjljaaGreatDoor
