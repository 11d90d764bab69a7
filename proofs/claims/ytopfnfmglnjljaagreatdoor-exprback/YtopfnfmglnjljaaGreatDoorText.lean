/- The contracts of the builder's String where it lies in a field; of write, child, Text. -/
import Derived.Test.YtopfnfmglnjljaaGreatDoorRun
import Derived.Test.YtopfnfmglnjljaaGreatDoorEval
namespace Go.Proofs.YtopfnfmglnjljaaGreatDoor
open Go.ChangeShapes Go.WideShapes Go.ChangeAt Go.RowKit
set_option linter.unusedVariables false
set_option linter.unusedSimpArgs false

set_option maxHeartbeats 1600000 in
set_option maxRecDepth 100000 in
theorem string_any (T : TypeId) (k : Nat) (l : Bs) (h0 : l ≠ []) (w : World) (h : Bld T k w l) :
    Calls Tryz.prog 26 #[.pointer (some ⟨k, 0, none⟩)] w fun e w' => e = .returned (.string (bs l)) ∧ Below k w w' := by
  obtain ⟨p, v, hp, hk, hown⟩ := h
  have hl0 : l.length ≠ 0 := by simpa using h0
  obtain ⟨g, cap, cur, rfl, hbg, hg, hnc, hcm, hcs, htake⟩ : ∃ g cap cur, v = .slice (some ⟨g, 0, none⟩) l.length cap ∧ k + 1 ≤ g ∧ w.heap[g]? = some (.cells cur 5 (0, 0)) ∧ l.length ≤ cap ∧ cap ≤ maxLen ∧ cur.size = cap * 1 ∧ cur.toList.take (l.length * 1) = Lib.byteCells l := by
    rcases hown.2 with ⟨_, hz⟩ | ⟨g, cap, cur, hv, r⟩
    · exact absurd hz hl0
    · exact ⟨g, cap, cur, hv, r⟩
  have c1 : w.drew.cell? ⟨k, 1, none⟩ = some (.slice (some ⟨g, 0, none⟩) l.length cap) := by
    have : w.drew.heap[k]? = some (.cells #[p, .slice (some ⟨g, 0, none⟩) l.length cap] T (0, 0)) := hk
    rw [Lib.cell_of_heap this]; rfl
  have hSD : (Builtin.unsafeSliceData_ #[36] 91 #[.slice (some ⟨g, 0, none⟩) l.length cap]).run Tryz.prog w.drew = .ok (.pointer (some ⟨g, 0, none⟩)) w.drew :=
    Lib.run_unsafeSliceData_row _ _ _ _ _ _ (by omega)
  have hUS : (Builtin.unsafeString_ #[91, 3] 9 #[.pointer (some ⟨g, 0, none⟩), .int .i64 l.length]).run Tryz.prog w.drew = .ok (.string ⟨l.toArray⟩) (w.drew.freeze ⟨g, 0, none⟩ l.length) := by
    refine Lib.run_unsafeString_row w.drew 91 3 9 5 Tryz.underlying91 (by kernel_rfl) g cur.size (by have hg' : w.drew.heap[g]? = some (.cells cur 5 (0, 0)) := hg; simp [World.shape?, hg']) l h0 (by omega) (by unfold maxLen at hcm; omega) ?_
    intro j x hx
    exact hown.cells (g := g) rfl j (.int .u8 x.toNat) (by simp [Lib.byteCells, hx])
  go_enter Tryz.func26, Tryz.ntmps26
  go_wp2
  go_region
  all_goals (go_wp2; go_ret; exact ⟨rfl, Lib.below_freeze (Below.drew (Below.refl k w)) (p := ⟨g, 0, none⟩) (by show k ≤ g; omega) _⟩)

/-- Its text is not empty, nor is a name's. -/
def Told : Ex → Prop
  | .zero => False
  | .name s => s ≠ []
  | .neg x => Told x
  | .two k x y => Told x ∧ Told y
  | _ => True

/-- The builder of the writer at k holds l ++ t behind the call. -/
def Wrote (k : Nat) (l t : Bs) (w : World) (e : Ending) (w' : World) : Prop :=
  e = .returned (.tuple #[]) ∧ Bld 60 k w' (l ++ t) ∧ Below k w w' ∧ Lib.OthersKept 5 (some k) w w'

def WriteOk (x : Ex) : Prop := ∀ (v : Value) (k : Nat) (l : Bs) (w : World), gtop ≤ k → Tab w → ExAt (· < k) w v x → Bld 60 k w l → l.length + (textP x).length ≤ 140737488355328 →
    Calls Tryz.prog 25 #[.pointer (some ⟨k, 0, none⟩), v] w (Wrote k l (textP x) w)
def ChildOk (x : Ex) : Prop := ∀ (v : Value) (k : Nat) (l : Bs) (w : World), gtop ≤ k → Tab w → ExAt (· < k) w v x → Bld 60 k w l → l.length + (childP x (textP x)).length ≤ 140737488355328 →
    Calls Tryz.prog 44 #[.pointer (some ⟨k, 0, none⟩), v] w (Wrote k l (childP x (textP x)) w)

theorem ExAt.atBelow {k : Nat} {w w' : World} {v : Value} {x : Ex} (h : ExAt (· < k) w v x) (hb : Below k w w') : ExAt (· < k) w' v x :=
  h.later fun a _ ha hc => ⟨by rw [cell_of_block (hb.block _ ha)]; exact hc, ha⟩

/-- Block j is just this expression. -/
def XB (w : World) (j : Nat) (a0 a1 a2 a3 : Value) : Prop := w.heap[j]? = some (.cells #[a0, a1, a2, a3] 27 (0, 0))
theorem XB.new (w : World) (a0 a1 a2 a3 : Value) : XB (w.alloc (.cells #[a0, a1, a2, a3] 27)) w.heap.size a0 a1 a2 a3 := by
  show (w.heap.push _)[w.heap.size]? = _; simp
theorem XB.lt {w : World} {j : Nat} {a0 a1 a2 a3 : Value} (h : XB w j a0 a1 a2 a3) : j < w.heap.size := (Array.getElem?_eq_some_iff.1 h).1
theorem XB.later {w w' : World} {j : Nat} {a0 a1 a2 a3 : Value} (h : XB w j a0 a1 a2 a3) (hb : Below w.heap.size w w') : XB w' j a0 a1 a2 a3 := (hb.block j h.lt).trans h
theorem XB.others {w w' : World} {j k : Nat} {a0 a1 a2 a3 : Value} (h : XB w j a0 a1 a2 a3) (hb : Lib.OthersKept 5 (some k) w w') (hj : j ≠ k) : XB w' j a0 a1 a2 a3 :=
  hb j _ h (fun e => hj (Option.some.inj e)) (fun c fz e => by cases e)
theorem XB.cells {w : World} {j : Nat} {a0 a1 a2 a3 : Value} (h : XB w j a0 a1 a2 a3) : w.cell? ⟨j, 0, none⟩ = some a0 ∧ w.cell? ⟨j, 1, none⟩ = some a1 ∧ w.cell? ⟨j, 2, none⟩ = some a2 ∧ w.cell? ⟨j, 3, none⟩ = some a3 := by
  refine ⟨?_, ?_, ?_, ?_⟩ <;> (rw [Lib.cell_of_heap h]; rfl)
theorem others_below {k : Nat} {w w' : World} (h : Below w.heap.size w w') : Lib.OthersKept 5 (some k) w w' := fun j o hj _ _ => (h.block j (Array.getElem?_eq_some_iff.1 hj).1).trans hj
theorem Bld.later {T : TypeId} {k : Nat} {w w' : World} {l : Bs} (h : Bld T k w l) (hb : Below w.heap.size w w') : Bld T k w' l := h.of_blocks fun g c t fz _ hg => (hb.block g (Array.getElem?_eq_some_iff.1 hg).1).trans hg

set_option maxHeartbeats 1600000 in
set_option maxRecDepth 100000 in
theorem write_num (n : Nat) (hn : n ≤ 4294967295) : WriteOk (.num n) := by
  intro v k l w hg T hx hB hl
  simp only [ExAt] at hx
  subst hx
  rw [show bs [] = ⟨#[]⟩ from rfl]
  have hnI : (n : Int) ≤ 4294967295 := by omega
  have h0 := below_new w (.cells #[.int .i64 1, .int .i64 n, .string ⟨#[]⟩, .slice none 0 0] 27)
  have X0 := XB.new w (.int .i64 1) (.int .i64 n) (.string ⟨#[]⟩) (.slice none 0 0)
  have F := formed_leaf 1 n ⟨#[]⟩ (by omega) (by omega) (w.alloc (.cells #[.int .i64 1, .int .i64 n, .string ⟨#[]⟩, .slice none 0 0] 27))
  have hkw := hB.lt
  replace hB := hB.later h0
  have T0 := T.later h0
  unfold Wrote
  go_enter Tryz.func25, Tryz.ntmps25
  go_wp2_with fail
  generalize (w.alloc (.cells #[.int .i64 1, .int .i64 n, .string ⟨#[]⟩, .slice none 0 0] 27)) = w1 at *
  refine F.mono ?_
  rintro e w2 ⟨rfl, hb2⟩
  replace hB := hB.later hb2
  replace X0 := X0.later hb2
  replace T0 := T0.later hb2
  replace h0 := h0.trans (hb2.mono h0.size)
  obtain ⟨x0, x1, x2, x3⟩ := X0.cells
  clear F hb2
  have hd : Below w2.heap.size w2 w2.drew := (Below.refl _ _).drew
  have I : Calls Tryz.prog 43 #[.int .i64 n] w2.drew fun e w' => e = .returned (.string (bs (textP (.num n)))) ∧ Below w2.heap.size w2 w' := by
    refine (Tryz.strconv_Itoa (n : Int) (by omega) (by omega) w2.drew (T0.later hd).pow).mono ?_
    rintro e w3 ⟨rfl, kk, os, rfl⟩
    exact ⟨rfl, rfl, rfl, rfl, by simp [Go.Sort.grow], fun j hj => by simp [Go.Sort.grow, Array.getElem?_append, hj]⟩
  obtain ⟨tx, htx⟩ : ∃ tx, tx = textP (.num n) := ⟨_, rfl⟩
  rw [← htx] at I hl
  have HT : Hid (tx = textP (.num n)) := htx
  clear htx
  go_wp2_with fail
  go_region_with (first | (go_at_call 43; refine I.mono ?_; rintro e w3 ⟨rfl, hb3⟩; have S := writeString_any 60 heads_writer k l tx w3 (hB.later hb3) hl; have h03 := h0.trans (hb3.mono h0.size)) | (go_at_call 42; refine S.mono ?_; rintro e w4 ⟨rfl, hB3, hb4, ho4⟩))
  all_goals go_wp2
  all_goals go_end0
  all_goals exact ⟨rfl, by rw [← HT.out]; exact hB3, (h03.mono (Nat.le_of_lt hkw)).trans hb4, (others_below h03).trans ho4⟩

set_option maxHeartbeats 1600000 in
set_option maxRecDepth 100000 in
theorem write_name (s : Bs) : WriteOk (.name s) := by
  intro v k l w hg T hx hB hl
  simp only [ExAt] at hx
  subst hx
  have h0 := below_new w (.cells #[.int .i64 2, .int .i64 0, .string (bs s), .slice none 0 0] 27)
  have X0 := XB.new w (.int .i64 2) (.int .i64 0) (.string (bs s)) (.slice none 0 0)
  have F := formed_leaf 2 0 (bs s) (by omega) (by omega) (w.alloc (.cells #[.int .i64 2, .int .i64 0, .string (bs s), .slice none 0 0] 27))
  have hkw := hB.lt
  replace hB := hB.later h0
  have T0 := T.later h0
  unfold Wrote
  go_enter Tryz.func25, Tryz.ntmps25
  go_wp2_with fail
  generalize (w.alloc (.cells #[.int .i64 2, .int .i64 0, .string (bs s), .slice none 0 0] 27)) = w1 at *
  refine F.mono ?_
  rintro e w2 ⟨rfl, hb2⟩
  replace hB := hB.later hb2
  replace X0 := X0.later hb2
  replace T0 := T0.later hb2
  replace h0 := h0.trans (hb2.mono h0.size)
  obtain ⟨x0, x1, x2, x3⟩ := X0.cells
  clear F hb2
  have hd : Below w2.heap.size w2 w2.drew := (Below.refl _ _).drew
  have S := writeString_any 60 heads_writer k l s w2.drew (hB.later hd) hl
  have h03 := h0.trans (hd.mono h0.size)
  go_wp2_with fail
  go_region_with (go_at_call 42; refine S.mono ?_; rintro e w3 ⟨rfl, hB3, hb3, ho3⟩)
  all_goals go_wp2
  all_goals go_end0
  all_goals exact ⟨rfl, hB3, (h03.mono (Nat.le_of_lt hkw)).trans hb3, (others_below h03).trans ho3⟩

set_option maxHeartbeats 1600000 in
set_option maxRecDepth 100000 in
theorem write_here : WriteOk .here := by
  intro v k l w hg T hx hB hl
  simp only [ExAt] at hx
  subst hx
  rw [show bs [] = ⟨#[]⟩ from rfl]
  have h0 := below_new w (.cells #[.int .i64 3, .int .i64 0, .string ⟨#[]⟩, .slice none 0 0] 27)
  have X0 := XB.new w (.int .i64 3) (.int .i64 0) (.string ⟨#[]⟩) (.slice none 0 0)
  have F := formed_leaf 3 0 ⟨#[]⟩ (by omega) (by omega) (w.alloc (.cells #[.int .i64 3, .int .i64 0, .string ⟨#[]⟩, .slice none 0 0] 27))
  have hkw := hB.lt
  replace hB := hB.later h0
  have T0 := T.later h0
  unfold Wrote
  go_enter Tryz.func25, Tryz.ntmps25
  go_wp2_with fail
  generalize (w.alloc (.cells #[.int .i64 3, .int .i64 0, .string ⟨#[]⟩, .slice none 0 0] 27)) = w1 at *
  refine F.mono ?_
  rintro e w2 ⟨rfl, hb2⟩
  replace hB := hB.later hb2
  replace X0 := X0.later hb2
  replace T0 := T0.later hb2
  replace h0 := h0.trans (hb2.mono h0.size)
  obtain ⟨x0, x1, x2, x3⟩ := X0.cells
  clear F hb2
  have S := writeString_any 60 heads_writer k l [46] w2 hB hl
  rw [show bs [46] = ⟨#[46]⟩ from rfl] at S
  go_wp2_with (go_at_call 42; refine S.mono ?_; rintro e w3 ⟨rfl, hB3, hb3, ho3⟩)
  go_end0
  exact ⟨rfl, hB3, (h0.mono (Nat.le_of_lt hkw)).trans hb3, (others_below h0).trans ho3⟩

set_option maxHeartbeats 3200000 in
set_option maxRecDepth 100000 in
theorem write_neg (x : Ex) (ih : ChildOk x) : WriteOk (.neg x) := by
  intro v k l w hg T hx hB hl
  obtain ⟨kx, c0, c1, c2, c3, rfl, hP, z0, z1, z2, z3, hx⟩ := hx
  rw [show bs [] = ⟨#[]⟩ from rfl]
  have htx : textP (.neg x) = [45] ++ childP x (textP x) := rfl
  rw [htx] at hl ⊢
  rw [List.length_append] at hl
  obtain ⟨ka, na, ta, qa, la, ma, hfx⟩ := hx.form
  simp only [Value.agg.injEq, Array.mk.injEq, List.cons.injEq, and_true] at hfx
  obtain ⟨rfl, rfl, rfl, rfl⟩ := hfx
  have h0 := below_new w (.cells #[.int .i64 4, .int .i64 0, .string ⟨#[]⟩, .slice (some ⟨kx, 0, none⟩) 1 1] 27)
  have X0 := XB.new w (.int .i64 4) (.int .i64 0) (.string ⟨#[]⟩) (.slice (some ⟨kx, 0, none⟩) 1 1)
  have F := formed_neg 0 ⟨#[]⟩ (some ⟨kx, 0, none⟩) 1 (w.alloc (.cells #[.int .i64 4, .int .i64 0, .string ⟨#[]⟩, .slice (some ⟨kx, 0, none⟩) 1 1] 27))
  have hkw := hB.lt
  replace hB := hB.later h0
  have T0 := T.later h0
  unfold Wrote
  go_enter Tryz.func25, Tryz.ntmps25
  go_wp2_with fail
  generalize (w.alloc (.cells #[.int .i64 4, .int .i64 0, .string ⟨#[]⟩, .slice (some ⟨kx, 0, none⟩) 1 1] 27)) = w1 at *
  refine F.mono ?_
  rintro e w2 ⟨rfl, hb2⟩
  replace hB := hB.later hb2
  replace X0 := X0.later hb2
  replace T0 := T0.later hb2
  replace h0 := h0.trans (hb2.mono h0.size)
  obtain ⟨x0, x1, x2, x3⟩ := X0.cells
  clear F hb2
  have S := writeString_any 60 heads_writer k l [45] w2 hB (by simp at hl ⊢; omega)
  rw [show bs [45] = ⟨#[45]⟩ from rfl] at S
  go_wp2_with fail
  refine S.mono ?_
  rintro e w3 ⟨rfl, hB3, hb3, ho3⟩
  have hbk := (h0.mono (Nat.le_of_lt hkw)).trans hb3
  have hok := (others_below (k := k) h0).trans ho3
  replace X0 := X0.others ho3 (by omega)
  have T3 := T.low hbk hg
  have hx3 := hx.atBelow hbk
  replace z0 : w3.cell? ⟨kx, 0, none⟩ = _ := (cell_of_block (hbk.block kx hP)).trans z0
  replace z1 : w3.cell? ⟨kx, 1, none⟩ = _ := (cell_of_block (hbk.block kx hP)).trans z1
  replace z2 : w3.cell? ⟨kx, 2, none⟩ = _ := (cell_of_block (hbk.block kx hP)).trans z2
  replace z3 : w3.cell? ⟨kx, 3, none⟩ = _ := (cell_of_block (hbk.block kx hP)).trans z3
  obtain ⟨u0, u1, u2, u3⟩ := X0.cells
  clear S x0 x1 x2 x3
  have C := ih _ k (l ++ [45]) w3 hg T3 hx3 hB3 (by simp at hl ⊢; omega)
  unfold Wrote at C
  go_wp2_with fail
  refine C.mono ?_
  rintro e w4 ⟨rfl, hB4, hb4, ho4⟩
  go_wp2
  go_end0
  rw [List.append_assoc] at hB4
  exact ⟨rfl, hB4, hbk.trans hb4, hok.trans ho4⟩

theorem bs_append (a b : Bs) : bs (a ++ b) = bs a ++ bs b := by
  apply ByteArray.ext
  simp [bs]

set_option maxHeartbeats 3200000 in
set_option maxRecDepth 100000 in
theorem write_two (op : Nat) (x y : Ex) (h5 : 5 ≤ op) (h11 : op ≤ 11) (ihx : ChildOk x) (ihy : ChildOk y) : WriteOk (.two op x y) := by
  intro v k l w hg T hx hB hl
  obtain ⟨kx, c0, c1, c2, c3, d0, d1, d2, d3, rfl, hP, z0, z1, z2, z3, y0, y1, y2, y3, hx, hy⟩ := hx
  rw [show bs [] = ⟨#[]⟩ from rfl]
  have htx : textP (.two op x y) = childP x (textP x) ++ ([32] ++ signOf op ++ [32]) ++ childP y (textP y) := rfl
  rw [htx] at hl ⊢
  rw [List.length_append, List.length_append] at hl
  obtain ⟨ka, na, ta, qa, la, ma, hfx⟩ := hx.form
  simp only [Value.agg.injEq, Array.mk.injEq, List.cons.injEq, and_true] at hfx
  obtain ⟨rfl, rfl, rfl, rfl⟩ := hfx
  obtain ⟨kb, nb, tb, qb, lb, mb, hfy⟩ := hy.form
  simp only [Value.agg.injEq, Array.mk.injEq, List.cons.injEq, and_true] at hfy
  obtain ⟨rfl, rfl, rfl, rfl⟩ := hfy
  have o4 : ((op : Int) == 4) = false := by simp; omega
  have o1 : ((op : Int) == 1) = false := by simp; omega
  have o2 : ((op : Int) == 2) = false := by simp; omega
  have o3 : ((op : Int) == 3) = false := by simp; omega
  have oI : (5 : Int) ≤ op := by omega
  have h0 := below_new w (.cells #[.int .i64 op, .int .i64 0, .string ⟨#[]⟩, .slice (some ⟨kx, 0, none⟩) 2 2] 27)
  have X0 := XB.new w (.int .i64 op) (.int .i64 0) (.string ⟨#[]⟩) (.slice (some ⟨kx, 0, none⟩) 2 2)
  have F := formed_two op 0 ⟨#[]⟩ (some ⟨kx, 0, none⟩) 2 (by omega) (by omega) (w.alloc (.cells #[.int .i64 op, .int .i64 0, .string ⟨#[]⟩, .slice (some ⟨kx, 0, none⟩) 2 2] 27))
  have hkw := hB.lt
  replace hB := hB.later h0
  have T0 := T.later h0
  unfold Wrote
  go_enter Tryz.func25, Tryz.ntmps25
  go_wp2_with fail
  generalize (w.alloc (.cells #[.int .i64 op, .int .i64 0, .string ⟨#[]⟩, .slice (some ⟨kx, 0, none⟩) 2 2] 27)) = w1 at *
  refine F.mono ?_
  rintro e w2 ⟨rfl, hb2⟩
  replace hB := hB.later hb2
  replace X0 := X0.later hb2
  replace T0 := T0.later hb2
  replace h0 := h0.trans (hb2.mono h0.size)
  obtain ⟨x0, x1, x2, x3⟩ := X0.cells
  clear F hb2
  have hbk := h0.mono (Nat.le_of_lt hkw)
  have hok := others_below (k := k) h0
  have hx2 := hx.atBelow hbk
  have C := ihx _ k l w2 hg T0 hx2 hB (by omega)
  replace z0 : w2.cell? ⟨kx, 0, none⟩ = _ := (cell_of_block (hbk.block kx hP)).trans z0
  replace z1 : w2.cell? ⟨kx, 1, none⟩ = _ := (cell_of_block (hbk.block kx hP)).trans z1
  replace z2 : w2.cell? ⟨kx, 2, none⟩ = _ := (cell_of_block (hbk.block kx hP)).trans z2
  replace z3 : w2.cell? ⟨kx, 3, none⟩ = _ := (cell_of_block (hbk.block kx hP)).trans z3
  replace y0 : w2.cell? ⟨kx, 4, none⟩ = _ := (cell_of_block (hbk.block kx hP)).trans y0
  replace y1 : w2.cell? ⟨kx, 5, none⟩ = _ := (cell_of_block (hbk.block kx hP)).trans y1
  replace y2 : w2.cell? ⟨kx, 6, none⟩ = _ := (cell_of_block (hbk.block kx hP)).trans y2
  replace y3 : w2.cell? ⟨kx, 7, none⟩ = _ := (cell_of_block (hbk.block kx hP)).trans y3

  unfold Wrote at C
  go_wp2_with fail
  refine C.mono ?_
  rintro e w3 ⟨rfl, hB3, hb3, ho3⟩
  replace hbk := hbk.trans hb3
  replace hok := hok.trans ho3
  replace X0 := X0.others ho3 (by omega)
  have T3 := T.low hbk hg
  replace z0 : w3.cell? ⟨kx, 0, none⟩ = _ := (cell_of_block (hb3.block kx hP)).trans z0
  replace z1 : w3.cell? ⟨kx, 1, none⟩ = _ := (cell_of_block (hb3.block kx hP)).trans z1
  replace z2 : w3.cell? ⟨kx, 2, none⟩ = _ := (cell_of_block (hb3.block kx hP)).trans z2
  replace z3 : w3.cell? ⟨kx, 3, none⟩ = _ := (cell_of_block (hb3.block kx hP)).trans z3
  replace y0 : w3.cell? ⟨kx, 4, none⟩ = _ := (cell_of_block (hb3.block kx hP)).trans y0
  replace y1 : w3.cell? ⟨kx, 5, none⟩ = _ := (cell_of_block (hb3.block kx hP)).trans y1
  replace y2 : w3.cell? ⟨kx, 6, none⟩ = _ := (cell_of_block (hb3.block kx hP)).trans y2
  replace y3 : w3.cell? ⟨kx, 7, none⟩ = _ := (cell_of_block (hb3.block kx hP)).trans y3

  obtain ⟨u0, u1, u2, u3⟩ := X0.cells
  clear C x0 x1 x2 x3
  have hsl : (signOf op).length = 1 ∨ (signOf op).length = 2 := by
    obtain rfl | rfl | rfl | rfl | rfl | rfl | rfl : op = 5 ∨ op = 6 ∨ op = 7 ∨ op = 8 ∨ op = 9 ∨ op = 10 ∨ op = 11 := by omega
    all_goals decide
  have hd : Below w3.heap.size w3 w3.drew := (Below.refl _ _).drew
  have G := sign_any op h5 h11 w3.drew (T3.later hd)
  have S := writeString_any 60 heads_writer k (l ++ childP x (textP x)) ([32] ++ signOf op ++ [32]) w3.drew (hB3.later hd) (by rw [List.length_append]; omega)
  rw [bs_append, bs_append, show bs [32] = ⟨#[32]⟩ from rfl] at S
  have hz : (bs (signOf op)).size = 1 ∨ (bs (signOf op)).size = 2 := by rw [bs_size]; exact hsl
  obtain ⟨s1, hs1⟩ : ∃ s1, s1 = bs (signOf op) := ⟨_, rfl⟩
  rw [← hs1] at hz S G
  clear hs1 hsl
  go_wp2_with fail
  rcases hz with hz | hz
  all_goals (
    go_region_with (first | (go_at_call 45; refine G.mono ?_; rintro e w' ⟨rfl, rfl⟩) | (go_at_call 42; refine S.mono ?_; rintro e w4 ⟨rfl, hB4, hb4, ho4⟩))
    have hbd : Below k w3 w4 := (hd.mono (by have := X0.lt; omega)).trans hb4
    have hbk4 := hbk.trans hbd
    have hok4 := hok.trans ((others_below hd).trans ho4)
    have X4 := X0.others ((others_below hd).trans ho4) (by omega)
    have T4 := T.low hbk4 hg
    have hy4 := hy.atBelow hbk4
    replace y0 : w4.cell? ⟨kx, 4, none⟩ = _ := (cell_of_block (hbd.block kx hP)).trans y0
    replace y1 : w4.cell? ⟨kx, 5, none⟩ = _ := (cell_of_block (hbd.block kx hP)).trans y1
    replace y2 : w4.cell? ⟨kx, 6, none⟩ = _ := (cell_of_block (hbd.block kx hP)).trans y2
    replace y3 : w4.cell? ⟨kx, 7, none⟩ = _ := (cell_of_block (hbd.block kx hP)).trans y3
    obtain ⟨v0, v1, v2, v3⟩ := X4.cells
    have C := ihy _ k (l ++ childP x (textP x) ++ ([32] ++ signOf op ++ [32])) w4 hg T4 hy4 hB4 (by rw [List.length_append, List.length_append]; omega)
    unfold Wrote at C
    clear u0 u1 u2 u3 S G
    go_wp2_with fail
    refine C.mono ?_
    rintro e w5 ⟨rfl, hB5, hb5, ho5⟩
    go_wp2
    go_end0
    rw [List.append_assoc, List.append_assoc, ← List.append_assoc (childP x (textP x))] at hB5
    exact ⟨rfl, hB5, hbk4.trans hb5, hok4.trans ho5⟩)

theorem isTwo_len {P : Nat → Prop} {w : World} {x : Ex} {k n : Int} {s : ByteArray} {p : Option Addr} {l c : Nat} (h : ExAt P w (.agg #[.int .i64 k, .int .i64 n, .string s, .slice p l c]) x) : (isTwo x = true ∧ l = 2) ∨ (isTwo x = false ∧ l < 2) := by
  cases x with
  | two o a b => obtain ⟨k, c0, c1, c2, c3, d0, d1, d2, d3, e, _⟩ := h; simp at e; exact .inl ⟨rfl, e.2.2.2.2.1⟩
  | neg a => obtain ⟨k, c0, c1, c2, c3, e, _⟩ := h; simp at e; exact .inr ⟨rfl, by omega⟩
  | _ => simp only [ExAt] at h; simp at h; exact .inr ⟨rfl, by omega⟩

set_option maxHeartbeats 3200000 in
set_option maxRecDepth 100000 in
theorem child_ok (x : Ex) (ih : WriteOk x) : ChildOk x := by
  intro v k l w hg T hx hB hl
  obtain ⟨ka, na, ta, qa, la, ma, rfl⟩ := hx.form
  have h0 := below_new w (.cells #[.int .i64 ka, .int .i64 na, .string ta, .slice qa la ma] 27)
  have X0 := XB.new w (.int .i64 ka) (.int .i64 na) (.string ta) (.slice qa la ma)
  have hkw := hB.lt
  have hbk := h0.mono (Nat.le_of_lt hkw)
  have hB1 := hB.later h0
  have T0 := T.later h0
  have hx0 := hx.atBelow hbk
  unfold Wrote
  rcases isTwo_len hx with ⟨h2, rfl⟩ | ⟨h2, hla⟩
  · have hc : childP x (textP x) = [40] ++ textP x ++ [41] := by unfold childP; rw [if_pos h2]; rfl
    rw [hc] at hl ⊢
    rw [List.length_append, List.length_append] at hl
    go_enter Tryz.func44, Tryz.ntmps44
    go_wp2_with fail
    generalize w.alloc (.cells #[.int .i64 ka, .int .i64 na, .string ta, .slice qa 2 ma] 27) = w1 at *
    have S := writeString_any 60 heads_writer k l [40] w1 hB1 (by simp at hl ⊢; omega)
    rw [show bs [40] = ⟨#[40]⟩ from rfl] at S
    refine S.mono ?_
    rintro e w2 ⟨rfl, hB2, hb2, ho2⟩
    have hbk2 := hbk.trans hb2
    have hok2 := (others_below (k := k) h0).trans ho2
    have X2 := X0.others ho2 (by omega)
    have C := ih _ k (l ++ [40]) w2 hg (T.low hbk2 hg) (hx.atBelow hbk2) hB2 (by simp at hl ⊢; omega)
    unfold Wrote at C
    obtain ⟨x0, x1, x2, x3⟩ := X2.cells
    clear S
    go_wp2_with fail
    refine C.mono ?_
    rintro e w3 ⟨rfl, hB3, hb3, ho3⟩
    have S := writeString_any 60 heads_writer k (l ++ [40] ++ textP x) [41] w3 hB3 (by simp at hl ⊢; omega)
    rw [show bs [41] = ⟨#[41]⟩ from rfl] at S
    clear C x0 x1 x2 x3
    go_wp2_with fail
    refine S.mono ?_
    rintro e w4 ⟨rfl, hB4, hb4, ho4⟩
    go_wp2
    go_end0
    rw [List.append_assoc, List.append_assoc, ← List.append_assoc [40]] at hB4
    exact ⟨rfl, hB4, (hbk2.trans hb3).trans hb4, (hok2.trans ho3).trans ho4⟩
  · have hc : childP x (textP x) = textP x := by unfold childP; rw [if_neg (by simp [h2])]
    rw [hc] at hl ⊢
    have hlI : (la : Int) < 2 := by omega
    go_enter Tryz.func44, Tryz.ntmps44
    go_wp2_with fail
    generalize w.alloc (.cells #[.int .i64 ka, .int .i64 na, .string ta, .slice qa la ma] 27) = w1 at *
    have C := ih _ k l w1 hg T0 hx0 hB1 hl
    unfold Wrote at C
    refine C.mono ?_
    rintro e w2 ⟨rfl, hB2, hb2, ho2⟩
    go_wp2
    exact bodyPost_ret (v := .tuple #[]) (by simp [results, Tryz.results44, go_sem]) rfl ⟨rfl, hB2, hbk.trans hb2, (others_below (k := k) h0).trans ho2⟩

theorem write_all : ∀ (x : Ex), Small x → Told x → WriteOk x
  | .zero, _, h => h.elim
  | .num n, hs, _ => write_num n hs
  | .name s, _, _ => write_name s
  | .here, _, _ => write_here
  | .neg x, hs, ht => write_neg x (child_ok x (write_all x hs ht))
  | .two op x y, hs, ht => write_two op x y hs.1 hs.2.1 (child_ok x (write_all x hs.2.2.1 ht.1)) (child_ok y (write_all y hs.2.2.2 ht.2))

theorem told_ne : ∀ (x : Ex), Told x → textP x ≠ []
  | .zero, h => h.elim
  | .num n, _ => by
    show Go.Lib.itoa n ≠ []
    unfold Go.Lib.itoa
    rw [if_neg (by omega), Go.Lib.decDigits]
    split <;> simp
  | .name s, h => h
  | .here, _ => by simp [textP]
  | .neg x, _ => by simp [textP]
  | .two k x y, _ => by simp [textP]

set_option maxHeartbeats 1600000 in
set_option maxRecDepth 100000 in
theorem text_any (x : Ex) (hs : Small x) (ht : Told x) (P : Nat → Prop) (v : Value) (w : World) (T : Tab w) (hx : ExAt P w v x) (hl : (textP x).length ≤ 140737488355328) :
    Calls Tryz.prog 11 #[v] w fun e w' => e = .returned (.string (bs (textP x))) ∧ Below w.heap.size w w' := by
  obtain ⟨ka, na, ta, qa, la, ma, rfl⟩ := hx.form
  have h0 := below_new w (.cells #[.int .i64 ka, .int .i64 na, .string ta, .slice qa la ma] 27)
  have h1 := below_new (w.alloc (.cells #[.int .i64 ka, .int .i64 na, .string ta, .slice qa la ma] 27)) (.cells #[.pointer none, .slice none 0 0] 60)
  have hb1 : Below w.heap.size w ((w.alloc (.cells #[.int .i64 ka, .int .i64 na, .string ta, .slice qa la ma] 27)).alloc (.cells #[.pointer none, .slice none 0 0] 60)) := h0.trans (h1.mono h0.size)
  have hz : (w.alloc (.cells #[.int .i64 ka, .int .i64 na, .string ta, .slice qa la ma] 27)).heap.size = w.heap.size + 1 := by simp
  have hB := Bld.new (w.alloc (.cells #[.int .i64 ka, .int .i64 na, .string ta, .slice qa la ma] 27)) 60
  rw [hz] at hB
  have hx1 := (hx.imp (Q := (· < w.heap.size + 1)) (fun i _ hi => by omega)).below hb1
  have C := write_all x hs ht _ (w.heap.size + 1) [] _ (Nat.le_succ_of_le T.size) (T.later hb1) hx1 hB (by simpa using hl)
  have hne := told_ne x ht
  unfold Wrote at C
  rw [List.nil_append] at C
  clear h0 h1 hz hB hx1 hx
  go_enter Tryz.func11, Tryz.ntmps11
  go_wp2_with fail
  generalize ((w.alloc (.cells #[.int .i64 ka, .int .i64 na, .string ta, .slice qa la ma] 27)).alloc (.cells #[.pointer none, .slice none 0 0] 60)) = w1 at *
  refine C.mono ?_
  rintro e w2 ⟨rfl, hB2, hb2, _⟩
  have S := string_any 60 (w.heap.size + 1) (textP x) hne w2 hB2
  clear C
  go_wp2_with (go_at_call 26; refine S.mono ?_; rintro e w3 ⟨rfl, hb3⟩)
  go_ret
  exact ⟨rfl, (hb1.trans (hb2.mono (Nat.le_succ _))).trans (hb3.mono (Nat.le_succ _))⟩
end Go.Proofs.YtopfnfmglnjljaaGreatDoor
