/- The contracts of products, sums, shifts, ands, ors, where single has its own.
   The contracts of strings.Builder's methods, of a builder that lies in whatever block (in a field, too).
   The contracts of letter, digit and run.
   The contract of word.
   The contract of strconv.ParseUint at base 16 and 32 bits, of texts of small letters, digits and '_'.
   The contracts of number and leaf. -/
import Derived.Test.YtkaclahcpmogaaaGreatDoorExA
import Derived.Lib.AppendStr
import Derived.Lib.OthersKept
import Derived.BigCall
import Derived.Lib.ConvBytes
import Derived.BigGuard
namespace Go.Proofs.YtkaclahcpmogaaaGreatDoor
open Go.ChangeShapes Go.WideShapes Go.ChangeAt Go.RowKit
set_option linter.unusedVariables false
set_option linter.unusedSimpArgs false

theorem hmf : ∀ (fn : Fn) (first cap : Array Value) (w : World), (Instr.makeFunc fn first cap).run Tryz.prog w = .ok (.func fn first cap) w := fun _ _ _ _ => rfl

theorem kinds1 {b : Nat} {w : World} (hb : b < w.heap.size) (k : Nat) : KindsAt b (w.alloc (.cells #[.int .i64 k] 3)) (.slice (some ⟨w.heap.size, 0, none⟩) 1 1) [k] := by
  refine ⟨w.heap.size, rfl, hb, fun i k' h => ?_⟩
  match i, h with
  | 0, h => simp at h; subst h; exact new_cell _ 0 _ rfl
theorem kinds2 {b : Nat} {w : World} (hb : b < w.heap.size) (k j : Nat) : KindsAt b (w.alloc (.cells #[.int .i64 k, .int .i64 j] 3)) (.slice (some ⟨w.heap.size, 0, none⟩) 2 2) [k, j] := by
  refine ⟨w.heap.size, rfl, hb, fun i k' h => ?_⟩
  match i, h with
  | 0, h => simp at h; subst h; exact new_cell _ 0 _ rfl
  | 1, h => simp at h; subst h; exact new_cell _ 1 _ rfl

/-- Behind a new block. -/
theorem Read.low {n m b d : Nat} {W : World} {e : Ending} {r : Option (Ex × Bs)} (h : Read n b d W e r) (hn : m ≤ n) : Read m b d W e r := by
  cases r with
  | none => exact h
  | some r => obtain ⟨v, h1, h2, h3⟩ := h; exact ⟨v, h1, h2, h3.imp fun i hi _ => Nat.le_trans hn hi⟩

theorem Read.form {n b d : Nat} {W : World} {e : Ending} {r : Option (Ex × Bs)} (h : Read n b d W e r) : ∃ (k j : Int) (s : ByteArray) (q : Option Addr) (l c : Nat), e = .returned (.tuple #[.agg #[.int .i64 k, .int .i64 j, .string s, .slice q l c], .bool r.isSome]) := by
  cases r with
  | none => obtain ⟨v, _, rfl, _, k, j, s, q, l, c, rfl⟩ := h; exact ⟨k, j, s, q, l, c, rfl⟩
  | some r => obtain ⟨v, rfl, _, hx⟩ := h; obtain ⟨k, j, s, q, l, c, rfl⟩ := hx.form; exact ⟨k, j, s, q, l, c, rfl⟩

theorem Read.put {n b d R : Nat} {W : World} {e : Ending} {r : Option (Ex × Bs)} (h : Read n b d W e r) (hR : R < n) (hb : b ≠ R) (a0 a1 a2 a3 : Value) : Read n b d (put4 W R a0 a1 a2 a3) e r := by
  cases r with
  | none => obtain ⟨v, s, h1, h2, h3⟩ := h; exact ⟨v, s, h1, h2.put4 _ _ _ _ _ hb, h3⟩
  | some r => obtain ⟨v, h1, h2, h3⟩ := h; exact ⟨v, h1, h2.put4 _ _ _ _ _ hb, h3.put _ _ _ _ _ (fun i hi => by omega)⟩

set_option maxHeartbeats 800000 in
set_option maxRecDepth 20000 in
theorem products_ok (b d : Nat) (hg : gtop ≤ b) (p : Rd) (hp : PartOk b d 118 (p)) (hs : Shrinks (p)) : PartOk b d 113 (productsP p) := by
  intro w s T h hl
  have hbw := h.lt
  have h0 := below_new w (.cells #[.int .i64 0, .int .i64 0, .string ⟨#[]⟩, .slice none 0 0] 107)
  have R0 := Blk.new w 107 (.int .i64 0) (.int .i64 0) (.string ⟨#[]⟩) (.slice none 0 0)
  have hz0 : (w.alloc (.cells #[.int .i64 0, .int .i64 0, .string ⟨#[]⟩, .slice none 0 0] 107)).heap.size = w.heap.size + 1 := by simp
  have hbw0 : b < (w.alloc (.cells #[.int .i64 0, .int .i64 0, .string ⟨#[]⟩, .slice none 0 0] 107)).heap.size := by omega
  have h1 := below_new (w.alloc (.cells #[.int .i64 0, .int .i64 0, .string ⟨#[]⟩, .slice none 0 0] 107)) (.cells #[.int .i64 7] 3)
  have hK := kinds1 hbw0 7
  have C := row_any b d hg 118 (enters_of Tryz.func118 (by kernel_rfl) rfl) _ hp hs _ [7] (by decide) (by decide) _ s ((T.later h0).later h1) ((h.later h0).later h1) hK hl
  rw [hz0] at C
  have R1 := R0.later h1
  have hz1 : ((w.alloc (.cells #[.int .i64 0, .int .i64 0, .string ⟨#[]⟩, .slice none 0 0] 107)).alloc (.cells #[.int .i64 7] 3)).heap.size = w.heap.size + 2 := by simp
  have hb1 : Beside b w ((w.alloc (.cells #[.int .i64 0, .int .i64 0, .string ⟨#[]⟩, .slice none 0 0] 107)).alloc (.cells #[.int .i64 7] 3)) := ((Beside.refl b w).alloc hbw _).alloc hbw _
  have hmf := hmf
  clear hp hs T h hl h0 h1 R0 hK
  go_enter Tryz.func113, Tryz.ntmps113
  go_wp2_with fail
  refine C.mono ?_
  rintro e w2 ⟨hb2, hr2⟩
  obtain ⟨k, j, t, q, l, c, rfl⟩ := hr2.form
  have R2 := R1.beside hb2 (by omega)
  obtain ⟨c0, c1, c2, c3, f0, f1, f2, f3⟩ := id R2
  have hl2 := R2.lt
  rw [hz1] at hr2
  clear C
  go_wp2
  have R3 := R2.put (.int .i64 k) (.int .i64 j) (.string t) (.slice q l c)
  obtain ⟨y0, y1, y2, y3, _, _, _, _⟩ := R3
  unfold put4 at y0 y1 y2 y3
  exact bodyPost_ret (v := .tuple #[.agg #[.int .i64 k, .int .i64 j, .string t, .slice q l c], .bool (rowP (p) [7] s).isSome]) (by simp [results, Tryz.results113, go_sem, y0, y1, y2, y3]) rfl
    ⟨(hb1.trans hb2).putNew hbw (Nat.le_refl _) _ _ _ _, (hr2.put (by omega) (by omega) _ _ _ _).low (by omega)⟩

set_option maxHeartbeats 800000 in
set_option maxRecDepth 20000 in
theorem sums_ok (b d : Nat) (hg : gtop ≤ b) (p : Rd) (hp : PartOk b d 113 (productsP p)) (hs : Shrinks (productsP p)) : PartOk b d 107 (sumsP p) := by
  intro w s T h hl
  have hbw := h.lt
  have h0 := below_new w (.cells #[.int .i64 0, .int .i64 0, .string ⟨#[]⟩, .slice none 0 0] 107)
  have R0 := Blk.new w 107 (.int .i64 0) (.int .i64 0) (.string ⟨#[]⟩) (.slice none 0 0)
  have hz0 : (w.alloc (.cells #[.int .i64 0, .int .i64 0, .string ⟨#[]⟩, .slice none 0 0] 107)).heap.size = w.heap.size + 1 := by simp
  have hbw0 : b < (w.alloc (.cells #[.int .i64 0, .int .i64 0, .string ⟨#[]⟩, .slice none 0 0] 107)).heap.size := by omega
  have h1 := below_new (w.alloc (.cells #[.int .i64 0, .int .i64 0, .string ⟨#[]⟩, .slice none 0 0] 107)) (.cells #[.int .i64 5, .int .i64 6] 3)
  have hK := kinds2 hbw0 5 6
  have C := row_any b d hg 113 (enters_of Tryz.func113 (by kernel_rfl) rfl) _ hp hs _ [5, 6] (by decide) (by decide) _ s ((T.later h0).later h1) ((h.later h0).later h1) hK hl
  rw [hz0] at C
  have R1 := R0.later h1
  have hz1 : ((w.alloc (.cells #[.int .i64 0, .int .i64 0, .string ⟨#[]⟩, .slice none 0 0] 107)).alloc (.cells #[.int .i64 5, .int .i64 6] 3)).heap.size = w.heap.size + 2 := by simp
  have hb1 : Beside b w ((w.alloc (.cells #[.int .i64 0, .int .i64 0, .string ⟨#[]⟩, .slice none 0 0] 107)).alloc (.cells #[.int .i64 5, .int .i64 6] 3)) := ((Beside.refl b w).alloc hbw _).alloc hbw _
  have hmf := hmf
  clear hp hs T h hl h0 h1 R0 hK
  go_enter Tryz.func107, Tryz.ntmps107
  go_wp2_with fail
  refine C.mono ?_
  rintro e w2 ⟨hb2, hr2⟩
  obtain ⟨k, j, t, q, l, c, rfl⟩ := hr2.form
  have R2 := R1.beside hb2 (by omega)
  obtain ⟨c0, c1, c2, c3, f0, f1, f2, f3⟩ := id R2
  have hl2 := R2.lt
  rw [hz1] at hr2
  clear C
  go_wp2
  have R3 := R2.put (.int .i64 k) (.int .i64 j) (.string t) (.slice q l c)
  obtain ⟨y0, y1, y2, y3, _, _, _, _⟩ := R3
  unfold put4 at y0 y1 y2 y3
  exact bodyPost_ret (v := .tuple #[.agg #[.int .i64 k, .int .i64 j, .string t, .slice q l c], .bool (rowP (productsP p) [5, 6] s).isSome]) (by simp [results, Tryz.results107, go_sem, y0, y1, y2, y3]) rfl
    ⟨(hb1.trans hb2).putNew hbw (Nat.le_refl _) _ _ _ _, (hr2.put (by omega) (by omega) _ _ _ _).low (by omega)⟩

set_option maxHeartbeats 800000 in
set_option maxRecDepth 20000 in
theorem shifts_ok (b d : Nat) (hg : gtop ≤ b) (p : Rd) (hp : PartOk b d 107 (sumsP p)) (hs : Shrinks (sumsP p)) : PartOk b d 103 (shiftsP p) := by
  intro w s T h hl
  have hbw := h.lt
  have h0 := below_new w (.cells #[.int .i64 0, .int .i64 0, .string ⟨#[]⟩, .slice none 0 0] 107)
  have R0 := Blk.new w 107 (.int .i64 0) (.int .i64 0) (.string ⟨#[]⟩) (.slice none 0 0)
  have hz0 : (w.alloc (.cells #[.int .i64 0, .int .i64 0, .string ⟨#[]⟩, .slice none 0 0] 107)).heap.size = w.heap.size + 1 := by simp
  have hbw0 : b < (w.alloc (.cells #[.int .i64 0, .int .i64 0, .string ⟨#[]⟩, .slice none 0 0] 107)).heap.size := by omega
  have h1 := below_new (w.alloc (.cells #[.int .i64 0, .int .i64 0, .string ⟨#[]⟩, .slice none 0 0] 107)) (.cells #[.int .i64 10, .int .i64 11] 3)
  have hK := kinds2 hbw0 10 11
  have C := row_any b d hg 107 (enters_of Tryz.func107 (by kernel_rfl) rfl) _ hp hs _ [10, 11] (by decide) (by decide) _ s ((T.later h0).later h1) ((h.later h0).later h1) hK hl
  rw [hz0] at C
  have R1 := R0.later h1
  have hz1 : ((w.alloc (.cells #[.int .i64 0, .int .i64 0, .string ⟨#[]⟩, .slice none 0 0] 107)).alloc (.cells #[.int .i64 10, .int .i64 11] 3)).heap.size = w.heap.size + 2 := by simp
  have hb1 : Beside b w ((w.alloc (.cells #[.int .i64 0, .int .i64 0, .string ⟨#[]⟩, .slice none 0 0] 107)).alloc (.cells #[.int .i64 10, .int .i64 11] 3)) := ((Beside.refl b w).alloc hbw _).alloc hbw _
  have hmf := hmf
  clear hp hs T h hl h0 h1 R0 hK
  go_enter Tryz.func103, Tryz.ntmps103
  go_wp2_with fail
  refine C.mono ?_
  rintro e w2 ⟨hb2, hr2⟩
  obtain ⟨k, j, t, q, l, c, rfl⟩ := hr2.form
  have R2 := R1.beside hb2 (by omega)
  obtain ⟨c0, c1, c2, c3, f0, f1, f2, f3⟩ := id R2
  have hl2 := R2.lt
  rw [hz1] at hr2
  clear C
  go_wp2
  have R3 := R2.put (.int .i64 k) (.int .i64 j) (.string t) (.slice q l c)
  obtain ⟨y0, y1, y2, y3, _, _, _, _⟩ := R3
  unfold put4 at y0 y1 y2 y3
  exact bodyPost_ret (v := .tuple #[.agg #[.int .i64 k, .int .i64 j, .string t, .slice q l c], .bool (rowP (sumsP p) [10, 11] s).isSome]) (by simp [results, Tryz.results103, go_sem, y0, y1, y2, y3]) rfl
    ⟨(hb1.trans hb2).putNew hbw (Nat.le_refl _) _ _ _ _, (hr2.put (by omega) (by omega) _ _ _ _).low (by omega)⟩

set_option maxHeartbeats 800000 in
set_option maxRecDepth 20000 in
theorem ands_ok (b d : Nat) (hg : gtop ≤ b) (p : Rd) (hp : PartOk b d 103 (shiftsP p)) (hs : Shrinks (shiftsP p)) : PartOk b d 95 (andsP p) := by
  intro w s T h hl
  have hbw := h.lt
  have h0 := below_new w (.cells #[.int .i64 0, .int .i64 0, .string ⟨#[]⟩, .slice none 0 0] 107)
  have R0 := Blk.new w 107 (.int .i64 0) (.int .i64 0) (.string ⟨#[]⟩) (.slice none 0 0)
  have hz0 : (w.alloc (.cells #[.int .i64 0, .int .i64 0, .string ⟨#[]⟩, .slice none 0 0] 107)).heap.size = w.heap.size + 1 := by simp
  have hbw0 : b < (w.alloc (.cells #[.int .i64 0, .int .i64 0, .string ⟨#[]⟩, .slice none 0 0] 107)).heap.size := by omega
  have h1 := below_new (w.alloc (.cells #[.int .i64 0, .int .i64 0, .string ⟨#[]⟩, .slice none 0 0] 107)) (.cells #[.int .i64 8] 3)
  have hK := kinds1 hbw0 8
  have C := row_any b d hg 103 (enters_of Tryz.func103 (by kernel_rfl) rfl) _ hp hs _ [8] (by decide) (by decide) _ s ((T.later h0).later h1) ((h.later h0).later h1) hK hl
  rw [hz0] at C
  have R1 := R0.later h1
  have hz1 : ((w.alloc (.cells #[.int .i64 0, .int .i64 0, .string ⟨#[]⟩, .slice none 0 0] 107)).alloc (.cells #[.int .i64 8] 3)).heap.size = w.heap.size + 2 := by simp
  have hb1 : Beside b w ((w.alloc (.cells #[.int .i64 0, .int .i64 0, .string ⟨#[]⟩, .slice none 0 0] 107)).alloc (.cells #[.int .i64 8] 3)) := ((Beside.refl b w).alloc hbw _).alloc hbw _
  have hmf := hmf
  clear hp hs T h hl h0 h1 R0 hK
  go_enter Tryz.func95, Tryz.ntmps95
  go_wp2_with fail
  refine C.mono ?_
  rintro e w2 ⟨hb2, hr2⟩
  obtain ⟨k, j, t, q, l, c, rfl⟩ := hr2.form
  have R2 := R1.beside hb2 (by omega)
  obtain ⟨c0, c1, c2, c3, f0, f1, f2, f3⟩ := id R2
  have hl2 := R2.lt
  rw [hz1] at hr2
  clear C
  go_wp2
  have R3 := R2.put (.int .i64 k) (.int .i64 j) (.string t) (.slice q l c)
  obtain ⟨y0, y1, y2, y3, _, _, _, _⟩ := R3
  unfold put4 at y0 y1 y2 y3
  exact bodyPost_ret (v := .tuple #[.agg #[.int .i64 k, .int .i64 j, .string t, .slice q l c], .bool (rowP (shiftsP p) [8] s).isSome]) (by simp [results, Tryz.results95, go_sem, y0, y1, y2, y3]) rfl
    ⟨(hb1.trans hb2).putNew hbw (Nat.le_refl _) _ _ _ _, (hr2.put (by omega) (by omega) _ _ _ _).low (by omega)⟩

set_option maxHeartbeats 800000 in
set_option maxRecDepth 20000 in
theorem ors_ok (b d : Nat) (hg : gtop ≤ b) (p : Rd) (hp : PartOk b d 95 (andsP p)) (hs : Shrinks (andsP p)) : PartOk b d 90 (orsP p) := by
  intro w s T h hl
  have hbw := h.lt
  have h0 := below_new w (.cells #[.int .i64 0, .int .i64 0, .string ⟨#[]⟩, .slice none 0 0] 107)
  have R0 := Blk.new w 107 (.int .i64 0) (.int .i64 0) (.string ⟨#[]⟩) (.slice none 0 0)
  have hz0 : (w.alloc (.cells #[.int .i64 0, .int .i64 0, .string ⟨#[]⟩, .slice none 0 0] 107)).heap.size = w.heap.size + 1 := by simp
  have hbw0 : b < (w.alloc (.cells #[.int .i64 0, .int .i64 0, .string ⟨#[]⟩, .slice none 0 0] 107)).heap.size := by omega
  have h1 := below_new (w.alloc (.cells #[.int .i64 0, .int .i64 0, .string ⟨#[]⟩, .slice none 0 0] 107)) (.cells #[.int .i64 9] 3)
  have hK := kinds1 hbw0 9
  have C := row_any b d hg 95 (enters_of Tryz.func95 (by kernel_rfl) rfl) _ hp hs _ [9] (by decide) (by decide) _ s ((T.later h0).later h1) ((h.later h0).later h1) hK hl
  rw [hz0] at C
  have R1 := R0.later h1
  have hz1 : ((w.alloc (.cells #[.int .i64 0, .int .i64 0, .string ⟨#[]⟩, .slice none 0 0] 107)).alloc (.cells #[.int .i64 9] 3)).heap.size = w.heap.size + 2 := by simp
  have hb1 : Beside b w ((w.alloc (.cells #[.int .i64 0, .int .i64 0, .string ⟨#[]⟩, .slice none 0 0] 107)).alloc (.cells #[.int .i64 9] 3)) := ((Beside.refl b w).alloc hbw _).alloc hbw _
  have hmf := hmf
  clear hp hs T h hl h0 h1 R0 hK
  go_enter Tryz.func90, Tryz.ntmps90
  go_wp2_with fail
  refine C.mono ?_
  rintro e w2 ⟨hb2, hr2⟩
  obtain ⟨k, j, t, q, l, c, rfl⟩ := hr2.form
  have R2 := R1.beside hb2 (by omega)
  obtain ⟨c0, c1, c2, c3, f0, f1, f2, f3⟩ := id R2
  have hl2 := R2.lt
  rw [hz1] at hr2
  clear C
  go_wp2
  have R3 := R2.put (.int .i64 k) (.int .i64 j) (.string t) (.slice q l c)
  obtain ⟨y0, y1, y2, y3, _, _, _, _⟩ := R3
  unfold put4 at y0 y1 y2 y3
  exact bodyPost_ret (v := .tuple #[.agg #[.int .i64 k, .int .i64 j, .string t, .slice q l c], .bool (rowP (andsP p) [9] s).isSome]) (by simp [results, Tryz.results90, go_sem, y0, y1, y2, y3]) rfl
    ⟨(hb1.trans hb2).putNew hbw (Nat.le_refl _) _ _ _ _, (hr2.put (by omega) (by omega) _ _ _ _).low (by omega)⟩

theorem ors_all (b d : Nat) (hg : gtop ≤ b) (p : Rd) (hp : PartOk b d 118 p) (hs : Shrinks p) : PartOk b d 90 (orsP p) ∧ Shrinks (orsP p) := by
  have h1 := products_ok b d hg p hp hs
  have s1 : Shrinks (productsP p) := rowP_shrinks hs _
  have h2 := sums_ok b d hg p h1 s1
  have s2 : Shrinks (sumsP p) := rowP_shrinks s1 _
  have h3 := shifts_ok b d hg p h2 s2
  have s3 : Shrinks (shiftsP p) := rowP_shrinks s2 _
  have h4 := ands_ok b d hg p h3 s3
  have s4 : Shrinks (andsP p) := rowP_shrinks s3 _
  exact ⟨ors_ok b d hg p h4 s4, rowP_shrinks s4 _⟩
end Go.Proofs.YtkaclahcpmogaaaGreatDoor

namespace Go.Proofs.YtkaclahcpmogaaaGreatDoor
open Go.ChangeShapes Go.WideShapes Go.ChangeAt Go.RowKit
set_option linter.unusedVariables false
set_option linter.unusedSimpArgs false

/-- A block of that type holds a builder at its head. -/
def Heads (T : TypeId) : Prop := liesAt Tryz.prog Tryz.prog.depth T (2 / Tryz.prog.cellsOf T) 0 171 1 = true ∧ T ≠ 5
theorem heads_builder : Heads 171 := ⟨by kernel_rfl, by decide⟩

/-- The builder at k, in a block of type T, holds these bytes, in a row of its own behind k. -/
def Bld (T : TypeId) (k : Nat) (w : World) (l : Bs) : Prop :=
  ∃ p v, (p = .pointer none ∨ p = .pointer (some ⟨k, 0, none⟩)) ∧ w.heap[k]? = some (.cells #[p, v] T (0, 0)) ∧ w.ownsRow (k + 1) 5 1 v l.length (Lib.byteCells l)

theorem Bld.lt {T : TypeId} {k : Nat} {w : World} {l : Bs} (h : Bld T k w l) : k < w.heap.size := by
  obtain ⟨p, v, _, hb, _⟩ := h
  exact (Array.getElem?_eq_some_iff.1 hb).1

theorem infoB : ∃ j, Tryz.prog.info? 171 = some j ∧ j.size = 2 := by
  have h : (Tryz.prog.info? 171).map (·.size) = some 2 := by kernel_rfl
  rw [Option.map_eq_some_iff] at h
  exact h

set_option maxHeartbeats 800000 in
set_option maxRecDepth 100000 in
theorem copyCheck_any (T : TypeId) (hT : Heads T) (k : Nat) (p v : Value) (hp : p = .pointer none ∨ p = .pointer (some ⟨k, 0, none⟩)) (w : World) (hk : w.heap[k]? = some (.cells #[p, v] T (0, 0))) :
    Calls Tryz.prog 141 #[.pointer (some ⟨k, 0, none⟩)] w fun e w' => e = .returned (.tuple #[]) ∧ w'.heap[k]? = some (.cells #[.pointer (some ⟨k, 0, none⟩), v] T (0, 0)) ∧ (w' = w.setCell ⟨k, 0, none⟩ (.pointer (some ⟨k, 0, none⟩)) ∨ w' = w) := by
  obtain ⟨j, hj, hs⟩ := infoB
  have c0 : w.cell? ⟨k, 0, none⟩ = some p := by rw [Lib.cell_of_heap hk]; rfl
  have f0 : w.frozen? ⟨k, 0, none⟩ = false := Lib.frozen_of_heap hk 0
  have hsh : w.shape? k = some (T, 2) := by simp [World.shape?, hk]
  rcases hp with rfl | rfl
  · have h1 : (convert 169 185 (.pointer (some ⟨k, 0, none⟩))).run Tryz.prog w = .ok (.pointer (some ⟨k, 0, none⟩)) w := Lib.run_to_unsafe w _ Tryz.underlying169 Tryz.underlying185 hj (by omega) hsh (by simp)
    have h2 : (convert 185 169 (.pointer (some ⟨k, 0, none⟩))).run Tryz.prog w = .ok (.pointer (some ⟨k, 0, none⟩)) w := Lib.run_from_unsafe w _ Tryz.underlying185 Tryz.underlying169 hj hsh hT.1
    have h3 : ∀ x, (callFunc 147 #[x]).run Tryz.prog w = .ok (.value x) w := fun x => by rw [run_callFunc_extern Tryz.func147 (by kernel_rfl) (by kernel_rfl) (by kernel_rfl) (e := Extern.AbiNoEscape.same) (by kernel_rfl), Lib.run_noEscape]; rfl
    go_enter Tryz.func141, Tryz.ntmps141
    go_wp2
    go_end0
    refine ⟨rfl, ?_, .inl rfl⟩
    simp [World.setCell, Array.getElem?_modify, hk]
  · have h4 : ∀ W, (binOp .neq 169 (.pointer (some ⟨k, 0, none⟩)) (.pointer (some ⟨k, 0, none⟩))).run Tryz.prog W = .ok (.bool false) W := fun W => Lib.run_neq_ptr_same W _ Tryz.underlying169 hj
    go_enter Tryz.func141, Tryz.ntmps141
    go_wp2
    go_end0
    exact ⟨rfl, hk, .inr rfl⟩

theorem owns_of_block {w w' : World} {base : Nat} {e : TypeId} {v : Value} {n : Nat} {xs : List Value} (h : w.ownsRow base e 1 v n xs) (hb : ∀ g, base ≤ g → w'.heap[g]? = w.heap[g]?) : w'.ownsRow base e 1 v n xs := by
  refine ⟨h.1, ?_⟩
  rcases h.2 with hn | ⟨g, cap, cur, h1, h2, h3, h4⟩
  · exact .inl hn
  · exact .inr ⟨g, cap, cur, h1, h2, (hb g h2).trans h3, h4⟩

/-- Behind the copy check. -/
theorem checked {T : TypeId} {k : Nat} {p v : Value} {w w1 : World} (hk : w.heap[k]? = some (.cells #[p, v] T (0, 0))) (h : w1 = w.setCell ⟨k, 0, none⟩ (.pointer (some ⟨k, 0, none⟩)) ∨ w1 = w) :
    Below k w w1 ∧ Lib.OthersKept 5 (some k) w w1 ∧ ∀ g, k + 1 ≤ g → w1.heap[g]? = w.heap[g]? := by
  rcases h with rfl | rfl
  · exact ⟨(Below.refl _ _).setCell (p := ⟨k, 0, none⟩) (Nat.le_refl _) _, (Lib.OthersKept.refl _ _ _).setCell ⟨k, 0, none⟩ rfl _, fun g hg => Below.heap_setCell _ _ _ _ (by simp; omega)⟩
  · exact ⟨Below.refl _ _, Lib.OthersKept.refl _ _ _, fun _ _ => rfl⟩

theorem row_kind {w : World} {base : Nat} {e : TypeId} {v : Value} {n : Nat} {xs : List Value} (h : w.ownsRow base e 1 v n xs) : ∀ g, v.ownBlock = some g → base ≤ g ∧ ∃ c fz, w.heap[g]? = some (.cells c e fz) := by
  intro g hg
  rcases h.2 with ⟨rfl, _⟩ | ⟨g', cap, cur, rfl, h2, h3, _⟩
  · cases hg
  · cases hg; exact ⟨h2, _, _, h3⟩

theorem row_slice {w : World} {base : Nat} {e : TypeId} {v : Value} {n : Nat} {xs : List Value} (h : w.ownsRow base e 1 v n xs) : ∃ a c, v = .slice a n c := by
  rcases h.2 with ⟨rfl, rfl⟩ | ⟨g', cap, cur, rfl, _⟩
  · exact ⟨_, _, rfl⟩
  · exact ⟨_, _, rfl⟩

theorem infoU8 : (Tryz.prog.info? 5).map (fun i => (i.zero, i.size, i.bytes)) = some (some (.int .u8 0), 1, 1) := by kernel_rfl

theorem strCells_bs (s : Bs) : Lib.strCells (bs s) = Lib.byteCells s := by
  unfold Lib.strCells Lib.byteCells
  simp [bs]

set_option maxHeartbeats 2000000 in
set_option maxRecDepth 100000 in
/-- One ASCII byte behind a row of the call's own. -/
theorem appendRune_any (base : Nat) (v : Value) (l : Bs) (c : UInt8) (hc : c.toNat < 128) (w : World) (hown : w.ownsRow base 5 1 v l.length (Lib.byteCells l)) (hlen : l.length + 1 ≤ 140737488355328) (hbase : base ≤ w.heap.size) :
    Calls Tryz.prog 142 #[v, .int .i32 c.toNat] w fun e w' => ∃ v', e = .returned v' ∧ w'.ownsRow base 5 1 v' (l ++ [c]).length (Lib.byteCells (l ++ [c])) ∧ ∃ o, (w.alloc o).grownBy w' v.ownBlock := by
  obtain ⟨i0, hi, hz0, hz1, hz2⟩ := info_parts infoU8
  have h1 : (c.toNat : Int) ≤ 127 := by omega
  have h0 : (0 : Int) ≤ (c.toNat : Int) := by omega
  have e1 : ((c.toNat : Int)) % 4294967296 = c.toNat := by omega
  have e2 : ((c.toNat : Int)) % 256 = c.toNat := by omega
  obtain ⟨a, cap, rfl⟩ := row_slice hown
  go_enter Tryz.func142, Tryz.ntmps142
  go_wp2_with (at_builtin; refine wpList_append_own _ rfl _ _ 23 rfl base 5 i0 (.int .u8 0) 1 1 Tryz.underlying23 hi hz0 hz1 hz2 rfl (by decide) _ _ _ rfl (hown.alloc _) ⟨w.heap.size, 0, none⟩ 1 1 [.int .u8 c.toNat] rfl rfl ?c1 ?c2 ?c3 ?c4 ?c5 ?_)
  case c1 =>
    intro j u hj
    match j, hj with
    | 0, hj => simp at hj; subst hj; simp [Addr.add]
  case c2 => intro u hu; simp at hu; subst hu; rfl
  case c3 => unfold maxLen; omega
  case c4 => omega
  case c5 => simp; omega
  intro v' w2 hown' hgrow _
  go_wp2
  go_ret
  refine ⟨v', rfl, ?_, _, hgrow⟩
  rw [Lib.byteCells_append, show Lib.byteCells [c] = [.int .u8 (c.toNat : Int)] from rfl]
  simpa using hown'

set_option maxHeartbeats 2000000 in
set_option maxRecDepth 100000 in
theorem writeRune_any (T : TypeId) (hT : Heads T) (k : Nat) (l : Bs) (c : UInt8) (hc : c.toNat < 128) (w : World) (h : Bld T k w l) (hlen : l.length + 1 ≤ 140737488355328) :
    Calls Tryz.prog 135 #[.pointer (some ⟨k, 0, none⟩), .int .i32 c.toNat] w fun e w' => e = .returned (.tuple #[.int .i64 1, .nilIface]) ∧ Bld T k w' (l ++ [c]) ∧ Below k w w' ∧ Lib.OthersKept 5 (some k) w w' := by
  have hlt := h.lt
  obtain ⟨p, v, hp, hk, hown⟩ := h
  have C := copyCheck_any T hT k p v hp w hk
  obtain ⟨a, cap, rfl⟩ := row_slice hown
  go_enter Tryz.func135, Tryz.ntmps135
  go_wp2_with (go_at_call 141; refine C.mono ?_)
  rintro e w1 ⟨rfl, hk1, hw1⟩
  obtain ⟨hb1, ho1, hbl⟩ := checked hk hw1
  have hown1 := owns_of_block hown hbl
  have c0 : w1.cell? ⟨k, 0, none⟩ = some (.pointer (some ⟨k, 0, none⟩)) := by rw [Lib.cell_of_heap hk1]; rfl
  have c1 : w1.cell? ⟨k, 1, none⟩ = some (.slice a l.length cap) := by rw [Lib.cell_of_heap hk1]; rfl
  have hsz1 := hb1.size
  have A := appendRune_any (k + 1) _ l c hc w1 hown1 hlen (by omega)
  clear hown C hw1
  go_wp2_with (go_at_call 142; refine A.mono ?_)
  rintro e w2 ⟨v', rfl, hown', o, hgrow⟩
  have hk2 : w2.heap[k]? = some (.cells #[.pointer (some ⟨k, 0, none⟩), .slice a l.length cap] T (0, 0)) := by
    rw [hgrow.block k (by simp; omega) (fun e => by have := (row_kind hown1 k e.symm).1; omega), Below.heap_alloc _ _ _ (by omega)]
    exact hk1
  have d1 : w2.cell? ⟨k, 1, none⟩ = some (.slice a l.length cap) := by rw [Lib.cell_of_heap hk2]; rfl
  have f1 : w2.frozen? ⟨k, 1, none⟩ = false := Lib.frozen_of_heap hk2 1
  obtain ⟨a', c', rfl⟩ := row_slice hown'
  have hl2 : (l ++ [c]).length = l.length + 1 := by simp
  have hrow : ∀ g, Value.ownBlock (.slice a l.length cap) = some g → ∃ c fz, (w1.alloc o).heap[g]? = some (.cells c 5 fz) := by
    intro g hg
    obtain ⟨h1, c2, fz, h2⟩ := row_kind hown1 g hg
    refine ⟨c2, fz, ?_⟩
    rw [Below.heap_alloc _ _ _ (Array.getElem?_eq_some_iff.1 h2).1]
    exact h2
  have hbk2 : Below k w w2 := (hb1.alloc (by omega) o).grown hgrow (by simp; omega) (fun g hg => by have := (row_kind hown1 g hg).1; omega)
  have hok2 := (ho1.alloc o).grown hgrow hrow
  have hlI : (l.length : Int) + 1 ≤ 140737488355328 := by omega
  rw [hl2] at hown'
  rw [hl2]
  have dlt : k < w2.heap.size := (Array.getElem?_eq_some_iff.1 hk2).1
  clear hown1 hgrow c0 c1 A hrow
  go_wp2
  have e1 : ((l.length : Int) + 1 - l.length) = 1 := by omega
  rw [e1]
  go_ret2
  refine ⟨rfl, ⟨.pointer (some ⟨k, 0, none⟩), _, .inr rfl, ?_, owns_of_block (w := w2) (by rw [hl2]; exact hown') (fun g hg => Below.heap_setCell _ _ _ _ (by simp; omega))⟩, hbk2.setCell (p := ⟨k, 1, none⟩) (Nat.le_refl _) _, hok2.setCell ⟨k, 1, none⟩ rfl _⟩
  simp [World.setCell, Array.getElem?_modify, hk2]

theorem Bld.is {T : TypeId} {k : Nat} {w : World} {l : Bs} (h : Bld T k w l) : Lib.IsBuilder T 5 k k (Lib.byteCells l) w := by
  obtain ⟨p, v, hp, hk, hown⟩ := h
  have h1 : w.ownsRow k 5 1 v (Lib.byteCells l).length (Lib.byteCells l) := by
    rw [Lib.byteCells_length]
    refine ⟨hown.1, ?_⟩
    rcases hown.2 with hn | ⟨g, cap, cur, h1, h2, h3⟩
    · exact .inl hn
    · exact .inr ⟨g, cap, cur, h1, by omega, h3⟩
  have h2 : v.ownBlock ≠ some k := fun e => by have := (row_kind hown k e).1; omega
  rcases hp with rfl | rfl
  · exact .inl ⟨Nat.le_refl _, v, hk, h1, h2⟩
  · exact .inr ⟨Nat.le_refl _, v, hk, h1, h2⟩

theorem Bld.new (w : World) (T : TypeId) : Bld T w.heap.size (w.alloc (.cells #[.pointer none, .slice none 0 0] T)) [] :=
  ⟨.pointer none, .slice none 0 0, .inl rfl, by show (w.heap.push _)[w.heap.size]? = _; simp, rfl, .inl ⟨rfl, rfl⟩⟩

/-- Where the builder's block and all rows behind it stay. -/
theorem Bld.of_blocks {T : TypeId} {k : Nat} {w w' : World} {l : Bs} (h : Bld T k w l) (hb : ∀ g c t fz, k ≤ g → w.heap[g]? = some (.cells c t fz) → w'.heap[g]? = some (.cells c t fz)) : Bld T k w' l := by
  obtain ⟨p, v, hp, hk, hown⟩ := h
  refine ⟨p, v, hp, hb k _ _ _ (Nat.le_refl _) hk, hown.1, ?_⟩
  rcases hown.2 with hn | ⟨g, cap, cur, h1, h2, h3, h4⟩
  · exact .inl hn
  · exact .inr ⟨g, cap, cur, h1, h2, hb g _ _ _ (by omega) h3, h4⟩
theorem Bld.alloc {T : TypeId} {k : Nat} {w : World} {l : Bs} (h : Bld T k w l) (o : Obj) : Bld T k (w.alloc o) l :=
  h.of_blocks fun g c t fz _ hg => by rw [Below.heap_alloc _ _ _ (Array.getElem?_eq_some_iff.1 hg).1]; exact hg
theorem Bld.iterAt {T : TypeId} {k : Nat} {w : World} {l : Bs} (h : Bld T k w l) {j : Nat} {s : ByteArray} {pos : Nat} (hj : w.heap[j]? = some (.stringIter s pos)) (pos' : Nat) : Bld T k (w.iterAt j s pos') l :=
  h.of_blocks fun g c t fz _ hg => by
    rw [Lib.iterAt_other _ _ _ _ _ (fun e => by subst e; rw [hj] at hg; cases hg)]; exact hg
end Go.Proofs.YtkaclahcpmogaaaGreatDoor

namespace Go.Proofs.YtkaclahcpmogaaaGreatDoor
open Go.ChangeShapes Go.WideShapes Go.ChangeAt Go.RowKit
set_option linter.unusedVariables false
set_option linter.unusedSimpArgs false

def letterR (c : Int) : Bool := (decide (97 ≤ c) && decide (c ≤ 122)) || decide (c = 95)
def digitR (c : Int) : Bool := decide (48 ≤ c) && decide (c ≤ 57)

theorem digit_any (c : Int) (w : World) : Calls Tryz.prog 134 #[.int .i32 c] w fun e w' => e = .returned (.bool (digitR c)) ∧ w' = w := by
  by_cases h : 48 ≤ c
  · go_enter Tryz.func134, Tryz.ntmps134
    go_wp2
    go_ret
    simp [digitR, h]
  · have h' : ¬ (48 : Int) ≤ c := h
    go_enter Tryz.func134, Tryz.ntmps134
    go_wp2
    go_ret
    simp [digitR]; omega

theorem letter_any (c : Int) (w : World) : Calls Tryz.prog 133 #[.int .i32 c] w fun e w' => e = .returned (.bool (letterR c)) ∧ w' = w := by
  by_cases h : 97 ≤ c
  · by_cases h2 : c ≤ 122
    · go_enter Tryz.func133, Tryz.ntmps133
      go_wp2
      go_ret
      simp [letterR, h, h2]
    · have h3 : ¬ c = 95 := by omega
      go_enter Tryz.func133, Tryz.ntmps133
      go_wp2
      go_ret
      have e : (c == 95) = false := by simpa using h3
      have e2 : decide (c ≤ 122) = false := by simp; omega
      simp [letterR, e, e2, h3]
  · go_enter Tryz.func133, Tryz.ntmps133
    go_wp2
    go_ret
    have e2 : decide (97 ≤ c) = false := by simp; omega
    have e : (c == 95) = decide (c = 95) := rfl
    simp [letterR, e, e2]

theorem run_split (s : Bs) (pos : Nat) (h1 : ∀ c ∈ s.take pos, runB c = true) (h2 : ∀ c, s[pos]? = some c → runB c = false) : s.takeWhile runB = s.take pos ∧ s.dropWhile runB = s.drop pos := by
  induction s generalizing pos with
  | nil => simp
  | cons a s ih =>
    cases pos with
    | zero =>
      have := h2 a rfl
      simp [List.takeWhile, List.dropWhile, this]
    | succ n =>
      have ha := h1 a (by simp)
      have := ih n (fun c hc => h1 c (by simp [hc])) (fun c hc => h2 c (by simpa using hc))
      simp [List.takeWhile, List.dropWhile, ha, this.1, this.2]

theorem runB_eq (c : UInt8) : runB c = (letterR (c.toNat : Int) || digitR (c.toNat : Int)) := by
  unfold runB letterB digitB letterR digitR
  congr 1
  · congr 1
    · congr 1 <;> (rw [decide_eq_decide]; omega)
    · rw [decide_eq_decide]; omega
  · congr 1 <;> (rw [decide_eq_decide]; omega)

theorem Beside.then {b : Nat} {w w1 w2 : World} (h : Beside b w w1) (hb : Below w.heap.size w1 w2) (hl : b < w.heap.size) : Beside b w w2 :=
  ⟨h.below.trans (hb.mono (Nat.le_of_lt hl)), fun k h1 h2 => (hb.block k h2).trans (h.above k h1 h2)⟩

theorem bs_extract (s : Bs) (pos : Nat) : (bs s).extract pos s.length = bs (s.drop pos) := by
  apply ByteArray.ext
  simp [bs, ByteArray.extract, ByteArray.copySlice]
  rw [List.take_of_length_le (by rw [List.length_drop]; omega)]

theorem run_tail {b : Nat} {s : Bs} {d : Nat} {w X : World} {pos : Nat} (h : Rdr w b s d) (hb : Below w.heap.size w X) (hI : Bld 171 w.heap.size X (s.take pos)) :
    Calls Tryz.prog 137 #[.pointer (some ⟨w.heap.size, 0, none⟩)] (X.setCell ⟨b, 0, none⟩ (.string ((bs s).extract pos s.length))).drew fun e W1 => e = .returned (.string (bs (s.take pos))) ∧ Beside b w W1 ∧ Rdr W1 b (s.drop pos) d := by
  have hbw := h.lt
  rw [bs_extract]
  have hI2 : Bld 171 w.heap.size (X.setCell ⟨b, 0, none⟩ (.string (bs (s.drop pos)))).drew (s.take pos) :=
    hI.of_blocks fun g c t fz hg h => (Below.heap_setCell X ⟨b, 0, none⟩ _ g (by simp; omega)).trans h
  refine (Tryz.Builder_String_any_k w.heap.size w.heap.size (s.take pos) _ (Lib.IsBuilderF.of hI2.is) (by simpa using hb.size)).mono ?_
  rintro e W1 ⟨rfl, _, b1, _⟩
  have h1 : Beside b w (X.setCell ⟨b, 0, none⟩ (.string (bs (s.drop pos)))).drew := by
    have h2 := (Beside.of hb hbw).trans (Beside.set (a := ⟨b, 0, none⟩) X rfl (.string (bs (s.drop pos))))
    exact ⟨⟨h2.below.os, h2.below.tape, h2.below.output, h2.below.size, h2.below.block⟩, h2.above⟩
  refine ⟨rfl, h1.then b1 hbw, ?_⟩
  have h3 : Rdr (X.setCell ⟨b, 0, none⟩ (.string (bs (s.drop pos)))).drew b (s.drop pos) d := ((h.later hb).put _).of_block rfl
  exact h3.of_block (b1.block b hbw)

set_option maxHeartbeats 4000000 in
set_option maxRecDepth 100000 in
theorem run_any (b : Nat) (s : Bs) (d : Nat) (w : World) (h : Rdr w b s d) (hl : s.length ≤ 35184372088832) :
    Calls Tryz.prog 126 #[.pointer (some ⟨b, 0, none⟩)] w fun e w' => e = .returned (.string (bs (s.takeWhile runB))) ∧ Beside b w w' ∧ Rdr w' b (s.dropWhile runB) d := by
  have hbw := h.lt
  have c0 := h.c0
  have hsz0 : (bs s).size = s.length := bs_size s
  have hget : ∀ (pos : Nat) (hp : pos < (bs s).size), s[pos]? = some ((bs s)[pos]'hp) := by
    intro pos hp
    have hp' : pos < s.length := by rw [← hsz0]; exact hp
    rw [List.getElem?_eq_getElem hp']
    exact congrArg some (show s[pos] = s.toArray[pos]'(by simpa using hp') by simp)
  go_enter Tryz.func126, Tryz.ntmps126
  go_wp2
  go_loopw [] (fun wr => ∃ pos : Nat, pos ≤ s.length ∧ Bld 171 w.heap.size wr (s.take pos) ∧ wr.heap[w.heap.size + 1]? = some (.stringIter (bs s) pos) ∧ Below w.heap.size w wr ∧ ∀ c ∈ s.take pos, runB c = true) (fun wr => s.length - wr.iterPos (w.heap.size + 1))
  case atStart =>
    refine ⟨0, by omega, (Bld.new w 171).alloc _, ?_, ((Below.refl _ w).alloc (Nat.le_refl _) _).alloc (by simp) _, by simp⟩
    have := World.iter_heap (w.alloc (.cells #[.pointer none, .slice none 0 0] 171)) (bs s) 0
    simpa using this
  case round =>
    obtain ⟨pos, hpos, hI, hit, hbw1, hall⟩ := hrel
    have hsz : w.heap.size + 1 < wr.heap.size := (Array.getElem?_eq_some_iff.1 hit).1
    by_cases hp : pos < (bs s).size
    · have hnx : ∀ ty, (Instr.next (.pointer (some ⟨w.heap.size + 1, 0, none⟩)) true ty).run Tryz.prog wr = _ := fun ty => Lib.run_next_any_at wr (w.heap.size + 1) (bs s) pos ty hit hp
      have hd1 := decode_le (bs s) pos
      have hI2 := hI.iterAt hit (pos + (Utf8.decode (bs s) pos).2)
      have hit2 := Lib.iterAt_heap wr (w.heap.size + 1) (bs s) pos (pos + (Utf8.decode (bs s) pos).2) hit
      have hbw2 := Lib.below_iterAt hbw1 (k := w.heap.size + 1) (by omega) (bs s) (pos + (Utf8.decode (bs s) pos).2)
      have hsz2 : w.heap.size ≤ (wr.iterAt (w.heap.size + 1) (bs s) (pos + (Utf8.decode (bs s) pos).2)).heap.size := by rw [Lib.iterAt_size]; omega
      have hgp := hget pos hp
      have L := fun W => letter_any ((Utf8.decode (bs s) pos).1 : Int) W
      have D := fun W => digit_any ((Utf8.decode (bs s) pos).1 : Int) W
      by_cases hrun : (letterR ((Utf8.decode (bs s) pos).1 : Int) || digitR ((Utf8.decode (bs s) pos).1 : Int)) = true
      · have hasc : ((bs s)[pos]'hp).toNat < 128 := by
          by_cases hx : ((bs s)[pos]'hp).toNat < 128
          · exact hx
          · have := (decode_high (bs s) pos hp (by omega)).1
            unfold letterR digitR at hrun
            simp at hrun
            omega
        have hdec := decode_ascii (bs s) pos hp hasc
        rw [hdec] at hnx hI2 hit2 hbw2 hsz2 L D hrun
        simp only at hnx hI2 hit2 hbw2 hsz2 L D hrun
        clear hd1 hdec
        have hr1 : runB ((bs s)[pos]'hp) = true := by rw [runB_eq]; exact hrun
        obtain ⟨cc, hcc⟩ : ∃ cc, cc = (bs s)[pos]'hp := ⟨_, rfl⟩
        rw [← hcc] at hnx L D hrun hr1 hgp hasc
        have HC : Hid (cc = (bs s)[pos]'hp) := hcc
        clear hcc
        have hlen : (s.take pos).length = pos := by rw [List.length_take]; rw [← hsz0] at *; omega
        have htk : s.take (pos + 1) = s.take pos ++ [cc] := by rw [List.take_add_one, hgp]; rfl
        have W := writeRune_any 171 heads_builder w.heap.size (s.take pos) cc hasc _ hI2 (by rw [hlen]; omega)
        rw [← htk] at W
        have hall2 : ∀ c ∈ s.take (pos + 1), runB c = true := by
          intro c hc
          rw [htk, List.mem_append] at hc
          rcases hc with hc | hc
          · exact hall c hc
          · simp at hc; subst hc; exact hr1
        have hme : pos + 1 ≤ s.length := by omega
        clear hI hI2 hall hlen htk hgp hget hr1 hasc HC
        cases hL : letterR (cc.toNat : Int) with
        | true =>
          rw [hL] at L
          go_wp2_with (first | (go_at_call 133; refine (L _).mono ?_; rintro e w' ⟨rfl, rfl⟩) | (go_at_call 134; refine (D _).mono ?_; rintro e w' ⟨rfl, rfl⟩) | (go_at_call 135; refine W.mono ?_; rintro e W1 ⟨rfl, h1, b1, k1⟩))
          go_roundw
          case rel => exact ⟨pos + 1, hme, h1, k1.iter hit2 (by omega), hbw2.trans b1, hall2⟩
          case measure =>
            simp only [World.iterPos, k1.iter hit2 (by omega), hit]
            omega
        | false =>
          rw [hL] at L hrun
          rw [Bool.false_or] at hrun
          rw [hrun] at D
          go_wp2_with (first | (go_at_call 133; refine (L _).mono ?_; rintro e w' ⟨rfl, rfl⟩) | (go_at_call 134; refine (D _).mono ?_; rintro e w' ⟨rfl, rfl⟩) | (go_at_call 135; refine W.mono ?_; rintro e W1 ⟨rfl, h1, b1, k1⟩))
          go_roundw
          case rel => exact ⟨pos + 1, hme, h1, k1.iter hit2 (by omega), hbw2.trans b1, hall2⟩
          case measure =>
            simp only [World.iterPos, k1.iter hit2 (by omega), hit]
            omega
      · have hrun : (letterR ((Utf8.decode (bs s) pos).1 : Int) || digitR ((Utf8.decode (bs s) pos).1 : Int)) = false := by simpa using hrun
        have hsp := run_split s pos hall (by
          intro c hc
          rw [hgp] at hc
          cases hc
          by_cases hx : ((bs s)[pos]'hp).toNat < 128
          · rw [decode_ascii (bs s) pos hp hx] at hrun
            rw [runB_eq]; exact hrun
          · rw [runB_eq]
            unfold letterR digitR
            simp
            omega)
        rw [Bool.or_eq_false_iff] at hrun
        rw [hrun.1] at L
        rw [hrun.2] at D
        have hlen : (s.take pos).length = pos := by rw [List.length_take]; omega
        have hI3 : Bld 171 w.heap.size (wr.iterAt (w.heap.size + 1) (bs s) (pos + (Utf8.decode (bs s) pos).2)).drew (s.take pos) := hI2
        have Ln := Tryz.Builder_Len_f w.heap.size w.heap.size _ _ (Lib.IsBuilderF.of hI3.is)
        rw [Lib.byteCells_length, hlen] at Ln
        have St := run_tail h hbw2 hI2
        have hR := h.later hbw2
        have r0 := hR.c0
        have rf := hR.f0
        have hblt := hR.lt
        have hpI : (pos : Int) ≤ ((bs s).size : Int) := by omega
        clear hI hget hall
        go_wp2_with (first | (go_at_call 133; refine (L _).mono ?_; rintro e w' ⟨rfl, rfl⟩) | (go_at_call 134; refine (D _).mono ?_; rintro e w' ⟨rfl, rfl⟩) | (go_at_call 136; refine Ln.mono ?_; rintro e w' ⟨rfl, rfl⟩))
        go_region_with (go_at_call 136; refine Ln.mono ?_; rintro e w' ⟨rfl, rfl⟩)
        all_goals (go_wp2_with (go_at_call 137; refine St.mono ?_; rintro e W1 ⟨rfl, b1, hR1⟩))
        all_goals go_ret
        all_goals (rw [hsp.1, hsp.2]; exact ⟨rfl, b1, hR1⟩)
    · have hnx : ∀ ty, (Instr.next (.pointer (some ⟨w.heap.size + 1, 0, none⟩)) true ty).run Tryz.prog wr = _ := fun ty => Lib.run_next_end_at wr (w.heap.size + 1) (bs s) pos ty hit hp
      have hpe : pos = s.length := by omega
      have hsp := run_split s pos hall (by
        intro c hc
        rw [hpe] at hc
        simp at hc)
      have hlen : (s.take pos).length = pos := by rw [List.length_take]; omega
      have hI3 : Bld 171 w.heap.size wr.drew (s.take pos) := hI
      have Ln := Tryz.Builder_Len_f w.heap.size w.heap.size _ _ (Lib.IsBuilderF.of hI3.is)
      rw [Lib.byteCells_length, hlen] at Ln
      have St := run_tail h hbw1 hI
      have hR := h.later hbw1
      have r0 := hR.c0
      have rf := hR.f0
      have hblt := hR.lt
      have hpI : (pos : Int) ≤ ((bs s).size : Int) := by omega
      clear hI hget hall hpe
      go_wp2
      go_region_with (go_at_call 136; refine Ln.mono ?_; rintro e w' ⟨rfl, rfl⟩)
      all_goals (go_wp2_with (go_at_call 137; refine St.mono ?_; rintro e W1 ⟨rfl, b1, hR1⟩))
      all_goals go_ret
      all_goals (rw [hsp.1, hsp.2]; exact ⟨rfl, b1, hR1⟩)
end Go.Proofs.YtkaclahcpmogaaaGreatDoor

namespace Go.Proofs.YtkaclahcpmogaaaGreatDoor
open Go.ChangeShapes Go.WideShapes Go.ChangeAt Go.RowKit
set_option linter.unusedVariables false
set_option linter.unusedSimpArgs false

def digitN (x : Nat) : Bool := digitR (x : Int)

theorem digitB_N (c : UInt8) : digitB c = digitN c.toNat := by
  unfold digitB digitN digitR
  congr 1 <;> (rw [decide_eq_decide]; omega)

theorem bs_get {s : Bs} {pos : Nat} {c : UInt8} (h : s[pos]? = some c) : ∃ hp : pos < (bs s).size, (bs s)[pos]'hp = c := by
  obtain ⟨h1, h2⟩ := List.getElem?_eq_some_iff.1 h
  refine ⟨by rw [bs_size]; exact h1, ?_⟩
  rw [← h2]
  exact (show s.toArray[pos]'(by simpa using h1) = s[pos] by simp)

theorem idx_all (t : Bs) (ha : ∀ c ∈ t, c.toNat < 128) : ∀ (f pos : Nat), t.length ≤ pos + f → (Lib.idxFuncFrom digitN false (bs t) f pos = -1 ↔ (t.drop pos).all digitB = true)
  | 0, pos, h => by
    have : t.drop pos = [] := List.drop_eq_nil_of_le (by omega)
    simp [Lib.idxFuncFrom, this]
  | f + 1, pos, h => by
    unfold Lib.idxFuncFrom
    by_cases hp : pos < t.length
    · obtain ⟨c, hc⟩ : ∃ c, t[pos]? = some c := ⟨_, List.getElem?_eq_getElem hp⟩
      obtain ⟨hp', e⟩ := bs_get hc
      have h128 := ha c (List.mem_of_getElem? hc)
      have hd := decode_ascii (bs t) pos hp' (by rw [e]; exact h128)
      rw [if_pos hp', hd, e]
      obtain ⟨h1, h2⟩ := List.getElem?_eq_some_iff.1 hc
      rw [List.drop_eq_getElem_cons h1, h2, List.all_cons, digitB_N]
      cases hD : digitN c.toNat with
      | true =>
        rw [if_neg (by simp), Bool.true_and]
        exact idx_all t ha f (pos + 1) (by omega)
      | false =>
        rw [if_pos rfl]
        simp
    · rw [if_neg (by rw [bs_size]; exact hp)]
      have : t.drop pos = [] := List.drop_eq_nil_of_le (by omega)
      simp [this]

theorem trim_all {t : Bs} (ha : ∀ c ∈ t, c.toNat < 128) (h : t.all digitB = true) : Lib.trimLeftF digitN (bs t) = ⟨#[]⟩ := by
  unfold Lib.trimLeftF Lib.idxFunc
  rw [if_pos ((idx_all t ha _ 0 (by rw [bs_size]; omega)).2 (by simpa using h))]

theorem trim_some {t : Bs} (ha : ∀ c ∈ t, c.toNat < 128) (h : t.all digitB = false) : 0 < (Lib.trimLeftF digitN (bs t)).size := by
  have hne : ¬ Lib.idxFuncFrom digitN false (bs t) (bs t).size 0 = -1 := fun e => by
    have := (idx_all t ha _ 0 (by rw [bs_size]; omega)).1 e
    rw [List.drop_zero, h] at this
    cases this
  have hr := Lib.idxFuncFrom_range digitN false (bs t) (bs t).size 0
  unfold Lib.trimLeftF Lib.idxFunc
  rw [if_neg hne]
  rcases hr with e | ⟨h1, h2⟩
  · exact absurd e hne
  · rw [ByteArray.size_extract]
    omega

theorem digit_runes (w : World) : PredAtRunes Tryz.prog 134 #[] digitN w := by
  intro W x _ _
  exact (digit_any (x : Int) W).mono fun e w' ⟨h1, h2⟩ => ⟨h1, 0, by rw [h2]; rfl⟩

theorem isEmpty_of {B : ByteArray} (h : 0 < B.size) : B.toList.isEmpty = false := by
  rw [ByteArray.toList_eq]
  have : B.data.toList.length = B.size := by show B.data.toList.length = B.data.size; rw [Array.length_toList]
  cases hl : B.data.toList with
  | nil => rw [hl] at this; simp at this; omega
  | cons a l => rfl

theorem r_prefix (c : UInt8) (t : Bs) : Go.Lib.hasPrefix (c :: t) [114] = decide (c = 114) := by
  unfold Go.Lib.hasPrefix
  simp [List.isPrefixOf]
  by_cases h : c = 114
  · subst h; simp
  · simp [h, Ne.symm h]

theorem r_trim (c : UInt8) (t : Bs) : Go.Lib.trimPrefix (c :: t) [114] = if c = 114 then t else c :: t := by
  unfold Go.Lib.trimPrefix
  rw [r_prefix]
  by_cases h : c = 114
  · subst h; rw [if_pos rfl]; rfl
  · rw [if_neg h, if_neg (by simpa using h)]

set_option maxHeartbeats 1600000 in
theorem word_any (s : Bs) (hs : ∀ c ∈ s, c.toNat < 128) (hl : s.length ≤ 35184372088832) (w : World) :
    Calls Tryz.prog 131 #[.string (bs s)] w fun e w' => e = .returned (.bool (wordP s)) ∧ Below w.heap.size w w' := by
  match s, hs, hl with
  | [], _, _ =>
    show Calls Tryz.prog 131 #[.string ⟨#[]⟩] w fun e w' => e = .returned (.bool false) ∧ Below w.heap.size w w'
    go_enter Tryz.func131, Tryz.ntmps131
    go_wp2
    go_ret
    exact ⟨rfl, Below.refl _ _⟩
  | c :: t, hs, hl =>
    have hsz : (bs (c :: t)).size = t.length + 1 := by rw [bs_size]; rfl
    obtain ⟨hp, hc⟩ := bs_get (s := c :: t) (pos := 0) (c := c) rfl
    have hne : (bs (c :: t)).toList.isEmpty = false := isEmpty_of (by omega)
    have D := fun W => digit_any (c.toNat : Int) W
    have hdd : digitR (c.toNat : Int) = digitB c := (digitB_N c).symm
    have hc128 : c.toNat < 128 := hs c (by simp)
    have ht : ∀ x ∈ t, x.toNat < 128 := fun x hx => hs x (by simp [hx])
    rw [hdd] at D
    have K := fun W => Tryz.strings_CutPrefix (bs (c :: t)) ⟨#[114]⟩ W
    have hT := fun W => Tryz.strings_TrimLeftFunc_runes 134 #[] (enters_of Tryz.func134 (by kernel_rfl) rfl) digitN (bs t) W (digit_runes W)
    simp only [bs_list, show (⟨#[114]⟩ : ByteArray).data.toList = [114] from rfl, r_prefix, r_trim] at K
    have hw : Hid (wordP (c :: t) = (decide (t.length + 1 ≤ 12) && !digitB c && !(decide (c = 114) && !t.isEmpty && t.all digitB))) := rfl
    clear hdd
    generalize hB : bs (c :: t) = B at *
    have HB : Hid (bs (c :: t) = B) := hB
    clear hB hs hl
    by_cases h12 : t.length + 1 ≤ 12
    · have h12' : (t.length : Int) + 1 ≤ 12 := by omega
      cases hdc : digitB c with
      | true =>
        rw [hdc] at D
        go_enter Tryz.func131, Tryz.ntmps131
        go_wp2_with (first | (go_at_call 134; refine (D _).mono ?_; rintro e w' ⟨rfl, rfl⟩))
        go_ret
        rw [hw.out, hdc]
        exact ⟨by simp, Below.refl _ _⟩
      | false =>
        rw [hdc] at D
        by_cases hr : c = 114
        · subst hr
          rw [show decide ((114 : UInt8) = 114) = true from rfl, if_pos rfl, show t.toArray = (bs t).data from rfl] at K
          match t, ht with
          | [], _ =>
            have e0 : (ByteArray.mk (bs []).data) = ⟨#[]⟩ := rfl
            rw [e0] at K
            go_enter Tryz.func131, Tryz.ntmps131
            go_wp2_with (first | (go_at_call 134; refine (D _).mono ?_; rintro e w' ⟨rfl, rfl⟩) | (go_at_call 112; refine (K _).mono ?_; rintro e w' ⟨rfl, rfl⟩))
            go_ret
            rw [hw.out, hdc]
            exact ⟨by simp, Below.refl _ _⟩
          | a :: t, ht =>
            have hne2 : (bs (a :: t)).toList.isEmpty = false := isEmpty_of (by rw [bs_size]; simp)
            cases hal : (a :: t).all digitB with
            | true =>
              rw [show (ByteArray.mk (bs (a :: t)).data) = bs (a :: t) from rfl] at K
              simp only [trim_all ht hal] at hT
              generalize bs (a :: t) = A at *
              go_enter Tryz.func131, Tryz.ntmps131
              go_wp2_with (first | (go_at_call 134; refine (D _).mono ?_; rintro e w' ⟨rfl, rfl⟩) | (go_at_call 112; refine (K _).mono ?_; rintro e w' ⟨rfl, rfl⟩) | (go_at_call 139; refine (hT _).mono ?_; rintro e w1 ⟨rfl, hb1⟩))
              go_ret
              rw [hw.out, hdc, hal]
              exact ⟨by simp, hb1⟩
            | false =>
              have hne3 := isEmpty_of (trim_some ht hal)
              rw [show (ByteArray.mk (bs (a :: t)).data) = bs (a :: t) from rfl] at K
              generalize Lib.trimLeftF digitN (bs (a :: t)) = A2 at *
              generalize bs (a :: t) = A at *
              go_enter Tryz.func131, Tryz.ntmps131
              go_wp2_with (first | (go_at_call 134; refine (D _).mono ?_; rintro e w' ⟨rfl, rfl⟩) | (go_at_call 112; refine (K _).mono ?_; rintro e w' ⟨rfl, rfl⟩) | (go_at_call 139; refine (hT _).mono ?_; rintro e w1 ⟨rfl, hb1⟩))
              go_ret
              rw [hw.out, hdc, hal]
              exact ⟨by simp; omega, hb1⟩
        · rw [decide_eq_false hr] at K hw
          go_enter Tryz.func131, Tryz.ntmps131
          go_wp2_with (first | (go_at_call 134; refine (D _).mono ?_; rintro e w' ⟨rfl, rfl⟩) | (go_at_call 112; refine (K _).mono ?_; rintro e w' ⟨rfl, rfl⟩))
          go_ret
          rw [hw.out, hdc]
          exact ⟨by simp; omega, Below.refl _ _⟩
    · have h12' : ¬ ((t.length : Int) + 1 ≤ 12) := by omega
      go_enter Tryz.func131, Tryz.ntmps131
      go_wp2_with (first | (go_at_call 134; refine (D _).mono ?_; rintro e w' ⟨rfl, rfl⟩))
      go_ret
      rw [hw.out, decide_eq_false h12]
      exact ⟨rfl, Below.refl _ _⟩
end Go.Proofs.YtkaclahcpmogaaaGreatDoor

namespace Go.Proofs.YtkaclahcpmogaaaGreatDoor
open Go.ChangeShapes Go.WideShapes Go.ChangeAt Go.RowKit
set_option linter.unusedVariables false
set_option linter.unusedSimpArgs false

theorem hexGoP_step {s : Bs} {j : Nat} {c : UInt8} (h : s[j]? = some c) (acc : Nat) : hexGoP acc (s.drop j) = match hexDig c with
    | none => none
    | some d => if 4294967295 < acc * 16 + d then none else hexGoP (acc * 16 + d) (s.drop (j + 1)) := by
  obtain ⟨h1, rfl⟩ := List.getElem?_eq_some_iff.1 h
  rw [List.drop_eq_getElem_cons h1]
  rfl

/-- What internal/strconv.ParseUint answers: a number, or that it is none. -/
def HexEnd (e : Ending) : Option Nat → Prop
  | some n => e = .returned (.tuple #[.int .u64 n, .nilIface])
  | none => ∃ x k, (k = 1 ∨ k = 2) ∧ e = .returned (.tuple #[.int .u64 x, .iface 188 (.int .i64 k)])

theorem lower_small : ∀ n : Fin 256, (97 ≤ n.val ∧ n.val ≤ 122) → bits .or .u8 (n.val : Int) 32 = n.val := by decide +kernel
theorem lower_line : bits .or .u8 95 32 = 127 := by decide +kernel

theorem lower_any (c r : Int) (h : bits .or .u8 c 32 = r) (w : World) : Calls Tryz.prog 149 #[.int .u8 c] w fun e w' => e = .returned (.int .u8 r) ∧ w' = w := by
  go_enter Tryz.func149, Tryz.ntmps149
  go_wp2
  go_ret
  exact ⟨by simp [h], rfl⟩

theorem run_cases {c : UInt8} (h : runB c = true) : (48 ≤ c.toNat ∧ c.toNat ≤ 57) ∨ (97 ≤ c.toNat ∧ c.toNat ≤ 102) ∨ (103 ≤ c.toNat ∧ c.toNat ≤ 122) ∨ c.toNat = 95 := by
  unfold runB letterB digitB at h
  simp at h
  omega

set_option maxHeartbeats 12800000 in
set_option maxRecDepth 100000 in
theorem intParse16 (s : Bs) (hr : ∀ c ∈ s, runB c = true) (hn : s ≠ []) (hl : s.length ≤ 35184372088832) (w : World) :
    Calls Tryz.prog 145 #[.string (bs s), .int .i64 16, .int .i64 32] w fun e w' => Below w.heap.size w w' ∧ HexEnd e (hexGoP 0 s) := by
  have hsz := bs_size s
  have hpos : 0 < s.length := by cases s with | nil => exact absurd rfl hn | cons a t => simp
  have hne : (bs s).toList.isEmpty = false := isEmpty_of (by omega)
  have hcv := Lib.run_convert_string_bytes (P := Tryz.prog) w 9 23 5 (bs s) (u := .string) Tryz.underlying9 Tryz.underlying23 Tryz.underlying5
  have hcl : ∀ j, j < s.length → (Lib.bytesWorld w 5 (bs s)).cell? ⟨w.heap.size, j, none⟩ = some (.int .u8 (s.getD j 0).toNat) := fun j hj => by
    have := Lib.bytesWorld_cell w 5 (bs s) j (by rw [hsz]; exact hj)
    rwa [bs_list] at this
  have hbl := Lib.bytesWorld_below w 5 (bs s)
  obtain ⟨W1, hW1⟩ : ∃ W1, W1 = Lib.bytesWorld w 5 (bs s) := ⟨_, rfl⟩
  rw [← hW1] at hcv hcl hbl
  clear hW1
  generalize hB : bs s = B at *
  clear hB
  have hmv : IntKind.u64.wrap (IntKind.u64.wrap 4294967296 - 1) = 4294967295 := by
    rw [IntKind.wrap_u64, IntKind.wrap_u64]
    decide
  go_enter Tryz.func145, Tryz.ntmps145
  go_wp2
  go_loopw [12, 13, 101] (fun vu vn vi wr => ∃ (k acc : Nat) (a : Int), vu = .bool false ∧ vn = .int .u64 a ∧ vi = .int .i64 k ∧ k ≤ s.length ∧ wr = W1 ∧ Hid (a = (acc : Int) ∧ acc ≤ 4294967295 ∧ hexGoP acc (s.drop k) = hexGoP 0 s)) (fun _ _ vi _ => s.length - (intOf vi).toNat)
  case atStart => exact ⟨0, 0, 0, rfl, rfl, rfl, by omega, rfl, rfl, by omega, rfl⟩
  case round =>
    obtain ⟨k, acc, a, rfl, rfl, rfl, hk, rfl, hh⟩ := hrel
    obtain ⟨ha, hacc, he⟩ := hh.out
    clear hh
    have a0 : 0 ≤ a := by omega
    have a1 : a ≤ 4294967295 := by omega
    by_cases hkn : k < s.length
    · obtain ⟨c, hc⟩ : ∃ c, s[k]? = some c := ⟨_, List.getElem?_eq_getElem hkn⟩
      have hcell := hcl k hkn
      have hget : s.getD k 0 = c := by simp [List.getD, hc]
      rw [hget] at hcell
      have hst := hexGoP_step hc acc
      rw [he] at hst
      have hkI : (k : Int) < (s.length : Int) := by omega
      have hmem := hr c (List.mem_of_getElem? hc)
      clear hcl hget hr hc he
      rcases run_cases hmem with ⟨d0, d1⟩ | ⟨d0, d1⟩ | ⟨d0, d1⟩ | d0
      · have hd : hexDig c = some (c.toNat - 48) := by unfold hexDig; rw [if_pos ⟨d0, d1⟩]
        rw [hd] at hst
        simp only at hst
        have i0 : (48 : Int) ≤ (c.toNat : Int) := by omega
        have i1 : (c.toNat : Int) ≤ 57 := by omega
        by_cases hov : 4294967295 < acc * 16 + (c.toNat - 48)
        · have iov : 4294967295 < a * 16 + ((c.toNat : Int) - 48) := by omega
          rw [if_pos hov] at hst
          have HE : Hid (hexGoP 0 s = none) := hst
          clear hst hov hacc ha hd hmem d0 d1
          go_wp2
          go_ret2
          rw [HE.out]
          exact ⟨hbl, _, 1, .inl rfl, rfl⟩
        · have iov : a * 16 + ((c.toNat : Int) - 48) ≤ 4294967295 := by omega
          rw [if_neg hov] at hst
          have HN : Hid (a * 16 + ((c.toNat : Int) - 48) = ((acc * 16 + (c.toNat - 48) : Nat) : Int) ∧ acc * 16 + (c.toNat - 48) ≤ 4294967295 ∧ hexGoP (acc * 16 + (c.toNat - 48)) (s.drop (k + 1)) = hexGoP 0 s) := ⟨by omega, by omega, hst.symm⟩
          clear hst hov hacc ha hd hmem d0 d1
          go_wp2
          go_roundw
          case rel => exact ⟨k + 1, acc * 16 + (c.toNat - 48), a * 16 + ((c.toNat : Int) - 48), rfl, (by first | rfl | go_num), (by first | rfl | go_num), by omega, by trivial, HN⟩
          case measure => simp [intOf]; omega
      · have hd : hexDig c = some (c.toNat - 87) := by unfold hexDig; rw [if_neg (by omega), if_pos ⟨d0, d1⟩]
        rw [hd] at hst
        simp only at hst
        have hlow := lower_small ⟨c.toNat, c.toNat_lt⟩ ⟨by simp; omega, by simp; omega⟩
        have L := fun W => lower_any (c.toNat : Int) _ hlow W
        have i0 : (97 : Int) ≤ (c.toNat : Int) := by omega
        have i1 : (c.toNat : Int) ≤ 102 := by omega
        simp only at L
        by_cases hov : 4294967295 < acc * 16 + (c.toNat - 87)
        · have iov : 4294967295 < a * 16 + ((c.toNat : Int) - 87) := by omega
          rw [if_pos hov] at hst
          have HE : Hid (hexGoP 0 s = none) := hst
          clear hst hov hacc ha hd hmem d0 d1 hlow
          go_wp2_with (go_at_call 149; refine (L _).mono ?_; rintro e w' ⟨rfl, rfl⟩)
          go_ret2
          rw [HE.out]
          exact ⟨hbl, _, 1, .inl rfl, rfl⟩
        · have iov : a * 16 + ((c.toNat : Int) - 97 + 10) ≤ 4294967295 := by omega
          rw [if_neg hov] at hst
          have HN : Hid (a * 16 + ((c.toNat : Int) - 97 + 10) = ((acc * 16 + (c.toNat - 87) : Nat) : Int) ∧ acc * 16 + (c.toNat - 87) ≤ 4294967295 ∧ hexGoP (acc * 16 + (c.toNat - 87)) (s.drop (k + 1)) = hexGoP 0 s) := ⟨by omega, by omega, hst.symm⟩
          clear hst hov hacc ha hd hmem d0 d1 hlow
          go_wp2_with (go_at_call 149; refine (L _).mono ?_; rintro e w' ⟨rfl, rfl⟩)
          go_roundw
          case rel => exact ⟨k + 1, acc * 16 + (c.toNat - 87), a * 16 + ((c.toNat : Int) - 97 + 10), rfl, (by first | rfl | go_num), (by first | rfl | go_num), by omega, by trivial, HN⟩
          case measure => simp [intOf]; omega
      · have hd : hexDig c = none := by unfold hexDig; rw [if_neg (by omega), if_neg (by omega)]
        rw [hd] at hst
        have HE : Hid (hexGoP 0 s = none) := hst
        have hlow := lower_small ⟨c.toNat, c.toNat_lt⟩ ⟨by simp; omega, by simp; omega⟩
        have L := fun W => lower_any (c.toNat : Int) _ hlow W
        have i0 : (103 : Int) ≤ (c.toNat : Int) := by omega
        have i1 : (c.toNat : Int) ≤ 122 := by omega
        simp only at L
        clear hst hacc ha hd hmem d0 d1 hlow
        go_wp2_with (go_at_call 149; refine (L _).mono ?_; rintro e w' ⟨rfl, rfl⟩)
        go_ret2
        rw [HE.out]
        exact ⟨hbl, _, 2, .inr rfl, rfl⟩
      · have hd : hexDig c = none := by unfold hexDig; rw [if_neg (by omega), if_neg (by omega)]
        rw [hd] at hst
        have HE : Hid (hexGoP 0 s = none) := hst
        have hcv2 : (c.toNat : Int) = 95 := by omega
        rw [hcv2] at hcell
        have L := fun W => lower_any 95 _ lower_line W
        clear hst hacc ha hd hmem d0 hcv2
        go_wp2_with (go_at_call 149; refine (L _).mono ?_; rintro e w' ⟨rfl, rfl⟩)
        go_ret2
        rw [HE.out]
        exact ⟨hbl, _, 2, .inr rfl, rfl⟩
    · have hkk : k = s.length := by omega
      subst hkk
      have hF : hexGoP acc (s.drop s.length) = some acc := by rw [List.drop_length]; rfl
      rw [hF] at he
      have HE : Hid (hexGoP 0 s = some acc) := he.symm
      subst ha
      clear hacc hF he a0 a1 hcl
      go_wp2
      go_ret2
      rw [HE.out]
      exact ⟨hbl, rfl⟩
end Go.Proofs.YtkaclahcpmogaaaGreatDoor

namespace Go.Proofs.YtkaclahcpmogaaaGreatDoor
open Go.ChangeShapes Go.WideShapes Go.ChangeAt Go.RowKit
set_option linter.unusedVariables false
set_option linter.unusedSimpArgs false

/-- An answer of ParseUint: a number and no error, or some number and an error. -/
def NumEnd (e : Ending) : Option Nat → Prop
  | some n => e = .returned (.tuple #[.int .u64 n, .nilIface])
  | none => ∃ x t v, e = .returned (.tuple #[.int .u64 x, .iface t v])

theorem run_ascii {s : Bs} (hr : ∀ c ∈ s, runB c = true) : ∀ c ∈ s, c.toNat < 128 := by
  intro c hc
  have := run_cases (hr c hc)
  omega

theorem intParse16' (s : Bs) (hr : ∀ c ∈ s, runB c = true) (hl : s.length ≤ 35184372088832) (w : World) :
    Calls Tryz.prog 145 #[.string (bs s), .int .i64 16, .int .i64 32] w fun e w' => Below w.heap.size w w' ∧ HexEnd e (hexP s) := by
  by_cases hn : s = []
  · subst hn
    have I := AnyPu.internal_strconv_ParseUint_empty { Tryz.laysPu14 with } 16 32 w
    refine I.mono ?_
    rintro e w' ⟨rfl, rfl⟩
    exact ⟨Below.refl _ _, 0, 2, .inr rfl, rfl⟩
  · have hh : hexP s = hexGoP 0 s := by unfold hexP; rw [if_neg hn]
    rw [hh]
    exact intParse16 s hr hn hl w

set_option maxHeartbeats 1600000 in
set_option maxRecDepth 100000 in
theorem parse16 (s : Bs) (hr : ∀ c ∈ s, runB c = true) (hl : s.length ≤ 35184372088832) (hF : Full) (w : World) (T : Tab w) :
    Calls Tryz.prog 140 #[.string (bs s), .int .i64 16, .int .i64 32] w fun e w' => Below w.heap.size w w' ∧ NumEnd e (hexP s) := by
  have hsz := bs_size s
  have I := intParse16' s hr hl w
  cases hx : hexP s with
  | some n =>
    rw [hx] at I
    go_enter Tryz.func140, Tryz.ntmps140
    go_wp2_with (go_at_call 145; refine I.mono ?_; rintro e w1 ⟨hb, rfl⟩)
    go_ret2
    exact ⟨hb, rfl⟩
  | none =>
    rw [hx] at I
    go_enter Tryz.func140, Tryz.ntmps140
    go_wp2_with (go_at_call 145; refine I.mono ?_; rintro e w1 ⟨hb, x, k, hk, rfl⟩)
    have T1 := T.later hb
    rcases hk with rfl | rfl
    · obtain ⟨ev, h1, h2⟩ := (T1.nums hF).2
      have E := AnyPu.strconv_toError_range { Tryz.laysPu14 with } ⟨#[80, 97, 114, 115, 101, 85, 105, 110, 116]⟩ (bs s) 16 32 ev w1 (by omega) h1 h2
      go_wp2_with (go_at_call 146; refine E.mono ?_; rintro e w2 ⟨N, rfl, _, _, hb2⟩)
      go_ret2
      exact ⟨hb.trans (hb2.mono hb.size), _, _, _, rfl⟩
    · obtain ⟨ev, h1, h2⟩ := (T1.nums hF).1
      have E := AnyPu.strconv_toError_syntax { Tryz.laysPu14 with } ⟨#[80, 97, 114, 115, 101, 85, 105, 110, 116]⟩ (bs s) 16 32 ev w1 (by omega) h1 h2
      go_wp2_with (go_at_call 146; refine E.mono ?_; rintro e w2 ⟨N, rfl, _, _, hb2⟩)
      go_ret2
      exact ⟨hb.trans (hb2.mono hb.size), _, _, _, rfl⟩

theorem parse10 (s : Bs) (hl : s.length ≤ 35184372088832) (hF : Full) (w : World) (T : Tab w) :
    Calls Tryz.prog 140 #[.string (bs s), .int .i64 10, .int .i64 32] w fun e w' => Below w.heap.size w w' ∧ NumEnd e (decP s) := by
  have hsz := bs_size s
  unfold decP
  cases hx : Go.Lib.parseUintB 32 s with
  | ok u =>
    refine (Tryz.strconv_ParseUint_10_at32_ok (bs s) (by omega) u (by rw [bs_list]; exact hx) w).mono ?_
    rintro e w' ⟨rfl, hw⟩
    refine ⟨?_, rfl⟩
    rcases hw with rfl | rfl
    · exact Below.refl _ _
    · exact Lib.bytesWorld_below _ _ _
  | «syntax» =>
    obtain ⟨ev, h1, h2⟩ := (T.nums hF).1
    refine (Tryz.strconv_ParseUint_10_at32_syntax (bs s) (by omega) (by rw [bs_list]; exact hx) ev w h1 h2).mono ?_
    rintro e w' ⟨N, rfl, _, _, hb⟩
    exact ⟨hb, _, _, _, rfl⟩
  | range =>
    obtain ⟨ev, h1, h2⟩ := (T.nums hF).2
    refine (Tryz.strconv_ParseUint_10_at32_range (bs s) (by omega) (by rw [bs_list]; exact hx) ev w h1 h2).mono ?_
    rintro e w' ⟨N, rfl, _, _, hb⟩
    exact ⟨hb, _, _, _, rfl⟩

/-- A number is below 2^32. -/
theorem hexGoP_lt : ∀ (s : Bs) (acc n : Nat), acc ≤ 4294967295 → hexGoP acc s = some n → n ≤ 4294967295
  | [], acc, n, h, e => by cases e; exact h
  | c :: s, acc, n, h, e => by
    unfold hexGoP at e
    split at e
    · cases e
    · split at e
      · cases e
      · exact hexGoP_lt s _ n (by omega) e

theorem parseUintM_lt : ∀ (s : Bs) (acc n : Nat), acc ≤ 4294967295 → Go.Lib.parseUintM 4294967295 acc s = .ok n → n ≤ 4294967295
  | [], acc, n, h, e => by cases e; exact h
  | c :: s, acc, n, h, e => by
    unfold Go.Lib.parseUintM at e
    split at e
    · split at e
      · cases e
      · split at e
        · cases e
        · exact parseUintM_lt s _ n (by omega) e
    · cases e

theorem numberP_lt {s : Bs} {n : Nat} (h : numberP s = some n) : n ≤ 4294967295 := by
  unfold numberP at h
  split at h
  · unfold hexP at h
    split at h
    · cases h
    · exact hexGoP_lt _ 0 n (by omega) h
  · unfold decP at h
    split at h
    · rename_i u hu
      cases h
      unfold Go.Lib.parseUintB at hu
      split at hu
      · cases hu
      · exact parseUintM_lt _ 0 n (by omega) hu
    · cases h

set_option maxHeartbeats 1600000 in
set_option maxRecDepth 100000 in
theorem number_any (s : Bs) (hr : ∀ c ∈ s, runB c = true) (hl : s.length ≤ 35184372088832) (hF : Full) (w : World) (T : Tab w) :
    Calls Tryz.prog 132 #[.string (bs s)] w fun e w' => Below w.heap.size w w' ∧ e = .returned (.tuple #[.int .i64 (((numberP s).getD 0 : Nat) : Int), .bool (numberP s).isSome]) := by
  have K := fun W => Tryz.strings_CutPrefix (bs s) ⟨#[48, 120]⟩ W
  simp only [bs_list, show (⟨#[48, 120]⟩ : ByteArray).data.toList = [48, 120] from rfl] at K
  have hlt := fun n => numberP_lt (s := s) (n := n)
  unfold numberP at *
  cases hp : Go.Lib.hasPrefix s [48, 120] with
  | true =>
    rw [hp] at K hlt
    simp only [if_true] at hlt ⊢
    generalize hd : Go.Lib.trimPrefix s [48, 120] = dg at *
    have hsub : ∀ c ∈ dg, c ∈ s := by
      intro c hc
      rw [← hd] at hc
      unfold Go.Lib.trimPrefix at hc
      rw [if_pos hp] at hc
      exact List.mem_of_mem_drop hc
    have hlen : dg.length ≤ s.length := by
      rw [← hd]
      unfold Go.Lib.trimPrefix
      rw [if_pos hp, List.length_drop]
      omega
    have P := parse16 dg (fun c hc => hr c (hsub c hc)) (by omega) hF w T
    rw [show (⟨dg.toArray⟩ : ByteArray) = bs dg from rfl] at K
    clear hd hp hsub hlen hr
    cases hx : hexP dg with
    | some n =>
      rw [hx] at P
      have hn := hlt n hx
      have hnI : (n : Int) ≤ 4294967295 := by omega
      clear hlt hn
      go_enter Tryz.func132, Tryz.ntmps132
      go_wp2_with (first | (go_at_call 112; refine (K _).mono ?_; rintro e w' ⟨rfl, rfl⟩) | (go_at_call 140; refine P.mono ?_; rintro e w1 ⟨hb, rfl⟩))
      go_ret2
      exact ⟨hb, rfl⟩
    | none =>
      rw [hx] at P
      clear hlt
      go_enter Tryz.func132, Tryz.ntmps132
      go_wp2_with (first | (go_at_call 112; refine (K _).mono ?_; rintro e w' ⟨rfl, rfl⟩) | (go_at_call 140; refine P.mono ?_; rintro e w1 ⟨hb, x, tt, vv, rfl⟩))
      go_ret2
      exact ⟨hb, rfl⟩
  | false =>
    rw [hp] at K hlt
    simp only [Bool.false_eq_true, if_false] at hlt ⊢
    rw [show Go.Lib.trimPrefix s [48, 120] = s by unfold Go.Lib.trimPrefix; rw [if_neg (by simp [hp])], show (⟨s.toArray⟩ : ByteArray) = bs s from rfl] at K
    have P := parse10 s hl hF w T
    clear hp hr
    cases hx : decP s with
    | some n =>
      rw [hx] at P
      have hn := hlt n hx
      have hnI : (n : Int) ≤ 4294967295 := by omega
      clear hlt hn
      go_enter Tryz.func132, Tryz.ntmps132
      go_wp2_with (first | (go_at_call 112; refine (K _).mono ?_; rintro e w' ⟨rfl, rfl⟩) | (go_at_call 140; refine P.mono ?_; rintro e w1 ⟨hb, rfl⟩))
      go_ret2
      exact ⟨hb, rfl⟩
    | none =>
      rw [hx] at P
      clear hlt
      go_enter Tryz.func132, Tryz.ntmps132
      go_wp2_with (first | (go_at_call 112; refine (K _).mono ?_; rintro e w' ⟨rfl, rfl⟩) | (go_at_call 140; refine P.mono ?_; rintro e w1 ⟨hb, x, tt, vv, rfl⟩))
      go_ret2
      exact ⟨hb, rfl⟩
end Go.Proofs.YtkaclahcpmogaaaGreatDoor
