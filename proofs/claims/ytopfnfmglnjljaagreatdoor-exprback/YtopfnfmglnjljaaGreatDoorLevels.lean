/- The contracts of products, sums, shifts, ands, ors, where single has its own. -/
import Derived.Test.YtopfnfmglnjljaaGreatDoorRow
namespace Go.Proofs.YtopfnfmglnjljaaGreatDoor
open Go.ChangeShapes Go.WideShapes Go.ChangeAt Go.RowKit
set_option linter.unusedVariables false
set_option linter.unusedSimpArgs false

theorem hmf : ∀ (fn : Fn) (first cap : Array Value) (w : World), (Instr.makeFunc fn first cap).run Tryz.prog w = .ok (.func fn first cap) w := fun _ _ _ _ => rfl

theorem kinds1 {b : Nat} {w : World} (hb : b < w.heap.size) (k : Nat) : KindsAt b (w.alloc (.cells #[.int .i64 k] 3)) (.slice (some ⟨w.heap.size, 0, none⟩) 1 1) [k] := by
  refine ⟨w.heap.size, rfl, hb, fun i k' h => ?_⟩
  match i, h with
  | 0, h => simp at h; subst h; exact new_cell _ 0 _ rfl
theorem kinds2 {b : Nat} {w : World} (hb : b < w.heap.size) (k j : Nat) : KindsAt b (w.alloc (.cells #[.int .i64 k, .int .i64 j] 3)) (.slice (some ⟨w.heap.size, 0, none⟩) 2 2) [k, j] := by
  refine ⟨w.heap.size, rfl, hb, fun i k' h => ?_⟩
  match i, h with
  | 0, h => simp at h; subst h; exact new_cell _ 0 _ rfl
  | 1, h => simp at h; subst h; exact new_cell _ 1 _ rfl

/-- Behind a new block. -/
theorem Read.low {n m b d : Nat} {W : World} {e : Ending} {r : Option (Ex × Bs)} (h : Read n b d W e r) (hn : m ≤ n) : Read m b d W e r := by
  cases r with
  | none => exact h
  | some r => obtain ⟨v, h1, h2, h3⟩ := h; exact ⟨v, h1, h2, h3.imp fun i hi _ => Nat.le_trans hn hi⟩

theorem Read.form {n b d : Nat} {W : World} {e : Ending} {r : Option (Ex × Bs)} (h : Read n b d W e r) : ∃ (k j : Int) (s : ByteArray) (q : Option Addr) (l c : Nat), e = .returned (.tuple #[.agg #[.int .i64 k, .int .i64 j, .string s, .slice q l c], .bool r.isSome]) := by
  cases r with
  | none => obtain ⟨v, _, rfl, _, k, j, s, q, l, c, rfl⟩ := h; exact ⟨k, j, s, q, l, c, rfl⟩
  | some r => obtain ⟨v, rfl, _, hx⟩ := h; obtain ⟨k, j, s, q, l, c, rfl⟩ := hx.form; exact ⟨k, j, s, q, l, c, rfl⟩

theorem Read.put {n b d R : Nat} {W : World} {e : Ending} {r : Option (Ex × Bs)} (h : Read n b d W e r) (hR : R < n) (hb : b ≠ R) (a0 a1 a2 a3 : Value) : Read n b d (put4 W R a0 a1 a2 a3) e r := by
  cases r with
  | none => obtain ⟨v, s, h1, h2, h3⟩ := h; exact ⟨v, s, h1, h2.put4 _ _ _ _ _ hb, h3⟩
  | some r => obtain ⟨v, h1, h2, h3⟩ := h; exact ⟨v, h1, h2.put4 _ _ _ _ _ hb, h3.put _ _ _ _ _ (fun i hi => by omega)⟩

set_option maxHeartbeats 800000 in
set_option maxRecDepth 20000 in
theorem products_ok (b d : Nat) (hg : gtop ≤ b) (p : Rd) (hp : PartOk b d 101 (p)) (hs : Shrinks (p)) : PartOk b d 91 (productsP p) := by
  intro w s T h hl
  have hbw := h.lt
  have h0 := below_new w (.cells #[.int .i64 0, .int .i64 0, .string ⟨#[]⟩, .slice none 0 0] 27)
  have R0 := Blk.new w 27 (.int .i64 0) (.int .i64 0) (.string ⟨#[]⟩) (.slice none 0 0)
  have hz0 : (w.alloc (.cells #[.int .i64 0, .int .i64 0, .string ⟨#[]⟩, .slice none 0 0] 27)).heap.size = w.heap.size + 1 := by simp
  have hbw0 : b < (w.alloc (.cells #[.int .i64 0, .int .i64 0, .string ⟨#[]⟩, .slice none 0 0] 27)).heap.size := by omega
  have h1 := below_new (w.alloc (.cells #[.int .i64 0, .int .i64 0, .string ⟨#[]⟩, .slice none 0 0] 27)) (.cells #[.int .i64 7] 3)
  have hK := kinds1 hbw0 7
  have C := row_any b d hg 101 (enters_of Tryz.func101 (by kernel_rfl) rfl) _ hp hs _ [7] (by decide) (by decide) _ s ((T.later h0).later h1) ((h.later h0).later h1) hK hl
  rw [hz0] at C
  have R1 := R0.later h1
  have hz1 : ((w.alloc (.cells #[.int .i64 0, .int .i64 0, .string ⟨#[]⟩, .slice none 0 0] 27)).alloc (.cells #[.int .i64 7] 3)).heap.size = w.heap.size + 2 := by simp
  have hb1 : Beside b w ((w.alloc (.cells #[.int .i64 0, .int .i64 0, .string ⟨#[]⟩, .slice none 0 0] 27)).alloc (.cells #[.int .i64 7] 3)) := ((Beside.refl b w).alloc hbw _).alloc hbw _
  have hmf := hmf
  clear hp hs T h hl h0 h1 R0 hK
  go_enter Tryz.func91, Tryz.ntmps91
  go_wp2_with fail
  refine C.mono ?_
  rintro e w2 ⟨hb2, hr2⟩
  obtain ⟨k, j, t, q, l, c, rfl⟩ := hr2.form
  have R2 := R1.beside hb2 (by omega)
  obtain ⟨c0, c1, c2, c3, f0, f1, f2, f3⟩ := id R2
  have hl2 := R2.lt
  rw [hz1] at hr2
  clear C
  go_wp2
  have R3 := R2.put (.int .i64 k) (.int .i64 j) (.string t) (.slice q l c)
  obtain ⟨y0, y1, y2, y3, _, _, _, _⟩ := R3
  unfold put4 at y0 y1 y2 y3
  exact bodyPost_ret (v := .tuple #[.agg #[.int .i64 k, .int .i64 j, .string t, .slice q l c], .bool (rowP (p) [7] s).isSome]) (by simp [results, Tryz.results91, go_sem, y0, y1, y2, y3]) rfl
    ⟨(hb1.trans hb2).putNew hbw (Nat.le_refl _) _ _ _ _, (hr2.put (by omega) (by omega) _ _ _ _).low (by omega)⟩

set_option maxHeartbeats 800000 in
set_option maxRecDepth 20000 in
theorem sums_ok (b d : Nat) (hg : gtop ≤ b) (p : Rd) (hp : PartOk b d 91 (productsP p)) (hs : Shrinks (productsP p)) : PartOk b d 79 (sumsP p) := by
  intro w s T h hl
  have hbw := h.lt
  have h0 := below_new w (.cells #[.int .i64 0, .int .i64 0, .string ⟨#[]⟩, .slice none 0 0] 27)
  have R0 := Blk.new w 27 (.int .i64 0) (.int .i64 0) (.string ⟨#[]⟩) (.slice none 0 0)
  have hz0 : (w.alloc (.cells #[.int .i64 0, .int .i64 0, .string ⟨#[]⟩, .slice none 0 0] 27)).heap.size = w.heap.size + 1 := by simp
  have hbw0 : b < (w.alloc (.cells #[.int .i64 0, .int .i64 0, .string ⟨#[]⟩, .slice none 0 0] 27)).heap.size := by omega
  have h1 := below_new (w.alloc (.cells #[.int .i64 0, .int .i64 0, .string ⟨#[]⟩, .slice none 0 0] 27)) (.cells #[.int .i64 5, .int .i64 6] 3)
  have hK := kinds2 hbw0 5 6
  have C := row_any b d hg 91 (enters_of Tryz.func91 (by kernel_rfl) rfl) _ hp hs _ [5, 6] (by decide) (by decide) _ s ((T.later h0).later h1) ((h.later h0).later h1) hK hl
  rw [hz0] at C
  have R1 := R0.later h1
  have hz1 : ((w.alloc (.cells #[.int .i64 0, .int .i64 0, .string ⟨#[]⟩, .slice none 0 0] 27)).alloc (.cells #[.int .i64 5, .int .i64 6] 3)).heap.size = w.heap.size + 2 := by simp
  have hb1 : Beside b w ((w.alloc (.cells #[.int .i64 0, .int .i64 0, .string ⟨#[]⟩, .slice none 0 0] 27)).alloc (.cells #[.int .i64 5, .int .i64 6] 3)) := ((Beside.refl b w).alloc hbw _).alloc hbw _
  have hmf := hmf
  clear hp hs T h hl h0 h1 R0 hK
  go_enter Tryz.func79, Tryz.ntmps79
  go_wp2_with fail
  refine C.mono ?_
  rintro e w2 ⟨hb2, hr2⟩
  obtain ⟨k, j, t, q, l, c, rfl⟩ := hr2.form
  have R2 := R1.beside hb2 (by omega)
  obtain ⟨c0, c1, c2, c3, f0, f1, f2, f3⟩ := id R2
  have hl2 := R2.lt
  rw [hz1] at hr2
  clear C
  go_wp2
  have R3 := R2.put (.int .i64 k) (.int .i64 j) (.string t) (.slice q l c)
  obtain ⟨y0, y1, y2, y3, _, _, _, _⟩ := R3
  unfold put4 at y0 y1 y2 y3
  exact bodyPost_ret (v := .tuple #[.agg #[.int .i64 k, .int .i64 j, .string t, .slice q l c], .bool (rowP (productsP p) [5, 6] s).isSome]) (by simp [results, Tryz.results79, go_sem, y0, y1, y2, y3]) rfl
    ⟨(hb1.trans hb2).putNew hbw (Nat.le_refl _) _ _ _ _, (hr2.put (by omega) (by omega) _ _ _ _).low (by omega)⟩

set_option maxHeartbeats 800000 in
set_option maxRecDepth 20000 in
theorem shifts_ok (b d : Nat) (hg : gtop ≤ b) (p : Rd) (hp : PartOk b d 79 (sumsP p)) (hs : Shrinks (sumsP p)) : PartOk b d 62 (shiftsP p) := by
  intro w s T h hl
  have hbw := h.lt
  have h0 := below_new w (.cells #[.int .i64 0, .int .i64 0, .string ⟨#[]⟩, .slice none 0 0] 27)
  have R0 := Blk.new w 27 (.int .i64 0) (.int .i64 0) (.string ⟨#[]⟩) (.slice none 0 0)
  have hz0 : (w.alloc (.cells #[.int .i64 0, .int .i64 0, .string ⟨#[]⟩, .slice none 0 0] 27)).heap.size = w.heap.size + 1 := by simp
  have hbw0 : b < (w.alloc (.cells #[.int .i64 0, .int .i64 0, .string ⟨#[]⟩, .slice none 0 0] 27)).heap.size := by omega
  have h1 := below_new (w.alloc (.cells #[.int .i64 0, .int .i64 0, .string ⟨#[]⟩, .slice none 0 0] 27)) (.cells #[.int .i64 10, .int .i64 11] 3)
  have hK := kinds2 hbw0 10 11
  have C := row_any b d hg 79 (enters_of Tryz.func79 (by kernel_rfl) rfl) _ hp hs _ [10, 11] (by decide) (by decide) _ s ((T.later h0).later h1) ((h.later h0).later h1) hK hl
  rw [hz0] at C
  have R1 := R0.later h1
  have hz1 : ((w.alloc (.cells #[.int .i64 0, .int .i64 0, .string ⟨#[]⟩, .slice none 0 0] 27)).alloc (.cells #[.int .i64 10, .int .i64 11] 3)).heap.size = w.heap.size + 2 := by simp
  have hb1 : Beside b w ((w.alloc (.cells #[.int .i64 0, .int .i64 0, .string ⟨#[]⟩, .slice none 0 0] 27)).alloc (.cells #[.int .i64 10, .int .i64 11] 3)) := ((Beside.refl b w).alloc hbw _).alloc hbw _
  have hmf := hmf
  clear hp hs T h hl h0 h1 R0 hK
  go_enter Tryz.func62, Tryz.ntmps62
  go_wp2_with fail
  refine C.mono ?_
  rintro e w2 ⟨hb2, hr2⟩
  obtain ⟨k, j, t, q, l, c, rfl⟩ := hr2.form
  have R2 := R1.beside hb2 (by omega)
  obtain ⟨c0, c1, c2, c3, f0, f1, f2, f3⟩ := id R2
  have hl2 := R2.lt
  rw [hz1] at hr2
  clear C
  go_wp2
  have R3 := R2.put (.int .i64 k) (.int .i64 j) (.string t) (.slice q l c)
  obtain ⟨y0, y1, y2, y3, _, _, _, _⟩ := R3
  unfold put4 at y0 y1 y2 y3
  exact bodyPost_ret (v := .tuple #[.agg #[.int .i64 k, .int .i64 j, .string t, .slice q l c], .bool (rowP (sumsP p) [10, 11] s).isSome]) (by simp [results, Tryz.results62, go_sem, y0, y1, y2, y3]) rfl
    ⟨(hb1.trans hb2).putNew hbw (Nat.le_refl _) _ _ _ _, (hr2.put (by omega) (by omega) _ _ _ _).low (by omega)⟩

set_option maxHeartbeats 800000 in
set_option maxRecDepth 20000 in
theorem ands_ok (b d : Nat) (hg : gtop ≤ b) (p : Rd) (hp : PartOk b d 62 (shiftsP p)) (hs : Shrinks (shiftsP p)) : PartOk b d 47 (andsP p) := by
  intro w s T h hl
  have hbw := h.lt
  have h0 := below_new w (.cells #[.int .i64 0, .int .i64 0, .string ⟨#[]⟩, .slice none 0 0] 27)
  have R0 := Blk.new w 27 (.int .i64 0) (.int .i64 0) (.string ⟨#[]⟩) (.slice none 0 0)
  have hz0 : (w.alloc (.cells #[.int .i64 0, .int .i64 0, .string ⟨#[]⟩, .slice none 0 0] 27)).heap.size = w.heap.size + 1 := by simp
  have hbw0 : b < (w.alloc (.cells #[.int .i64 0, .int .i64 0, .string ⟨#[]⟩, .slice none 0 0] 27)).heap.size := by omega
  have h1 := below_new (w.alloc (.cells #[.int .i64 0, .int .i64 0, .string ⟨#[]⟩, .slice none 0 0] 27)) (.cells #[.int .i64 8] 3)
  have hK := kinds1 hbw0 8
  have C := row_any b d hg 62 (enters_of Tryz.func62 (by kernel_rfl) rfl) _ hp hs _ [8] (by decide) (by decide) _ s ((T.later h0).later h1) ((h.later h0).later h1) hK hl
  rw [hz0] at C
  have R1 := R0.later h1
  have hz1 : ((w.alloc (.cells #[.int .i64 0, .int .i64 0, .string ⟨#[]⟩, .slice none 0 0] 27)).alloc (.cells #[.int .i64 8] 3)).heap.size = w.heap.size + 2 := by simp
  have hb1 : Beside b w ((w.alloc (.cells #[.int .i64 0, .int .i64 0, .string ⟨#[]⟩, .slice none 0 0] 27)).alloc (.cells #[.int .i64 8] 3)) := ((Beside.refl b w).alloc hbw _).alloc hbw _
  have hmf := hmf
  clear hp hs T h hl h0 h1 R0 hK
  go_enter Tryz.func47, Tryz.ntmps47
  go_wp2_with fail
  refine C.mono ?_
  rintro e w2 ⟨hb2, hr2⟩
  obtain ⟨k, j, t, q, l, c, rfl⟩ := hr2.form
  have R2 := R1.beside hb2 (by omega)
  obtain ⟨c0, c1, c2, c3, f0, f1, f2, f3⟩ := id R2
  have hl2 := R2.lt
  rw [hz1] at hr2
  clear C
  go_wp2
  have R3 := R2.put (.int .i64 k) (.int .i64 j) (.string t) (.slice q l c)
  obtain ⟨y0, y1, y2, y3, _, _, _, _⟩ := R3
  unfold put4 at y0 y1 y2 y3
  exact bodyPost_ret (v := .tuple #[.agg #[.int .i64 k, .int .i64 j, .string t, .slice q l c], .bool (rowP (shiftsP p) [8] s).isSome]) (by simp [results, Tryz.results47, go_sem, y0, y1, y2, y3]) rfl
    ⟨(hb1.trans hb2).putNew hbw (Nat.le_refl _) _ _ _ _, (hr2.put (by omega) (by omega) _ _ _ _).low (by omega)⟩

set_option maxHeartbeats 800000 in
set_option maxRecDepth 20000 in
theorem ors_ok (b d : Nat) (hg : gtop ≤ b) (p : Rd) (hp : PartOk b d 47 (andsP p)) (hs : Shrinks (andsP p)) : PartOk b d 27 (orsP p) := by
  intro w s T h hl
  have hbw := h.lt
  have h0 := below_new w (.cells #[.int .i64 0, .int .i64 0, .string ⟨#[]⟩, .slice none 0 0] 27)
  have R0 := Blk.new w 27 (.int .i64 0) (.int .i64 0) (.string ⟨#[]⟩) (.slice none 0 0)
  have hz0 : (w.alloc (.cells #[.int .i64 0, .int .i64 0, .string ⟨#[]⟩, .slice none 0 0] 27)).heap.size = w.heap.size + 1 := by simp
  have hbw0 : b < (w.alloc (.cells #[.int .i64 0, .int .i64 0, .string ⟨#[]⟩, .slice none 0 0] 27)).heap.size := by omega
  have h1 := below_new (w.alloc (.cells #[.int .i64 0, .int .i64 0, .string ⟨#[]⟩, .slice none 0 0] 27)) (.cells #[.int .i64 9] 3)
  have hK := kinds1 hbw0 9
  have C := row_any b d hg 47 (enters_of Tryz.func47 (by kernel_rfl) rfl) _ hp hs _ [9] (by decide) (by decide) _ s ((T.later h0).later h1) ((h.later h0).later h1) hK hl
  rw [hz0] at C
  have R1 := R0.later h1
  have hz1 : ((w.alloc (.cells #[.int .i64 0, .int .i64 0, .string ⟨#[]⟩, .slice none 0 0] 27)).alloc (.cells #[.int .i64 9] 3)).heap.size = w.heap.size + 2 := by simp
  have hb1 : Beside b w ((w.alloc (.cells #[.int .i64 0, .int .i64 0, .string ⟨#[]⟩, .slice none 0 0] 27)).alloc (.cells #[.int .i64 9] 3)) := ((Beside.refl b w).alloc hbw _).alloc hbw _
  have hmf := hmf
  clear hp hs T h hl h0 h1 R0 hK
  go_enter Tryz.func27, Tryz.ntmps27
  go_wp2_with fail
  refine C.mono ?_
  rintro e w2 ⟨hb2, hr2⟩
  obtain ⟨k, j, t, q, l, c, rfl⟩ := hr2.form
  have R2 := R1.beside hb2 (by omega)
  obtain ⟨c0, c1, c2, c3, f0, f1, f2, f3⟩ := id R2
  have hl2 := R2.lt
  rw [hz1] at hr2
  clear C
  go_wp2
  have R3 := R2.put (.int .i64 k) (.int .i64 j) (.string t) (.slice q l c)
  obtain ⟨y0, y1, y2, y3, _, _, _, _⟩ := R3
  unfold put4 at y0 y1 y2 y3
  exact bodyPost_ret (v := .tuple #[.agg #[.int .i64 k, .int .i64 j, .string t, .slice q l c], .bool (rowP (andsP p) [9] s).isSome]) (by simp [results, Tryz.results27, go_sem, y0, y1, y2, y3]) rfl
    ⟨(hb1.trans hb2).putNew hbw (Nat.le_refl _) _ _ _ _, (hr2.put (by omega) (by omega) _ _ _ _).low (by omega)⟩

theorem ors_all (b d : Nat) (hg : gtop ≤ b) (p : Rd) (hp : PartOk b d 101 p) (hs : Shrinks p) : PartOk b d 27 (orsP p) ∧ Shrinks (orsP p) := by
  have h1 := products_ok b d hg p hp hs
  have s1 : Shrinks (productsP p) := rowP_shrinks hs _
  have h2 := sums_ok b d hg p h1 s1
  have s2 : Shrinks (sumsP p) := rowP_shrinks s1 _
  have h3 := shifts_ok b d hg p h2 s2
  have s3 : Shrinks (shiftsP p) := rowP_shrinks s2 _
  have h4 := ands_ok b d hg p h3 s3
  have s4 : Shrinks (andsP p) := rowP_shrinks s3 _
  exact ⟨ors_ok b d hg p h4 s4, rowP_shrinks s4 _⟩
end Go.Proofs.YtopfnfmglnjljaaGreatDoor
