/- The contract of Parse. -/
import Derived.Test.YtopfnfmglnjljaaGreatDoorOne
namespace Go.Proofs.YtopfnfmglnjljaaGreatDoor
open Go.ChangeShapes Go.WideShapes Go.ChangeAt Go.RowKit
set_option linter.unusedVariables false
set_option linter.unusedSimpArgs false

theorem singleG_shrinks {negQ brQ : Rd} (hn : Shrinks negQ) (hb : Shrinks brQ) : Shrinks (singleG negQ brQ) := by
  intro s x s' h
  have l1 := tookP_le s [45]
  have l2 := tookP_le (tookP s [45]).1 [40]
  have l3 := tookP_le (tookP (tookP s [45]).1 [40]).1 [46]
  unfold singleG at h
  split at h
  · have := hn _ _ _ h; omega
  · split at h
    · have := hb _ _ _ h; omega
    · split at h
      · cases h; omega
      · rw [Option.map_eq_some_iff] at h
        obtain ⟨y, _, h2⟩ := h
        cases h2
        have : ((tookP (tookP (tookP s [45]).1 [40]).1 [46]).1.dropWhile runB).length ≤ (tookP (tookP (tookP s [45]).1 [40]).1 [46]).1.length := List.Sublist.length_le (List.dropWhile_sublist _)
        omega

theorem negP_shrinks {p : Rd} (h : Shrinks p) : Shrinks (negP p) := by
  intro s x s' e
  unfold negP at e
  rw [Option.map_eq_some_iff] at e
  obtain ⟨r, h1, h2⟩ := e
  cases h2
  exact h s r.1 r.2 h1

theorem brackP_shrinks {p : Rd} (h : Shrinks p) : Shrinks (brackP p) := by
  intro s x s' e
  unfold brackP at e
  split at e
  · cases e
  · rename_i y s1 hy
    split at e
    · cases e
      exact Nat.le_trans (tookP_le s1 [41]) (h _ _ _ hy)
    · cases e

theorem single_all (b : Nat) (hg : gtop ≤ b) : ∀ (n d : Nat), d + n = 12 → PartOk b d 101 (singleP n) ∧ Shrinks (singleP n)
  | 0, d, hd => by
    obtain rfl : d = 12 := by omega
    rw [singleP_zero]
    refine ⟨single_ok b 12 hg _ _ (fun W s _ h _ => inside_no b _ W s h) (fun W s _ h _ => inside_no b _ W s h), singleG_shrinks ?_ ?_⟩
    · intro s x s' h; cases h
    · intro s x s' h; cases h
  | n + 1, d, hd => by
    obtain ⟨h1, s1⟩ := single_all b hg n (d + 1) (by omega)
    obtain ⟨h2, s2⟩ := ors_all b (d + 1) hg _ h1 s1
    have h3 := negated_ok b (d + 1) _ h1
    have h4 := bracketed_ok b (d + 1) _ h2 s2
    rw [singleP_succ]
    exact ⟨single_ok b d hg _ _ (fun W s T h hl => inside_any b d (by omega) hg 108 (enters_of Tryz.func108 (by kernel_rfl) rfl) _ h3 W s T h hl)
      (fun W s T h hl => inside_any b d (by omega) hg 109 (enters_of Tryz.func109 (by kernel_rfl) rfl) _ h4 W s T h hl), singleG_shrinks (negP_shrinks s1) (brackP_shrinks s2)⟩

theorem ors_top (b : Nat) (hg : gtop ≤ b) : PartOk b 0 27 (orsP (singleP 12)) := by
  obtain ⟨h1, s1⟩ := single_all b hg 12 0 rfl
  exact (ors_all b 0 hg _ h1 s1).1

set_option maxHeartbeats 800000 in
theorem ended_any (b : Nat) (s : Bs) (d : Nat) (w : World) (h : Rdr w b s d) :
    Calls Tryz.prog 28 #[.pointer (some ⟨b, 0, none⟩)] w fun e w' => e = .returned (.bool (skipP s).isEmpty) ∧ Beside b w w' ∧ Rdr w' b (skipP s) d := by
  have he : (bs (skipP s)).toList.isEmpty = (skipP s).isEmpty := by rw [ByteArray.toList_eq, bs_list]
  go_enter Tryz.func28, Tryz.ntmps28
  go_wp2_with (go_at_call 48; refine (skip_any b s d _ h).mono ?_; rintro e w1 ⟨rfl, hb1, h1⟩; have c0 := h1.c0)
  go_ret
  exact ⟨by simp [he], hb1, h1⟩

/-- What Parse answers. -/
def Parsed (n : Nat) (w : World) (e : Ending) : Option Ex → Prop
  | none => e = .returned (.tuple #[.agg #[.int .i64 0, .int .i64 0, .string ⟨#[]⟩, .slice none 0 0], .bool false])
  | some x => ∃ v, e = .returned (.tuple #[v, .bool true]) ∧ ExAt (n ≤ ·) w v x

theorem below_put {B k : Nat} {w w' : World} (h : Below B w w') (hk : B ≤ k) (a0 a1 a2 a3 : Value) : Below B w (put4 w' k a0 a1 a2 a3) :=
  (((h.setCell (p := ⟨k, 0, none⟩) hk _).setCell (p := ⟨k, 1, none⟩) hk _).setCell (p := ⟨k, 2, none⟩) hk _).setCell (p := ⟨k, 3, none⟩) hk _

set_option maxHeartbeats 1600000 in
set_option maxRecDepth 100000 in
theorem parse_any (s : Bs) (hl : s.length ≤ 35184372088832) (w : World) (T : Tab w) :
    Calls Tryz.prog 12 #[.string (bs s)] w fun e w' => Below w.heap.size w w' ∧ Parsed w.heap.size w' e (parseP s) := by
  have h0 := below_new w (.cells #[.int .i64 0, .int .i64 0, .string ⟨#[]⟩, .slice none 0 0] 27)
  have h1 := below_new (w.alloc (.cells #[.int .i64 0, .int .i64 0, .string ⟨#[]⟩, .slice none 0 0] 27)) (.cells #[.string (bs s), .int .i64 0] 64)
  have hz : ((w.alloc (.cells #[.int .i64 0, .int .i64 0, .string ⟨#[]⟩, .slice none 0 0] 27)).alloc (.cells #[.string (bs s), .int .i64 0] 64)).heap.size = w.heap.size + 2 := by simp
  have R1 := (Blk.new w 27 (.int .i64 0) (.int .i64 0) (.string ⟨#[]⟩) (.slice none 0 0)).later h1
  have hb1 : Below w.heap.size w ((w.alloc (.cells #[.int .i64 0, .int .i64 0, .string ⟨#[]⟩, .slice none 0 0] 27)).alloc (.cells #[.string (bs s), .int .i64 0] 64)) := h0.trans (h1.mono h0.size)
  have T1 := T.later hb1
  have hR : Rdr ((w.alloc (.cells #[.int .i64 0, .int .i64 0, .string ⟨#[]⟩, .slice none 0 0] 27)).alloc (.cells #[.string (bs s), .int .i64 0] 64)) (w.heap.size + 1) s 0 := by
    constructor <;> simp
  have hg : gtop ≤ w.heap.size + 1 := Nat.le_succ_of_le T.size
  have C := ors_top (w.heap.size + 1) hg _ s T1 hR hl
  rw [hz] at C
  clear h0 h1 hR
  unfold parseP
  cases ho : orsP (singleP 12) s with
  | none =>
    rw [ho] at C
    go_enter Tryz.func12, Tryz.ntmps12
    go_wp2_with fail
    generalize ((w.alloc (.cells #[.int .i64 0, .int .i64 0, .string ⟨#[]⟩, .slice none 0 0] 27)).alloc (.cells #[.string (bs s), .int .i64 0] 64)) = w1 at *
    refine C.mono ?_

    rintro e w2 ⟨hb2, v2, s2, rfl, hR2, k, j, t, q, l, c, rfl⟩
    have R2 := R1.beside hb2 (by omega)
    obtain ⟨x0, x1, x2, x3, g0, g1, g2, g3⟩ := id R2
    have hl2 := R2.lt
    clear C
    go_wp2
    have R3 := (R2.put (.int .i64 k) (.int .i64 j) (.string t) (.slice q l c)).put (.int .i64 0) (.int .i64 0) (.string ⟨#[]⟩) (.slice none 0 0)
    obtain ⟨y0, y1, y2, y3, _, _, _, _⟩ := R3
    have hB3 := below_put (below_put (hb1.trans (hb2.below.mono (Nat.le_succ _))) (Nat.le_refl w.heap.size) (.int .i64 k) (.int .i64 j) (.string t) (.slice q l c)) (Nat.le_refl w.heap.size) (.int .i64 0) (.int .i64 0) (.string ⟨#[]⟩) (.slice none 0 0)
    unfold put4 at y0 y1 y2 y3
    exact bodyPost_ret (v := .tuple #[.agg #[.int .i64 0, .int .i64 0, .string ⟨#[]⟩, .slice none 0 0], .bool false]) (by simp [results, Tryz.results12, go_sem, y0, y1, y2, y3]) rfl ⟨hB3, rfl⟩
  | some r =>
    obtain ⟨x, s1⟩ := r
    rw [ho] at C
    simp only
    cases he : (skipP s1).isEmpty with
    | true =>
      rw [if_pos rfl]
      go_enter Tryz.func12, Tryz.ntmps12
      go_wp2_with fail
      generalize ((w.alloc (.cells #[.int .i64 0, .int .i64 0, .string ⟨#[]⟩, .slice none 0 0] 27)).alloc (.cells #[.string (bs s), .int .i64 0] 64)) = w1 at *
      refine C.mono ?_
      rintro e w2 ⟨hb2, v2, rfl, hR2, hx⟩
      obtain ⟨k, j, t, q, l, c, rfl⟩ := hx.form
      have R2 := R1.beside hb2 (by omega)
      obtain ⟨x0, x1, x2, x3, g0, g1, g2, g3⟩ := id R2
      have hl2 := R2.lt
      have hbl2 := hR2.lt
      have R3 := R2.put (.int .i64 k) (.int .i64 j) (.string t) (.slice q l c)
      have hR3 := hR2.put4 w.heap.size (.int .i64 k) (.int .i64 j) (.string t) (.slice q l c) (by omega)
      have hx3 := hx.put w.heap.size (.int .i64 k) (.int .i64 j) (.string t) (.slice q l c) (fun i hi => by omega)
      have hB3 := below_put (hb1.trans (hb2.below.mono (Nat.le_succ _))) (Nat.le_refl w.heap.size) (.int .i64 k) (.int .i64 j) (.string t) (.slice q l c)
      have E := ended_any (w.heap.size + 1) s1 0 _ hR3
      rw [he] at E
      clear C R1 R2
      go_wp2_with fail
      have E2 : Calls Tryz.prog 28 #[.pointer (some ⟨w.heap.size + 1, 0, none⟩)] ((((w2.setCell ⟨w.heap.size, 0, none⟩ (.int .i64 k)).setCell ⟨w.heap.size, 1, none⟩ (.int .i64 j)).setCell ⟨w.heap.size, 2, none⟩ (.string t)).setCell ⟨w.heap.size, 3, none⟩ (.slice q l c)) _ := E
      generalize hw3 : put4 w2 w.heap.size (.int .i64 k) (.int .i64 j) (.string t) (.slice q l c) = w3 at *
      refine E2.mono ?_
      rintro e w4 ⟨rfl, hb4, hR4⟩
      have R4 := R3.beside hb4 (by omega)
      obtain ⟨y0, y1, y2, y3, f0, f1, f2, f3⟩ := id R4
      have hl4 := R4.lt
      go_wp2
      have R5 := R4.put (.int .i64 k) (.int .i64 j) (.string t) (.slice q l c)
      obtain ⟨z0, z1, z2, z3, _, _, _, _⟩ := R5
      have hB5 := below_put (hB3.trans (hb4.below.mono (Nat.le_succ _))) (Nat.le_refl w.heap.size) (.int .i64 k) (.int .i64 j) (.string t) (.slice q l c)
      have hx5 := ((hx3.beside hb4 (fun i hi => by omega)).put w.heap.size (.int .i64 k) (.int .i64 j) (.string t) (.slice q l c) (fun i hi => by omega)).imp (Q := (w.heap.size ≤ ·)) (fun i hi _ => by omega)
      unfold put4 at z0 z1 z2 z3
      exact bodyPost_ret (v := .tuple #[.agg #[.int .i64 k, .int .i64 j, .string t, .slice q l c], .bool true]) (by simp [results, Tryz.results12, go_sem, z0, z1, z2, z3]) rfl ⟨hB5, _, rfl, hx5⟩
    | false =>
      rw [if_neg (by simp)]
      go_enter Tryz.func12, Tryz.ntmps12
      go_wp2_with fail
      generalize ((w.alloc (.cells #[.int .i64 0, .int .i64 0, .string ⟨#[]⟩, .slice none 0 0] 27)).alloc (.cells #[.string (bs s), .int .i64 0] 64)) = w1 at *
      refine C.mono ?_
      rintro e w2 ⟨hb2, v2, rfl, hR2, hx⟩
      obtain ⟨k, j, t, q, l, c, rfl⟩ := hx.form
      have R2 := R1.beside hb2 (by omega)
      obtain ⟨x0, x1, x2, x3, g0, g1, g2, g3⟩ := id R2
      have hl2 := R2.lt
      have hbl2 := hR2.lt
      have R3 := R2.put (.int .i64 k) (.int .i64 j) (.string t) (.slice q l c)
      have hR3 := hR2.put4 w.heap.size (.int .i64 k) (.int .i64 j) (.string t) (.slice q l c) (by omega)
      have hx3 := hx.put w.heap.size (.int .i64 k) (.int .i64 j) (.string t) (.slice q l c) (fun i hi => by omega)
      have hB3 := below_put (hb1.trans (hb2.below.mono (Nat.le_succ _))) (Nat.le_refl w.heap.size) (.int .i64 k) (.int .i64 j) (.string t) (.slice q l c)
      have E := ended_any (w.heap.size + 1) s1 0 _ hR3
      rw [he] at E
      clear C R1 R2
      go_wp2_with fail
      have E2 : Calls Tryz.prog 28 #[.pointer (some ⟨w.heap.size + 1, 0, none⟩)] ((((w2.setCell ⟨w.heap.size, 0, none⟩ (.int .i64 k)).setCell ⟨w.heap.size, 1, none⟩ (.int .i64 j)).setCell ⟨w.heap.size, 2, none⟩ (.string t)).setCell ⟨w.heap.size, 3, none⟩ (.slice q l c)) _ := E
      generalize hw3 : put4 w2 w.heap.size (.int .i64 k) (.int .i64 j) (.string t) (.slice q l c) = w3 at *
      refine E2.mono ?_
      rintro e w4 ⟨rfl, hb4, hR4⟩
      have R4 := R3.beside hb4 (by omega)
      obtain ⟨y0, y1, y2, y3, f0, f1, f2, f3⟩ := id R4
      have hl4 := R4.lt
      go_wp2
      have R5 := R4.put (.int .i64 0) (.int .i64 0) (.string ⟨#[]⟩) (.slice none 0 0)
      obtain ⟨z0, z1, z2, z3, _, _, _, _⟩ := R5
      have hB5 := below_put (hB3.trans (hb4.below.mono (Nat.le_succ _))) (Nat.le_refl w.heap.size) (.int .i64 0) (.int .i64 0) (.string ⟨#[]⟩) (.slice none 0 0)
      unfold put4 at z0 z1 z2 z3
      exact bodyPost_ret (v := .tuple #[.agg #[.int .i64 0, .int .i64 0, .string ⟨#[]⟩, .slice none 0 0], .bool false]) (by simp [results, Tryz.results12, go_sem, z0, z1, z2, z3]) rfl ⟨hB5, rfl⟩
end Go.Proofs.YtopfnfmglnjljaaGreatDoor
