/- The contracts of inside, negated, bracketed, single; of Parse. -/
import Derived.Test.YtopfnfmglnjljaaGreatDoorSingle
namespace Go.Proofs.YtopfnfmglnjljaaGreatDoor
open Go.ChangeShapes Go.WideShapes Go.ChangeAt Go.RowKit
set_option linter.unusedVariables false
set_option linter.unusedSimpArgs false

theorem Read.rdr {n b d : Nat} {W : World} {e : Ending} {r : Option (Ex × Bs)} (h : Read n b d W e r) : ∃ s, Rdr W b s d := by
  cases r with
  | none => obtain ⟨_, s, _, h1, _⟩ := h; exact ⟨s, h1⟩
  | some r => obtain ⟨_, _, h1, _⟩ := h; exact ⟨_, h1⟩

/-- From one world to another. -/
theorem Read.move {n m b d1 d2 : Nat} {W W' : World} {e : Ending} {r : Option (Ex × Bs)} (h : Read n b d1 W e r) (hr : ∀ s, Rdr W b s d1 → Rdr W' b s d2) (hc : ∀ (a : Addr) v, n ≤ a.block → W.cell? a = some v → W'.cell? a = some v) (hm : m ≤ n) : Read m b d2 W' e r := by
  cases r with
  | none => obtain ⟨v, s, h1, h2, h3⟩ := h; exact ⟨v, s, h1, hr s h2, h3⟩
  | some r => obtain ⟨v, h1, h2, h3⟩ := h; exact ⟨v, h1, hr _ h2, h3.later fun a u ha hu => ⟨hc a u ha hu, Nat.le_trans hm ha⟩⟩

set_option maxHeartbeats 1600000 in
set_option maxRecDepth 100000 in
theorem inside_any (b d : Nat) (hd : d < 12) (hg : gtop ≤ b) (g : FuncId) (eg : ∀ args w, (callFunc g args).run Tryz.prog w = .ok (.enter g args) w) (p : Rd) (hp : PartOk b (d + 1) g p)
    (w : World) (s : Bs) (T : Tab w) (h : Rdr w b s d) (hl : s.length ≤ 35184372088832) :
    Calls Tryz.prog 107 #[.pointer (some ⟨b, 0, none⟩), .func (.func g) #[.pointer (some ⟨b, 0, none⟩)] #[]] w fun e w' => Beside b w w' ∧ Read w.heap.size b d w' e (p s) := by
  have hbw := h.lt
  have h0 := below_new w (.cells #[.int .i64 0, .int .i64 0, .string ⟨#[]⟩, .slice none 0 0] 27)
  have R0 := Blk.new w 27 (.int .i64 0) (.int .i64 0) (.string ⟨#[]⟩) (.slice none 0 0)
  have h1 := h.deep (d + 1)
  have hs1 := Beside.set (b := b) (a := ⟨b, 1, none⟩) w rfl (.int .i64 ((d : Int) + 1))
  have h2 : Rdr (w.setCell ⟨b, 1, none⟩ (.int .i64 ((d : Int) + 1))) b s (d + 1) := h1
  have hn2 := below_new (w.setCell ⟨b, 1, none⟩ (.int .i64 ((d : Int) + 1))) (.cells #[.int .i64 0, .int .i64 0, .string ⟨#[]⟩, .slice none 0 0] 27)
  have hT2 := (T.beside hs1 hg).later hn2
  have C := hp _ s hT2 (h2.later hn2) hl
  have R2 := Blk.new (w.setCell ⟨b, 1, none⟩ (.int .i64 ((d : Int) + 1))) 27 (.int .i64 0) (.int .i64 0) (.string ⟨#[]⟩) (.slice none 0 0)
  have hB2 := hs1.alloc hbw (.cells #[.int .i64 0, .int .i64 0, .string ⟨#[]⟩, .slice none 0 0] 27)
  rw [World.size_setCell] at R2
  have hz2 : ((w.setCell ⟨b, 1, none⟩ (.int .i64 ((d : Int) + 1))).alloc (.cells #[.int .i64 0, .int .i64 0, .string ⟨#[]⟩, .slice none 0 0] 27)).heap.size = w.heap.size + 1 := by simp
  have H0 := h.later h0
  have c1 := H0.c1
  have f1 := H0.f1
  have hdI : (d : Int) < 12 := by omega
  have hdI0 : (0 : Int) ≤ d := by omega
  have hne : ((d : Int) == 12) = false := by simp; omega
  have hbl := H0.lt
  clear R0 hp h1 h2 hn2 hT2
  go_enter Tryz.func107, Tryz.ntmps107
  go_wp2_with fail
  generalize ((w.setCell ⟨b, 1, none⟩ (.int .i64 ((d : Int) + 1))).alloc (.cells #[.int .i64 0, .int .i64 0, .string ⟨#[]⟩, .slice none 0 0] 27)) = w2 at *
  refine C.mono ?_
  rintro e w3 ⟨hb3, hr3⟩
  obtain ⟨k, j, t, q, l, c, rfl⟩ := hr3.form
  obtain ⟨s3, hR3⟩ := hr3.rdr
  have R3 := R2.beside hb3 (by omega)
  obtain ⟨x0, x1, x2, x3, g0, g1, g2, g3⟩ := id R3
  have r1 := hR3.c1
  have rf1 := hR3.f1
  have hl3 := R3.lt
  have hbl3 := hR3.lt
  rw [show (((d + 1 : Nat)) : Int) = (d : Int) + 1 from rfl] at r1
  clear C c1 f1 H0 hbl h0
  go_wp2
  have R4 := (((R3.other ⟨b, 1, none⟩ (.int .i64 d) (by simp; omega)).put (.int .i64 k) (.int .i64 j) (.string t) (.slice q l c)).alloc (.cells #[.int .i64 k, .int .i64 j, .string t, .slice q l c] 27))
  obtain ⟨y0, y1, y2, y3, _, _, _, _⟩ := R4
  have hF := (((hB2.trans hb3).trans (Beside.set (a := ⟨b, 1, none⟩) w3 rfl (.int .i64 d))).putNew hbw (Nat.le_refl _) (.int .i64 k) (.int .i64 j) (.string t) (.slice q l c)).alloc hbw (.cells #[.int .i64 k, .int .i64 j, .string t, .slice q l c] 27)
  have hE : Read w.heap.size b d ((put4 (w3.setCell ⟨b, 1, none⟩ (.int .i64 d)) w.heap.size (.int .i64 k) (.int .i64 j) (.string t) (.slice q l c)).alloc (.cells #[.int .i64 k, .int .i64 j, .string t, .slice q l c] 27)) _ (p s) :=
    hr3.move (fun s' hs' => ((hs'.deep d).put4 _ _ _ _ _ (by omega)).later (below_new _ _))
      (fun a v ha hv => kept_cell (below_new _ _) (by
        rw [cell_of_block (put4_block _ _ _ _ _ _ _ (by omega)), World.cell?_setCell_other _ _ _ _ (fun e => by rw [← e] at ha; simp at ha; omega)]
        exact hv)) (by omega)
  unfold put4 at y0 y1 y2 y3
  exact bodyPost_ret (v := .tuple #[.agg #[.int .i64 k, .int .i64 j, .string t, .slice q l c], .bool (p s).isSome]) (by simp [results, Tryz.results107, go_sem, y0, y1, y2, y3]) rfl ⟨hF, hE⟩

set_option maxHeartbeats 1600000 in
set_option maxRecDepth 100000 in
/-- What is too deep is refused. -/
theorem inside_no (b : Nat) (fv : Value) (w : World) (s : Bs) (h : Rdr w b s 12) :
    Calls Tryz.prog 107 #[.pointer (some ⟨b, 0, none⟩), fv] w fun e w' => Beside b w w' ∧ Read w.heap.size b 12 w' e none := by
  have hbw := h.lt
  have h0 := below_new w (.cells #[.int .i64 0, .int .i64 0, .string ⟨#[]⟩, .slice none 0 0] 27)
  have hB0 := (Beside.refl b w).alloc hbw (.cells #[.int .i64 0, .int .i64 0, .string ⟨#[]⟩, .slice none 0 0] 27)
  have H0 := h.later h0
  have c1 := h.c1
  rw [show ((12 : Nat) : Int) = 12 from rfl] at c1
  go_enter Tryz.func107, Tryz.ntmps107
  go_wp2_with fail
  exact bodyPost_ret (v := .tuple #[.agg #[.int .i64 0, .int .i64 0, .string ⟨#[]⟩, .slice none 0 0], .bool false]) (by simp [results, Tryz.results107, go_sem]) rfl ⟨hB0, _, s, rfl, H0, _, _, _, _, _, _, rfl⟩

/-- A minus ahead. -/
def negP (p : Rd) : Rd := fun s => (p s).map fun r => (.neg r.1, r.2)
/-- Behind a bracket. -/
def brackP (p : Rd) : Rd := fun s => match p s with
  | none => none
  | some (x, s1) => if (tookP s1 [41]).2 then some (x, (tookP s1 [41]).1) else none

set_option maxHeartbeats 1600000 in
set_option maxRecDepth 100000 in
theorem negated_ok (b d : Nat) (p : Rd) (hp : PartOk b d 101 p) : PartOk b d 108 (negP p) := by
  intro w s T h hl
  have hbw := h.lt
  have h0 := below_new w (.cells #[.int .i64 0, .int .i64 0, .string ⟨#[]⟩, .slice none 0 0] 27)
  have R0 := Blk.new w 27 (.int .i64 0) (.int .i64 0) (.string ⟨#[]⟩) (.slice none 0 0)
  have hz0 : (w.alloc (.cells #[.int .i64 0, .int .i64 0, .string ⟨#[]⟩, .slice none 0 0] 27)).heap.size = w.heap.size + 1 := by simp
  have hB0 := (Beside.refl b w).alloc hbw (.cells #[.int .i64 0, .int .i64 0, .string ⟨#[]⟩, .slice none 0 0] 27)
  have C := hp _ s (T.later h0) (h.later h0) hl
  unfold negP
  cases hps : p s with
  | none =>
    rw [hps] at C
    clear hp
    go_enter Tryz.func108, Tryz.ntmps108
    go_wp2_with fail
    generalize w.alloc (.cells #[.int .i64 0, .int .i64 0, .string ⟨#[]⟩, .slice none 0 0] 27) = w0 at *
    refine C.mono ?_
    rintro e w1 ⟨hb1, v1, s1, rfl, hR1, k, j, t, q, l, c, rfl⟩
    have R1 := R0.beside hb1 (by omega)
    obtain ⟨x0, x1, x2, x3, g0, g1, g2, g3⟩ := id R1
    have hl1 := R1.lt
    clear C
    go_wp2
    have R2 := (R1.put (.int .i64 0) (.int .i64 0) (.string ⟨#[]⟩) (.slice none 0 0)).alloc (.cells #[.int .i64 k, .int .i64 j, .string t, .slice q l c] 27)
    obtain ⟨y0, y1, y2, y3, _, _, _, _⟩ := R2
    unfold put4 at y0 y1 y2 y3
    exact bodyPost_ret (v := .tuple #[.agg #[.int .i64 0, .int .i64 0, .string ⟨#[]⟩, .slice none 0 0], .bool false]) (by simp [results, Tryz.results108, go_sem, y0, y1, y2, y3]) rfl
      ⟨((hB0.trans hb1).putNew hbw (Nat.le_refl _) _ _ _ _).alloc hbw _, _, s1, rfl, (hR1.put4 _ _ _ _ _ (by omega)).later (below_new _ _), _, _, _, _, _, _, rfl⟩
  | some r =>
    obtain ⟨x, s1⟩ := r
    rw [hps] at C
    clear hp
    go_enter Tryz.func108, Tryz.ntmps108
    go_wp2_with fail
    generalize w.alloc (.cells #[.int .i64 0, .int .i64 0, .string ⟨#[]⟩, .slice none 0 0] 27) = w0 at *
    refine C.mono ?_
    rintro e w1 ⟨hb1, v1, rfl, hR1, hx⟩
    obtain ⟨k, j, t, q, l, c, rfl⟩ := hx.form
    have R1 := R0.beside hb1 (by omega)
    obtain ⟨x0, x1, x2, x3, g0, g1, g2, g3⟩ := id R1
    have hl1 := R1.lt
    clear C
    go_wp2
    have R2 := ((R1.put (.int .i64 4) (.int .i64 0) (.string ⟨#[]⟩) (.slice (some ⟨w1.heap.size + 1, 0, none⟩) 1 1)).alloc (.cells #[.int .i64 k, .int .i64 j, .string t, .slice q l c] 27)).alloc (.cells #[.int .i64 k, .int .i64 j, .string t, .slice q l c] 27)
    obtain ⟨y0, y1, y2, y3, _, _, _, _⟩ := R2
    have hsz : ((put4 w1 w.heap.size (.int .i64 4) (.int .i64 0) (.string ⟨#[]⟩) (.slice (some ⟨w1.heap.size + 1, 0, none⟩) 1 1)).alloc (.cells #[.int .i64 k, .int .i64 j, .string t, .slice q l c] 27)).heap.size = w1.heap.size + 1 := by
      rw [show ((put4 w1 w.heap.size (.int .i64 4) (.int .i64 0) (.string ⟨#[]⟩) (.slice (some ⟨w1.heap.size + 1, 0, none⟩) 1 1)).alloc (.cells #[.int .i64 k, .int .i64 j, .string t, .slice q l c] 27)).heap.size = (put4 w1 w.heap.size (.int .i64 4) (.int .i64 0) (.string ⟨#[]⟩) (.slice (some ⟨w1.heap.size + 1, 0, none⟩) 1 1)).heap.size + 1 by simp, put4_size]
    have nc := fun i x h => new_cell (w := (put4 w1 w.heap.size (.int .i64 4) (.int .i64 0) (.string ⟨#[]⟩) (.slice (some ⟨w1.heap.size + 1, 0, none⟩) 1 1)).alloc (.cells #[.int .i64 k, .int .i64 j, .string t, .slice q l c] 27)) (t := 27) #[.int .i64 k, .int .i64 j, .string t, .slice q l c] i x h
    rw [hsz] at nc
    have hxx := (((hx.put w.heap.size (.int .i64 4) (.int .i64 0) (.string ⟨#[]⟩) (.slice (some ⟨w1.heap.size + 1, 0, none⟩) 1 1) (fun i hi => by omega)).below (below_new _ (.cells #[.int .i64 k, .int .i64 j, .string t, .slice q l c] 27))).below (below_new _ (.cells #[.int .i64 k, .int .i64 j, .string t, .slice q l c] 27))).imp (Q := (w.heap.size ≤ ·)) (fun i hi _ => by omega)
    have hE : ExAt (w.heap.size ≤ ·) (((put4 w1 w.heap.size (.int .i64 4) (.int .i64 0) (.string ⟨#[]⟩) (.slice (some ⟨w1.heap.size + 1, 0, none⟩) 1 1)).alloc (.cells #[.int .i64 k, .int .i64 j, .string t, .slice q l c] 27)).alloc (.cells #[.int .i64 k, .int .i64 j, .string t, .slice q l c] 27)) (.agg #[.int .i64 4, .int .i64 0, .string ⟨#[]⟩, .slice (some ⟨w1.heap.size + 1, 0, none⟩) 1 1]) (.neg x) :=
      ⟨w1.heap.size + 1, _, _, _, _, rfl, by omega, nc 0 _ rfl, nc 1 _ rfl, nc 2 _ rfl, nc 3 _ rfl, hxx⟩
    unfold put4 at y0 y1 y2 y3
    exact bodyPost_ret (v := .tuple #[.agg #[.int .i64 4, .int .i64 0, .string ⟨#[]⟩, .slice (some ⟨w1.heap.size + 1, 0, none⟩) 1 1], .bool true]) (by simp [results, Tryz.results108, go_sem, y0, y1, y2, y3]) rfl
      ⟨(((hB0.trans hb1).putNew hbw (Nat.le_refl _) _ _ _ _).alloc hbw _).alloc hbw _, _, rfl, ((hR1.put4 _ _ _ _ _ (by omega)).later (below_new _ _)).later (below_new _ _), hE⟩

theorem Beside.undrew {b : Nat} {w w' : World} (h : Beside b w.drew w') : Beside b w w' := ⟨⟨h.below.os, h.below.tape, h.below.output, h.below.size, h.below.block⟩, h.above⟩
theorem Beside.drew {b : Nat} {w w' : World} (h : Beside b w w') : Beside b w w'.drew := ⟨⟨h.below.os, h.below.tape, h.below.output, h.below.size, h.below.block⟩, h.above⟩

set_option maxHeartbeats 1600000 in
set_option maxRecDepth 100000 in
theorem bracketed_ok (b d : Nat) (p : Rd) (hp : PartOk b d 27 p) (hs : Shrinks p) : PartOk b d 109 (brackP p) := by
  intro w s T h hl
  have hbw := h.lt
  have h0 := below_new w (.cells #[.int .i64 0, .int .i64 0, .string ⟨#[]⟩, .slice none 0 0] 27)
  have R0 := Blk.new w 27 (.int .i64 0) (.int .i64 0) (.string ⟨#[]⟩) (.slice none 0 0)
  have hz0 : (w.alloc (.cells #[.int .i64 0, .int .i64 0, .string ⟨#[]⟩, .slice none 0 0] 27)).heap.size = w.heap.size + 1 := by simp
  have hB0 := (Beside.refl b w).alloc hbw (.cells #[.int .i64 0, .int .i64 0, .string ⟨#[]⟩, .slice none 0 0] 27)
  have C := hp _ s (T.later h0) (h.later h0) hl
  unfold brackP
  cases hps : p s with
  | none =>
    rw [hps] at C
    clear hp
    go_enter Tryz.func109, Tryz.ntmps109
    go_wp2_with fail
    generalize w.alloc (.cells #[.int .i64 0, .int .i64 0, .string ⟨#[]⟩, .slice none 0 0] 27) = w0 at *
    refine C.mono ?_
    rintro e w1 ⟨hb1, v1, s1, rfl, hR1, k, j, t, q, l, c, rfl⟩
    have R1 := R0.beside hb1 (by omega)
    obtain ⟨x0, x1, x2, x3, g0, g1, g2, g3⟩ := id R1
    have hl1 := R1.lt
    clear C
    go_wp2_with fail
    go_region
    go_wp2
    have R2 := (R1.put (.int .i64 k) (.int .i64 j) (.string t) (.slice q l c)).alloc (.cells #[.int .i64 k, .int .i64 j, .string t, .slice q l c] 27)
    obtain ⟨y0, y1, y2, y3, _, _, _, _⟩ := R2
    unfold put4 at y0 y1 y2 y3
    exact bodyPost_ret (v := .tuple #[.agg #[.int .i64 k, .int .i64 j, .string t, .slice q l c], .bool false]) (by simp [results, Tryz.results109, go_sem, y0, y1, y2, y3]) rfl
      ⟨(((hB0.trans hb1).putNew hbw (Nat.le_refl _) _ _ _ _).alloc hbw _).drew, _, s1, rfl, (((hR1.put4 _ _ _ _ _ (by omega)).later (below_new _ _)).of_block rfl), _, _, _, _, _, _, rfl⟩
  | some r =>
    obtain ⟨x, s1⟩ := r
    rw [hps] at C
    have hs1 := hs _ _ _ hps
    clear hp hs
    cases ht : (tookP s1 [41]).2 with
    | true =>
      simp only [Bool.false_eq_true, if_false, if_true]
      go_enter Tryz.func109, Tryz.ntmps109
      go_wp2_with fail
      generalize w.alloc (.cells #[.int .i64 0, .int .i64 0, .string ⟨#[]⟩, .slice none 0 0] 27) = w0 at *
      refine C.mono ?_
      rintro e w1 ⟨hb1, v1, rfl, hR1, hx⟩
      obtain ⟨k, j, t, q, l, c, rfl⟩ := hx.form
      have hn1 := below_new w1 (.cells #[.int .i64 k, .int .i64 j, .string t, .slice q l c] 27)
      have X1 := Blk.new w1 27 (.int .i64 k) (.int .i64 j) (.string t) (.slice q l c)
      have R1 := (R0.beside hb1 (by omega)).later hn1
      have hR2 := hR1.later hn1
      have hx2 := hx.below hn1
      have hB2 := (hB0.trans hb1).alloc hbw (.cells #[.int .i64 k, .int .i64 j, .string t, .slice q l c] 27)
      have hXR : w.heap.size < w1.heap.size := (R0.beside hb1 (by omega)).lt
      have hbX : b ≠ w1.heap.size := by omega
      have hbR : b ≠ w.heap.size := by omega
      clear C R0 hR1 hx
      go_wp2_with fail
      generalize w1.alloc (.cells #[.int .i64 k, .int .i64 j, .string t, .slice q l c] 27) = w2 at *
      have K : Calls Tryz.prog 78 #[.pointer (some ⟨b, 0, none⟩), .string (bs [41])] w2.drew fun e w' => e = .returned (.bool (tookP s1 [41]).2) ∧ Beside b w2 w' ∧ Rdr w' b (tookP s1 [41]).1 d := (took_any b s1 [41] d w2.drew (hR2.of_block rfl)).mono fun e w' h => ⟨h.1, h.2.1.undrew, h.2.2⟩
      rw [show bs [41] = ⟨#[41]⟩ from rfl] at K
      rw [ht] at K
      obtain ⟨x0, x1, x2, x3, _, _, _, _⟩ := id X1
      go_region_with (go_at_call 78; refine K.mono ?_; rintro e w3 ⟨rfl, hb3, hR3⟩; have X3 := X1.beside (w' := w3) hb3 hbX.symm; have R3 := R1.beside (w' := w3) hb3 hbR.symm; obtain ⟨z0, z1, z2, z3, _, _, _, _⟩ := id X3; obtain ⟨c0, c1, c2, c3, f0, f1, f2, f3⟩ := id R3; have hl3 := R3.lt)
      all_goals (try go_wp2)
      all_goals (
        have R4 := R3.put (.int .i64 k) (.int .i64 j) (.string t) (.slice q l c)
        obtain ⟨y0, y1, y2, y3, _, _, _, _⟩ := R4
        have hx4 := ((hx2.beside hb3 (fun i hi => by omega)).put w.heap.size (.int .i64 k) (.int .i64 j) (.string t) (.slice q l c) (fun i hi => by omega)).imp (Q := (w.heap.size ≤ ·)) (fun i hi _ => by omega)
        have hR4 := hR3.put4 w.heap.size (.int .i64 k) (.int .i64 j) (.string t) (.slice q l c) (by omega)
        have hB4 := (hB2.trans hb3).putNew hbw (Nat.le_refl _) (.int .i64 k) (.int .i64 j) (.string t) (.slice q l c)
        unfold put4 at y0 y1 y2 y3
        exact bodyPost_ret (v := .tuple #[.agg #[.int .i64 k, .int .i64 j, .string t, .slice q l c], .bool true]) (by simp [results, Tryz.results109, go_sem, y0, y1, y2, y3]) rfl ⟨hB4, _, rfl, hR4, hx4⟩)
    | false =>
      simp only [Bool.false_eq_true, if_false, if_true]
      go_enter Tryz.func109, Tryz.ntmps109
      go_wp2_with fail
      generalize w.alloc (.cells #[.int .i64 0, .int .i64 0, .string ⟨#[]⟩, .slice none 0 0] 27) = w0 at *
      refine C.mono ?_
      rintro e w1 ⟨hb1, v1, rfl, hR1, hx⟩
      obtain ⟨k, j, t, q, l, c, rfl⟩ := hx.form
      have hn1 := below_new w1 (.cells #[.int .i64 k, .int .i64 j, .string t, .slice q l c] 27)
      have X1 := Blk.new w1 27 (.int .i64 k) (.int .i64 j) (.string t) (.slice q l c)
      have R1 := (R0.beside hb1 (by omega)).later hn1
      have hR2 := hR1.later hn1
      have hx2 := hx.below hn1
      have hB2 := (hB0.trans hb1).alloc hbw (.cells #[.int .i64 k, .int .i64 j, .string t, .slice q l c] 27)
      have hXR : w.heap.size < w1.heap.size := (R0.beside hb1 (by omega)).lt
      have hbX : b ≠ w1.heap.size := by omega
      have hbR : b ≠ w.heap.size := by omega
      clear C R0 hR1 hx
      go_wp2_with fail
      generalize w1.alloc (.cells #[.int .i64 k, .int .i64 j, .string t, .slice q l c] 27) = w2 at *
      have K : Calls Tryz.prog 78 #[.pointer (some ⟨b, 0, none⟩), .string (bs [41])] w2.drew fun e w' => e = .returned (.bool (tookP s1 [41]).2) ∧ Beside b w2 w' ∧ Rdr w' b (tookP s1 [41]).1 d := (took_any b s1 [41] d w2.drew (hR2.of_block rfl)).mono fun e w' h => ⟨h.1, h.2.1.undrew, h.2.2⟩
      rw [show bs [41] = ⟨#[41]⟩ from rfl] at K
      rw [ht] at K
      obtain ⟨x0, x1, x2, x3, _, _, _, _⟩ := id X1
      go_region_with (go_at_call 78; refine K.mono ?_; rintro e w3 ⟨rfl, hb3, hR3⟩; have X3 := X1.beside (w' := w3) hb3 hbX.symm; have R3 := R1.beside (w' := w3) hb3 hbR.symm; obtain ⟨z0, z1, z2, z3, _, _, _, _⟩ := id X3; obtain ⟨c0, c1, c2, c3, f0, f1, f2, f3⟩ := id R3; have hl3 := R3.lt)
      all_goals (try go_wp2)
      all_goals (
        have R4 := R3.put (.int .i64 k) (.int .i64 j) (.string t) (.slice q l c)
        obtain ⟨y0, y1, y2, y3, _, _, _, _⟩ := R4
        have hx4 := ((hx2.beside hb3 (fun i hi => by omega)).put w.heap.size (.int .i64 k) (.int .i64 j) (.string t) (.slice q l c) (fun i hi => by omega)).imp (Q := (w.heap.size ≤ ·)) (fun i hi _ => by omega)
        have hR4 := hR3.put4 w.heap.size (.int .i64 k) (.int .i64 j) (.string t) (.slice q l c) (by omega)
        have hB4 := (hB2.trans hb3).putNew hbw (Nat.le_refl _) (.int .i64 k) (.int .i64 j) (.string t) (.slice q l c)
        unfold put4 at y0 y1 y2 y3
        exact bodyPost_ret (v := .tuple #[.agg #[.int .i64 k, .int .i64 j, .string t, .slice q l c], .bool false]) (by simp [results, Tryz.results109, go_sem, y0, y1, y2, y3]) rfl ⟨hB4, _, _, rfl, hR4, _, _, _, _, _, _, rfl⟩)
end Go.Proofs.YtopfnfmglnjljaaGreatDoor
