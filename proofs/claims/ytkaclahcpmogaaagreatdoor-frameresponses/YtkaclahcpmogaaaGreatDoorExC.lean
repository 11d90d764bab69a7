/- The contracts of leaf, inside, negated, bracketed, single; of Parse.
   The contracts of inside, negated, bracketed, single; of Parse.
   The contract of single, and of Parse.
   The contract of Parse. -/
import Derived.Test.YtkaclahcpmogaaaGreatDoorExB
namespace Go.Proofs.YtkaclahcpmogaaaGreatDoor
open Go.ChangeShapes Go.WideShapes Go.ChangeAt Go.RowKit
set_option linter.unusedVariables false
set_option linter.unusedSimpArgs false

/-- A leaf's value. -/
def leafV : Option Ex → Value
  | some (.name s) => .agg #[.int .i64 2, .int .i64 0, .string (bs s), .slice none 0 0]
  | some (.num n) => .agg #[.int .i64 1, .int .i64 n, .string ⟨#[]⟩, .slice none 0 0]
  | _ => .agg #[.int .i64 0, .int .i64 0, .string ⟨#[]⟩, .slice none 0 0]

set_option maxHeartbeats 1600000 in
set_option maxRecDepth 100000 in
theorem leaf_any (s : Bs) (hr : ∀ c ∈ s, runB c = true) (hl : s.length ≤ 35184372088832) (hF : Full ∨ wordP s = true) (w : World) (T : Tab w) :
    Calls Tryz.prog 125 #[.string (bs s)] w fun e w' => Below w.heap.size w w' ∧ e = .returned (.tuple #[leafV (leafP s), .bool (leafP s).isSome]) := by
  have h0 := below_new w (.cells #[.int .i64 0, .int .i64 0, .string ⟨#[]⟩, .slice none 0 0] 107)
  have R0 := Blk.new w 107 (.int .i64 0) (.int .i64 0) (.string ⟨#[]⟩) (.slice none 0 0)
  have W := word_any s (run_ascii hr) hl (w.alloc (.cells #[.int .i64 0, .int .i64 0, .string ⟨#[]⟩, .slice none 0 0] 107))
  have T0 := T.later h0
  have hsz : w.heap.size < (w.alloc (.cells #[.int .i64 0, .int .i64 0, .string ⟨#[]⟩, .slice none 0 0] 107)).heap.size := by simp
  unfold leafP
  cases hw : wordP s with
  | true =>
    rw [hw] at W
    rw [if_pos rfl]
    go_enter Tryz.func125, Tryz.ntmps125
    go_wp2_with fail
    generalize w.alloc (.cells #[.int .i64 0, .int .i64 0, .string ⟨#[]⟩, .slice none 0 0] 107) = w0 at *
    refine W.mono ?_
    rintro e w1 ⟨rfl, hb1⟩
    have R1 := R0.later hb1
    obtain ⟨c0, c1, c2, c3, f0, f1, f2, f3⟩ := id R1
    have hl1 := R1.lt
    go_wp2
    have R2 := R1.put (.int .i64 2) (.int .i64 0) (.string (bs s)) (.slice none 0 0)
    obtain ⟨y0, y1, y2, y3, _, _, _, _⟩ := R2
    unfold put4 at y0 y1 y2 y3
    exact bodyPost_ret (v := .tuple #[.agg #[.int .i64 2, .int .i64 0, .string (bs s), .slice none 0 0], .bool true]) (by simp [results, Tryz.results125, go_sem, y0, y1, y2, y3]) rfl
      ⟨(((h0.trans (hb1.mono (by omega))).setCell (p := ⟨w.heap.size, 0, none⟩) (Nat.le_refl _) _).setCell (p := ⟨w.heap.size, 1, none⟩) (Nat.le_refl _) _).setCell (p := ⟨w.heap.size, 2, none⟩) (Nat.le_refl _) _ |>.setCell (p := ⟨w.heap.size, 3, none⟩) (Nat.le_refl _) _, rfl⟩
  | false =>
    replace hF : Full := hF.elim id (fun h => by rw [hw] at h; cases h)
    rw [hw] at W
    rw [if_neg (by simp)]
    have N := fun W' T' => number_any s hr hl hF W' T'
    cases hn : numberP s with
    | some n =>
      simp only [hn] at N
      go_enter Tryz.func125, Tryz.ntmps125
      go_wp2_with fail
      generalize w.alloc (.cells #[.int .i64 0, .int .i64 0, .string ⟨#[]⟩, .slice none 0 0] 107) = w0 at *
      refine W.mono ?_
      rintro e w1 ⟨rfl, hb1⟩
      have N1 := N w1 (T0.later hb1)
      have R1 := R0.later hb1
      clear N W
      go_wp2_with (go_at_call 132; refine N1.mono ?_; rintro e w2 ⟨hb2, rfl⟩; have R2 := R1.later hb2; obtain ⟨c0, c1, c2, c3, f0, f1, f2, f3⟩ := id R2; have hl1 := R2.lt)
      have R3 := R2.put (.int .i64 1) (.int .i64 n) (.string ⟨#[]⟩) (.slice none 0 0)
      obtain ⟨y0, y1, y2, y3, _, _, _, _⟩ := R3
      unfold put4 at y0 y1 y2 y3
      exact bodyPost_ret (v := .tuple #[.agg #[.int .i64 1, .int .i64 n, .string ⟨#[]⟩, .slice none 0 0], .bool true]) (by simp [results, Tryz.results125, go_sem, y0, y1, y2, y3]) rfl
        ⟨((((h0.trans (hb1.mono (by omega))).trans (hb2.mono (by have := hb1.size; omega))).setCell (p := ⟨w.heap.size, 0, none⟩) (Nat.le_refl _) _).setCell (p := ⟨w.heap.size, 1, none⟩) (Nat.le_refl _) _).setCell (p := ⟨w.heap.size, 2, none⟩) (Nat.le_refl _) _ |>.setCell (p := ⟨w.heap.size, 3, none⟩) (Nat.le_refl _) _, rfl⟩
    | none =>
      simp only [hn] at N
      go_enter Tryz.func125, Tryz.ntmps125
      go_wp2_with fail
      generalize w.alloc (.cells #[.int .i64 0, .int .i64 0, .string ⟨#[]⟩, .slice none 0 0] 107) = w0 at *
      refine W.mono ?_
      rintro e w1 ⟨rfl, hb1⟩
      have N1 := N w1 (T0.later hb1)
      have R1 := R0.later hb1
      clear N W
      go_wp2_with (go_at_call 132; refine N1.mono ?_; rintro e w2 ⟨hb2, rfl⟩; have R2 := R1.later hb2; obtain ⟨c0, c1, c2, c3, f0, f1, f2, f3⟩ := id R2; have hl1 := R2.lt)
      have R3 := R2.put (.int .i64 0) (.int .i64 0) (.string ⟨#[]⟩) (.slice none 0 0)
      obtain ⟨y0, y1, y2, y3, _, _, _, _⟩ := R3
      unfold put4 at y0 y1 y2 y3
      exact bodyPost_ret (v := .tuple #[.agg #[.int .i64 0, .int .i64 0, .string ⟨#[]⟩, .slice none 0 0], .bool false]) (by simp [results, Tryz.results125, go_sem, y0, y1, y2, y3]) rfl
        ⟨((((h0.trans (hb1.mono (by omega))).trans (hb2.mono (by have := hb1.size; omega))).setCell (p := ⟨w.heap.size, 0, none⟩) (Nat.le_refl _) _).setCell (p := ⟨w.heap.size, 1, none⟩) (Nat.le_refl _) _).setCell (p := ⟨w.heap.size, 2, none⟩) (Nat.le_refl _) _ |>.setCell (p := ⟨w.heap.size, 3, none⟩) (Nat.le_refl _) _, rfl⟩
end Go.Proofs.YtkaclahcpmogaaaGreatDoor

namespace Go.Proofs.YtkaclahcpmogaaaGreatDoor
open Go.ChangeShapes Go.WideShapes Go.ChangeAt Go.RowKit
set_option linter.unusedVariables false
set_option linter.unusedSimpArgs false

theorem Read.rdr {n b d : Nat} {W : World} {e : Ending} {r : Option (Ex × Bs)} (h : Read n b d W e r) : ∃ s, Rdr W b s d := by
  cases r with
  | none => obtain ⟨_, s, _, h1, _⟩ := h; exact ⟨s, h1⟩
  | some r => obtain ⟨_, _, h1, _⟩ := h; exact ⟨_, h1⟩

/-- From one world to another. -/
theorem Read.move {n m b d1 d2 : Nat} {W W' : World} {e : Ending} {r : Option (Ex × Bs)} (h : Read n b d1 W e r) (hr : ∀ s, Rdr W b s d1 → Rdr W' b s d2) (hc : ∀ (a : Addr) v, n ≤ a.block → W.cell? a = some v → W'.cell? a = some v) (hm : m ≤ n) : Read m b d2 W' e r := by
  cases r with
  | none => obtain ⟨v, s, h1, h2, h3⟩ := h; exact ⟨v, s, h1, hr s h2, h3⟩
  | some r => obtain ⟨v, h1, h2, h3⟩ := h; exact ⟨v, h1, hr _ h2, h3.later fun a u ha hu => ⟨hc a u ha hu, Nat.le_trans hm ha⟩⟩

set_option maxHeartbeats 1600000 in
set_option maxRecDepth 100000 in
theorem inside_any (b d : Nat) (hd : d < 12) (hg : gtop ≤ b) (g : FuncId) (eg : ∀ args w, (callFunc g args).run Tryz.prog w = .ok (.enter g args) w) (p : Rd) (hp : PartOk b (d + 1) g p)
    (w : World) (s : Bs) (T : Tab w) (h : Rdr w b s d) (hl : Lim s) :
    Calls Tryz.prog 122 #[.pointer (some ⟨b, 0, none⟩), .func (.func g) #[.pointer (some ⟨b, 0, none⟩)] #[]] w fun e w' => Beside b w w' ∧ Read w.heap.size b d w' e (p s) := by
  have hbw := h.lt
  have h0 := below_new w (.cells #[.int .i64 0, .int .i64 0, .string ⟨#[]⟩, .slice none 0 0] 107)
  have R0 := Blk.new w 107 (.int .i64 0) (.int .i64 0) (.string ⟨#[]⟩) (.slice none 0 0)
  have h1 := h.deep (d + 1)
  have hs1 := Beside.set (b := b) (a := ⟨b, 1, none⟩) w rfl (.int .i64 ((d : Int) + 1))
  have h2 : Rdr (w.setCell ⟨b, 1, none⟩ (.int .i64 ((d : Int) + 1))) b s (d + 1) := h1
  have hn2 := below_new (w.setCell ⟨b, 1, none⟩ (.int .i64 ((d : Int) + 1))) (.cells #[.int .i64 0, .int .i64 0, .string ⟨#[]⟩, .slice none 0 0] 107)
  have hT2 := (T.beside hs1 hg).later hn2
  have C := hp _ s hT2 (h2.later hn2) hl
  have R2 := Blk.new (w.setCell ⟨b, 1, none⟩ (.int .i64 ((d : Int) + 1))) 107 (.int .i64 0) (.int .i64 0) (.string ⟨#[]⟩) (.slice none 0 0)
  have hB2 := hs1.alloc hbw (.cells #[.int .i64 0, .int .i64 0, .string ⟨#[]⟩, .slice none 0 0] 107)
  rw [World.size_setCell] at R2
  have hz2 : ((w.setCell ⟨b, 1, none⟩ (.int .i64 ((d : Int) + 1))).alloc (.cells #[.int .i64 0, .int .i64 0, .string ⟨#[]⟩, .slice none 0 0] 107)).heap.size = w.heap.size + 1 := by simp
  have H0 := h.later h0
  have c1 := H0.c1
  have f1 := H0.f1
  have hdI : (d : Int) < 12 := by omega
  have hdI0 : (0 : Int) ≤ d := by omega
  have hne : ((d : Int) == 12) = false := by simp; omega
  have hbl := H0.lt
  clear R0 hp h1 h2 hn2 hT2
  go_enter Tryz.func122, Tryz.ntmps122
  go_wp2_with fail
  generalize ((w.setCell ⟨b, 1, none⟩ (.int .i64 ((d : Int) + 1))).alloc (.cells #[.int .i64 0, .int .i64 0, .string ⟨#[]⟩, .slice none 0 0] 107)) = w2 at *
  refine C.mono ?_
  rintro e w3 ⟨hb3, hr3⟩
  obtain ⟨k, j, t, q, l, c, rfl⟩ := hr3.form
  obtain ⟨s3, hR3⟩ := hr3.rdr
  have R3 := R2.beside hb3 (by omega)
  obtain ⟨x0, x1, x2, x3, g0, g1, g2, g3⟩ := id R3
  have r1 := hR3.c1
  have rf1 := hR3.f1
  have hl3 := R3.lt
  have hbl3 := hR3.lt
  rw [show (((d + 1 : Nat)) : Int) = (d : Int) + 1 from rfl] at r1
  clear C c1 f1 H0 hbl h0
  go_wp2
  have R4 := (((R3.other ⟨b, 1, none⟩ (.int .i64 d) (by simp; omega)).put (.int .i64 k) (.int .i64 j) (.string t) (.slice q l c)).alloc (.cells #[.int .i64 k, .int .i64 j, .string t, .slice q l c] 107))
  obtain ⟨y0, y1, y2, y3, _, _, _, _⟩ := R4
  have hF := (((hB2.trans hb3).trans (Beside.set (a := ⟨b, 1, none⟩) w3 rfl (.int .i64 d))).putNew hbw (Nat.le_refl _) (.int .i64 k) (.int .i64 j) (.string t) (.slice q l c)).alloc hbw (.cells #[.int .i64 k, .int .i64 j, .string t, .slice q l c] 107)
  have hE : Read w.heap.size b d ((put4 (w3.setCell ⟨b, 1, none⟩ (.int .i64 d)) w.heap.size (.int .i64 k) (.int .i64 j) (.string t) (.slice q l c)).alloc (.cells #[.int .i64 k, .int .i64 j, .string t, .slice q l c] 107)) _ (p s) :=
    hr3.move (fun s' hs' => ((hs'.deep d).put4 _ _ _ _ _ (by omega)).later (below_new _ _))
      (fun a v ha hv => kept_cell (below_new _ _) (by
        rw [cell_of_block (put4_block _ _ _ _ _ _ _ (by omega)), World.cell?_setCell_other _ _ _ _ (fun e => by rw [← e] at ha; simp at ha; omega)]
        exact hv)) (by omega)
  unfold put4 at y0 y1 y2 y3
  exact bodyPost_ret (v := .tuple #[.agg #[.int .i64 k, .int .i64 j, .string t, .slice q l c], .bool (p s).isSome]) (by simp [results, Tryz.results122, go_sem, y0, y1, y2, y3]) rfl ⟨hF, hE⟩

set_option maxHeartbeats 1600000 in
set_option maxRecDepth 100000 in
/-- What is too deep is refused. -/
theorem inside_no (b : Nat) (fv : Value) (w : World) (s : Bs) (h : Rdr w b s 12) :
    Calls Tryz.prog 122 #[.pointer (some ⟨b, 0, none⟩), fv] w fun e w' => Beside b w w' ∧ Read w.heap.size b 12 w' e none := by
  have hbw := h.lt
  have h0 := below_new w (.cells #[.int .i64 0, .int .i64 0, .string ⟨#[]⟩, .slice none 0 0] 107)
  have hB0 := (Beside.refl b w).alloc hbw (.cells #[.int .i64 0, .int .i64 0, .string ⟨#[]⟩, .slice none 0 0] 107)
  have H0 := h.later h0
  have c1 := h.c1
  rw [show ((12 : Nat) : Int) = 12 from rfl] at c1
  go_enter Tryz.func122, Tryz.ntmps122
  go_wp2_with fail
  exact bodyPost_ret (v := .tuple #[.agg #[.int .i64 0, .int .i64 0, .string ⟨#[]⟩, .slice none 0 0], .bool false]) (by simp [results, Tryz.results122, go_sem]) rfl ⟨hB0, _, s, rfl, H0, _, _, _, _, _, _, rfl⟩

/-- A minus ahead. -/
def negP (p : Rd) : Rd := fun s => (p s).map fun r => (.neg r.1, r.2)
/-- Behind a bracket. -/
def brackP (p : Rd) : Rd := fun s => match p s with
  | none => none
  | some (x, s1) => if (tookP s1 [41]).2 then some (x, (tookP s1 [41]).1) else none

set_option maxHeartbeats 1600000 in
set_option maxRecDepth 100000 in
theorem negated_ok (b d : Nat) (p : Rd) (hp : PartOk b d 118 p) : PartOk b d 123 (negP p) := by
  intro w s T h hl
  have hbw := h.lt
  have h0 := below_new w (.cells #[.int .i64 0, .int .i64 0, .string ⟨#[]⟩, .slice none 0 0] 107)
  have R0 := Blk.new w 107 (.int .i64 0) (.int .i64 0) (.string ⟨#[]⟩) (.slice none 0 0)
  have hz0 : (w.alloc (.cells #[.int .i64 0, .int .i64 0, .string ⟨#[]⟩, .slice none 0 0] 107)).heap.size = w.heap.size + 1 := by simp
  have hB0 := (Beside.refl b w).alloc hbw (.cells #[.int .i64 0, .int .i64 0, .string ⟨#[]⟩, .slice none 0 0] 107)
  have C := hp _ s (T.later h0) (h.later h0) hl
  unfold negP
  cases hps : p s with
  | none =>
    rw [hps] at C
    clear hp
    go_enter Tryz.func123, Tryz.ntmps123
    go_wp2_with fail
    generalize w.alloc (.cells #[.int .i64 0, .int .i64 0, .string ⟨#[]⟩, .slice none 0 0] 107) = w0 at *
    refine C.mono ?_
    rintro e w1 ⟨hb1, v1, s1, rfl, hR1, k, j, t, q, l, c, rfl⟩
    have R1 := R0.beside hb1 (by omega)
    obtain ⟨x0, x1, x2, x3, g0, g1, g2, g3⟩ := id R1
    have hl1 := R1.lt
    clear C
    go_wp2
    have R2 := (R1.put (.int .i64 0) (.int .i64 0) (.string ⟨#[]⟩) (.slice none 0 0)).alloc (.cells #[.int .i64 k, .int .i64 j, .string t, .slice q l c] 107)
    obtain ⟨y0, y1, y2, y3, _, _, _, _⟩ := R2
    unfold put4 at y0 y1 y2 y3
    exact bodyPost_ret (v := .tuple #[.agg #[.int .i64 0, .int .i64 0, .string ⟨#[]⟩, .slice none 0 0], .bool false]) (by simp [results, Tryz.results123, go_sem, y0, y1, y2, y3]) rfl
      ⟨((hB0.trans hb1).putNew hbw (Nat.le_refl _) _ _ _ _).alloc hbw _, _, s1, rfl, (hR1.put4 _ _ _ _ _ (by omega)).later (below_new _ _), _, _, _, _, _, _, rfl⟩
  | some r =>
    obtain ⟨x, s1⟩ := r
    rw [hps] at C
    clear hp
    go_enter Tryz.func123, Tryz.ntmps123
    go_wp2_with fail
    generalize w.alloc (.cells #[.int .i64 0, .int .i64 0, .string ⟨#[]⟩, .slice none 0 0] 107) = w0 at *
    refine C.mono ?_
    rintro e w1 ⟨hb1, v1, rfl, hR1, hx⟩
    obtain ⟨k, j, t, q, l, c, rfl⟩ := hx.form
    have R1 := R0.beside hb1 (by omega)
    obtain ⟨x0, x1, x2, x3, g0, g1, g2, g3⟩ := id R1
    have hl1 := R1.lt
    clear C
    go_wp2
    have R2 := ((R1.put (.int .i64 4) (.int .i64 0) (.string ⟨#[]⟩) (.slice (some ⟨w1.heap.size + 1, 0, none⟩) 1 1)).alloc (.cells #[.int .i64 k, .int .i64 j, .string t, .slice q l c] 107)).alloc (.cells #[.int .i64 k, .int .i64 j, .string t, .slice q l c] 107)
    obtain ⟨y0, y1, y2, y3, _, _, _, _⟩ := R2
    have hsz : ((put4 w1 w.heap.size (.int .i64 4) (.int .i64 0) (.string ⟨#[]⟩) (.slice (some ⟨w1.heap.size + 1, 0, none⟩) 1 1)).alloc (.cells #[.int .i64 k, .int .i64 j, .string t, .slice q l c] 107)).heap.size = w1.heap.size + 1 := by
      rw [show ((put4 w1 w.heap.size (.int .i64 4) (.int .i64 0) (.string ⟨#[]⟩) (.slice (some ⟨w1.heap.size + 1, 0, none⟩) 1 1)).alloc (.cells #[.int .i64 k, .int .i64 j, .string t, .slice q l c] 107)).heap.size = (put4 w1 w.heap.size (.int .i64 4) (.int .i64 0) (.string ⟨#[]⟩) (.slice (some ⟨w1.heap.size + 1, 0, none⟩) 1 1)).heap.size + 1 by simp, put4_size]
    have nc := fun i x h => new_cell (w := (put4 w1 w.heap.size (.int .i64 4) (.int .i64 0) (.string ⟨#[]⟩) (.slice (some ⟨w1.heap.size + 1, 0, none⟩) 1 1)).alloc (.cells #[.int .i64 k, .int .i64 j, .string t, .slice q l c] 107)) (t := 107) #[.int .i64 k, .int .i64 j, .string t, .slice q l c] i x h
    rw [hsz] at nc
    have hxx := (((hx.put w.heap.size (.int .i64 4) (.int .i64 0) (.string ⟨#[]⟩) (.slice (some ⟨w1.heap.size + 1, 0, none⟩) 1 1) (fun i hi => by omega)).below (below_new _ (.cells #[.int .i64 k, .int .i64 j, .string t, .slice q l c] 107))).below (below_new _ (.cells #[.int .i64 k, .int .i64 j, .string t, .slice q l c] 107))).imp (Q := (w.heap.size ≤ ·)) (fun i hi _ => by omega)
    have hE : ExAt (w.heap.size ≤ ·) (((put4 w1 w.heap.size (.int .i64 4) (.int .i64 0) (.string ⟨#[]⟩) (.slice (some ⟨w1.heap.size + 1, 0, none⟩) 1 1)).alloc (.cells #[.int .i64 k, .int .i64 j, .string t, .slice q l c] 107)).alloc (.cells #[.int .i64 k, .int .i64 j, .string t, .slice q l c] 107)) (.agg #[.int .i64 4, .int .i64 0, .string ⟨#[]⟩, .slice (some ⟨w1.heap.size + 1, 0, none⟩) 1 1]) (.neg x) :=
      ⟨w1.heap.size + 1, _, _, _, _, rfl, by omega, nc 0 _ rfl, nc 1 _ rfl, nc 2 _ rfl, nc 3 _ rfl, hxx⟩
    unfold put4 at y0 y1 y2 y3
    exact bodyPost_ret (v := .tuple #[.agg #[.int .i64 4, .int .i64 0, .string ⟨#[]⟩, .slice (some ⟨w1.heap.size + 1, 0, none⟩) 1 1], .bool true]) (by simp [results, Tryz.results123, go_sem, y0, y1, y2, y3]) rfl
      ⟨(((hB0.trans hb1).putNew hbw (Nat.le_refl _) _ _ _ _).alloc hbw _).alloc hbw _, _, rfl, ((hR1.put4 _ _ _ _ _ (by omega)).later (below_new _ _)).later (below_new _ _), hE⟩

theorem Beside.undrew {b : Nat} {w w' : World} (h : Beside b w.drew w') : Beside b w w' := ⟨⟨h.below.os, h.below.tape, h.below.output, h.below.size, h.below.block⟩, h.above⟩
theorem Beside.drew {b : Nat} {w w' : World} (h : Beside b w w') : Beside b w w'.drew := ⟨⟨h.below.os, h.below.tape, h.below.output, h.below.size, h.below.block⟩, h.above⟩

set_option maxHeartbeats 1600000 in
set_option maxRecDepth 100000 in
theorem bracketed_ok (b d : Nat) (p : Rd) (hp : PartOk b d 90 p) (hs : Shrinks p) : PartOk b d 124 (brackP p) := by
  intro w s T h hl
  have hbw := h.lt
  have h0 := below_new w (.cells #[.int .i64 0, .int .i64 0, .string ⟨#[]⟩, .slice none 0 0] 107)
  have R0 := Blk.new w 107 (.int .i64 0) (.int .i64 0) (.string ⟨#[]⟩) (.slice none 0 0)
  have hz0 : (w.alloc (.cells #[.int .i64 0, .int .i64 0, .string ⟨#[]⟩, .slice none 0 0] 107)).heap.size = w.heap.size + 1 := by simp
  have hB0 := (Beside.refl b w).alloc hbw (.cells #[.int .i64 0, .int .i64 0, .string ⟨#[]⟩, .slice none 0 0] 107)
  have C := hp _ s (T.later h0) (h.later h0) hl
  unfold brackP
  cases hps : p s with
  | none =>
    rw [hps] at C
    clear hp
    go_enter Tryz.func124, Tryz.ntmps124
    go_wp2_with fail
    generalize w.alloc (.cells #[.int .i64 0, .int .i64 0, .string ⟨#[]⟩, .slice none 0 0] 107) = w0 at *
    refine C.mono ?_
    rintro e w1 ⟨hb1, v1, s1, rfl, hR1, k, j, t, q, l, c, rfl⟩
    have R1 := R0.beside hb1 (by omega)
    obtain ⟨x0, x1, x2, x3, g0, g1, g2, g3⟩ := id R1
    have hl1 := R1.lt
    clear C
    go_wp2_with fail
    go_region
    go_wp2
    have R2 := (R1.put (.int .i64 k) (.int .i64 j) (.string t) (.slice q l c)).alloc (.cells #[.int .i64 k, .int .i64 j, .string t, .slice q l c] 107)
    obtain ⟨y0, y1, y2, y3, _, _, _, _⟩ := R2
    unfold put4 at y0 y1 y2 y3
    exact bodyPost_ret (v := .tuple #[.agg #[.int .i64 k, .int .i64 j, .string t, .slice q l c], .bool false]) (by simp [results, Tryz.results124, go_sem, y0, y1, y2, y3]) rfl
      ⟨(((hB0.trans hb1).putNew hbw (Nat.le_refl _) _ _ _ _).alloc hbw _).drew, _, s1, rfl, (((hR1.put4 _ _ _ _ _ (by omega)).later (below_new _ _)).of_block rfl), _, _, _, _, _, _, rfl⟩
  | some r =>
    obtain ⟨x, s1⟩ := r
    rw [hps] at C
    have hs1 := (hs _ _ _ hps).1
    clear hp hs
    cases ht : (tookP s1 [41]).2 with
    | true =>
      simp only [Bool.false_eq_true, if_false, if_true]
      go_enter Tryz.func124, Tryz.ntmps124
      go_wp2_with fail
      generalize w.alloc (.cells #[.int .i64 0, .int .i64 0, .string ⟨#[]⟩, .slice none 0 0] 107) = w0 at *
      refine C.mono ?_
      rintro e w1 ⟨hb1, v1, rfl, hR1, hx⟩
      obtain ⟨k, j, t, q, l, c, rfl⟩ := hx.form
      have hn1 := below_new w1 (.cells #[.int .i64 k, .int .i64 j, .string t, .slice q l c] 107)
      have X1 := Blk.new w1 107 (.int .i64 k) (.int .i64 j) (.string t) (.slice q l c)
      have R1 := (R0.beside hb1 (by omega)).later hn1
      have hR2 := hR1.later hn1
      have hx2 := hx.below hn1
      have hB2 := (hB0.trans hb1).alloc hbw (.cells #[.int .i64 k, .int .i64 j, .string t, .slice q l c] 107)
      have hXR : w.heap.size < w1.heap.size := (R0.beside hb1 (by omega)).lt
      have hbX : b ≠ w1.heap.size := by omega
      have hbR : b ≠ w.heap.size := by omega
      clear C R0 hR1 hx
      go_wp2_with fail
      generalize w1.alloc (.cells #[.int .i64 k, .int .i64 j, .string t, .slice q l c] 107) = w2 at *
      have K : Calls Tryz.prog 105 #[.pointer (some ⟨b, 0, none⟩), .string (bs [41])] w2.drew fun e w' => e = .returned (.bool (tookP s1 [41]).2) ∧ Beside b w2 w' ∧ Rdr w' b (tookP s1 [41]).1 d := (took_any b s1 [41] d w2.drew (hR2.of_block rfl)).mono fun e w' h => ⟨h.1, h.2.1.undrew, h.2.2⟩
      rw [show bs [41] = ⟨#[41]⟩ from rfl] at K
      rw [ht] at K
      obtain ⟨x0, x1, x2, x3, _, _, _, _⟩ := id X1
      go_region_with (go_at_call 105; refine K.mono ?_; rintro e w3 ⟨rfl, hb3, hR3⟩; have X3 := X1.beside (w' := w3) hb3 hbX.symm; have R3 := R1.beside (w' := w3) hb3 hbR.symm; obtain ⟨z0, z1, z2, z3, _, _, _, _⟩ := id X3; obtain ⟨c0, c1, c2, c3, f0, f1, f2, f3⟩ := id R3; have hl3 := R3.lt)
      all_goals (try go_wp2)
      all_goals (
        have R4 := R3.put (.int .i64 k) (.int .i64 j) (.string t) (.slice q l c)
        obtain ⟨y0, y1, y2, y3, _, _, _, _⟩ := R4
        have hx4 := ((hx2.beside hb3 (fun i hi => by omega)).put w.heap.size (.int .i64 k) (.int .i64 j) (.string t) (.slice q l c) (fun i hi => by omega)).imp (Q := (w.heap.size ≤ ·)) (fun i hi _ => by omega)
        have hR4 := hR3.put4 w.heap.size (.int .i64 k) (.int .i64 j) (.string t) (.slice q l c) (by omega)
        have hB4 := (hB2.trans hb3).putNew hbw (Nat.le_refl _) (.int .i64 k) (.int .i64 j) (.string t) (.slice q l c)
        unfold put4 at y0 y1 y2 y3
        exact bodyPost_ret (v := .tuple #[.agg #[.int .i64 k, .int .i64 j, .string t, .slice q l c], .bool true]) (by simp [results, Tryz.results124, go_sem, y0, y1, y2, y3]) rfl ⟨hB4, _, rfl, hR4, hx4⟩)
    | false =>
      simp only [Bool.false_eq_true, if_false, if_true]
      go_enter Tryz.func124, Tryz.ntmps124
      go_wp2_with fail
      generalize w.alloc (.cells #[.int .i64 0, .int .i64 0, .string ⟨#[]⟩, .slice none 0 0] 107) = w0 at *
      refine C.mono ?_
      rintro e w1 ⟨hb1, v1, rfl, hR1, hx⟩
      obtain ⟨k, j, t, q, l, c, rfl⟩ := hx.form
      have hn1 := below_new w1 (.cells #[.int .i64 k, .int .i64 j, .string t, .slice q l c] 107)
      have X1 := Blk.new w1 107 (.int .i64 k) (.int .i64 j) (.string t) (.slice q l c)
      have R1 := (R0.beside hb1 (by omega)).later hn1
      have hR2 := hR1.later hn1
      have hx2 := hx.below hn1
      have hB2 := (hB0.trans hb1).alloc hbw (.cells #[.int .i64 k, .int .i64 j, .string t, .slice q l c] 107)
      have hXR : w.heap.size < w1.heap.size := (R0.beside hb1 (by omega)).lt
      have hbX : b ≠ w1.heap.size := by omega
      have hbR : b ≠ w.heap.size := by omega
      clear C R0 hR1 hx
      go_wp2_with fail
      generalize w1.alloc (.cells #[.int .i64 k, .int .i64 j, .string t, .slice q l c] 107) = w2 at *
      have K : Calls Tryz.prog 105 #[.pointer (some ⟨b, 0, none⟩), .string (bs [41])] w2.drew fun e w' => e = .returned (.bool (tookP s1 [41]).2) ∧ Beside b w2 w' ∧ Rdr w' b (tookP s1 [41]).1 d := (took_any b s1 [41] d w2.drew (hR2.of_block rfl)).mono fun e w' h => ⟨h.1, h.2.1.undrew, h.2.2⟩
      rw [show bs [41] = ⟨#[41]⟩ from rfl] at K
      rw [ht] at K
      obtain ⟨x0, x1, x2, x3, _, _, _, _⟩ := id X1
      go_region_with (go_at_call 105; refine K.mono ?_; rintro e w3 ⟨rfl, hb3, hR3⟩; have X3 := X1.beside (w' := w3) hb3 hbX.symm; have R3 := R1.beside (w' := w3) hb3 hbR.symm; obtain ⟨z0, z1, z2, z3, _, _, _, _⟩ := id X3; obtain ⟨c0, c1, c2, c3, f0, f1, f2, f3⟩ := id R3; have hl3 := R3.lt)
      all_goals (try go_wp2)
      all_goals (
        have R4 := R3.put (.int .i64 k) (.int .i64 j) (.string t) (.slice q l c)
        obtain ⟨y0, y1, y2, y3, _, _, _, _⟩ := R4
        have hx4 := ((hx2.beside hb3 (fun i hi => by omega)).put w.heap.size (.int .i64 k) (.int .i64 j) (.string t) (.slice q l c) (fun i hi => by omega)).imp (Q := (w.heap.size ≤ ·)) (fun i hi _ => by omega)
        have hR4 := hR3.put4 w.heap.size (.int .i64 k) (.int .i64 j) (.string t) (.slice q l c) (by omega)
        have hB4 := (hB2.trans hb3).putNew hbw (Nat.le_refl _) (.int .i64 k) (.int .i64 j) (.string t) (.slice q l c)
        unfold put4 at y0 y1 y2 y3
        exact bodyPost_ret (v := .tuple #[.agg #[.int .i64 k, .int .i64 j, .string t, .slice q l c], .bool false]) (by simp [results, Tryz.results124, go_sem, y0, y1, y2, y3]) rfl ⟨hB4, _, _, rfl, hR4, _, _, _, _, _, _, rfl⟩)
end Go.Proofs.YtkaclahcpmogaaaGreatDoor

namespace Go.Proofs.YtkaclahcpmogaaaGreatDoor
open Go.ChangeShapes Go.WideShapes Go.ChangeAt Go.RowKit
set_option linter.unusedVariables false
set_option linter.unusedSimpArgs false

/-- What stands by itself, by what is behind a minus, a bracket. -/
def singleG (negQ brQ : Rd) : Rd := fun s =>
  if (tookP s [45]).2 then negQ (tookP s [45]).1
  else if (tookP (tookP s [45]).1 [40]).2 then brQ (tookP (tookP s [45]).1 [40]).1
  else if (tookP (tookP (tookP s [45]).1 [40]).1 [46]).2 then some (.here, (tookP (tookP (tookP s [45]).1 [40]).1 [46]).1)
  else (leafP ((tookP (tookP (tookP s [45]).1 [40]).1 [46]).1.takeWhile runB)).map fun x => (x, (tookP (tookP (tookP s [45]).1 [40]).1 [46]).1.dropWhile runB)

theorem singleP_zero : singleP 0 = singleG (fun _ => none) (fun _ => none) := by
  funext s
  unfold singleP singleG
  rfl
theorem singleP_succ (n : Nat) : singleP (n + 1) = singleG (negP (singleP n)) (brackP (orsP (singleP n))) := by
  funext s
  rw [singleP]
  unfold singleG negP brackP
  rfl

/-- inside, handed a reader of that number. -/
def InsideOk (b d : Nat) (g : FuncId) (p : Rd) : Prop :=
  ∀ (W : World) (s : Bs), Tab W → Rdr W b s d → Lim s → Calls Tryz.prog 122 #[.pointer (some ⟨b, 0, none⟩), .func (.func g) #[.pointer (some ⟨b, 0, none⟩)] #[]] W fun e W' => Beside b W W' ∧ Read W.heap.size b d W' e (p s)

theorem tookP_le (s t : Bs) : (tookP s t).1.length ≤ s.length := by
  have hk : (skipP s).length ≤ s.length := List.Sublist.length_le (List.dropWhile_sublist _)
  unfold tookP Go.Lib.trimPrefix
  simp only
  split
  · rw [List.length_drop]; omega
  · exact hk

theorem takeWhile_run : ∀ (s : Bs), ∀ c ∈ s.takeWhile runB, runB c = true
  | [], c, h => by simp at h
  | a :: s, c, h => by
    cases ha : runB a with
    | false => simp [List.takeWhile, ha] at h
    | true =>
      simp only [List.takeWhile, ha, List.mem_cons] at h
      rcases h with rfl | h
      · exact ha
      · exact takeWhile_run s c h

theorem leaf_read (b d : Nat) (run rest : Bs) (hr : ∀ c ∈ run, runB c = true) (hl : run.length ≤ 35184372088832) (hw : Full ∨ wordP run = true) (w : World) (T : Tab w) (h : Rdr w b rest d) :
    Calls Tryz.prog 125 #[.string (bs run)] w fun e w' => Beside b w w' ∧ Read w.heap.size b d w' e ((leafP run).map fun x => (x, rest)) := by
  refine (leaf_any run hr hl hw w T).mono ?_
  rintro e w' ⟨hb, rfl⟩
  refine ⟨Beside.of hb h.lt, ?_⟩
  have h2 := h.later hb
  unfold leafP
  split
  · exact ⟨_, rfl, h2, rfl⟩
  · cases numberP run with
    | none => exact ⟨_, rest, rfl, h2, _, _, _, _, _, _, rfl⟩
    | some n => exact ⟨_, rfl, h2, rfl⟩

set_option maxHeartbeats 3200000 in
set_option maxRecDepth 100000 in
theorem single_ok (b d : Nat) (hg : gtop ≤ b) (negQ brQ : Rd) (hn : InsideOk b d 123 negQ) (hb : InsideOk b d 124 brQ) : PartOk b d 118 (singleG negQ brQ) := by
  intro w s T h hL
  have hl := hL.1
  have hbw := h.lt
  have h0 := below_new w (.cells #[.int .i64 0, .int .i64 0, .string ⟨#[]⟩, .slice none 0 0] 107)
  have R0 := Blk.new w 107 (.int .i64 0) (.int .i64 0) (.string ⟨#[]⟩) (.slice none 0 0)
  have hz0 : (w.alloc (.cells #[.int .i64 0, .int .i64 0, .string ⟨#[]⟩, .slice none 0 0] 107)).heap.size = w.heap.size + 1 := by simp
  have hB0 := (Beside.refl b w).alloc hbw (.cells #[.int .i64 0, .int .i64 0, .string ⟨#[]⟩, .slice none 0 0] 107)
  have T0 := T.later h0
  have H0 := h.later h0
  have K1 := took_any b s [45] d _ H0
  rw [show bs [45] = ⟨#[45]⟩ from rfl] at K1
  have l1 := tookP_le s [45]
  have hmf := hmf
  unfold singleG
  cases ht1 : (tookP s [45]).2 with
  | true =>
    rw [ht1] at K1
    rw [if_pos rfl]
    go_enter Tryz.func118, Tryz.ntmps118
    go_wp2_with fail
    generalize w.alloc (.cells #[.int .i64 0, .int .i64 0, .string ⟨#[]⟩, .slice none 0 0] 107) = w0 at *
    refine K1.mono ?_
    rintro e w1 ⟨rfl, hb1, hR1⟩
    have T1 := T0.beside hb1 hg
    have R1 := R0.beside hb1 (by omega)
    have hB1 := hB0.trans hb1
    have hs1 := hb1.size
    clear K1 R0 H0 T0
    have C := hn w1 _ T1 hR1 ⟨by omega, .inl (full_of_took hL (.inl rfl) ht1)⟩
    go_wp2_with fail

    refine C.mono ?_
    rintro e w9 ⟨hb9, hr9⟩
    obtain ⟨k, j, t, q, l, c, rfl⟩ := hr9.form
    have R9 := R1.beside hb9 (by omega)
    obtain ⟨x0, x1, x2, x3, g0, g1, g2, g3⟩ := id R9
    have hl9 := R9.lt
    clear C
    go_wp2
    have R10 := R9.put (.int .i64 k) (.int .i64 j) (.string t) (.slice q l c)
    obtain ⟨y0, y1, y2, y3, _, _, _, _⟩ := R10
    have hE := (hr9.put (R := w.heap.size) (by omega) (by omega) (.int .i64 k) (.int .i64 j) (.string t) (.slice q l c)).low (m := w.heap.size) (by omega)
    have hF := (hB1.trans hb9).putNew hbw (Nat.le_refl _) (.int .i64 k) (.int .i64 j) (.string t) (.slice q l c)
    unfold put4 at y0 y1 y2 y3
    exact bodyPost_ret (v := .tuple #[.agg #[.int .i64 k, .int .i64 j, .string t, .slice q l c], .bool (negQ (tookP s [45]).1).isSome]) (by simp [results, Tryz.results118, go_sem, y0, y1, y2, y3]) rfl ⟨hF, hE⟩
  | false =>
    rw [ht1] at K1
    rw [if_neg (by simp)]
    have l2 := tookP_le (tookP s [45]).1 [40]
    cases ht2 : (tookP (tookP s [45]).1 [40]).2 with
    | true =>
      rw [if_pos rfl]
      go_enter Tryz.func118, Tryz.ntmps118
      go_wp2_with fail
      generalize w.alloc (.cells #[.int .i64 0, .int .i64 0, .string ⟨#[]⟩, .slice none 0 0] 107) = w0 at *
      refine K1.mono ?_
      rintro e w1 ⟨rfl, hb1, hR1⟩
      have T1 := T0.beside hb1 hg
      have R1 := R0.beside hb1 (by omega)
      have hB1 := hB0.trans hb1
      have hs1 := hb1.size
      clear K1 R0 H0 T0
      have K2 := took_any b (tookP s [45]).1 [40] d w1 hR1
      rw [show bs [40] = ⟨#[40]⟩ from rfl, ht2] at K2
      go_wp2_with fail
      refine K2.mono ?_
      rintro e w2 ⟨rfl, hb2, hR2⟩
      have T2 := T1.beside hb2 hg
      have R2 := R1.beside hb2 (by omega)
      have hB2 := hB1.trans hb2
      have hs2 := hb2.size
      clear K2 R1 hR1 T1
      have C := hb w2 _ T2 hR2 ⟨by omega, .inl (full_of_took2 hL ht2)⟩
      go_wp2_with fail

      refine C.mono ?_
      rintro e w9 ⟨hb9, hr9⟩
      obtain ⟨k, j, t, q, l, c, rfl⟩ := hr9.form
      have R9 := R2.beside hb9 (by omega)
      obtain ⟨x0, x1, x2, x3, g0, g1, g2, g3⟩ := id R9
      have hl9 := R9.lt
      clear C
      go_wp2
      have R10 := R9.put (.int .i64 k) (.int .i64 j) (.string t) (.slice q l c)
      obtain ⟨y0, y1, y2, y3, _, _, _, _⟩ := R10
      have hE := (hr9.put (R := w.heap.size) (by omega) (by omega) (.int .i64 k) (.int .i64 j) (.string t) (.slice q l c)).low (m := w.heap.size) (by omega)
      have hF := (hB2.trans hb9).putNew hbw (Nat.le_refl _) (.int .i64 k) (.int .i64 j) (.string t) (.slice q l c)
      unfold put4 at y0 y1 y2 y3
      exact bodyPost_ret (v := .tuple #[.agg #[.int .i64 k, .int .i64 j, .string t, .slice q l c], .bool (brQ (tookP (tookP s [45]).1 [40]).1).isSome]) (by simp [results, Tryz.results118, go_sem, y0, y1, y2, y3]) rfl ⟨hF, hE⟩
    | false =>
      rw [if_neg (by simp)]
      have l3 := tookP_le (tookP (tookP s [45]).1 [40]).1 [46]
      cases ht3 : (tookP (tookP (tookP s [45]).1 [40]).1 [46]).2 with
      | true =>
        rw [if_pos rfl]
        go_enter Tryz.func118, Tryz.ntmps118
        go_wp2_with fail
        generalize w.alloc (.cells #[.int .i64 0, .int .i64 0, .string ⟨#[]⟩, .slice none 0 0] 107) = w0 at *
        refine K1.mono ?_
        rintro e w1 ⟨rfl, hb1, hR1⟩
        have T1 := T0.beside hb1 hg
        have R1 := R0.beside hb1 (by omega)
        have hB1 := hB0.trans hb1
        have hs1 := hb1.size
        clear K1 R0 H0 T0
        have K2 := took_any b (tookP s [45]).1 [40] d w1 hR1
        rw [show bs [40] = ⟨#[40]⟩ from rfl, ht2] at K2
        go_wp2_with fail
        refine K2.mono ?_
        rintro e w2 ⟨rfl, hb2, hR2⟩
        have T2 := T1.beside hb2 hg
        have R2 := R1.beside hb2 (by omega)
        have hB2 := hB1.trans hb2
        have hs2 := hb2.size
        clear K2 R1 hR1 T1
        have K3 := took_any b (tookP (tookP s [45]).1 [40]).1 [46] d w2 hR2
        rw [show bs [46] = ⟨#[46]⟩ from rfl, ht3] at K3
        go_wp2_with (go_at_call 105; refine K3.mono ?_; rintro e w3 ⟨rfl, hb3, hR3⟩; have R3 := R2.beside hb3 (by omega); obtain ⟨x0, x1, x2, x3, g0, g1, g2, g3⟩ := id R3; have hl3 := R3.lt)
        have R4 := R3.put (.int .i64 3) (.int .i64 0) (.string ⟨#[]⟩) (.slice none 0 0)
        obtain ⟨y0, y1, y2, y3, _, _, _, _⟩ := R4
        have hF := (hB2.trans hb3).putNew hbw (Nat.le_refl _) (.int .i64 3) (.int .i64 0) (.string ⟨#[]⟩) (.slice none 0 0)
        have hR4 := hR3.put4 w.heap.size (.int .i64 3) (.int .i64 0) (.string ⟨#[]⟩) (.slice none 0 0) (by omega)
        unfold put4 at y0 y1 y2 y3
        exact bodyPost_ret (v := .tuple #[.agg #[.int .i64 3, .int .i64 0, .string ⟨#[]⟩, .slice none 0 0], .bool true]) (by simp [results, Tryz.results118, go_sem, y0, y1, y2, y3]) rfl ⟨hF, _, rfl, hR4, rfl⟩
      | false =>
        rw [if_neg (by simp)]
        go_enter Tryz.func118, Tryz.ntmps118
        go_wp2_with fail
        generalize w.alloc (.cells #[.int .i64 0, .int .i64 0, .string ⟨#[]⟩, .slice none 0 0] 107) = w0 at *
        refine K1.mono ?_
        rintro e w1 ⟨rfl, hb1, hR1⟩
        have T1 := T0.beside hb1 hg
        have R1 := R0.beside hb1 (by omega)
        have hB1 := hB0.trans hb1
        have hs1 := hb1.size
        clear K1 R0 H0 T0
        have K2 := took_any b (tookP s [45]).1 [40] d w1 hR1
        rw [show bs [40] = ⟨#[40]⟩ from rfl, ht2] at K2
        go_wp2_with fail
        refine K2.mono ?_
        rintro e w2 ⟨rfl, hb2, hR2⟩
        have T2 := T1.beside hb2 hg
        have R2 := R1.beside hb2 (by omega)
        have hB2 := hB1.trans hb2
        have hs2 := hb2.size
        clear K2 R1 hR1 T1
        have K3 := took_any b (tookP (tookP s [45]).1 [40]).1 [46] d w2 hR2
        rw [show bs [46] = ⟨#[46]⟩ from rfl, ht3] at K3
        go_wp2_with fail
        refine K3.mono ?_
        rintro e w3 ⟨rfl, hb3, hR3⟩
        have T3 := T2.beside hb3 hg
        have R3 := R2.beside hb3 (by omega)
        have hB3 := hB2.trans hb3
        have hs3 := hb3.size
        have U := run_any b _ d w3 hR3 (by omega)
        clear K3 R2 hR2 T2
        have hwr := run_word hL
        generalize hsr : (tookP (tookP (tookP s [45]).1 [40]).1 [46]).1 = sr at *
        have hrr : ∀ c ∈ sr.takeWhile runB, runB c = true := takeWhile_run sr
        have hrl : (sr.takeWhile runB).length ≤ sr.length := List.Sublist.length_le (List.takeWhile_sublist _)
        go_wp2_with fail
        refine U.mono ?_
        rintro e w4 ⟨rfl, hb4, hR4⟩
        have T4 := T3.beside hb4 hg
        have R4 := R3.beside hb4 (by omega)
        have hB4 := hB3.trans hb4
        have hs4 := hb4.size
        have C := leaf_read b d (sr.takeWhile runB) (sr.dropWhile runB) hrr (by omega) hwr w4 T4 hR4
        clear U
        go_wp2_with fail
        refine C.mono ?_
        rintro e w9 ⟨hb9, hr9⟩
        obtain ⟨k, j, t, q, l, c, rfl⟩ := hr9.form
        have R9 := R4.beside hb9 (by omega)
        obtain ⟨x0, x1, x2, x3, g0, g1, g2, g3⟩ := id R9
        have hl9 := R9.lt
        clear C
        go_wp2
        have R10 := R9.put (.int .i64 k) (.int .i64 j) (.string t) (.slice q l c)
        obtain ⟨y0, y1, y2, y3, _, _, _, _⟩ := R10
        have hE := (hr9.put (R := w.heap.size) (by omega) (by omega) (.int .i64 k) (.int .i64 j) (.string t) (.slice q l c)).low (m := w.heap.size) (by omega)
        have hF := (hB4.trans hb9).putNew hbw (Nat.le_refl _) (.int .i64 k) (.int .i64 j) (.string t) (.slice q l c)
        unfold put4 at y0 y1 y2 y3
        rw [hsr]
        exact bodyPost_ret (v := .tuple #[.agg #[.int .i64 k, .int .i64 j, .string t, .slice q l c], .bool ((leafP (sr.takeWhile runB)).map fun x => (x, sr.dropWhile runB)).isSome]) (by simp [results, Tryz.results118, go_sem, y0, y1, y2, y3]) rfl ⟨hF, hE⟩
end Go.Proofs.YtkaclahcpmogaaaGreatDoor

namespace Go.Proofs.YtkaclahcpmogaaaGreatDoor
open Go.ChangeShapes Go.WideShapes Go.ChangeAt Go.RowKit
set_option linter.unusedVariables false
set_option linter.unusedSimpArgs false

theorem single_lim {negQ brQ : Rd} {s s' : Bs} {x : Ex} (h : singleG negQ brQ s = some (x, s')) (hl : Lim s) : Lim0 s' := by
  rcases hl.2 with hf | hw
  · exact .inl hf
  · right; right
    unfold singleG at h
    have h3 := took3 hw
    have h1 := took_none (.inl hw) (.inl rfl : Tok [45])
    have h2 := took_none (.inl hw) (.inr (.inl rfl) : Tok [40])
    have h4 := took_none (.inl hw) (.inr (.inr (.inl rfl)) : Tok [46])
    rw [h1] at h
    simp only at h
    rw [h2] at h
    simp only at h
    rw [h4] at h
    simp only [Bool.false_eq_true, if_false] at h
    rw [Option.map_eq_some_iff] at h
    obtain ⟨y, _, e⟩ := h
    cases e
    have h' := hw
    unfold wordS at h'
    simp only [Bool.and_eq_true] at h'
    exact (take_all h'.1).2

theorem singleG_shrinks {negQ brQ : Rd} (hn : Shrinks negQ) (hb : Shrinks brQ) : Shrinks (singleG negQ brQ) := by
  intro s x s' h
  refine ⟨?_, single_lim h⟩
  have l1 := tookP_le s [45]
  have l2 := tookP_le (tookP s [45]).1 [40]
  have l3 := tookP_le (tookP (tookP s [45]).1 [40]).1 [46]
  unfold singleG at h
  split at h
  · have := (hn _ _ _ h).1; omega
  · split at h
    · have := (hb _ _ _ h).1; omega
    · split at h
      · cases h; omega
      · rw [Option.map_eq_some_iff] at h
        obtain ⟨y, _, h2⟩ := h
        cases h2
        have : ((tookP (tookP (tookP s [45]).1 [40]).1 [46]).1.dropWhile runB).length ≤ (tookP (tookP (tookP s [45]).1 [40]).1 [46]).1.length := List.Sublist.length_le (List.dropWhile_sublist _)
        omega

theorem negP_shrinks {p : Rd} (h : Shrinks p) : Shrinks (negP p) := by
  intro s x s' e
  unfold negP at e
  rw [Option.map_eq_some_iff] at e
  obtain ⟨r, h1, h2⟩ := e
  cases h2
  exact h s r.1 r.2 h1

theorem brackP_shrinks {p : Rd} (h : Shrinks p) : Shrinks (brackP p) := by
  intro s x s' e
  unfold brackP at e
  split at e
  · cases e
  · rename_i y s1 hy
    split at e
    · cases e
      rename_i ht
      exact ⟨Nat.le_trans (tookP_le s1 [41]) (h _ _ _ hy).1, fun hl => .inl (full_of_took0 ((h _ _ _ hy).2 hl) (.inr (.inr (.inr (.inl rfl)))) ht)⟩
    · cases e

theorem single_all (b : Nat) (hg : gtop ≤ b) : ∀ (n d : Nat), d + n = 12 → PartOk b d 118 (singleP n) ∧ Shrinks (singleP n)
  | 0, d, hd => by
    obtain rfl : d = 12 := by omega
    rw [singleP_zero]
    refine ⟨single_ok b 12 hg _ _ (fun W s _ h _ => inside_no b _ W s h) (fun W s _ h _ => inside_no b _ W s h), singleG_shrinks ?_ ?_⟩
    · intro s x s' h; cases h
    · intro s x s' h; cases h
  | n + 1, d, hd => by
    obtain ⟨h1, s1⟩ := single_all b hg n (d + 1) (by omega)
    obtain ⟨h2, s2⟩ := ors_all b (d + 1) hg _ h1 s1
    have h3 := negated_ok b (d + 1) _ h1
    have h4 := bracketed_ok b (d + 1) _ h2 s2
    rw [singleP_succ]
    exact ⟨single_ok b d hg _ _ (fun W s T h hl => inside_any b d (by omega) hg 123 (enters_of Tryz.func123 (by kernel_rfl) rfl) _ h3 W s T h hl)
      (fun W s T h hl => inside_any b d (by omega) hg 124 (enters_of Tryz.func124 (by kernel_rfl) rfl) _ h4 W s T h hl), singleG_shrinks (negP_shrinks s1) (brackP_shrinks s2)⟩

theorem ors_top (b : Nat) (hg : gtop ≤ b) : PartOk b 0 90 (orsP (singleP 12)) := by
  obtain ⟨h1, s1⟩ := single_all b hg 12 0 rfl
  exact (ors_all b 0 hg _ h1 s1).1

set_option maxHeartbeats 800000 in
theorem ended_any (b : Nat) (s : Bs) (d : Nat) (w : World) (h : Rdr w b s d) :
    Calls Tryz.prog 91 #[.pointer (some ⟨b, 0, none⟩)] w fun e w' => e = .returned (.bool (skipP s).isEmpty) ∧ Beside b w w' ∧ Rdr w' b (skipP s) d := by
  have he : (bs (skipP s)).toList.isEmpty = (skipP s).isEmpty := by rw [ByteArray.toList_eq, bs_list]
  go_enter Tryz.func91, Tryz.ntmps91
  go_wp2_with (go_at_call 96; refine (skip_any b s d _ h).mono ?_; rintro e w1 ⟨rfl, hb1, h1⟩; have c0 := h1.c0)
  go_ret
  exact ⟨by simp [he], hb1, h1⟩

/-- What Parse answers. -/
def Parsed (n : Nat) (w : World) (e : Ending) : Option Ex → Prop
  | none => e = .returned (.tuple #[.agg #[.int .i64 0, .int .i64 0, .string ⟨#[]⟩, .slice none 0 0], .bool false])
  | some x => ∃ v, e = .returned (.tuple #[v, .bool true]) ∧ ExAt (n ≤ ·) w v x

theorem below_put {B k : Nat} {w w' : World} (h : Below B w w') (hk : B ≤ k) (a0 a1 a2 a3 : Value) : Below B w (put4 w' k a0 a1 a2 a3) :=
  (((h.setCell (p := ⟨k, 0, none⟩) hk _).setCell (p := ⟨k, 1, none⟩) hk _).setCell (p := ⟨k, 2, none⟩) hk _).setCell (p := ⟨k, 3, none⟩) hk _

set_option maxHeartbeats 1600000 in
set_option maxRecDepth 100000 in
theorem parse_any (s : Bs) (hl : Lim s) (w : World) (T : Tab w) :
    Calls Tryz.prog 82 #[.string (bs s)] w fun e w' => Below w.heap.size w w' ∧ Parsed w.heap.size w' e (parseP s) := by
  have h0 := below_new w (.cells #[.int .i64 0, .int .i64 0, .string ⟨#[]⟩, .slice none 0 0] 107)
  have h1 := below_new (w.alloc (.cells #[.int .i64 0, .int .i64 0, .string ⟨#[]⟩, .slice none 0 0] 107)) (.cells #[.string (bs s), .int .i64 0] 134)
  have hz : ((w.alloc (.cells #[.int .i64 0, .int .i64 0, .string ⟨#[]⟩, .slice none 0 0] 107)).alloc (.cells #[.string (bs s), .int .i64 0] 134)).heap.size = w.heap.size + 2 := by simp
  have R1 := (Blk.new w 107 (.int .i64 0) (.int .i64 0) (.string ⟨#[]⟩) (.slice none 0 0)).later h1
  have hb1 : Below w.heap.size w ((w.alloc (.cells #[.int .i64 0, .int .i64 0, .string ⟨#[]⟩, .slice none 0 0] 107)).alloc (.cells #[.string (bs s), .int .i64 0] 134)) := h0.trans (h1.mono h0.size)
  have T1 := T.later hb1
  have hR : Rdr ((w.alloc (.cells #[.int .i64 0, .int .i64 0, .string ⟨#[]⟩, .slice none 0 0] 107)).alloc (.cells #[.string (bs s), .int .i64 0] 134)) (w.heap.size + 1) s 0 := by
    constructor <;> simp
  have hg : gtop ≤ w.heap.size + 1 := Nat.le_succ_of_le T.size
  have C := ors_top (w.heap.size + 1) hg _ s T1 hR hl
  rw [hz] at C
  clear h0 h1 hR
  unfold parseP
  cases ho : orsP (singleP 12) s with
  | none =>
    rw [ho] at C
    go_enter Tryz.func82, Tryz.ntmps82
    go_wp2_with fail
    generalize ((w.alloc (.cells #[.int .i64 0, .int .i64 0, .string ⟨#[]⟩, .slice none 0 0] 107)).alloc (.cells #[.string (bs s), .int .i64 0] 134)) = w1 at *
    refine C.mono ?_

    rintro e w2 ⟨hb2, v2, s2, rfl, hR2, k, j, t, q, l, c, rfl⟩
    have R2 := R1.beside hb2 (by omega)
    obtain ⟨x0, x1, x2, x3, g0, g1, g2, g3⟩ := id R2
    have hl2 := R2.lt
    clear C
    go_wp2
    have R3 := (R2.put (.int .i64 k) (.int .i64 j) (.string t) (.slice q l c)).put (.int .i64 0) (.int .i64 0) (.string ⟨#[]⟩) (.slice none 0 0)
    obtain ⟨y0, y1, y2, y3, _, _, _, _⟩ := R3
    have hB3 := below_put (below_put (hb1.trans (hb2.below.mono (Nat.le_succ _))) (Nat.le_refl w.heap.size) (.int .i64 k) (.int .i64 j) (.string t) (.slice q l c)) (Nat.le_refl w.heap.size) (.int .i64 0) (.int .i64 0) (.string ⟨#[]⟩) (.slice none 0 0)
    unfold put4 at y0 y1 y2 y3
    exact bodyPost_ret (v := .tuple #[.agg #[.int .i64 0, .int .i64 0, .string ⟨#[]⟩, .slice none 0 0], .bool false]) (by simp [results, Tryz.results82, go_sem, y0, y1, y2, y3]) rfl ⟨hB3, rfl⟩
  | some r =>
    obtain ⟨x, s1⟩ := r
    rw [ho] at C
    simp only
    cases he : (skipP s1).isEmpty with
    | true =>
      rw [if_pos rfl]
      go_enter Tryz.func82, Tryz.ntmps82
      go_wp2_with fail
      generalize ((w.alloc (.cells #[.int .i64 0, .int .i64 0, .string ⟨#[]⟩, .slice none 0 0] 107)).alloc (.cells #[.string (bs s), .int .i64 0] 134)) = w1 at *
      refine C.mono ?_
      rintro e w2 ⟨hb2, v2, rfl, hR2, hx⟩
      obtain ⟨k, j, t, q, l, c, rfl⟩ := hx.form
      have R2 := R1.beside hb2 (by omega)
      obtain ⟨x0, x1, x2, x3, g0, g1, g2, g3⟩ := id R2
      have hl2 := R2.lt
      have hbl2 := hR2.lt
      have R3 := R2.put (.int .i64 k) (.int .i64 j) (.string t) (.slice q l c)
      have hR3 := hR2.put4 w.heap.size (.int .i64 k) (.int .i64 j) (.string t) (.slice q l c) (by omega)
      have hx3 := hx.put w.heap.size (.int .i64 k) (.int .i64 j) (.string t) (.slice q l c) (fun i hi => by omega)
      have hB3 := below_put (hb1.trans (hb2.below.mono (Nat.le_succ _))) (Nat.le_refl w.heap.size) (.int .i64 k) (.int .i64 j) (.string t) (.slice q l c)
      have E := ended_any (w.heap.size + 1) s1 0 _ hR3
      rw [he] at E
      clear C R1 R2
      go_wp2_with fail
      have E2 : Calls Tryz.prog 91 #[.pointer (some ⟨w.heap.size + 1, 0, none⟩)] ((((w2.setCell ⟨w.heap.size, 0, none⟩ (.int .i64 k)).setCell ⟨w.heap.size, 1, none⟩ (.int .i64 j)).setCell ⟨w.heap.size, 2, none⟩ (.string t)).setCell ⟨w.heap.size, 3, none⟩ (.slice q l c)) _ := E
      generalize hw3 : put4 w2 w.heap.size (.int .i64 k) (.int .i64 j) (.string t) (.slice q l c) = w3 at *
      refine E2.mono ?_
      rintro e w4 ⟨rfl, hb4, hR4⟩
      have R4 := R3.beside hb4 (by omega)
      obtain ⟨y0, y1, y2, y3, f0, f1, f2, f3⟩ := id R4
      have hl4 := R4.lt
      go_wp2
      have R5 := R4.put (.int .i64 k) (.int .i64 j) (.string t) (.slice q l c)
      obtain ⟨z0, z1, z2, z3, _, _, _, _⟩ := R5
      have hB5 := below_put (hB3.trans (hb4.below.mono (Nat.le_succ _))) (Nat.le_refl w.heap.size) (.int .i64 k) (.int .i64 j) (.string t) (.slice q l c)
      have hx5 := ((hx3.beside hb4 (fun i hi => by omega)).put w.heap.size (.int .i64 k) (.int .i64 j) (.string t) (.slice q l c) (fun i hi => by omega)).imp (Q := (w.heap.size ≤ ·)) (fun i hi _ => by omega)
      unfold put4 at z0 z1 z2 z3
      exact bodyPost_ret (v := .tuple #[.agg #[.int .i64 k, .int .i64 j, .string t, .slice q l c], .bool true]) (by simp [results, Tryz.results82, go_sem, z0, z1, z2, z3]) rfl ⟨hB5, _, rfl, hx5⟩
    | false =>
      rw [if_neg (by simp)]
      go_enter Tryz.func82, Tryz.ntmps82
      go_wp2_with fail
      generalize ((w.alloc (.cells #[.int .i64 0, .int .i64 0, .string ⟨#[]⟩, .slice none 0 0] 107)).alloc (.cells #[.string (bs s), .int .i64 0] 134)) = w1 at *
      refine C.mono ?_
      rintro e w2 ⟨hb2, v2, rfl, hR2, hx⟩
      obtain ⟨k, j, t, q, l, c, rfl⟩ := hx.form
      have R2 := R1.beside hb2 (by omega)
      obtain ⟨x0, x1, x2, x3, g0, g1, g2, g3⟩ := id R2
      have hl2 := R2.lt
      have hbl2 := hR2.lt
      have R3 := R2.put (.int .i64 k) (.int .i64 j) (.string t) (.slice q l c)
      have hR3 := hR2.put4 w.heap.size (.int .i64 k) (.int .i64 j) (.string t) (.slice q l c) (by omega)
      have hx3 := hx.put w.heap.size (.int .i64 k) (.int .i64 j) (.string t) (.slice q l c) (fun i hi => by omega)
      have hB3 := below_put (hb1.trans (hb2.below.mono (Nat.le_succ _))) (Nat.le_refl w.heap.size) (.int .i64 k) (.int .i64 j) (.string t) (.slice q l c)
      have E := ended_any (w.heap.size + 1) s1 0 _ hR3
      rw [he] at E
      clear C R1 R2
      go_wp2_with fail
      have E2 : Calls Tryz.prog 91 #[.pointer (some ⟨w.heap.size + 1, 0, none⟩)] ((((w2.setCell ⟨w.heap.size, 0, none⟩ (.int .i64 k)).setCell ⟨w.heap.size, 1, none⟩ (.int .i64 j)).setCell ⟨w.heap.size, 2, none⟩ (.string t)).setCell ⟨w.heap.size, 3, none⟩ (.slice q l c)) _ := E
      generalize hw3 : put4 w2 w.heap.size (.int .i64 k) (.int .i64 j) (.string t) (.slice q l c) = w3 at *
      refine E2.mono ?_
      rintro e w4 ⟨rfl, hb4, hR4⟩
      have R4 := R3.beside hb4 (by omega)
      obtain ⟨y0, y1, y2, y3, f0, f1, f2, f3⟩ := id R4
      have hl4 := R4.lt
      go_wp2
      have R5 := R4.put (.int .i64 0) (.int .i64 0) (.string ⟨#[]⟩) (.slice none 0 0)
      obtain ⟨z0, z1, z2, z3, _, _, _, _⟩ := R5
      have hB5 := below_put (hB3.trans (hb4.below.mono (Nat.le_succ _))) (Nat.le_refl w.heap.size) (.int .i64 0) (.int .i64 0) (.string ⟨#[]⟩) (.slice none 0 0)
      unfold put4 at z0 z1 z2 z3
      exact bodyPost_ret (v := .tuple #[.agg #[.int .i64 0, .int .i64 0, .string ⟨#[]⟩, .slice none 0 0], .bool false]) (by simp [results, Tryz.results82, go_sem, z0, z1, z2, z3]) rfl ⟨hB5, rfl⟩
end Go.Proofs.YtkaclahcpmogaaaGreatDoor
