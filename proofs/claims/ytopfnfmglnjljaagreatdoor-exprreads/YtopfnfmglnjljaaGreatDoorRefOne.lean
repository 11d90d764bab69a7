/- The reference's reader: inner: within one more. -/
import Derived.Test.YtopfnfmglnjljaaGreatDoorRefTwo
namespace Go.Proofs.YtopfnfmglnjljaaGreatDoor.Rf
open Go.Proofs.YtopfnfmglnjljaaGreatDoor
open Go.ChangeShapes Go.WideShapes Go.ChangeAt Go.RowKit
set_option linter.unusedVariables false
set_option linter.unusedSimpArgs false

def InnerOk (S : Bs) (b d : Nat) (br : Bool) (P : Rd) : Prop := ∀ (w : World) (p : Nat), RR w b S p d false → Calls Tryz.prog 66 #[.pointer (some ⟨b, 0, none⟩), .bool br] w fun e w' => Beside b w w' ∧ RRead w.heap.size b d S w' e (P (S.drop p))

set_option maxHeartbeats 4000000 in
set_option maxRecDepth 20000 in
theorem inner_deep (S : Bs) (b : Nat) (br : Bool) : InnerOk S b 12 br (fun _ => none) := by
  intro w p h
  have n0 := below_new w (.cells #[.int .i64 0, .int .i64 0, .string ⟨#[]⟩, .slice none 0 0] 27)
  have R0 := Blk.new w 27 (.int .i64 0) (.int .i64 0) (.string ⟨#[]⟩) (.slice none 0 0)
  have hbw := h.lt
  have h0 := h.later n0
  have hb0 := Beside.of n0 hbw
  go_enter Tryz.func66, Tryz.ntmps66
  obtain ⟨c0, c1, c2, c3, f0, f1, f2, f3, le⟩ := id h0
  have hl0 := h0.lt
  go_wp2_with fail
  have hb3 := (Beside.set (a := ⟨b, 3, none⟩) w rfl (.bool true)).alloc hbw (.cells #[.int .i64 0, .int .i64 0, .string ⟨#[]⟩, .slice none 0 0] 27)
  have hR3 := h.spoil.later (below_new _ (.cells #[.int .i64 0, .int .i64 0, .string ⟨#[]⟩, .slice none 0 0] 27))
  exact bodyPost_ret (v := .agg #[.int .i64 0, .int .i64 0, .string ⟨#[]⟩, .slice none 0 0]) (by simp [results, Tryz.results66, go_sem]) rfl ⟨hb3, _, p, rfl, ⟨_, _, _, _, _, _, rfl⟩, hR3⟩

/-- Where inner begins to read: one deeper; the answer's cells, the part's. -/
structure In (w W : World) (b : Nat) (S : Bs) (p d : Nat) : Prop where
  beside : Beside b w W
  size : W.heap.size = w.heap.size + 2
  rr : RR W b S p (d + 1) false
  res : Blk W w.heap.size (.int .i64 0) (.int .i64 0) (.string ⟨#[]⟩) (.slice none 0 0)
  x : Blk W (w.heap.size + 1) (.int .i64 0) (.int .i64 0) (.string ⟨#[]⟩) (.slice none 0 0)

theorem in_of {w : World} {b : Nat} {S : Bs} {p d : Nat} (h : RR w b S p d false) :
    In w (((w.setCell ⟨b, 2, none⟩ (.int .i64 ((d : Int) + 1))).alloc (.cells #[.int .i64 0, .int .i64 0, .string ⟨#[]⟩, .slice none 0 0] 27)).alloc (.cells #[.int .i64 0, .int .i64 0, .string ⟨#[]⟩, .slice none 0 0] 27)) b S p d := by
  have hbw := h.lt
  have h1 := h.deep (d + 1)
  rw [show ((d + 1 : Nat) : Int) = (d : Int) + 1 by omega] at h1
  have e1 : (w.setCell ⟨b, 2, none⟩ (.int .i64 ((d : Int) + 1))).heap.size = w.heap.size := by simp
  have n1 := below_new (w.setCell ⟨b, 2, none⟩ (.int .i64 ((d : Int) + 1))) (.cells #[.int .i64 0, .int .i64 0, .string ⟨#[]⟩, .slice none 0 0] 27)
  have n2 := below_new ((w.setCell ⟨b, 2, none⟩ (.int .i64 ((d : Int) + 1))).alloc (.cells #[.int .i64 0, .int .i64 0, .string ⟨#[]⟩, .slice none 0 0] 27)) (.cells #[.int .i64 0, .int .i64 0, .string ⟨#[]⟩, .slice none 0 0] 27)
  have R1 := Blk.new (w.setCell ⟨b, 2, none⟩ (.int .i64 ((d : Int) + 1))) 27 (.int .i64 0) (.int .i64 0) (.string ⟨#[]⟩) (.slice none 0 0)
  have X2 := Blk.new ((w.setCell ⟨b, 2, none⟩ (.int .i64 ((d : Int) + 1))).alloc (.cells #[.int .i64 0, .int .i64 0, .string ⟨#[]⟩, .slice none 0 0] 27)) 27 (.int .i64 0) (.int .i64 0) (.string ⟨#[]⟩) (.slice none 0 0)
  have e2 : ((w.setCell ⟨b, 2, none⟩ (.int .i64 ((d : Int) + 1))).alloc (.cells #[.int .i64 0, .int .i64 0, .string ⟨#[]⟩, .slice none 0 0] 27)).heap.size = w.heap.size + 1 := by simp
  have hb1 := Beside.set (a := ⟨b, 2, none⟩) w rfl (.int .i64 ((d : Int) + 1))
  rw [e1] at R1
  rw [e2] at X2
  exact ⟨(hb1.alloc hbw _).alloc hbw _, by simp, (h1.later n1).later n2, R1.later n2, X2⟩

/-- Where inner ends: one up again, the part told. -/
theorem inner_end {w W : World} {b : Nat} {S : Bs} {q d : Nat} {bad : Bool} {k n : Int} {t : ByteArray} {z : Option Addr} {l m : Nat} (hbw : b < w.heap.size) (hb : Beside b w W) (hR : RR W b S q (d + 1) bad) (R : Blk W w.heap.size (.int .i64 0) (.int .i64 0) (.string ⟨#[]⟩) (.slice none 0 0)) :
    Beside b w (put4 (W.setCell ⟨b, 2, none⟩ (.int .i64 (d : Int))) w.heap.size (.int .i64 k) (.int .i64 n) (.string t) (.slice z l m)) ∧
    RR (put4 (W.setCell ⟨b, 2, none⟩ (.int .i64 (d : Int))) w.heap.size (.int .i64 k) (.int .i64 n) (.string t) (.slice z l m)) b S q d bad ∧
    Blk (put4 (W.setCell ⟨b, 2, none⟩ (.int .i64 (d : Int))) w.heap.size (.int .i64 k) (.int .i64 n) (.string t) (.slice z l m)) w.heap.size (.int .i64 k) (.int .i64 n) (.string t) (.slice z l m) :=
  ⟨(hb.trans (Beside.set (a := ⟨b, 2, none⟩) _ rfl _)).putNew hbw (Nat.le_refl _) _ _ _ _, (hR.deep d).put4 _ _ _ _ _ (Nat.ne_of_lt hbw), (R.other ⟨b, 2, none⟩ _ (Nat.ne_of_gt hbw)).put _ _ _ _⟩

theorem RR.same {w : World} {b : Nat} {S : Bs} {p q d d' : Nat} {bad bad' : Bool} (h : RR w b S p d bad) (h' : RR w b S q d' bad') : p = q := by
  have e := h.c1
  rw [h'.c1] at e
  have : (q : Int) = (p : Int) := by simpa using e
  omega

set_option maxHeartbeats 4000000 in
set_option maxRecDepth 20000 in
theorem inner_neg (S : Bs) (b d : Nat) (hd : d < 12) (P : Rd) (hp : OneOk S b (d + 1) P) : InnerOk S b d false (fun s => (P s).map fun r => (.neg r.1, r.2)) := by
  intro w p h
  have hbw := h.lt
  have n0 := below_new w (.cells #[.int .i64 0, .int .i64 0, .string ⟨#[]⟩, .slice none 0 0] 27)
  have I := in_of h
  have C := hp _ p I.rr
  have h0 := h.later n0
  have hdI : ¬ (12 : Int) ≤ (d : Int) := by omega
  go_enter Tryz.func66, Tryz.ntmps66
  obtain ⟨c0, c1, c2, c3, f0, f1, f2, f3, le⟩ := id h0
  have hl0 := h0.lt
  go_wp2_with fail
  obtain ⟨W1, hW1⟩ : ∃ W, W = (((w.setCell ⟨b, 2, none⟩ (.int .i64 ((d : Int) + 1))).alloc (.cells #[.int .i64 0, .int .i64 0, .string ⟨#[]⟩, .slice none 0 0] 27)).alloc (.cells #[.int .i64 0, .int .i64 0, .string ⟨#[]⟩, .slice none 0 0] 27)) := ⟨_, rfl⟩
  rw [← hW1] at I C ⊢
  clear hW1 c0 c1 c2 c3 f0 f1 f2 f3 n0 h0 hl0
  refine C.mono ?_
  rintro e w2 ⟨hb2, hE⟩
  obtain ⟨k, j, s, q, l, c, rfl⟩ := hE.form
  have hsz := I.size
  have R2 := I.res.beside hb2 (Nat.ne_of_gt hbw)
  have X2 := I.x.beside hb2 (by omega)
  have hbr := I.beside.trans hb2
  obtain ⟨x0, x1, x2, x3, g0, g1, g2, g3⟩ := id X2
  have hlX := X2.lt
  have hlR := R2.lt
  obtain ⟨r0, r1, r2, r3, k0, k1, k2, k3⟩ := id R2
  clear C
  obtain ⟨res, hres⟩ : ∃ res, res = P (S.drop p) := ⟨_, rfl⟩
  rw [← hres] at hE
  have HR : Hid (res = P (S.drop p)) := hres
  clear hres
  obtain ⟨bad, p4, hbad, hR⟩ : ∃ (bad : Bool) (p4 : Nat), (bad = res.isNone) ∧ RR w2 b S p4 (d + 1) bad := by
    cases res with
    | none => obtain ⟨_, p4, _, _, hR⟩ := hE; exact ⟨true, p4, rfl, hR⟩
    | some r => obtain ⟨x, s⟩ := r; obtain ⟨_, p4, _, _, hR, _⟩ := hE; exact ⟨false, p4, rfl, hR⟩
  obtain ⟨c0, c1, c2, c3, f0, f1, f2, f3, le⟩ := id hR
  rw [show ((d + 1 : Nat) : Int) = (d : Int) + 1 by omega] at c2
  have hlb := hR.lt
  have hd2 : (d : Int) + 1 - 1 = (d : Int) := by omega
  go_wp2_with fail
  have eY : (put4 ((put4 w2 (w.heap.size + 1) (.int .i64 4) (.int .i64 0) (.string ⟨#[]⟩) (.slice (some ⟨w2.heap.size, 0, none⟩) 1 1)).setCell ⟨b, 2, none⟩ (.int .i64 (d : Int))) w.heap.size (.int .i64 4) (.int .i64 0) (.string ⟨#[]⟩) (.slice (some ⟨w2.heap.size, 0, none⟩) 1 1)).heap.size = w2.heap.size := by rw [put4_size, show ((put4 w2 (w.heap.size + 1) (.int .i64 4) (.int .i64 0) (.string ⟨#[]⟩) (.slice (some ⟨w2.heap.size, 0, none⟩) 1 1)).setCell ⟨b, 2, none⟩ (.int .i64 (d : Int))).heap.size = (put4 w2 (w.heap.size + 1) (.int .i64 4) (.int .i64 0) (.string ⟨#[]⟩) (.slice (some ⟨w2.heap.size, 0, none⟩) 1 1)).heap.size by simp, put4_size]
  have nY := below_new (put4 ((put4 w2 (w.heap.size + 1) (.int .i64 4) (.int .i64 0) (.string ⟨#[]⟩) (.slice (some ⟨w2.heap.size, 0, none⟩) 1 1)).setCell ⟨b, 2, none⟩ (.int .i64 (d : Int))) w.heap.size (.int .i64 4) (.int .i64 0) (.string ⟨#[]⟩) (.slice (some ⟨w2.heap.size, 0, none⟩) 1 1)) (.cells #[.int .i64 k, .int .i64 j, .string s, .slice q l c] 27)
  have hbY := (((hbr.putNew hbw (k := w.heap.size + 1) (by omega) (.int .i64 4) (.int .i64 0) (.string ⟨#[]⟩) (.slice (some ⟨w2.heap.size, 0, none⟩) 1 1)).trans (Beside.set (a := ⟨b, 2, none⟩) _ rfl (.int .i64 (d : Int)))).putNew hbw (Nat.le_refl _) (.int .i64 4) (.int .i64 0) (.string ⟨#[]⟩) (.slice (some ⟨w2.heap.size, 0, none⟩) 1 1)).alloc hbw (.cells #[.int .i64 k, .int .i64 j, .string s, .slice q l c] 27)
  have hRY := ((((hR.put4 (w.heap.size + 1) (.int .i64 4) (.int .i64 0) (.string ⟨#[]⟩) (.slice (some ⟨w2.heap.size, 0, none⟩) 1 1) (by omega)).deep d).put4 w.heap.size (.int .i64 4) (.int .i64 0) (.string ⟨#[]⟩) (.slice (some ⟨w2.heap.size, 0, none⟩) 1 1) (Nat.ne_of_lt hbw)).later nY)
  have RY := (((R2.put4 (w.heap.size + 1) (.int .i64 4) (.int .i64 0) (.string ⟨#[]⟩) (.slice (some ⟨w2.heap.size, 0, none⟩) 1 1) (by omega)).other ⟨b, 2, none⟩ (.int .i64 (d : Int)) (Nat.ne_of_gt hbw)).put (.int .i64 4) (.int .i64 0) (.string ⟨#[]⟩) (.slice (some ⟨w2.heap.size, 0, none⟩) 1 1)).alloc (.cells #[.int .i64 k, .int .i64 j, .string s, .slice q l c] 27)
  have nc := fun i x h => new_cell (w := (put4 ((put4 w2 (w.heap.size + 1) (.int .i64 4) (.int .i64 0) (.string ⟨#[]⟩) (.slice (some ⟨w2.heap.size, 0, none⟩) 1 1)).setCell ⟨b, 2, none⟩ (.int .i64 (d : Int))) w.heap.size (.int .i64 4) (.int .i64 0) (.string ⟨#[]⟩) (.slice (some ⟨w2.heap.size, 0, none⟩) 1 1))) (t := 27) #[.int .i64 k, .int .i64 j, .string s, .slice q l c] i x h
  rw [eY] at nc
  have hxY : ∀ x, ExAt (W1.heap.size ≤ ·) w2 (.agg #[.int .i64 k, .int .i64 j, .string s, .slice q l c]) x → ExAt (w.heap.size ≤ ·) ((put4 ((put4 w2 (w.heap.size + 1) (.int .i64 4) (.int .i64 0) (.string ⟨#[]⟩) (.slice (some ⟨w2.heap.size, 0, none⟩) 1 1)).setCell ⟨b, 2, none⟩ (.int .i64 (d : Int))) w.heap.size (.int .i64 4) (.int .i64 0) (.string ⟨#[]⟩) (.slice (some ⟨w2.heap.size, 0, none⟩) 1 1)).alloc (.cells #[.int .i64 k, .int .i64 j, .string s, .slice q l c] 27)) (.agg #[.int .i64 4, .int .i64 0, .string ⟨#[]⟩, .slice (some ⟨w2.heap.size, 0, none⟩) 1 1]) (.neg x) := fun x hx =>
    ⟨w2.heap.size, _, _, _, _, rfl, by omega, nc 0 _ rfl, nc 1 _ rfl, nc 2 _ rfl, nc 3 _ rfl, ((((hx.put (w.heap.size + 1) (.int .i64 4) (.int .i64 0) (.string ⟨#[]⟩) (.slice (some ⟨w2.heap.size, 0, none⟩) 1 1) (fun i hi => by omega)).set ⟨b, 2, none⟩ (.int .i64 (d : Int)) (fun i hi => by show i ≠ b; omega)).put w.heap.size (.int .i64 4) (.int .i64 0) (.string ⟨#[]⟩) (.slice (some ⟨w2.heap.size, 0, none⟩) 1 1) (fun i hi => by omega)).below nY).imp fun i hi _ => by omega⟩
  obtain ⟨y0, y1, y2, y3, _, _, _, _⟩ := RY
  unfold put4 at y0 y1 y2 y3
  refine bodyPost_ret (v := .agg #[.int .i64 4, .int .i64 0, .string ⟨#[]⟩, .slice (some ⟨w2.heap.size, 0, none⟩) 1 1]) (by simp [results, Tryz.results66, go_sem, y0, y1, y2, y3]) rfl ⟨hbY, ?_⟩
  rw [← HR.out]
  cases res with
  | none =>
    obtain rfl : bad = true := hbad
    exact ⟨_, p4, rfl, ⟨_, _, _, _, _, _, rfl⟩, hRY⟩
  | some r =>
    obtain ⟨x, s'⟩ := r
    obtain rfl : bad = false := hbad
    obtain ⟨_, p5, e, hx, hR5, hq⟩ := hE
    cases e
    have : p5 = p4 := RR.same hR5 hR
    subst this
    exact ⟨_, p5, rfl, hxY x hx, hRY, hq⟩

def brP (P : Rd) : Rd := fun s => match P s with
  | none => none
  | some (x, s1) => if (tookP s1 [41]).2 then some (x, (tookP s1 [41]).1) else none

set_option maxHeartbeats 4000000 in
set_option maxRecDepth 20000 in
theorem inner_br (S : Bs) (hl : S.length ≤ 35184372088832) (b d : Nat) (hd : d < 12) (P : Rd) (hp : TwoOk S b (d + 1) 0 P) : InnerOk S b d true (brP P) := by
  intro w p h
  obtain ⟨out, hout⟩ : ∃ out, out = brP P (S.drop p) := ⟨_, rfl⟩
  rw [← hout]
  have HO : Hid (out = brP P (S.drop p)) := hout
  clear hout
  have hbw := h.lt
  have n0 := below_new w (.cells #[.int .i64 0, .int .i64 0, .string ⟨#[]⟩, .slice none 0 0] 27)
  have I := in_of h
  have C := hp _ p I.rr
  have h0 := h.later n0
  have hdI : ¬ (12 : Int) ≤ (d : Int) := by omega
  go_enter Tryz.func66, Tryz.ntmps66
  obtain ⟨c0, c1, c2, c3, f0, f1, f2, f3, le⟩ := id h0
  have hl0 := h0.lt
  go_wp2_with fail
  obtain ⟨W1, hW1⟩ : ∃ W, W = (((w.setCell ⟨b, 2, none⟩ (.int .i64 ((d : Int) + 1))).alloc (.cells #[.int .i64 0, .int .i64 0, .string ⟨#[]⟩, .slice none 0 0] 27)).alloc (.cells #[.int .i64 0, .int .i64 0, .string ⟨#[]⟩, .slice none 0 0] 27)) := ⟨_, rfl⟩
  rw [← hW1] at I C ⊢
  clear hW1 c0 c1 c2 c3 f0 f1 f2 f3 n0 h0 hl0
  refine C.mono ?_
  rintro e w2 ⟨hb2, hE⟩
  obtain ⟨k, j, s, q, l, c, rfl⟩ := hE.form
  have hsz := I.size
  have R2 := I.res.beside hb2 (Nat.ne_of_gt hbw)
  have X2 := I.x.beside hb2 (by omega)
  have hbr := I.beside.trans hb2
  obtain ⟨x0, x1, x2, x3, g0, g1, g2, g3⟩ := id X2
  have hlX := X2.lt
  clear C
  obtain ⟨res, hres⟩ : ∃ res, res = P (S.drop p) := ⟨_, rfl⟩
  rw [← hres] at hE
  have HR : Hid (res = P (S.drop p)) := hres
  clear hres
  obtain ⟨bad, p4, hbad, hR⟩ : ∃ (bad : Bool) (p4 : Nat), (bad = res.isNone) ∧ RR w2 b S p4 (d + 1) bad := by
    cases res with
    | none => obtain ⟨_, p4, _, _, hR⟩ := hE; exact ⟨true, p4, rfl, hR⟩
    | some r => obtain ⟨x, s⟩ := r; obtain ⟨_, p4, _, _, hR, _⟩ := hE; exact ⟨false, p4, rfl, hR⟩
  have hlb := hR.lt
  go_wp2_with fail
  have hR3 := hR.put4 (w.heap.size + 1) (.int .i64 k) (.int .i64 j) (.string s) (.slice q l c) (by omega)
  have R3 := R2.put4 (w.heap.size + 1) (.int .i64 k) (.int .i64 j) (.string s) (.slice q l c) (by omega)
  have X3 := X2.put (.int .i64 k) (.int .i64 j) (.string s) (.slice q l c)
  have hb3 := hbr.putNew hbw (k := w.heap.size + 1) (by omega) (.int .i64 k) (.int .i64 j) (.string s) (.slice q l c)
  have hE3 := hE.put (R := w.heap.size + 1) (by omega) (by omega) (.int .i64 k) (.int .i64 j) (.string s) (.slice q l c)
  have hs3 : W1.heap.size ≤ (put4 w2 (w.heap.size + 1) (.int .i64 k) (.int .i64 j) (.string s) (.slice q l c)).heap.size := by rw [put4_size]; exact hb2.size
  have IS := is_any b S hl [41] (by simp) p4 (d + 1) bad _ hR3
  rw [show bs [41] = ⟨#[41]⟩ from rfl] at IS
  clear x0 x1 x2 x3 g0 g1 g2 g3 R2 X2 hbr hR hE hlX hlb hb2
  unfold put4 at hR3 R3 X3 hb3 hE3 IS hs3
  generalize (((w2.setCell ⟨w.heap.size + 1, 0, none⟩ (.int .i64 k)).setCell ⟨w.heap.size + 1, 1, none⟩ (.int .i64 j)).setCell ⟨w.heap.size + 1, 2, none⟩ (.string s)).setCell ⟨w.heap.size + 1, 3, none⟩ (.slice q l c) = W3 at *
  refine IS.mono ?_
  rintro e w4 ⟨rfl, hb4, p5, hR4, hq5⟩
  clear IS
  have X4 := X3.beside hb4 (by omega)
  have R4 := R3.beside hb4 (by omega)
  have hb5 := hb3.trans hb4
  have HT : Hid (∀ x s1, res = some (x, s1) → s1 = S.drop p4 ∧ ExAt (W1.heap.size ≤ ·) w4 (.agg #[.int .i64 k, .int .i64 j, .string s, .slice q l c]) x) := fun x s1 e => by
    rw [e] at hE3
    obtain ⟨_, p6, e', hx, hR6, hq6⟩ := hE3
    cases e'
    obtain rfl := RR.same hR6 hR3
    exact ⟨hq6.symm, hx.beside hb4 (fun i hi => by omega)⟩
  clear R3 X3 hb3 hE3 hR3 hb4
  obtain ⟨x0, x1, x2, x3, _, _, _, _⟩ := id X4
  obtain ⟨r0, r1, r2, r3, k0, k1, k2, k3⟩ := id R4
  have hlR := R4.lt
  obtain ⟨c0, c1, c2, c3, f0, f1, f2, f3, _⟩ := id hR4
  rw [show ((d + 1 : Nat) : Int) = (d : Int) + 1 by omega] at c2
  have hlb := hR4.lt
  have hd2 : (d : Int) + 1 - 1 = (d : Int) := by omega
  obtain ⟨tk, htk⟩ : ∃ tk, tk = tookP (S.drop p4) [41] := ⟨_, rfl⟩
  have HK : Hid (tk = tookP (S.drop p4) [41]) := htk
  rw [← htk] at hq5 ⊢
  clear htk
  obtain ⟨s1, t1⟩ := tk
  cases t1 with
  | true =>
    go_wp2_with fail
    have F := inner_end (k := k) (n := j) (t := s) (z := q) (l := l) (m := c) hbw hb5 hR4 R4
    obtain ⟨hbF, hRF, y0, y1, y2, y3, _, _, _, _⟩ := F
    unfold put4 at y0 y1 y2 y3
    refine bodyPost_ret (v := .agg #[.int .i64 k, .int .i64 j, .string s, .slice q l c]) (by simp [results, Tryz.results66, go_sem, y0, y1, y2, y3]) rfl ⟨hbF, ?_⟩
    rw [HO.out]
    unfold brP
    rw [← HR.out]
    cases res with
    | none =>
      obtain rfl : bad = true := hbad
      exact ⟨_, p5, rfl, ⟨_, _, _, _, _, _, rfl⟩, hRF⟩
    | some r =>
      obtain ⟨x, s2⟩ := r
      obtain rfl : bad = false := hbad
      obtain ⟨e2, hx⟩ := HT.out x s2 rfl
      simp only [e2, ← HK.out]
      rw [if_pos trivial]
      exact ⟨_, p5, rfl, ((hx.set ⟨b, 2, none⟩ (.int .i64 (d : Int)) (fun i hi => by show i ≠ b; omega)).put w.heap.size (.int .i64 k) (.int .i64 j) (.string s) (.slice q l c) (fun i hi => by omega)).imp fun i hi _ => by omega, hRF, hq5⟩
  | false =>
    have hR5 := hR4.spoil
    have hb6 := hb5.trans (Beside.set (a := ⟨b, 3, none⟩) w4 rfl (.bool true))
    have R5 := R4.other ⟨b, 3, none⟩ (.bool true) (Nat.ne_of_gt hbw)
    go_wp2_with fail
    have F := inner_end (k := k) (n := j) (t := s) (z := q) (l := l) (m := c) hbw hb6 hR5 R5
    obtain ⟨hbF, hRF, y0, y1, y2, y3, _, _, _, _⟩ := F
    unfold put4 at y0 y1 y2 y3
    refine bodyPost_ret (v := .agg #[.int .i64 k, .int .i64 j, .string s, .slice q l c]) (by simp [results, Tryz.results66, go_sem, y0, y1, y2, y3]) rfl ⟨hbF, ?_⟩
    rw [HO.out]
    unfold brP
    rw [← HR.out]
    cases res with
    | none => exact ⟨_, p5, rfl, ⟨_, _, _, _, _, _, rfl⟩, hRF⟩
    | some r =>
      obtain ⟨x, s2⟩ := r
      obtain ⟨e2, hx⟩ := HT.out x s2 rfl
      simp only [e2, ← HK.out]
      rw [if_neg (by simp)]
      exact ⟨_, p5, rfl, ⟨_, _, _, _, _, _, rfl⟩, hRF⟩
end Go.Proofs.YtopfnfmglnjljaaGreatDoor.Rf
