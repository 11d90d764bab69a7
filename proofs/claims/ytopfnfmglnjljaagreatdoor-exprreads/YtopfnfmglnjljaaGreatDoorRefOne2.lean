/- The reference's reader: one: what stands by itself. -/
import Derived.Test.YtopfnfmglnjljaaGreatDoorRefTwo
import Derived.Test.YtopfnfmglnjljaaGreatDoorRefWord2
namespace Go.Proofs.YtopfnfmglnjljaaGreatDoor.Rf
open Go.Proofs.YtopfnfmglnjljaaGreatDoor
open Go.ChangeShapes Go.WideShapes Go.ChangeAt Go.RowKit
set_option linter.unusedVariables false
set_option linter.unusedSimpArgs false

def InnerOk (S : Bs) (b d : Nat) (br : Bool) (P : Rd) : Prop := ∀ (w : World) (p : Nat), RR w b S p d false → Calls Tryz.prog 66 #[.pointer (some ⟨b, 0, none⟩), .bool br] w fun e w' => Beside b w w' ∧ RRead w.heap.size b d S w' e (P (S.drop p))

set_option maxHeartbeats 4000000 in
set_option maxRecDepth 20000 in
theorem inner_deep (S : Bs) (b : Nat) (br : Bool) : InnerOk S b 12 br (fun _ => none) := by
  intro w p h
  have n0 := below_new w (.cells #[.int .i64 0, .int .i64 0, .string ⟨#[]⟩, .slice none 0 0] 27)
  have R0 := Blk.new w 27 (.int .i64 0) (.int .i64 0) (.string ⟨#[]⟩) (.slice none 0 0)
  have hbw := h.lt
  have h0 := h.later n0
  have hb0 := Beside.of n0 hbw
  go_enter Tryz.func66, Tryz.ntmps66
  obtain ⟨c0, c1, c2, c3, f0, f1, f2, f3, le⟩ := id h0
  have hl0 := h0.lt
  go_wp2_with fail
  have hb3 := (Beside.set (a := ⟨b, 3, none⟩) w rfl (.bool true)).alloc hbw (.cells #[.int .i64 0, .int .i64 0, .string ⟨#[]⟩, .slice none 0 0] 27)
  have hR3 := h.spoil.later (below_new _ (.cells #[.int .i64 0, .int .i64 0, .string ⟨#[]⟩, .slice none 0 0] 27))
  exact bodyPost_ret (v := .agg #[.int .i64 0, .int .i64 0, .string ⟨#[]⟩, .slice none 0 0]) (by simp [results, Tryz.results66, go_sem]) rfl ⟨hb3, _, p, rfl, ⟨_, _, _, _, _, _, rfl⟩, hR3⟩

/-- Where inner begins to read: one deeper; the answer's cells, the part's. -/
structure In (w W : World) (b : Nat) (S : Bs) (p d : Nat) : Prop where
  beside : Beside b w W
  size : W.heap.size = w.heap.size + 2
  rr : RR W b S p (d + 1) false
  res : Blk W w.heap.size (.int .i64 0) (.int .i64 0) (.string ⟨#[]⟩) (.slice none 0 0)
  x : Blk W (w.heap.size + 1) (.int .i64 0) (.int .i64 0) (.string ⟨#[]⟩) (.slice none 0 0)

theorem in_of {w : World} {b : Nat} {S : Bs} {p d : Nat} (h : RR w b S p d false) :
    In w (((w.setCell ⟨b, 2, none⟩ (.int .i64 ((d : Int) + 1))).alloc (.cells #[.int .i64 0, .int .i64 0, .string ⟨#[]⟩, .slice none 0 0] 27)).alloc (.cells #[.int .i64 0, .int .i64 0, .string ⟨#[]⟩, .slice none 0 0] 27)) b S p d := by
  have hbw := h.lt
  have h1 := h.deep (d + 1)
  rw [show ((d + 1 : Nat) : Int) = (d : Int) + 1 by omega] at h1
  have e1 : (w.setCell ⟨b, 2, none⟩ (.int .i64 ((d : Int) + 1))).heap.size = w.heap.size := by simp
  have n1 := below_new (w.setCell ⟨b, 2, none⟩ (.int .i64 ((d : Int) + 1))) (.cells #[.int .i64 0, .int .i64 0, .string ⟨#[]⟩, .slice none 0 0] 27)
  have n2 := below_new ((w.setCell ⟨b, 2, none⟩ (.int .i64 ((d : Int) + 1))).alloc (.cells #[.int .i64 0, .int .i64 0, .string ⟨#[]⟩, .slice none 0 0] 27)) (.cells #[.int .i64 0, .int .i64 0, .string ⟨#[]⟩, .slice none 0 0] 27)
  have R1 := Blk.new (w.setCell ⟨b, 2, none⟩ (.int .i64 ((d : Int) + 1))) 27 (.int .i64 0) (.int .i64 0) (.string ⟨#[]⟩) (.slice none 0 0)
  have X2 := Blk.new ((w.setCell ⟨b, 2, none⟩ (.int .i64 ((d : Int) + 1))).alloc (.cells #[.int .i64 0, .int .i64 0, .string ⟨#[]⟩, .slice none 0 0] 27)) 27 (.int .i64 0) (.int .i64 0) (.string ⟨#[]⟩) (.slice none 0 0)
  have e2 : ((w.setCell ⟨b, 2, none⟩ (.int .i64 ((d : Int) + 1))).alloc (.cells #[.int .i64 0, .int .i64 0, .string ⟨#[]⟩, .slice none 0 0] 27)).heap.size = w.heap.size + 1 := by simp
  have hb1 := Beside.set (a := ⟨b, 2, none⟩) w rfl (.int .i64 ((d : Int) + 1))
  rw [e1] at R1
  rw [e2] at X2
  exact ⟨(hb1.alloc hbw _).alloc hbw _, by simp, (h1.later n1).later n2, R1.later n2, X2⟩

/-- Where inner ends: one up again, the part told. -/
theorem inner_end {w W : World} {b : Nat} {S : Bs} {q d : Nat} {bad : Bool} {k n : Int} {t : ByteArray} {z : Option Addr} {l m : Nat} (hbw : b < w.heap.size) (hb : Beside b w W) (hR : RR W b S q (d + 1) bad) (R : Blk W w.heap.size (.int .i64 0) (.int .i64 0) (.string ⟨#[]⟩) (.slice none 0 0)) :
    Beside b w (put4 (W.setCell ⟨b, 2, none⟩ (.int .i64 (d : Int))) w.heap.size (.int .i64 k) (.int .i64 n) (.string t) (.slice z l m)) ∧
    RR (put4 (W.setCell ⟨b, 2, none⟩ (.int .i64 (d : Int))) w.heap.size (.int .i64 k) (.int .i64 n) (.string t) (.slice z l m)) b S q d bad ∧
    Blk (put4 (W.setCell ⟨b, 2, none⟩ (.int .i64 (d : Int))) w.heap.size (.int .i64 k) (.int .i64 n) (.string t) (.slice z l m)) w.heap.size (.int .i64 k) (.int .i64 n) (.string t) (.slice z l m) :=
  ⟨(hb.trans (Beside.set (a := ⟨b, 2, none⟩) _ rfl _)).putNew hbw (Nat.le_refl _) _ _ _ _, (hR.deep d).put4 _ _ _ _ _ (Nat.ne_of_lt hbw), (R.other ⟨b, 2, none⟩ _ (Nat.ne_of_gt hbw)).put _ _ _ _⟩

theorem RR.same {w : World} {b : Nat} {S : Bs} {p q d d' : Nat} {bad bad' : Bool} (h : RR w b S p d bad) (h' : RR w b S q d' bad') : p = q := by
  have e := h.c1
  rw [h'.c1] at e
  have : (q : Int) = (p : Int) := by simpa using e
  omega

set_option maxHeartbeats 4000000 in
set_option maxRecDepth 20000 in
theorem inner_neg (S : Bs) (b d : Nat) (hd : d < 12) (P : Rd) (hp : OneOk S b (d + 1) P) : InnerOk S b d false (fun s => (P s).map fun r => (.neg r.1, r.2)) := by
  intro w p h
  have hbw := h.lt
  have n0 := below_new w (.cells #[.int .i64 0, .int .i64 0, .string ⟨#[]⟩, .slice none 0 0] 27)
  have I := in_of h
  have C := hp _ p I.rr
  have h0 := h.later n0
  have hdI : ¬ (12 : Int) ≤ (d : Int) := by omega
  go_enter Tryz.func66, Tryz.ntmps66
  obtain ⟨c0, c1, c2, c3, f0, f1, f2, f3, le⟩ := id h0
  have hl0 := h0.lt
  go_wp2_with fail
  obtain ⟨W1, hW1⟩ : ∃ W, W = (((w.setCell ⟨b, 2, none⟩ (.int .i64 ((d : Int) + 1))).alloc (.cells #[.int .i64 0, .int .i64 0, .string ⟨#[]⟩, .slice none 0 0] 27)).alloc (.cells #[.int .i64 0, .int .i64 0, .string ⟨#[]⟩, .slice none 0 0] 27)) := ⟨_, rfl⟩
  rw [← hW1] at I C ⊢
  clear hW1 c0 c1 c2 c3 f0 f1 f2 f3 n0 h0 hl0
  refine C.mono ?_
  rintro e w2 ⟨hb2, hE⟩
  obtain ⟨k, j, s, q, l, c, rfl⟩ := hE.form
  have hsz := I.size
  have R2 := I.res.beside hb2 (Nat.ne_of_gt hbw)
  have X2 := I.x.beside hb2 (by omega)
  have hbr := I.beside.trans hb2
  obtain ⟨x0, x1, x2, x3, g0, g1, g2, g3⟩ := id X2
  have hlX := X2.lt
  have hlR := R2.lt
  obtain ⟨r0, r1, r2, r3, k0, k1, k2, k3⟩ := id R2
  clear C
  obtain ⟨res, hres⟩ : ∃ res, res = P (S.drop p) := ⟨_, rfl⟩
  rw [← hres] at hE
  have HR : Hid (res = P (S.drop p)) := hres
  clear hres
  obtain ⟨bad, p4, hbad, hR⟩ : ∃ (bad : Bool) (p4 : Nat), (bad = res.isNone) ∧ RR w2 b S p4 (d + 1) bad := by
    cases res with
    | none => obtain ⟨_, p4, _, _, hR⟩ := hE; exact ⟨true, p4, rfl, hR⟩
    | some r => obtain ⟨x, s⟩ := r; obtain ⟨_, p4, _, _, hR, _⟩ := hE; exact ⟨false, p4, rfl, hR⟩
  obtain ⟨c0, c1, c2, c3, f0, f1, f2, f3, le⟩ := id hR
  rw [show ((d + 1 : Nat) : Int) = (d : Int) + 1 by omega] at c2
  have hlb := hR.lt
  have hd2 : (d : Int) + 1 - 1 = (d : Int) := by omega
  go_wp2_with fail
  have eY : (put4 ((put4 w2 (w.heap.size + 1) (.int .i64 4) (.int .i64 0) (.string ⟨#[]⟩) (.slice (some ⟨w2.heap.size, 0, none⟩) 1 1)).setCell ⟨b, 2, none⟩ (.int .i64 (d : Int))) w.heap.size (.int .i64 4) (.int .i64 0) (.string ⟨#[]⟩) (.slice (some ⟨w2.heap.size, 0, none⟩) 1 1)).heap.size = w2.heap.size := by rw [put4_size, show ((put4 w2 (w.heap.size + 1) (.int .i64 4) (.int .i64 0) (.string ⟨#[]⟩) (.slice (some ⟨w2.heap.size, 0, none⟩) 1 1)).setCell ⟨b, 2, none⟩ (.int .i64 (d : Int))).heap.size = (put4 w2 (w.heap.size + 1) (.int .i64 4) (.int .i64 0) (.string ⟨#[]⟩) (.slice (some ⟨w2.heap.size, 0, none⟩) 1 1)).heap.size by simp, put4_size]
  have nY := below_new (put4 ((put4 w2 (w.heap.size + 1) (.int .i64 4) (.int .i64 0) (.string ⟨#[]⟩) (.slice (some ⟨w2.heap.size, 0, none⟩) 1 1)).setCell ⟨b, 2, none⟩ (.int .i64 (d : Int))) w.heap.size (.int .i64 4) (.int .i64 0) (.string ⟨#[]⟩) (.slice (some ⟨w2.heap.size, 0, none⟩) 1 1)) (.cells #[.int .i64 k, .int .i64 j, .string s, .slice q l c] 27)
  have hbY := (((hbr.putNew hbw (k := w.heap.size + 1) (by omega) (.int .i64 4) (.int .i64 0) (.string ⟨#[]⟩) (.slice (some ⟨w2.heap.size, 0, none⟩) 1 1)).trans (Beside.set (a := ⟨b, 2, none⟩) _ rfl (.int .i64 (d : Int)))).putNew hbw (Nat.le_refl _) (.int .i64 4) (.int .i64 0) (.string ⟨#[]⟩) (.slice (some ⟨w2.heap.size, 0, none⟩) 1 1)).alloc hbw (.cells #[.int .i64 k, .int .i64 j, .string s, .slice q l c] 27)
  have hRY := ((((hR.put4 (w.heap.size + 1) (.int .i64 4) (.int .i64 0) (.string ⟨#[]⟩) (.slice (some ⟨w2.heap.size, 0, none⟩) 1 1) (by omega)).deep d).put4 w.heap.size (.int .i64 4) (.int .i64 0) (.string ⟨#[]⟩) (.slice (some ⟨w2.heap.size, 0, none⟩) 1 1) (Nat.ne_of_lt hbw)).later nY)
  have RY := (((R2.put4 (w.heap.size + 1) (.int .i64 4) (.int .i64 0) (.string ⟨#[]⟩) (.slice (some ⟨w2.heap.size, 0, none⟩) 1 1) (by omega)).other ⟨b, 2, none⟩ (.int .i64 (d : Int)) (Nat.ne_of_gt hbw)).put (.int .i64 4) (.int .i64 0) (.string ⟨#[]⟩) (.slice (some ⟨w2.heap.size, 0, none⟩) 1 1)).alloc (.cells #[.int .i64 k, .int .i64 j, .string s, .slice q l c] 27)
  have nc := fun i x h => new_cell (w := (put4 ((put4 w2 (w.heap.size + 1) (.int .i64 4) (.int .i64 0) (.string ⟨#[]⟩) (.slice (some ⟨w2.heap.size, 0, none⟩) 1 1)).setCell ⟨b, 2, none⟩ (.int .i64 (d : Int))) w.heap.size (.int .i64 4) (.int .i64 0) (.string ⟨#[]⟩) (.slice (some ⟨w2.heap.size, 0, none⟩) 1 1))) (t := 27) #[.int .i64 k, .int .i64 j, .string s, .slice q l c] i x h
  rw [eY] at nc
  have hxY : ∀ x, ExAt (W1.heap.size ≤ ·) w2 (.agg #[.int .i64 k, .int .i64 j, .string s, .slice q l c]) x → ExAt (w.heap.size ≤ ·) ((put4 ((put4 w2 (w.heap.size + 1) (.int .i64 4) (.int .i64 0) (.string ⟨#[]⟩) (.slice (some ⟨w2.heap.size, 0, none⟩) 1 1)).setCell ⟨b, 2, none⟩ (.int .i64 (d : Int))) w.heap.size (.int .i64 4) (.int .i64 0) (.string ⟨#[]⟩) (.slice (some ⟨w2.heap.size, 0, none⟩) 1 1)).alloc (.cells #[.int .i64 k, .int .i64 j, .string s, .slice q l c] 27)) (.agg #[.int .i64 4, .int .i64 0, .string ⟨#[]⟩, .slice (some ⟨w2.heap.size, 0, none⟩) 1 1]) (.neg x) := fun x hx =>
    ⟨w2.heap.size, _, _, _, _, rfl, by omega, nc 0 _ rfl, nc 1 _ rfl, nc 2 _ rfl, nc 3 _ rfl, ((((hx.put (w.heap.size + 1) (.int .i64 4) (.int .i64 0) (.string ⟨#[]⟩) (.slice (some ⟨w2.heap.size, 0, none⟩) 1 1) (fun i hi => by omega)).set ⟨b, 2, none⟩ (.int .i64 (d : Int)) (fun i hi => by show i ≠ b; omega)).put w.heap.size (.int .i64 4) (.int .i64 0) (.string ⟨#[]⟩) (.slice (some ⟨w2.heap.size, 0, none⟩) 1 1) (fun i hi => by omega)).below nY).imp fun i hi _ => by omega⟩
  obtain ⟨y0, y1, y2, y3, _, _, _, _⟩ := RY
  unfold put4 at y0 y1 y2 y3
  refine bodyPost_ret (v := .agg #[.int .i64 4, .int .i64 0, .string ⟨#[]⟩, .slice (some ⟨w2.heap.size, 0, none⟩) 1 1]) (by simp [results, Tryz.results66, go_sem, y0, y1, y2, y3]) rfl ⟨hbY, ?_⟩
  rw [← HR.out]
  cases res with
  | none =>
    obtain rfl : bad = true := hbad
    exact ⟨_, p4, rfl, ⟨_, _, _, _, _, _, rfl⟩, hRY⟩
  | some r =>
    obtain ⟨x, s'⟩ := r
    obtain rfl : bad = false := hbad
    obtain ⟨_, p5, e, hx, hR5, hq⟩ := hE
    cases e
    have : p5 = p4 := RR.same hR5 hR
    subst this
    exact ⟨_, p5, rfl, hxY x hx, hRY, hq⟩

def brP (P : Rd) : Rd := fun s => match P s with
  | none => none
  | some (x, s1) => if (tookP s1 [41]).2 then some (x, (tookP s1 [41]).1) else none

set_option maxHeartbeats 4000000 in
set_option maxRecDepth 20000 in
theorem inner_br (S : Bs) (hl : S.length ≤ 35184372088832) (b d : Nat) (hd : d < 12) (P : Rd) (hp : TwoOk S b (d + 1) 0 P) : InnerOk S b d true (brP P) := by
  intro w p h
  obtain ⟨out, hout⟩ : ∃ out, out = brP P (S.drop p) := ⟨_, rfl⟩
  rw [← hout]
  have HO : Hid (out = brP P (S.drop p)) := hout
  clear hout
  have hbw := h.lt
  have n0 := below_new w (.cells #[.int .i64 0, .int .i64 0, .string ⟨#[]⟩, .slice none 0 0] 27)
  have I := in_of h
  have C := hp _ p I.rr
  have h0 := h.later n0
  have hdI : ¬ (12 : Int) ≤ (d : Int) := by omega
  go_enter Tryz.func66, Tryz.ntmps66
  obtain ⟨c0, c1, c2, c3, f0, f1, f2, f3, le⟩ := id h0
  have hl0 := h0.lt
  go_wp2_with fail
  obtain ⟨W1, hW1⟩ : ∃ W, W = (((w.setCell ⟨b, 2, none⟩ (.int .i64 ((d : Int) + 1))).alloc (.cells #[.int .i64 0, .int .i64 0, .string ⟨#[]⟩, .slice none 0 0] 27)).alloc (.cells #[.int .i64 0, .int .i64 0, .string ⟨#[]⟩, .slice none 0 0] 27)) := ⟨_, rfl⟩
  rw [← hW1] at I C ⊢
  clear hW1 c0 c1 c2 c3 f0 f1 f2 f3 n0 h0 hl0
  refine C.mono ?_
  rintro e w2 ⟨hb2, hE⟩
  obtain ⟨k, j, s, q, l, c, rfl⟩ := hE.form
  have hsz := I.size
  have R2 := I.res.beside hb2 (Nat.ne_of_gt hbw)
  have X2 := I.x.beside hb2 (by omega)
  have hbr := I.beside.trans hb2
  obtain ⟨x0, x1, x2, x3, g0, g1, g2, g3⟩ := id X2
  have hlX := X2.lt
  clear C
  obtain ⟨res, hres⟩ : ∃ res, res = P (S.drop p) := ⟨_, rfl⟩
  rw [← hres] at hE
  have HR : Hid (res = P (S.drop p)) := hres
  clear hres
  obtain ⟨bad, p4, hbad, hR⟩ : ∃ (bad : Bool) (p4 : Nat), (bad = res.isNone) ∧ RR w2 b S p4 (d + 1) bad := by
    cases res with
    | none => obtain ⟨_, p4, _, _, hR⟩ := hE; exact ⟨true, p4, rfl, hR⟩
    | some r => obtain ⟨x, s⟩ := r; obtain ⟨_, p4, _, _, hR, _⟩ := hE; exact ⟨false, p4, rfl, hR⟩
  have hlb := hR.lt
  go_wp2_with fail
  have hR3 := hR.put4 (w.heap.size + 1) (.int .i64 k) (.int .i64 j) (.string s) (.slice q l c) (by omega)
  have R3 := R2.put4 (w.heap.size + 1) (.int .i64 k) (.int .i64 j) (.string s) (.slice q l c) (by omega)
  have X3 := X2.put (.int .i64 k) (.int .i64 j) (.string s) (.slice q l c)
  have hb3 := hbr.putNew hbw (k := w.heap.size + 1) (by omega) (.int .i64 k) (.int .i64 j) (.string s) (.slice q l c)
  have hE3 := hE.put (R := w.heap.size + 1) (by omega) (by omega) (.int .i64 k) (.int .i64 j) (.string s) (.slice q l c)
  have hs3 : W1.heap.size ≤ (put4 w2 (w.heap.size + 1) (.int .i64 k) (.int .i64 j) (.string s) (.slice q l c)).heap.size := by rw [put4_size]; exact hb2.size
  have IS := is_any b S hl [41] (by simp) p4 (d + 1) bad _ hR3
  rw [show bs [41] = ⟨#[41]⟩ from rfl] at IS
  clear x0 x1 x2 x3 g0 g1 g2 g3 R2 X2 hbr hR hE hlX hlb hb2
  unfold put4 at hR3 R3 X3 hb3 hE3 IS hs3
  generalize (((w2.setCell ⟨w.heap.size + 1, 0, none⟩ (.int .i64 k)).setCell ⟨w.heap.size + 1, 1, none⟩ (.int .i64 j)).setCell ⟨w.heap.size + 1, 2, none⟩ (.string s)).setCell ⟨w.heap.size + 1, 3, none⟩ (.slice q l c) = W3 at *
  refine IS.mono ?_
  rintro e w4 ⟨rfl, hb4, p5, hR4, hq5⟩
  clear IS
  have X4 := X3.beside hb4 (by omega)
  have R4 := R3.beside hb4 (by omega)
  have hb5 := hb3.trans hb4
  have HT : Hid (∀ x s1, res = some (x, s1) → s1 = S.drop p4 ∧ ExAt (W1.heap.size ≤ ·) w4 (.agg #[.int .i64 k, .int .i64 j, .string s, .slice q l c]) x) := fun x s1 e => by
    rw [e] at hE3
    obtain ⟨_, p6, e', hx, hR6, hq6⟩ := hE3
    cases e'
    obtain rfl := RR.same hR6 hR3
    exact ⟨hq6.symm, hx.beside hb4 (fun i hi => by omega)⟩
  clear R3 X3 hb3 hE3 hR3 hb4
  obtain ⟨x0, x1, x2, x3, _, _, _, _⟩ := id X4
  obtain ⟨r0, r1, r2, r3, k0, k1, k2, k3⟩ := id R4
  have hlR := R4.lt
  obtain ⟨c0, c1, c2, c3, f0, f1, f2, f3, _⟩ := id hR4
  rw [show ((d + 1 : Nat) : Int) = (d : Int) + 1 by omega] at c2
  have hlb := hR4.lt
  have hd2 : (d : Int) + 1 - 1 = (d : Int) := by omega
  obtain ⟨tk, htk⟩ : ∃ tk, tk = tookP (S.drop p4) [41] := ⟨_, rfl⟩
  have HK : Hid (tk = tookP (S.drop p4) [41]) := htk
  rw [← htk] at hq5 ⊢
  clear htk
  obtain ⟨s1, t1⟩ := tk
  cases t1 with
  | true =>
    go_wp2_with fail
    have F := inner_end (k := k) (n := j) (t := s) (z := q) (l := l) (m := c) hbw hb5 hR4 R4
    obtain ⟨hbF, hRF, y0, y1, y2, y3, _, _, _, _⟩ := F
    unfold put4 at y0 y1 y2 y3
    refine bodyPost_ret (v := .agg #[.int .i64 k, .int .i64 j, .string s, .slice q l c]) (by simp [results, Tryz.results66, go_sem, y0, y1, y2, y3]) rfl ⟨hbF, ?_⟩
    rw [HO.out]
    unfold brP
    rw [← HR.out]
    cases res with
    | none =>
      obtain rfl : bad = true := hbad
      exact ⟨_, p5, rfl, ⟨_, _, _, _, _, _, rfl⟩, hRF⟩
    | some r =>
      obtain ⟨x, s2⟩ := r
      obtain rfl : bad = false := hbad
      obtain ⟨e2, hx⟩ := HT.out x s2 rfl
      simp only [e2, ← HK.out]
      rw [if_pos trivial]
      exact ⟨_, p5, rfl, ((hx.set ⟨b, 2, none⟩ (.int .i64 (d : Int)) (fun i hi => by show i ≠ b; omega)).put w.heap.size (.int .i64 k) (.int .i64 j) (.string s) (.slice q l c) (fun i hi => by omega)).imp fun i hi _ => by omega, hRF, hq5⟩
  | false =>
    have hR5 := hR4.spoil
    have hb6 := hb5.trans (Beside.set (a := ⟨b, 3, none⟩) w4 rfl (.bool true))
    have R5 := R4.other ⟨b, 3, none⟩ (.bool true) (Nat.ne_of_gt hbw)
    go_wp2_with fail
    have F := inner_end (k := k) (n := j) (t := s) (z := q) (l := l) (m := c) hbw hb6 hR5 R5
    obtain ⟨hbF, hRF, y0, y1, y2, y3, _, _, _, _⟩ := F
    unfold put4 at y0 y1 y2 y3
    refine bodyPost_ret (v := .agg #[.int .i64 k, .int .i64 j, .string s, .slice q l c]) (by simp [results, Tryz.results66, go_sem, y0, y1, y2, y3]) rfl ⟨hbF, ?_⟩
    rw [HO.out]
    unfold brP
    rw [← HR.out]
    cases res with
    | none => exact ⟨_, p5, rfl, ⟨_, _, _, _, _, _, rfl⟩, hRF⟩
    | some r =>
      obtain ⟨x, s2⟩ := r
      obtain ⟨e2, hx⟩ := HT.out x s2 rfl
      simp only [e2, ← HK.out]
      rw [if_neg (by simp)]
      exact ⟨_, p5, rfl, ⟨_, _, _, _, _, _, rfl⟩, hRF⟩
end Go.Proofs.YtopfnfmglnjljaaGreatDoor.Rf

namespace Go.Proofs.YtopfnfmglnjljaaGreatDoor.Rf
open Go.Proofs.YtopfnfmglnjljaaGreatDoor
open Go.ChangeShapes Go.WideShapes Go.ChangeAt Go.RowKit
set_option linter.unusedVariables false
set_option linter.unusedSimpArgs false

def oneG3 : Rd := fun s => if (tookP s [46]).2 then some (.here, (tookP s [46]).1) else rleafP (tookP s [46]).1
def oneG2 (PN : Rd) : Rd := fun s => if (tookP s [45]).2 then PN (tookP s [45]).1 else oneG3 (tookP s [45]).1
def oneG (PB PN : Rd) : Rd := fun s => if (tookP s [40]).2 then PB (tookP s [40]).1 else oneG2 PN (tookP s [40]).1

theorem one_end {w w' : World} {b d n : Nat} {S : Bs} {k j : Int} {s : ByteArray} {q : Option Addr} {l c : Nat} {r : Option (Ex × Bs)} (hbw : b < w.heap.size) (hb : Beside b w w') (R : Blk w' w.heap.size (.int .i64 0) (.int .i64 0) (.string ⟨#[]⟩) (.slice none 0 0)) (hn : w.heap.size < n)
    (hE : RRead n b d S w' (.returned (.agg #[.int .i64 k, .int .i64 j, .string s, .slice q l c])) r) :
    (Beside b w (put4 w' w.heap.size (.int .i64 k) (.int .i64 j) (.string s) (.slice q l c)) ∧ RRead w.heap.size b d S (put4 w' w.heap.size (.int .i64 k) (.int .i64 j) (.string s) (.slice q l c)) (.returned (.agg #[.int .i64 k, .int .i64 j, .string s, .slice q l c])) r) ∧
      Blk (put4 w' w.heap.size (.int .i64 k) (.int .i64 j) (.string s) (.slice q l c)) w.heap.size (.int .i64 k) (.int .i64 j) (.string s) (.slice q l c) :=
  ⟨⟨hb.putNew hbw (Nat.le_refl _) _ _ _ _, (hE.put hn (Nat.ne_of_lt hbw) _ _ _ _).low (Nat.le_of_lt hn)⟩, R.put _ _ _ _⟩

theorem head_at {S : Bs} {q : Nat} {c : UInt8} (h : S[q]? = some c) : headDigit (S.drop q) = digitB c := by
  obtain ⟨hq, e⟩ := List.getElem?_eq_some_iff.1 h
  rw [List.drop_eq_getElem_cons hq, e]
  rfl
theorem head_end {S : Bs} {q : Nat} (h : S.length ≤ q) : headDigit (S.drop q) = false := by
  rw [List.drop_eq_nil_of_le h]; rfl
theorem digit_yes {c : UInt8} (h : digitB c = true) : ∃ dg : Nat, digitI 10 c = dg := by
  have : 48 ≤ c.toNat ∧ c.toNat ≤ 57 := by simpa [digitB] using h
  exact ⟨c.toNat - 48, by unfold digitI rdigit; rw [if_pos this]⟩
theorem digit_no {c : UInt8} (h : digitB c = false) : digitI 10 c = -1 := by
  have : ¬ (48 ≤ c.toNat ∧ c.toNat ≤ 57) := by
    intro h'
    have : digitB c = true := by simpa [digitB] using h'
    rw [this] at h; cases h
  unfold digitI rdigit; rw [if_neg this, if_neg (by simp)]

set_option maxHeartbeats 8000000 in
set_option maxRecDepth 20000 in
theorem one_ok (S : Bs) (hl : S.length ≤ 35184372088832) (b d : Nat) (PB PN : Rd) (hB : InnerOk S b d true PB) (hN : InnerOk S b d false PN) : OneOk S b d (oneG PB PN) := by
  intro w p h
  obtain ⟨out, hout⟩ : ∃ out, out = oneG PB PN (S.drop p) := ⟨_, rfl⟩
  rw [← hout]
  have HO : Hid (out = oneG PB PN (S.drop p)) := hout
  clear hout
  have n0 := below_new w (.cells #[.int .i64 0, .int .i64 0, .string ⟨#[]⟩, .slice none 0 0] 27)
  have R0 := Blk.new w 27 (.int .i64 0) (.int .i64 0) (.string ⟨#[]⟩) (.slice none 0 0)
  have hbw := h.lt
  have h0 := h.later n0
  have hb0 := Beside.of n0 hbw
  have hsz0 : w.heap.size < (w.alloc (.cells #[.int .i64 0, .int .i64 0, .string ⟨#[]⟩, .slice none 0 0] 27)).heap.size := R0.lt
  obtain ⟨c0, c1, c2, c3, f0, f1, f2, f3, le⟩ := id h0
  go_enter Tryz.func50, Tryz.ntmps50
  go_wp2_with fail
  generalize w.alloc (.cells #[.int .i64 0, .int .i64 0, .string ⟨#[]⟩, .slice none 0 0] 27) = W0 at *
  clear c0 c1 c2 c3 f0 f1 f2 f3 n0
  have I1 := is_any b S hl [40] (by simp) p d false W0 h0
  rw [show bs [40] = ⟨#[40]⟩ from rfl] at I1
  obtain ⟨tk1, ht1⟩ : ∃ tk, tk = tookP (S.drop p) [40] := ⟨_, rfl⟩
  rw [← ht1] at I1
  have E1 : Hid (tookP (S.drop p) [40] = tk1) := ht1.symm
  clear ht1
  obtain ⟨s1, t1⟩ := tk1
  refine I1.mono ?_
  rintro e w1 ⟨rfl, hb1, p1, hR1, hq1⟩
  have R1 := R0.beside hb1 (Nat.ne_of_gt hbw)
  have hbw1 := hb0.trans hb1
  have hsz1 : w.heap.size < w1.heap.size := R1.lt
  clear I1 hb1 R0 hb0 h0 hsz0
  cases t1 with
  | true =>
    have HE : Hid (out = PB (S.drop p1)) := by rw [Hid, HO.out]; unfold oneG; rw [E1.out, hq1]; rfl
    have C := hB w1 p1 hR1
    clear HO E1 hq1
    go_wp2_with fail
    refine C.mono ?_
    rintro e w2 ⟨hb2, hE⟩
    obtain ⟨k, j, s, q, l, c, rfl⟩ := hE.form
    have R2 := R1.beside hb2 (Nat.ne_of_gt hbw)
    obtain ⟨x0, x1, x2, x3, g0, g1, g2, g3⟩ := id R2
    have hl2 := R2.lt
    have F := one_end hbw (hbw1.trans hb2) R2 hsz1 hE
    clear C
    go_wp2_with fail
    obtain ⟨F1, y0, y1, y2, y3, _, _, _, _⟩ := F
    unfold put4 at y0 y1 y2 y3
    refine bodyPost_ret (v := .agg #[.int .i64 k, .int .i64 j, .string s, .slice q l c]) (by simp [results, Tryz.results50, go_sem, y0, y1, y2, y3]) rfl ?_
    rw [HE.out]
    exact F1
  | false =>
    have HO2 : Hid (out = oneG2 PN (S.drop p1)) := by rw [Hid, HO.out]; unfold oneG; rw [E1.out, hq1]; rfl
    have I2 := is_any b S hl [45] (by simp) p1 d false w1 hR1
    rw [show bs [45] = ⟨#[45]⟩ from rfl] at I2
    obtain ⟨tk2, ht2⟩ : ∃ tk, tk = tookP (S.drop p1) [45] := ⟨_, rfl⟩
    rw [← ht2] at I2
    have E2 : Hid (tookP (S.drop p1) [45] = tk2) := ht2.symm
    clear ht2 HO E1 hq1
    obtain ⟨s2, t2⟩ := tk2
    go_wp2_with fail
    refine I2.mono ?_
    rintro e w2 ⟨rfl, hb2, p2, hR2, hq2⟩
    have R2 := R1.beside hb2 (Nat.ne_of_gt hbw)
    have hbw2 := hbw1.trans hb2
    have hsz2 : w.heap.size < w2.heap.size := R2.lt
    clear I2 hb2 R1 hbw1 hsz1 hR1
    cases t2 with
    | true =>
      have HE : Hid (out = PN (S.drop p2)) := by rw [Hid, HO2.out]; unfold oneG2; rw [E2.out, hq2]; rfl
      have C := hN w2 p2 hR2
      clear HO2 E2 hq2
      go_wp2_with fail
      refine C.mono ?_
      rintro e w3 ⟨hb3, hE⟩
      obtain ⟨k, j, s, q, l, c, rfl⟩ := hE.form
      have R3 := R2.beside hb3 (Nat.ne_of_gt hbw)
      obtain ⟨x0, x1, x2, x3, g0, g1, g2, g3⟩ := id R3
      have hl3 := R3.lt
      have F := one_end hbw (hbw2.trans hb3) R3 hsz2 hE
      clear C
      go_wp2_with fail
      obtain ⟨F1, y0, y1, y2, y3, _, _, _, _⟩ := F
      unfold put4 at y0 y1 y2 y3
      refine bodyPost_ret (v := .agg #[.int .i64 k, .int .i64 j, .string s, .slice q l c]) (by simp [results, Tryz.results50, go_sem, y0, y1, y2, y3]) rfl ?_
      rw [HE.out]
      exact F1
    | false =>
      have HO3 : Hid (out = oneG3 (S.drop p2)) := by rw [Hid, HO2.out]; unfold oneG2; rw [E2.out, hq2]; rfl
      have I3 := is_any b S hl [46] (by simp) p2 d false w2 hR2
      rw [show bs [46] = ⟨#[46]⟩ from rfl] at I3
      obtain ⟨tk3, ht3⟩ : ∃ tk, tk = tookP (S.drop p2) [46] := ⟨_, rfl⟩
      rw [← ht3] at I3
      have E3 : Hid (tookP (S.drop p2) [46] = tk3) := ht3.symm
      clear ht3 HO2 E2 hq2
      obtain ⟨s3, t3⟩ := tk3
      go_wp2_with fail
      refine I3.mono ?_
      rintro e w3 ⟨rfl, hb3, p3, hR3, hq3⟩
      have R3 := R2.beside hb3 (Nat.ne_of_gt hbw)
      have hbw3 := hbw2.trans hb3
      have hsz3 : w.heap.size < w3.heap.size := R3.lt
      clear I3 hb3 R2 hbw2 hsz2 hR2
      cases t3 with
      | true =>
        have HE : Hid (out = some (.here, S.drop p3)) := by rw [Hid, HO3.out]; unfold oneG3; rw [E3.out, hq3]; rfl
        have hE : RRead w3.heap.size b d S w3 (.returned (.agg #[.int .i64 3, .int .i64 0, .string ⟨#[]⟩, .slice none 0 0])) (some (.here, S.drop p3)) := ⟨_, p3, rfl, rfl, hR3, rfl⟩
        obtain ⟨x0, x1, x2, x3, g0, g1, g2, g3⟩ := id R3
        have F := one_end hbw hbw3 R3 hsz3 hE
        clear HO3 E3 hq3
        go_wp2_with fail
        obtain ⟨F1, y0, y1, y2, y3, _, _, _, _⟩ := F
        unfold put4 at y0 y1 y2 y3
        refine bodyPost_ret (v := .agg #[.int .i64 3, .int .i64 0, .string ⟨#[]⟩, .slice none 0 0]) (by simp [results, Tryz.results50, go_sem, y0, y1, y2, y3]) rfl ?_
        rw [HE.out]
        exact F1
      | false =>
        have HO4 : Hid (out = rleafP (S.drop p3)) := by rw [Hid, HO3.out]; unfold oneG3; rw [E3.out, hq3]; rfl
        have I4 := is_any b S hl [48, 120] (by simp) p3 d false w3 hR3
        rw [show bs [48, 120] = ⟨#[48, 120]⟩ from rfl] at I4
        obtain ⟨tk4, ht4⟩ : ∃ tk, tk = tookP (S.drop p3) [48, 120] := ⟨_, rfl⟩
        rw [← ht4] at I4
        have E4 : Hid (tookP (S.drop p3) [48, 120] = tk4) := ht4.symm
        clear ht4 HO3 E3 hq3
        obtain ⟨s4, t4⟩ := tk4
        go_wp2_with fail
        refine I4.mono ?_
        rintro e w4 ⟨rfl, hb4, p4, hR4, hq4⟩
        have R4 := R3.beside hb4 (Nat.ne_of_gt hbw)
        have hbw4 := hbw3.trans hb4
        have hsz4 : w.heap.size < w4.heap.size := R4.lt
        clear I4 hb4 R3 hbw3 hsz3 hR3
        cases t4 with
        | true =>
          have HE : Hid (out = asNum (rnumP 16 (S.drop p4))) := by rw [Hid, HO4.out]; unfold rleafP; rw [E4.out, hq4]; rfl
          have C : Calls Tryz.prog 67 #[.pointer (some ⟨b, 0, none⟩), .int .i64 16] w4 _ := number_any b S hl 16 (.inr rfl) p4 d w4 hR4
          clear HO4 E4 hq4
          go_wp2_with fail
          refine C.mono ?_
          rintro e w5 ⟨hb5, hE⟩
          obtain ⟨k, j, s, q, l, c, rfl⟩ := hE.form
          have R5 := R4.beside hb5 (Nat.ne_of_gt hbw)
          obtain ⟨x0, x1, x2, x3, g0, g1, g2, g3⟩ := id R5
          have hl5 := R5.lt
          have F := one_end hbw (hbw4.trans hb5) R5 hsz4 hE
          clear C
          go_wp2_with fail
          obtain ⟨F1, y0, y1, y2, y3, _, _, _, _⟩ := F
          unfold put4 at y0 y1 y2 y3
          refine bodyPost_ret (v := .agg #[.int .i64 k, .int .i64 j, .string s, .slice q l c]) (by simp [results, Tryz.results50, go_sem, y0, y1, y2, y3]) rfl ?_
          rw [HE.out]
          exact F1
        | false =>
          have HO5 : Hid (out = if headDigit (S.drop p4) then asNum (rnumP 10 (S.drop p4)) else if wordP ((S.drop p4).takeWhile runB) then some (.name ((S.drop p4).takeWhile runB), (S.drop p4).dropWhile runB) else none) := by rw [Hid, HO4.out]; unfold rleafP; rw [E4.out, hq4]; rfl
          obtain ⟨c0, c1, c2, c3, f0, f1, f2, f3, le⟩ := id hR4
          have hlt := hR4.lt
          have hsz := bs_size S
          have D := digit_any 10 (.inl rfl)
          have NU : ∀ (W : World) (h : RR W b S p4 d false), Calls Tryz.prog 67 #[.pointer (some ⟨b, 0, none⟩), .int .i64 10] W _ := fun W h => number_any b S hl 10 (.inl rfl) p4 d W h
          have WO := fun W h => word_any b S hl p4 d W h
          clear HO4 E4 hq4 hB hN
          by_cases hqn : p4 < S.length
          · obtain ⟨c, hc⟩ : ∃ c, S[p4]? = some c := ⟨_, List.getElem?_eq_getElem hqn⟩
            have IX := fun w => index_at S p4 c hc w
            have hI : (p4 : Int) < (S.length : Int) := by omega
            have D1 : ∀ W, Calls Tryz.prog 68 #[.int .u8 c.toNat, .int .i64 10] W fun e w' => e = .returned (.int .i64 (digitI 10 c)) ∧ w' = W := D c
            clear D
            cases hdc : digitB c with
            | true =>
              obtain ⟨dg, hdg⟩ := digit_yes hdc
              rw [hdg] at D1
              have hdI : (0 : Int) ≤ (dg : Int) := by omega
              have HE : Hid (out = asNum (rnumP 10 (S.drop p4))) := by rw [Hid, HO5.out, head_at hc, hdc]; rfl
              clear HO5 WO hdg
              go_wp2_with fail
              go_quiet (first | (go_at_call 68; exact Calls.quiet_of_same (D1 _)))
              clear D1 IX
              have R5 := R4.later (below_drewN w4 nq)
              have hR5 := hR4.later (below_drewN w4 nq)
              have hbw5 := hbw4.trans (Beside.of (below_drewN w4 nq) hlt)
              have hsz5 : w.heap.size < (w4.drewN nq).heap.size := hsz4
              generalize w4.drewN nq = w5 at *
              clear c0 c1 c2 c3 f0 f1 f2 f3 R4 hR4 hbw4
              have C := NU w5 hR5
              go_wp2_with fail
              refine C.mono ?_
              rintro e w6 ⟨hb6, hE⟩
              obtain ⟨k, j, s, q, l, c, rfl⟩ := hE.form
              have R6 := R5.beside hb6 (Nat.ne_of_gt hbw)
              obtain ⟨x0, x1, x2, x3, g0, g1, g2, g3⟩ := id R6
              have hl6 := R6.lt
              have F := one_end hbw (hbw5.trans hb6) R6 hsz5 hE
              clear C NU
              go_wp2_with fail
              obtain ⟨F1, y0, y1, y2, y3, _, _, _, _⟩ := F
              unfold put4 at y0 y1 y2 y3
              refine bodyPost_ret (v := .agg #[.int .i64 k, .int .i64 j, .string s, .slice q l c]) (by simp [results, Tryz.results50, go_sem, y0, y1, y2, y3]) rfl ?_
              rw [HE.out]
              exact F1
            | false =>
              rw [digit_no hdc] at D1
              have HE : Hid (out = if wordP ((S.drop p4).takeWhile runB) then some (.name ((S.drop p4).takeWhile runB), (S.drop p4).dropWhile runB) else none) := by rw [Hid, HO5.out, head_at hc, hdc]; rfl
              clear HO5 NU
              go_wp2_with fail
              go_quiet (first | (go_at_call 68; exact Calls.quiet_of_same (D1 _)))
              clear D1 IX
              have R5 := R4.later (below_drewN w4 nq)
              have hR5 := hR4.later (below_drewN w4 nq)
              have hbw5 := hbw4.trans (Beside.of (below_drewN w4 nq) hlt)
              have hsz5 : w.heap.size < (w4.drewN nq).heap.size := hsz4
              generalize w4.drewN nq = w5 at *
              clear c0 c1 c2 c3 f0 f1 f2 f3 R4 hR4 hbw4
              have C := WO w5 hR5
              rw [← HE.out] at C
              go_wp2_with fail
              refine C.mono ?_
              rintro e w6 ⟨hb6, hE⟩
              obtain ⟨k, j, s, q, l, c, rfl⟩ := hE.form
              have R6 := R5.beside hb6 (Nat.ne_of_gt hbw)
              obtain ⟨x0, x1, x2, x3, g0, g1, g2, g3⟩ := id R6
              have hl6 := R6.lt
              have F := one_end hbw (hbw5.trans hb6) R6 hsz5 hE
              clear C WO
              go_wp2_with fail
              obtain ⟨F1, y0, y1, y2, y3, _, _, _, _⟩ := F
              unfold put4 at y0 y1 y2 y3
              exact bodyPost_ret (v := .agg #[.int .i64 k, .int .i64 j, .string s, .slice q l c]) (by simp [results, Tryz.results50, go_sem, y0, y1, y2, y3]) rfl F1
          · have hI : decide ((p4 : Int) < (S.length : Int)) = false := by simp; omega
            have HE : Hid (out = if wordP ((S.drop p4).takeWhile runB) then some (.name ((S.drop p4).takeWhile runB), (S.drop p4).dropWhile runB) else none) := by rw [Hid, HO5.out, head_end (by omega)]; rfl
            clear HO5 NU D
            go_wp2_with fail
            go_quiet (fail)
            have R5 := R4.later (below_drewN w4 nq)
            have hR5 := hR4.later (below_drewN w4 nq)
            have hbw5 := hbw4.trans (Beside.of (below_drewN w4 nq) hlt)
            have hsz5 : w.heap.size < (w4.drewN nq).heap.size := hsz4
            generalize w4.drewN nq = w5 at *
            clear c0 c1 c2 c3 f0 f1 f2 f3 R4 hR4 hbw4
            have C := WO w5 hR5
            rw [← HE.out] at C
            go_wp2_with fail
            refine C.mono ?_
            rintro e w6 ⟨hb6, hE⟩
            obtain ⟨k, j, s, q, l, c, rfl⟩ := hE.form
            have R6 := R5.beside hb6 (Nat.ne_of_gt hbw)
            obtain ⟨x0, x1, x2, x3, g0, g1, g2, g3⟩ := id R6
            have hl6 := R6.lt
            have F := one_end hbw (hbw5.trans hb6) R6 hsz5 hE
            clear C WO
            go_wp2_with fail
            obtain ⟨F1, y0, y1, y2, y3, _, _, _, _⟩ := F
            unfold put4 at y0 y1 y2 y3
            exact bodyPost_ret (v := .agg #[.int .i64 k, .int .i64 j, .string s, .slice q l c]) (by simp [results, Tryz.results50, go_sem, y0, y1, y2, y3]) rfl F1
end Go.Proofs.YtopfnfmglnjljaaGreatDoor.Rf
