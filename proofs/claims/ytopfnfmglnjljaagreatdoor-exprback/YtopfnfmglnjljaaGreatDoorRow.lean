/- The contract of row: parts with signs between them. -/
import Derived.Test.YtopfnfmglnjljaaGreatDoorBetween
namespace Go.Proofs.YtopfnfmglnjljaaGreatDoor
open Go.ChangeShapes Go.WideShapes Go.ChangeAt Go.RowKit
set_option linter.unusedVariables false
set_option linter.unusedSimpArgs false

/-- What a call that reads answers; what is told is new since n. -/
def Read (n b d : Nat) (W : World) (e : Ending) : Option (Ex × Bs) → Prop
  | none => ∃ v s, e = .returned (.tuple #[v, .bool false]) ∧ Rdr W b s d ∧ Four v
  | some (x, s) => ∃ v, e = .returned (.tuple #[v, .bool true]) ∧ Rdr W b s d ∧ ExAt (n ≤ ·) W v x

/-- The function g reads as p does. -/
def PartOk (b d : Nat) (g : FuncId) (p : Rd) : Prop :=
  ∀ (W : World) (s : Bs), Tab W → Rdr W b s d → s.length ≤ 35184372088832 → Calls Tryz.prog g #[.pointer (some ⟨b, 0, none⟩)] W fun e W' => Beside b W W' ∧ Read W.heap.size b d W' e (p s)

/-- What it leaves is no longer. -/
def Shrinks (p : Rd) : Prop := ∀ s x s', p s = some (x, s') → s'.length ≤ s.length

set_option maxHeartbeats 1600000 in
theorem row_none (b d : Nat) (hg : gtop ≤ b) (g : FuncId) (eg : ∀ args w, (callFunc g args).run Tryz.prog w = .ok (.enter g args) w) (p : Rd) (hp : PartOk b d g p) (v : Value) (ks : List Nat)
    (w : World) (s : Bs) (T : Tab w) (h : Rdr w b s d) (hk : KindsAt b w v ks) (hl : s.length ≤ 35184372088832) (hps : p s = none) :
    Calls Tryz.prog 46 #[.pointer (some ⟨b, 0, none⟩), .func (.func g) #[.pointer (some ⟨b, 0, none⟩)] #[], v] w fun e w' => Beside b w w' ∧ Read w.heap.size b d w' e none := by
  obtain ⟨kb, rfl, hkb, hc⟩ := id hk
  have hb0 := below_new w (.cells #[.int .i64 0, .int .i64 0, .string ⟨#[]⟩, .slice none 0 0] 27)
  have R0 := Blk.new w 27 (.int .i64 0) (.int .i64 0) (.string ⟨#[]⟩) (.slice none 0 0)
  have C := hp _ s (T.later hb0) (h.later hb0) hl
  rw [hps] at C
  have hbw := h.lt
  clear hp hc hk
  go_enter Tryz.func46, Tryz.ntmps46
  go_wp2_with fail
  generalize w.alloc (.cells #[.int .i64 0, .int .i64 0, .string ⟨#[]⟩, .slice none 0 0] 27) = w0 at *
  refine C.mono ?_
  rintro e w1 ⟨hb1, v1, s1, rfl, hR1, k1, n1, t1, p1, l1, m1, rfl⟩
  have R1 := R0.beside hb1 (Nat.ne_of_gt hbw)
  obtain ⟨c0, c1, c2, c3, f0, f1, f2, f3⟩ := id R1
  have hlt := R1.lt
  clear C R0
  go_wp2
  refine wp_loop_rounds 1 ?_
  rw [rounds_succ]
  go_wp2
  have R2 := (R1.put (.int .i64 0) (.int .i64 0) (.string ⟨#[]⟩) (.slice none 0 0)).alloc (.cells #[.int .i64 k1, .int .i64 n1, .string t1, .slice p1 l1 m1] 27)
  obtain ⟨y0, y1, y2, y3, _, _, _, _⟩ := R2
  unfold put4 at y0 y1 y2 y3
  have hb2 := ((((Beside.of hb0 hbw).trans hb1).putNew hbw (Nat.le_refl _) (.int .i64 0) (.int .i64 0) (.string ⟨#[]⟩) (.slice none 0 0)).alloc hbw (.cells #[.int .i64 k1, .int .i64 n1, .string t1, .slice p1 l1 m1] 27))
  exact bodyPost_ret (v := .tuple #[.agg #[.int .i64 0, .int .i64 0, .string ⟨#[]⟩, .slice none 0 0], .bool false]) (by simp [results, Tryz.results46, go_sem, y0, y1, y2, y3]) rfl ⟨hb2, _, s1, rfl, (hR1.put4 _ _ _ _ _ (Nat.ne_of_lt hbw)).later (below_new _ _), _, _, _, _, _, _, rfl⟩

theorem betweenP_shrinks : ∀ (ks : List Nat) (s : Bs), (betweenP ks s).2.length ≤ s.length
  | [], s => Nat.le_refl _
  | k :: ks, s => by
    have hk : (skipP s).length ≤ s.length := List.Sublist.length_le (List.dropWhile_sublist _)
    have h1 : (tookP s (signOf k)).1.length ≤ s.length := by
      unfold tookP Go.Lib.trimPrefix
      simp only
      split
      · rw [List.length_drop]; omega
      · exact hk
    unfold betweenP
    split
    · exact h1
    · exact Nat.le_trans (betweenP_shrinks ks _) h1

theorem signOf_len (k : Nat) : 1 ≤ (signOf k).length := by
  unfold signOf
  repeat (split; · simp)
  simp

theorem betweenP_less : ∀ (ks : List Nat) (s : Bs) (k : Nat), (betweenP ks s).1 = some k → (betweenP ks s).2.length < s.length
  | [], s, k, h => by simp [betweenP] at h
  | k0 :: ks, s, k, h => by
    have hk : (skipP s).length ≤ s.length := List.Sublist.length_le (List.dropWhile_sublist _)
    unfold betweenP at h ⊢
    split
    · rename_i ht
      have hp : Go.Lib.hasPrefix (skipP s) (signOf k0) = true := ht
      have hle : (signOf k0).length ≤ (skipP s).length := by
        unfold Go.Lib.hasPrefix at hp
        exact (List.isPrefixOf_iff_prefix.1 hp).length_le
      have h1 := signOf_len k0
      show (Go.Lib.trimPrefix (skipP s) (signOf k0)).length < _
      unfold Go.Lib.trimPrefix
      rw [if_pos hp, List.length_drop]
      omega
    · rename_i ht
      rw [if_neg ht] at h
      have h1 : (tookP s (signOf k0)).1.length ≤ s.length := by
        unfold tookP Go.Lib.trimPrefix
        simp only
        split
        · rw [List.length_drop]; omega
        · exact hk
      exact Nat.lt_of_lt_of_le (betweenP_less ks _ k h) h1

theorem rowGo_shrinks {p : Rd} (hs : Shrinks p) (ks : List Nat) : ∀ (f : Nat) (x y : Ex) (s s' : Bs), rowGo p ks f x s = some (y, s') → s'.length ≤ s.length
  | 0, _, _, _, _, h => by cases h
  | f + 1, x, y, s, s', h => by
    have hb := betweenP_shrinks ks s
    unfold rowGo at h
    split at h
    · rename_i s1 he
      rw [he] at hb
      cases h
      exact hb
    · rename_i k s1 he
      rw [he] at hb
      split at h
      · cases h
      · rename_i z s2 hz
        have h1 := hs _ _ _ hz
        have h2 := rowGo_shrinks hs ks f _ _ _ _ h
        simp only at hb
        omega

theorem rowP_shrinks {p : Rd} (hs : Shrinks p) (ks : List Nat) : Shrinks (rowP p ks) := by
  intro s x s' h
  unfold rowP at h
  split at h
  · cases h
  · rename_i y s1 hy
    exact Nat.le_trans (rowGo_shrinks hs ks _ _ _ _ _ h) (hs _ _ _ hy)

/-- How much is left, for as long as it goes on. -/
def leftOf (b : Nat) (is : Value) (w : World) : Nat := match is, w.cell? ⟨b, 0, none⟩ with
  | .bool true, some (.string s) => s.size + 1
  | _, _ => 0

theorem leftOf_true {b : Nat} {w : World} {s : Bs} {d : Nat} (h : Rdr w b s d) : leftOf b (.bool true) w = s.length + 1 := by
  unfold leftOf; rw [h.c0]; simp [bs_size]
theorem leftOf_false (b : Nat) (w : World) : leftOf b (.bool false) w = 0 := by
  unfold leftOf; split <;> simp_all

theorem after_round {b : Nat} {w w1 w2 w4 : World} {k4 n4 t4 q4 b0 b1 b2 b3 : Value} {o : Obj} {r0 r1 r2 r3 : Value} (hbw : b < w.heap.size) (hne : w.heap.size < w1.heap.size) (hsz2 : w1.heap.size < w2.heap.size) (hb4 : Beside b w w4)
    (R4 : Blk w4 w.heap.size r0 r1 r2 r3) :
    Beside b w ((put4 (put4 w4 w2.heap.size k4 n4 t4 q4) w1.heap.size b0 b1 b2 b3).alloc o) ∧ Blk ((put4 (put4 w4 w2.heap.size k4 n4 t4 q4) w1.heap.size b0 b1 b2 b3).alloc o) w.heap.size r0 r1 r2 r3 ∧
      (w2.heap.size < w4.heap.size → w1.heap.size < ((put4 (put4 w4 w2.heap.size k4 n4 t4 q4) w1.heap.size b0 b1 b2 b3).alloc o).heap.size) := by
  refine ⟨((hb4.putNew hbw (by omega) _ _ _ _).putNew hbw (by omega) _ _ _ _).alloc hbw _, ((R4.put4 _ _ _ _ _ (by omega)).put4 _ _ _ _ _ (by omega)).alloc _, fun h => ?_⟩
  have e : ((put4 (put4 w4 w2.heap.size k4 n4 t4 q4) w1.heap.size b0 b1 b2 b3).alloc o).heap.size = w4.heap.size + 1 := by
    rw [show ((put4 (put4 w4 w2.heap.size k4 n4 t4 q4) w1.heap.size b0 b1 b2 b3).alloc o).heap.size = (put4 (put4 w4 w2.heap.size k4 n4 t4 q4) w1.heap.size b0 b1 b2 b3).heap.size + 1 by simp, put4_size, put4_size]
  omega

theorem round_ex {w w1 w2 w3 w4 : World} {k n k4 n4 : Int} {t t4 : ByteArray} {q p4 : Option Addr} {l m l4 m4 : Nat} {x y : Ex} (hne : w.heap.size < w1.heap.size) (hsz2 : w1.heap.size < w2.heap.size) (hl4 : w2.heap.size < w4.heap.size) (hsz3 : w2.heap.size < w3.heap.size)
    (hx : ExAt (fun i => (w.heap.size < i ∧ i ≠ w1.heap.size) ∧ i ≠ w2.heap.size) w4 (.agg #[.int .i64 k, .int .i64 n, .string t, .slice q l m]) x) (hy : ExAt (w3.heap.size ≤ ·) w4 (.agg #[.int .i64 k4, .int .i64 n4, .string t4, .slice p4 l4 m4]) y)
    {a0 a1 a2 a3 : Value} (X : Blk w4 w1.heap.size a0 a1 a2 a3) (kk : Nat) :
    Blk ((put4 (put4 w4 w2.heap.size (.int .i64 k4) (.int .i64 n4) (.string t4) (.slice p4 l4 m4)) w1.heap.size (.int .i64 kk) (.int .i64 0) (.string ⟨#[]⟩) (.slice (some ⟨w4.heap.size, 0, none⟩) 2 2)).alloc (.cells #[.int .i64 k, .int .i64 n, .string t, .slice q l m, .int .i64 k4, .int .i64 n4, .string t4, .slice p4 l4 m4] 27))
        w1.heap.size (.int .i64 kk) (.int .i64 0) (.string ⟨#[]⟩) (.slice (some ⟨w4.heap.size, 0, none⟩) 2 2) ∧
      ExAt (fun i => w.heap.size < i ∧ i ≠ w1.heap.size) ((put4 (put4 w4 w2.heap.size (.int .i64 k4) (.int .i64 n4) (.string t4) (.slice p4 l4 m4)) w1.heap.size (.int .i64 kk) (.int .i64 0) (.string ⟨#[]⟩) (.slice (some ⟨w4.heap.size, 0, none⟩) 2 2)).alloc (.cells #[.int .i64 k, .int .i64 n, .string t, .slice q l m, .int .i64 k4, .int .i64 n4, .string t4, .slice p4 l4 m4] 27))
        (.agg #[.int .i64 kk, .int .i64 0, .string ⟨#[]⟩, .slice (some ⟨w4.heap.size, 0, none⟩) 2 2]) (.two kk x y) := by
  refine ⟨((X.put4 _ _ _ _ _ (by omega)).put _ _ _ _).alloc _, ?_⟩
  have hy' := hy.imp (Q := fun i => (w.heap.size < i ∧ i ≠ w1.heap.size) ∧ i ≠ w2.heap.size) (fun i h1 _ => by omega)
  have fx := ((hx.put w2.heap.size (.int .i64 k4) (.int .i64 n4) (.string t4) (.slice p4 l4 m4) (fun i hi => hi.2)).put w1.heap.size (.int .i64 kk) (.int .i64 0) (.string ⟨#[]⟩) (.slice (some ⟨w4.heap.size, 0, none⟩) 2 2) (fun i hi => hi.1.2)).below (below_new _ (.cells #[.int .i64 k, .int .i64 n, .string t, .slice q l m, .int .i64 k4, .int .i64 n4, .string t4, .slice p4 l4 m4] 27))
  have fy := ((hy'.put w2.heap.size (.int .i64 k4) (.int .i64 n4) (.string t4) (.slice p4 l4 m4) (fun i hi => hi.2)).put w1.heap.size (.int .i64 kk) (.int .i64 0) (.string ⟨#[]⟩) (.slice (some ⟨w4.heap.size, 0, none⟩) 2 2) (fun i hi => hi.1.2)).below (below_new _ (.cells #[.int .i64 k, .int .i64 n, .string t, .slice q l m, .int .i64 k4, .int .i64 n4, .string t4, .slice p4 l4 m4] 27))
  have e : (put4 (put4 w4 w2.heap.size (.int .i64 k4) (.int .i64 n4) (.string t4) (.slice p4 l4 m4)) w1.heap.size (.int .i64 kk) (.int .i64 0) (.string ⟨#[]⟩) (.slice (some ⟨w4.heap.size, 0, none⟩) 2 2)).heap.size = w4.heap.size := by rw [put4_size, put4_size]
  have nc := fun i x h => new_cell (w := put4 (put4 w4 w2.heap.size (.int .i64 k4) (.int .i64 n4) (.string t4) (.slice p4 l4 m4)) w1.heap.size (.int .i64 kk) (.int .i64 0) (.string ⟨#[]⟩) (.slice (some ⟨w4.heap.size, 0, none⟩) 2 2)) (t := 27) #[.int .i64 k, .int .i64 n, .string t, .slice q l m, .int .i64 k4, .int .i64 n4, .string t4, .slice p4 l4 m4] i x h
  rw [e] at nc
  refine ⟨w4.heap.size, _, _, _, _, _, _, _, _, rfl, ⟨by omega, by omega⟩, nc 0 _ rfl, nc 1 _ rfl, nc 2 _ rfl, nc 3 _ rfl, nc 4 _ rfl, nc 5 _ rfl, nc 6 _ rfl, nc 7 _ rfl, fx.imp fun i hi _ => hi.1, fy.imp fun i hi _ => hi.1⟩

set_option maxHeartbeats 3200000 in
theorem row_some (b d : Nat) (hg : gtop ≤ b) (g : FuncId) (eg : ∀ args w, (callFunc g args).run Tryz.prog w = .ok (.enter g args) w) (p : Rd) (hp : PartOk b d g p) (hs : Shrinks p) (v : Value) (ks : List Nat) (hr : ∀ k ∈ ks, 5 ≤ k ∧ k ≤ 11) (hm : ks.length ≤ 2)
    (w : World) (s : Bs) (T : Tab w) (h : Rdr w b s d) (hk : KindsAt b w v ks) (hl : s.length ≤ 35184372088832) (x : Ex) (s1 : Bs) (hps : p s = some (x, s1)) :
    Calls Tryz.prog 46 #[.pointer (some ⟨b, 0, none⟩), .func (.func g) #[.pointer (some ⟨b, 0, none⟩)] #[], v] w fun e w' => Beside b w w' ∧ Read w.heap.size b d w' e (rowGo p ks (s1.length + 1) x s1) := by
  obtain ⟨kb, rfl, hkb, hc⟩ := id hk
  have hb0 := below_new w (.cells #[.int .i64 0, .int .i64 0, .string ⟨#[]⟩, .slice none 0 0] 27)
  have R0 := Blk.new w 27 (.int .i64 0) (.int .i64 0) (.string ⟨#[]⟩) (.slice none 0 0)
  have C := hp _ s (T.later hb0) (h.later hb0) hl
  rw [hps] at C
  have hbw := h.lt
  have hs1 := hs _ _ _ hps
  have hw0 : w.heap.size < (w.alloc (.cells #[.int .i64 0, .int .i64 0, .string ⟨#[]⟩, .slice none 0 0] 27)).heap.size := by simp
  clear hc
  go_enter Tryz.func46, Tryz.ntmps46
  go_wp2_with fail
  generalize w.alloc (.cells #[.int .i64 0, .int .i64 0, .string ⟨#[]⟩, .slice none 0 0] 27) = w0 at *
  refine C.mono ?_
  rintro e w1 ⟨hb1, v1, rfl, hR1, hx⟩
  obtain ⟨k1, n1, t1, p1, l1, m1, rfl⟩ := hx.form
  have R1 := R0.beside hb1 (Nat.ne_of_gt hbw)
  have hlt := R1.lt
  have X1 := Blk.new w1 27 (.int .i64 k1) (.int .i64 n1) (.string t1) (.slice p1 l1 m1)
  have hbw1 := (Beside.of hb0 hbw).trans hb1
  have hbX := hbw1.alloc hbw (.cells #[.int .i64 k1, .int .i64 n1, .string t1, .slice p1 l1 m1] 27)
  have hxX := (hx.imp (Q := fun k => w.heap.size < k ∧ k ≠ w1.heap.size) (fun k h1 h2 => ⟨Nat.lt_of_lt_of_le hw0 h1, Nat.ne_of_lt h2⟩)).below (below_new w1 (.cells #[.int .i64 k1, .int .i64 n1, .string t1, .slice p1 l1 m1] 27))
  have hRX := hR1.later (below_new w1 (.cells #[.int .i64 k1, .int .i64 n1, .string t1, .slice p1 l1 m1] 27))
  have RX := R1.alloc (.cells #[.int .i64 k1, .int .i64 n1, .string t1, .slice p1 l1 m1] 27)
  have hne : w.heap.size < w1.heap.size := hlt
  clear C R0 hx hb1 R1 hR1
  go_wp2_with fail
  go_loopw [9] (fun is wr => Beside b w wr ∧ Blk wr w.heap.size (.int .i64 0) (.int .i64 0) (.string ⟨#[]⟩) (.slice none 0 0) ∧ w1.heap.size < wr.heap.size ∧
      ((is = .bool true ∧ ∃ (k n : Int) (t : ByteArray) (q : Option Addr) (l m : Nat) (x' : Ex) (s' : Bs) (f : Nat), Blk wr w1.heap.size (.int .i64 k) (.int .i64 n) (.string t) (.slice q l m) ∧
          ExAt (fun i => w.heap.size < i ∧ i ≠ w1.heap.size) wr (.agg #[.int .i64 k, .int .i64 n, .string t, .slice q l m]) x' ∧ Rdr wr b s' d ∧ s'.length ≤ s.length ∧ s'.length < f ∧ Hid (rowGo p ks f x' s' = rowGo p ks (s1.length + 1) x s1)) ∨
       (is = .bool false ∧ (∃ s', Rdr wr b s' d) ∧ Hid (rowGo p ks (s1.length + 1) x s1 = none)))) (fun is wr => leftOf b is wr)
  case atStart => exact ⟨hbX, RX, by simp, .inl ⟨rfl, k1, n1, t1, p1, l1, m1, x, s1, s1.length + 1, X1, hxX, hRX, hs1, by omega, rfl⟩⟩
  case round =>
    obtain ⟨hb, R, hXl, ⟨rfl, k, n, t, q, l, m, x', s', f, X, hx, hR, hs', hf, he⟩ | ⟨rfl, ⟨s', hR⟩, he⟩⟩ := hrel
    · have B := between_any b _ ks s' d wr hg (T.beside hb hg) hR (hk.beside hb) hr hm
      have hbl := betweenP_less ks s'
      have hbs := betweenP_shrinks ks s'
      obtain ⟨f, rfl⟩ : ∃ f', f = f' + 1 := ⟨f - 1, by omega⟩
      have hst : Hid (rowGo p ks (f + 1) x' s' = match betweenP ks s' with | (none, s1) => some (x', s1) | (some k, s1) => match p s1 with | none => none | some (y, s2) => rowGo p ks f (.two k x' y) s2) := rfl
      generalize betweenP ks s' = br at *
      obtain ⟨bk, s2⟩ := br
      cases bk with
      | none =>
        have heq : Hid (rowGo p ks (s1.length + 1) x s1 = some (x', s2)) := he.out.symm.trans hst.out
        have hlt := R.lt
        go_wp2_with (go_at_call 61; refine B.mono ?_; rintro e w2 ⟨rfl, hb2, hR2⟩; have X2 := X.beside hb2 (by omega); have R2 := R.beside hb2 (by omega); obtain ⟨x0, x1, x2, x3, _, _, _, _⟩ := id X2; obtain ⟨c0, c1, c2, c3, f0, f1, f2, f3⟩ := id R2; have hl2 := R2.lt)
        have R3 := R2.put (.int .i64 k) (.int .i64 n) (.string t) (.slice q l m)
        obtain ⟨y0, y1, y2, y3, _, _, _, _⟩ := R3
        have hx3 := (hx.beside hb2 (fun i hi => by have := hi.1; omega)).put w.heap.size (.int .i64 k) (.int .i64 n) (.string t) (.slice q l m) (fun i hi => Nat.ne_of_gt hi.1)
        have hb3 := (hb.trans hb2).putNew hbw (Nat.le_refl _) (.int .i64 k) (.int .i64 n) (.string t) (.slice q l m)
        have hR3 := hR2.put4 w.heap.size (.int .i64 k) (.int .i64 n) (.string t) (.slice q l m) (Nat.ne_of_lt hbw)
        unfold put4 at y0 y1 y2 y3
        exact bodyPost_ret (v := .tuple #[.agg #[.int .i64 k, .int .i64 n, .string t, .slice q l m], .bool true]) (by simp [results, Tryz.results46, go_sem, y0, y1, y2, y3]) rfl (by
          rw [heq.out]
          exact ⟨hb3, _, rfl, hR3, hx3.imp fun i hi _ => Nat.le_of_lt hi.1⟩)
      | some kk =>
        have hlt := R.lt
        have hs2 : s2.length < s'.length := hbl kk rfl
        go_wp2_with (go_at_call 61; refine B.mono ?_; rintro e w2 ⟨rfl, hb2, hR2⟩)
        have hbn := below_new w2 (.cells #[.int .i64 0, .int .i64 0, .string ⟨#[]⟩, .slice none 0 0] 27)
        have hT2 := ((T.beside hb hg).beside hb2 hg).later hbn
        have C := hp _ s2 hT2 (hR2.later hbn) (by omega)
        have Y2 := Blk.new w2 27 (.int .i64 0) (.int .i64 0) (.string ⟨#[]⟩) (.slice none 0 0)
        have X2 := (X.beside hb2 (by omega)).later hbn
        have R2 := (R.beside hb2 (by omega)).later hbn
        have hx2 := (hx.beside hb2 (fun i hi => by have := hi.1; omega)).below hbn
        have hbw2 := (hb.trans hb2).alloc hbw (.cells #[.int .i64 0, .int .i64 0, .string ⟨#[]⟩, .slice none 0 0] 27)
        have hsz2 : w1.heap.size < w2.heap.size := Nat.lt_of_lt_of_le hXl hb2.size
        have hsz3 : w2.heap.size < (w2.alloc (.cells #[.int .i64 0, .int .i64 0, .string ⟨#[]⟩, .slice none 0 0] 27)).heap.size := by simp
        have hxlt : ∀ i, (w.heap.size < i ∧ i ≠ w1.heap.size) → i < w2.heap.size → i ≠ w2.heap.size := fun i _ h => Nat.ne_of_lt h
        have hx2' := (hx.beside hb2 (fun i hi => by have := hi.1; omega)).imp (Q := fun i => (w.heap.size < i ∧ i ≠ w1.heap.size) ∧ i ≠ w2.heap.size) (fun i h1 h2 => ⟨h1, Nat.ne_of_lt h2⟩)
        replace hx2 := hx2'.below hbn
        have hleft : Hid (leftOf b (.bool true) wr = s'.length + 1) := leftOf_true hR
        clear hx2' hxlt B X R hx hR hb hb2 hR2 hT2 hbn
        generalize w2.alloc (.cells #[.int .i64 0, .int .i64 0, .string ⟨#[]⟩, .slice none 0 0] 27) = w3 at *
        cases hpp : p s2 with
        | none =>
          rw [hpp] at C
          have heq : Hid (rowGo p ks (s1.length + 1) x s1 = none) := by
            have h2 := he.out.symm.trans hst.out
            simp only [hpp] at h2
            exact h2
          clear hst he
          refine C.mono ?_
          rintro e w4 ⟨hb4, v4, s4, rfl, hR4, k4, n4, t4, p4, l4, m4, rfl⟩
          have X4 := X2.beside hb4 (by omega)
          have R4 := R2.beside hb4 (by omega)
          have Y4 := Y2.beside hb4 (by omega)
          obtain ⟨x0, x1, x2, x3, g0, g1, g2, g3⟩ := id X4
          obtain ⟨y0, y1, y2, y3, f0, f1, f2, f3⟩ := id Y4
          have hl4 := Y4.lt
          have hl5 := X4.lt
          clear C X2 R2 Y2
          go_wp2
          go_roundw
          case rel => exact have hF := after_round (k4 := .int .i64 k4) (n4 := .int .i64 n4) (t4 := .string t4) (q4 := .slice p4 l4 m4) hbw hne hsz2 (hbw2.trans hb4) R4; ⟨hF.1, hF.2.1, hF.2.2 hl4, .inr ⟨rfl, ⟨s4, ((hR4.put4 w2.heap.size _ _ _ _ (by omega)).put4 w1.heap.size _ _ _ _ (by omega)).later (below_new _ _)⟩, heq⟩⟩
          case measure => rw [leftOf_false, hleft.out]; omega
        | some r =>
          obtain ⟨y, s3⟩ := r
          rw [hpp] at C
          have hs3 := hs _ _ _ hpp
          have heq : Hid (rowGo p ks f (.two kk x' y) s3 = rowGo p ks (s1.length + 1) x s1) := by
            have h2 := he.out.symm.trans hst.out
            simp only [hpp] at h2
            exact h2.symm
          clear hst he
          refine C.mono ?_
          rintro e w4 ⟨hb4, v4, rfl, hR4, hy4⟩
          obtain ⟨k4, n4, t4, p4, l4, m4, rfl⟩ := hy4.form
          have X4 := X2.beside hb4 (by omega)
          have R4 := R2.beside hb4 (by omega)
          have Y4 := Y2.beside hb4 (by omega)
          have hx4 := hx2.beside hb4 (fun i hi => by have := hi.1.1; omega)
          obtain ⟨x0, x1, x2, x3, g0, g1, g2, g3⟩ := id X4
          obtain ⟨y0, y1, y2, y3, f0, f1, f2, f3⟩ := id Y4
          have hl4 := Y4.lt
          have hl5 := X4.lt
          clear C X2 R2 Y2 hx2
          go_wp2
          have hF := after_round (o := .cells #[.int .i64 k, .int .i64 n, .string t, .slice q l m, .int .i64 k4, .int .i64 n4, .string t4, .slice p4 l4 m4] 27) (k4 := .int .i64 k4) (n4 := .int .i64 n4) (t4 := .string t4) (q4 := .slice p4 l4 m4) (b0 := .int .i64 kk) (b1 := .int .i64 0) (b2 := .string ⟨#[]⟩) (b3 := .slice (some ⟨w4.heap.size, 0, none⟩) 2 2) hbw hne hsz2 (hbw2.trans hb4) R4
          have hE := round_ex hne hsz2 hl4 hsz3 hx4 hy4 X4 kk
          have hRR := ((hR4.put4 w2.heap.size (.int .i64 k4) (.int .i64 n4) (.string t4) (.slice p4 l4 m4) (by omega)).put4 w1.heap.size (.int .i64 kk) (.int .i64 0) (.string ⟨#[]⟩) (.slice (some ⟨w4.heap.size, 0, none⟩) 2 2) (by omega)).later (below_new _ (.cells #[.int .i64 k, .int .i64 n, .string t, .slice q l m, .int .i64 k4, .int .i64 n4, .string t4, .slice p4 l4 m4] 27))
          go_roundw
          case rel => exact ⟨hF.1, hF.2.1, hF.2.2 hl4, .inl ⟨rfl, _, _, _, _, _, _, .two kk x' y, s3, f, hE.1, hE.2, hRR, by omega, by omega, heq⟩⟩
          case measure => rw [hleft.out]; exact Nat.lt_of_le_of_lt (Nat.le_of_eq (leftOf_true hRR)) (by omega)
    · obtain ⟨c0, c1, c2, c3, f0, f1, f2, f3⟩ := id R
      have hlt := R.lt
      go_wp2
      have R3 := R.put (.int .i64 0) (.int .i64 0) (.string ⟨#[]⟩) (.slice none 0 0)
      obtain ⟨y0, y1, y2, y3, _, _, _, _⟩ := R3
      have hb3 := hb.putNew hbw (Nat.le_refl _) (.int .i64 0) (.int .i64 0) (.string ⟨#[]⟩) (.slice none 0 0)
      unfold put4 at y0 y1 y2 y3
      exact bodyPost_ret (v := .tuple #[.agg #[.int .i64 0, .int .i64 0, .string ⟨#[]⟩, .slice none 0 0], .bool false]) (by simp [results, Tryz.results46, go_sem, y0, y1, y2, y3]) rfl (by
          rw [he.out]
          exact ⟨hb3, _, s', rfl, hR.put4 _ _ _ _ _ (Nat.ne_of_lt hbw), _, _, _, _, _, _, rfl⟩)

theorem row_any (b d : Nat) (hg : gtop ≤ b) (g : FuncId) (eg : ∀ args w, (callFunc g args).run Tryz.prog w = .ok (.enter g args) w) (p : Rd) (hp : PartOk b d g p) (hs : Shrinks p) (v : Value) (ks : List Nat) (hr : ∀ k ∈ ks, 5 ≤ k ∧ k ≤ 11) (hm : ks.length ≤ 2)
    (w : World) (s : Bs) (T : Tab w) (h : Rdr w b s d) (hk : KindsAt b w v ks) (hl : s.length ≤ 35184372088832) :
    Calls Tryz.prog 46 #[.pointer (some ⟨b, 0, none⟩), .func (.func g) #[.pointer (some ⟨b, 0, none⟩)] #[], v] w fun e w' => Beside b w w' ∧ Read w.heap.size b d w' e (rowP p ks s) := by
  unfold rowP
  cases hps : p s with
  | none => exact row_none b d hg g eg p hp v ks w s T h hk hl hps
  | some r => exact row_some b d hg g eg p hp hs v ks hr hm w s T h hk hl r.1 r.2 hps
end Go.Proofs.YtopfnfmglnjljaaGreatDoor
