/- The reader in memory: take, number, count, text. -/
import Derived.Test.YtkaclahcpmogaaaGreatDoorExA
import Derived.Test.YtkaclahcpmogaaaGreatDoorFrA
import Derived.Laws.BytesString
import Derived.Laws.BytesArg
import Derived.Laws.IdiomStrings
import Derived.OpenShut
namespace Go.Proofs.YtkaclahcpmogaaaGreatDoor
open Go.ChangeShapes Go.WideShapes Go.ChangeAt Go.RowKit
set_option linter.unusedVariables false
set_option linter.unusedSimpArgs false

/-- These bytes, in a block below L. -/
def BytesAt (L : Nat) (w : World) (v : Value) (l : Bs) : Prop :=
  ∃ p cap, v = .slice p l.length cap ∧ l.length ≤ cap ∧ cap ≤ maxLen ∧ (p = none → cap = 0) ∧ ∀ a, p = some a → ∃ b o, a = ⟨b, o, none⟩ ∧ b < L ∧ ∀ i c, l[i]? = some c → w.cell? ⟨b, o + i, none⟩ = some (.int .u8 c.toNat)

theorem BytesAt.later {L : Nat} {w w' : World} {v : Value} {l : Bs} (h : BytesAt L w v l) (hb : Below L w w') : BytesAt L w' v l := by
  obtain ⟨p, cap, rfl, hc, hm, hn, h⟩ := h
  refine ⟨p, cap, rfl, hc, hm, hn, fun a ha => ?_⟩
  obtain ⟨b, o, e, hl, h2⟩ := h a ha
  exact ⟨b, o, e, hl, fun i c hi => by rw [cell_of_block (hb.block _ hl)]; exact h2 i c hi⟩

theorem BytesAt.mono {L L' : Nat} {w : World} {v : Value} {l : Bs} (h : BytesAt L w v l) (hL : L ≤ L') : BytesAt L' w v l := by
  obtain ⟨p, cap, rfl, hc, hm, hn, h⟩ := h
  refine ⟨p, cap, rfl, hc, hm, hn, fun a ha => ?_⟩
  obtain ⟨b, o, e, hl, h2⟩ := h a ha
  exact ⟨b, o, e, by omega, h2⟩

theorem bytesAt_none (L : Nat) (w : World) : BytesAt L w (.slice none 0 0) [] := ⟨_, 0, rfl, Nat.le_refl _, by unfold maxLen; omega, fun _ => rfl, fun a h => by cases h⟩

/-- The first n of them, with a capacity of n; what is behind them. -/
theorem BytesAt.head {L : Nat} {w : World} {b o cap : Nat} {l : Bs} (h : BytesAt L w (.slice (some ⟨b, o, none⟩) l.length cap) l) (n : Nat) (hn : n ≤ l.length) : BytesAt L w (.slice (some ⟨b, o, none⟩) n n) (l.take n) := by
  obtain ⟨p, cap', e, hc, hm, _, h⟩ := h
  cases e
  obtain ⟨b', o', e, hl, h2⟩ := h _ rfl
  cases e
  have e : (l.take n).length = n := by rw [List.length_take]; omega
  refine ⟨_, n, by rw [e], by omega, by omega, (fun h => by cases h), fun a ha => ?_⟩
  cases ha
  refine ⟨b, o, rfl, hl, fun i c hi => ?_⟩
  rw [List.getElem?_take] at hi
  split at hi
  · exact h2 i c hi
  · cases hi

theorem BytesAt.tail {L : Nat} {w : World} {b o cap : Nat} {l : Bs} (h : BytesAt L w (.slice (some ⟨b, o, none⟩) l.length cap) l) (n : Nat) (hn : n ≤ l.length) : BytesAt L w (.slice (if cap = n then some ⟨b, o, none⟩ else some ⟨b, o + n, none⟩) (l.length - n) (cap - n)) (l.drop n) := by
  obtain ⟨p, cap', e, hc, hm, _, h⟩ := h
  cases e
  obtain ⟨b', o', e, hl, h2⟩ := h _ rfl
  cases e
  have e : (l.drop n).length = l.length - n := List.length_drop
  by_cases hcn : cap = n
  · rw [if_pos hcn]
    refine ⟨_, cap - n, by rw [e], by omega, by omega, (fun h => by cases h), fun a ha => ?_⟩
    cases ha
    refine ⟨b, o, rfl, hl, fun i c hi => ?_⟩
    have := (List.getElem?_eq_some_iff.1 hi).1
    omega
  · rw [if_neg hcn]
    refine ⟨_, cap - n, by rw [e], by omega, by omega, (fun h => by cases h), fun a ha => ?_⟩
    cases ha
    refine ⟨b, o + n, rfl, hl, fun i c hi => ?_⟩
    rw [List.getElem?_drop] at hi
    rw [Nat.add_assoc]
    exact h2 _ c hi

/-- The reader at k; what it reads lies below L. -/
def Rdf (L k : Nat) (w : World) (s : Rs) : Prop := L ≤ k ∧ ∃ v, w.heap[k]? = some (.cells #[v, .bool s.short] 95 (0, 0)) ∧ BytesAt L w v s.left

theorem Rdf.lt {L k : Nat} {w : World} {s : Rs} (h : Rdf L k w s) : k < w.heap.size := by
  obtain ⟨_, v, h, _⟩ := h
  exact (Array.getElem?_eq_some_iff.1 h).1
/-- Where neither the reader's block nor what lies below L is changed. -/
theorem Rdf.later {L k : Nat} {w w' : World} {s : Rs} (h : Rdf L k w s) (hb : Below L w w') (hk : w'.heap[k]? = w.heap[k]?) : Rdf L k w' s := by
  obtain ⟨hL, v, h, hB⟩ := h
  exact ⟨hL, v, by rw [hk]; exact h, hB.later hb⟩
/-- Block k alone is another. -/
structure Just (k : Nat) (w w' : World) : Prop where
  below : Below k w w'
  size : w'.heap.size = w.heap.size
  other : ∀ i, i ≠ k → w'.heap[i]? = w.heap[i]?
theorem Just.refl (k : Nat) (w : World) : Just k w w := ⟨Below.refl _ _, rfl, fun _ _ => rfl⟩
theorem Just.trans {k : Nat} {a b c : World} (h : Just k a b) (g : Just k b c) : Just k a c := ⟨h.below.trans g.below, g.size.trans h.size, fun i hi => (g.other i hi).trans (h.other i hi)⟩
theorem Just.set {k : Nat} {a b : World} (h : Just k a b) (i : Nat) (u : Value) : Just k a (b.setCell ⟨k, i, none⟩ u) :=
  ⟨h.below.setCell (p := ⟨k, i, none⟩) (Nat.le_refl _) u, by simp [World.setCell, h.size], fun j hj => (Below.heap_setCell _ _ _ _ hj).trans (h.other j hj)⟩

theorem Rdf.make {L k : Nat} {w w' : World} {v : Value} {l : Bs} {b : Bool} (hL : L ≤ k) (hk : w'.heap[k]? = some (.cells #[v, .bool b] 95 (0, 0))) (hB : BytesAt L w v l) (hb : Below k w w') : Rdf L k w' ⟨l, b⟩ :=
  ⟨hL, v, hk, hB.later (hb.mono hL)⟩

set_option maxHeartbeats 1600000 in
set_option maxRecDepth 20000 in
theorem take_any (L k n : Nat) (s : Rs) (w : World) (h : Rdf L k w s) (hn : n ≤ 16777216) :
    Calls Tryz.prog 68 #[.pointer (some ⟨k, 0, none⟩), .int .i64 n] w fun e w' => ∃ v, e = .returned v ∧ BytesAt L w' v (takeP n s).1 ∧ Rdf L k w' (takeP n s).2 ∧ Just k w w' := by
  have hlt := h.lt
  obtain ⟨hL, v, hk, hB⟩ := h
  obtain ⟨p, cap, rfl, hc, hm, hnone, hB2⟩ := id hB
  have c0 : w.cell? ⟨k, 0, none⟩ = some (.slice p s.left.length cap) := by rw [Lib.cell_of_heap hk]; rfl
  have c1 : w.cell? ⟨k, 1, none⟩ = some (.bool s.short) := by rw [Lib.cell_of_heap hk]; rfl
  have f0 : w.frozen? ⟨k, 0, none⟩ = false := Lib.frozen_of_heap hk 0
  have f1 : w.frozen? ⟨k, 1, none⟩ = false := Lib.frozen_of_heap hk 1
  unfold takeP
  by_cases hs : s.left.length < n
  · have hsI : (s.left.length : Int) < n := by omega
    rw [if_pos hs]
    go_enter Tryz.func68, Tryz.ntmps68
    go_wp2_with fail
    go_ret
    have hbb : Just k w ((w.setCell ⟨k, 0, none⟩ (.slice none 0 0)).setCell ⟨k, 1, none⟩ (.bool true)) := ((Just.refl _ _).set 0 _).set 1 _
    exact ⟨_, rfl, bytesAt_none _ _, Rdf.make (w := w) hL (by simp [World.setCell, Array.getElem?_modify, hk]) (bytesAt_none _ _) hbb.below, hbb⟩
  · have hsI : ¬ (s.left.length : Int) < n := by omega
    rw [if_neg hs]
    cases p with
    | none =>
      obtain rfl : cap = 0 := hnone rfl
      have hl0 : s.left = [] := List.eq_nil_of_length_eq_zero (by omega)
      obtain rfl : n = 0 := by omega
      rw [hl0] at c0 hB ⊢
      simp only [List.length_nil] at c0 hB
      go_enter Tryz.func68, Tryz.ntmps68
      go_wp2_with fail
      go_ret
      have hbb : Just k w (w.setCell ⟨k, 0, none⟩ (.slice none 0 0)) := (Just.refl _ _).set 0 _
      exact ⟨_, rfl, bytesAt_none _ _, Rdf.make (w := w) hL (by simp [World.setCell, Array.getElem?_modify, hk]) (bytesAt_none _ _) hbb.below, hbb⟩
    | some a =>
      obtain ⟨b, o, rfl, hbL, hcells⟩ := hB2 a rfl
      have hn0 : (0 : Int) ≤ (n : Int) := by omega
      have hn1 : (n : Int) ≤ (s.left.length : Int) := by omega
      have hn2 : (n : Int) ≤ (cap : Int) := by omega
      have hcI : (s.left.length : Int) ≤ (cap : Int) := by omega
      go_enter Tryz.func68, Tryz.ntmps68
      have H1 := hB.head n (by omega)
      have H2 := hB.tail n (by omega)
      have e1 : ((n : Int).toNat) = n := by simp
      go_wp2_with fail
      all_goals
        go_ret
        have hbb : Just k w (w.setCell ⟨k, 0, none⟩ (.slice (if cap = n then some ⟨b, o, none⟩ else some ⟨b, o + n, none⟩) (s.left.length - n) (cap - n))) := (Just.refl _ _).set 0 _
        simp only [*, if_true, if_false, Nat.sub_self] at hbb H2 ⊢
        exact ⟨_, rfl, H1.later (hbb.below.mono hL), Rdf.make (w := w) hL (by simp [World.setCell, Array.getElem?_modify, hk]) H2 hbb.below, hbb⟩

theorem takeP_len (n : Nat) (s : Rs) : (takeP n s).1.length ≤ n := by
  unfold takeP
  split
  · simp
  · simp only [List.length_take]; omega

def intR : Value → Int
  | .int _ n => n
  | _ => 0

set_option maxHeartbeats 1600000 in
set_option maxRecDepth 20000 in
theorem rnumber_any (L k n : Nat) (x : Int) (s : Rs) (w : World) (h : Rdf L k w s) (hn : n ≤ 8) :
    Calls Tryz.prog 48 #[.pointer (some ⟨k, 0, none⟩), .int .i64 n, .int .i64 x] w fun e w' => e = .returned (.int .i64 (numP n s).1) ∧ Rdf L k w' (numP n s).2 ∧ Just k w w' := by
  have C := take_any L k n s w h (by omega)
  have hl := takeP_len n s
  unfold numP
  generalize takeP n s = r at *
  obtain ⟨l, s1⟩ := r
  simp only at C hl ⊢
  go_enter Tryz.func48, Tryz.ntmps48
  go_wp2_with fail
  refine C.mono ?_
  rintro e w1 ⟨v, rfl, hB, hR, hbb⟩
  obtain ⟨p, cap, rfl, hc, hm, hnone, hB2⟩ := hB
  clear C h
  have hlI : (l.length : Int) ≤ 8 := by omega
  go_wp2_with fail
  go_loopw [7, 14] (fun a i wr => ∃ j : Nat, j ≤ l.length ∧ i = .int .i64 j ∧ wr = w1 ∧ ∃ acc, a = .int .i64 acc ∧ Hid ((l.drop j).foldl accN acc = valN l)) (fun _ i _ => l.length - (intR i).toNat)
  case atStart => exact ⟨0, by omega, rfl, rfl, 0, rfl, rfl⟩
  case round =>
    obtain ⟨j, hj, rfl, rfl, acc, rfl, hacc⟩ := hrel
    by_cases hjl : j < l.length
    · obtain ⟨c, hcj⟩ : ∃ c, l[j]? = some c := ⟨_, List.getElem?_eq_getElem hjl⟩
      have hnext : Hid ((l.drop (j + 1)).foldl accN (accN acc c) = valN l) := by
        have := hacc.out
        rw [List.drop_eq_getElem_cons hjl, List.foldl_cons] at this
        have e : l[j] = c := by rw [List.getElem?_eq_getElem hjl] at hcj; exact Option.some.inj hcj
        rw [e] at this
        exact this
      cases p with
      | none => have := hnone rfl; omega
      | some a =>
        obtain ⟨b, o, rfl, hbL, hcells⟩ := hB2 a rfl
        have hcell := hcells j c hcj
        have hcc : (c.toNat : Int) < 256 := by have := c.toNat_lt; omega
        have hc0 : (0 : Int) ≤ (c.toNat : Int) := by omega
        have hjI : (j : Int) < (l.length : Int) := by omega
        clear hacc hB2 hcells
        go_wp2_with fail
        exact ⟨⟨j + 1, by omega, by simp, trivial, accN acc c, rfl, hnext⟩, by simp only [intR]; omega⟩
    · have hjl' : j = l.length := by omega
      subst hjl'
      have hv : acc = valN l := by have := hacc.out; simpa using this
      clear hacc hB2
      subst hv
      have hjI : ¬ (l.length : Int) < (l.length : Int) := by omega
      go_wp2_with fail
      go_ret
      exact ⟨rfl, hR, hbb⟩

theorem acc_step (a : Int) (c : UInt8) (m : Int) (h0 : 0 ≤ a) (h1 : a < m) (hm : m ≤ 65536) : 0 ≤ accN a c ∧ accN a c < m * 256 := by
  have hc := c.toNat_lt
  rw [accN_eq, wrap64_at (by omega) (by omega)]
  omega

theorem valN_bound (l : Bs) (h : l.length ≤ 3) : 0 ≤ valN l ∧ valN l < 16777216 := by
  cases l with
  | nil => exact ⟨Int.le_refl _, by show (0 : Int) < 16777216; omega⟩
  | cons a l =>
    have h1 := acc_step 0 a 1 (by omega) (by omega) (by omega)
    cases l with
    | nil =>
      have e : valN [a] = accN 0 a := by simp only [valN, List.foldl_cons, List.foldl_nil]
      rw [e]; omega
    | cons b l =>
      have h2 := acc_step _ b 256 h1.1 h1.2 (by omega)
      cases l with
      | nil =>
        have e : valN [a, b] = accN (accN 0 a) b := by simp only [valN, List.foldl_cons, List.foldl_nil]
        rw [e]; omega
      | cons c l =>
        have h3 := acc_step _ c 65536 h2.1 h2.2 (by omega)
        cases l with
        | nil =>
          have e : valN [a, b, c] = accN (accN (accN 0 a) b) c := by simp only [valN, List.foldl_cons, List.foldl_nil]
          rw [e]; omega
        | cons d l => simp only [List.length_cons] at h; omega

theorem numP_bound (k : Nat) (s : Rs) (hk : k ≤ 3) : 0 ≤ (numP k s).1 ∧ (numP k s).1 < 16777216 := valN_bound _ (Nat.le_trans (takeP_len k s) hk)

set_option maxHeartbeats 1600000 in
set_option maxRecDepth 20000 in
theorem rcount_any (L k n : Nat) (x : Int) (s : Rs) (w : World) (h : Rdf L k w s) (hn : n ≤ 3) :
    Calls Tryz.prog 69 #[.pointer (some ⟨k, 0, none⟩), .int .i64 n, .int .i64 x] w fun e w' => e = .returned (.int .i64 (countP n s).1) ∧ Rdf L k w' (countP n s).2 ∧ Just k w w' := by
  have C := rnumber_any L k n 0 s w h (by omega)
  have hb := numP_bound n s hn
  unfold countP
  generalize numP n s = r at *
  obtain ⟨m, s1⟩ := r
  simp only at C hb ⊢
  obtain ⟨D, hD⟩ : ∃ D : Int × Rs, D = (if (s1.left.length : Int) < m then (0, ⟨[], true⟩) else (m, s1)) := ⟨_, rfl⟩
  rw [← hD]
  replace hD : ((s1.left.length : Int) < m ∧ D = (0, ⟨[], true⟩)) ∨ (¬ (s1.left.length : Int) < m ∧ D = (m, s1)) := by
    by_cases hs : (s1.left.length : Int) < m
    · rw [if_pos hs] at hD; exact .inl ⟨hs, hD⟩
    · rw [if_neg hs] at hD; exact .inr ⟨hs, hD⟩
  go_enter Tryz.func69, Tryz.ntmps69
  go_wp2_with fail
  refine C.mono ?_
  rintro e w1 ⟨rfl, hR, hbb⟩
  have hlt := hR.lt
  obtain ⟨hL, v, hk, hB⟩ := id hR
  obtain ⟨p, cap, rfl, hc, hm, hnone, hB2⟩ := id hB
  have c0 : w1.cell? ⟨k, 0, none⟩ = some (.slice p s1.left.length cap) := by rw [Lib.cell_of_heap hk]; rfl
  have c1 : w1.cell? ⟨k, 1, none⟩ = some (.bool s1.short) := by rw [Lib.cell_of_heap hk]; rfl
  have f0 : w1.frozen? ⟨k, 0, none⟩ = false := Lib.frozen_of_heap hk 0
  have f1 : w1.frozen? ⟨k, 1, none⟩ = false := Lib.frozen_of_heap hk 1
  clear C h
  rcases hD with ⟨hs, he⟩ | ⟨hs, he⟩
  · subst he
    go_wp2_with fail
    go_ret
    have hb2 : Just k w ((w1.setCell ⟨k, 0, none⟩ (.slice none 0 0)).setCell ⟨k, 1, none⟩ (.bool true)) := (hbb.set 0 _).set 1 _
    exact ⟨rfl, Rdf.make (w := w) hL (by simp [World.setCell, Array.getElem?_modify, hk]) (bytesAt_none _ _) hb2.below, hb2⟩
  · subst he
    go_wp2_with fail
    go_ret
    exact ⟨rfl, hR, hbb⟩

theorem str_of_bytes {L : Nat} {w : World} {v : Value} {l : Bs} (h : BytesAt L w v l) : (convert 23 9 v).run Tryz.prog w = .ok (.string (bs l)) w := by
  obtain ⟨p, cap, rfl, hc, hm, hnone, hB2⟩ := h
  cases p with
  | none =>
    have hl0 : l = [] := List.eq_nil_of_length_eq_zero (by have := hnone rfl; omega)
    subst hl0
    exact run_convert_bytes_nil w 23 5 Tryz.underlying23 Tryz.underlying5 0 cap 9 Tryz.underlying9
  | some a =>
    obtain ⟨b, o, rfl, hbL, hcells⟩ := hB2 a rfl
    refine run_convert_bytes_back w 23 9 5 ⟨b, o, none⟩ cap l Tryz.underlying23 Tryz.underlying5 Tryz.underlying9 (fun j hj => ?_)
    have := hcells j l[j] (List.getElem?_eq_getElem hj)
    rw [← this]
    congr 1
    unfold Addr.add
    split <;> simp_all

set_option maxHeartbeats 1600000 in
set_option maxRecDepth 20000 in
theorem rtext_any (L k n : Nat) (x : ByteArray) (s : Rs) (w : World) (h : Rdf L k w s) (hn : n ≤ 3) :
    Calls Tryz.prog 70 #[.pointer (some ⟨k, 0, none⟩), .int .i64 n, .string x] w fun e w' => e = .returned (.string (bs (textR n s).1)) ∧ Rdf L k w' (textR n s).2 ∧ Just k w w' := by
  have C := rnumber_any L k n 0 s w h (by omega)
  have hb := numP_bound n s hn
  unfold textR
  generalize numP n s = r at *
  obtain ⟨m, s1⟩ := r
  simp only at C hb ⊢
  obtain ⟨m, rfl⟩ : ∃ j : Nat, m = (j : Int) := ⟨m.toNat, by omega⟩
  have D := fun w1 (h1 : Rdf L k w1 s1) => take_any L k m s1 w1 h1 (by omega)
  simp only [Int.toNat_natCast]
  go_enter Tryz.func70, Tryz.ntmps70
  go_wp2_with fail
  refine C.mono ?_
  rintro e w1 ⟨rfl, hR, hbb⟩
  clear C h
  go_wp2_with fail
  refine (D w1 hR).mono ?_
  rintro e w2 ⟨v, rfl, hB, hR2, hb2⟩
  have S := str_of_bytes hB
  obtain ⟨p, cap, rfl, hc, hm, hnone, hB2⟩ := id hB
  clear D
  go_wp2_with fail
  go_ret
  exact ⟨rfl, hR2, hbb.trans hb2⟩
end Go.Proofs.YtkaclahcpmogaaaGreatDoor
