/- frame.Request, frame.ReadRequest. -/
import Derived.Test.YtkaclahcpmogaaaGreatDoorFrH
import Derived.Test.YtkaclahcpmogaaaGreatDoorFrI
namespace Go.Proofs.YtkaclahcpmogaaaGreatDoor
open Go.ChangeShapes Go.WideShapes Go.ChangeAt Go.RowKit
set_option linter.unusedVariables false
set_option linter.unusedSimpArgs false

theorem own_low {w : World} {B B' : Nat} {e : TypeId} {k : Nat} {v : Value} {n : Nat} {xs : List Value} (h : w.ownsRow B e k v n xs) (hB : B' ≤ B) : w.ownsRow B' e k v n xs := by
  refine ⟨h.1, ?_⟩
  rcases h.2 with hn | ⟨g, cap, cur, h1, h2, h3⟩
  · exact .inl hn
  · exact .inr ⟨g, cap, cur, h1, by omega, h3⟩

/-- Bytes that stand in a row of their own. -/
def Own (B : Nat) (w : World) (v : Value) (l : Bs) : Prop := w.ownsRow B 5 1 v l.length (Lib.byteCells l)

theorem byteCells_get (l : Bs) (i : Nat) (c : UInt8) (h : l[i]? = some c) : (Lib.byteCells l)[i]? = some (.int .u8 c.toNat) := by
  unfold Lib.byteCells
  rw [List.getElem?_map, h]
  rfl

theorem Own.bytes {B L : Nat} {w : World} {v : Value} {l : Bs} (h : Own B w v l) (hL : w.heap.size ≤ L) : BytesAt L w v l := by
  rcases h.2 with ⟨rfl, h0⟩ | ⟨g, cap, cur, rfl, h1, h2, h3, h4, h5, h6⟩
  · rw [List.eq_nil_of_length_eq_zero h0]; exact bytesAt_none _ _
  · have hgl := (Array.getElem?_eq_some_iff.1 h2).1
    refine ⟨_, cap, rfl, h3, h4, (fun h => by cases h), fun a ha => ?_⟩
    cases ha
    refine ⟨g, 0, rfl, by omega, fun i c hi => ?_⟩
    have hil := (List.getElem?_eq_some_iff.1 hi).1
    have := byteCells_get l i c hi
    rw [← h6, List.getElem?_take, if_pos (by omega), Array.getElem?_toList] at this
    rw [Lib.cell_of_heap h2, Nat.zero_add]
    exact this

theorem Own.later {B : Nat} {w w' : World} {v : Value} {l : Bs} (h : Own B w v l) (hb : Below w.heap.size w w') : Own B w' v l := by
  refine ⟨h.1, ?_⟩
  rcases h.2 with hn | ⟨g, cap, cur, h1, h2, h3, h4⟩
  · exact .inl hn
  · exact .inr ⟨g, cap, cur, h1, h2, (hb.block g (Array.getElem?_eq_some_iff.1 h3).1).trans h3, h4⟩

set_option maxHeartbeats 1600000 in
set_option maxRecDepth 20000 in
theorem request_any (r : Rq) (hr : rightP r = true) (w : World) (T : Tab w) :
    Calls Tryz.prog 13 #[rqVal r] w fun e w' => ∃ v, e = .returned v ∧ Own w.heap.size w' v (headed 2 (reqB r)) ∧ Below w.heap.size w w' := by
  obtain ⟨hf, hn, ht⟩ := right_fits hr
  have hb0 := below_new w (.cells #[.int .i64 r.kind, .string (bs r.name), .string (bs r.text), .int .i64 r.value] 27)
  have R := right_gen r (by omega) (by omega) _ (T.later hb0)
  have hs0 : (w.alloc (.cells #[.int .i64 r.kind, .string (bs r.name), .string (bs r.text), .int .i64 r.value] 27)).heap.size = w.heap.size + 1 := by simp
  rw [hr] at R
  unfold rqVal at *
  go_enter Tryz.func13, Tryz.ntmps13
  go_wp2_with fail
  refine R.mono ?_
  rintro e w1 ⟨rfl, hb1⟩
  have a0 := kept_cell hb1 (new_cell (w := w) (t := 27) #[.int .i64 r.kind, .string (bs r.name), .string (bs r.text), .int .i64 r.value] 0 _ rfl)
  have a1 := kept_cell hb1 (new_cell (w := w) (t := 27) #[.int .i64 r.kind, .string (bs r.name), .string (bs r.text), .int .i64 r.value] 1 _ rfl)
  have a2 := kept_cell hb1 (new_cell (w := w) (t := 27) #[.int .i64 r.kind, .string (bs r.name), .string (bs r.text), .int .i64 r.value] 2 _ rfl)
  have a3 := kept_cell hb1 (new_cell (w := w) (t := 27) #[.int .i64 r.kind, .string (bs r.name), .string (bs r.text), .int .i64 r.value] 3 _ rfl)
  have B1 := hb0.trans (hb1.mono hb0.size)
  clear R hb0 hb1 hs0
  go_wp2_with fail
  have hb2 := below_new w1 (.cells #[.int .i64 r.kind, .string (bs r.name), .string (bs r.text), .int .i64 r.value] 61)
  refine (framed_req w1.heap.size r _ (by simp) (heap_alloc_new w1 _) (by omega) (by omega)).mono ?_
  rintro e w3 ⟨v, rfl, hO, hb3⟩
  have B3 : Below w.heap.size w w3 := (B1.trans (hb2.mono B1.size)).trans (hb3.mono B1.size)
  obtain ⟨p, cap, rfl⟩ := row_slice hO
  have hO2 := own_low hO (B' := w.heap.size) (by have := B1.size; simp; omega)
  clear hO
  go_wp2_with fail
  go_ret
  exact ⟨_, rfl, hO2, B3⟩

theorem takeP_le (n : Nat) (s : Rs) : (takeP n s).1.length ≤ s.left.length ∧ (takeP n s).2.left.length ≤ s.left.length := by
  unfold takeP
  split
  · simp
  · simp only [List.length_take, List.length_drop]; omega
theorem textR_le (n : Nat) (s : Rs) : (textR n s).1.length ≤ s.left.length ∧ (textR n s).2.left.length ≤ s.left.length := by
  unfold textR
  have h1 := takeP_le n s
  have h2 := takeP_le (numP n s).1.toNat (numP n s).2
  unfold numP at *
  simp only at *
  omega
theorem reqR_le (s : Rs) : (reqR s).1.name.length ≤ s.left.length ∧ (reqR s).1.text.length ≤ s.left.length := by
  have h1 : (numP 1 s).2.left.length ≤ s.left.length := (takeP_le 1 s).2
  have h2 := textR_le 1 (numP 1 s).2
  have h3 := textR_le 2 (textR 1 (numP 1 s).2).2
  unfold reqR
  split
  · simp only; omega
  · split
    · simp only [List.length_nil]; omega
    · simp only [List.length_nil]; omega

set_option maxHeartbeats 1600000 in
set_option maxRecDepth 100000 in
theorem readReq_any (v : Value) (b : Bs) (w : World) (T : Tab w) (hB : BytesAt w.heap.size w v b) :
    Calls Tryz.prog 14 #[v] w fun e w' => e = .returned (.tuple #[rqVal (readReqP b).1, .int .i64 (readReqP b).2.1, .int .i64 (readReqP b).2.2]) ∧ Below w.heap.size w w' := by
  have hb0 := below_new w (.cells #[.int .i64 0, .string (bs []), .string (bs []), .int .i64 0] 27)
  have O := opened_any w.heap.size 2 v b _ (hB.later hb0) (by simp) (by omega)
  have hnb := numP_bound 2 ⟨b, false⟩ (by omega)
  obtain ⟨A, hA⟩ : ∃ A, readReqP b = A := ⟨_, rfl⟩
  rw [hA]
  unfold readReqP at hA
  generalize numP 2 ⟨b, false⟩ = r at *
  obtain ⟨n, left, short⟩ := r
  simp only at O hnb hA
  obtain ⟨m, rfl⟩ : ∃ m : Nat, n = m := ⟨n.toNat, by omega⟩
  simp only [Int.toNat_natCast] at hA
  have F := fun x W v b (hB : BytesAt x W v b) X => filled_req x v b W hB X
  replace hA : Hid _ := hA
  go_enter Tryz.func14, Tryz.ntmps14
  go_wp2_with fail
  refine O.mono ?_
  rintro e w1 ⟨v', rfl, hB1, hb1⟩
  have B1 := hb0.trans (hb1.mono hb0.size)
  have z0 := fun i x h => kept_cell hb1 (new_cell (w := w) (t := 27) #[.int .i64 0, .string (bs []), .string (bs []), .int .i64 0] i x h)
  have a0 := z0 0 _ rfl
  have a1 := z0 1 _ rfl
  have a2 := z0 2 _ rfl
  have a3 := z0 3 _ rfl
  have g0 := kept_thawed hb1 (a := ⟨w.heap.size, 0, none⟩) (by simp) (new_thawed (w := w) (t := 27) #[.int .i64 0, .string (bs []), .string (bs []), .int .i64 0] 0)
  have g1 := kept_thawed hb1 (a := ⟨w.heap.size, 1, none⟩) (by simp) (new_thawed (w := w) (t := 27) #[.int .i64 0, .string (bs []), .string (bs []), .int .i64 0] 1)
  have g2 := kept_thawed hb1 (a := ⟨w.heap.size, 2, none⟩) (by simp) (new_thawed (w := w) (t := 27) #[.int .i64 0, .string (bs []), .string (bs []), .int .i64 0] 2)
  have g3 := kept_thawed hb1 (a := ⟨w.heap.size, 3, none⟩) (by simp) (new_thawed (w := w) (t := 27) #[.int .i64 0, .string (bs []), .string (bs []), .int .i64 0] 3)
  have hwl : w.heap.size < w1.heap.size := by have := hb1.size; simp at this; omega
  clear O z0 hb1 hb0
  obtain ⟨p, cap, rfl, hc, hm, hnone, hB2⟩ := id hB1
  have X0 : Blk w1 w.heap.size (.int .i64 0) (.string (bs [])) (.string (bs [])) (.int .i64 0) := ⟨a0, a1, a2, a3, g0, g1, g2, g3⟩
  have Z := X0.put (.int .i64 0) (.string ⟨#[]⟩) (.string ⟨#[]⟩) (.int .i64 0)
  have BZ := below_put B1 (Nat.le_refl _) (.int .i64 0) (.string ⟨#[]⟩) (.string ⟨#[]⟩) (.int .i64 0)
  obtain ⟨z0, z1, z2, z3, _, _, _, _⟩ := id Z
  unfold put4 at z0 z1 z2 z3 BZ
  cases short with
  | true =>
    have hZ : Hid ((Rq.zero, (0 : Int), (0 : Int)) = A) := by
      have h := hA.out
      rw [if_neg (by rintro ⟨h, _⟩; cases h), if_pos (.inl rfl)] at h
      exact h
    clear hA
    go_wp2_with fail
    exact bodyPost_ret (v := .tuple #[rqVal .zero, .int .i64 0, .int .i64 0]) (by simp [results, Tryz.results14, go_sem, z0, z1, z2, z3, rqVal, Rq.zero, bs]) rfl ⟨by rw [← hZ.out], BZ⟩
  | false =>
    have hmI : (m : Int) < 16777216 := hnb.2
    by_cases hbig : 1000 < (m : Int)
    · have hZ : Hid ((Rq.zero, (0 : Int), (8 : Int)) = A) := by
        have h := hA.out
        rw [if_pos ⟨rfl, hbig⟩] at h
        exact h
      clear hA
      go_wp2_with fail
      exact bodyPost_ret (v := .tuple #[rqVal .zero, .int .i64 0, .int .i64 8]) (by simp [results, Tryz.results14, go_sem, z0, z1, z2, z3, rqVal, Rq.zero, bs]) rfl ⟨by rw [← hZ.out], BZ⟩
    · have b1 : decide (1000 < (m : Int)) = false := decide_eq_false hbig
      by_cases hlong : (left.length : Int) < (m : Int)
      · have hZ : Hid ((Rq.zero, (0 : Int), (0 : Int)) = A) := by
          have h := hA.out
          rw [if_neg (by rintro ⟨_, h⟩; exact hbig h), if_pos (.inr hlong)] at h
          exact h
        clear hA hbig hnb hmI
        go_wp2_with fail
        exact bodyPost_ret (v := .tuple #[rqVal .zero, .int .i64 0, .int .i64 0]) (by simp [results, Tryz.results14, go_sem, z0, z1, z2, z3, rqVal, Rq.zero, bs]) rfl ⟨by rw [← hZ.out], BZ⟩
      · have hn1 : ¬ (false = false ∧ 1000 < (m : Int)) := fun h => hbig h.2
        have hn2 : ¬ (false = true ∨ (left.length : Int) < (m : Int)) := by
          rintro (h | h)
          · cases h
          · exact hlong h
        have hA2 := hA.out
        rw [if_neg hn1, if_neg hn2] at hA2
        clear hA hn1 hn2
        have hle := reqR_le ⟨left.take m, false⟩
        simp only at hle
        have htl : (left.take m).length ≤ 1000 := by rw [List.length_take]; omega
        have hm0 : (0 : Int) ≤ (m : Int) := by omega
        have hmc : (m : Int) ≤ (cap : Int) := by omega
        have hH : BytesAt w.heap.size w1 (.slice p m m) (left.take m) := by
          cases p with
          | none =>
            have := hnone rfl
            have h0 : left = [] := List.eq_nil_of_length_eq_zero (by omega)
            have hm' : m = 0 := by omega
            subst h0 hm'
            exact bytesAt_none _ _
          | some a =>
            obtain ⟨g, o, rfl, _⟩ := hB2 a rfl
            exact hB1.head m (by omega)
        have hX := below_new w1 (.cells #[.int .i64 0, .string ⟨#[]⟩, .string ⟨#[]⟩, .int .i64 0] 61)
        have FF := F w1.heap.size _ (.slice p m m) (left.take m) ((hH.mono (Nat.le_of_lt hwl)).later hX) (heap_alloc_new w1 _)
        have R := fun W T => right_gen (reqR ⟨left.take m, false⟩).1 (by omega) (by omega) W T
        generalize reqR ⟨left.take m, false⟩ = r at *
        obtain ⟨⟨k', n', t', v'⟩, left', short'⟩ := r
        simp only at hA2 FF R
        have hA : Hid _ := hA2
        clear hA2
        have hw64 : wrap64 (2 + (m : Int)) = 2 + (m : Int) := wrap64_at (by omega) (by omega)
        have Xw := fun w3 (h : Below w1.heap.size w1 w3) => X0.later (w' := w3) h
        have Bw := fun w3 (h : Below w1.heap.size w1 w3) => B1.trans (h.mono B1.size)
        have Tw := fun w3 (h : Below w1.heap.size w1 w3) => T.later (Bw w3 h)
        clear hB2 hB1 hH F hbig hnb hmI htl hle a0 a1 a2 a3 g0 g1 g2 g3 Z BZ z0 z1 z2 z3 hB
        cases p with
        | none =>
          have hcap := hnone rfl
          subst hcap
          have hm' : m = 0 := by omega
          have hl0 : left = [] := List.eq_nil_of_length_eq_zero (by omega)
          subst hm' hl0
          go_wp2_with fail
          refine FF.mono ?_
          rintro e w3 ⟨rfl, X3, b3⟩
          have B3 : Below w1.heap.size w1 w3 := hX.trans b3
          have C3 := X3.cells
          have X3' := Xw w3 B3
          have hx3 : w1.heap.size < w3.heap.size := (Array.getElem?_eq_some_iff.1 X3).1
          obtain ⟨c0, c1, c2, c3, _, _, _, _⟩ := C3
          clear FF b3 X3 hX
          obtain ⟨fb, hfb⟩ : ∃ fb, (!short' && decide (left' = [])) = fb := ⟨_, rfl⟩
          rw [hfb]
          cases fb with
          | false =>
            have hZ : Hid ((Rq.zero, 2 + ((0 : Nat) : Int), (12 : Int)) = A) := by
              have h := hA.out
              rw [if_neg (by rintro ⟨h1, h2, _⟩; rw [h1, h2] at hfb; cases hfb)] at h
              exact h
            clear hA hfb
            have BZ := below_put (Bw w3 B3) (Nat.le_refl _) (.int .i64 0) (.string ⟨#[]⟩) (.string ⟨#[]⟩) (.int .i64 0)
            obtain ⟨z0, z1, z2, z3, _, _, _, _⟩ := X3'.put (.int .i64 0) (.string ⟨#[]⟩) (.string ⟨#[]⟩) (.int .i64 0)
            obtain ⟨a0, a1, a2, a3, g0, g1, g2, g3⟩ := X3'
            unfold put4 at z0 z1 z2 z3 BZ
            go_wp2_with fail
            exact bodyPost_ret (v := .tuple #[rqVal .zero, .int .i64 (2 + ((0 : Nat) : Int)), .int .i64 12]) (by simp [results, Tryz.results14, go_sem, z0, z1, z2, z3, rqVal, Rq.zero, bs]) rfl ⟨by rw [← hZ.out], BZ⟩
          | true =>
            have hs2 : short' = false ∧ left' = [] := by
              rw [Bool.and_eq_true] at hfb
              refine ⟨by cases short' with
                | false => rfl
                | true => exact absurd hfb.1 (by decide), of_decide_eq_true hfb.2⟩
            obtain ⟨a0, a1, a2, a3, g0, g1, g2, g3⟩ := X3'
            go_wp2_with fail
            refine (R w3 (Tw w3 B3)).mono ?_
            rintro e w4 ⟨rfl, b4⟩
            have B4 : Below w1.heap.size w1 w4 := B3.trans (b4.mono (Nat.le_of_lt hx3))
            have X4 := Xw w4 B4
            have d0 := kept_cell b4 c0
            have d1 := kept_cell b4 c1
            have d2 := kept_cell b4 c2
            have d3 := kept_cell b4 c3
            clear a0 a1 a2 a3 g0 g1 g2 g3 c0 c1 c2 c3 R
            cases hq : rightP ⟨k', n', t', v'⟩ with
            | false =>
              have hZ : Hid ((Rq.zero, 2 + ((0 : Nat) : Int), (12 : Int)) = A) := by
                have h := hA.out
                rw [if_neg (by rintro ⟨_, _, h3⟩; rw [hq] at h3; cases h3)] at h
                exact h
              clear hA hfb hq
              have BZ := below_put (Bw w4 B4) (Nat.le_refl _) (.int .i64 0) (.string ⟨#[]⟩) (.string ⟨#[]⟩) (.int .i64 0)
              obtain ⟨z0, z1, z2, z3, _, _, _, _⟩ := X4.put (.int .i64 0) (.string ⟨#[]⟩) (.string ⟨#[]⟩) (.int .i64 0)
              obtain ⟨a0, a1, a2, a3, g0, g1, g2, g3⟩ := X4
              unfold put4 at z0 z1 z2 z3 BZ
              go_wp2_with fail
              exact bodyPost_ret (v := .tuple #[rqVal .zero, .int .i64 (2 + ((0 : Nat) : Int)), .int .i64 12]) (by simp [results, Tryz.results14, go_sem, z0, z1, z2, z3, rqVal, Rq.zero, bs]) rfl ⟨by rw [← hZ.out], BZ⟩
            | true =>
              have hZ : Hid (((⟨k', n', t', v'⟩ : Rq), 2 + ((0 : Nat) : Int), (0 : Int)) = A) := by
                have h := hA.out
                rw [if_pos ⟨hs2.1, hs2.2, hq⟩] at h
                exact h
              clear hA hfb hq hs2
              have BZ := below_put (Bw w4 B4) (Nat.le_refl _) (.int .i64 k') (.string (bs n')) (.string (bs t')) (.int .i64 v')
              obtain ⟨z0, z1, z2, z3, _, _, _, _⟩ := X4.put (.int .i64 k') (.string (bs n')) (.string (bs t')) (.int .i64 v')
              obtain ⟨a0, a1, a2, a3, g0, g1, g2, g3⟩ := X4
              unfold put4 at z0 z1 z2 z3 BZ
              go_wp2_with fail
              exact bodyPost_ret (v := .tuple #[rqVal ⟨k', n', t', v'⟩, .int .i64 (2 + ((0 : Nat) : Int)), .int .i64 0]) (by simp [results, Tryz.results14, go_sem, z0, z1, z2, z3, rqVal]) rfl ⟨by rw [← hZ.out], BZ⟩
        | some a =>
          go_wp2_with fail
          refine FF.mono ?_
          rintro e w3 ⟨rfl, X3, b3⟩
          have B3 : Below w1.heap.size w1 w3 := hX.trans b3
          have C3 := X3.cells
          have X3' := Xw w3 B3
          have hx3 : w1.heap.size < w3.heap.size := (Array.getElem?_eq_some_iff.1 X3).1
          obtain ⟨c0, c1, c2, c3, _, _, _, _⟩ := C3
          clear FF b3 X3 hX
          obtain ⟨fb, hfb⟩ : ∃ fb, (!short' && decide (left' = [])) = fb := ⟨_, rfl⟩
          rw [hfb]
          cases fb with
          | false =>
            have hZ : Hid ((Rq.zero, 2 + (m : Int), (12 : Int)) = A) := by
              have h := hA.out
              rw [if_neg (by rintro ⟨h1, h2, _⟩; rw [h1, h2] at hfb; cases hfb)] at h
              exact h
            clear hA hfb
            have BZ := below_put (Bw w3 B3) (Nat.le_refl _) (.int .i64 0) (.string ⟨#[]⟩) (.string ⟨#[]⟩) (.int .i64 0)
            obtain ⟨z0, z1, z2, z3, _, _, _, _⟩ := X3'.put (.int .i64 0) (.string ⟨#[]⟩) (.string ⟨#[]⟩) (.int .i64 0)
            obtain ⟨a0, a1, a2, a3, g0, g1, g2, g3⟩ := X3'
            unfold put4 at z0 z1 z2 z3 BZ
            go_wp2_with fail
            exact bodyPost_ret (v := .tuple #[rqVal .zero, .int .i64 (2 + (m : Int)), .int .i64 12]) (by simp [results, Tryz.results14, go_sem, z0, z1, z2, z3, rqVal, Rq.zero, bs]) rfl ⟨by rw [← hZ.out], BZ⟩
          | true =>
            have hs2 : short' = false ∧ left' = [] := by
              rw [Bool.and_eq_true] at hfb
              refine ⟨by cases short' with
                | false => rfl
                | true => exact absurd hfb.1 (by decide), of_decide_eq_true hfb.2⟩
            obtain ⟨a0, a1, a2, a3, g0, g1, g2, g3⟩ := X3'
            go_wp2_with fail
            refine (R w3 (Tw w3 B3)).mono ?_
            rintro e w4 ⟨rfl, b4⟩
            have B4 : Below w1.heap.size w1 w4 := B3.trans (b4.mono (Nat.le_of_lt hx3))
            have X4 := Xw w4 B4
            have d0 := kept_cell b4 c0
            have d1 := kept_cell b4 c1
            have d2 := kept_cell b4 c2
            have d3 := kept_cell b4 c3
            clear a0 a1 a2 a3 g0 g1 g2 g3 c0 c1 c2 c3 R
            cases hq : rightP ⟨k', n', t', v'⟩ with
            | false =>
              have hZ : Hid ((Rq.zero, 2 + (m : Int), (12 : Int)) = A) := by
                have h := hA.out
                rw [if_neg (by rintro ⟨_, _, h3⟩; rw [hq] at h3; cases h3)] at h
                exact h
              clear hA hfb hq
              have BZ := below_put (Bw w4 B4) (Nat.le_refl _) (.int .i64 0) (.string ⟨#[]⟩) (.string ⟨#[]⟩) (.int .i64 0)
              obtain ⟨z0, z1, z2, z3, _, _, _, _⟩ := X4.put (.int .i64 0) (.string ⟨#[]⟩) (.string ⟨#[]⟩) (.int .i64 0)
              obtain ⟨a0, a1, a2, a3, g0, g1, g2, g3⟩ := X4
              unfold put4 at z0 z1 z2 z3 BZ
              go_wp2_with fail
              exact bodyPost_ret (v := .tuple #[rqVal .zero, .int .i64 (2 + (m : Int)), .int .i64 12]) (by simp [results, Tryz.results14, go_sem, z0, z1, z2, z3, rqVal, Rq.zero, bs]) rfl ⟨by rw [← hZ.out], BZ⟩
            | true =>
              have hZ : Hid (((⟨k', n', t', v'⟩ : Rq), 2 + (m : Int), (0 : Int)) = A) := by
                have h := hA.out
                rw [if_pos ⟨hs2.1, hs2.2, hq⟩] at h
                exact h
              clear hA hfb hq hs2
              have BZ := below_put (Bw w4 B4) (Nat.le_refl _) (.int .i64 k') (.string (bs n')) (.string (bs t')) (.int .i64 v')
              obtain ⟨z0, z1, z2, z3, _, _, _, _⟩ := X4.put (.int .i64 k') (.string (bs n')) (.string (bs t')) (.int .i64 v')
              obtain ⟨a0, a1, a2, a3, g0, g1, g2, g3⟩ := X4
              unfold put4 at z0 z1 z2 z3 BZ
              go_wp2_with fail
              exact bodyPost_ret (v := .tuple #[rqVal ⟨k', n', t', v'⟩, .int .i64 (2 + (m : Int)), .int .i64 0]) (by simp [results, Tryz.results14, go_sem, z0, z1, z2, z3, rqVal]) rfl ⟨by rw [← hZ.out], BZ⟩
end Go.Proofs.YtkaclahcpmogaaaGreatDoor
