/- framed, opened, filled, for requests. -/
import Derived.Test.YtkaclahcpmogaaaGreatDoorFrF
import Derived.Test.YtkaclahcpmogaaaGreatDoorFrG
import Derived.BigQuiet
namespace Go.Proofs.YtkaclahcpmogaaaGreatDoor
open Go.ChangeShapes Go.WideShapes Go.ChangeAt Go.RowKit
set_option linter.unusedVariables false
set_option linter.unusedSimpArgs false

theorem made_zeros (hd : Nat) (h : hd = 2 ∨ hd = 3) : (madeCells (Value.int .u8 0).cells (hd * 1)).toList = Lib.byteCells (List.replicate hd 0) := by
  rcases h with rfl | rfl <;> kernel_rfl

set_option maxHeartbeats 3200000 in
set_option maxRecDepth 20000 in
/-- What a form writes stands in a frame: its head, then that. -/
theorem framed_with (f hd x : Nat) (body : Bs) (w : World) (hd2 : hd = 2 ∨ hd = 3) (hf : f = 28) (hx : x < w.heap.size) (hb0 : body ≠ [])
    (C : ∀ B k W, w.heap.size ≤ B → Wr B k W (List.replicate hd 0) → Below w.heap.size w W → Calls Tryz.prog f #[.pointer (some ⟨x, 0, none⟩), wayW k] W fun e W' => e = .returned (.tuple #[]) ∧ Wr B k W' (List.replicate hd 0 ++ body) ∧ Below x W W') :
    Calls Tryz.prog 27 #[.int .i64 hd, bndV f x] w fun e w' => ∃ v, e = .returned v ∧ w'.ownsRow w.heap.size 5 1 v (headed hd body).length (Lib.byteCells (headed hd body)) ∧ Below x w w' := by
  obtain ⟨i0, hi0, hz0, hz2, hz3⟩ := info_parts infoU8
  have hd8 : hd ≤ 3 := by omega
  have hd1 : 2 ≤ hd := by omega
  unfold bndV
  subst hf
  go_enter Tryz.func27, Tryz.ntmps27
  go_wp2_with (at_make; refine wpList_make_full w rfl _ _ 23 rfl w.heap.size 5 i0 (.int .u8 0) 1 Tryz.underlying23 hi0 hz0 hz2 .i64 .i64 hd hd hd rfl rfl rfl rfl (by rw [hz3]; omega) (by unfold maxLen; omega) (Nat.le_refl _) ?_; intro w1 hown1 hgrow1)
  rw [made_zeros hd hd2] at hown1
  have W2 : Wr w.heap.size w1.heap.size (w1.alloc (.cells #[.slice (some ⟨w.heap.size, 0, none⟩) hd hd] 87)) (List.replicate hd 0) :=
    ⟨hgrow1.size, _, heap_alloc_new w1 _, by rw [List.length_replicate]; exact hown1.alloc _⟩
  have B2 : Below w.heap.size w (w1.alloc (.cells #[.slice (some ⟨w.heap.size, 0, none⟩) hd hd] 87)) :=
    (⟨hgrow1.os, hgrow1.tape, hgrow1.output, hgrow1.size, fun i hi => hgrow1.block i hi (by simp)⟩ : Below w.heap.size w w1).alloc hgrow1.size _
  clear hown1 hgrow1
  generalize w1.alloc (.cells #[.slice (some ⟨w.heap.size, 0, none⟩) hd hd] 87) = w2 at *
  generalize w1.heap.size = k at *
  refine (wway_any k w2).mono ?_
  rintro e w3 ⟨rfl, hb3⟩
  have W3 := W2.later (w' := w3) (fun i _ hi => hb3.block i hi)
  have B3 := B2.trans (hb3.mono B2.size)
  clear W2 B2 hb3
  unfold wayW bndV
  go_wp2_with fail
  refine (C w.heap.size k w3 (Nat.le_refl _) W3 B3).mono ?_
  rintro e w4 ⟨rfl, W4, b4⟩
  have B4 : Below x w w4 := (B3.mono (Nat.le_of_lt hx)).trans b4
  have hkl := W4.lt
  obtain ⟨hBk, v, hk4, hown4⟩ := W4
  have hap := Wr.apart hk4 hown4
  have hlen : (List.replicate hd 0 ++ body).length = hd + body.length := by simp
  have hbl : 0 < body.length := List.length_pos_iff.2 hb0
  have hxs : (Lib.byteCells (List.replicate hd 0 ++ body)) = Lib.byteCells (List.replicate hd 0) ++ Lib.byteCells body := Lib.byteCells_append _ _
  rw [hlen, hxs] at hown4
  rcases hown4.2 with ⟨_, h0⟩ | ⟨g, cap, cur, rfl, hg1, hg4, hnc, hcm, hcs, htake⟩
  · omega
  rw [Nat.mul_one] at htake hcs
  have hgl : g < w4.heap.size := (Array.getElem?_eq_some_iff.1 hg4).1
  have hgk : g ≠ k := fun e => hap (by simp [Value.ownBlock, e])
  have c4 : w4.cell? ⟨k, 0, none⟩ = some (.slice (some ⟨g, 0, none⟩) (hd + body.length) cap) := by rw [Lib.cell_of_heap hk4]; rfl
  have h0I : (0 : Int) ≤ (hd : Int) := by omega
  have hcI : (hd : Int) ≤ (cap : Int) := by omega
  have hcI2 : ((hd + body.length : Nat) : Int) ≤ 9223372036854775807 := by unfold maxLen at hcm; omega
  clear C W3 B3 hown4 b4
  have hdrop : (cur.toList.drop hd).take body.length = Lib.byteCells body := by
    have h1 : (cur.toList.take (hd + body.length)).drop hd = Lib.byteCells body := by
      rw [htake, List.drop_left' (by rw [Lib.byteCells_length, List.length_replicate])]
    rw [List.drop_take, Nat.add_sub_cancel_left] at h1
    exact h1
  have hg5 : (w4.alloc (.cells #[.slice (some ⟨g, 0, none⟩) 0 hd] 87)).heap[g]? = some (.cells cur.toList.toArray 5 (0, 0)) := by
    rw [Array.toArray_toList]; exact (Below.heap_alloc _ _ _ hgl).trans hg4
  have hk5 : (w4.alloc (.cells #[.slice (some ⟨g, 0, none⟩) 0 hd] 87)).heap[k]? = _ := (Below.heap_alloc _ _ _ hkl).trans hk4
  have H := wnumber_head w4.heap.size g hd body.length cur.toList _ (heap_alloc_new w4 _) hg5 (by omega) (by rw [Array.length_toList]; omega) (by omega)
  have B5 : Below x w (w4.alloc (.cells #[.slice (some ⟨g, 0, none⟩) 0 hd] 87)) := B4.alloc (by omega) _
  have hs5 : k < (w4.alloc (.cells #[.slice (some ⟨g, 0, none⟩) 0 hd] 87)).heap.size := by simp; omega
  have hgx : w4.heap.size ≥ w.heap.size := by omega
  clear hg5 hk4 htake B4 hg4
  go_wp2_with fail
  rw [show (hd : Int) + (body.length : Int) - hd = body.length by omega]
  refine H.mono ?_
  rintro e w6 ⟨rfl, hg6, hO6⟩
  have hk6 := (hO6.block k hs5 (by rintro (e | e) <;> omega)).trans hk5
  have c6 : w6.cell? ⟨k, 0, none⟩ = some (.slice (some ⟨g, 0, none⟩) (hd + body.length) cap) := by rw [Lib.cell_of_heap hk6]; rfl
  have B6 : Below x w w6 := ⟨hO6.os.trans B5.os, hO6.tape.trans B5.tape, hO6.output.trans B5.output, Nat.le_trans B5.size hO6.size, fun i hi => (hO6.block i (by have := B5.size; omega) (by rintro (e | e) <;> omega)).trans (B5.block i hi)⟩
  clear H hk5 c4
  go_wp2_with fail
  go_ret
  have hhl : (headed hd body).length = hd + body.length := by unfold headed; rw [List.length_append, numB_len]
  have hbh : Lib.byteCells (headed hd body) = Lib.byteCells (numB hd body.length) ++ Lib.byteCells body := by unfold headed; exact Lib.byteCells_append _ _
  refine ⟨_, rfl, ?_, B6⟩
  rw [hhl, hbh]
  refine ⟨by rw [List.length_append, Lib.byteCells_length, Lib.byteCells_length, numB_len]; omega, .inr ⟨g, cap, _, rfl, hg1, hg6, hnc, hcm, ?_, ?_⟩⟩
  · simp only [List.size_toArray, List.length_append, List.length_drop, Lib.byteCells_length, numB_len, Array.length_toList]; omega
  · rw [List.toList_toArray, Nat.mul_one, List.take_append, Lib.byteCells_length, numB_len, List.take_of_length_le (by rw [Lib.byteCells_length, numB_len]; omega), Nat.add_sub_cancel_left, hdrop]

theorem framed_req (x : Nat) (r : Rq) (w : World) (hx : x < w.heap.size) (X : RqAt 61 x w r.kind r.name r.text r.value) (hn : r.name.length ≤ 1000) (ht : r.text.length ≤ 1000) :
    Calls Tryz.prog 27 #[.int .i64 2, bndV 28 x] w fun e w' => ∃ v, e = .returned v ∧ w'.ownsRow w.heap.size 5 1 v (headed 2 (reqB r)).length (Lib.byteCells (headed 2 (reqB r))) ∧ Below x w w' :=
  framed_with _ 2 x (reqB r) w (.inl rfl) rfl hx (by unfold reqB numB; simp) (fun B k W hB hW hb => wform_any B x k r _ W (by omega) (by unfold RqAt at *; exact (hb.block x hx).trans X) hW (by simp) hn ht)

set_option maxHeartbeats 1600000 in
set_option maxRecDepth 20000 in
theorem opened_any (L hd : Nat) (v : Value) (b : Bs) (w : World) (hB : BytesAt L w v b) (hL : L ≤ w.heap.size) (hd3 : hd ≤ 3) :
    Calls Tryz.prog 29 #[v, .int .i64 hd] w fun e w' => ∃ v', e = .returned (.tuple #[.int .i64 (numP hd ⟨b, false⟩).1, v', .bool (!(numP hd ⟨b, false⟩).2.short)]) ∧ BytesAt L w' v' (numP hd ⟨b, false⟩).2.left ∧ Below w.heap.size w w' := by
  have R0 : Rdf L w.heap.size (w.alloc (.cells #[v, .bool false] 95)) ⟨b, false⟩ := ⟨hL, v, heap_alloc_new w _, hB.later ((below_new w _).mono hL)⟩
  have C := rnumber_any L w.heap.size hd 0 ⟨b, false⟩ _ R0 (by omega)
  have b0 := below_new w (.cells #[v, .bool false] 95)
  generalize numP hd ⟨b, false⟩ = r at *
  obtain ⟨n, s⟩ := r
  simp only at C ⊢
  obtain ⟨p, cap, rfl, _⟩ := hB
  go_enter Tryz.func29, Tryz.ntmps29
  go_wp2_with fail
  refine C.mono ?_
  rintro e w1 ⟨rfl, hR, hj⟩
  obtain ⟨hL', v', hk, hB'⟩ := hR
  have c0 : w1.drew.cell? ⟨w.heap.size, 0, none⟩ = some v' := by rw [Lib.cell_of_heap (w := w1.drew) hk]; rfl
  have c1 : w1.drew.cell? ⟨w.heap.size, 1, none⟩ = some (.bool s.short) := by rw [Lib.cell_of_heap (w := w1.drew) hk]; rfl
  have c0' : w1.cell? ⟨w.heap.size, 0, none⟩ = some v' := c0
  have c1' : w1.cell? ⟨w.heap.size, 1, none⟩ = some (.bool s.short) := c1
  have hb := b0.trans hj.below
  clear C R0 b0 hj
  obtain ⟨left, short⟩ := s
  simp only at *
  go_upto_region 3 with fail
  go_quiet (fail)
  have hbq : Below w1.heap.size w1 (w1.drewN nq) := below_drewN _ _
  generalize w1.drewN nq = w2 at *
  go_wp2_with fail
  go_returns
  exact ⟨v', rfl, hB'.later (hbq.mono (Nat.le_trans hL hb.size)), hb.trans (hbq.mono hb.size)⟩

set_option maxHeartbeats 1600000 in
set_option maxRecDepth 20000 in
theorem filled_req (x : Nat) (v : Value) (b : Bs) (w : World) (hB : BytesAt x w v b) (X : RqAt 61 x w 0 [] [] 0) :
    Calls Tryz.prog 30 #[v, bndV 28 x] w fun e w' => e = .returned (.bool (!(reqR ⟨b, false⟩).2.short && decide ((reqR ⟨b, false⟩).2.left = []))) ∧ RqAt 61 x w' (reqR ⟨b, false⟩).1.kind (reqR ⟨b, false⟩).1.name (reqR ⟨b, false⟩).1.text (reqR ⟨b, false⟩).1.value ∧ Below x w w' := by
  have hx : x < w.heap.size := (Array.getElem?_eq_some_iff.1 X).1
  have b0 := below_new w (.cells #[v, .bool false] 95)
  have R0 : Rdf x w.heap.size (w.alloc (.cells #[v, .bool false] 95)) ⟨b, false⟩ := ⟨by omega, v, heap_alloc_new w _, hB.later (b0.mono (Nat.le_of_lt hx))⟩
  have X0 : RqAt 61 x (w.alloc (.cells #[v, .bool false] 95)) 0 [] [] 0 := by unfold RqAt at *; exact (b0.block x hx).trans X
  obtain ⟨p, cap, rfl, _⟩ := hB
  unfold bndV
  obtain ⟨⟨r, s⟩, hr⟩ : ∃ R, reqR ⟨b, false⟩ = R := ⟨_, rfl⟩
  have F := fun W (X : RqAt 61 x W 0 [] [] 0) (h : Rdf x w.heap.size W ⟨b, false⟩) => rform_any x w.heap.size ⟨b, false⟩ W hx X h
  rw [hr] at F ⊢
  simp only at F ⊢
  go_enter Tryz.func30, Tryz.ntmps30
  go_wp2_with fail
  generalize w.alloc (.cells #[.slice p b.length cap, .bool false] 95) = w1 at *
  refine (rway_any _ _).mono ?_
  rintro e w2 ⟨rfl, hb2⟩
  have b2 := b0.trans (hb2.mono b0.size)
  have R2 := R0.later (w' := w2) (hb2.mono (by have := b0.size; omega)) (hb2.block _ R0.lt)
  have X2 : RqAt 61 x w2 0 [] [] 0 := by have := b0.size; unfold RqAt at *; exact (hb2.block x (by omega)).trans X0
  clear R0 X0 hb2 b0
  unfold wayR bndV
  go_wp2_with fail
  refine (F w2 X2 R2).mono ?_
  rintro e w3 ⟨rfl, X3, R3, b3⟩
  have B3 : Below x w w3 := (b2.mono (Nat.le_of_lt hx)).trans b3
  obtain ⟨_, v3, hk3, hB3⟩ := R3
  obtain ⟨p3, cap3, rfl, hc3, hm3, _⟩ := hB3
  have c0 : w3.cell? ⟨w.heap.size, 0, none⟩ = some (.slice p3 s.left.length cap3) := by rw [Lib.cell_of_heap hk3]; rfl
  have c1 : w3.cell? ⟨w.heap.size, 1, none⟩ = some (.bool s.short) := by rw [Lib.cell_of_heap hk3]; rfl
  clear F X2 R2 b2 b3 hk3
  obtain ⟨left, short⟩ := s
  simp only at *
  have hll : decide (left = []) = ((left.length : Int) == 0) := by
    cases left with
    | nil => simp
    | cons a l => simp; omega
  cases short with
  | true =>
    go_wp2_with fail
    go_ret
    exact ⟨rfl, X3, B3⟩
  | false =>
    go_wp2_with fail
    go_ret
    simp only [hll]
    exact ⟨rfl, X3, B3⟩
end Go.Proofs.YtkaclahcpmogaaaGreatDoor
