/- frame.Response, frame.ReadResponse. -/
import Derived.Test.YtkaclahcpmogaaaGreatDoorFrO
import Derived.Test.YtkaclahcpmogaaaGreatDoorFrP
namespace Go.Proofs.YtkaclahcpmogaaaGreatDoor
open Go.ChangeShapes Go.WideShapes Go.ChangeAt Go.RowKit
set_option linter.unusedVariables false
set_option linter.unusedSimpArgs false

set_option maxHeartbeats 3200000 in
set_option maxRecDepth 20000 in
/-- What a form writes stands in a frame: its head, then that. -/
theorem framed_withP (f hd x : Nat) (body : Bs) (w : World) (hd2 : hd = 2 ∨ hd = 3) (hf : f = 37) (hx : x < w.heap.size) (hb0 : body ≠ [])
    (C : ∀ B k W, w.heap.size ≤ B → Wr B k W (List.replicate hd 0) → Below w.heap.size w W → Calls Tryz.prog f #[.pointer (some ⟨x, 0, none⟩), wayW k] W fun e W' => e = .returned (.tuple #[]) ∧ Wr B k W' (List.replicate hd 0 ++ body) ∧ Below x W W') :
    Calls Tryz.prog 27 #[.int .i64 hd, bndV f x] w fun e w' => ∃ v, e = .returned v ∧ w'.ownsRow w.heap.size 5 1 v (headed hd body).length (Lib.byteCells (headed hd body)) ∧ Below x w w' := by
  obtain ⟨i0, hi0, hz0, hz2, hz3⟩ := info_parts infoU8
  have hd8 : hd ≤ 3 := by omega
  have hd1 : 2 ≤ hd := by omega
  unfold bndV
  subst hf
  go_enter Tryz.func27, Tryz.ntmps27
  go_wp2_with (at_make; refine wpList_make_full w rfl _ _ 23 rfl w.heap.size 5 i0 (.int .u8 0) 1 Tryz.underlying23 hi0 hz0 hz2 .i64 .i64 hd hd hd rfl rfl rfl rfl (by rw [hz3]; omega) (by unfold maxLen; omega) (Nat.le_refl _) ?_; intro w1 hown1 hgrow1)
  rw [made_zeros hd hd2] at hown1
  have W2 : Wr w.heap.size w1.heap.size (w1.alloc (.cells #[.slice (some ⟨w.heap.size, 0, none⟩) hd hd] 87)) (List.replicate hd 0) :=
    ⟨hgrow1.size, _, heap_alloc_new w1 _, by rw [List.length_replicate]; exact hown1.alloc _⟩
  have B2 : Below w.heap.size w (w1.alloc (.cells #[.slice (some ⟨w.heap.size, 0, none⟩) hd hd] 87)) :=
    (⟨hgrow1.os, hgrow1.tape, hgrow1.output, hgrow1.size, fun i hi => hgrow1.block i hi (by simp)⟩ : Below w.heap.size w w1).alloc hgrow1.size _
  clear hown1 hgrow1
  generalize w1.alloc (.cells #[.slice (some ⟨w.heap.size, 0, none⟩) hd hd] 87) = w2 at *
  generalize w1.heap.size = k at *
  refine (wway_any k w2).mono ?_
  rintro e w3 ⟨rfl, hb3⟩
  have W3 := W2.later (w' := w3) (fun i _ hi => hb3.block i hi)
  have B3 := B2.trans (hb3.mono B2.size)
  clear W2 B2 hb3
  unfold wayW bndV
  go_wp2_with fail
  refine (C w.heap.size k w3 (Nat.le_refl _) W3 B3).mono ?_
  rintro e w4 ⟨rfl, W4, b4⟩
  have B4 : Below x w w4 := (B3.mono (Nat.le_of_lt hx)).trans b4
  have hkl := W4.lt
  obtain ⟨hBk, v, hk4, hown4⟩ := W4
  have hap := Wr.apart hk4 hown4
  have hlen : (List.replicate hd 0 ++ body).length = hd + body.length := by simp
  have hbl : 0 < body.length := List.length_pos_iff.2 hb0
  have hxs : (Lib.byteCells (List.replicate hd 0 ++ body)) = Lib.byteCells (List.replicate hd 0) ++ Lib.byteCells body := Lib.byteCells_append _ _
  rw [hlen, hxs] at hown4
  rcases hown4.2 with ⟨_, h0⟩ | ⟨g, cap, cur, rfl, hg1, hg4, hnc, hcm, hcs, htake⟩
  · omega
  rw [Nat.mul_one] at htake hcs
  have hgl : g < w4.heap.size := (Array.getElem?_eq_some_iff.1 hg4).1
  have hgk : g ≠ k := fun e => hap (by simp [Value.ownBlock, e])
  have c4 : w4.cell? ⟨k, 0, none⟩ = some (.slice (some ⟨g, 0, none⟩) (hd + body.length) cap) := by rw [Lib.cell_of_heap hk4]; rfl
  have h0I : (0 : Int) ≤ (hd : Int) := by omega
  have hcI : (hd : Int) ≤ (cap : Int) := by omega
  have hcI2 : ((hd + body.length : Nat) : Int) ≤ 9223372036854775807 := by unfold maxLen at hcm; omega
  clear C W3 B3 hown4 b4
  have hdrop : (cur.toList.drop hd).take body.length = Lib.byteCells body := by
    have h1 : (cur.toList.take (hd + body.length)).drop hd = Lib.byteCells body := by
      rw [htake, List.drop_left' (by rw [Lib.byteCells_length, List.length_replicate])]
    rw [List.drop_take, Nat.add_sub_cancel_left] at h1
    exact h1
  have hg5 : (w4.alloc (.cells #[.slice (some ⟨g, 0, none⟩) 0 hd] 87)).heap[g]? = some (.cells cur.toList.toArray 5 (0, 0)) := by
    rw [Array.toArray_toList]; exact (Below.heap_alloc _ _ _ hgl).trans hg4
  have hk5 : (w4.alloc (.cells #[.slice (some ⟨g, 0, none⟩) 0 hd] 87)).heap[k]? = _ := (Below.heap_alloc _ _ _ hkl).trans hk4
  have H := wnumber_head w4.heap.size g hd body.length cur.toList _ (heap_alloc_new w4 _) hg5 (by omega) (by rw [Array.length_toList]; omega) (by omega)
  have B5 : Below x w (w4.alloc (.cells #[.slice (some ⟨g, 0, none⟩) 0 hd] 87)) := B4.alloc (by omega) _
  have hs5 : k < (w4.alloc (.cells #[.slice (some ⟨g, 0, none⟩) 0 hd] 87)).heap.size := by simp; omega
  have hgx : w4.heap.size ≥ w.heap.size := by omega
  clear hg5 hk4 htake B4 hg4
  go_wp2_with fail
  rw [show (hd : Int) + (body.length : Int) - hd = body.length by omega]
  refine H.mono ?_
  rintro e w6 ⟨rfl, hg6, hO6⟩
  have hk6 := (hO6.block k hs5 (by rintro (e | e) <;> omega)).trans hk5
  have c6 : w6.cell? ⟨k, 0, none⟩ = some (.slice (some ⟨g, 0, none⟩) (hd + body.length) cap) := by rw [Lib.cell_of_heap hk6]; rfl
  have B6 : Below x w w6 := ⟨hO6.os.trans B5.os, hO6.tape.trans B5.tape, hO6.output.trans B5.output, Nat.le_trans B5.size hO6.size, fun i hi => (hO6.block i (by have := B5.size; omega) (by rintro (e | e) <;> omega)).trans (B5.block i hi)⟩
  clear H hk5 c4
  go_wp2_with fail
  go_ret
  have hhl : (headed hd body).length = hd + body.length := by unfold headed; rw [List.length_append, numB_len]
  have hbh : Lib.byteCells (headed hd body) = Lib.byteCells (numB hd body.length) ++ Lib.byteCells body := by unfold headed; exact Lib.byteCells_append _ _
  refine ⟨_, rfl, ?_, B6⟩
  rw [hhl, hbh]
  refine ⟨by rw [List.length_append, Lib.byteCells_length, Lib.byteCells_length, numB_len]; omega, .inr ⟨g, cap, _, rfl, hg1, hg6, hnc, hcm, ?_, ?_⟩⟩
  · simp only [List.size_toArray, List.length_append, List.length_drop, Lib.byteCells_length, numB_len, Array.length_toList]; omega
  · rw [List.toList_toArray, Nat.mul_one, List.take_append, Lib.byteCells_length, numB_len, List.take_of_length_le (by rw [Lib.byteCells_length, numB_len]; omega), Nat.add_sub_cancel_left, hdrop]

theorem rp_sizes {r : Rp} (h : rpRight r = true) : r.text.length ≤ 600 ∧ r.image.length ≤ 4096 ∧ r.diags.length ≤ 5000 ∧ r.diags.any wrongP = false ∧ ∀ d ∈ r.diags, d.frag.length ≤ 12 := by
  unfold rpRight at h
  simp only [Bool.and_eq_true, decide_eq_true_eq, Bool.not_eq_true'] at h
  obtain ⟨_, h3, h4, h5, h6⟩ := h
  refine ⟨h3, h4, h5, h6, fun d hd => ?_⟩
  have hw : wrongP d = false := by
    rw [List.any_eq_false] at h6
    simpa using h6 d hd
  unfold wrongP at hw
  simp only [Bool.or_eq_false_iff, Bool.not_eq_false'] at hw
  have h1 := hw.1
  unfold fragOk at h1
  simp only [Bool.or_eq_true, decide_eq_true_eq] at h1
  rcases h1 with h1 | h1
  · simp [h1]
  · exact (right_fits h1).2.1

theorem framed_resp (x : Nat) (r : Rp) (iv dv : Value) (w : World) (hr : rpRight r = true) (X : w.heap[x]? = some (.cells #[.int .i64 r.e, .string (bs r.text), iv, dv] 77 (0, 0))) (hI : BytesAt x w iv r.image) (hD : DiagsAt x w dv r.diags) :
    Calls Tryz.prog 27 #[.int .i64 3, bndV 37 x] w fun e w' => ∃ v, e = .returned v ∧ w'.ownsRow w.heap.size 5 1 v (headed 3 (respB r)).length (Lib.byteCells (headed 3 (respB r))) ∧ Below x w w' := by
  have hx : x < w.heap.size := (Array.getElem?_eq_some_iff.1 X).1
  obtain ⟨h1, h2, h3, _, h5⟩ := rp_sizes hr
  exact framed_withP _ 3 x (respB r) w (.inr rfl) rfl hx (by unfold respB numB; simp) (fun B k W hB hW hb => wformP_any B x k r iv dv _ W (by omega) ((hb.block x hx).trans X) (hI.later (hb.mono (Nat.le_of_lt hx))) (hD.later (hb.mono (Nat.le_of_lt hx))) hW (by simp) (by omega) (by omega) (by omega) h5)

set_option maxHeartbeats 1600000 in
set_option maxRecDepth 20000 in
theorem response_any (r : Rp) (iv dv : Value) (hr : rpRight r = true) (w : World) (T : Tab w) (hI : BytesAt w.heap.size w iv r.image) (hD : DiagsAt w.heap.size w dv r.diags) :
    Calls Tryz.prog 18 #[.agg #[.int .i64 r.e, .string (bs r.text), iv, dv]] w fun e w' => ∃ v, e = .returned v ∧ Own w.heap.size w' v (headed 3 (respB r)) ∧ Below w.heap.size w w' := by
  obtain ⟨h1, h2, h3, _, h5⟩ := rp_sizes hr
  have hb0 := below_new w (.cells #[.int .i64 r.e, .string (bs r.text), iv, dv] 42)
  have hs0 : (w.alloc (.cells #[.int .i64 r.e, .string (bs r.text), iv, dv] 42)).heap.size = w.heap.size + 1 := by simp
  have R := rpRight_any w.heap.size r iv dv _ (T.later hb0) (hI.later hb0) (hD.later hb0) (by omega) (fun d hd => by have := h5 d hd; omega) (by omega) (by omega) (by omega)
  rw [hr] at R
  have FR := fun W x X hI hD => framed_resp x r iv dv W hr X hI hD
  obtain ⟨ip, ic, rfl, _⟩ := id hI
  obtain ⟨dp, dc, rfl, _⟩ := id hD
  have L0 := heap_alloc_new w (.cells #[.int .i64 r.e, .string (bs r.text), .slice ip r.image.length ic, .slice dp r.diags.length dc] 42)
  go_enter Tryz.func18, Tryz.ntmps18
  go_wp2_with fail
  refine R.mono ?_
  rintro e w1 ⟨rfl, hb1⟩
  have L1 := (hb1.block w.heap.size (by omega)).trans L0
  have a0 := cell_at L1 0 _ rfl
  have a1 := cell_at L1 1 _ rfl
  have a2 := cell_at L1 2 _ rfl
  have a3 := cell_at L1 3 _ rfl
  have B1 := hb0.trans (hb1.mono hb0.size)
  clear R hb0 hb1 hs0 L0 L1
  go_wp2_with fail
  have hb2 := below_new w1 (.cells #[.int .i64 r.e, .string (bs r.text), .slice ip r.image.length ic, .slice dp r.diags.length dc] 77)
  have B2 := B1.trans (hb2.mono B1.size)
  refine (FR _ w1.heap.size (heap_alloc_new w1 _) ((hI.later B2).mono B1.size) ((hD.later B2).mono B1.size)).mono ?_
  rintro e w3 ⟨v, rfl, hO, hb3⟩
  have B3 : Below w.heap.size w w3 := B2.trans (hb3.mono B1.size)
  obtain ⟨p, cap, rfl⟩ := row_slice hO
  have hO2 := own_low hO (B' := w.heap.size) (by have := B1.size; simp; omega)
  clear hO
  go_wp2_with fail
  go_ret
  exact ⟨_, rfl, hO2, B3⟩

/-- A response that is none yet. -/
def NoRp (x : Nat) (w : World) : Prop := w.heap[x]? = some (.cells #[.int .i64 0, .string (bs []), .slice none 0 0, .slice none 0 0] 77 (0, 0))

set_option maxHeartbeats 1600000 in
set_option maxRecDepth 20000 in
theorem filled_resp (x : Nat) (v : Value) (b : Bs) (w : World) (hB : BytesAt x w v b) (hb : b.length ≤ 100000000) (X : NoRp x w) :
    Calls Tryz.prog 30 #[v, bndV 37 x] w fun e w' => e = .returned (.bool (!(respR ⟨b, false⟩).2.short && decide ((respR ⟨b, false⟩).2.left = []))) ∧ RpAt 77 x w.heap.size w' (respR ⟨b, false⟩).1 ∧ Below x w w' := by
  have hx : x < w.heap.size := (Array.getElem?_eq_some_iff.1 X).1
  have b0 := below_new w (.cells #[v, .bool false] 95)
  have R0 : Rdf x w.heap.size (w.alloc (.cells #[v, .bool false] 95)) ⟨b, false⟩ := ⟨by omega, v, heap_alloc_new w _, hB.later (b0.mono (Nat.le_of_lt hx))⟩
  have X0 : NoRp x (w.alloc (.cells #[v, .bool false] 95)) := (b0.block x hx).trans X
  obtain ⟨p, cap, rfl, _⟩ := hB
  unfold bndV
  obtain ⟨⟨r, s⟩, hr⟩ : ∃ R, respR ⟨b, false⟩ = R := ⟨_, rfl⟩
  have F := fun W (X : NoRp x W) (h : Rdf x w.heap.size W ⟨b, false⟩) => rformP_any x w.heap.size ⟨b, false⟩ W hx X h hb
  rw [hr] at F ⊢
  simp only at F ⊢
  go_enter Tryz.func30, Tryz.ntmps30
  go_wp2_with fail
  generalize w.alloc (.cells #[.slice p b.length cap, .bool false] 95) = w1 at *
  refine (rway_any _ _).mono ?_
  rintro e w2 ⟨rfl, hb2⟩
  have b2 := b0.trans (hb2.mono b0.size)
  have R2 := R0.later (w' := w2) (hb2.mono (by have := b0.size; omega)) (hb2.block _ R0.lt)
  have X2 : NoRp x w2 := by have := b0.size; exact (hb2.block x (by omega)).trans X0
  clear R0 X0 hb2 b0
  unfold wayR bndV
  go_wp2_with fail
  refine (F w2 X2 R2).mono ?_
  rintro e w3 ⟨rfl, X3, R3, b3⟩
  have B3 : Below x w w3 := (b2.mono (Nat.le_of_lt hx)).trans b3
  obtain ⟨_, v3, hk3, hB3⟩ := R3
  obtain ⟨p3, cap3, rfl, hc3, hm3, _⟩ := hB3
  have c0 : w3.cell? ⟨w.heap.size, 0, none⟩ = some (.slice p3 s.left.length cap3) := by rw [Lib.cell_of_heap hk3]; rfl
  have c1 : w3.cell? ⟨w.heap.size, 1, none⟩ = some (.bool s.short) := by rw [Lib.cell_of_heap hk3]; rfl
  clear F X2 R2 b2 b3 hk3
  obtain ⟨left, short⟩ := s
  simp only at *
  have hll : decide (left = []) = ((left.length : Int) == 0) := by
    cases left with
    | nil => simp
    | cons a l => simp; omega
  cases short with
  | true =>
    go_wp2_with fail
    go_ret
    exact ⟨rfl, X3, B3⟩
  | false =>
    go_wp2_with fail
    go_ret
    simp only [hll]
    exact ⟨rfl, X3, B3⟩


def Rp.zero : Rp := ⟨0, [], [], []⟩
def readRespP (b : Bs) : Rp × Int × Bool :=
  if (numP 3 ⟨b, false⟩).2.short = true ∨ ((numP 3 ⟨b, false⟩).2.left.length : Int) < (numP 3 ⟨b, false⟩).1 then (.zero, 0, false)
  else if (respR ⟨(numP 3 ⟨b, false⟩).2.left.take (numP 3 ⟨b, false⟩).1.toNat, false⟩).2.short = false ∧ (respR ⟨(numP 3 ⟨b, false⟩).2.left.take (numP 3 ⟨b, false⟩).1.toNat, false⟩).2.left = [] ∧ rpRight (respR ⟨(numP 3 ⟨b, false⟩).2.left.take (numP 3 ⟨b, false⟩).1.toNat, false⟩).1 = true then
    ((respR ⟨(numP 3 ⟨b, false⟩).2.left.take (numP 3 ⟨b, false⟩).1.toNat, false⟩).1, 3 + (numP 3 ⟨b, false⟩).1, true)
  else (.zero, 0, false)

theorem respB_len {r : Rp} (h : rpRight r = true) : (respB r).length ≤ 90000 := by
  obtain ⟨h1, h2, h3, _, h5⟩ := rp_sizes h
  have := diagsB_max r.diags h5
  unfold respB
  simp only [List.length_append, numB_len, textB_len]
  omega

/-- There and back, whatever is behind. -/
theorem resp_read {r : Rp} (h : rpRight r = true) (more : Bs) : readRespP (headed 3 (respB r) ++ more) = (r, 3 + ((respB r).length : Int), true) := by
  have hl := respB_len h
  have e1 : numP 3 ⟨headed 3 (respB r) ++ more, false⟩ = (((respB r).length : Int), ⟨respB r ++ more, false⟩) := by
    unfold headed
    rw [List.append_assoc]
    exact num_app (val3 (by omega) (by omega)) _ _
  have e2 : (respB r ++ more).take (((respB r).length : Int)).toNat = respB r := by simp
  unfold readRespP
  rw [e1]
  simp only
  rw [e2, resp_back r h]
  simp only
  have hn : ¬ (false = true ∨ ((respB r ++ more).length : Int) < ((respB r).length : Int)) := by
    rw [List.length_append]
    rintro (h | h)
    · cases h
    · omega
  rw [if_neg hn, if_pos ⟨trivial, trivial, h⟩]
end Go.Proofs.YtkaclahcpmogaaaGreatDoor
