/- The reference's numbers, texts, requests. -/
import Derived.Test.YtkaclahcpmogaaaGreatDoorFrW
namespace Go.Proofs.YtkaclahcpmogaaaGreatDoor
open Go.ChangeShapes Go.WideShapes Go.ChangeAt Go.RowKit
set_option linter.unusedVariables false
set_option linter.unusedSimpArgs false

theorem Own.low {B B' : Nat} {w : World} {v : Value} {l : Bs} (h : Own B w v l) (hB : B' ≤ B) : Own B' w v l := own_low h hB
theorem own_nil (B : Nat) (w : World) : Own B w (.slice none 0 0) [] := ⟨rfl, .inl ⟨rfl, rfl⟩⟩
theorem Own.below {B : Nat} {w w' : World} {v : Value} {l : Bs} (h : Own B w v l) (hg : w.grownBy w' v.ownBlock) (hB : B ≤ w.heap.size) : Below B w w' :=
  ⟨hg.os, hg.tape, hg.output, hg.size, fun i hi => hg.block i (by omega) (fun e => by have := (h.lt _ e.symm).1; omega)⟩

set_option maxHeartbeats 1600000 in
set_option maxRecDepth 20000 in
theorem rnum_any (B sz : Nat) (v : Value) (n : Int) (l : Bs) (w : World) (h : Own B w v l) (hB : B ≤ w.heap.size) (hsz : sz ≤ 8) (hl : l.length ≤ 1000000) :
    Calls Tryz.prog 32 #[v, .int .i64 n, .int .i64 sz] w fun e w' => ∃ v', e = .returned v' ∧ Own B w' v' (l ++ numB sz n) ∧ Below B w w' := by
  have hszI : (sz : Int) ≤ 8 := by omega
  obtain ⟨p0, c0, rfl⟩ := row_slice h
  go_enter Tryz.func32, Tryz.ntmps32
  go_wp2
  go_loopw [0, 7] (fun bv i wr => ∃ (j : Nat) (acc : Bs) (p : Option Addr) (c : Nat), bv = .slice p acc.length c ∧ j ≤ sz ∧ i = .int .i64 ((j : Int) - 1) ∧ Hid (acc ++ numB j n = l ++ numB sz n) ∧ acc.length ≤ l.length + sz - j ∧ Own B wr (.slice p acc.length c) acc ∧ Below B w wr) (fun _ i _ => (intW i + 1).toNat)
  case atStart => exact ⟨sz, l, p0, c0, rfl, Nat.le_refl _, rfl, rfl, by omega, h, Below.refl _ _⟩
  case round =>
    obtain ⟨j, acc, p, c, rfl, hj, rfl, hacc, hal, hW, hb⟩ := hrel
    cases j with
    | zero =>
      have hend := hacc.out
      simp only [numB, List.append_nil] at hend
      subst hend
      clear hacc hal h
      go_wp2
      go_ret
      exact ⟨_, rfl, hW, hb⟩
    | succ j =>
      have ei : (((j + 1 : Nat) : Int) - 1) = (j : Int) := by omega
      rw [ei]
      have hjI : (j : Int) ≤ 7 := by omega
      have hBs : B ≤ wr.heap.size := Nat.le_trans hB hb.size
      have hsh : Op.shift .shr .i64 n .u64 (8 * (j : Int)) = pure (.int .i64 (n / 2 ^ (8 * j))) := by
        rw [shift_shr _ _ _ _ (by omega) (by simp only [IntKind.bits]; omega)]
        congr 2
      have hnext : Hid ((acc ++ [byteN (n / 2 ^ (8 * j))]) ++ numB j n = l ++ numB sz n) := by
        have := hacc.out
        rw [List.append_assoc]
        exact this
      have hlen : (acc ++ [byteN (n / 2 ^ (8 * j))]).length = acc.length + 1 := by simp
      have hW1 : Own B (wr.alloc (.cells #[.int .u8 ((n / 2 ^ (8 * j)) % 256)] 5)) (.slice p acc.length c) acc := hW.later (below_new _ _)
      have hs1 : BytesAt (wr.heap.size + 1) (wr.alloc (.cells #[.int .u8 ((n / 2 ^ (8 * j)) % 256)] 5)) (.slice (some ⟨wr.heap.size, 0, none⟩) 1 1) [byteN (n / 2 ^ (8 * j))] := by
        refine ⟨_, 1, rfl, Nat.le_refl _, by unfold maxLen; omega, (fun h => by cases h), fun a ha => ?_⟩
        cases ha
        refine ⟨_, 0, rfl, by omega, fun i c hi => ?_⟩
        cases i with
        | zero =>
          simp at hi
          subst hi
          rw [byteN_int]
          exact cell_at (heap_alloc_new wr _) 0 _ rfl
        | succ i => simp at hi
      obtain ⟨v', w', hrun, hO, hgr⟩ := run_app_bytes _ B _ _ _ _ _ hW1 hs1 (by omega) (by simp) (by simp; omega)
      have hb1 := hb.trans (((below_new wr (.cells #[.int .u8 ((n / 2 ^ (8 * j)) % 256)] 5)).mono hBs).trans (hW1.below hgr (by simp; omega)))
      obtain ⟨p', c', rfl⟩ := row_slice hO
      generalize acc ++ [byteN (n / 2 ^ (8 * j))] = acc2 at *
      clear hW hW1 hs1 hgr
      go_wp2_with (at_builtin; refine wpList_run_app rfl _ _ _ _ rfl _ _ _ rfl rfl (hrun _) ?_)
      go_roundw
      case rel => exact ⟨j, acc2, p', c', by rw [hlen], by omega, by go_num, hnext, by omega, hO, hb1⟩
      case measure => simp [intW]

set_option maxHeartbeats 1600000 in
set_option maxRecDepth 20000 in
theorem rtxt_any (B sz : Nat) (v : Value) (s l : Bs) (w : World) (h : Own B w v l) (hB : B ≤ w.heap.size) (hsz : sz ≤ 8) (hl : l.length ≤ 900000) (hs : s.length ≤ 100000) :
    Calls Tryz.prog 31 #[v, .string (bs s), .int .i64 sz] w fun e w' => ∃ v', e = .returned v' ∧ Own B w' v' (l ++ textB sz s) ∧ Below B w w' := by
  have hsz0 := bs_size s
  have C := rnum_any B sz v s.length l w h hB hsz (by omega)
  have ha : l ++ textB sz s = (l ++ numB sz s.length) ++ s := by unfold textB; rw [List.append_assoc]
  have hl2 : (l ++ numB sz s.length).length ≤ 900008 := by rw [List.length_append, numB_len]; omega
  rw [ha]
  generalize l ++ numB sz s.length = l2 at *
  obtain ⟨l3, hl3⟩ : ∃ l3, l2 ++ s = l3 := ⟨_, rfl⟩
  rw [hl3]
  replace hl3 : Hid _ := hl3
  obtain ⟨p0, c0, rfl⟩ := row_slice h
  go_enter Tryz.func31, Tryz.ntmps31
  go_wp2_with fail
  refine C.mono ?_
  rintro e w1 ⟨v1, rfl, hO, hb⟩
  have hO2 := hO.later (bytesWorld_below w1 (bs s))
  have hb2 := hb.trans ((bytesWorld_below w1 (bs s)).mono (Nat.le_trans hB hb.size))
  have hsb := bytesWorld_bytes w1 s (by omega) (Lib.bytesWorld w1 5 (bs s)) (w1.heap.size + 1) rfl (by omega)
  have cv := str_to_bytes s w1
  obtain ⟨v', w', hrun, hO3, hgr⟩ := run_app_bytes _ B _ _ _ _ _ hO2 hsb (by omega) (by omega) (Nat.le_trans hB hb2.size)
  have hb3 := hb2.trans (hO2.below hgr (Nat.le_trans hB hb2.size))
  obtain ⟨p1, c1, rfl⟩ := row_slice hO
  rw [hl3.out] at hO3
  obtain ⟨p2, c2, rfl⟩ := row_slice hO3
  clear C h hO hO2 hgr hsb ha
  go_wp2_with (at_builtin; refine wpList_run_app rfl _ _ _ _ rfl _ _ _ rfl rfl (hrun _) ?_)
  go_ret
  exact ⟨_, rfl, hO3, hb3⟩

set_option maxHeartbeats 1600000 in
set_option maxRecDepth 20000 in
theorem rreq_any (r : Rq) (w : World) (hn : r.name.length ≤ 1000) (ht : r.text.length ≤ 1000) :
    Calls Tryz.prog 15 #[rqVal r] w fun e w' => ∃ v, e = .returned v ∧ Own w.heap.size w' v (headed 2 (reqB r)) ∧ Below w.heap.size w w' := by
  obtain ⟨k, n, t, v⟩ := r
  simp only at hn ht
  unfold rqVal
  simp only
  have hb0 := below_new w (.cells #[.int .i64 k, .string (bs n), .string (bs t), .int .i64 v] 27)
  have L0 := heap_alloc_new w (.cells #[.int .i64 k, .string (bs n), .string (bs t), .int .i64 v] 27)
  have hz : (w.alloc (.cells #[.int .i64 k, .string (bs n), .string (bs t), .int .i64 v] 27)).heap.size = w.heap.size + 1 := by simp
  obtain ⟨tl, htl⟩ : ∃ tl, tailB ⟨k, n, t, v⟩ = tl := ⟨_, rfl⟩
  obtain ⟨hd, hhd⟩ : ∃ hd, headed 2 (reqB ⟨k, n, t, v⟩) = hd := ⟨_, rfl⟩
  rw [hhd]
  obtain ⟨b1, hb1⟩ : ∃ b1, numB 1 k ++ textB 1 n = b1 := ⟨_, rfl⟩
  have hl1 : b1.length ≤ 1002 := by rw [← hb1, List.length_append, numB_len, textB_len]; omega
  replace hhd : Hid (numB 2 ((b1 ++ tl).length) ++ (b1 ++ tl) = hd) := by
    rw [← htl, ← hb1, List.append_assoc]; exact hhd
  replace hb1 : Hid _ := hb1
  have htl2 := htl
  unfold tailB at htl2
  simp only at htl2
  replace htl : Hid _ := htl
  replace htl2 : Hid _ := htl2
  go_enter Tryz.func15, Tryz.ntmps15
  go_upto_region 1 with fail
  generalize w.alloc (.cells #[.int .i64 k, .string (bs n), .string (bs t), .int .i64 v] 27) = w1 at *
  go_cut [3] from 4 to 9 (fun v3 wx => ∃ p c, v3 = .slice p b1.length c ∧ Own (w.heap.size + 1) wx (.slice p b1.length c) b1 ∧ Below (w.heap.size + 1) w1 wx)
  case first =>
    have a0 := cell_at (w := w1.drew) L0 0 _ rfl
    have a1 := cell_at (w := w1.drew) L0 1 _ rfl
    have C := rnum_any (w.heap.size + 1) 1 (.slice none 0 0) k [] w1.drew (own_nil _ _) (by show w.heap.size + 1 ≤ w1.heap.size; omega) (by omega) (by simp)
    have hbd : Below (w.heap.size + 1) w1 w1.drew := ⟨rfl, rfl, rfl, Nat.le_refl _, fun _ _ => rfl⟩
    go_region_with (first
      | (go_at_call 32; refine C.mono ?_; rintro e w2 ⟨v2, rfl, hO2, hb2⟩; have hB2 := hbd.trans hb2; have L2 := (hB2.block w.heap.size (by omega)).trans L0; have b1 := cell_at L2 1 _ rfl)
      | (go_at_call 31; refine (rtxt_any (w.heap.size + 1) 1 _ n _ _ hO2 (by have := hB2.size; omega) (by omega) (by simp [numB_len]) (by omega)).mono ?_; rintro e w3 ⟨v3, rfl, hO3, hb3⟩; have hB3 := hB2.trans hb3))
    all_goals
      rw [List.nil_append, hb1.out] at hO3
      obtain ⟨p3, c3, rfl⟩ := row_slice hO3
      clear C hO2 hb2 hB2 L2
      go_wp2_with fail
      go_meet
      exact ⟨_, _, rfl, hO3, hB3⟩
  case rest =>
  obtain ⟨p, c, rfl, hO, hB⟩ := hcut
  have L1 := (hB.block w.heap.size (by omega)).trans L0
  have a0 := cell_at L1 0 _ rfl
  have a2 := cell_at L1 2 _ rfl
  have a3 := cell_at L1 3 _ rfl
  have B1 : Below w.heap.size w wc := hb0.trans (hB.mono (by omega))
  have hs1 : w.heap.size + 1 ≤ wc.heap.size := by have := hB.size; omega
  have fin : ∀ (wx : World) (px : Option Addr) (cx : Nat) (body : Bs), Own (w.heap.size + 1) wx (.slice px body.length cx) body → w.heap.size + 1 ≤ wx.heap.size → Below w.heap.size w wx → body.length ≤ 3000 →
      Calls Tryz.prog 32 #[.slice none 0 0, .int .i64 body.length, .int .i64 2] wx fun e w' => ∃ p2 c2, e = .returned (.slice p2 2 c2) ∧ ∃ p4 c4 w5, (∀ ty, (Builtin.append_ #[23, 23] ty #[.slice p2 2 c2, .slice px body.length cx]).run Tryz.prog w' = .ok (.slice p4 (numB 2 body.length ++ body).length c4) w5) ∧ Own w.heap.size w5 (.slice p4 (numB 2 body.length ++ body).length c4) (numB 2 body.length ++ body) ∧ Below w.heap.size w w5 := by
    intro wx px cx body hOx hsx hBx hlx
    refine (rnum_any wx.heap.size 2 (.slice none 0 0) body.length [] wx (own_nil _ _) (Nat.le_refl _) (by omega) (by simp)).mono ?_
    rintro e w' ⟨v', rfl, hO', hb'⟩
    rw [List.nil_append] at hO'
    obtain ⟨p2, c2, rfl⟩ := row_slice hO'
    rw [numB_len] at hO' ⊢
    refine ⟨p2, c2, rfl, ?_⟩
    have hby := (hOx.later hb').bytes (Nat.le_refl w'.heap.size)
    obtain ⟨v5, w5, hrun, hO5, hgr⟩ := run_app_bytes _ wx.heap.size _ _ _ _ _ hO' hby (by rw [numB_len]; omega) (by omega) hb'.size
    obtain ⟨p4, c4, rfl⟩ := row_slice hO5
    have hb5 := hb'.trans (hO'.below hgr hb'.size)
    exact ⟨p4, c4, w5, hrun, hO5.low (by omega), hBx.trans (hb5.mono (by omega))⟩
  clear hB L1 L0 hb0
  by_cases h1 : k = 1 ∨ k = 3
  · have htl3 : textB 2 t = tl := by have := htl2.out; rw [if_pos h1] at this; exact this
    have hhd2 : numB 2 ((b1 ++ textB 2 t).length) ++ (b1 ++ textB 2 t) = hd := by rw [htl3]; exact hhd.out
    have C := rtxt_any (w.heap.size + 1) 2 _ t _ wc hO hs1 (by omega) (by omega) (by omega)
    have hl2 : (b1 ++ textB 2 t).length ≤ 3000 := by rw [List.length_append, textB_len]; omega
    generalize b1 ++ textB 2 t = body at *
    clear hhd htl htl2 htl3
    rcases h1 with rfl | rfl
    all_goals
      go_wp2_with fail
      refine C.mono ?_
      rintro e w2 ⟨v2, rfl, hO2, hb2⟩
      obtain ⟨p2, c2, rfl⟩ := row_slice hO2
      have F := fin w2 p2 c2 body hO2 (Nat.le_trans hs1 hb2.size) (B1.trans (hb2.mono (by omega))) hl2
      rw [hhd2] at F
      clear C hO2 hb2
      go_wp2_with fail
      refine F.mono ?_
      rintro e w3 ⟨p3, c3, rfl, p4, c4, w5, hrun, hO5, hb5⟩
      go_wp2_with (at_builtin; refine wpList_run_app rfl _ _ _ _ rfl _ _ _ rfl rfl (hrun _) ?_)
      go_ret
      exact ⟨_, rfl, hO5, hb5⟩
  · have k1 : (k == 1) = false := by rw [beq_eq_false_iff_ne]; omega
    have k3 : (k == 3) = false := by rw [beq_eq_false_iff_ne]; omega
    by_cases h5 : k = 5
    · subst h5
      have htl3 : numB 8 v = tl := by have := htl2.out; rw [if_neg h1, if_pos rfl] at this; exact this
      have hhd2 : numB 2 ((b1 ++ numB 8 v).length) ++ (b1 ++ numB 8 v) = hd := by rw [htl3]; exact hhd.out
      have C := rnum_any (w.heap.size + 1) 8 _ v _ wc hO hs1 (by omega) (by omega)
      have hl2 : (b1 ++ numB 8 v).length ≤ 3000 := by rw [List.length_append, numB_len]; omega
      generalize b1 ++ numB 8 v = body at *
      clear hhd htl htl2 htl3 h1
      go_wp2_with fail
      refine C.mono ?_
      rintro e w2 ⟨v2, rfl, hO2, hb2⟩
      obtain ⟨p2, c2, rfl⟩ := row_slice hO2
      have F := fin w2 p2 c2 body hO2 (Nat.le_trans hs1 hb2.size) (B1.trans (hb2.mono (by omega))) hl2
      rw [hhd2] at F
      clear C hO2 hb2
      go_wp2_with fail
      refine F.mono ?_
      rintro e w3 ⟨p3, c3, rfl, p4, c4, w5, hrun, hO5, hb5⟩
      go_wp2_with (at_builtin; refine wpList_run_app rfl _ _ _ _ rfl _ _ _ rfl rfl (hrun _) ?_)
      go_ret
      exact ⟨_, rfl, hO5, hb5⟩
    · have k5 : (k == 5) = false := by rw [beq_eq_false_iff_ne]; omega
      have htl3 : [] = tl := by have := htl2.out; rw [if_neg h1, if_neg h5] at this; exact this
      have hhd2 : numB 2 (b1.length) ++ b1 = hd := by have := hhd.out; rw [← htl3, List.append_nil] at this; exact this
      have F := fin wc p c _ hO hs1 B1 (by omega)
      rw [hhd2] at F
      clear hhd htl htl2 htl3 h1 h5 hhd2
      go_wp2_with fail
      refine F.mono ?_
      rintro e w3 ⟨p3, c3, rfl, p4, c4, w5, hrun, hO5, hb5⟩
      go_wp2_with (at_builtin; refine wpList_run_app rfl _ _ _ _ rfl _ _ _ rfl rfl (hrun _) ?_)
      go_ret
      exact ⟨_, rfl, hO5, hb5⟩
end Go.Proofs.YtkaclahcpmogaaaGreatDoor
