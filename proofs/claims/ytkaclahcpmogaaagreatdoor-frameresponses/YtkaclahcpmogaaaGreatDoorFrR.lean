/- frame.ReadResponse. -/
import Derived.Test.YtkaclahcpmogaaaGreatDoorFrQ
namespace Go.Proofs.YtkaclahcpmogaaaGreatDoor
open Go.ChangeShapes Go.WideShapes Go.ChangeAt Go.RowKit
set_option linter.unusedVariables false
set_option linter.unusedSimpArgs false

theorem numP_le (n : Nat) (s : Rs) : (numP n s).2.left.length ≤ s.left.length := (takeP_le n s).2
theorem valN1 (l : Bs) (h : l.length ≤ 1) : valN l < 256 := by
  cases l with
  | nil => show (0 : Int) < 256; omega
  | cons a l =>
    cases l with
    | nil =>
      have h1 := acc_step 0 a 1 (by omega) (by omega) (by omega)
      have e : valN [a] = accN 0 a := by simp only [valN, List.foldl_cons, List.foldl_nil]
      rw [e]; omega
    | cons b l => simp only [List.length_cons] at h; omega
theorem textR1_le (s : Rs) : (textR 1 s).1.length ≤ 255 := by
  have h1 : (numP 1 s).1 < 256 := valN1 _ (takeP_len 1 s)
  have h2 := takeP_len (numP 1 s).1.toNat (numP 1 s).2
  unfold textR
  omega
theorem diagR_le (s : Rs) : (diagR s).1.frag.length ≤ s.left.length ∧ (diagR s).2.left.length ≤ s.left.length := by
  have h1 := textR_le 1 s
  have h2 := numP_le 2 (textR 1 s).2
  have h3 := numP_le 1 (numP 2 (textR 1 s).2).2
  unfold diagR
  simp only
  omega
theorem diagsR_le (n : Nat) (s : Rs) : ∀ d ∈ (diagsR n s).1, d.frag.length ≤ 255 := by
  induction n generalizing s with
  | zero => intro d hd; cases hd
  | succ n ih =>
    intro d hd
    have h := textR1_le s
    simp only [diagsR, List.mem_cons] at hd
    rcases hd with rfl | hd
    · exact h
    · exact ih _ d hd
theorem respR_le (s : Rs) : (respR s).1.text.length ≤ s.left.length ∧ (respR s).1.image.length ≤ s.left.length ∧ (respR s).1.diags.length ≤ s.left.length ∧ ∀ d ∈ (respR s).1.diags, d.frag.length ≤ 255 := by
  have h1 := numP_le 1 s
  have h2 := textR_le 2 (numP 1 s).2
  have h3 := textR_le 2 (textR 2 (numP 1 s).2).2
  have h4 := numP_le 2 (textR 2 (textR 2 (numP 1 s).2).2).2
  have h5 : (countP 2 (textR 2 (textR 2 (numP 1 s).2).2).2).1.toNat ≤ s.left.length ∧ (countP 2 (textR 2 (textR 2 (numP 1 s).2).2).2).2.left.length ≤ s.left.length := by
    unfold countP
    split
    · simp
    · exact ⟨by omega, by omega⟩
  unfold respR
  simp only [diagsR_len]
  refine ⟨by omega, by omega, h5.1, fun d hd => diagsR_le _ _ d hd⟩

/-- Bytes that lie behind a block stay when that is written. -/
structure BytesOff (N L : Nat) (w : World) (v : Value) (l : Bs) : Prop where
  at' : BytesAt L w v l
  off : ∀ g, v.ownBlock = some g → N < g
theorem bytes_off {N M L : Nat} {w : World} {v : Value} {l : Bs} (h : BytesAt L w v l) (ho : ∀ g, v.ownBlock = some g → M ≤ g) (hM : N < M) : BytesOff N L w v l := ⟨h, fun g hg => by have := ho g hg; omega⟩
theorem BytesOff.put {N L : Nat} {w : World} {v : Value} {l : Bs} (h : BytesOff N L w v l) (k : Nat) (b0 b1 b2 b3 : Value) {M : Nat} (hk : k < M) (e : N = k := by rfl) : BytesAt L (put4 w k b0 b1 b2 b3) v l := by
  subst e
  obtain ⟨⟨p, cap, rfl, hc, hm, hn, h1⟩, h2⟩ := h
  refine ⟨p, cap, rfl, hc, hm, hn, fun a ha => ?_⟩
  obtain ⟨g, o, rfl, hl, h3⟩ := h1 a ha
  have hgk : N < g := h2 g (by subst ha; rfl)
  exact ⟨g, o, rfl, hl, fun i c hi => by rw [cell_of_block (put4_block _ _ _ _ _ _ _ (by simp only; omega))]; exact h3 i c hi⟩
structure DiagsOff (N L : Nat) (w : World) (v : Value) (l : List Dg) : Prop where
  at' : DiagsAt L w v l
  off : ∀ g, v.ownBlock = some g → N < g
theorem diags_off {N M L : Nat} {w : World} {v : Value} {l : List Dg} (h : DiagsAt L w v l) (ho : ∀ g, v.ownBlock = some g → M ≤ g) (hM : N < M) : DiagsOff N L w v l := ⟨h, fun g hg => by have := ho g hg; omega⟩
theorem DiagsOff.put {N L : Nat} {w : World} {v : Value} {l : List Dg} (h : DiagsOff N L w v l) (k : Nat) (b0 b1 b2 b3 : Value) {M : Nat} (hk : k < M) (e : N = k := by rfl) : DiagsAt L (put4 w k b0 b1 b2 b3) v l := by
  subst e
  obtain ⟨⟨p, cap, rfl, hc, hm, hn, h1⟩, h2⟩ := h
  refine ⟨p, cap, rfl, hc, hm, hn, fun a ha => ?_⟩
  obtain ⟨g, o, rfl, hl, h3⟩ := h1 a ha
  have hgk : N < g := h2 g (by subst ha; rfl)
  exact ⟨g, o, rfl, hl, fun i c hi => by rw [cell_of_block (put4_block _ _ _ _ _ _ _ (by simp only; omega))]; exact h3 i c hi⟩

set_option maxHeartbeats 1600000 in
set_option maxRecDepth 100000 in
theorem readResp_any (v : Value) (b : Bs) (w : World) (T : Tab w) (hB : BytesAt w.heap.size w v b) :
    Calls Tryz.prog 19 #[v] w fun e w' => ∃ iv dv, e = .returned (.tuple #[.agg #[.int .i64 (readRespP b).1.e, .string (bs (readRespP b).1.text), iv, dv], .int .i64 (readRespP b).2.1, .bool (readRespP b).2.2]) ∧ BytesAt w'.heap.size w' iv (readRespP b).1.image ∧ DiagsAt w'.heap.size w' dv (readRespP b).1.diags ∧ Below w.heap.size w w' := by
  have hb0 := below_new w (.cells #[.int .i64 0, .string (bs []), .slice none 0 0, .slice none 0 0] 42)
  have O := opened_any w.heap.size 3 v b _ (hB.later hb0) (by simp) (by omega)
  have hnb := numP_bound 3 ⟨b, false⟩ (by omega)
  obtain ⟨A, hA⟩ : ∃ A, readRespP b = A := ⟨_, rfl⟩
  rw [hA]
  unfold readRespP at hA
  generalize numP 3 ⟨b, false⟩ = r at *
  obtain ⟨n, left, short⟩ := r
  simp only at O hnb hA
  obtain ⟨m, rfl⟩ : ∃ m : Nat, n = m := ⟨n.toNat, by omega⟩
  simp only [Int.toNat_natCast] at hA
  have F := fun x W v b (hB : BytesAt x W v b) hb X => filled_resp x v b W hB hb X
  replace hA : Hid _ := hA
  go_enter Tryz.func19, Tryz.ntmps19
  go_wp2_with fail
  refine O.mono ?_
  rintro e w1 ⟨v', rfl, hB1, hb1⟩
  have B1 := hb0.trans (hb1.mono hb0.size)
  have z0 := fun i x h => kept_cell hb1 (new_cell (w := w) (t := 42) #[.int .i64 0, .string (bs []), .slice none 0 0, .slice none 0 0] i x h)
  have a0 := z0 0 _ rfl
  have a1 := z0 1 _ rfl
  have a2 := z0 2 _ rfl
  have a3 := z0 3 _ rfl
  have g0 := kept_thawed hb1 (a := ⟨w.heap.size, 0, none⟩) (by simp) (new_thawed (w := w) (t := 42) #[.int .i64 0, .string (bs []), .slice none 0 0, .slice none 0 0] 0)
  have g1 := kept_thawed hb1 (a := ⟨w.heap.size, 1, none⟩) (by simp) (new_thawed (w := w) (t := 42) #[.int .i64 0, .string (bs []), .slice none 0 0, .slice none 0 0] 1)
  have g2 := kept_thawed hb1 (a := ⟨w.heap.size, 2, none⟩) (by simp) (new_thawed (w := w) (t := 42) #[.int .i64 0, .string (bs []), .slice none 0 0, .slice none 0 0] 2)
  have g3 := kept_thawed hb1 (a := ⟨w.heap.size, 3, none⟩) (by simp) (new_thawed (w := w) (t := 42) #[.int .i64 0, .string (bs []), .slice none 0 0, .slice none 0 0] 3)
  have hwl : w.heap.size < w1.heap.size := by have := hb1.size; simp at this; omega
  clear O z0 hb1 hb0
  obtain ⟨p, cap, rfl, hc, hm, hnone, hB2⟩ := id hB1
  have X0 : Blk w1 w.heap.size (.int .i64 0) (.string (bs [])) (.slice none 0 0) (.slice none 0 0) := ⟨a0, a1, a2, a3, g0, g1, g2, g3⟩
  have Z := X0.put (.int .i64 0) (.string ⟨#[]⟩) (.slice none 0 0) (.slice none 0 0)
  have BZ := below_put B1 (Nat.le_refl _) (.int .i64 0) (.string ⟨#[]⟩) (.slice none 0 0) (.slice none 0 0)
  obtain ⟨z0, z1, z2, z3, _, _, _, _⟩ := id Z
  unfold put4 at z0 z1 z2 z3 BZ
  cases short with
  | true =>
    have hZ : Hid ((Rp.zero, (0 : Int), false) = A) := by
      have h := hA.out
      rw [if_pos (.inl rfl)] at h
      exact h
    clear hA
    go_wp2_with fail
    exact bodyPost_ret (v := .tuple #[.agg #[.int .i64 0, .string (bs []), .slice none 0 0, .slice none 0 0], .int .i64 0, .bool false]) (by simp [results, Tryz.results19, go_sem, z0, z1, z2, z3, bs]) rfl (by rw [← hZ.out]; exact ⟨_, _, rfl, bytesAt_none _ _, diagsAt_none _ _, BZ⟩)
  | false =>
    by_cases hlong : (left.length : Int) < (m : Int)
    · have hZ : Hid ((Rp.zero, (0 : Int), false) = A) := by
        have h := hA.out
        rw [if_pos (.inr hlong)] at h
        exact h
      clear hA hnb
      go_wp2_with fail
      exact bodyPost_ret (v := .tuple #[.agg #[.int .i64 0, .string (bs []), .slice none 0 0, .slice none 0 0], .int .i64 0, .bool false]) (by simp [results, Tryz.results19, go_sem, z0, z1, z2, z3, bs]) rfl (by rw [← hZ.out]; exact ⟨_, _, rfl, bytesAt_none _ _, diagsAt_none _ _, BZ⟩)
    · have hn2 : ¬ (false = true ∨ (left.length : Int) < (m : Int)) := by
        rintro (h | h)
        · cases h
        · exact hlong h
      have hA2 := hA.out
      rw [if_neg hn2] at hA2
      clear hA hn2
      have hle := respR_le ⟨left.take m, false⟩
      simp only at hle
      have htl : (left.take m).length ≤ 16777216 := by rw [List.length_take]; omega
      have hm0 : (0 : Int) ≤ (m : Int) := by omega
      have hmc : (m : Int) ≤ (cap : Int) := by omega
      have hH : BytesAt w.heap.size w1 (.slice p m m) (left.take m) := by
        cases p with
        | none =>
          have := hnone rfl
          have h0 : left = [] := List.eq_nil_of_length_eq_zero (by omega)
          have hm' : m = 0 := by omega
          subst h0 hm'
          exact bytesAt_none _ _
        | some a =>
          obtain ⟨g, o, rfl, _⟩ := hB2 a rfl
          exact hB1.head m (by omega)
      have hX := below_new w1 (.cells #[.int .i64 0, .string ⟨#[]⟩, .slice none 0 0, .slice none 0 0] 77)
      have FF := F w1.heap.size _ (.slice p m m) (left.take m) ((hH.mono (Nat.le_of_lt hwl)).later hX) (by omega) (heap_alloc_new w1 _)
      have R := fun W T iv dv hI hD => rpRight_any W.heap.size (respR ⟨left.take m, false⟩).1 iv dv W T hI hD (Nat.le_refl _) (fun d hd => by have := hle.2.2.2 d hd; omega) (by omega) (by omega) (by omega)
      generalize respR ⟨left.take m, false⟩ = r at *
      obtain ⟨⟨er, t, im, ds⟩, left', short'⟩ := r
      simp only at hA2 FF R
      have hA : Hid _ := hA2
      clear hA2
      have hw64 : wrap64 (3 + (m : Int)) = 3 + (m : Int) := wrap64_at (by omega) (by omega)
      have Xw := fun w3 (h : Below w1.heap.size w1 w3) => X0.later (w' := w3) h
      have Bw := fun w3 (h : Below w1.heap.size w1 w3) => B1.trans (h.mono B1.size)
      have Tw := fun w3 (h : Below w1.heap.size w1 w3) => T.later (Bw w3 h)
      clear hB2 hB1 hH F hnb htl hle a0 a1 a2 a3 g0 g1 g2 g3 Z BZ z0 z1 z2 z3 hB
      cases p with
      | none =>
        have hcap := hnone rfl
        subst hcap
        have hm' : m = 0 := by omega
        have hl0 : left = [] := List.eq_nil_of_length_eq_zero (by omega)
        subst hm' hl0
        go_wp2_with fail
        refine FF.mono ?_
        rintro e w3 ⟨rfl, X3, b3⟩
        have B3 : Below w1.heap.size w1 w3 := hX.trans b3
        have X3' := Xw w3 B3
        obtain ⟨iv, dv, L3, hI, hD, hIN, hDN⟩ := X3
        have hx3 : w1.heap.size < w3.heap.size := (Array.getElem?_eq_some_iff.1 L3).1
        simp only at L3
        have c0 := cell_at L3 0 _ rfl
        have c1 := cell_at L3 1 _ rfl
        have c2 := cell_at L3 2 _ rfl
        have c3 := cell_at L3 3 _ rfl
        obtain ⟨ip, ic, hiv, _, _, hin, _⟩ := id hI
        obtain ⟨dp, dc, hdv, _, _, hdn, _⟩ := id hD
        clear FF b3 hX
        obtain ⟨fb, hfb⟩ : ∃ fb, (!short' && decide (left' = [])) = fb := ⟨_, rfl⟩
        rw [hfb]
        cases fb with
        | false =>
          have hZ : Hid ((Rp.zero, (0 : Int), false) = A) := by
            have h := hA.out
            rw [if_neg (by rintro ⟨h1, h2, _⟩; rw [h1, h2] at hfb; cases hfb)] at h
            exact h
          clear hA hfb
          have BZ := below_put (Bw w3 B3) (Nat.le_refl _) (.int .i64 0) (.string ⟨#[]⟩) (.slice none 0 0) (.slice none 0 0)
          obtain ⟨z0, z1, z2, z3, _, _, _, _⟩ := X3'.put (.int .i64 0) (.string ⟨#[]⟩) (.slice none 0 0) (.slice none 0 0)
          obtain ⟨a0, a1, a2, a3, g0, g1, g2, g3⟩ := X3'
          unfold put4 at z0 z1 z2 z3 BZ
          clear hI hD
          go_wp2_with fail
          exact bodyPost_ret (v := .tuple #[.agg #[.int .i64 0, .string (bs []), .slice none 0 0, .slice none 0 0], .int .i64 0, .bool false]) (by simp [results, Tryz.results19, go_sem, z0, z1, z2, z3, bs]) rfl (by rw [← hZ.out]; exact ⟨_, _, rfl, bytesAt_none _ _, diagsAt_none _ _, BZ⟩)
        | true =>
          have hs2 : short' = false ∧ left' = [] := by
            rw [Bool.and_eq_true] at hfb
            refine ⟨by cases short' with
              | false => rfl
              | true => exact absurd hfb.1 (by decide), of_decide_eq_true hfb.2⟩
          obtain ⟨a0, a1, a2, a3, g0, g1, g2, g3⟩ := X3'
          have RR := R w3 (Tw w3 B3) iv dv hI hD
          simp only at hiv hdv
          subst hiv hdv
          go_wp2_with fail
          refine RR.mono ?_
          rintro e w4 ⟨rfl, b4⟩
          have B4 : Below w1.heap.size w1 w4 := B3.trans (b4.mono (Nat.le_of_lt hx3))
          have X4 := Xw w4 B4
          have d0 := kept_cell b4 c0
          have d1 := kept_cell b4 c1
          have d2 := kept_cell b4 c2
          have d3 := kept_cell b4 c3
          have hI4 := (hI.later b4).mono b4.size
          have hD4 := (hD.later b4).mono b4.size
          clear a0 a1 a2 a3 g0 g1 g2 g3 c0 c1 c2 c3 R RR hI hD L3
          cases hq : rpRight ⟨er, t, im, ds⟩ with
          | false =>
            have hZ : Hid ((Rp.zero, (0 : Int), false) = A) := by
              have h := hA.out
              rw [if_neg (by rintro ⟨_, _, h3⟩; rw [hq] at h3; cases h3)] at h
              exact h
            clear hA hfb hq hI4 hD4
            have BZ := below_put (Bw w4 B4) (Nat.le_refl _) (.int .i64 0) (.string ⟨#[]⟩) (.slice none 0 0) (.slice none 0 0)
            obtain ⟨z0, z1, z2, z3, _, _, _, _⟩ := X4.put (.int .i64 0) (.string ⟨#[]⟩) (.slice none 0 0) (.slice none 0 0)
            obtain ⟨a0, a1, a2, a3, g0, g1, g2, g3⟩ := X4
            unfold put4 at z0 z1 z2 z3 BZ
            go_wp2_with fail
            exact bodyPost_ret (v := .tuple #[.agg #[.int .i64 0, .string (bs []), .slice none 0 0, .slice none 0 0], .int .i64 0, .bool false]) (by simp [results, Tryz.results19, go_sem, z0, z1, z2, z3, bs]) rfl (by rw [← hZ.out]; exact ⟨_, _, rfl, bytesAt_none _ _, diagsAt_none _ _, BZ⟩)
          | true =>
            have hZ : Hid (((⟨er, t, im, ds⟩ : Rp), 3 + ((0 : Nat) : Int), true) = A) := by
              have h := hA.out
              rw [if_pos ⟨hs2.1, hs2.2, hq⟩] at h
              exact h
            clear hA hfb hq hs2
            have BZ := below_put (Bw w4 B4) (Nat.le_refl _) (.int .i64 er) (.string (bs t)) (.slice ip im.length ic) (.slice dp ds.length dc)
            have hsz := put4_size w4 w.heap.size (.int .i64 er) (.string (bs t)) (.slice ip im.length ic) (.slice dp ds.length dc)
            have hI5 := (bytes_off (N := w.heap.size) hI4 hIN (by simp; omega)).put w.heap.size (.int .i64 er) (.string (bs t)) (.slice ip im.length ic) (.slice dp ds.length dc) hwl
            have hD5 := (diags_off (N := w.heap.size) hD4 hDN (by simp; omega)).put w.heap.size (.int .i64 er) (.string (bs t)) (.slice ip im.length ic) (.slice dp ds.length dc) hwl
            obtain ⟨z0, z1, z2, z3, _, _, _, _⟩ := X4.put (.int .i64 er) (.string (bs t)) (.slice ip im.length ic) (.slice dp ds.length dc)
            obtain ⟨a0, a1, a2, a3, g0, g1, g2, g3⟩ := X4
            rw [← hsz] at hI5 hD5
            unfold put4 at z0 z1 z2 z3 BZ hI5 hD5
            clear hI4 hD4 hsz
            go_wp2_with fail
            exact bodyPost_ret (v := .tuple #[.agg #[.int .i64 er, .string (bs t), .slice ip im.length ic, .slice dp ds.length dc], .int .i64 (3 + ((0 : Nat) : Int)), .bool true]) (by simp [results, Tryz.results19, go_sem, z0, z1, z2, z3]) rfl (by rw [← hZ.out]; exact ⟨_, _, rfl, hI5, hD5, BZ⟩)
      | some a =>
        go_wp2_with fail
        refine FF.mono ?_
        rintro e w3 ⟨rfl, X3, b3⟩
        have B3 : Below w1.heap.size w1 w3 := hX.trans b3
        have X3' := Xw w3 B3
        obtain ⟨iv, dv, L3, hI, hD, hIN, hDN⟩ := X3
        have hx3 : w1.heap.size < w3.heap.size := (Array.getElem?_eq_some_iff.1 L3).1
        simp only at L3
        have c0 := cell_at L3 0 _ rfl
        have c1 := cell_at L3 1 _ rfl
        have c2 := cell_at L3 2 _ rfl
        have c3 := cell_at L3 3 _ rfl
        obtain ⟨ip, ic, hiv, _, _, hin, _⟩ := id hI
        obtain ⟨dp, dc, hdv, _, _, hdn, _⟩ := id hD
        clear FF b3 hX
        obtain ⟨fb, hfb⟩ : ∃ fb, (!short' && decide (left' = [])) = fb := ⟨_, rfl⟩
        rw [hfb]
        cases fb with
        | false =>
          have hZ : Hid ((Rp.zero, (0 : Int), false) = A) := by
            have h := hA.out
            rw [if_neg (by rintro ⟨h1, h2, _⟩; rw [h1, h2] at hfb; cases hfb)] at h
            exact h
          clear hA hfb
          have BZ := below_put (Bw w3 B3) (Nat.le_refl _) (.int .i64 0) (.string ⟨#[]⟩) (.slice none 0 0) (.slice none 0 0)
          obtain ⟨z0, z1, z2, z3, _, _, _, _⟩ := X3'.put (.int .i64 0) (.string ⟨#[]⟩) (.slice none 0 0) (.slice none 0 0)
          obtain ⟨a0, a1, a2, a3, g0, g1, g2, g3⟩ := X3'
          unfold put4 at z0 z1 z2 z3 BZ
          clear hI hD
          go_wp2_with fail
          exact bodyPost_ret (v := .tuple #[.agg #[.int .i64 0, .string (bs []), .slice none 0 0, .slice none 0 0], .int .i64 0, .bool false]) (by simp [results, Tryz.results19, go_sem, z0, z1, z2, z3, bs]) rfl (by rw [← hZ.out]; exact ⟨_, _, rfl, bytesAt_none _ _, diagsAt_none _ _, BZ⟩)
        | true =>
          have hs2 : short' = false ∧ left' = [] := by
            rw [Bool.and_eq_true] at hfb
            refine ⟨by cases short' with
              | false => rfl
              | true => exact absurd hfb.1 (by decide), of_decide_eq_true hfb.2⟩
          obtain ⟨a0, a1, a2, a3, g0, g1, g2, g3⟩ := X3'
          have RR := R w3 (Tw w3 B3) iv dv hI hD
          simp only at hiv hdv
          subst hiv hdv
          go_wp2_with fail
          refine RR.mono ?_
          rintro e w4 ⟨rfl, b4⟩
          have B4 : Below w1.heap.size w1 w4 := B3.trans (b4.mono (Nat.le_of_lt hx3))
          have X4 := Xw w4 B4
          have d0 := kept_cell b4 c0
          have d1 := kept_cell b4 c1
          have d2 := kept_cell b4 c2
          have d3 := kept_cell b4 c3
          have hI4 := (hI.later b4).mono b4.size
          have hD4 := (hD.later b4).mono b4.size
          clear a0 a1 a2 a3 g0 g1 g2 g3 c0 c1 c2 c3 R RR hI hD L3
          cases hq : rpRight ⟨er, t, im, ds⟩ with
          | false =>
            have hZ : Hid ((Rp.zero, (0 : Int), false) = A) := by
              have h := hA.out
              rw [if_neg (by rintro ⟨_, _, h3⟩; rw [hq] at h3; cases h3)] at h
              exact h
            clear hA hfb hq hI4 hD4
            have BZ := below_put (Bw w4 B4) (Nat.le_refl _) (.int .i64 0) (.string ⟨#[]⟩) (.slice none 0 0) (.slice none 0 0)
            obtain ⟨z0, z1, z2, z3, _, _, _, _⟩ := X4.put (.int .i64 0) (.string ⟨#[]⟩) (.slice none 0 0) (.slice none 0 0)
            obtain ⟨a0, a1, a2, a3, g0, g1, g2, g3⟩ := X4
            unfold put4 at z0 z1 z2 z3 BZ
            go_wp2_with fail
            exact bodyPost_ret (v := .tuple #[.agg #[.int .i64 0, .string (bs []), .slice none 0 0, .slice none 0 0], .int .i64 0, .bool false]) (by simp [results, Tryz.results19, go_sem, z0, z1, z2, z3, bs]) rfl (by rw [← hZ.out]; exact ⟨_, _, rfl, bytesAt_none _ _, diagsAt_none _ _, BZ⟩)
          | true =>
            have hZ : Hid (((⟨er, t, im, ds⟩ : Rp), 3 + (m : Int), true) = A) := by
              have h := hA.out
              rw [if_pos ⟨hs2.1, hs2.2, hq⟩] at h
              exact h
            clear hA hfb hq hs2
            have BZ := below_put (Bw w4 B4) (Nat.le_refl _) (.int .i64 er) (.string (bs t)) (.slice ip im.length ic) (.slice dp ds.length dc)
            have hsz := put4_size w4 w.heap.size (.int .i64 er) (.string (bs t)) (.slice ip im.length ic) (.slice dp ds.length dc)
            have hI5 := (bytes_off (N := w.heap.size) hI4 hIN (by simp; omega)).put w.heap.size (.int .i64 er) (.string (bs t)) (.slice ip im.length ic) (.slice dp ds.length dc) hwl
            have hD5 := (diags_off (N := w.heap.size) hD4 hDN (by simp; omega)).put w.heap.size (.int .i64 er) (.string (bs t)) (.slice ip im.length ic) (.slice dp ds.length dc) hwl
            obtain ⟨z0, z1, z2, z3, _, _, _, _⟩ := X4.put (.int .i64 er) (.string (bs t)) (.slice ip im.length ic) (.slice dp ds.length dc)
            obtain ⟨a0, a1, a2, a3, g0, g1, g2, g3⟩ := X4
            rw [← hsz] at hI5 hD5
            unfold put4 at z0 z1 z2 z3 BZ hI5 hD5
            clear hI4 hD4 hsz
            go_wp2_with fail
            exact bodyPost_ret (v := .tuple #[.agg #[.int .i64 er, .string (bs t), .slice ip im.length ic, .slice dp ds.length dc], .int .i64 (3 + (m : Int)), .bool true]) (by simp [results, Tryz.results19, go_sem, z0, z1, z2, z3, hw64]) rfl (by rw [← hZ.out]; exact ⟨_, _, rfl, hI5, hD5, BZ⟩)
end Go.Proofs.YtkaclahcpmogaaaGreatDoor
