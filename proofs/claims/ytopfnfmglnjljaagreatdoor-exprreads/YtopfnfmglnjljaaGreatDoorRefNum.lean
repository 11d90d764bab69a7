/- The reference's reader: digit, number. -/
import Derived.Test.YtopfnfmglnjljaaGreatDoorRefRd
import Derived.Test.YtopfnfmglnjljaaGreatDoorRefP
namespace Go.Proofs.YtopfnfmglnjljaaGreatDoor.Rf
open Go.Proofs.YtopfnfmglnjljaaGreatDoor
open Go.ChangeShapes Go.WideShapes Go.ChangeAt Go.RowKit

set_option linter.unusedVariables false
set_option linter.unusedSimpArgs false

/-- A digit, or -1. -/
def digitI (base : Nat) (c : UInt8) : Int := match rdigit base c with
  | some d => d
  | none => -1

set_option maxRecDepth 20000 in
theorem digit_any (base : Nat) (hb : base = 10 ∨ base = 16) (c : UInt8) (w : World) :
    Calls Tryz.prog 68 #[.int .u8 c.toNat, .int .i64 base] w fun e w' => e = .returned (.int .i64 (digitI base c)) ∧ w' = w := by
  have hc := c.toNat_lt
  by_cases h1 : 48 ≤ c.toNat ∧ c.toNat ≤ 57
  · have e : digitI base c = (c.toNat : Int) - 48 := by unfold digitI rdigit; rw [if_pos h1]; simp only; omega
    rw [e]
    have i1 : (48 : Int) ≤ (c.toNat : Int) := by omega
    have i2 : (c.toNat : Int) ≤ 57 := by omega
    have i3 : IntKind.u8.wrap ((c.toNat : Int) - 48) = (c.toNat : Int) - 48 := IntWalk.u8_in _ (by omega)
    clear e h1
    go_enter Tryz.func68, Tryz.ntmps68
    go_wp2_with fail
    go_ret
    first | exact ⟨rfl, rfl⟩ | exact ⟨by simp [i3], rfl⟩
  · have d1 : (decide ((48 : Int) ≤ (c.toNat : Int)) && decide ((c.toNat : Int) ≤ 57)) = false := by
      cases h : (decide ((48 : Int) ≤ (c.toNat : Int)) && decide ((c.toNat : Int) ≤ 57)) with
      | false => rfl
      | true => simp at h; omega
    by_cases h2 : base = 16 ∧ 97 ≤ c.toNat ∧ c.toNat ≤ 102
    · have e : digitI base c = (c.toNat : Int) - 87 := by unfold digitI rdigit; rw [if_neg h1, if_pos h2]; simp only; omega
      rw [e]
      obtain ⟨rfl, i1, i2⟩ := h2
      have i0 : (48 : Int) ≤ (c.toNat : Int) := by omega
      have i0' : ¬ (c.toNat : Int) ≤ 57 := by omega
      replace i1 : (97 : Int) ≤ (c.toNat : Int) := by omega
      replace i2 : (c.toNat : Int) ≤ 102 := by omega
      have i3 : IntKind.u8.wrap ((c.toNat : Int) - 97) = (c.toNat : Int) - 97 := IntWalk.u8_in _ (by omega)
      have i4 : (c.toNat : Int) - 97 + 10 = (c.toNat : Int) - 87 := by omega
      clear e h1 d1
      go_enter Tryz.func68, Tryz.ntmps68
      go_wp2_with fail
      go_ret
      first | exact ⟨rfl, rfl⟩ | exact ⟨by simp [i3, i4], rfl⟩ | exact ⟨by simp [i3]; omega, rfl⟩
    · have e : digitI base c = -1 := by unfold digitI rdigit; rw [if_neg h1, if_neg h2]
      rw [e]
      clear e
      by_cases k1 : 48 ≤ c.toNat
      · have i0 : (48 : Int) ≤ (c.toNat : Int) := by omega
        have i0' : ¬ (c.toNat : Int) ≤ 57 := by omega
        rcases hb with rfl | rfl
        · clear h1 h2 d1
          go_enter Tryz.func68, Tryz.ntmps68
          go_wp2_with fail
          go_ret
          exact ⟨rfl, rfl⟩
        · by_cases k2 : 97 ≤ c.toNat
          · have i1 : (97 : Int) ≤ (c.toNat : Int) := by omega
            have i2 : ¬ (c.toNat : Int) ≤ 102 := by omega
            clear h1 h2 d1
            go_enter Tryz.func68, Tryz.ntmps68
            go_wp2_with fail
            go_ret
            exact ⟨rfl, rfl⟩
          · have i1 : ¬ (97 : Int) ≤ (c.toNat : Int) := by omega
            clear h1 h2 d1
            go_enter Tryz.func68, Tryz.ntmps68
            go_wp2_with fail
            go_ret
            exact ⟨rfl, rfl⟩
      · have i0 : ¬ (48 : Int) ≤ (c.toNat : Int) := by omega
        have i1 : ¬ (97 : Int) ≤ (c.toNat : Int) := by omega
        clear h1 h2 d1
        rcases hb with rfl | rfl
        · go_enter Tryz.func68, Tryz.ntmps68
          go_wp2_with fail
          go_ret
          exact ⟨rfl, rfl⟩
        · go_enter Tryz.func68, Tryz.ntmps68
          go_wp2_with fail
          go_ret
          exact ⟨rfl, rfl⟩

/-- What the reference's reader has told and left behind a call. -/
def RRead (n b d : Nat) (S : Bs) (W : World) (e : Ending) : Option (Ex × Bs) → Prop
  | some (x, s) => ∃ (v : Value) (q : Nat), e = .returned v ∧ ExAt (n ≤ ·) W v x ∧ RR W b S q d false ∧ S.drop q = s
  | none => ∃ (v : Value) (q : Nat), e = .returned v ∧ Four v ∧ RR W b S q d true

theorem num_end {S : Bs} {q : Nat} (h : S.length ≤ q) (base acc : Nat) : rnumGo base acc (S.drop q) = some (acc, S.drop q) := by
  rw [List.drop_eq_nil_of_le h]; rfl
theorem num_stop {S : Bs} {q base : Nat} {c : UInt8} (h : S[q]? = some c) (hc : rdigit base c = none) (acc : Nat) : rnumGo base acc (S.drop q) = some (acc, S.drop q) := by
  obtain ⟨hq, e⟩ := List.getElem?_eq_some_iff.1 h
  rw [List.drop_eq_getElem_cons hq, e]
  unfold rnumGo
  rw [hc]
theorem num_step {S : Bs} {q base dg : Nat} {c : UInt8} (h : S[q]? = some c) (hc : rdigit base c = some dg) (acc : Nat) : rnumGo base acc (S.drop q) = if 4294967296 ≤ base * acc + dg then none else rnumGo base (base * acc + dg) (S.drop (q + 1)) := by
  obtain ⟨hq, e⟩ := List.getElem?_eq_some_iff.1 h
  rw [List.drop_eq_getElem_cons hq, e]
  conv => lhs; unfold rnumGo
  rw [hc]
theorem num_none {S : Bs} {p base : Nat} (h : ∀ c, S[p]? = some c → rdigit base c = none) : rnumP base (S.drop p) = none := by
  by_cases hp : p < S.length
  · rw [List.drop_eq_getElem_cons hp]
    show (if (rdigit base S[p]).isNone then none else _) = none
    rw [h _ (List.getElem?_eq_getElem hp)]
    rfl
  · rw [List.drop_eq_nil_of_le (by omega)]; rfl
theorem num_some {S : Bs} {p base dg : Nat} {c : UInt8} (h : S[p]? = some c) (hc : rdigit base c = some dg) : rnumP base (S.drop p) = rnumGo base 0 (S.drop p) := by
  obtain ⟨hq, e⟩ := List.getElem?_eq_some_iff.1 h
  rw [List.drop_eq_getElem_cons hq, e]
  show (if (rdigit base c).isNone then none else _) = _
  rw [hc]
  rfl

theorem digitI_some {base : Nat} {c : UInt8} {dg : Nat} (h : rdigit base c = some dg) : digitI base c = dg := by unfold digitI; rw [h]
theorem digitI_none {base : Nat} {c : UInt8} (h : rdigit base c = none) : digitI base c = -1 := by unfold digitI; rw [h]
theorem rdigit_lt {base : Nat} {c : UInt8} {dg : Nat} (h : rdigit base c = some dg) : dg < 16 := by
  unfold rdigit at h
  split at h
  · have := Option.some.inj h; omega
  · split at h
    · have := Option.some.inj h; omega
    · cases h

set_option maxHeartbeats 4000000 in
set_option maxRecDepth 20000 in
theorem number_any (b : Nat) (S : Bs) (hl : S.length ≤ 35184372088832) (base : Nat) (hbase : base = 10 ∨ base = 16) (p d : Nat) (w : World) (h : RR w b S p d false) :
    Calls Tryz.prog 67 #[.pointer (some ⟨b, 0, none⟩), .int .i64 base] w fun e w' => Beside b w w' ∧ RRead w.heap.size b d S w' e (asNum (rnumP base (S.drop p))) := by
  have n0 := below_new w (.cells #[.int .i64 0, .int .i64 0, .string ⟨#[]⟩, .slice none 0 0] 27)
  have R0 := Blk.new w 27 (.int .i64 0) (.int .i64 0) (.string ⟨#[]⟩) (.slice none 0 0)
  have hbw := h.lt
  have h0 := h.later n0
  have hb0 := Beside.of n0 hbw
  have D := fun c W => digit_any base hbase c W
  obtain ⟨c0, c1, c2, c3, f0, f1, f2, f3, le⟩ := id h0
  go_enter Tryz.func67, Tryz.ntmps67
  go_wp2_with fail
  obtain ⟨W0, hW0⟩ : ∃ W, W = w.alloc (.cells #[.int .i64 0, .int .i64 0, .string ⟨#[]⟩, .slice none 0 0] 27) := ⟨_, rfl⟩
  have hsz0 : W0.heap.size = w.heap.size + 1 := by rw [hW0]; simp
  rw [← hW0] at n0 R0 h0 hb0 c0 c1 c2 c3 f0 f1 f2 f3 ⊢
  clear hW0
  go_quiet (fail)
  have h1 := h0.later (below_drewN W0 nq)
  have R1 := R0.later (below_drewN W0 nq)
  have hb1 := hb0.trans (Beside.of (below_drewN W0 nq) (by omega))
  have hsz1 : (W0.drewN nq).heap.size = w.heap.size + 1 := hsz0
  generalize W0.drewN nq = W1 at *
  clear h0 R0 hb0 c0 c1 c2 c3 f0 f1 f2 f3 n0
  go_wp2_with fail
  go_loopw [5] (fun n wr => Beside b w wr ∧ Blk wr w.heap.size (.int .i64 0) (.int .i64 0) (.string ⟨#[]⟩) (.slice none 0 0) ∧ ∃ (acc q : Nat), n = .int .i64 acc ∧ RR wr b S q d false ∧ p ≤ q ∧ acc < 4294967296 ∧
      Hid (rnumGo base acc (S.drop q) = rnumGo base 0 (S.drop p)) ∧ Hid (p < q → rnumP base (S.drop p) = rnumGo base 0 (S.drop p)) ∧ Hid (p = q → acc = 0)) (fun n wr => leftAt b S wr)
  case atStart => exact ⟨hb1, R1, 0, p, rfl, h1, Nat.le_refl _, by omega, rfl, fun h => by omega, fun _ => rfl⟩
  case round =>
    obtain ⟨hb, R, acc, q, rfl, hR, hpq, hacc, hG, hF, hZ⟩ := hrel
    obtain ⟨c0, c1, c2, c3, f0, f1, f2, f3, le⟩ := id hR
    have hlt := hR.lt
    have hsz := bs_size S
    by_cases hqn : q < S.length
    · obtain ⟨c, hc⟩ : ∃ c, S[q]? = some c := ⟨_, List.getElem?_eq_getElem hqn⟩
      have IX := fun w => index_at S q c hc w
      have hI : (q : Int) < (S.length : Int) := by omega
      have D1 := D c
      cases hd : rdigit base c with
      | none =>
        rw [digitI_none hd] at D1
        have HE : Hid (rnumGo base acc (S.drop q) = some (acc, S.drop q)) := num_stop hc hd acc
        go_wp2_with fail
        go_quiet (first | (go_at_call 68; exact Calls.quiet_of_same (D1 _)))
        clear D D1 IX
        have hR2 := hR.later (below_drewN wr nq)
        have R2 := R.later (below_drewN wr nq)
        have hb2 := hb.trans (Beside.of (below_drewN wr nq) hlt)
        generalize wr.drewN nq = W2 at *
        clear c0 c1 c2 c3 f0 f1 f2 f3 hR R hb
        obtain ⟨c0, c1, c2, c3, f0, f1, f2, f3, _⟩ := id hR2
        obtain ⟨x0, x1, x2, x3, g0, g1, g2, g3⟩ := id R2
        have hl2 := R2.lt
        by_cases hpe : p = q
        · subst hpe
          have E : Hid (rnumP base (S.drop p) = none) := num_none (fun c' hc' => by rw [hc] at hc'; cases hc'; exact hd)
          clear hF hG hZ
          go_wp2_with fail
          have R3 := (R2.other ⟨b, 3, none⟩ (.bool true) (Nat.ne_of_gt hbw)).put (.int .i64 1) (.int .i64 acc) (.string ⟨#[]⟩) (.slice none 0 0)
          have hR3 := hR2.spoil.put4 w.heap.size (.int .i64 1) (.int .i64 acc) (.string ⟨#[]⟩) (.slice none 0 0) (Nat.ne_of_lt hbw)
          have hb3 := (hb2.trans (Beside.set (a := ⟨b, 3, none⟩) _ rfl (.bool true))).putNew hbw (Nat.le_refl _) (.int .i64 1) (.int .i64 acc) (.string ⟨#[]⟩) (.slice none 0 0)
          obtain ⟨y0, y1, y2, y3, _, _, _, _⟩ := R3
          unfold put4 at y0 y1 y2 y3
          exact bodyPost_ret (v := .agg #[.int .i64 1, .int .i64 acc, .string ⟨#[]⟩, .slice none 0 0]) (by simp [results, Tryz.results67, go_sem, y0, y1, y2, y3]) rfl (by
            rw [E.out]
            exact ⟨hb3, _, p, rfl, ⟨_, _, _, _, _, _, rfl⟩, hR3⟩)
        · have e1 : ((p : Int) == (q : Int)) = false := by simp; omega
          have E : Hid (rnumP base (S.drop p) = some (acc, S.drop q)) := (hF.out (by omega)).trans (hG.out.symm.trans HE.out)
          clear hF hG hZ
          go_wp2_with fail
          have R3 := R2.put (.int .i64 1) (.int .i64 acc) (.string ⟨#[]⟩) (.slice none 0 0)
          have hR3 := hR2.put4 w.heap.size (.int .i64 1) (.int .i64 acc) (.string ⟨#[]⟩) (.slice none 0 0) (Nat.ne_of_lt hbw)
          have hb3 := hb2.putNew hbw (Nat.le_refl _) (.int .i64 1) (.int .i64 acc) (.string ⟨#[]⟩) (.slice none 0 0)
          obtain ⟨y0, y1, y2, y3, _, _, _, _⟩ := R3
          unfold put4 at y0 y1 y2 y3
          exact bodyPost_ret (v := .agg #[.int .i64 1, .int .i64 acc, .string ⟨#[]⟩, .slice none 0 0]) (by simp [results, Tryz.results67, go_sem, y0, y1, y2, y3]) rfl (by
            rw [E.out]
            exact ⟨hb3, _, q, rfl, rfl, hR3, rfl⟩)
      | some dg =>
        rw [digitI_some hd] at D1
        have hdg := rdigit_lt hd
        have hdI : (0 : Int) ≤ (dg : Int) := by omega
        have HE : Hid (rnumGo base acc (S.drop q) = if 4294967296 ≤ base * acc + dg then none else rnumGo base (base * acc + dg) (S.drop (q + 1))) := num_step hc hd acc
        have HF : Hid (rnumP base (S.drop p) = rnumGo base 0 (S.drop p)) := by
          unfold Hid
          by_cases hpe : p = q
          · subst hpe; exact num_some hc hd
          · exact hF.out (by omega)
        go_wp2_with fail
        go_quiet (first | (go_at_call 68; exact Calls.quiet_of_same (D1 _)))
        have hR2 := hR.later (below_drewN wr nq)
        have R2 := R.later (below_drewN wr nq)
        have hb2 := hb.trans (Beside.of (below_drewN wr nq) hlt)
        have hlf : Hid (leftAt b S wr = S.length - q) := hR.left
        generalize wr.drewN nq = W2 at *
        clear c0 c1 c2 c3 f0 f1 f2 f3 hR R hb hF hZ
        obtain ⟨c0, c1, c2, c3, f0, f1, f2, f3, _⟩ := id hR2
        have hbm : base * acc ≤ 16 * 4294967296 := Nat.mul_le_mul (by omega) (by omega)
        have hm1 : IntKind.i64.wrap ((base : Int) * (acc : Int)) = ((base * acc : Nat) : Int) := by rw [← Int.natCast_mul]; exact IntWalk.i64_in _ (by omega)
        generalize base * acc = m at *
        have hm2 : IntKind.i64.wrap ((m : Int) + (dg : Int)) = ((m + dg : Nat) : Int) := by rw [← Int.natCast_add]; exact IntWalk.i64_in _ (by omega)
        go_wp2_with fail
        go_quiet (first | (go_at_call 68; exact Calls.quiet_of_same (D1 _)))
        clear D D1 IX
        have hR3 := hR2.later (below_drewN W2 nq)
        have R3 := R2.later (below_drewN W2 nq)
        have hb3 := hb2.trans (Beside.of (below_drewN W2 nq) hR2.lt)
        generalize W2.drewN nq = W3 at *
        clear c0 c1 c2 c3 f0 f1 f2 f3 hR2 R2 hb2 hm1 hm2
        obtain ⟨c0, c1, c2, c3, f0, f1, f2, f3, _⟩ := id hR3
        obtain ⟨x0, x1, x2, x3, g0, g1, g2, g3⟩ := id R3
        have hl3 := R3.lt
        have hl4 := hR3.lt
        have hR4 := hR3.go (q + 1) (by omega)
        have R4 := R3.other ⟨b, 1, none⟩ (.int .i64 ((q + 1 : Nat) : Int)) (Nat.ne_of_gt hbw)
        have hb4 := hb3.trans (Beside.set (a := ⟨b, 1, none⟩) W3 rfl (.int .i64 ((q + 1 : Nat) : Int)))
        rw [show (((q + 1 : Nat) : Int)) = (q : Int) + 1 by omega] at hR4 R4 hb4
        by_cases hbig : 4294967296 ≤ m + dg
        · have E : Hid (rnumP base (S.drop p) = none) := HF.out.trans (hG.out.symm.trans (HE.out.trans (if_pos hbig)))
          have hbI : (4294967296 : Int) ≤ (m : Int) + (dg : Int) := by omega
          clear hG HE HF
          go_wp2_with fail
          have hR5 := hR4.spoil
          have R5 := (R4.other ⟨b, 3, none⟩ (.bool true) (Nat.ne_of_gt hbw)).put (.int .i64 0) (.int .i64 0) (.string ⟨#[]⟩) (.slice none 0 0)
          have hR6 := hR5.put4 w.heap.size (.int .i64 0) (.int .i64 0) (.string ⟨#[]⟩) (.slice none 0 0) (Nat.ne_of_lt hbw)
          have hb6 := (hb4.trans (Beside.set (a := ⟨b, 3, none⟩) _ rfl (.bool true))).putNew hbw (Nat.le_refl _) (.int .i64 0) (.int .i64 0) (.string ⟨#[]⟩) (.slice none 0 0)
          obtain ⟨y0, y1, y2, y3, _, _, _, _⟩ := R5
          unfold put4 at y0 y1 y2 y3
          exact bodyPost_ret (v := .agg #[.int .i64 0, .int .i64 0, .string ⟨#[]⟩, .slice none 0 0]) (by simp [results, Tryz.results67, go_sem, y0, y1, y2, y3]) rfl (by
            rw [E.out]
            exact ⟨hb6, _, q + 1, rfl, ⟨_, _, _, _, _, _, rfl⟩, hR6⟩)
        · have E : Hid (rnumGo base (m + dg) (S.drop (q + 1)) = rnumGo base 0 (S.drop p)) := (HE.out.trans (if_neg hbig)).symm.trans hG.out
          have hbI : ¬ (4294967296 : Int) ≤ (m : Int) + (dg : Int) := by omega
          clear hG HE
          go_wp2_with fail
          exact ⟨⟨hb4, R4, m + dg, q + 1, by simp, hR4, by omega, by omega, E, fun _ => HF.out, fun h => by omega⟩, by rw [hR4.left, hlf.out]; omega⟩
    · have hI : decide ((q : Int) < (S.length : Int)) = false := by simp; omega
      have HE : Hid (rnumGo base acc (S.drop q) = some (acc, S.drop q)) := num_end (by omega) base acc
      go_wp2_with fail
      go_quiet (fail)
      clear D
      have hR2 := hR.later (below_drewN wr nq)
      have R2 := R.later (below_drewN wr nq)
      have hb2 := hb.trans (Beside.of (below_drewN wr nq) hlt)
      generalize wr.drewN nq = W2 at *
      clear c0 c1 c2 c3 f0 f1 f2 f3 hR R hb
      obtain ⟨c0, c1, c2, c3, f0, f1, f2, f3, _⟩ := id hR2
      obtain ⟨x0, x1, x2, x3, g0, g1, g2, g3⟩ := id R2
      have hl2 := R2.lt
      by_cases hpe : p = q
      · subst hpe
        have E : Hid (rnumP base (S.drop p) = none) := num_none (fun c' hc' => by rw [List.getElem?_eq_none (by omega)] at hc'; cases hc')
        clear hF hG hZ
        go_wp2_with fail
        have R3 := (R2.other ⟨b, 3, none⟩ (.bool true) (Nat.ne_of_gt hbw)).put (.int .i64 1) (.int .i64 acc) (.string ⟨#[]⟩) (.slice none 0 0)
        have hR3 := hR2.spoil.put4 w.heap.size (.int .i64 1) (.int .i64 acc) (.string ⟨#[]⟩) (.slice none 0 0) (Nat.ne_of_lt hbw)
        have hb3 := (hb2.trans (Beside.set (a := ⟨b, 3, none⟩) _ rfl (.bool true))).putNew hbw (Nat.le_refl _) (.int .i64 1) (.int .i64 acc) (.string ⟨#[]⟩) (.slice none 0 0)
        obtain ⟨y0, y1, y2, y3, _, _, _, _⟩ := R3
        unfold put4 at y0 y1 y2 y3
        exact bodyPost_ret (v := .agg #[.int .i64 1, .int .i64 acc, .string ⟨#[]⟩, .slice none 0 0]) (by simp [results, Tryz.results67, go_sem, y0, y1, y2, y3]) rfl (by
          rw [E.out]
          exact ⟨hb3, _, p, rfl, ⟨_, _, _, _, _, _, rfl⟩, hR3⟩)
      · have e1 : ((p : Int) == (q : Int)) = false := by simp; omega
        have E : Hid (rnumP base (S.drop p) = some (acc, S.drop q)) := (hF.out (by omega)).trans (hG.out.symm.trans HE.out)
        clear hF hG hZ
        go_wp2_with fail
        have R3 := R2.put (.int .i64 1) (.int .i64 acc) (.string ⟨#[]⟩) (.slice none 0 0)
        have hR3 := hR2.put4 w.heap.size (.int .i64 1) (.int .i64 acc) (.string ⟨#[]⟩) (.slice none 0 0) (Nat.ne_of_lt hbw)
        have hb3 := hb2.putNew hbw (Nat.le_refl _) (.int .i64 1) (.int .i64 acc) (.string ⟨#[]⟩) (.slice none 0 0)
        obtain ⟨y0, y1, y2, y3, _, _, _, _⟩ := R3
        unfold put4 at y0 y1 y2 y3
        exact bodyPost_ret (v := .agg #[.int .i64 1, .int .i64 acc, .string ⟨#[]⟩, .slice none 0 0]) (by simp [results, Tryz.results67, go_sem, y0, y1, y2, y3]) rfl (by
          rw [E.out]
          exact ⟨hb3, _, q, rfl, rfl, hR3, rfl⟩)
end Go.Proofs.YtopfnfmglnjljaaGreatDoor.Rf
