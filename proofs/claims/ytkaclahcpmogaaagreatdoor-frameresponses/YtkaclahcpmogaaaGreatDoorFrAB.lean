/- The reference's comparison of responses. -/
import Derived.Test.YtkaclahcpmogaaaGreatDoorFrY
import Derived.BigQuiet
namespace Go.Proofs.YtkaclahcpmogaaaGreatDoor
open Go.ChangeShapes Go.WideShapes Go.ChangeAt Go.RowKit
set_option linter.unusedVariables false
set_option linter.unusedSimpArgs false

theorem take_step {α : Type} {a b : List α} {j : Nat} {x y : α} (h : a.take j = b.take j) (hx : a[j]? = some x) (hy : b[j]? = some y) (e : x = y) : a.take (j + 1) = b.take (j + 1) := by
  rw [List.take_add_one, List.take_add_one, h, hx, hy, e]
theorem ne_at {α : Type} {a b : List α} {j : Nat} {x y : α} (hx : a[j]? = some x) (hy : b[j]? = some y) (e : x ≠ y) : a ≠ b := by
  intro h; rw [h, hy] at hx; exact e (Option.some.inj hx).symm

set_option maxHeartbeats 3200000 in
set_option maxRecDepth 20000 in
theorem rdiags_any (v1 v2 : Value) (a b : List Dg) (w : World) (h1 : DiagsAt w.heap.size w v1 a) (h2 : DiagsAt w.heap.size w v2 b) (hn : a.length ≤ 16777216) (hn2 : b.length ≤ 16777216) :
    Calls Tryz.prog 38 #[v1, v2] w fun e w' => e = .returned (.bool (decide (a = b))) ∧ Below w.heap.size w w' := by
  obtain ⟨p, cp, rfl, hc, hm, hnone, hcl⟩ := h1
  obtain ⟨q, cq, rfl, hc2, hm2, hnone2, hcl2⟩ := h2
  by_cases hl : a.length = b.length
  · have hlI : ¬ (a.length : Int) ≠ (b.length : Int) := by omega
    have hlb : ((a.length : Int) == (b.length : Int)) = true := by simp [hl]
    go_enter Tryz.func38, Tryz.ntmps38
    go_wp2_with fail
    clear hlI hlb
    go_loopw [5] (fun i wr => ∃ j : Nat, j ≤ a.length ∧ i = .int .i64 j ∧ Below w.heap.size w wr ∧ Hid (a.take j = b.take j)) (fun i _ => a.length - (intW i).toNat)
    case atStart => exact ⟨0, by omega, rfl, Below.refl _ _, rfl⟩
    case round =>
      obtain ⟨j, hj, rfl, hb, hH⟩ := hrel
      by_cases hjl : j < a.length
      · obtain ⟨⟨xf, xl, xe⟩, hx⟩ : ∃ x, a[j]? = some x := ⟨_, List.getElem?_eq_getElem hjl⟩
        obtain ⟨⟨yf, yl, ye⟩, hy⟩ : ∃ y, b[j]? = some y := ⟨_, List.getElem?_eq_getElem (by omega)⟩
        obtain ⟨x0, x1, x2⟩ := dgs_get a j _ hx
        obtain ⟨y0, y1, y2⟩ := dgs_get b j _ hy
        simp only at x0 x1 x2 y0 y1 y2
        have hjI : (j : Int) < (a.length : Int) := by omega
        have hjI2 : (j : Int) < (b.length : Int) := by omega
        have hj0 : (0 : Int) ≤ (j : Int) := by omega
        have hNE : Hid (¬ (xf = yf ∧ xl = yl ∧ xe = ye) → decide (a = b) = false) := fun h => decide_eq_false (ne_at hx hy (fun e => h (by cases e; exact ⟨rfl, rfl, rfl⟩)))
        have hEQ : Hid (xf = yf → xl = yl → xe = ye → a.take (j + 1) = b.take (j + 1)) := fun e1 e2 e3 => take_step hH.out hx hy (by rw [e1, e2, e3])
        cases p with
        | none => have := hnone rfl; omega
        | some pa =>
        cases q with
        | none => have := hnone2 rfl; omega
        | some qa =>
        obtain ⟨g, o, rfl, hgL, hcl'⟩ := hcl pa rfl
        obtain ⟨g2, o2, rfl, hgL2, hcl2'⟩ := hcl2 qa rfl
        have hcb := fun i x h => (cell_of_block (a := ⟨g, o + i, none⟩) (hb.block g (by omega))).trans (hcl' i x h)
        have hcb2 := fun i x h => (cell_of_block (a := ⟨g2, o2 + i, none⟩) (hb.block g2 (by omega))).trans (hcl2' i x h)
        have c0 := hcb _ _ x0
        have c1 := hcb _ _ x1
        have c2 := hcb _ _ x2
        have d0 := hcb2 _ _ y0
        have d1 := hcb2 _ _ y1
        have d2 := hcb2 _ _ y2
        rw [← Nat.add_assoc] at c1 c2 d1 d2
        have hBq : Hid (∀ n, Below w.heap.size w (wr.drewN n)) := fun n => hb.trans ((below_drewN wr n).mono hb.size)
        have hfe := bs_eq xf yf
        clear hcl hcl2 hcl' hcl2' hcb hcb2 x0 x1 x2 y0 y1 y2 hx hy hH hb
        by_cases e0 : xf = yf
        · by_cases e1 : xl = yl
          · by_cases e2 : xe = ye
            · have HH : Hid (a.take (j + 1) = b.take (j + 1)) := hEQ.out e0 e1 e2
              subst e0 e1 e2
              clear hEQ hNE hfe
              go_wp2_with fail
              go_quiet (fail)
              go_wp2_with fail
              go_roundw
              case rel => exact ⟨j + 1, by omega, by go_num, hBq.out nq, HH⟩
              case measure => simp [intW]; omega
            · have hF : Hid (decide (a = b) = false) := hNE.out (fun h => e2 h.2.2)
              have t2 : (xe == ye) = false := by simpa using e2
              subst e0 e1
              clear hEQ hNE hfe
              go_wp2_with fail
              go_quiet (fail)
              go_wp2_with fail
              go_ret
              exact ⟨by rw [hF.out]; rfl, hBq.out nq⟩
          · have hF : Hid (decide (a = b) = false) := hNE.out (fun h => e1 h.2.1)
            have t1 : (xl == yl) = false := by simpa using e1
            subst e0
            clear hEQ hNE hfe
            go_wp2_with fail
            go_quiet (fail)
            go_wp2_with fail
            go_ret
            exact ⟨by rw [hF.out]; rfl, hBq.out nq⟩
        · have hF : Hid (decide (a = b) = false) := hNE.out (fun h => e0 h.1)
          have t0 : ((bs xf).toList == (bs yf).toList) = false := by rw [hfe]; simpa using e0
          clear hEQ hNE hfe
          go_wp2_with fail
          go_quiet (fail)
          go_wp2_with fail
          go_ret
          exact ⟨by rw [hF.out]; rfl, hBq.out nq⟩
      · have hjl' : j = a.length := by omega
        subst hjl'
        have hT : Hid (decide (a = b) = true) := by
          have h := hH.out
          rw [List.take_length, List.take_of_length_le (by omega)] at h
          exact decide_eq_true h
        have hjI : ¬ (a.length : Int) < (a.length : Int) := by omega
        clear hH
        go_wp2_with fail
        go_ret
        exact ⟨by rw [hT.out]; rfl, hb⟩
  · have hlb : ((a.length : Int) == (b.length : Int)) = false := by
      rw [beq_eq_false_iff_ne]
      omega
    have hlI : ¬ (a.length : Int) = (b.length : Int) := by omega
    have hF : Hid (decide (a = b) = false) := decide_eq_false (fun e => hl (by rw [e]))
    go_enter Tryz.func38, Tryz.ntmps38
    go_wp2_with fail
    go_ret
    exact ⟨by rw [hF.out]; rfl, Below.refl _ _⟩

def rpVal (r : Rp) (iv dv : Value) : Value := .agg #[.int .i64 r.e, .string (bs r.text), iv, dv]

set_option maxHeartbeats 1600000 in
set_option maxRecDepth 20000 in
theorem same_any (a b : Rp) (ia da ib db : Value) (w : World) (hIa : BytesAt w.heap.size w ia a.image) (hDa : DiagsAt w.heap.size w da a.diags) (hIb : BytesAt w.heap.size w ib b.image) (hDb : DiagsAt w.heap.size w db b.diags) (hna : a.diags.length ≤ 16777216) (hnb : b.diags.length ≤ 16777216) :
    Calls Tryz.prog 21 #[rpVal a ia da, rpVal b ib db] w fun e w' => e = .returned (.bool (decide (a = b))) ∧ Below w.heap.size w w' := by
  obtain ⟨ae, at', ai, ad⟩ := a
  obtain ⟨be, bt, bi, bd⟩ := b
  simp only at hIa hDa hIb hDb hna hnb
  have D := fun W (h : Below w.heap.size w W) => rdiags_any da db ad bd W ((hDa.later h).mono h.size) ((hDb.later h).mono h.size) hna hnb
  have Sa := fun W (h : Below w.heap.size w W) => str_of_bytes (hIa.later h)
  have Sb := fun W (h : Below w.heap.size w W) => str_of_bytes (hIb.later h)
  have hfe := bs_eq at' bt
  have hge := bs_eq ai bi
  have hNE : Hid (¬ (ae = be ∧ at' = bt ∧ ai = bi ∧ ad = bd) → decide ((⟨ae, at', ai, ad⟩ : Rp) = ⟨be, bt, bi, bd⟩) = false) := fun h => decide_eq_false (fun e => h (by cases e; exact ⟨rfl, rfl, rfl, rfl⟩))
  have hEQ : Hid (ae = be → at' = bt → ai = bi → decide ((⟨ae, at', ai, ad⟩ : Rp) = ⟨be, bt, bi, bd⟩) = decide (ad = bd)) := fun e1 e2 e3 => by subst e1 e2 e3; by_cases h : ad = bd <;> simp [h]
  obtain ⟨ip, ic, rfl, _⟩ := hIa
  obtain ⟨dp, dc, rfl, _⟩ := hDa
  obtain ⟨iq, ic2, rfl, _⟩ := hIb
  obtain ⟨dq, dc2, rfl, _⟩ := hDb
  unfold rpVal
  simp only
  have b1 := (below_new w (.cells #[.int .i64 ae, .string (bs at'), .slice ip ai.length ic, .slice dp ad.length dc] 42)).alloc (by simp) (.cells #[.int .i64 be, .string (bs bt), .slice iq bi.length ic2, .slice dq bd.length dc2] 42)
  have hsa := Sa _ b1
  have hsb := Sb _ b1
  have hD := D _ b1
  clear Sa Sb D
  by_cases e0 : ae = be
  · by_cases e1 : at' = bt
    · by_cases e2 : ai = bi
      · have HH := hEQ.out e0 e1 e2
        rw [HH]
        have t1 : ((bs at').toList == (bs bt).toList) = true := by rw [hfe]; simpa using e1
        have t2 : ((bs ai).toList == (bs bi).toList) = true := by rw [hge]; simpa using e2
        have t0 : (ae == be) = true := by simpa using e0
        clear hEQ hNE hfe hge HH e0 e1 e2
        go_enter Tryz.func21, Tryz.ntmps21
        go_wp2_with fail
        refine hD.mono ?_
        rintro e w1 ⟨rfl, hb1⟩
        have B1 := b1.trans (hb1.mono b1.size)
        go_wp2_with fail
        go_ret
        exact ⟨rfl, B1⟩
      · have hF := hNE.out (fun h => e2 h.2.2.1)
        rw [hF]
        have t1 : ((bs at').toList == (bs bt).toList) = true := by rw [hfe]; simpa using e1
        have t2 : ((bs ai).toList == (bs bi).toList) = false := by rw [hge]; simpa using e2
        have t0 : (ae == be) = true := by simpa using e0
        clear hEQ hNE hfe hge hF e0 e1 e2 hD
        go_enter Tryz.func21, Tryz.ntmps21
        go_wp2_with fail
        go_ret
        exact ⟨rfl, b1⟩
    · have hF := hNE.out (fun h => e1 h.2.1)
      rw [hF]
      have t1 : ((bs at').toList == (bs bt).toList) = false := by rw [hfe]; simpa using e1
      have t0 : (ae == be) = true := by simpa using e0
      clear hEQ hNE hfe hge hF e0 e1 hD hsa hsb
      go_enter Tryz.func21, Tryz.ntmps21
      go_wp2_with fail
      go_ret
      exact ⟨rfl, b1⟩
  · have hF := hNE.out (fun h => e0 h.1)
    rw [hF]
    have t0 : (ae == be) = false := by simpa using e0
    clear hEQ hNE hfe hge hF e0 hD hsa hsb
    go_enter Tryz.func21, Tryz.ntmps21
    go_wp2_with fail
    go_ret
    exact ⟨rfl, b1⟩
end Go.Proofs.YtkaclahcpmogaaaGreatDoor
