/- The reference's reader: one: what stands by itself. -/
import Derived.Test.YtopfnfmglnjljaaGreatDoorRefOne
import Derived.Test.YtopfnfmglnjljaaGreatDoorRefWord2
namespace Go.Proofs.YtopfnfmglnjljaaGreatDoor.Rf
open Go.Proofs.YtopfnfmglnjljaaGreatDoor
open Go.ChangeShapes Go.WideShapes Go.ChangeAt Go.RowKit
set_option linter.unusedVariables false
set_option linter.unusedSimpArgs false

def oneG3 : Rd := fun s => if (tookP s [46]).2 then some (.here, (tookP s [46]).1) else rleafP (tookP s [46]).1
def oneG2 (PN : Rd) : Rd := fun s => if (tookP s [45]).2 then PN (tookP s [45]).1 else oneG3 (tookP s [45]).1
def oneG (PB PN : Rd) : Rd := fun s => if (tookP s [40]).2 then PB (tookP s [40]).1 else oneG2 PN (tookP s [40]).1

theorem one_end {w w' : World} {b d n : Nat} {S : Bs} {k j : Int} {s : ByteArray} {q : Option Addr} {l c : Nat} {r : Option (Ex × Bs)} (hbw : b < w.heap.size) (hb : Beside b w w') (R : Blk w' w.heap.size (.int .i64 0) (.int .i64 0) (.string ⟨#[]⟩) (.slice none 0 0)) (hn : w.heap.size < n)
    (hE : RRead n b d S w' (.returned (.agg #[.int .i64 k, .int .i64 j, .string s, .slice q l c])) r) :
    (Beside b w (put4 w' w.heap.size (.int .i64 k) (.int .i64 j) (.string s) (.slice q l c)) ∧ RRead w.heap.size b d S (put4 w' w.heap.size (.int .i64 k) (.int .i64 j) (.string s) (.slice q l c)) (.returned (.agg #[.int .i64 k, .int .i64 j, .string s, .slice q l c])) r) ∧
      Blk (put4 w' w.heap.size (.int .i64 k) (.int .i64 j) (.string s) (.slice q l c)) w.heap.size (.int .i64 k) (.int .i64 j) (.string s) (.slice q l c) :=
  ⟨⟨hb.putNew hbw (Nat.le_refl _) _ _ _ _, (hE.put hn (Nat.ne_of_lt hbw) _ _ _ _).low (Nat.le_of_lt hn)⟩, R.put _ _ _ _⟩

theorem head_at {S : Bs} {q : Nat} {c : UInt8} (h : S[q]? = some c) : headDigit (S.drop q) = digitB c := by
  obtain ⟨hq, e⟩ := List.getElem?_eq_some_iff.1 h
  rw [List.drop_eq_getElem_cons hq, e]
  rfl
theorem head_end {S : Bs} {q : Nat} (h : S.length ≤ q) : headDigit (S.drop q) = false := by
  rw [List.drop_eq_nil_of_le h]; rfl
theorem digit_yes {c : UInt8} (h : digitB c = true) : ∃ dg : Nat, digitI 10 c = dg := by
  have : 48 ≤ c.toNat ∧ c.toNat ≤ 57 := by simpa [digitB] using h
  exact ⟨c.toNat - 48, by unfold digitI rdigit; rw [if_pos this]⟩
theorem digit_no {c : UInt8} (h : digitB c = false) : digitI 10 c = -1 := by
  have : ¬ (48 ≤ c.toNat ∧ c.toNat ≤ 57) := by
    intro h'
    have : digitB c = true := by simpa [digitB] using h'
    rw [this] at h; cases h
  unfold digitI rdigit; rw [if_neg this, if_neg (by simp)]

set_option maxHeartbeats 8000000 in
set_option maxRecDepth 20000 in
theorem one_ok (S : Bs) (hl : S.length ≤ 35184372088832) (b d : Nat) (PB PN : Rd) (hB : InnerOk S b d true PB) (hN : InnerOk S b d false PN) : OneOk S b d (oneG PB PN) := by
  intro w p h
  obtain ⟨out, hout⟩ : ∃ out, out = oneG PB PN (S.drop p) := ⟨_, rfl⟩
  rw [← hout]
  have HO : Hid (out = oneG PB PN (S.drop p)) := hout
  clear hout
  have n0 := below_new w (.cells #[.int .i64 0, .int .i64 0, .string ⟨#[]⟩, .slice none 0 0] 27)
  have R0 := Blk.new w 27 (.int .i64 0) (.int .i64 0) (.string ⟨#[]⟩) (.slice none 0 0)
  have hbw := h.lt
  have h0 := h.later n0
  have hb0 := Beside.of n0 hbw
  have hsz0 : w.heap.size < (w.alloc (.cells #[.int .i64 0, .int .i64 0, .string ⟨#[]⟩, .slice none 0 0] 27)).heap.size := R0.lt
  obtain ⟨c0, c1, c2, c3, f0, f1, f2, f3, le⟩ := id h0
  go_enter Tryz.func50, Tryz.ntmps50
  go_wp2_with fail
  generalize w.alloc (.cells #[.int .i64 0, .int .i64 0, .string ⟨#[]⟩, .slice none 0 0] 27) = W0 at *
  clear c0 c1 c2 c3 f0 f1 f2 f3 n0
  have I1 := is_any b S hl [40] (by simp) p d false W0 h0
  rw [show bs [40] = ⟨#[40]⟩ from rfl] at I1
  obtain ⟨tk1, ht1⟩ : ∃ tk, tk = tookP (S.drop p) [40] := ⟨_, rfl⟩
  rw [← ht1] at I1
  have E1 : Hid (tookP (S.drop p) [40] = tk1) := ht1.symm
  clear ht1
  obtain ⟨s1, t1⟩ := tk1
  refine I1.mono ?_
  rintro e w1 ⟨rfl, hb1, p1, hR1, hq1⟩
  have R1 := R0.beside hb1 (Nat.ne_of_gt hbw)
  have hbw1 := hb0.trans hb1
  have hsz1 : w.heap.size < w1.heap.size := R1.lt
  clear I1 hb1 R0 hb0 h0 hsz0
  cases t1 with
  | true =>
    have HE : Hid (out = PB (S.drop p1)) := by rw [Hid, HO.out]; unfold oneG; rw [E1.out, hq1]; rfl
    have C := hB w1 p1 hR1
    clear HO E1 hq1
    go_wp2_with fail
    refine C.mono ?_
    rintro e w2 ⟨hb2, hE⟩
    obtain ⟨k, j, s, q, l, c, rfl⟩ := hE.form
    have R2 := R1.beside hb2 (Nat.ne_of_gt hbw)
    obtain ⟨x0, x1, x2, x3, g0, g1, g2, g3⟩ := id R2
    have hl2 := R2.lt
    have F := one_end hbw (hbw1.trans hb2) R2 hsz1 hE
    clear C
    go_wp2_with fail
    obtain ⟨F1, y0, y1, y2, y3, _, _, _, _⟩ := F
    unfold put4 at y0 y1 y2 y3
    refine bodyPost_ret (v := .agg #[.int .i64 k, .int .i64 j, .string s, .slice q l c]) (by simp [results, Tryz.results50, go_sem, y0, y1, y2, y3]) rfl ?_
    rw [HE.out]
    exact F1
  | false =>
    have HO2 : Hid (out = oneG2 PN (S.drop p1)) := by rw [Hid, HO.out]; unfold oneG; rw [E1.out, hq1]; rfl
    have I2 := is_any b S hl [45] (by simp) p1 d false w1 hR1
    rw [show bs [45] = ⟨#[45]⟩ from rfl] at I2
    obtain ⟨tk2, ht2⟩ : ∃ tk, tk = tookP (S.drop p1) [45] := ⟨_, rfl⟩
    rw [← ht2] at I2
    have E2 : Hid (tookP (S.drop p1) [45] = tk2) := ht2.symm
    clear ht2 HO E1 hq1
    obtain ⟨s2, t2⟩ := tk2
    go_wp2_with fail
    refine I2.mono ?_
    rintro e w2 ⟨rfl, hb2, p2, hR2, hq2⟩
    have R2 := R1.beside hb2 (Nat.ne_of_gt hbw)
    have hbw2 := hbw1.trans hb2
    have hsz2 : w.heap.size < w2.heap.size := R2.lt
    clear I2 hb2 R1 hbw1 hsz1 hR1
    cases t2 with
    | true =>
      have HE : Hid (out = PN (S.drop p2)) := by rw [Hid, HO2.out]; unfold oneG2; rw [E2.out, hq2]; rfl
      have C := hN w2 p2 hR2
      clear HO2 E2 hq2
      go_wp2_with fail
      refine C.mono ?_
      rintro e w3 ⟨hb3, hE⟩
      obtain ⟨k, j, s, q, l, c, rfl⟩ := hE.form
      have R3 := R2.beside hb3 (Nat.ne_of_gt hbw)
      obtain ⟨x0, x1, x2, x3, g0, g1, g2, g3⟩ := id R3
      have hl3 := R3.lt
      have F := one_end hbw (hbw2.trans hb3) R3 hsz2 hE
      clear C
      go_wp2_with fail
      obtain ⟨F1, y0, y1, y2, y3, _, _, _, _⟩ := F
      unfold put4 at y0 y1 y2 y3
      refine bodyPost_ret (v := .agg #[.int .i64 k, .int .i64 j, .string s, .slice q l c]) (by simp [results, Tryz.results50, go_sem, y0, y1, y2, y3]) rfl ?_
      rw [HE.out]
      exact F1
    | false =>
      have HO3 : Hid (out = oneG3 (S.drop p2)) := by rw [Hid, HO2.out]; unfold oneG2; rw [E2.out, hq2]; rfl
      have I3 := is_any b S hl [46] (by simp) p2 d false w2 hR2
      rw [show bs [46] = ⟨#[46]⟩ from rfl] at I3
      obtain ⟨tk3, ht3⟩ : ∃ tk, tk = tookP (S.drop p2) [46] := ⟨_, rfl⟩
      rw [← ht3] at I3
      have E3 : Hid (tookP (S.drop p2) [46] = tk3) := ht3.symm
      clear ht3 HO2 E2 hq2
      obtain ⟨s3, t3⟩ := tk3
      go_wp2_with fail
      refine I3.mono ?_
      rintro e w3 ⟨rfl, hb3, p3, hR3, hq3⟩
      have R3 := R2.beside hb3 (Nat.ne_of_gt hbw)
      have hbw3 := hbw2.trans hb3
      have hsz3 : w.heap.size < w3.heap.size := R3.lt
      clear I3 hb3 R2 hbw2 hsz2 hR2
      cases t3 with
      | true =>
        have HE : Hid (out = some (.here, S.drop p3)) := by rw [Hid, HO3.out]; unfold oneG3; rw [E3.out, hq3]; rfl
        have hE : RRead w3.heap.size b d S w3 (.returned (.agg #[.int .i64 3, .int .i64 0, .string ⟨#[]⟩, .slice none 0 0])) (some (.here, S.drop p3)) := ⟨_, p3, rfl, rfl, hR3, rfl⟩
        obtain ⟨x0, x1, x2, x3, g0, g1, g2, g3⟩ := id R3
        have F := one_end hbw hbw3 R3 hsz3 hE
        clear HO3 E3 hq3
        go_wp2_with fail
        obtain ⟨F1, y0, y1, y2, y3, _, _, _, _⟩ := F
        unfold put4 at y0 y1 y2 y3
        refine bodyPost_ret (v := .agg #[.int .i64 3, .int .i64 0, .string ⟨#[]⟩, .slice none 0 0]) (by simp [results, Tryz.results50, go_sem, y0, y1, y2, y3]) rfl ?_
        rw [HE.out]
        exact F1
      | false =>
        have HO4 : Hid (out = rleafP (S.drop p3)) := by rw [Hid, HO3.out]; unfold oneG3; rw [E3.out, hq3]; rfl
        have I4 := is_any b S hl [48, 120] (by simp) p3 d false w3 hR3
        rw [show bs [48, 120] = ⟨#[48, 120]⟩ from rfl] at I4
        obtain ⟨tk4, ht4⟩ : ∃ tk, tk = tookP (S.drop p3) [48, 120] := ⟨_, rfl⟩
        rw [← ht4] at I4
        have E4 : Hid (tookP (S.drop p3) [48, 120] = tk4) := ht4.symm
        clear ht4 HO3 E3 hq3
        obtain ⟨s4, t4⟩ := tk4
        go_wp2_with fail
        refine I4.mono ?_
        rintro e w4 ⟨rfl, hb4, p4, hR4, hq4⟩
        have R4 := R3.beside hb4 (Nat.ne_of_gt hbw)
        have hbw4 := hbw3.trans hb4
        have hsz4 : w.heap.size < w4.heap.size := R4.lt
        clear I4 hb4 R3 hbw3 hsz3 hR3
        cases t4 with
        | true =>
          have HE : Hid (out = asNum (rnumP 16 (S.drop p4))) := by rw [Hid, HO4.out]; unfold rleafP; rw [E4.out, hq4]; rfl
          have C : Calls Tryz.prog 67 #[.pointer (some ⟨b, 0, none⟩), .int .i64 16] w4 _ := number_any b S hl 16 (.inr rfl) p4 d w4 hR4
          clear HO4 E4 hq4
          go_wp2_with fail
          refine C.mono ?_
          rintro e w5 ⟨hb5, hE⟩
          obtain ⟨k, j, s, q, l, c, rfl⟩ := hE.form
          have R5 := R4.beside hb5 (Nat.ne_of_gt hbw)
          obtain ⟨x0, x1, x2, x3, g0, g1, g2, g3⟩ := id R5
          have hl5 := R5.lt
          have F := one_end hbw (hbw4.trans hb5) R5 hsz4 hE
          clear C
          go_wp2_with fail
          obtain ⟨F1, y0, y1, y2, y3, _, _, _, _⟩ := F
          unfold put4 at y0 y1 y2 y3
          refine bodyPost_ret (v := .agg #[.int .i64 k, .int .i64 j, .string s, .slice q l c]) (by simp [results, Tryz.results50, go_sem, y0, y1, y2, y3]) rfl ?_
          rw [HE.out]
          exact F1
        | false =>
          have HO5 : Hid (out = if headDigit (S.drop p4) then asNum (rnumP 10 (S.drop p4)) else if wordP ((S.drop p4).takeWhile runB) then some (.name ((S.drop p4).takeWhile runB), (S.drop p4).dropWhile runB) else none) := by rw [Hid, HO4.out]; unfold rleafP; rw [E4.out, hq4]; rfl
          obtain ⟨c0, c1, c2, c3, f0, f1, f2, f3, le⟩ := id hR4
          have hlt := hR4.lt
          have hsz := bs_size S
          have D := digit_any 10 (.inl rfl)
          have NU : ∀ (W : World) (h : RR W b S p4 d false), Calls Tryz.prog 67 #[.pointer (some ⟨b, 0, none⟩), .int .i64 10] W _ := fun W h => number_any b S hl 10 (.inl rfl) p4 d W h
          have WO := fun W h => word_any b S hl p4 d W h
          clear HO4 E4 hq4 hB hN
          by_cases hqn : p4 < S.length
          · obtain ⟨c, hc⟩ : ∃ c, S[p4]? = some c := ⟨_, List.getElem?_eq_getElem hqn⟩
            have IX := fun w => index_at S p4 c hc w
            have hI : (p4 : Int) < (S.length : Int) := by omega
            have D1 : ∀ W, Calls Tryz.prog 68 #[.int .u8 c.toNat, .int .i64 10] W fun e w' => e = .returned (.int .i64 (digitI 10 c)) ∧ w' = W := D c
            clear D
            cases hdc : digitB c with
            | true =>
              obtain ⟨dg, hdg⟩ := digit_yes hdc
              rw [hdg] at D1
              have hdI : (0 : Int) ≤ (dg : Int) := by omega
              have HE : Hid (out = asNum (rnumP 10 (S.drop p4))) := by rw [Hid, HO5.out, head_at hc, hdc]; rfl
              clear HO5 WO hdg
              go_wp2_with fail
              go_quiet (first | (go_at_call 68; exact Calls.quiet_of_same (D1 _)))
              clear D1 IX
              have R5 := R4.later (below_drewN w4 nq)
              have hR5 := hR4.later (below_drewN w4 nq)
              have hbw5 := hbw4.trans (Beside.of (below_drewN w4 nq) hlt)
              have hsz5 : w.heap.size < (w4.drewN nq).heap.size := hsz4
              generalize w4.drewN nq = w5 at *
              clear c0 c1 c2 c3 f0 f1 f2 f3 R4 hR4 hbw4
              have C := NU w5 hR5
              go_wp2_with fail
              refine C.mono ?_
              rintro e w6 ⟨hb6, hE⟩
              obtain ⟨k, j, s, q, l, c, rfl⟩ := hE.form
              have R6 := R5.beside hb6 (Nat.ne_of_gt hbw)
              obtain ⟨x0, x1, x2, x3, g0, g1, g2, g3⟩ := id R6
              have hl6 := R6.lt
              have F := one_end hbw (hbw5.trans hb6) R6 hsz5 hE
              clear C NU
              go_wp2_with fail
              obtain ⟨F1, y0, y1, y2, y3, _, _, _, _⟩ := F
              unfold put4 at y0 y1 y2 y3
              refine bodyPost_ret (v := .agg #[.int .i64 k, .int .i64 j, .string s, .slice q l c]) (by simp [results, Tryz.results50, go_sem, y0, y1, y2, y3]) rfl ?_
              rw [HE.out]
              exact F1
            | false =>
              rw [digit_no hdc] at D1
              have HE : Hid (out = if wordP ((S.drop p4).takeWhile runB) then some (.name ((S.drop p4).takeWhile runB), (S.drop p4).dropWhile runB) else none) := by rw [Hid, HO5.out, head_at hc, hdc]; rfl
              clear HO5 NU
              go_wp2_with fail
              go_quiet (first | (go_at_call 68; exact Calls.quiet_of_same (D1 _)))
              clear D1 IX
              have R5 := R4.later (below_drewN w4 nq)
              have hR5 := hR4.later (below_drewN w4 nq)
              have hbw5 := hbw4.trans (Beside.of (below_drewN w4 nq) hlt)
              have hsz5 : w.heap.size < (w4.drewN nq).heap.size := hsz4
              generalize w4.drewN nq = w5 at *
              clear c0 c1 c2 c3 f0 f1 f2 f3 R4 hR4 hbw4
              have C := WO w5 hR5
              rw [← HE.out] at C
              go_wp2_with fail
              refine C.mono ?_
              rintro e w6 ⟨hb6, hE⟩
              obtain ⟨k, j, s, q, l, c, rfl⟩ := hE.form
              have R6 := R5.beside hb6 (Nat.ne_of_gt hbw)
              obtain ⟨x0, x1, x2, x3, g0, g1, g2, g3⟩ := id R6
              have hl6 := R6.lt
              have F := one_end hbw (hbw5.trans hb6) R6 hsz5 hE
              clear C WO
              go_wp2_with fail
              obtain ⟨F1, y0, y1, y2, y3, _, _, _, _⟩ := F
              unfold put4 at y0 y1 y2 y3
              exact bodyPost_ret (v := .agg #[.int .i64 k, .int .i64 j, .string s, .slice q l c]) (by simp [results, Tryz.results50, go_sem, y0, y1, y2, y3]) rfl F1
          · have hI : decide ((p4 : Int) < (S.length : Int)) = false := by simp; omega
            have HE : Hid (out = if wordP ((S.drop p4).takeWhile runB) then some (.name ((S.drop p4).takeWhile runB), (S.drop p4).dropWhile runB) else none) := by rw [Hid, HO5.out, head_end (by omega)]; rfl
            clear HO5 NU D
            go_wp2_with fail
            go_quiet (fail)
            have R5 := R4.later (below_drewN w4 nq)
            have hR5 := hR4.later (below_drewN w4 nq)
            have hbw5 := hbw4.trans (Beside.of (below_drewN w4 nq) hlt)
            have hsz5 : w.heap.size < (w4.drewN nq).heap.size := hsz4
            generalize w4.drewN nq = w5 at *
            clear c0 c1 c2 c3 f0 f1 f2 f3 R4 hR4 hbw4
            have C := WO w5 hR5
            rw [← HE.out] at C
            go_wp2_with fail
            refine C.mono ?_
            rintro e w6 ⟨hb6, hE⟩
            obtain ⟨k, j, s, q, l, c, rfl⟩ := hE.form
            have R6 := R5.beside hb6 (Nat.ne_of_gt hbw)
            obtain ⟨x0, x1, x2, x3, g0, g1, g2, g3⟩ := id R6
            have hl6 := R6.lt
            have F := one_end hbw (hbw5.trans hb6) R6 hsz5 hE
            clear C WO
            go_wp2_with fail
            obtain ⟨F1, y0, y1, y2, y3, _, _, _, _⟩ := F
            unfold put4 at y0 y1 y2 y3
            exact bodyPost_ret (v := .agg #[.int .i64 k, .int .i64 j, .string s, .slice q l c]) (by simp [results, Tryz.results50, go_sem, y0, y1, y2, y3]) rfl F1
end Go.Proofs.YtopfnfmglnjljaaGreatDoor.Rf
