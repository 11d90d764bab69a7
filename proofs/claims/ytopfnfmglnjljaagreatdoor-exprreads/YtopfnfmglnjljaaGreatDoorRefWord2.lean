/- The reference's reader: word. -/
import Derived.Test.YtopfnfmglnjljaaGreatDoorRefWord
namespace Go.Proofs.YtopfnfmglnjljaaGreatDoor.Rf
open Go.Proofs.YtopfnfmglnjljaaGreatDoor
open Go.ChangeShapes Go.WideShapes Go.ChangeAt Go.RowKit

set_option linter.unusedVariables false
set_option linter.unusedSimpArgs false

theorem run_in {S : Bs} {p q : Nat} (hpq : p ≤ q) (hq : q ≤ S.length) (h : ∀ i, p ≤ i → i < q → ∃ c, S[i]? = some c ∧ runB c = true) (he : ∀ c, S[q]? = some c → runB c = false) :
    (S.drop p).takeWhile runB = S.extract p q ∧ (S.drop p).dropWhile runB = S.drop q ∧ ∀ c ∈ S.extract p q, runB c = true := by
  have hm : ∀ c ∈ S.extract p q, runB c = true := by
    intro c hc
    obtain ⟨i, hi, e⟩ := List.getElem_of_mem hc
    simp only [List.extract_eq_take_drop, List.length_take, List.length_drop] at hi
    obtain ⟨c', h1, h2⟩ := h (p + i) (by omega) (by omega)
    have : (S.extract p q)[i]? = some c := by rw [List.getElem?_eq_getElem (by simp [List.extract_eq_take_drop]; omega), e]
    rw [List.extract_eq_take_drop, List.getElem?_take, if_pos (by omega), List.getElem?_drop, h1] at this
    cases this
    exact h2
  have hs : S.drop p = S.extract p q ++ S.drop q := by
    rw [List.extract_eq_take_drop]
    have := (List.take_append_drop (q - p) (S.drop p)).symm
    rw [List.drop_drop, show p + (q - p) = q by omega] at this
    exact this
  have ht := Ly.take_run (t := S.extract p q) (s := S.drop q) hm (fun c s' e => he c (by
    have := congrArg (·[0]?) e
    simpa using this))
  rw [hs]
  exact ⟨ht.1, ht.2, hm⟩

theorem slice_pq (S : Bs) (p q : Nat) (hpq : p ≤ q) (h : q ≤ S.length) (w : World) : (Instr.slice 9 (.string (bs S)) (some (.int .i64 (p : Int))) (some (.int .i64 (q : Int))) none).run Tryz.prog w = .ok (.string (bs (S.extract p q))) w := by
  have := slice_at S p (q - p) (by omega) w
  rw [show (p : Int) + ((q - p : Nat) : Int) = (q : Int) by omega, show p + (q - p) = q by omega] at this
  exact this

set_option maxHeartbeats 8000000 in
set_option maxRecDepth 20000 in
theorem word_any (b : Nat) (S : Bs) (hl : S.length ≤ 35184372088832) (p d : Nat) (w : World) (h : RR w b S p d false) :
    Calls Tryz.prog 69 #[.pointer (some ⟨b, 0, none⟩)] w fun e w' => Beside b w w' ∧ RRead w.heap.size b d S w' e (if wordP ((S.drop p).takeWhile runB) then some (.name ((S.drop p).takeWhile runB), (S.drop p).dropWhile runB) else none) := by
  obtain ⟨res, hres⟩ : ∃ res : Option (Ex × Bs), res = (if wordP ((S.drop p).takeWhile runB) then some (.name ((S.drop p).takeWhile runB), (S.drop p).dropWhile runB) else none) := ⟨_, rfl⟩
  rw [← hres]
  have HR : Hid (res = _) := hres
  clear hres
  have n0 := below_new w (.cells #[.int .i64 0, .int .i64 0, .string ⟨#[]⟩, .slice none 0 0] 27)
  have R0 := Blk.new w 27 (.int .i64 0) (.int .i64 0) (.string ⟨#[]⟩) (.slice none 0 0)
  have hbw := h.lt
  have h0 := h.later n0
  have hb0 := Beside.of n0 hbw
  have hsz := bs_size S
  obtain ⟨c0, c1, c2, c3, f0, f1, f2, f3, le⟩ := id h0
  go_enter Tryz.func69, Tryz.ntmps69
  go_wp2_with fail
  obtain ⟨W0, hW0⟩ : ∃ W, W = w.alloc (.cells #[.int .i64 0, .int .i64 0, .string ⟨#[]⟩, .slice none 0 0] 27) := ⟨_, rfl⟩
  rw [← hW0] at n0 R0 h0 hb0 c0 c1 c2 c3 f0 f1 f2 f3 ⊢
  clear hW0 c0 c1 c2 c3 f0 f1 f2 f3 n0
  go_loopw [] (fun wr => Beside b w wr ∧ Blk wr w.heap.size (.int .i64 0) (.int .i64 0) (.string ⟨#[]⟩) (.slice none 0 0) ∧ ∃ q : Nat, RR wr b S q d false ∧ p ≤ q ∧ Hid (∀ i, p ≤ i → i < q → ∃ c, S[i]? = some c ∧ runB c = true)) (fun wr => leftAt b S wr)
  case atStart => exact ⟨hb0, R0, p, h0, Nat.le_refl _, fun i h1 h2 => by omega⟩
  case round =>
    obtain ⟨hb, R, q, hR, hpq, hH⟩ := hrel
    obtain ⟨c0, c1, c2, c3, f0, f1, f2, f3, le⟩ := id hR
    have hlt := hR.lt
    have hlf : Hid (leftAt b S wr = S.length - q) := hR.left
    by_cases hqn : q < S.length
    · obtain ⟨c, hc⟩ : ∃ c, S[q]? = some c := ⟨_, List.getElem?_eq_getElem hqn⟩
      have IX := fun w => index_at S q c hc w
      have hI : (q : Int) < (S.length : Int) := by omega
      have hcc := c.toNat_lt
      have kinds : (97 ≤ c.toNat ∧ c.toNat ≤ 122) ∨ (48 ≤ c.toNat ∧ c.toNat ≤ 57) ∨ (c.toNat = 95) ∨ (123 ≤ c.toNat) ∨ (58 ≤ c.toNat ∧ c.toNat ≤ 96 ∧ c.toNat ≠ 95) ∨ (c.toNat ≤ 47) := by omega
      rcases kinds with hk | hk | hk | hk | hk | hk
      · have hrc : runB c = true := by
          simp only [runB, letterB, digitB, Bool.or_eq_true, Bool.and_eq_true, decide_eq_true_eq]; omega
        have v0 : (97 : Int) ≤ (c.toNat : Int) := by omega
        have v1 : (c.toNat : Int) ≤ 122 := by omega
        have v95 : ((c.toNat : Int) == 95) = false := by simp; omega
        clear hk hcc
        go_wp2_with fail
        dsimp only [List.append, List.cons_append, List.nil_append]
        go_big_quiet (fail)
        go_wp2_with fail
        have hR1 := (hR.later (below_drewN wr nq)).go (q + 1) (by omega)
        have R1 := (R.later (below_drewN wr nq)).other ⟨b, 1, none⟩ (.int .i64 ((q + 1 : Nat) : Int)) (Nat.ne_of_gt hbw)
        rw [show (((q + 1 : Nat) : Int)) = (q : Int) + 1 by omega] at hR1 R1
        exact ⟨⟨hb.trans ((Beside.of (below_drewN wr nq) hlt).trans (Beside.set (a := ⟨b, 1, none⟩) _ rfl _)), R1, q + 1, hR1, by omega, fun i h1 h2 => if h : i = q then ⟨c, by rw [h]; exact hc, hrc⟩ else hH.out i h1 (by omega)⟩, by rw [hlf.out, hR1.left]; omega⟩
      · have hrc : runB c = true := by
          simp only [runB, letterB, digitB, Bool.or_eq_true, Bool.and_eq_true, decide_eq_true_eq]; omega
        have v0 : (48 : Int) ≤ (c.toNat : Int) := by omega
        have v1 : (c.toNat : Int) ≤ 57 := by omega
        have v2 : decide ((97 : Int) ≤ (c.toNat : Int)) = false := by simp; omega
        have v95 : ((c.toNat : Int) == 95) = false := by simp; omega
        clear hk hcc
        go_wp2_with fail
        dsimp only [List.append, List.cons_append, List.nil_append]
        go_big_quiet (fail)
        go_wp2_with fail
        have hR1 := (hR.later (below_drewN wr nq)).go (q + 1) (by omega)
        have R1 := (R.later (below_drewN wr nq)).other ⟨b, 1, none⟩ (.int .i64 ((q + 1 : Nat) : Int)) (Nat.ne_of_gt hbw)
        rw [show (((q + 1 : Nat) : Int)) = (q : Int) + 1 by omega] at hR1 R1
        exact ⟨⟨hb.trans ((Beside.of (below_drewN wr nq) hlt).trans (Beside.set (a := ⟨b, 1, none⟩) _ rfl _)), R1, q + 1, hR1, by omega, fun i h1 h2 => if h : i = q then ⟨c, by rw [h]; exact hc, hrc⟩ else hH.out i h1 (by omega)⟩, by rw [hlf.out, hR1.left]; omega⟩
      · have hrc : runB c = true := by
          simp only [runB, letterB, digitB, Bool.or_eq_true, Bool.and_eq_true, decide_eq_true_eq]; omega
        have v0 : (48 : Int) ≤ (c.toNat : Int) := by omega
        have v1 : decide ((97 : Int) ≤ (c.toNat : Int)) = false := by simp; omega
        have v2 : decide ((c.toNat : Int) ≤ 57) = false := by simp; omega
        have v95 : ((c.toNat : Int) == 95) = true := by simp; omega
        clear hk hcc
        go_wp2_with fail
        dsimp only [List.append, List.cons_append, List.nil_append]
        go_big_quiet (fail)
        go_wp2_with fail
        have hR1 := (hR.later (below_drewN wr nq)).go (q + 1) (by omega)
        have R1 := (R.later (below_drewN wr nq)).other ⟨b, 1, none⟩ (.int .i64 ((q + 1 : Nat) : Int)) (Nat.ne_of_gt hbw)
        rw [show (((q + 1 : Nat) : Int)) = (q : Int) + 1 by omega] at hR1 R1
        exact ⟨⟨hb.trans ((Beside.of (below_drewN wr nq) hlt).trans (Beside.set (a := ⟨b, 1, none⟩) _ rfl _)), R1, q + 1, hR1, by omega, fun i h1 h2 => if h : i = q then ⟨c, by rw [h]; exact hc, hrc⟩ else hH.out i h1 (by omega)⟩, by rw [hlf.out, hR1.left]; omega⟩
      · have hrc : runB c = false := by
          cases hz : runB c with
          | false => rfl
          | true => simp only [runB, letterB, digitB, Bool.or_eq_true, Bool.and_eq_true, decide_eq_true_eq] at hz; omega
        have v0 : (97 : Int) ≤ (c.toNat : Int) := by omega
        have v1 : (48 : Int) ≤ (c.toNat : Int) := by omega
        have v2 : decide ((c.toNat : Int) ≤ 122) = false := by simp; omega
        have v3 : decide ((c.toNat : Int) ≤ 57) = false := by simp; omega
        have v95 : ((c.toNat : Int) == 95) = false := by simp; omega
        clear hk hcc
        go_wp2_with fail
        dsimp only [List.append, List.cons_append, List.nil_append]
        go_big_quiet (fail)
        have hR2 := hR.later (below_drewN wr nq)
        have R2 := R.later (below_drewN wr nq)
        have hb2 := hb.trans (Beside.of (below_drewN wr nq) hlt)
        generalize wr.drewN nq = W2 at *
        clear c0 c1 c2 c3 f0 f1 f2 f3 hR R hb
        obtain ⟨c0, c1, c2, c3, f0, f1, f2, f3, _⟩ := id hR2
        obtain ⟨x0, x1, x2, x3, g0, g1, g2, g3⟩ := id R2
        have hl2 := R2.lt
        have hE := run_in hpq le hH.out (fun c' hc' => by rw [hc] at hc'; cases hc'; exact hrc)
        have WF := fun W => word_fn (S.extract p q) (by simp [List.extract_eq_take_drop]; omega) hE.2.2 W
        have SL := fun W => slice_pq S p q hpq le W
        have E : Hid (res = if wordP (S.extract p q) then some (.name (S.extract p q), S.drop q) else none) := by
          have := HR.out
          rw [hE.1, hE.2.1] at this
          exact this
        clear hE HR hH
        generalize S.extract p q = wd at *
        generalize wordP wd = wb at *
        cases wb with
        | true =>
          go_wp2_with fail
          go_quiet (first | (go_at_call 84; exact Calls.quiet_of_same (WF _)))
          clear WF
          have hR3 := hR2.later (below_drewN W2 nq)
          have R3 := R2.later (below_drewN W2 nq)
          have hb3 := hb2.trans (Beside.of (below_drewN W2 nq) hR2.lt)
          generalize W2.drewN nq = W3 at *
          clear c0 c1 c2 c3 f0 f1 f2 f3 x0 x1 x2 x3 g0 g1 g2 g3 hR2 R2 hb2 hl2
          obtain ⟨c0, c1, c2, c3, f0, f1, f2, f3, _⟩ := id hR3
          obtain ⟨x0, x1, x2, x3, g0, g1, g2, g3⟩ := id R3
          have hl3 := R3.lt
          go_wp2_with fail
          go_region
          all_goals go_wp2_with fail
          have R5 := R3.put (.int .i64 2) (.int .i64 0) (.string (bs wd)) (.slice none 0 0)
          have d5 := Below.drew (Below.refl (put4 W3 w.heap.size (.int .i64 2) (.int .i64 0) (.string (bs wd)) (.slice none 0 0)).heap.size (put4 W3 w.heap.size (.int .i64 2) (.int .i64 0) (.string (bs wd)) (.slice none 0 0)))
          have hR5 := (hR3.put4 w.heap.size (.int .i64 2) (.int .i64 0) (.string (bs wd)) (.slice none 0 0) (Nat.ne_of_lt hbw)).later d5
          have hb5 := (hb3.putNew hbw (Nat.le_refl _) (.int .i64 2) (.int .i64 0) (.string (bs wd)) (.slice none 0 0)).trans (Beside.of d5 (by rw [put4_size]; exact hR3.lt))
          obtain ⟨y0, y1, y2, y3, _, _, _, _⟩ := R5
          unfold put4 at y0 y1 y2 y3
          exact bodyPost_ret (v := .agg #[.int .i64 2, .int .i64 0, .string (bs wd), .slice none 0 0]) (by simp [results, Tryz.results69, go_sem, y0, y1, y2, y3]) rfl (by
            rw [E.out]
            exact ⟨hb5, _, q, rfl, rfl, hR5, rfl⟩)
        | false =>
          go_wp2_with fail
          go_quiet (first | (go_at_call 84; exact Calls.quiet_of_same (WF _)))
          clear WF
          have hR3 := hR2.later (below_drewN W2 nq)
          have R3 := R2.later (below_drewN W2 nq)
          have hb3 := hb2.trans (Beside.of (below_drewN W2 nq) hR2.lt)
          generalize W2.drewN nq = W3 at *
          clear c0 c1 c2 c3 f0 f1 f2 f3 x0 x1 x2 x3 g0 g1 g2 g3 hR2 R2 hb2 hl2
          have hR4 := hR3.spoil
          have R4 := R3.other ⟨b, 3, none⟩ (.bool true) (Nat.ne_of_gt hbw)
          have hb4 := hb3.trans (Beside.set (a := ⟨b, 3, none⟩) W3 rfl (.bool true))
          obtain ⟨c0, c1, c2, c3, f0, f1, f2, f3, _⟩ := id hR3
          have hl3 := hR3.lt
          go_wp2_with fail
          generalize W3.setCell ⟨b, 3, none⟩ (.bool true) = W4 at *
          clear c0 c1 c2 c3 f0 f1 f2 f3
          obtain ⟨c0, c1, c2, c3, f0, f1, f2, f3, _⟩ := id hR4
          obtain ⟨x0, x1, x2, x3, g0, g1, g2, g3⟩ := id R4
          have hl4 := R4.lt
          go_region
          all_goals go_wp2_with fail
          have R5 := R4.put (.int .i64 2) (.int .i64 0) (.string (bs wd)) (.slice none 0 0)
          have d5 := Below.drew (Below.refl (put4 W4 w.heap.size (.int .i64 2) (.int .i64 0) (.string (bs wd)) (.slice none 0 0)).heap.size (put4 W4 w.heap.size (.int .i64 2) (.int .i64 0) (.string (bs wd)) (.slice none 0 0)))
          have hR5 := (hR4.put4 w.heap.size (.int .i64 2) (.int .i64 0) (.string (bs wd)) (.slice none 0 0) (Nat.ne_of_lt hbw)).later d5
          have hb5 := (hb4.putNew hbw (Nat.le_refl _) (.int .i64 2) (.int .i64 0) (.string (bs wd)) (.slice none 0 0)).trans (Beside.of d5 (by rw [put4_size]; exact hR4.lt))
          obtain ⟨y0, y1, y2, y3, _, _, _, _⟩ := R5
          unfold put4 at y0 y1 y2 y3
          exact bodyPost_ret (v := .agg #[.int .i64 2, .int .i64 0, .string (bs wd), .slice none 0 0]) (by simp [results, Tryz.results69, go_sem, y0, y1, y2, y3]) rfl (by
            rw [E.out]
            exact ⟨hb5, _, q, rfl, ⟨_, _, _, _, _, _, rfl⟩, hR5⟩)
      · have hrc : runB c = false := by
          cases hz : runB c with
          | false => rfl
          | true => simp only [runB, letterB, digitB, Bool.or_eq_true, Bool.and_eq_true, decide_eq_true_eq] at hz; omega
        have v0 : (48 : Int) ≤ (c.toNat : Int) := by omega
        have v1 : decide ((97 : Int) ≤ (c.toNat : Int)) = false := by simp; omega
        have v2 : decide ((c.toNat : Int) ≤ 57) = false := by simp; omega
        have v95 : ((c.toNat : Int) == 95) = false := by simp; omega
        clear hk hcc
        go_wp2_with fail
        dsimp only [List.append, List.cons_append, List.nil_append]
        go_big_quiet (fail)
        have hR2 := hR.later (below_drewN wr nq)
        have R2 := R.later (below_drewN wr nq)
        have hb2 := hb.trans (Beside.of (below_drewN wr nq) hlt)
        generalize wr.drewN nq = W2 at *
        clear c0 c1 c2 c3 f0 f1 f2 f3 hR R hb
        obtain ⟨c0, c1, c2, c3, f0, f1, f2, f3, _⟩ := id hR2
        obtain ⟨x0, x1, x2, x3, g0, g1, g2, g3⟩ := id R2
        have hl2 := R2.lt
        have hE := run_in hpq le hH.out (fun c' hc' => by rw [hc] at hc'; cases hc'; exact hrc)
        have WF := fun W => word_fn (S.extract p q) (by simp [List.extract_eq_take_drop]; omega) hE.2.2 W
        have SL := fun W => slice_pq S p q hpq le W
        have E : Hid (res = if wordP (S.extract p q) then some (.name (S.extract p q), S.drop q) else none) := by
          have := HR.out
          rw [hE.1, hE.2.1] at this
          exact this
        clear hE HR hH
        generalize S.extract p q = wd at *
        generalize wordP wd = wb at *
        cases wb with
        | true =>
          go_wp2_with fail
          go_quiet (first | (go_at_call 84; exact Calls.quiet_of_same (WF _)))
          clear WF
          have hR3 := hR2.later (below_drewN W2 nq)
          have R3 := R2.later (below_drewN W2 nq)
          have hb3 := hb2.trans (Beside.of (below_drewN W2 nq) hR2.lt)
          generalize W2.drewN nq = W3 at *
          clear c0 c1 c2 c3 f0 f1 f2 f3 x0 x1 x2 x3 g0 g1 g2 g3 hR2 R2 hb2 hl2
          obtain ⟨c0, c1, c2, c3, f0, f1, f2, f3, _⟩ := id hR3
          obtain ⟨x0, x1, x2, x3, g0, g1, g2, g3⟩ := id R3
          have hl3 := R3.lt
          go_wp2_with fail
          go_region
          all_goals go_wp2_with fail
          have R5 := R3.put (.int .i64 2) (.int .i64 0) (.string (bs wd)) (.slice none 0 0)
          have d5 := Below.drew (Below.refl (put4 W3 w.heap.size (.int .i64 2) (.int .i64 0) (.string (bs wd)) (.slice none 0 0)).heap.size (put4 W3 w.heap.size (.int .i64 2) (.int .i64 0) (.string (bs wd)) (.slice none 0 0)))
          have hR5 := (hR3.put4 w.heap.size (.int .i64 2) (.int .i64 0) (.string (bs wd)) (.slice none 0 0) (Nat.ne_of_lt hbw)).later d5
          have hb5 := (hb3.putNew hbw (Nat.le_refl _) (.int .i64 2) (.int .i64 0) (.string (bs wd)) (.slice none 0 0)).trans (Beside.of d5 (by rw [put4_size]; exact hR3.lt))
          obtain ⟨y0, y1, y2, y3, _, _, _, _⟩ := R5
          unfold put4 at y0 y1 y2 y3
          exact bodyPost_ret (v := .agg #[.int .i64 2, .int .i64 0, .string (bs wd), .slice none 0 0]) (by simp [results, Tryz.results69, go_sem, y0, y1, y2, y3]) rfl (by
            rw [E.out]
            exact ⟨hb5, _, q, rfl, rfl, hR5, rfl⟩)
        | false =>
          go_wp2_with fail
          go_quiet (first | (go_at_call 84; exact Calls.quiet_of_same (WF _)))
          clear WF
          have hR3 := hR2.later (below_drewN W2 nq)
          have R3 := R2.later (below_drewN W2 nq)
          have hb3 := hb2.trans (Beside.of (below_drewN W2 nq) hR2.lt)
          generalize W2.drewN nq = W3 at *
          clear c0 c1 c2 c3 f0 f1 f2 f3 x0 x1 x2 x3 g0 g1 g2 g3 hR2 R2 hb2 hl2
          have hR4 := hR3.spoil
          have R4 := R3.other ⟨b, 3, none⟩ (.bool true) (Nat.ne_of_gt hbw)
          have hb4 := hb3.trans (Beside.set (a := ⟨b, 3, none⟩) W3 rfl (.bool true))
          obtain ⟨c0, c1, c2, c3, f0, f1, f2, f3, _⟩ := id hR3
          have hl3 := hR3.lt
          go_wp2_with fail
          generalize W3.setCell ⟨b, 3, none⟩ (.bool true) = W4 at *
          clear c0 c1 c2 c3 f0 f1 f2 f3
          obtain ⟨c0, c1, c2, c3, f0, f1, f2, f3, _⟩ := id hR4
          obtain ⟨x0, x1, x2, x3, g0, g1, g2, g3⟩ := id R4
          have hl4 := R4.lt
          go_region
          all_goals go_wp2_with fail
          have R5 := R4.put (.int .i64 2) (.int .i64 0) (.string (bs wd)) (.slice none 0 0)
          have d5 := Below.drew (Below.refl (put4 W4 w.heap.size (.int .i64 2) (.int .i64 0) (.string (bs wd)) (.slice none 0 0)).heap.size (put4 W4 w.heap.size (.int .i64 2) (.int .i64 0) (.string (bs wd)) (.slice none 0 0)))
          have hR5 := (hR4.put4 w.heap.size (.int .i64 2) (.int .i64 0) (.string (bs wd)) (.slice none 0 0) (Nat.ne_of_lt hbw)).later d5
          have hb5 := (hb4.putNew hbw (Nat.le_refl _) (.int .i64 2) (.int .i64 0) (.string (bs wd)) (.slice none 0 0)).trans (Beside.of d5 (by rw [put4_size]; exact hR4.lt))
          obtain ⟨y0, y1, y2, y3, _, _, _, _⟩ := R5
          unfold put4 at y0 y1 y2 y3
          exact bodyPost_ret (v := .agg #[.int .i64 2, .int .i64 0, .string (bs wd), .slice none 0 0]) (by simp [results, Tryz.results69, go_sem, y0, y1, y2, y3]) rfl (by
            rw [E.out]
            exact ⟨hb5, _, q, rfl, ⟨_, _, _, _, _, _, rfl⟩, hR5⟩)
      · have hrc : runB c = false := by
          cases hz : runB c with
          | false => rfl
          | true => simp only [runB, letterB, digitB, Bool.or_eq_true, Bool.and_eq_true, decide_eq_true_eq] at hz; omega
        have v0 : decide ((97 : Int) ≤ (c.toNat : Int)) = false := by simp; omega
        have v1 : decide ((48 : Int) ≤ (c.toNat : Int)) = false := by simp; omega
        have v95 : ((c.toNat : Int) == 95) = false := by simp; omega
        clear hk hcc
        go_wp2_with fail
        dsimp only [List.append, List.cons_append, List.nil_append]
        go_big_quiet (fail)
        have hR2 := hR.later (below_drewN wr nq)
        have R2 := R.later (below_drewN wr nq)
        have hb2 := hb.trans (Beside.of (below_drewN wr nq) hlt)
        generalize wr.drewN nq = W2 at *
        clear c0 c1 c2 c3 f0 f1 f2 f3 hR R hb
        obtain ⟨c0, c1, c2, c3, f0, f1, f2, f3, _⟩ := id hR2
        obtain ⟨x0, x1, x2, x3, g0, g1, g2, g3⟩ := id R2
        have hl2 := R2.lt
        have hE := run_in hpq le hH.out (fun c' hc' => by rw [hc] at hc'; cases hc'; exact hrc)
        have WF := fun W => word_fn (S.extract p q) (by simp [List.extract_eq_take_drop]; omega) hE.2.2 W
        have SL := fun W => slice_pq S p q hpq le W
        have E : Hid (res = if wordP (S.extract p q) then some (.name (S.extract p q), S.drop q) else none) := by
          have := HR.out
          rw [hE.1, hE.2.1] at this
          exact this
        clear hE HR hH
        generalize S.extract p q = wd at *
        generalize wordP wd = wb at *
        cases wb with
        | true =>
          go_wp2_with fail
          go_quiet (first | (go_at_call 84; exact Calls.quiet_of_same (WF _)))
          clear WF
          have hR3 := hR2.later (below_drewN W2 nq)
          have R3 := R2.later (below_drewN W2 nq)
          have hb3 := hb2.trans (Beside.of (below_drewN W2 nq) hR2.lt)
          generalize W2.drewN nq = W3 at *
          clear c0 c1 c2 c3 f0 f1 f2 f3 x0 x1 x2 x3 g0 g1 g2 g3 hR2 R2 hb2 hl2
          obtain ⟨c0, c1, c2, c3, f0, f1, f2, f3, _⟩ := id hR3
          obtain ⟨x0, x1, x2, x3, g0, g1, g2, g3⟩ := id R3
          have hl3 := R3.lt
          go_wp2_with fail
          go_region
          all_goals go_wp2_with fail
          have R5 := R3.put (.int .i64 2) (.int .i64 0) (.string (bs wd)) (.slice none 0 0)
          have d5 := Below.drew (Below.refl (put4 W3 w.heap.size (.int .i64 2) (.int .i64 0) (.string (bs wd)) (.slice none 0 0)).heap.size (put4 W3 w.heap.size (.int .i64 2) (.int .i64 0) (.string (bs wd)) (.slice none 0 0)))
          have hR5 := (hR3.put4 w.heap.size (.int .i64 2) (.int .i64 0) (.string (bs wd)) (.slice none 0 0) (Nat.ne_of_lt hbw)).later d5
          have hb5 := (hb3.putNew hbw (Nat.le_refl _) (.int .i64 2) (.int .i64 0) (.string (bs wd)) (.slice none 0 0)).trans (Beside.of d5 (by rw [put4_size]; exact hR3.lt))
          obtain ⟨y0, y1, y2, y3, _, _, _, _⟩ := R5
          unfold put4 at y0 y1 y2 y3
          exact bodyPost_ret (v := .agg #[.int .i64 2, .int .i64 0, .string (bs wd), .slice none 0 0]) (by simp [results, Tryz.results69, go_sem, y0, y1, y2, y3]) rfl (by
            rw [E.out]
            exact ⟨hb5, _, q, rfl, rfl, hR5, rfl⟩)
        | false =>
          go_wp2_with fail
          go_quiet (first | (go_at_call 84; exact Calls.quiet_of_same (WF _)))
          clear WF
          have hR3 := hR2.later (below_drewN W2 nq)
          have R3 := R2.later (below_drewN W2 nq)
          have hb3 := hb2.trans (Beside.of (below_drewN W2 nq) hR2.lt)
          generalize W2.drewN nq = W3 at *
          clear c0 c1 c2 c3 f0 f1 f2 f3 x0 x1 x2 x3 g0 g1 g2 g3 hR2 R2 hb2 hl2
          have hR4 := hR3.spoil
          have R4 := R3.other ⟨b, 3, none⟩ (.bool true) (Nat.ne_of_gt hbw)
          have hb4 := hb3.trans (Beside.set (a := ⟨b, 3, none⟩) W3 rfl (.bool true))
          obtain ⟨c0, c1, c2, c3, f0, f1, f2, f3, _⟩ := id hR3
          have hl3 := hR3.lt
          go_wp2_with fail
          generalize W3.setCell ⟨b, 3, none⟩ (.bool true) = W4 at *
          clear c0 c1 c2 c3 f0 f1 f2 f3
          obtain ⟨c0, c1, c2, c3, f0, f1, f2, f3, _⟩ := id hR4
          obtain ⟨x0, x1, x2, x3, g0, g1, g2, g3⟩ := id R4
          have hl4 := R4.lt
          go_region
          all_goals go_wp2_with fail
          have R5 := R4.put (.int .i64 2) (.int .i64 0) (.string (bs wd)) (.slice none 0 0)
          have d5 := Below.drew (Below.refl (put4 W4 w.heap.size (.int .i64 2) (.int .i64 0) (.string (bs wd)) (.slice none 0 0)).heap.size (put4 W4 w.heap.size (.int .i64 2) (.int .i64 0) (.string (bs wd)) (.slice none 0 0)))
          have hR5 := (hR4.put4 w.heap.size (.int .i64 2) (.int .i64 0) (.string (bs wd)) (.slice none 0 0) (Nat.ne_of_lt hbw)).later d5
          have hb5 := (hb4.putNew hbw (Nat.le_refl _) (.int .i64 2) (.int .i64 0) (.string (bs wd)) (.slice none 0 0)).trans (Beside.of d5 (by rw [put4_size]; exact hR4.lt))
          obtain ⟨y0, y1, y2, y3, _, _, _, _⟩ := R5
          unfold put4 at y0 y1 y2 y3
          exact bodyPost_ret (v := .agg #[.int .i64 2, .int .i64 0, .string (bs wd), .slice none 0 0]) (by simp [results, Tryz.results69, go_sem, y0, y1, y2, y3]) rfl (by
            rw [E.out]
            exact ⟨hb5, _, q, rfl, ⟨_, _, _, _, _, _, rfl⟩, hR5⟩)
    · have hI : decide ((q : Int) < (S.length : Int)) = false := by simp; omega
      go_wp2_with fail
      dsimp only [List.append, List.cons_append, List.nil_append]
      go_big_quiet (fail)
      have hR2 := hR.later (below_drewN wr nq)
      have R2 := R.later (below_drewN wr nq)
      have hb2 := hb.trans (Beside.of (below_drewN wr nq) hlt)
      generalize wr.drewN nq = W2 at *
      clear c0 c1 c2 c3 f0 f1 f2 f3 hR R hb
      obtain ⟨c0, c1, c2, c3, f0, f1, f2, f3, _⟩ := id hR2
      obtain ⟨x0, x1, x2, x3, g0, g1, g2, g3⟩ := id R2
      have hl2 := R2.lt
      have hE := run_in hpq le hH.out (fun c' hc' => by rw [List.getElem?_eq_none (by omega)] at hc'; cases hc')
      have WF := fun W => word_fn (S.extract p q) (by simp [List.extract_eq_take_drop]; omega) hE.2.2 W
      have SL := fun W => slice_pq S p q hpq le W
      have E : Hid (res = if wordP (S.extract p q) then some (.name (S.extract p q), S.drop q) else none) := by
        have := HR.out
        rw [hE.1, hE.2.1] at this
        exact this
      clear hE HR hH
      generalize S.extract p q = wd at *
      generalize wordP wd = wb at *
      cases wb with
      | true =>
        go_wp2_with fail
        go_quiet (first | (go_at_call 84; exact Calls.quiet_of_same (WF _)))
        clear WF
        have hR3 := hR2.later (below_drewN W2 nq)
        have R3 := R2.later (below_drewN W2 nq)
        have hb3 := hb2.trans (Beside.of (below_drewN W2 nq) hR2.lt)
        generalize W2.drewN nq = W3 at *
        clear c0 c1 c2 c3 f0 f1 f2 f3 x0 x1 x2 x3 g0 g1 g2 g3 hR2 R2 hb2 hl2
        obtain ⟨c0, c1, c2, c3, f0, f1, f2, f3, _⟩ := id hR3
        obtain ⟨x0, x1, x2, x3, g0, g1, g2, g3⟩ := id R3
        have hl3 := R3.lt
        go_wp2_with fail
        go_region
        all_goals go_wp2_with fail
        have R5 := R3.put (.int .i64 2) (.int .i64 0) (.string (bs wd)) (.slice none 0 0)
        have d5 := Below.drew (Below.refl (put4 W3 w.heap.size (.int .i64 2) (.int .i64 0) (.string (bs wd)) (.slice none 0 0)).heap.size (put4 W3 w.heap.size (.int .i64 2) (.int .i64 0) (.string (bs wd)) (.slice none 0 0)))
        have hR5 := (hR3.put4 w.heap.size (.int .i64 2) (.int .i64 0) (.string (bs wd)) (.slice none 0 0) (Nat.ne_of_lt hbw)).later d5
        have hb5 := (hb3.putNew hbw (Nat.le_refl _) (.int .i64 2) (.int .i64 0) (.string (bs wd)) (.slice none 0 0)).trans (Beside.of d5 (by rw [put4_size]; exact hR3.lt))
        obtain ⟨y0, y1, y2, y3, _, _, _, _⟩ := R5
        unfold put4 at y0 y1 y2 y3
        exact bodyPost_ret (v := .agg #[.int .i64 2, .int .i64 0, .string (bs wd), .slice none 0 0]) (by simp [results, Tryz.results69, go_sem, y0, y1, y2, y3]) rfl (by
          rw [E.out]
          exact ⟨hb5, _, q, rfl, rfl, hR5, rfl⟩)
      | false =>
        go_wp2_with fail
        go_quiet (first | (go_at_call 84; exact Calls.quiet_of_same (WF _)))
        clear WF
        have hR3 := hR2.later (below_drewN W2 nq)
        have R3 := R2.later (below_drewN W2 nq)
        have hb3 := hb2.trans (Beside.of (below_drewN W2 nq) hR2.lt)
        generalize W2.drewN nq = W3 at *
        clear c0 c1 c2 c3 f0 f1 f2 f3 x0 x1 x2 x3 g0 g1 g2 g3 hR2 R2 hb2 hl2
        have hR4 := hR3.spoil
        have R4 := R3.other ⟨b, 3, none⟩ (.bool true) (Nat.ne_of_gt hbw)
        have hb4 := hb3.trans (Beside.set (a := ⟨b, 3, none⟩) W3 rfl (.bool true))
        obtain ⟨c0, c1, c2, c3, f0, f1, f2, f3, _⟩ := id hR3
        have hl3 := hR3.lt
        go_wp2_with fail
        generalize W3.setCell ⟨b, 3, none⟩ (.bool true) = W4 at *
        clear c0 c1 c2 c3 f0 f1 f2 f3
        obtain ⟨c0, c1, c2, c3, f0, f1, f2, f3, _⟩ := id hR4
        obtain ⟨x0, x1, x2, x3, g0, g1, g2, g3⟩ := id R4
        have hl4 := R4.lt
        go_region
        all_goals go_wp2_with fail
        have R5 := R4.put (.int .i64 2) (.int .i64 0) (.string (bs wd)) (.slice none 0 0)
        have d5 := Below.drew (Below.refl (put4 W4 w.heap.size (.int .i64 2) (.int .i64 0) (.string (bs wd)) (.slice none 0 0)).heap.size (put4 W4 w.heap.size (.int .i64 2) (.int .i64 0) (.string (bs wd)) (.slice none 0 0)))
        have hR5 := (hR4.put4 w.heap.size (.int .i64 2) (.int .i64 0) (.string (bs wd)) (.slice none 0 0) (Nat.ne_of_lt hbw)).later d5
        have hb5 := (hb4.putNew hbw (Nat.le_refl _) (.int .i64 2) (.int .i64 0) (.string (bs wd)) (.slice none 0 0)).trans (Beside.of d5 (by rw [put4_size]; exact hR4.lt))
        obtain ⟨y0, y1, y2, y3, _, _, _, _⟩ := R5
        unfold put4 at y0 y1 y2 y3
        exact bodyPost_ret (v := .agg #[.int .i64 2, .int .i64 0, .string (bs wd), .slice none 0 0]) (by simp [results, Tryz.results69, go_sem, y0, y1, y2, y3]) rfl (by
          rw [E.out]
          exact ⟨hb5, _, q, rfl, ⟨_, _, _, _, _, _, rfl⟩, hR5⟩)
end Go.Proofs.YtopfnfmglnjljaaGreatDoor.Rf
