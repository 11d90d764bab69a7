/- Pin. -/
import Derived.Test.YtcnajkclbmddgaaLow
import Derived.BigQuiet
namespace Go.Proofs.Ytcnajkclbmddgaa
open Go.ChangeShapes Go.WideShapes Go.ChangeAt Go.RowKit
open Go.Sort (grow)
set_option linter.unusedVariables false
set_option linter.unusedSimpArgs false

/-- The pins behind one more of this stamp. -/
def pinL (now : Int) (l : List Pn) : List Pn :=
  match l.getLast? with
  | some x => if x.1 = now then l.dropLast ++ [(x.1, x.2 + 1)] else l ++ [(now, 1)]
  | none => l ++ [(now, 1)]

theorem info_pin : (Try.prog.info? 70).map (fun i => (i.zero, i.size, i.bytes)) = some (some (.agg #[.int .i64 0, .int .i64 0]), 2, 16) := by kernel_rfl

theorem pinL_add {now : Int} {l : List Pn} (h : ∀ x, l.getLast? = some x → x.1 ≠ now) : pinL now l = l ++ [(now, 1)] := by
  unfold pinL
  cases hl : l.getLast? with
  | none => rfl
  | some x => simp only; rw [if_neg (h x hl)]

theorem encP_set {l : List Pn} {x : Pn} (y : Int) : (encP (l ++ [x])).set (l.length * 2 + 1) (.int .i64 y) = encP (l ++ [(x.1, y)]) := by
  rw [encP_append, encP_append, List.set_append_right _ _ (by rw [encP_len]; omega), encP_len, show l.length * 2 + 1 - l.length * 2 = 1 by omega]
  rfl

/-- The end of a Pin that lays a new one. -/
theorem pin_new {w w6 : World} {S : St} {gg cap : Nat} (A : StoreAt w S) (hl : S.pins.length < 900000)
    (hown6 : w6.ownsRow 0 70 2 (.slice (some ⟨gg, 0, none⟩) (S.pins.length + 1) cap) (S.pins.length + 1) (encP S.pins ++ [.int .i64 S.now, .int .i64 1]))
    (O6 : Only (fun b => S.pinV.ownBlock = some b) w w6) (hat : S.pinV.ownBlock = some gg ∨ w.heap.size ≤ gg) :
    StoreAt (w6.setCell ⟨S.p, 4, none⟩ (.slice (some ⟨gg, 0, none⟩) (S.pins.length + 1) cap)) (S.pinned (.slice (some ⟨gg, 0, none⟩) (S.pins.length + 1) cap) (S.pins ++ [(S.now, 1)])) ∧
      Step w (w6.setCell ⟨S.p, 4, none⟩ (.slice (some ⟨gg, 0, none⟩) (S.pins.length + 1) cap)) S (S.pinned (.slice (some ⟨gg, 0, none⟩) (S.pins.length + 1) cap) (S.pins ++ [(S.now, 1)])) := by
  have hne : S.pinV.ownBlock ≠ some S.p := fun e => by
    have := A.labPin _ e
    rw [A.labP] at this
    cases this
  have hpl := A.blk.lt
  have hgp : gg ≠ S.p := by
    rintro rfl
    rcases hat with h | h
    · exact hne h
    · omega
  have B6 : Blk w6 S.p S.cs 62 := A.blk.of_block (O6.block _ hpl hne)
  have OO : Only (fun b => b = S.p ∨ S.pinV.ownBlock = some b) w (w6.setCell ⟨S.p, 4, none⟩ (.slice (some ⟨gg, 0, none⟩) (S.pins.length + 1) cap)) :=
    ⟨O6.os, O6.tape, O6.output, by simp [World.setCell]; exact O6.size, fun k hk hn => (Below.heap_setCell _ _ _ _ (fun e => hn (.inl e))).trans (O6.block k hk (fun e => hn (.inr e)))⟩
  have RR : ∀ g, (Value.slice (some ⟨gg, 0, none⟩) (S.pins.length + 1) cap).ownBlock = some g → S.pinV.ownBlock = some g ∨ w.heap.size ≤ g := fun g hg => by
    simp [Value.ownBlock] at hg
    subst hg
    exact hat
  have R7 := ownsRow_setCell_other hown6 (a := ⟨S.p, 4, none⟩) (by simpa [Value.ownBlock] using hgp) (.slice (some ⟨gg, 0, none⟩) (S.pins.length + 1) cap)
  have e : encP (S.pins ++ [(S.now, 1)]) = encP S.pins ++ [.int .i64 S.now, .int .i64 1] := by rw [encP_append]; rfl
  have hlen : (S.pins ++ [(S.now, (1 : Int))]).length = S.pins.length + 1 := by simp
  exact ⟨A.pinned (B6.set 4 _) (by rw [hlen, e]; exact R7) OO RR (by rw [hlen]; omega), Step.pinned A OO RR⟩

/-- The end of a Pin of a stamp that is pinned. -/
theorem pin_more {w : World} {S : St} {l' : List Pn} {x : Pn} {g cap : Nat} (A : StoreAt w S) (hlx : S.pins = l' ++ [x]) (hnow : x.1 = S.now) (hv : S.pinV = .slice (some ⟨g, 0, none⟩) S.pins.length cap) :
    StoreAt (w.setCell ⟨g, l'.length * 2 + 1, none⟩ (.int .i64 (x.2 + 1))) (S.pinned S.pinV (pinL S.now S.pins)) ∧ Step w (w.setCell ⟨g, l'.length * 2 + 1, none⟩ (.int .i64 (x.2 + 1))) S (S.pinned S.pinV (pinL S.now S.pins)) := by
  have hg : S.pinV.ownBlock = some g := by rw [hv]; rfl
  have hne : S.p ≠ g := fun e => by
    have := A.labPin g hg
    rw [← e, A.labP] at this
    cases this
  have hpl : pinL S.now S.pins = l' ++ [(x.1, x.2 + 1)] := by
    unfold pinL
    rw [hlx, List.getLast?_concat]
    simp only
    rw [if_pos hnow, List.dropLast_concat]
  have hR := A.pinR
  rw [hv] at hR
  obtain ⟨R1, G1⟩ := hR.stored (l'.length * 2 + 1) (.int .i64 (x.2 + 1))
  rw [← hv] at R1
  have hlen : (l' ++ [(x.1, x.2 + 1)]).length = S.pins.length := by rw [hlx]; simp
  rw [hlx, encP_set, ← hlx, ← hlen] at R1
  have OO : Only (fun b => b = S.p ∨ S.pinV.ownBlock = some b) w (w.setCell ⟨g, l'.length * 2 + 1, none⟩ (.int .i64 (x.2 + 1))) := ⟨rfl, rfl, rfl, by simp [World.setCell], fun k hk hn => Below.heap_setCell _ _ _ _ (fun e => hn (.inr (by rw [hg, e])))⟩
  rw [hpl]
  exact ⟨A.pinned (A.blk.of_block (Below.heap_setCell _ _ _ _ hne)) R1 OO (fun g h => .inl h) (by rw [hlen]; exact A.few.2.2.2), Step.pinned A OO (fun g h => .inl h)⟩

set_option maxHeartbeats 3200000 in
set_option maxRecDepth 20000 in
theorem pin_any (S : St) (w : World) (A : StoreAt w S) (hl : S.pins.length < 900000) (hb : ∀ x ∈ S.pins, 0 ≤ x.2 ∧ x.2 ≤ 1000000) :
    Calls Try.prog 16 #[.pointer (some ⟨S.p, 0, none⟩)] w fun e w' => ∃ v, e = .returned (.int .i64 S.now) ∧ StoreAt w' (S.pinned v (pinL S.now S.pins)) ∧ Step w w' S (S.pinned v (pinL S.now S.pins)) := by
  have c1 := A.blk.cell (i := 1) (v := .int .i64 S.now) rfl
  have c4 := A.blk.cell (i := 4) (v := S.pinV) rfl
  have f4 := A.blk.thawed 4
  have hne : S.pinV.ownBlock ≠ some S.p := fun e => by
    have := A.labPin _ e
    rw [A.labP] at this
    cases this
  have hrow := A.pinR
  have hpl := A.blk.lt
  have hadd : ∀ (w1 w6 : World) (gg cap : Nat), Below w.heap.size w w1 → w6.ownsRow 0 70 2 (.slice (some ⟨gg, 0, none⟩) (S.pins.length + 1) cap) (S.pins.length + 1) (encP S.pins ++ [.int .i64 S.now, .int .i64 1]) → (w1.alloc (.cells #[.int .i64 S.now, .int .i64 1] 70)).grownBy w6 S.pinV.ownBlock → (S.pinV.ownBlock = some gg ∨ gg = w1.heap.size + 1) → (∀ x, S.pins.getLast? = some x → x.1 ≠ S.now) →
      w6.cell? ⟨S.p, 1, none⟩ = some (.int .i64 S.now) ∧ w6.frozen? ⟨S.p, 4, none⟩ = false ∧ w6.cell? ⟨S.p, 4, none⟩ = some S.pinV ∧ (w6.setCell ⟨S.p, 4, none⟩ (.slice (some ⟨gg, 0, none⟩) (S.pins.length + 1) cap)).cell? ⟨S.p, 1, none⟩ = some (.int .i64 S.now) ∧
      Hid (StoreAt (w6.setCell ⟨S.p, 4, none⟩ (.slice (some ⟨gg, 0, none⟩) (S.pins.length + 1) cap)) (S.pinned (.slice (some ⟨gg, 0, none⟩) (S.pins.length + 1) cap) (pinL S.now S.pins)) ∧
      Step w (w6.setCell ⟨S.p, 4, none⟩ (.slice (some ⟨gg, 0, none⟩) (S.pins.length + 1) cap)) S (S.pinned (.slice (some ⟨gg, 0, none⟩) (S.pins.length + 1) cap) (pinL S.now S.pins))) := by
    intro w1 w6 gg cap hb1 h1 h2 h3 h4
    have b1 : Below w.heap.size w (w1.alloc (.cells #[.int .i64 S.now, .int .i64 1] 70)) := hb1.alloc hb1.size _
    have O6 : Only (fun b => S.pinV.ownBlock = some b) w w6 := ⟨h2.os.trans b1.os, h2.tape.trans b1.tape, h2.output.trans b1.output, Nat.le_trans b1.size h2.size, fun k hk hn => (h2.block k (Nat.lt_of_lt_of_le hk b1.size) (fun e => hn e.symm)).trans (b1.block k hk)⟩
    have B6 : Blk w6 S.p S.cs 62 := A.blk.of_block (O6.block _ hpl hne)
    rw [pinL_add h4]
    exact ⟨B6.cell (i := 1) rfl, B6.thawed 4, B6.cell (i := 4) rfl, (B6.set 4 _).cell (i := 1) rfl, pin_new A hl h1 O6 (h3.imp id (fun h => by have := hb1.size; omega))⟩
  replace hadd : Hid _ := hadd
  obtain ⟨i0, hi0, hz0, hz2, hz3⟩ := info_parts info_pin
  replace hl : Hid (S.pins.length < 900000) := hl
  rcases Nat.eq_zero_or_pos S.pins.length with h0 | h0
  · -- the first one
    have hlast : Hid (∀ x, S.pins.getLast? = some x → x.1 ≠ S.now) := fun x hx => by
      rw [List.length_eq_zero_iff.1 h0] at hx
      cases hx
    obtain ⟨a, c, hv⟩ := own_slice hrow
    rw [h0] at hv
    clear A hb
    generalize hpv : S.pinV = pv at *
    generalize S.pins.length = ln at *
    subst h0
    subst hv
    clear hpv
    replace hrow : Hid (w.ownsRow 0 70 2 (.slice a 0 c) 0 (encP S.pins)) := hrow
    go_enter Try.func16, Try.ntmps16
    go_wp2_with fail
    go_quiet (fail)
    have hb1 := below_drewN w nq
    generalize w.drewN nq = w1 at *
    go_wp2_with fail
    have c1d : w1.drew.cell? ⟨S.p, 1, none⟩ = some (.int .i64 S.now) := kept_cell hb1 c1
    have c4d : w1.drew.cell? ⟨S.p, 4, none⟩ = some (.slice a 0 c) := kept_cell hb1 c4
    have f4d : w1.drew.frozen? ⟨S.p, 4, none⟩ = false := kept_thawed hb1 hpl f4
    have hrow1 : w1.ownsRow 0 70 2 (.slice a 0 c) 0 (encP S.pins) := row_thru hrow.out (fun g hg => hb1.block g (hrow.out.lt g hg).2)
    have hpl1 : S.p < w1.heap.size := Nat.lt_of_lt_of_le hpl hb1.size
    replace c1 : w1.cell? ⟨S.p, 1, none⟩ = some (.int .i64 S.now) := c1d
    replace c4 : w1.cell? ⟨S.p, 4, none⟩ = some (.slice a 0 c) := c4d
    replace f4 : w1.frozen? ⟨S.p, 4, none⟩ = false := f4d
    go_region_law
      (first
        | (refine step_append_lies _ (by rfl) _ _ _ (by rfl) 0 70 i0 _ 2 16 Try.underlying58 hi0 hz0 hz2 hz3 rfl (by omega) (.slice a 0 c) 0 (encP S.pins) (by rfl) (hrow1.drew.alloc _)
            ⟨w1.heap.size, 0, none⟩ 1 1 [.int .i64 S.now, .int .i64 1] (by rfl) (by rfl) (World.news_of_block (cs := #[.int .i64 S.now, .int .i64 1]) (t := 70) (fr := (0, 0)) (heap_alloc_new w1.drew _)) (by simp [Value.oneCell']) (by omega) (by have := hl.out; unfold maxLen; omega) (by have := hl.out; omega) (Nat.zero_le _) (w1.heap.size + 1) (by simp) ?_; intro gg cap w6 hown6 hgrow hat hlt6; obtain ⟨x1, th6, x6, x7, RR⟩ := hadd.out w1.drew w6 gg cap hb1.drew hown6 ⟨hgrow.os, hgrow.tape, hgrow.output, hgrow.size, hgrow.block⟩ hat hlast.out))
    all_goals
      simp only [Nat.zero_add] at x7 RR
      clear c1d c4d f4d c1 c4 f4 x1 th6 x6 hown6 hgrow
      go_wp2_with fail
      go_ret
      exact ⟨_, rfl, RR.out⟩
  · obtain ⟨g, cap0, hv, _, hgl⟩ := hrow.form h0
    obtain ⟨l', x, hlx⟩ : ∃ l' x, S.pins = l' ++ [x] := by
      rcases List.eq_nil_or_concat S.pins with hq | hq
      · rw [hq] at h0; simp at h0
      · obtain ⟨l', x, hq⟩ := hq
        exact ⟨l', x, by rw [hq, List.concat_eq_append]⟩
    have hln : S.pins.length = l'.length + 1 := by rw [hlx]; simp
    have hx : S.pins[l'.length]? = some x := by rw [hlx]; simp
    obtain ⟨e1, e2⟩ := encP_get S.pins _ x hx
    have d1 := hrow.cells (g := g) (by rw [hv]; rfl) _ _ e1
    have d2 := hrow.cells (g := g) (by rw [hv]; rfl) _ _ e2
    rw [cell_add, Nat.zero_add] at d1 d2
    have hgl2 : S.pins.getLast? = some x := by rw [hlx]; simp
    have hsub : (S.pins.length : Int) - 1 = (l'.length : Int) := by omega
    have hl0 : (0 : Int) ≤ (l'.length : Int) := by omega
    have hlI2 : (l'.length : Int) < (S.pins.length : Int) := by omega
    have hpos : (0 : Int) < (S.pins.length : Int) := by omega
    have hlI3 : (l'.length : Int) < 900000 := by have := hl.out; omega
    by_cases hnow : x.1 = S.now
    · have hxb := hb x (List.mem_of_getElem? hx)
      have HP : Hid (∀ w1, Below w.heap.size w w1 → StoreAt (w1.setCell ⟨g, l'.length * 2 + 1, none⟩ (.int .i64 (x.2 + 1))) (S.pinned S.pinV (pinL S.now S.pins)) ∧ Step w (w1.setCell ⟨g, l'.length * 2 + 1, none⟩ (.int .i64 (x.2 + 1))) S (S.pinned S.pinV (pinL S.now S.pins)) ∧ (w1.setCell ⟨g, l'.length * 2 + 1, none⟩ (.int .i64 (x.2 + 1))).cell? ⟨S.p, 1, none⟩ = some (.int .i64 S.now)) := fun w1 hb1 => by
        obtain ⟨q1, q2⟩ := pin_more (A.below hb1) hlx hnow hv
        exact ⟨q1, (Step.of_below hb1 S).trans q2, q1.blk.cell (i := 1) rfl⟩
      have fg := (by rw [hv] at hrow; exact hrow.frozenAt (l'.length * 2 + 1) : w.frozen? ⟨g, l'.length * 2 + 1, none⟩ = false)
      obtain ⟨y, hy, hy0, hy1⟩ : ∃ y, x.2 + 1 = y ∧ 0 ≤ y ∧ y ≤ 1000001 := ⟨_, rfl, by omega, by omega⟩
      rw [hy] at HP
      rw [hv] at c4
      rw [hnow] at d1
      clear A hb hadd hlx hx e1 e2 hgl2 hxb hrow hln hnow hne
      generalize S.pins.length = ln at *
      go_enter Try.func16, Try.ntmps16
      go_wp2_with fail
      go_quiet (fail)
      have hb1 := below_drewN w nq
      generalize w.drewN nq = w1 at *
      replace c1 := kept_cell hb1 c1
      replace c4 := kept_cell hb1 c4
      replace d1 := kept_cell hb1 d1
      replace d2 := kept_cell hb1 d2
      replace fg := kept_thawed hb1 hgl fg
      obtain ⟨q1, q2, q3⟩ := HP.out w1 hb1
      have HQ : Hid _ := And.intro q1 q2
      clear q1 q2 HP hv
      go_wp2_with fail
      go_ret
      exact ⟨_, rfl, HQ.out⟩
    · have hlast : Hid (∀ x, S.pins.getLast? = some x → x.1 ≠ S.now) := fun y hy => by
        rw [hgl2] at hy
        cases hy
        exact hnow
      clear A hb hlx hx e1 e2 hgl2 hln d2
      generalize hpv : S.pinV = pv at *
      generalize S.pins.length = ln at *
      subst hv
      clear hpv
      replace hrow : Hid (w.ownsRow 0 70 2 (.slice (some ⟨g, 0, none⟩) ln cap0) ln (encP S.pins)) := hrow
      go_enter Try.func16, Try.ntmps16
      go_wp2_with fail
      go_quiet (fail)
      have hb1 := below_drewN w nq
      generalize w.drewN nq = w1 at *
      clear d1 hsub hl0 hlI2 hlI3 hpos h0
      go_wp2_with fail
      have c1d : w1.drew.cell? ⟨S.p, 1, none⟩ = some (.int .i64 S.now) := kept_cell hb1 c1
      have c4d : w1.drew.cell? ⟨S.p, 4, none⟩ = some (.slice (some ⟨g, 0, none⟩) ln cap0) := kept_cell hb1 c4
      have f4d : w1.drew.frozen? ⟨S.p, 4, none⟩ = false := kept_thawed hb1 hpl f4
      have hrow1 : w1.ownsRow 0 70 2 (.slice (some ⟨g, 0, none⟩) ln cap0) ln (encP S.pins) := row_thru hrow.out (fun g hg => hb1.block g (hrow.out.lt g hg).2)
      have hpl1 : S.p < w1.heap.size := Nat.lt_of_lt_of_le hpl hb1.size
      replace c1 : w1.cell? ⟨S.p, 1, none⟩ = some (.int .i64 S.now) := c1d
      replace c4 : w1.cell? ⟨S.p, 4, none⟩ = some (.slice (some ⟨g, 0, none⟩) ln cap0) := c4d
      replace f4 : w1.frozen? ⟨S.p, 4, none⟩ = false := f4d
      go_region_law
        (first
          | (refine step_append_lies _ (by rfl) _ _ _ (by rfl) 0 70 i0 _ 2 16 Try.underlying58 hi0 hz0 hz2 hz3 rfl (by omega) (.slice (some ⟨g, 0, none⟩) ln cap0) ln (encP S.pins) (by rfl) (hrow1.drew.alloc _)
              ⟨w1.heap.size, 0, none⟩ 1 1 [.int .i64 S.now, .int .i64 1] (by rfl) (by rfl) (World.news_of_block (cs := #[.int .i64 S.now, .int .i64 1]) (t := 70) (fr := (0, 0)) (heap_alloc_new w1.drew _)) (by simp [Value.oneCell']) (by omega) (by have := hl.out; unfold maxLen; omega) (by have := hl.out; omega) (Nat.zero_le _) (w1.heap.size + 1) (by simp) ?_; intro gg cap w6 hown6 hgrow hat hlt6; obtain ⟨x1, th6, x6, x7, RR⟩ := hadd.out w1.drew w6 gg cap hb1.drew hown6 ⟨hgrow.os, hgrow.tape, hgrow.output, hgrow.size, hgrow.block⟩ hat hlast.out))
      all_goals
        clear c1d c4d f4d c1 c4 f4 x1 th6 x6 hown6 hgrow
        go_wp2_with fail
        go_ret
        exact ⟨_, rfl, RR.out⟩
end Go.Proofs.Ytcnajkclbmddgaa
