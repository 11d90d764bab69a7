/- Pin.
   slices.Delete of one pin.
   Unpin.
   A store that a law has made, with its pins: its calls. -/
import Derived.Test.YtlncljfljjaacaaGreatDoorStC
import Derived.BigQuiet
import Derived.Laws.CopyRow
import Derived.Deep.DeepAppendRoom
import Derived.WalkSmall
import Derived.Deep.RegionLaw
namespace Go.Proofs.YtlncljfljjaacaaGreatDoor
open Go.ChangeShapes Go.WideShapes Go.ChangeAt Go.RowKit
open Go.Sort (grow)
set_option linter.unusedVariables false
set_option linter.unusedSimpArgs false

/-- The pins behind one more of this stamp. -/
def pinL (now : Int) (l : List Pn) : List Pn :=
  match l.getLast? with
  | some x => if x.1 = now then l.dropLast ++ [(x.1, x.2 + 1)] else l ++ [(now, 1)]
  | none => l ++ [(now, 1)]

theorem info_pin : (Tryz.prog.info? 110).map (fun i => (i.zero, i.size, i.bytes)) = some (some (.agg #[.int .i64 0, .int .i64 0]), 2, 16) := by kernel_rfl

theorem pinL_add {now : Int} {l : List Pn} (h : ∀ x, l.getLast? = some x → x.1 ≠ now) : pinL now l = l ++ [(now, 1)] := by
  unfold pinL
  cases hl : l.getLast? with
  | none => rfl
  | some x => simp only; rw [if_neg (h x hl)]

theorem encP_set {l : List Pn} {x : Pn} (y : Int) : (encP (l ++ [x])).set (l.length * 2 + 1) (.int .i64 y) = encP (l ++ [(x.1, y)]) := by
  rw [encP_append, encP_append, List.set_append_right _ _ (by rw [encP_len]; omega), encP_len, show l.length * 2 + 1 - l.length * 2 = 1 by omega]
  rfl

/-- The end of a Pin that lays a new one. -/
theorem pin_new {w w6 : World} {S : St} {gg cap : Nat} (A : StoreAt w S) (hl : S.pins.length < 900000)
    (hown6 : w6.ownsRow 0 110 2 (.slice (some ⟨gg, 0, none⟩) (S.pins.length + 1) cap) (S.pins.length + 1) (encP S.pins ++ [.int .i64 S.now, .int .i64 1]))
    (O6 : Only (fun b => S.pinV.ownBlock = some b) w w6) (hat : S.pinV.ownBlock = some gg ∨ w.heap.size ≤ gg) :
    StoreAt (w6.setCell ⟨S.p, 4, none⟩ (.slice (some ⟨gg, 0, none⟩) (S.pins.length + 1) cap)) (S.pinned (.slice (some ⟨gg, 0, none⟩) (S.pins.length + 1) cap) (S.pins ++ [(S.now, 1)])) ∧
      Step w (w6.setCell ⟨S.p, 4, none⟩ (.slice (some ⟨gg, 0, none⟩) (S.pins.length + 1) cap)) S (S.pinned (.slice (some ⟨gg, 0, none⟩) (S.pins.length + 1) cap) (S.pins ++ [(S.now, 1)])) := by
  have hne : S.pinV.ownBlock ≠ some S.p := fun e => by
    have := A.labPin _ e
    rw [A.labP] at this
    cases this
  have hpl := A.blk.lt
  have hgp : gg ≠ S.p := by
    rintro rfl
    rcases hat with h | h
    · exact hne h
    · omega
  have B6 : Blk w6 S.p S.cs 66 := A.blk.of_block (O6.block _ hpl hne)
  have OO : Only (fun b => b = S.p ∨ S.pinV.ownBlock = some b) w (w6.setCell ⟨S.p, 4, none⟩ (.slice (some ⟨gg, 0, none⟩) (S.pins.length + 1) cap)) :=
    ⟨O6.os, O6.tape, O6.output, by simp [World.setCell]; exact O6.size, fun k hk hn => (Below.heap_setCell _ _ _ _ (fun e => hn (.inl e))).trans (O6.block k hk (fun e => hn (.inr e)))⟩
  have RR : ∀ g, (Value.slice (some ⟨gg, 0, none⟩) (S.pins.length + 1) cap).ownBlock = some g → S.pinV.ownBlock = some g ∨ w.heap.size ≤ g := fun g hg => by
    simp [Value.ownBlock] at hg
    subst hg
    exact hat
  have R7 := ownsRow_setCell_other hown6 (a := ⟨S.p, 4, none⟩) (by simpa [Value.ownBlock] using hgp) (.slice (some ⟨gg, 0, none⟩) (S.pins.length + 1) cap)
  have e : encP (S.pins ++ [(S.now, 1)]) = encP S.pins ++ [.int .i64 S.now, .int .i64 1] := by rw [encP_append]; rfl
  have hlen : (S.pins ++ [(S.now, (1 : Int))]).length = S.pins.length + 1 := by simp
  exact ⟨A.pinned (B6.set 4 _) (by rw [hlen, e]; exact R7) OO RR (by rw [hlen]; omega), Step.pinned A OO RR⟩

/-- The end of a Pin of a stamp that is pinned. -/
theorem pin_more {w : World} {S : St} {l' : List Pn} {x : Pn} {g cap : Nat} (A : StoreAt w S) (hlx : S.pins = l' ++ [x]) (hnow : x.1 = S.now) (hv : S.pinV = .slice (some ⟨g, 0, none⟩) S.pins.length cap) :
    StoreAt (w.setCell ⟨g, l'.length * 2 + 1, none⟩ (.int .i64 (x.2 + 1))) (S.pinned S.pinV (pinL S.now S.pins)) ∧ Step w (w.setCell ⟨g, l'.length * 2 + 1, none⟩ (.int .i64 (x.2 + 1))) S (S.pinned S.pinV (pinL S.now S.pins)) := by
  have hg : S.pinV.ownBlock = some g := by rw [hv]; rfl
  have hne : S.p ≠ g := fun e => by
    have := A.labPin g hg
    rw [← e, A.labP] at this
    cases this
  have hpl : pinL S.now S.pins = l' ++ [(x.1, x.2 + 1)] := by
    unfold pinL
    rw [hlx, List.getLast?_concat]
    simp only
    rw [if_pos hnow, List.dropLast_concat]
  have hR := A.pinR
  rw [hv] at hR
  obtain ⟨R1, G1⟩ := hR.stored (l'.length * 2 + 1) (.int .i64 (x.2 + 1))
  rw [← hv] at R1
  have hlen : (l' ++ [(x.1, x.2 + 1)]).length = S.pins.length := by rw [hlx]; simp
  rw [hlx, encP_set, ← hlx, ← hlen] at R1
  have OO : Only (fun b => b = S.p ∨ S.pinV.ownBlock = some b) w (w.setCell ⟨g, l'.length * 2 + 1, none⟩ (.int .i64 (x.2 + 1))) := ⟨rfl, rfl, rfl, by simp [World.setCell], fun k hk hn => Below.heap_setCell _ _ _ _ (fun e => hn (.inr (by rw [hg, e])))⟩
  rw [hpl]
  exact ⟨A.pinned (A.blk.of_block (Below.heap_setCell _ _ _ _ hne)) R1 OO (fun g h => .inl h) (by rw [hlen]; exact A.few.2.2.2), Step.pinned A OO (fun g h => .inl h)⟩

set_option maxHeartbeats 3200000 in
set_option maxRecDepth 20000 in
theorem pin_any (S : St) (w : World) (A : StoreAt w S) (hl : S.pins.length < 900000) (hb : ∀ x ∈ S.pins, 0 ≤ x.2 ∧ x.2 ≤ 1000000) :
    Calls Tryz.prog 40 #[.pointer (some ⟨S.p, 0, none⟩)] w fun e w' => ∃ v, e = .returned (.int .i64 S.now) ∧ StoreAt w' (S.pinned v (pinL S.now S.pins)) ∧ Step w w' S (S.pinned v (pinL S.now S.pins)) := by
  have c1 := A.blk.cell (i := 1) (v := .int .i64 S.now) rfl
  have c4 := A.blk.cell (i := 4) (v := S.pinV) rfl
  have f4 := A.blk.thawed 4
  have hne : S.pinV.ownBlock ≠ some S.p := fun e => by
    have := A.labPin _ e
    rw [A.labP] at this
    cases this
  have hrow := A.pinR
  have hpl := A.blk.lt
  have hadd : ∀ (w1 w6 : World) (gg cap : Nat), Below w.heap.size w w1 → w6.ownsRow 0 110 2 (.slice (some ⟨gg, 0, none⟩) (S.pins.length + 1) cap) (S.pins.length + 1) (encP S.pins ++ [.int .i64 S.now, .int .i64 1]) → (w1.alloc (.cells #[.int .i64 S.now, .int .i64 1] 110)).grownBy w6 S.pinV.ownBlock → (S.pinV.ownBlock = some gg ∨ gg = w1.heap.size + 1) → (∀ x, S.pins.getLast? = some x → x.1 ≠ S.now) →
      w6.cell? ⟨S.p, 1, none⟩ = some (.int .i64 S.now) ∧ w6.frozen? ⟨S.p, 4, none⟩ = false ∧ w6.cell? ⟨S.p, 4, none⟩ = some S.pinV ∧ (w6.setCell ⟨S.p, 4, none⟩ (.slice (some ⟨gg, 0, none⟩) (S.pins.length + 1) cap)).cell? ⟨S.p, 1, none⟩ = some (.int .i64 S.now) ∧
      Hid (StoreAt (w6.setCell ⟨S.p, 4, none⟩ (.slice (some ⟨gg, 0, none⟩) (S.pins.length + 1) cap)) (S.pinned (.slice (some ⟨gg, 0, none⟩) (S.pins.length + 1) cap) (pinL S.now S.pins)) ∧
      Step w (w6.setCell ⟨S.p, 4, none⟩ (.slice (some ⟨gg, 0, none⟩) (S.pins.length + 1) cap)) S (S.pinned (.slice (some ⟨gg, 0, none⟩) (S.pins.length + 1) cap) (pinL S.now S.pins))) := by
    intro w1 w6 gg cap hb1 h1 h2 h3 h4
    have b1 : Below w.heap.size w (w1.alloc (.cells #[.int .i64 S.now, .int .i64 1] 110)) := hb1.alloc hb1.size _
    have O6 : Only (fun b => S.pinV.ownBlock = some b) w w6 := ⟨h2.os.trans b1.os, h2.tape.trans b1.tape, h2.output.trans b1.output, Nat.le_trans b1.size h2.size, fun k hk hn => (h2.block k (Nat.lt_of_lt_of_le hk b1.size) (fun e => hn e.symm)).trans (b1.block k hk)⟩
    have B6 : Blk w6 S.p S.cs 66 := A.blk.of_block (O6.block _ hpl hne)
    rw [pinL_add h4]
    exact ⟨B6.cell (i := 1) rfl, B6.thawed 4, B6.cell (i := 4) rfl, (B6.set 4 _).cell (i := 1) rfl, pin_new A hl h1 O6 (h3.imp id (fun h => by have := hb1.size; omega))⟩
  replace hadd : Hid _ := hadd
  obtain ⟨i0, hi0, hz0, hz2, hz3⟩ := info_parts info_pin
  replace hl : Hid (S.pins.length < 900000) := hl
  rcases Nat.eq_zero_or_pos S.pins.length with h0 | h0
  · -- the first one
    have hlast : Hid (∀ x, S.pins.getLast? = some x → x.1 ≠ S.now) := fun x hx => by
      rw [List.length_eq_zero_iff.1 h0] at hx
      cases hx
    obtain ⟨a, c, hv⟩ := own_slice hrow
    rw [h0] at hv
    clear A hb
    generalize hpv : S.pinV = pv at *
    generalize S.pins.length = ln at *
    subst h0
    subst hv
    clear hpv
    replace hrow : Hid (w.ownsRow 0 110 2 (.slice a 0 c) 0 (encP S.pins)) := hrow
    go_enter Tryz.func40, Tryz.ntmps40
    go_wp2_with fail
    go_quiet (fail)
    have hb1 := below_drewN w nq
    generalize w.drewN nq = w1 at *
    go_wp2_with fail
    have c1d : w1.drew.cell? ⟨S.p, 1, none⟩ = some (.int .i64 S.now) := kept_cell hb1 c1
    have c4d : w1.drew.cell? ⟨S.p, 4, none⟩ = some (.slice a 0 c) := kept_cell hb1 c4
    have f4d : w1.drew.frozen? ⟨S.p, 4, none⟩ = false := kept_thawed hb1 hpl f4
    have hrow1 : w1.ownsRow 0 110 2 (.slice a 0 c) 0 (encP S.pins) := row_thru hrow.out (fun g hg => hb1.block g (hrow.out.lt g hg).2)
    have hpl1 : S.p < w1.heap.size := Nat.lt_of_lt_of_le hpl hb1.size
    replace c1 : w1.cell? ⟨S.p, 1, none⟩ = some (.int .i64 S.now) := c1d
    replace c4 : w1.cell? ⟨S.p, 4, none⟩ = some (.slice a 0 c) := c4d
    replace f4 : w1.frozen? ⟨S.p, 4, none⟩ = false := f4d
    go_region_law
      (first
        | (refine step_append_lies _ (by rfl) _ _ _ (by rfl) 0 110 i0 _ 2 16 Tryz.underlying62 hi0 hz0 hz2 hz3 rfl (by omega) (.slice a 0 c) 0 (encP S.pins) (by rfl) (hrow1.drew.alloc _)
            ⟨w1.heap.size, 0, none⟩ 1 1 [.int .i64 S.now, .int .i64 1] (by rfl) (by rfl) (World.news_of_block (cs := #[.int .i64 S.now, .int .i64 1]) (t := 110) (fr := (0, 0)) (heap_alloc_new w1.drew _)) (by simp [Value.oneCell']) (by omega) (by have := hl.out; unfold maxLen; omega) (by have := hl.out; omega) (Nat.zero_le _) (w1.heap.size + 1) (by simp) ?_; intro gg cap w6 hown6 hgrow hat hlt6; obtain ⟨x1, th6, x6, x7, RR⟩ := hadd.out w1.drew w6 gg cap hb1.drew hown6 ⟨hgrow.os, hgrow.tape, hgrow.output, hgrow.size, hgrow.block⟩ hat hlast.out))
    all_goals
      simp only [Nat.zero_add] at x7 RR
      clear c1d c4d f4d c1 c4 f4 x1 th6 x6 hown6 hgrow
      go_wp2_with fail
      go_ret
      exact ⟨_, rfl, RR.out⟩
  · obtain ⟨g, cap0, hv, _, hgl⟩ := hrow.form h0
    obtain ⟨l', x, hlx⟩ : ∃ l' x, S.pins = l' ++ [x] := by
      rcases List.eq_nil_or_concat S.pins with hq | hq
      · rw [hq] at h0; simp at h0
      · obtain ⟨l', x, hq⟩ := hq
        exact ⟨l', x, by rw [hq, List.concat_eq_append]⟩
    have hln : S.pins.length = l'.length + 1 := by rw [hlx]; simp
    have hx : S.pins[l'.length]? = some x := by rw [hlx]; simp
    obtain ⟨e1, e2⟩ := encP_get S.pins _ x hx
    have d1 := hrow.cells (g := g) (by rw [hv]; rfl) _ _ e1
    have d2 := hrow.cells (g := g) (by rw [hv]; rfl) _ _ e2
    rw [cell_add, Nat.zero_add] at d1 d2
    have hgl2 : S.pins.getLast? = some x := by rw [hlx]; simp
    have hsub : (S.pins.length : Int) - 1 = (l'.length : Int) := by omega
    have hl0 : (0 : Int) ≤ (l'.length : Int) := by omega
    have hlI2 : (l'.length : Int) < (S.pins.length : Int) := by omega
    have hpos : (0 : Int) < (S.pins.length : Int) := by omega
    have hlI3 : (l'.length : Int) < 900000 := by have := hl.out; omega
    by_cases hnow : x.1 = S.now
    · have hxb := hb x (List.mem_of_getElem? hx)
      have HP : Hid (∀ w1, Below w.heap.size w w1 → StoreAt (w1.setCell ⟨g, l'.length * 2 + 1, none⟩ (.int .i64 (x.2 + 1))) (S.pinned S.pinV (pinL S.now S.pins)) ∧ Step w (w1.setCell ⟨g, l'.length * 2 + 1, none⟩ (.int .i64 (x.2 + 1))) S (S.pinned S.pinV (pinL S.now S.pins)) ∧ (w1.setCell ⟨g, l'.length * 2 + 1, none⟩ (.int .i64 (x.2 + 1))).cell? ⟨S.p, 1, none⟩ = some (.int .i64 S.now)) := fun w1 hb1 => by
        obtain ⟨q1, q2⟩ := pin_more (A.below hb1) hlx hnow hv
        exact ⟨q1, (Step.of_below hb1 S).trans q2, q1.blk.cell (i := 1) rfl⟩
      have fg := (by rw [hv] at hrow; exact hrow.frozenAt (l'.length * 2 + 1) : w.frozen? ⟨g, l'.length * 2 + 1, none⟩ = false)
      obtain ⟨y, hy, hy0, hy1⟩ : ∃ y, x.2 + 1 = y ∧ 0 ≤ y ∧ y ≤ 1000001 := ⟨_, rfl, by omega, by omega⟩
      rw [hy] at HP
      rw [hv] at c4
      rw [hnow] at d1
      clear A hb hadd hlx hx e1 e2 hgl2 hxb hrow hln hnow hne
      generalize S.pins.length = ln at *
      go_enter Tryz.func40, Tryz.ntmps40
      go_wp2_with fail
      go_quiet (fail)
      have hb1 := below_drewN w nq
      generalize w.drewN nq = w1 at *
      replace c1 := kept_cell hb1 c1
      replace c4 := kept_cell hb1 c4
      replace d1 := kept_cell hb1 d1
      replace d2 := kept_cell hb1 d2
      replace fg := kept_thawed hb1 hgl fg
      obtain ⟨q1, q2, q3⟩ := HP.out w1 hb1
      have HQ : Hid _ := And.intro q1 q2
      clear q1 q2 HP hv
      go_wp2_with fail
      go_ret
      exact ⟨_, rfl, HQ.out⟩
    · have hlast : Hid (∀ x, S.pins.getLast? = some x → x.1 ≠ S.now) := fun y hy => by
        rw [hgl2] at hy
        cases hy
        exact hnow
      clear A hb hlx hx e1 e2 hgl2 hln d2
      generalize hpv : S.pinV = pv at *
      generalize S.pins.length = ln at *
      subst hv
      clear hpv
      replace hrow : Hid (w.ownsRow 0 110 2 (.slice (some ⟨g, 0, none⟩) ln cap0) ln (encP S.pins)) := hrow
      go_enter Tryz.func40, Tryz.ntmps40
      go_wp2_with fail
      go_quiet (fail)
      have hb1 := below_drewN w nq
      generalize w.drewN nq = w1 at *
      clear d1 hsub hl0 hlI2 hlI3 hpos h0
      go_wp2_with fail
      have c1d : w1.drew.cell? ⟨S.p, 1, none⟩ = some (.int .i64 S.now) := kept_cell hb1 c1
      have c4d : w1.drew.cell? ⟨S.p, 4, none⟩ = some (.slice (some ⟨g, 0, none⟩) ln cap0) := kept_cell hb1 c4
      have f4d : w1.drew.frozen? ⟨S.p, 4, none⟩ = false := kept_thawed hb1 hpl f4
      have hrow1 : w1.ownsRow 0 110 2 (.slice (some ⟨g, 0, none⟩) ln cap0) ln (encP S.pins) := row_thru hrow.out (fun g hg => hb1.block g (hrow.out.lt g hg).2)
      have hpl1 : S.p < w1.heap.size := Nat.lt_of_lt_of_le hpl hb1.size
      replace c1 : w1.cell? ⟨S.p, 1, none⟩ = some (.int .i64 S.now) := c1d
      replace c4 : w1.cell? ⟨S.p, 4, none⟩ = some (.slice (some ⟨g, 0, none⟩) ln cap0) := c4d
      replace f4 : w1.frozen? ⟨S.p, 4, none⟩ = false := f4d
      go_region_law
        (first
          | (refine step_append_lies _ (by rfl) _ _ _ (by rfl) 0 110 i0 _ 2 16 Tryz.underlying62 hi0 hz0 hz2 hz3 rfl (by omega) (.slice (some ⟨g, 0, none⟩) ln cap0) ln (encP S.pins) (by rfl) (hrow1.drew.alloc _)
              ⟨w1.heap.size, 0, none⟩ 1 1 [.int .i64 S.now, .int .i64 1] (by rfl) (by rfl) (World.news_of_block (cs := #[.int .i64 S.now, .int .i64 1]) (t := 110) (fr := (0, 0)) (heap_alloc_new w1.drew _)) (by simp [Value.oneCell']) (by omega) (by have := hl.out; unfold maxLen; omega) (by have := hl.out; omega) (Nat.zero_le _) (w1.heap.size + 1) (by simp) ?_; intro gg cap w6 hown6 hgrow hat hlt6; obtain ⟨x1, th6, x6, x7, RR⟩ := hadd.out w1.drew w6 gg cap hb1.drew hown6 ⟨hgrow.os, hgrow.tape, hgrow.output, hgrow.size, hgrow.block⟩ hat hlast.out))
      all_goals
        clear c1d c4d f4d c1 c4 f4 x1 th6 x6 hown6 hgrow
        go_wp2_with fail
        go_ret
        exact ⟨_, rfl, RR.out⟩
end Go.Proofs.YtlncljfljjaacaaGreatDoor

namespace Go.Proofs.YtlncljfljjaacaaGreatDoor
open Go.ChangeShapes Go.WideShapes Go.ChangeAt Go.RowKit
set_option linter.unusedVariables false
set_option linter.unusedSimpArgs false

theorem zero_pin (w : World) : (zeroValue 110).run Tryz.prog w = .ok (.agg #[.int .i64 0, .int .i64 0]) w := by kernel_rfl

/-- What clear lays over one pin. -/
theorem run_clearP (g o c : Nat) (cur : Array Value) (w : World) (hb : w.heap[g]? = some (.cells cur 110 (0, 0))) (hl : o + 2 ≤ cur.size) (ty : TypeId) :
    (Builtin.clear_ #[62] ty #[.slice (some ⟨g, o, none⟩) 1 c]).run Tryz.prog w = .ok (.tuple #[]) (w.setRow g (cur.toList.take o ++ [Value.int .i64 0, Value.int .i64 0] ++ cur.toList.drop (o + 2)).toArray) := by
  have h := run_storeCells_at (P := Tryz.prog) g o 110 [.int .i64 0, .int .i64 0] 0 cur w hb (by simp; omega) (by intro v hv; simp at hv; rcases hv with rfl | rfl <;> rfl)
  have hz := zero_pin w
  have hzc : (Value.agg #[.int .i64 0, .int .i64 0]).cells = #[.int .i64 0, .int .i64 0] := rfl
  have hze : (Builtin.zeroCells #[.int .i64 0, .int .i64 0] 1) = #[Value.int .i64 0, Value.int .i64 0] := by
    kernel_rfl
  simp [Builtin.clear_, run_underlying Tryz.underlying62, Result.andThen, hz, hzc, hze, h]

theorem encP_one : ∀ (l : List Pn), ∀ u ∈ encP l, u.oneCell' = true
  | [], u, h => by simp [encP] at h
  | x :: l, u, h => by
    simp only [encP, List.mem_cons] at h
    rcases h with rfl | rfl | h
    · rfl
    · rfl
    · exact encP_one l u h

/-- Behind the clear the ones ahead are as they were. -/
theorem clear_end {w : World} {g n cap : Nat} {xs : List Value} (h : w.ownsRow 0 110 2 (.slice (some ⟨g, 0, none⟩) n cap) n xs) (hc : n + 1 ≤ cap) (c : Nat) :
    ∃ cur', (∀ ty, (Builtin.clear_ #[62] ty #[.slice (some ⟨g, n * 2, none⟩) 1 c]).run Tryz.prog w = .ok (.tuple #[]) (w.setRow g cur')) ∧ (w.setRow g cur').ownsRow 0 110 2 (.slice (some ⟨g, 0, none⟩) n cap) n xs := by
  obtain ⟨hl, hr⟩ := h
  rcases hr with ⟨h0, _⟩ | ⟨g', cap', cur, hv, _, hg, hnc, hcm, hcs, htk⟩
  · cases h0
  · cases hv
    refine ⟨_, fun ty => run_clearP g (n * 2) c cur w hg (by omega) ty, hl, .inr ⟨g, cap, _, rfl, Nat.zero_le _, setRow_heap w g cur _ _ _ hg, hnc, hcm, ?_, ?_⟩⟩
    · simp only [List.size_toArray, List.length_append, List.length_take, List.length_drop, Array.length_toList, List.length_cons, List.length_nil]
      omega
    · rw [← htk]
      simp only [List.append_assoc]
      rw [List.take_append_of_le_length (by rw [List.length_take, Array.length_toList]; omega), List.take_take, Nat.min_self]

theorem encP_take (l : List Pn) (i : Nat) : encP (l.take i) = (encP l).take (i * 2) := by
  have e : encP l = encP (l.take i) ++ encP (l.drop i) := by rw [← encP_append, List.take_append_drop]
  rw [e]
  rcases Nat.le_total i l.length with h | h
  · rw [List.take_left' (by rw [encP_len, List.length_take]; congr 1; omega)]
  · rw [List.take_of_length_le h, List.drop_eq_nil_of_le h, encP, List.append_nil, List.take_of_length_le (by rw [encP_len]; omega)]

theorem own_short {w : World} {g n m cap : Nat} {l : List Pn} (h : w.ownsRow 0 110 2 (.slice (some ⟨g, 0, none⟩) n cap) n (encP l)) (hm : m ≤ n) : w.ownsRow 0 110 2 (.slice (some ⟨g, 0, none⟩) m cap) m (encP (l.take m)) := by
  obtain ⟨hl, hr⟩ := h
  rw [encP_len] at hl
  refine ⟨by rw [encP_len, List.length_take]; congr 1; omega, ?_⟩
  rcases hr with ⟨h0, _⟩ | ⟨g', cap', cur, hv, hb, hg, hnc, hcm, hcs, htk⟩
  · cases h0
  · cases hv
    refine .inr ⟨g, cap, cur, rfl, hb, hg, by omega, hcm, hcs, ?_⟩
    rw [encP_take, ← htk, List.take_take, Nat.min_eq_left (by omega)]

/-- An append whose run is known, at a step of a region that draws. -/
theorem step_run_app {ops : Array Oper} {o : Oper} {a : Act} {K : Act → World → Prop} {Q : Exit → Act → World → Prop} {E : Prop} {w w' : World} (hgd : o.guard = none) (s x : Operand) (t : TypeId)
    (ho : o.op = .call { callee := .builtin .append, args := #[s, x], argTypes := #[t, t] }) (v u r : Value) (hs : a.eval s = v) (hx : a.eval x = u)
    (hrun : (Builtin.append_ #[t, t] o.type #[v, u]).run Tryz.prog w = .ok r w') (h : K (a.put o.dst r) w') :
    if Region.wanted o (yielded ops a.tmps) = true then Oper.wp Tryz.prog o a w K Q else E := by
  have hw : Region.wanted o (yielded ops a.tmps) = true := by simp [Region.wanted, hgd]
  rw [if_pos hw]
  unfold Oper.wp execOp
  simp only [ho, resolve, invoke, builtin, Sem.run_bind, Sem.run_pure, Result.andThen_ok, List.map_toArray, List.map_cons, List.map_nil, hs, hx, hrun]
  exact h

set_option maxHeartbeats 3200000 in
set_option maxRecDepth 20000 in
theorem delete_any (g cap i : Nat) (l : List Pn) (w : World) (R : w.ownsRow 0 110 2 (.slice (some ⟨g, 0, none⟩) l.length cap) l.length (encP l)) (hi : i < l.length) (hf : l.length < 1000000) :
    Calls Tryz.prog 90 #[.slice (some ⟨g, 0, none⟩) l.length cap, .int .i64 i, .int .i64 ((i + 1 : Nat) : Int)] w fun e w' => e = .returned (.slice (some ⟨g, 0, none⟩) (l.length - 1) cap) ∧ w'.ownsRow 0 110 2 (.slice (some ⟨g, 0, none⟩) (l.length - 1) cap) (l.length - 1) (encP (l.eraseIdx i)) ∧ Only (fun k => k = g) w w' := by
  have hcap : l.length ≤ cap := by
    rcases R.2 with ⟨h, _⟩ | ⟨g', cap', cur, h, _, _, hn, _⟩
    · cases h
    · cases h; exact hn
  obtain ⟨i0, hi0, hz0, hz2, hz3⟩ := info_parts info_pin
  have Rd : w.drew.ownsRow 0 110 2 (.slice (some ⟨g, 0, none⟩) l.length cap) l.length (encP l) := R.drew
  have hdl : (l.drop (i + 1)).length = l.length - (i + 1) := List.length_drop
  obtain ⟨w6, hrun, R6, G6⟩ := run_append_own_spare (P := Tryz.prog) (ty := 62) w.drew 0 62 110 i0 2 Tryz.underlying62 hi0 hz2 g i cap (encP (l.take i)) (own_short Rd (by omega))
    ⟨g, if cap = i + 1 then 0 else (i + 1) * 2, none⟩ (l.length - (i + 1)) (cap - (i + 1)) (encP (l.drop (i + 1))) (by rw [encP_len, hdl]) (fun j u hj => by
      have hjl := (List.getElem?_eq_some_iff.1 hj).1
      rw [encP_len, hdl] at hjl
      rw [if_neg (by omega), cell_add]
      have e2 : encP l = encP (l.take (i + 1)) ++ encP (l.drop (i + 1)) := by rw [← encP_append, List.take_append_drop]
      have h3 : (encP l)[(i + 1) * 2 + j]? = some u := by
        rw [e2, List.getElem?_append_right (by rw [encP_len, List.length_take]; omega), encP_len, List.length_take]
        rw [show (i + 1) * 2 + j - min (i + 1) l.length * 2 = j by omega]
        exact hj
      have := Rd.cells (g := g) rfl _ _ h3
      rw [cell_add, Nat.zero_add] at this
      exact this) (encP_one _) (by omega)
  rw [← encP_append, show l.take i ++ l.drop (i + 1) = l.eraseIdx i from (List.eraseIdx_eq_take_drop_succ l i).symm, show i + (l.length - (i + 1)) = l.length - 1 by omega] at R6
  rw [show i + (l.length - (i + 1)) = l.length - 1 by omega] at hrun
  obtain ⟨cur', hclr, R7⟩ := clear_end R6 (by omega) (cap - (l.length - 1))
  have OO : Only (fun k => k = g) w (w6.setRow g cur') := ⟨G6.os, G6.tape, G6.output, by simp; exact G6.size, fun k hk hn => (setRow_other w6 g k cur' hn).trans (G6.block k hk (fun e => hn (Option.some.inj e)))⟩
  have HR : Hid _ := And.intro R7 OO
  have hiI : (i : Int) < (l.length : Int) := by omega
  have hi0' : (0 : Int) ≤ (i : Int) := by omega
  have hj1 : ((i + 1 : Nat) : Int) ≤ (l.length : Int) := by omega
  have hij : (i : Int) ≤ ((i + 1 : Nat) : Int) := by omega
  have hne : ¬ (i : Int) = ((i + 1 : Nat) : Int) := by omega
  have hlc : (l.length : Int) ≤ (cap : Int) := by omega
  have hj0 : (0 : Int) ≤ ((i + 1 : Nat) : Int) := by omega
  have hm1 : ((l.length - 1 : Nat) : Int) ≤ (l.length : Int) := by omega
  have hm0 : (0 : Int) ≤ ((l.length - 1 : Nat) : Int) := by omega
  have hcm : ¬ cap = l.length - 1 := by omega
  have hsb : l.length - (l.length - 1) = 1 := by omega
  have hic : (i : Int) ≤ (cap : Int) := by omega
  clear R Rd R6 G6 R7 OO hi hf hdl hcap
  generalize l.length - 1 = lm at *
  generalize i + 1 = j at *
  generalize l.length = ln at *
  go_enter Tryz.func90, Tryz.ntmps90
  go_wp2_with fail
  by_cases hcj : cap = j
  · rw [if_pos hcj, show cap - j = 0 by omega] at hrun
    subst hcj
    go_region_law
      (first
        | (refine step_run_app (by rfl) _ _ _ (by rfl) _ _ _ (by rfl) (by rfl) hrun ?_))
    clear hrun
    go_wp2_with fail
    go_ret
    exact ⟨rfl, HR.out⟩
  · rw [if_neg hcj] at hrun
    go_region_law
      (first
        | (refine step_run_app (by rfl) _ _ _ (by rfl) _ _ _ (by rfl) (by rfl) hrun ?_))
    clear hrun
    go_wp2_with fail
    go_ret
    exact ⟨rfl, HR.out⟩
end Go.Proofs.YtlncljfljjaacaaGreatDoor

namespace Go.Proofs.YtlncljfljjaacaaGreatDoor
open Go.ChangeShapes Go.WideShapes Go.ChangeAt Go.RowKit
set_option linter.unusedVariables false
set_option linter.unusedSimpArgs false

/-- The pins behind one less of this stamp. -/
def unpinL (t : Int) (l : List Pn) : List Pn :=
  match upToN t l with
  | 0 => l
  | k + 1 => match l[k]? with
    | some x => if x.1 = t then (if x.2 - 1 = 0 then l.eraseIdx k else l.set k (x.1, x.2 - 1)) else l
    | none => l

theorem pin_same {w w' : World} {S : St} (A : StoreAt w S) (hb : Below w.heap.size w w') : StoreAt w' (S.pinned S.pinV S.pins) ∧ Step w w' S (S.pinned S.pinV S.pins) := by
  have A' := A.below hb
  have O : Only (fun b => b = S.p ∨ S.pinV.ownBlock = some b) w' w' := Only.refl _ _
  exact ⟨A'.pinned A'.blk A'.pinR O (fun g h => .inl h) A.few.2.2.2, (Step.of_below hb S).trans (Step.pinned A' O (fun g h => .inl h))⟩

theorem encP_setN : ∀ (l : List Pn) (k : Nat) (x : Pn) (y : Int), l[k]? = some x → (encP l).set (k * 2 + 1) (.int .i64 y) = encP (l.set k (x.1, y))
  | [], k, x, y, h => by simp at h
  | z :: l, 0, x, y, h => by simp at h; subst h; rfl
  | z :: l, k + 1, x, y, h => by
    have := encP_setN l k x y (by simpa using h)
    rw [show (k + 1) * 2 + 1 = k * 2 + 1 + 2 by omega]
    simp only [encP, List.set_cons_succ, this]

/-- One less of a stamp that stays pinned. -/
theorem pin_less {w : World} {S : St} {k : Nat} {x : Pn} {y : Int} {g cap : Nat} (A : StoreAt w S) (hx : S.pins[k]? = some x) (hv : S.pinV = .slice (some ⟨g, 0, none⟩) S.pins.length cap) :
    StoreAt (w.setCell ⟨g, k * 2 + 1, none⟩ (.int .i64 y)) (S.pinned S.pinV (S.pins.set k (x.1, y))) ∧ Step w (w.setCell ⟨g, k * 2 + 1, none⟩ (.int .i64 y)) S (S.pinned S.pinV (S.pins.set k (x.1, y))) := by
  have hg : S.pinV.ownBlock = some g := by rw [hv]; rfl
  have hne : S.p ≠ g := fun e => by
    have := A.labPin g hg
    rw [← e, A.labP] at this
    cases this
  have hR := A.pinR
  rw [hv] at hR
  obtain ⟨R1, G1⟩ := hR.stored (k * 2 + 1) (.int .i64 y)
  rw [← hv, encP_setN _ _ _ _ hx] at R1
  have hlen : (S.pins.set k (x.1, y)).length = S.pins.length := by simp
  rw [← hlen] at R1
  have OO : Only (fun b => b = S.p ∨ S.pinV.ownBlock = some b) w (w.setCell ⟨g, k * 2 + 1, none⟩ (.int .i64 y)) := ⟨rfl, rfl, rfl, by simp [World.setCell], fun k hk hn => Below.heap_setCell _ _ _ _ (fun e => hn (.inr (by rw [hg, e])))⟩
  exact ⟨A.pinned (A.blk.of_block (Below.heap_setCell _ _ _ _ hne)) R1 OO (fun g h => .inl h) (by rw [hlen]; exact A.few.2.2.2), Step.pinned A OO (fun g h => .inl h)⟩

/-- A stamp that is no more pinned. -/
theorem pin_gone {w w' : World} {S : St} {l : List Pn} {g cap : Nat} (A : StoreAt w S) (hv : S.pinV = .slice (some ⟨g, 0, none⟩) S.pins.length cap) (R : w'.ownsRow 0 110 2 (.slice (some ⟨g, 0, none⟩) l.length cap) l.length (encP l)) (O : Only (fun k => k = g) w w') (hl : l.length ≤ S.pins.length) :
    StoreAt (w'.setCell ⟨S.p, 4, none⟩ (.slice (some ⟨g, 0, none⟩) l.length cap)) (S.pinned (.slice (some ⟨g, 0, none⟩) l.length cap) l) ∧ Step w (w'.setCell ⟨S.p, 4, none⟩ (.slice (some ⟨g, 0, none⟩) l.length cap)) S (S.pinned (.slice (some ⟨g, 0, none⟩) l.length cap) l) := by
  have hg : S.pinV.ownBlock = some g := by rw [hv]; rfl
  have hne : S.p ≠ g := fun e => by
    have := A.labPin g hg
    rw [← e, A.labP] at this
    cases this
  have B' : Blk w' S.p S.cs 66 := A.blk.of_block (O.block _ A.blk.lt hne)
  have OO : Only (fun b => b = S.p ∨ S.pinV.ownBlock = some b) w (w'.setCell ⟨S.p, 4, none⟩ (.slice (some ⟨g, 0, none⟩) l.length cap)) :=
    ⟨O.os, O.tape, O.output, by simp [World.setCell]; exact O.size, fun k hk hn => (Below.heap_setCell _ _ _ _ (fun e => hn (.inl e))).trans (O.block k hk (fun e => hn (.inr (by rw [hg, e]))))⟩
  have RR : ∀ g', (Value.slice (some ⟨g, 0, none⟩) l.length cap).ownBlock = some g' → S.pinV.ownBlock = some g' ∨ w.heap.size ≤ g' := fun g' h => .inl (by rw [hg, ← h]; rfl)
  have R7 := ownsRow_setCell_other R (a := ⟨S.p, 4, none⟩) (by simpa [Value.ownBlock] using Ne.symm hne) (.slice (some ⟨g, 0, none⟩) l.length cap)
  exact ⟨A.pinned (B'.set 4 _) R7 OO RR (Nat.le_trans hl A.few.2.2.2), Step.pinned A OO RR⟩

set_option maxHeartbeats 3200000 in
set_option maxRecDepth 20000 in
theorem unpin_any (S : St) (t : Int) (w : World) (A : StoreAt w S) (hs : RiseP S.pins) (hb : ∀ x ∈ S.pins, 0 < x.2 ∧ x.2 ≤ 1000000) :
    Calls Tryz.prog 64 #[.pointer (some ⟨S.p, 0, none⟩), .int .i64 t] w fun e w' => e = .returned (.tuple #[]) ∧ ∃ v, StoreAt w' (S.pinned v (unpinL t S.pins)) ∧ Step w w' S (S.pinned v (unpinL t S.pins)) := by
  have hfew := A.few.2.2.2
  obtain ⟨a, c, hv, hc, AP⟩ := own_atP A.pinR
  have P := psearch_any a c S.pins t w AP hs (by omega)
  have c4 := A.blk.cell (i := 4) (v := S.pinV) rfl
  rw [hv] at c4
  have hle : upToN t S.pins ≤ S.pins.length := List.countP_le_length
  have hun : unpinL t S.pins = match upToN t S.pins with
    | 0 => S.pins
    | k + 1 => match S.pins[k]? with
      | some x => if x.1 = t then (if x.2 - 1 = 0 then S.pins.eraseIdx k else S.pins.set k (x.1, x.2 - 1)) else S.pins
      | none => S.pins := rfl
  have hpw := A.blk.lt
  have f4 := A.blk.thawed 4
  generalize upToN t S.pins = u at *
  rcases Nat.eq_zero_or_pos u with h0 | h0
  · subst h0
    simp only at hun
    rw [hun]
    have HE : Hid (∀ w', Below w.heap.size w w' → ∃ v, StoreAt w' (S.pinned v S.pins) ∧ Step w w' S (S.pinned v S.pins)) := fun w' hb => ⟨_, pin_same A hb⟩
    clear A hs hb hfew hv hc AP hle hun f4
    generalize S.pins.length = ln at *
    rw [show ((0 : Nat) : Int) = 0 from rfl] at P
    go_enter Tryz.func64, Tryz.ntmps64
    go_wp2_with fail
    refine P.mono ?_
    rintro e w1 ⟨⟨b, rfl⟩, hb1⟩
    clear P c4
    go_wp2_with fail
    exact bodyPost_ret (v := .tuple #[]) (by simp [results, Tryz.results64, go_sem]) rfl ⟨rfl, HE.out w1 hb1⟩
  · obtain ⟨k, hk⟩ : ∃ k, u = k + 1 := ⟨u - 1, by omega⟩
    have hkl : k < S.pins.length := by omega
    obtain ⟨x, hx⟩ : ∃ x, S.pins[k]? = some x := ⟨_, List.getElem?_eq_getElem hkl⟩
    obtain ⟨g, cap, hv2, _, hgl⟩ := A.pinR.form (by omega)
    rw [hv] at hv2
    injection hv2 with q1 q2 q3
    subst q1 q3
    obtain ⟨g', o', e, _, hcell⟩ := AP (by omega)
    injection e with e
    injection e with e1 e2
    subst e1 e2
    obtain ⟨d1, d2⟩ := hcell k x hx
    rw [Nat.zero_add] at d1 d2
    subst hk
    simp only [hx] at hun
    have hxb := hb x (List.mem_of_getElem? hx)
    have fg := (by have := A.pinR; rw [hv] at this; exact this.frozenAt (k * 2 + 1) : w.frozen? ⟨g, k * 2 + 1, none⟩ = false)
    have hsub : ((k + 1 : Nat) : Int) - 1 = (k : Int) := by omega
    have hkI : (k : Int) < (S.pins.length : Int) := by omega
    have hk0 : (0 : Int) ≤ (k : Int) := by omega
    have hkB : wrap64 (k : Int) = (k : Int) := IntWalk.wrap64_in _ (by omega)
    by_cases hxt : x.1 = t
    · rw [if_pos hxt] at hun
      obtain ⟨y, hy⟩ : ∃ y, x.2 - 1 = y := ⟨_, rfl⟩
      rw [hy] at hun
      have hy0 : 0 ≤ y ∧ y ≤ 1000000 := by omega
      rw [hxt] at d1
      have HL : Hid (∀ w1, Below w.heap.size w w1 → StoreAt (w1.setCell ⟨g, k * 2 + 1, none⟩ (.int .i64 y)) (S.pinned S.pinV (S.pins.set k (x.1, y))) ∧ Step w (w1.setCell ⟨g, k * 2 + 1, none⟩ (.int .i64 y)) S (S.pinned S.pinV (S.pins.set k (x.1, y)))) := fun w1 hb1 => by
        obtain ⟨r1, r2⟩ := pin_less (y := y) (A.below hb1) hx hv
        exact ⟨r1, (Step.of_below hb1 S).trans r2⟩
      have HD : Hid (∀ w1, Below w.heap.size w w1 → Calls Tryz.prog 90 #[.slice (some ⟨g, 0, none⟩) S.pins.length c, .int .i64 k, .int .i64 ((k + 1 : Nat) : Int)] (w1.setCell ⟨g, k * 2 + 1, none⟩ (.int .i64 y)) fun e w' => e = .returned (.slice (some ⟨g, 0, none⟩) (S.pins.length - 1) c) ∧
          w'.cell? ⟨S.p, 4, none⟩ = some (.slice (some ⟨g, 0, none⟩) S.pins.length c) ∧ w'.frozen? ⟨S.p, 4, none⟩ = false ∧
          Hid (∃ v, StoreAt (w'.setCell ⟨S.p, 4, none⟩ (.slice (some ⟨g, 0, none⟩) (S.pins.length - 1) c)) (S.pinned v (S.pins.eraseIdx k)) ∧ Step w (w'.setCell ⟨S.p, 4, none⟩ (.slice (some ⟨g, 0, none⟩) (S.pins.length - 1) c)) S (S.pinned v (S.pins.eraseIdx k)))) := fun w1 hb1 => by
        obtain ⟨r1, r2⟩ := HL.out w1 hb1
        have hlen : (S.pins.set k (x.1, y)).length = S.pins.length := by simp
        have R1 := r1.pinR
        rw [show (S.pinned S.pinV (S.pins.set k (x.1, y))).pinV = .slice (some ⟨g, 0, none⟩) S.pins.length c from hv] at R1
        have D := delete_any g c k (S.pins.set k (x.1, y)) _ (by rw [hlen]; have e : (S.pinned S.pinV (S.pins.set k (x.1, y))).pins = S.pins.set k (x.1, y) := rfl; rw [e, hlen] at R1; exact R1) (by rw [hlen]; exact hkl) (by rw [hlen]; omega)
        rw [hlen, List.eraseIdx_set_eq] at D
        refine D.mono ?_
        rintro e w' ⟨rfl, R2, O2⟩
        have hel : (S.pins.eraseIdx k).length = S.pins.length - 1 := List.length_eraseIdx_of_lt hkl
        have O3 : Only (fun b => b = g) w w' := by
          refine ⟨O2.os.trans hb1.os, O2.tape.trans hb1.tape, O2.output.trans hb1.output, Nat.le_trans hb1.size (by have := O2.size; simpa [World.setCell] using this), fun b h1 h2 => ?_⟩
          rw [O2.block b (by simp [World.setCell]; exact Nat.lt_of_lt_of_le h1 hb1.size) h2]
          exact (Below.heap_setCell _ _ _ _ h2).trans (hb1.block b h1)
        have hne : S.p ≠ g := fun e => by
          have := A.labPin g (by rw [hv]; rfl)
          rw [← e, A.labP] at this
          cases this
        have B3 : Blk w' S.p S.cs 66 := A.blk.of_block (O3.block _ A.blk.lt hne)
        have q := pin_gone (l := S.pins.eraseIdx k) A hv (by rw [hel]; exact R2) O3 (by omega)
        rw [hel] at q
        refine ⟨rfl, ?_, B3.thawed 4, ⟨_, q⟩⟩
        rw [← hv]
        exact B3.cell (i := 4) rfl
      have HC : Hid (∀ w1, Below w.heap.size w w1 → (w1.setCell ⟨g, k * 2 + 1, none⟩ (.int .i64 y)).cell? ⟨S.p, 4, none⟩ = some (.slice (some ⟨g, 0, none⟩) S.pins.length c) ∧ (w1.setCell ⟨g, k * 2 + 1, none⟩ (.int .i64 y)).frozen? ⟨S.p, 4, none⟩ = false ∧ (w1.setCell ⟨g, k * 2 + 1, none⟩ (.int .i64 y)).cell? ⟨g, k * 2 + 1, none⟩ = some (.int .i64 y)) := fun w1 hb1 => by
        have q := (HL.out w1 hb1).1.blk
        have d2' := kept_cell hb1 d2
        refine ⟨?_, q.thawed 4, ?_⟩
        · rw [← hv]
          exact q.cell (i := 4) rfl
        · exact World.cell?_setCell_same _ _ _ d2'
      by_cases hy1 : y = 0
      · rw [if_pos hy1] at hun
        subst hy1
        rw [hun]
        clear HL A hs hb hfew hv hc AP hcell hle h0 hkl hx hun hxb hxt hy0
        generalize hk1 : k + 1 = k1 at *
        replace hk1 : Hid (k + 1 = k1) := hk1
        generalize hln : S.pins.length = ln at *
        replace hln : Hid (S.pins.length = ln) := hln
        go_enter Tryz.func64, Tryz.ntmps64
        go_wp2_with fail
        refine P.mono ?_
        rintro e w1 ⟨⟨b, rfl⟩, hb1⟩
        clear P
        have D := HD.out w1 hb1
        obtain ⟨c4', f4', d2'⟩ := HC.out w1 hb1
        replace c4 := kept_cell hb1 c4
        replace d1 := kept_cell hb1 d1
        replace d2 := kept_cell hb1 d2
        replace fg := kept_thawed hb1 hgl fg
        clear HD HC hb1
        go_wp2_with fail
        refine D.mono ?_
        rintro e w2 ⟨rfl, c42, f42, HE⟩
        clear D c4' f4' d2' c4 d1 d2 fg
        go_wp2_with fail
        go_end0
        exact ⟨rfl, HE.out⟩
      · rw [if_neg hy1] at hun
        rw [hun]
        have HE : Hid (∀ w1, Below w.heap.size w w1 → ∃ v, StoreAt (w1.setCell ⟨g, k * 2 + 1, none⟩ (.int .i64 y)) (S.pinned v (S.pins.set k (x.1, y))) ∧ Step w (w1.setCell ⟨g, k * 2 + 1, none⟩ (.int .i64 y)) S (S.pinned v (S.pins.set k (x.1, y)))) := fun w1 hb1 => ⟨_, HL.out w1 hb1⟩
        clear HL HD A hs hb hfew hv hc AP hcell hle h0 hkl hx hun hxb hxt
        generalize hk1 : k + 1 = k1 at *
        replace hk1 : Hid (k + 1 = k1) := hk1
        generalize hln : S.pins.length = ln at *
        replace hln : Hid (S.pins.length = ln) := hln
        have hwy : wrap64 y = y := IntWalk.wrap64_in _ (by omega)
        clear hy0
        go_enter Tryz.func64, Tryz.ntmps64
        go_wp2_with fail
        refine P.mono ?_
        rintro e w1 ⟨⟨b, rfl⟩, hb1⟩
        clear P
        obtain ⟨c4', f4', d2'⟩ := HC.out w1 hb1
        replace HE : Hid _ := HE.out w1 hb1
        replace c4 := kept_cell hb1 c4
        replace d1 := kept_cell hb1 d1
        replace d2 := kept_cell hb1 d2
        replace fg := kept_thawed hb1 hgl fg
        clear HC hb1
        go_wp2_with fail
        go_end0
        exact ⟨rfl, HE.out⟩
    · rw [if_neg hxt] at hun
      rw [hun]
      have HE : Hid (∀ w', Below w.heap.size w w' → ∃ v, StoreAt w' (S.pinned v S.pins) ∧ Step w w' S (S.pinned v S.pins)) := fun w' hb => ⟨_, pin_same A hb⟩
      have hxne : (x.1 != t) = true := by simpa using hxt
      clear A hs hb hfew hv hc AP hcell hle h0 hkl hx hun hxb
      generalize hk1 : k + 1 = k1 at *
      replace hk1 : Hid (k + 1 = k1) := hk1
      generalize hln : S.pins.length = ln at *
      replace hln : Hid (S.pins.length = ln) := hln
      go_enter Tryz.func64, Tryz.ntmps64
      go_wp2_with fail
      refine P.mono ?_
      rintro e w1 ⟨⟨b, rfl⟩, hb1⟩
      clear P
      replace HE : Hid _ := HE.out w1 hb1
      replace c4 := kept_cell hb1 c4
      replace d1 := kept_cell hb1 d1
      replace d2 := kept_cell hb1 d2
      clear hb1
      go_wp2_with fail
      exact bodyPost_ret (v := .tuple #[]) (by simp [results, Tryz.results64, go_sem]) rfl ⟨rfl, HE.out⟩
end Go.Proofs.YtlncljfljjaacaaGreatDoor

namespace Go.Proofs.YtlncljfljjaacaaGreatDoor
open Go.ChangeShapes Go.WideShapes Go.ChangeAt Go.RowKit
set_option linter.unusedVariables false
set_option linter.unusedSimpArgs false

/-- How many times a stamp is pinned. -/
def timesP (t : Int) : List Pn → Int
  | [] => 0
  | x :: l => (if x.1 = t then x.2 else 0) + timesP t l

theorem times_append (t : Int) : ∀ a b : List Pn, timesP t (a ++ b) = timesP t a + timesP t b
  | [], b => by simp [timesP]
  | x :: a, b => by simp only [List.cons_append, timesP, times_append t a b]; omega

theorem times_zero {t : Int} : ∀ {l : List Pn}, (∀ x ∈ l, x.1 ≠ t) → timesP t l = 0
  | [], _ => rfl
  | x :: l, h => by
    rw [timesP, if_neg (h x (by simp)), times_zero (fun y hy => h y (by simp [hy]))]
    rfl

theorem times_nonneg {t : Int} : ∀ {l : List Pn}, (∀ x ∈ l, 0 < x.2) → 0 ≤ timesP t l
  | [], _ => Int.le_refl _
  | x :: l, h => by
    have := h x (by simp)
    have := times_nonneg (t := t) (fun y hy => h y (by simp [hy]) : ∀ y ∈ l, 0 < y.2)
    rw [timesP]
    split <;> omega

theorem times_mem {x : Pn} : ∀ {l : List Pn}, (∀ y ∈ l, 0 < y.2) → x ∈ l → x.2 ≤ timesP x.1 l
  | [], _, h => by simp at h
  | y :: l, hp, h => by
    have h1 := hp y (by simp)
    have h2 : ∀ z ∈ l, 0 < z.2 := fun z hz => hp z (by simp [hz])
    rw [timesP]
    rcases List.mem_cons.1 h with rfl | h
    · rw [if_pos rfl]
      have := times_nonneg (t := x.1) h2
      omega
    · have := times_mem h2 h
      split <;> omega

theorem times_has {t : Int} : ∀ {l : List Pn}, 0 < timesP t l → ∃ x ∈ l, x.1 = t
  | [], h => by simp [timesP] at h
  | x :: l, h => by
    by_cases hx : x.1 = t
    · exact ⟨x, by simp, hx⟩
    · rw [timesP, if_neg hx] at h
      obtain ⟨y, hy, e⟩ := times_has (t := t) (l := l) (by omega)
      exact ⟨y, by simp [hy], e⟩

theorem times_set {t y : Int} {x : Pn} : ∀ {l : List Pn} {k : Nat}, l[k]? = some x → timesP t (l.set k (x.1, y)) = timesP t l + if x.1 = t then y - x.2 else 0
  | [], k, h => by simp at h
  | z :: l, 0, h => by
    simp at h; subst h
    simp only [List.set_cons_zero, timesP]
    split <;> omega
  | z :: l, k + 1, h => by
    have := times_set (t := t) (y := y) (l := l) (k := k) (by simpa using h)
    simp only [List.set_cons_succ, timesP, this]
    omega

theorem times_erase {t : Int} {x : Pn} : ∀ {l : List Pn} {k : Nat}, l[k]? = some x → timesP t (l.eraseIdx k) = timesP t l - if x.1 = t then x.2 else 0
  | [], k, h => by simp at h
  | z :: l, 0, h => by
    simp at h; subst h
    simp only [List.eraseIdx_cons_zero, timesP]
    omega
  | z :: l, k + 1, h => by
    have := times_erase (t := t) (l := l) (k := k) (by simpa using h)
    simp only [List.eraseIdx_cons_succ, timesP, this]
    omega

theorem upToN_cons (t : Int) (x : Pn) (l : List Pn) : upToN t (x :: l) = upToN t l + if x.1 ≤ t then 1 else 0 := by
  unfold upToN
  rw [List.countP_cons]
  by_cases h : x.1 ≤ t <;> simp [h]

theorem upToN_iff {t : Int} : ∀ {l : List Pn}, RiseP l → ∀ {i : Nat} {x : Pn}, l[i]? = some x → (i < upToN t l ↔ x.1 ≤ t)
  | [], _, i, x, h => by simp at h
  | y :: l, hs, i, x, h => by
    have hp := List.pairwise_cons.1 hs
    rw [upToN_cons]
    by_cases hy : y.1 ≤ t
    · rw [if_pos hy]
      match i, h with
      | 0, h => simp at h; subst h; simp [hy]
      | i + 1, h =>
        have := upToN_iff (t := t) hp.2 (i := i) (x := x) (by simpa using h)
        rw [← this]; omega
    · rw [if_neg hy]
      have h0 : upToN t l = 0 := by
        unfold upToN
        rw [List.countP_eq_zero]
        intro z hz
        have := hp.1 z hz
        simp; omega
      rw [h0]
      match i, h with
      | 0, h => simp at h; subst h; omega
      | i + 1, h =>
        have := hp.1 x (List.mem_of_getElem? (by simpa using h : l[i]? = some x))
        omega

structure PinAt (S : St) (s : Sto) : Prop where
  rise : RiseP S.pins
  pos : ∀ x ∈ S.pins, 0 < x.2 ∧ x.1 ≤ s.stamp
  cnt : ∀ t, ((s.p.count t : Nat) : Int) = timesP t S.pins

theorem PinAt.le {S : St} {s : Sto} (H : PinAt S s) : ∀ x ∈ S.pins, 0 < x.2 ∧ x.2 ≤ s.p.length := fun x hx => by
  have h1 := times_mem (fun y hy => (H.pos y hy).1) hx
  rw [← H.cnt] at h1
  have h2 : s.p.count x.1 ≤ s.p.length := List.count_le_length
  exact ⟨(H.pos x hx).1, by omega⟩

theorem foldl_min (l : List Int) : ∀ a, (l.foldl min a = a ∨ l.foldl min a ∈ l) ∧ l.foldl min a ≤ a ∧ ∀ x ∈ l, l.foldl min a ≤ x := by
  induction l with
  | nil => intro a; simp
  | cons y l ih =>
    intro a
    obtain ⟨h1, h2, h3⟩ := ih (min a y)
    simp only [List.foldl_cons]
    refine ⟨?_, by omega, fun x hx => ?_⟩
    · rcases h1 with h1 | h1
      · rw [h1]
        rcases Int.le_total a y with h | h
        · left; omega
        · right; rw [Int.min_eq_right h]; simp
      · right; simp [h1]
    · rcases List.mem_cons.1 hx with rfl | hx
      · omega
      · exact h3 x hx

theorem PinAt.low {S : St} {s : Sto} (H : PinAt S s) (hn : S.now = s.stamp) : lowP s = S.low := by
  obtain ⟨h1, h2, h3⟩ := foldl_min s.p s.stamp
  have hm : ∀ t ∈ s.p, ∃ x ∈ S.pins, x.1 = t := fun t ht => times_has (by rw [← H.cnt]; have := List.count_pos_iff.2 ht; omega)
  have hx : ∀ x ∈ S.pins, x.1 ∈ s.p := fun x hx => by
    have := times_mem (fun y hy => (H.pos y hy).1) hx
    rw [← H.cnt] at this
    have h0 := (H.pos x hx).1
    exact List.count_pos_iff.1 (by omega)
  unfold lowP St.low
  cases hp : S.pins with
  | nil =>
    simp only
    rw [hn]
    rcases h1 with h1 | h1
    · exact h1
    · obtain ⟨x, hx, _⟩ := hm _ h1
      rw [hp] at hx; simp at hx
  | cons x l =>
    simp only
    have hxm : x ∈ S.pins := by rw [hp]; simp
    have a1 := h3 x.1 (hx x hxm)
    have a2 := (H.pos x hxm).2
    have hr := H.rise
    rw [hp] at hr
    have hmin : ∀ y ∈ S.pins, x.1 ≤ y.1 := fun y hy => by
      rw [hp] at hy
      rcases List.mem_cons.1 hy with rfl | hy
      · exact Int.le_refl _
      · have := (List.pairwise_cons.1 hr).1 y hy; omega
    rcases h1 with h1 | h1
    · rw [h1] at a1 ⊢; omega
    · obtain ⟨y, hy, e⟩ := hm _ h1
      have := hmin y hy
      omega

theorem PinAt.pinned {S : St} {s : Sto} (H : PinAt S s) (hn : S.now = s.stamp) (v : Value) : PinAt (S.pinned v (pinL S.now S.pins)) (pinP s) := by
  have hc : ∀ t, (((pinP s).p.count t : Nat) : Int) = ((s.p.count t : Nat) : Int) + if s.stamp = t then 1 else 0 := fun t => by
    unfold pinP
    simp only [List.count_append]
    by_cases h : s.stamp = t
    · subst h; simp
    · rw [if_neg h, List.count_singleton, if_neg (by simpa using h)]; simp
  have key : ∀ l', l' = pinL S.now S.pins → RiseP l' ∧ (∀ x ∈ l', 0 < x.2 ∧ x.1 ≤ s.stamp) ∧ ∀ t, timesP t l' = timesP t S.pins + if s.stamp = t then 1 else 0 := by
    intro l' hl'
    rcases List.eq_nil_or_concat S.pins with hq | ⟨a, x, hq⟩
    · have e : pinL S.now S.pins = [(s.stamp, 1)] := by rw [hq, ← hn]; rfl
      rw [hl', e, hq]
      exact ⟨List.pairwise_singleton _ _, fun x hx => by simp at hx; subst hx; exact ⟨by omega, Int.le_refl _⟩, fun t => by simp [timesP]⟩
    · rw [List.concat_eq_append] at hq
      have hr := H.rise
      rw [hq] at hr
      have hr' := List.pairwise_append.1 hr
      have hx := H.pos x (by rw [hq]; simp)
      by_cases hxn : x.1 = S.now
      · have e : pinL S.now S.pins = a ++ [(x.1, x.2 + 1)] := by
          unfold pinL
          rw [hq, List.getLast?_concat]
          simp only
          rw [if_pos hxn, List.dropLast_concat]
        rw [hl', e, hq]
        refine ⟨?_, fun y hy => ?_, fun t => ?_⟩
        · unfold RiseP
          rw [List.pairwise_append]
          refine ⟨hr'.1, List.pairwise_singleton _ _, fun y hy z hz => ?_⟩
          simp at hz; subst hz
          exact hr'.2.2 y hy x (by simp)
        · rcases List.mem_append.1 hy with hy | hy
          · exact H.pos y (by rw [hq]; simp [hy])
          · simp at hy; subst hy; exact ⟨by show 0 < x.2 + 1; omega, hx.2⟩
        · rw [times_append, times_append, ← hn, ← hxn]
          simp only [timesP]
          split <;> omega
      · have e : pinL S.now S.pins = S.pins ++ [(s.stamp, 1)] := by
          rw [pinL_add, hn]
          intro y hy
          rw [hq, List.getLast?_concat] at hy
          cases hy
          exact hxn
        rw [hl', e]
        refine ⟨?_, fun y hy => ?_, fun t => ?_⟩
        · unfold RiseP
          rw [List.pairwise_append]
          refine ⟨H.rise, List.pairwise_singleton _ _, fun y hy z hz => ?_⟩
          simp at hz; subst hz
          show y.1 < s.stamp
          rw [hq] at hy
          rcases List.mem_append.1 hy with hy | hy
          · have := hr'.2.2 y hy x (by simp); omega
          · simp at hy; subst hy; omega
        · rcases List.mem_append.1 hy with hy | hy
          · exact H.pos y hy
          · simp at hy; subst hy; exact ⟨by show (0 : Int) < 1; omega, Int.le_refl _⟩
        · rw [times_append]
          simp only [timesP]
          omega
  obtain ⟨k1, k2, k3⟩ := key _ rfl
  exact ⟨k1, k2, fun t => by rw [hc, H.cnt]; exact (k3 t).symm⟩

theorem PinAt.unpinned {S : St} {s : Sto} (H : PinAt S s) (t : Int) (v : Value) : PinAt (S.pinned v (unpinL t S.pins)) (unpinP s t) := by
  have hne : (∀ x ∈ S.pins, x.1 ≠ t) → unpinP s t = s := fun h => by
    have h0 := H.cnt t
    rw [times_zero h] at h0
    unfold unpinP
    rw [List.erase_of_not_mem (fun hm => by have := List.count_pos_iff.2 hm; omega)]
  have hcount : ∀ t', (((unpinP s t).p.count t' : Nat) : Int) = ((s.p.count t' - (if t = t' then 1 else 0) : Nat) : Int) := fun t' => by
    unfold unpinP
    simp only [List.count_erase]
    by_cases h : t = t' <;> simp [h]
  have hle : upToN t S.pins ≤ S.pins.length := List.countP_le_length
  have same : (∀ x ∈ S.pins, x.1 ≠ t) → PinAt (S.pinned v S.pins) (unpinP s t) := fun h => by rw [hne h]; exact ⟨H.rise, H.pos, H.cnt⟩
  unfold unpinL
  cases hu : upToN t S.pins with
  | zero =>
    simp only
    refine same (fun x hx e => ?_)
    obtain ⟨i, hi⟩ := List.getElem?_of_mem hx
    have := (upToN_iff (t := t) H.rise hi).2 (by omega)
    omega
  | succ k =>
    obtain ⟨x, hx⟩ : ∃ x, S.pins[k]? = some x := ⟨_, List.getElem?_eq_getElem (by omega)⟩
    simp only [hx]
    have hxt := (upToN_iff (t := t) H.rise hx).1 (by omega)
    have hxm := List.mem_of_getElem? hx
    have hx0 := H.pos x hxm
    by_cases hxe : x.1 = t
    · rw [if_pos hxe]
      have hc1 := times_mem (fun y hy => (H.pos y hy).1) hxm
      rw [← H.cnt] at hc1
      by_cases hy : x.2 - 1 = 0
      · rw [if_pos hy]
        refine ⟨?_, fun z hz => ?_, fun t' => ?_⟩
        · exact H.rise.sublist (List.eraseIdx_sublist _ _)
        · exact H.pos z (List.mem_of_mem_eraseIdx hz)
        · show _ = timesP t' (S.pins.eraseIdx k)
          rw [hcount, times_erase hx, ← H.cnt]
          by_cases ht : t = t'
          · subst ht
            rw [if_pos rfl, if_pos hxe, ← hxe]
            omega
          · rw [if_neg ht, if_neg (by rw [hxe]; exact ht)]
            simp
      · rw [if_neg hy]
        refine ⟨?_, fun z hz => ?_, fun t' => ?_⟩
        · have e : ∀ l : List Pn, RiseP l ↔ (l.map Prod.fst).Pairwise (· < ·) := fun l => by unfold RiseP; rw [List.pairwise_map]
          show RiseP (S.pins.set k (x.1, x.2 - 1))
          rw [e, List.map_set]
          have hk : (S.pins.map Prod.fst)[k]? = some x.1 := by rw [List.getElem?_map, hx]; rfl
          have : (S.pins.map Prod.fst).set k x.1 = S.pins.map Prod.fst := by
            obtain ⟨h1, h2⟩ := List.getElem?_eq_some_iff.1 hk
            rw [← h2, List.set_getElem_self]
          rw [this, ← e]
          exact H.rise
        · have hz : z ∈ S.pins.set k (x.1, x.2 - 1) := hz
          rcases List.mem_or_eq_of_mem_set hz with hz | rfl
          · exact H.pos z hz
          · exact ⟨by show 0 < x.2 - 1; omega, hx0.2⟩
        · show _ = timesP t' (S.pins.set k (x.1, x.2 - 1))
          rw [hcount, times_set hx, ← H.cnt]
          by_cases ht : t = t'
          · subst ht
            rw [if_pos rfl, if_pos hxe, ← hxe]
            omega
          · rw [if_neg ht, if_neg (by rw [hxe]; exact ht)]
            simp
    · rw [if_neg hxe]
      refine same (fun z hz e => ?_)
      obtain ⟨i, hi⟩ := List.getElem?_of_mem hz
      have h1 := (upToN_iff (t := t) H.rise hi).2 (by omega)
      have := riseP_get H.rise hi hx (by omega)
      omega

structure OwnP (B p : Nat) (w0 w : World) (S : St) (s : Sto) (n : Nat) : Prop where
  own : Own B p w0 w S s
  pin : PinAt S s
  few : S.pins.length ≤ n ∧ s.p.length ≤ n

theorem OwnP.later {B p n : Nat} {w0 w w' : World} {S : St} {s : Sto} (O : OwnP B p w0 w S s n) (h : Below w.heap.size w w') : OwnP B p w0 w' S s n := ⟨O.own.later h, O.pin, O.few⟩
theorem OwnP.more {B p n m : Nat} {w0 w : World} {S : St} {s : Sto} (O : OwnP B p w0 w S s n) (h : n ≤ m) : OwnP B p w0 w S s m := ⟨O.own, O.pin, by have := O.few; omega⟩

theorem Own.fresh {B p n : Nat} {w0 w : World} {S : St} {s : Sto} (O : Own B p w0 w S s) (h : S.pins = []) (hp : s.p = []) : OwnP B p w0 w S s 0 :=
  ⟨O, ⟨by rw [h]; exact List.Pairwise.nil, by rw [h]; simp, by rw [h, hp]; intro t; rfl⟩, by rw [h, hp]; exact ⟨Nat.le_refl _, Nat.le_refl _⟩⟩

theorem Good.pinned {S : St} (G : Good S) (v : Value) (l : List Pn) : Good (S.pinned v l) := ⟨G.ne, G.nodup, G.wait, G.heap⟩
theorem Abs.pinned {S : St} {s : Sto} (H : Abs S s) (v : Value) (l : List Pn) (q : List Int) : Abs (S.pinned v l) { s with p := q } := ⟨H.all, H.stamp, H.cnt, H.live, H.rising, H.le, H.size, H.tot, H.nonneg⟩

theorem pinL_len (now : Int) (l : List Pn) : (pinL now l).length ≤ l.length + 1 := by
  unfold pinL
  cases h : l.getLast? with
  | none => simp
  | some x =>
    simp only
    split
    · simp only [List.length_append, List.length_dropLast, List.length_cons, List.length_nil]; omega
    · simp
theorem unpinL_len (t : Int) (l : List Pn) : (unpinL t l).length ≤ l.length := by
  unfold unpinL
  split
  · exact Nat.le_refl _
  · split
    · split
      · split
        · exact (List.eraseIdx_sublist _ _).length_le
        · simp
      · exact Nat.le_refl _
    · exact Nat.le_refl _

theorem pin_own {B p n : Nat} {w0 w : World} {S : St} {s : Sto} (O : OwnP B p w0 w S s n) (hn : n ≤ 1000) :
    Calls Tryz.prog 40 #[.pointer (some ⟨p, 0, none⟩)] w fun e w' => ∃ S', e = .returned (.int .i64 s.stamp) ∧ OwnP B p w0 w' S' (pinP s) (n + 1) ∧ Step w w' S S' ∧ S'.tot = S.tot := by
  have hf := O.few
  have P := pin_any S w O.own.store (by omega) (fun x hx => by have := O.pin.le x hx; omega)
  rw [O.own.ptr, O.own.abs.stamp] at P
  refine P.mono ?_
  rintro e w' ⟨v, rfl, A, T⟩
  rw [← O.own.abs.stamp] at A T
  refine ⟨_, rfl, ⟨O.own.moved T A (O.own.good.pinned _ _) (O.own.abs.pinned _ _ _), O.pin.pinned O.own.abs.stamp v, ?_, ?_⟩, T, rfl⟩
  · have := pinL_len S.now S.pins
    show (pinL S.now S.pins).length ≤ _
    omega
  · unfold pinP
    simp
    omega

theorem unpin_own {B p n : Nat} {w0 w : World} {S : St} {s : Sto} (O : OwnP B p w0 w S s n) (hn : n ≤ 1000) (t : Int) :
    Calls Tryz.prog 64 #[.pointer (some ⟨p, 0, none⟩), .int .i64 t] w fun e w' => e = .returned (.tuple #[]) ∧ ∃ S', OwnP B p w0 w' S' (unpinP s t) n ∧ Step w w' S S' ∧ S'.tot = S.tot := by
  have hf := O.few
  have P := unpin_any S t w O.own.store O.pin.rise (fun x hx => by have := O.pin.le x hx; omega)
  rw [O.own.ptr] at P
  refine P.mono ?_
  rintro e w' ⟨rfl, v, A, T⟩
  refine ⟨rfl, _, ⟨O.own.moved T A (O.own.good.pinned _ _) (O.own.abs.pinned _ _ _), O.pin.unpinned t v, ?_, ?_⟩, T, rfl⟩
  · have := unpinL_len t S.pins
    show (unpinL t S.pins).length ≤ _
    omega
  · unfold unpinP
    have := (List.erase_sublist (a := t) (l := s.p)).length_le
    simp only
    omega

theorem clean_own {B p n : Nat} {w0 w : World} {S : St} {s : Sto} (O : OwnP B p w0 w S s n) :
    Calls Tryz.prog 65 #[.pointer (some ⟨p, 0, none⟩)] w fun e w' => ∃ S', e = .returned (.int .i64 (cleanP s).2) ∧ OwnP B p w0 w' S' (cleanP s).1 n ∧ Step w w' S S' ∧ S'.tot = S.tot := by
  have P := clean_any S s w O.own.store O.own.good O.own.abs
  rw [O.own.ptr] at P
  refine P.mono ?_
  rintro e w' ⟨S', m, rfl, hm, A, T, G, H, ht, hp⟩
  have hlow := O.pin.low O.own.abs.stamp
  unfold cleanP
  rw [hlow]
  refine ⟨S', by rw [hm], ⟨O.own.moved T A G H, ⟨by rw [hp]; exact O.pin.rise, by rw [hp]; exact O.pin.pos, by rw [hp]; exact O.pin.cnt⟩, by rw [hp]; exact O.few⟩, T, ht⟩

theorem commit_stamp (s : Sto) (ws : List Wr) : s.stamp ≤ (commitP s ws).1.stamp ∧ (commitP s ws).1.p = s.p := by
  unfold commitP
  split
  · exact ⟨Int.le_refl _, rfl⟩
  · exact ⟨by show s.stamp ≤ s.stamp + 1; omega, rfl⟩

theorem commit_ownP {B p n : Nat} {w0 w : World} {S : St} {s : Sto} (O : OwnP B p w0 w S s n) (a : Option Addr) (c : Nat) (ws : List Wr) (W : WsAt w a ws) (hap : ∀ g o, a = some ⟨g, o, none⟩ → ¬ (S.lab g).isSome)
    (hsz : ∀ x ∈ ws, x.key.size ≤ 281474976710656 ∧ x.val.size ≤ 281474976710656) (ht : S.tot + ws.length ≤ 900000) (hn : s.stamp ≤ 1000000) :
    Calls Tryz.prog 87 #[.pointer (some ⟨p, 0, none⟩), .slice a ws.length c] w fun e w' => ∃ S', e = .returned (.tuple #[.int .i64 (commitP s ws).2.1, .int .i64 (commitP s ws).2.2]) ∧ OwnP B p w0 w' S' (commitP s ws).1 n ∧ Step w w' S S' ∧ S'.tot ≤ S.tot + ws.length := by
  refine (commit_own O.own a c ws W hap hsz ht hn).mono ?_
  rintro e w' ⟨S', rfl, O', T, ht', hp⟩
  obtain ⟨q1, q2⟩ := commit_stamp s ws
  exact ⟨S', rfl, ⟨O', ⟨by rw [hp]; exact O.pin.rise, by rw [hp]; exact fun x hx => ⟨(O.pin.pos x hx).1, by have := (O.pin.pos x hx).2; omega⟩, by rw [hp, q2]; exact O.pin.cnt⟩, by rw [hp, q2]; exact O.few⟩, T, ht'⟩
end Go.Proofs.YtlncljfljjaacaaGreatDoor
