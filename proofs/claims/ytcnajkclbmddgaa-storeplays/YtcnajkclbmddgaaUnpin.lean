/- Unpin. -/
import Derived.Test.YtcnajkclbmddgaaDel
namespace Go.Proofs.Ytcnajkclbmddgaa
open Go.ChangeShapes Go.WideShapes Go.ChangeAt Go.RowKit
set_option linter.unusedVariables false
set_option linter.unusedSimpArgs false

/-- The pins behind one less of this stamp. -/
def unpinL (t : Int) (l : List Pn) : List Pn :=
  match upToN t l with
  | 0 => l
  | k + 1 => match l[k]? with
    | some x => if x.1 = t then (if x.2 - 1 = 0 then l.eraseIdx k else l.set k (x.1, x.2 - 1)) else l
    | none => l

theorem pin_same {w w' : World} {S : St} (A : StoreAt w S) (hb : Below w.heap.size w w') : StoreAt w' (S.pinned S.pinV S.pins) ∧ Step w w' S (S.pinned S.pinV S.pins) := by
  have A' := A.below hb
  have O : Only (fun b => b = S.p ∨ S.pinV.ownBlock = some b) w' w' := Only.refl _ _
  exact ⟨A'.pinned A'.blk A'.pinR O (fun g h => .inl h) A.few.2.2.2, (Step.of_below hb S).trans (Step.pinned A' O (fun g h => .inl h))⟩

theorem encP_setN : ∀ (l : List Pn) (k : Nat) (x : Pn) (y : Int), l[k]? = some x → (encP l).set (k * 2 + 1) (.int .i64 y) = encP (l.set k (x.1, y))
  | [], k, x, y, h => by simp at h
  | z :: l, 0, x, y, h => by simp at h; subst h; rfl
  | z :: l, k + 1, x, y, h => by
    have := encP_setN l k x y (by simpa using h)
    rw [show (k + 1) * 2 + 1 = k * 2 + 1 + 2 by omega]
    simp only [encP, List.set_cons_succ, this]

/-- One less of a stamp that stays pinned. -/
theorem pin_less {w : World} {S : St} {k : Nat} {x : Pn} {y : Int} {g cap : Nat} (A : StoreAt w S) (hx : S.pins[k]? = some x) (hv : S.pinV = .slice (some ⟨g, 0, none⟩) S.pins.length cap) :
    StoreAt (w.setCell ⟨g, k * 2 + 1, none⟩ (.int .i64 y)) (S.pinned S.pinV (S.pins.set k (x.1, y))) ∧ Step w (w.setCell ⟨g, k * 2 + 1, none⟩ (.int .i64 y)) S (S.pinned S.pinV (S.pins.set k (x.1, y))) := by
  have hg : S.pinV.ownBlock = some g := by rw [hv]; rfl
  have hne : S.p ≠ g := fun e => by
    have := A.labPin g hg
    rw [← e, A.labP] at this
    cases this
  have hR := A.pinR
  rw [hv] at hR
  obtain ⟨R1, G1⟩ := hR.stored (k * 2 + 1) (.int .i64 y)
  rw [← hv, encP_setN _ _ _ _ hx] at R1
  have hlen : (S.pins.set k (x.1, y)).length = S.pins.length := by simp
  rw [← hlen] at R1
  have OO : Only (fun b => b = S.p ∨ S.pinV.ownBlock = some b) w (w.setCell ⟨g, k * 2 + 1, none⟩ (.int .i64 y)) := ⟨rfl, rfl, rfl, by simp [World.setCell], fun k hk hn => Below.heap_setCell _ _ _ _ (fun e => hn (.inr (by rw [hg, e])))⟩
  exact ⟨A.pinned (A.blk.of_block (Below.heap_setCell _ _ _ _ hne)) R1 OO (fun g h => .inl h) (by rw [hlen]; exact A.few.2.2.2), Step.pinned A OO (fun g h => .inl h)⟩

/-- A stamp that is no more pinned. -/
theorem pin_gone {w w' : World} {S : St} {l : List Pn} {g cap : Nat} (A : StoreAt w S) (hv : S.pinV = .slice (some ⟨g, 0, none⟩) S.pins.length cap) (R : w'.ownsRow 0 70 2 (.slice (some ⟨g, 0, none⟩) l.length cap) l.length (encP l)) (O : Only (fun k => k = g) w w') (hl : l.length ≤ S.pins.length) :
    StoreAt (w'.setCell ⟨S.p, 4, none⟩ (.slice (some ⟨g, 0, none⟩) l.length cap)) (S.pinned (.slice (some ⟨g, 0, none⟩) l.length cap) l) ∧ Step w (w'.setCell ⟨S.p, 4, none⟩ (.slice (some ⟨g, 0, none⟩) l.length cap)) S (S.pinned (.slice (some ⟨g, 0, none⟩) l.length cap) l) := by
  have hg : S.pinV.ownBlock = some g := by rw [hv]; rfl
  have hne : S.p ≠ g := fun e => by
    have := A.labPin g hg
    rw [← e, A.labP] at this
    cases this
  have B' : Blk w' S.p S.cs 62 := A.blk.of_block (O.block _ A.blk.lt hne)
  have OO : Only (fun b => b = S.p ∨ S.pinV.ownBlock = some b) w (w'.setCell ⟨S.p, 4, none⟩ (.slice (some ⟨g, 0, none⟩) l.length cap)) :=
    ⟨O.os, O.tape, O.output, by simp [World.setCell]; exact O.size, fun k hk hn => (Below.heap_setCell _ _ _ _ (fun e => hn (.inl e))).trans (O.block k hk (fun e => hn (.inr (by rw [hg, e]))))⟩
  have RR : ∀ g', (Value.slice (some ⟨g, 0, none⟩) l.length cap).ownBlock = some g' → S.pinV.ownBlock = some g' ∨ w.heap.size ≤ g' := fun g' h => .inl (by rw [hg, ← h]; rfl)
  have R7 := ownsRow_setCell_other R (a := ⟨S.p, 4, none⟩) (by simpa [Value.ownBlock] using Ne.symm hne) (.slice (some ⟨g, 0, none⟩) l.length cap)
  exact ⟨A.pinned (B'.set 4 _) R7 OO RR (Nat.le_trans hl A.few.2.2.2), Step.pinned A OO RR⟩

set_option maxHeartbeats 3200000 in
set_option maxRecDepth 20000 in
theorem unpin_any (S : St) (t : Int) (w : World) (A : StoreAt w S) (hs : RiseP S.pins) (hb : ∀ x ∈ S.pins, 0 < x.2 ∧ x.2 ≤ 1000000) :
    Calls Try.prog 19 #[.pointer (some ⟨S.p, 0, none⟩), .int .i64 t] w fun e w' => e = .returned (.tuple #[]) ∧ ∃ v, StoreAt w' (S.pinned v (unpinL t S.pins)) ∧ Step w w' S (S.pinned v (unpinL t S.pins)) := by
  have hfew := A.few.2.2.2
  obtain ⟨a, c, hv, hc, AP⟩ := own_atP A.pinR
  have P := psearch_any a c S.pins t w AP hs (by omega)
  have c4 := A.blk.cell (i := 4) (v := S.pinV) rfl
  rw [hv] at c4
  have hle : upToN t S.pins ≤ S.pins.length := List.countP_le_length
  have hun : unpinL t S.pins = match upToN t S.pins with
    | 0 => S.pins
    | k + 1 => match S.pins[k]? with
      | some x => if x.1 = t then (if x.2 - 1 = 0 then S.pins.eraseIdx k else S.pins.set k (x.1, x.2 - 1)) else S.pins
      | none => S.pins := rfl
  have hpw := A.blk.lt
  have f4 := A.blk.thawed 4
  generalize upToN t S.pins = u at *
  rcases Nat.eq_zero_or_pos u with h0 | h0
  · subst h0
    simp only at hun
    rw [hun]
    have HE : Hid (∀ w', Below w.heap.size w w' → ∃ v, StoreAt w' (S.pinned v S.pins) ∧ Step w w' S (S.pinned v S.pins)) := fun w' hb => ⟨_, pin_same A hb⟩
    clear A hs hb hfew hv hc AP hle hun f4
    generalize S.pins.length = ln at *
    rw [show ((0 : Nat) : Int) = 0 from rfl] at P
    go_enter Try.func19, Try.ntmps19
    go_wp2_with fail
    refine P.mono ?_
    rintro e w1 ⟨⟨b, rfl⟩, hb1⟩
    clear P c4
    go_wp2_with fail
    exact bodyPost_ret (v := .tuple #[]) (by simp [results, Try.results19, go_sem]) rfl ⟨rfl, HE.out w1 hb1⟩
  · obtain ⟨k, hk⟩ : ∃ k, u = k + 1 := ⟨u - 1, by omega⟩
    have hkl : k < S.pins.length := by omega
    obtain ⟨x, hx⟩ : ∃ x, S.pins[k]? = some x := ⟨_, List.getElem?_eq_getElem hkl⟩
    obtain ⟨g, cap, hv2, _, hgl⟩ := A.pinR.form (by omega)
    rw [hv] at hv2
    injection hv2 with q1 q2 q3
    subst q1 q3
    obtain ⟨g', o', e, _, hcell⟩ := AP (by omega)
    injection e with e
    injection e with e1 e2
    subst e1 e2
    obtain ⟨d1, d2⟩ := hcell k x hx
    rw [Nat.zero_add] at d1 d2
    subst hk
    simp only [hx] at hun
    have hxb := hb x (List.mem_of_getElem? hx)
    have fg := (by have := A.pinR; rw [hv] at this; exact this.frozenAt (k * 2 + 1) : w.frozen? ⟨g, k * 2 + 1, none⟩ = false)
    have hsub : ((k + 1 : Nat) : Int) - 1 = (k : Int) := by omega
    have hkI : (k : Int) < (S.pins.length : Int) := by omega
    have hk0 : (0 : Int) ≤ (k : Int) := by omega
    have hkB : wrap64 (k : Int) = (k : Int) := IntWalk.wrap64_in _ (by omega)
    by_cases hxt : x.1 = t
    · rw [if_pos hxt] at hun
      obtain ⟨y, hy⟩ : ∃ y, x.2 - 1 = y := ⟨_, rfl⟩
      rw [hy] at hun
      have hy0 : 0 ≤ y ∧ y ≤ 1000000 := by omega
      rw [hxt] at d1
      have HL : Hid (∀ w1, Below w.heap.size w w1 → StoreAt (w1.setCell ⟨g, k * 2 + 1, none⟩ (.int .i64 y)) (S.pinned S.pinV (S.pins.set k (x.1, y))) ∧ Step w (w1.setCell ⟨g, k * 2 + 1, none⟩ (.int .i64 y)) S (S.pinned S.pinV (S.pins.set k (x.1, y)))) := fun w1 hb1 => by
        obtain ⟨r1, r2⟩ := pin_less (y := y) (A.below hb1) hx hv
        exact ⟨r1, (Step.of_below hb1 S).trans r2⟩
      have HD : Hid (∀ w1, Below w.heap.size w w1 → Calls Try.prog 33 #[.slice (some ⟨g, 0, none⟩) S.pins.length c, .int .i64 k, .int .i64 ((k + 1 : Nat) : Int)] (w1.setCell ⟨g, k * 2 + 1, none⟩ (.int .i64 y)) fun e w' => e = .returned (.slice (some ⟨g, 0, none⟩) (S.pins.length - 1) c) ∧
          w'.cell? ⟨S.p, 4, none⟩ = some (.slice (some ⟨g, 0, none⟩) S.pins.length c) ∧ w'.frozen? ⟨S.p, 4, none⟩ = false ∧
          Hid (∃ v, StoreAt (w'.setCell ⟨S.p, 4, none⟩ (.slice (some ⟨g, 0, none⟩) (S.pins.length - 1) c)) (S.pinned v (S.pins.eraseIdx k)) ∧ Step w (w'.setCell ⟨S.p, 4, none⟩ (.slice (some ⟨g, 0, none⟩) (S.pins.length - 1) c)) S (S.pinned v (S.pins.eraseIdx k)))) := fun w1 hb1 => by
        obtain ⟨r1, r2⟩ := HL.out w1 hb1
        have hlen : (S.pins.set k (x.1, y)).length = S.pins.length := by simp
        have R1 := r1.pinR
        rw [show (S.pinned S.pinV (S.pins.set k (x.1, y))).pinV = .slice (some ⟨g, 0, none⟩) S.pins.length c from hv] at R1
        have D := delete_any g c k (S.pins.set k (x.1, y)) _ (by rw [hlen]; have e : (S.pinned S.pinV (S.pins.set k (x.1, y))).pins = S.pins.set k (x.1, y) := rfl; rw [e, hlen] at R1; exact R1) (by rw [hlen]; exact hkl) (by rw [hlen]; omega)
        rw [hlen, List.eraseIdx_set_eq] at D
        refine D.mono ?_
        rintro e w' ⟨rfl, R2, O2⟩
        have hel : (S.pins.eraseIdx k).length = S.pins.length - 1 := List.length_eraseIdx_of_lt hkl
        have O3 : Only (fun b => b = g) w w' := by
          refine ⟨O2.os.trans hb1.os, O2.tape.trans hb1.tape, O2.output.trans hb1.output, Nat.le_trans hb1.size (by have := O2.size; simpa [World.setCell] using this), fun b h1 h2 => ?_⟩
          rw [O2.block b (by simp [World.setCell]; exact Nat.lt_of_lt_of_le h1 hb1.size) h2]
          exact (Below.heap_setCell _ _ _ _ h2).trans (hb1.block b h1)
        have hne : S.p ≠ g := fun e => by
          have := A.labPin g (by rw [hv]; rfl)
          rw [← e, A.labP] at this
          cases this
        have B3 : Blk w' S.p S.cs 62 := A.blk.of_block (O3.block _ A.blk.lt hne)
        have q := pin_gone (l := S.pins.eraseIdx k) A hv (by rw [hel]; exact R2) O3 (by omega)
        rw [hel] at q
        refine ⟨rfl, ?_, B3.thawed 4, ⟨_, q⟩⟩
        rw [← hv]
        exact B3.cell (i := 4) rfl
      have HC : Hid (∀ w1, Below w.heap.size w w1 → (w1.setCell ⟨g, k * 2 + 1, none⟩ (.int .i64 y)).cell? ⟨S.p, 4, none⟩ = some (.slice (some ⟨g, 0, none⟩) S.pins.length c) ∧ (w1.setCell ⟨g, k * 2 + 1, none⟩ (.int .i64 y)).frozen? ⟨S.p, 4, none⟩ = false ∧ (w1.setCell ⟨g, k * 2 + 1, none⟩ (.int .i64 y)).cell? ⟨g, k * 2 + 1, none⟩ = some (.int .i64 y)) := fun w1 hb1 => by
        have q := (HL.out w1 hb1).1.blk
        have d2' := kept_cell hb1 d2
        refine ⟨?_, q.thawed 4, ?_⟩
        · rw [← hv]
          exact q.cell (i := 4) rfl
        · exact World.cell?_setCell_same _ _ _ d2'
      by_cases hy1 : y = 0
      · rw [if_pos hy1] at hun
        subst hy1
        rw [hun]
        clear HL A hs hb hfew hv hc AP hcell hle h0 hkl hx hun hxb hxt hy0
        generalize hk1 : k + 1 = k1 at *
        replace hk1 : Hid (k + 1 = k1) := hk1
        generalize hln : S.pins.length = ln at *
        replace hln : Hid (S.pins.length = ln) := hln
        go_enter Try.func19, Try.ntmps19
        go_wp2_with fail
        refine P.mono ?_
        rintro e w1 ⟨⟨b, rfl⟩, hb1⟩
        clear P
        have D := HD.out w1 hb1
        obtain ⟨c4', f4', d2'⟩ := HC.out w1 hb1
        replace c4 := kept_cell hb1 c4
        replace d1 := kept_cell hb1 d1
        replace d2 := kept_cell hb1 d2
        replace fg := kept_thawed hb1 hgl fg
        clear HD HC hb1
        go_wp2_with fail
        refine D.mono ?_
        rintro e w2 ⟨rfl, c42, f42, HE⟩
        clear D c4' f4' d2' c4 d1 d2 fg
        go_wp2_with fail
        go_end0
        exact ⟨rfl, HE.out⟩
      · rw [if_neg hy1] at hun
        rw [hun]
        have HE : Hid (∀ w1, Below w.heap.size w w1 → ∃ v, StoreAt (w1.setCell ⟨g, k * 2 + 1, none⟩ (.int .i64 y)) (S.pinned v (S.pins.set k (x.1, y))) ∧ Step w (w1.setCell ⟨g, k * 2 + 1, none⟩ (.int .i64 y)) S (S.pinned v (S.pins.set k (x.1, y)))) := fun w1 hb1 => ⟨_, HL.out w1 hb1⟩
        clear HL HD A hs hb hfew hv hc AP hcell hle h0 hkl hx hun hxb hxt
        generalize hk1 : k + 1 = k1 at *
        replace hk1 : Hid (k + 1 = k1) := hk1
        generalize hln : S.pins.length = ln at *
        replace hln : Hid (S.pins.length = ln) := hln
        have hwy : wrap64 y = y := IntWalk.wrap64_in _ (by omega)
        clear hy0
        go_enter Try.func19, Try.ntmps19
        go_wp2_with fail
        refine P.mono ?_
        rintro e w1 ⟨⟨b, rfl⟩, hb1⟩
        clear P
        obtain ⟨c4', f4', d2'⟩ := HC.out w1 hb1
        replace HE : Hid _ := HE.out w1 hb1
        replace c4 := kept_cell hb1 c4
        replace d1 := kept_cell hb1 d1
        replace d2 := kept_cell hb1 d2
        replace fg := kept_thawed hb1 hgl fg
        clear HC hb1
        go_wp2_with fail
        go_end0
        exact ⟨rfl, HE.out⟩
    · rw [if_neg hxt] at hun
      rw [hun]
      have HE : Hid (∀ w', Below w.heap.size w w' → ∃ v, StoreAt w' (S.pinned v S.pins) ∧ Step w w' S (S.pinned v S.pins)) := fun w' hb => ⟨_, pin_same A hb⟩
      have hxne : (x.1 != t) = true := by simpa using hxt
      clear A hs hb hfew hv hc AP hcell hle h0 hkl hx hun hxb
      generalize hk1 : k + 1 = k1 at *
      replace hk1 : Hid (k + 1 = k1) := hk1
      generalize hln : S.pins.length = ln at *
      replace hln : Hid (S.pins.length = ln) := hln
      go_enter Try.func19, Try.ntmps19
      go_wp2_with fail
      refine P.mono ?_
      rintro e w1 ⟨⟨b, rfl⟩, hb1⟩
      clear P
      replace HE : Hid _ := HE.out w1 hb1
      replace c4 := kept_cell hb1 c4
      replace d1 := kept_cell hb1 d1
      replace d2 := kept_cell hb1 d2
      clear hb1
      go_wp2_with fail
      exact bodyPost_ret (v := .tuple #[]) (by simp [results, Try.results19, go_sem]) rfl ⟨rfl, HE.out⟩
end Go.Proofs.Ytcnajkclbmddgaa
