/- The contract of the laws' own Make: an instruction that may be, of numbers. -/
import Derived.Test.YtnmclpphiajleaaDoorWords
import Derived.Test.YtnmclpphiajleaaDoorNames
import Derived.Test.YtnmclpphiajleaaDoorOperand
import Derived.Deep.RegionLaw
namespace Go.Proofs.YtnmclpphiajleaaDoor
open Go.ChangeShapes Go.WideShapes Go.ChangeAt Go.RowKit
open Plain
set_option linter.unusedVariables false
set_option linter.unusedSimpArgs false

/-- The operands that Make takes, from the i-th kind on. -/
def opds (ns : List Int) : Nat → List K → List Int
  | _, [] => []
  | i, k :: ks => k.opd (ns.getD i i) :: opds ns (i + 1) ks

def makeF (op : Int) (ns : List Int) : List Int := opds ns 0 (rowP (op % 66)).ks

theorem rows_words : ∀ r ∈ short ++ long ++ [none'], wordsP r.kinds = r.ks.map K.name := by decide +kernel

theorem opds_length (ns : List Int) : ∀ (i : Nat) (ks : List K), (opds ns i ks).length = ks.length
  | _, [] => rfl
  | i, k :: ks => by simp [opds, opds_length ns (i + 1) ks]

theorem opds_get (ns : List Int) : ∀ (i j : Nat) (ks : List K) (k : K), ks[j]? = some k → (opds ns i ks)[j]? = some (k.opd (ns.getD (i + j) (i + j : Nat)))
  | i, j, [], k, h => by simp at h
  | i, 0, k' :: ks, k, h => by simp at h; subst h; simp [opds]
  | i, j + 1, k' :: ks, k, h => by
    have := opds_get ns (i + 1) j ks k (by simpa using h)
    simp [opds]
    rw [this]
    congr 3
    · omega
    · omega

theorem texts_form {base : Nat} {w : World} {v : Value} {ks : List K} (h : TextsIs base w v (ks.map K.name)) :
    ∃ p cap, v = .slice p ks.length cap ∧ ∀ i k, ks[i]? = some k → ∃ g, p = some ⟨g, 0, none⟩ ∧ base ≤ g ∧ w.cell? ⟨g, i, none⟩ = some (.string (bs k.name)) := by
  unfold TextsIs at h
  obtain ⟨_, h⟩ := h
  rcases h with ⟨rfl, hn⟩ | ⟨g, cap, cur, rfl, hg, hc, h1, h2, h3, h4⟩
  · simp at hn
    subst hn
    exact ⟨none, 0, rfl, fun i k hk => by simp at hk⟩
  · refine ⟨some ⟨g, 0, none⟩, cap, by simp, fun i k hk => ⟨g, rfl, hg, ?_⟩⟩
    have hi : i < ks.length := (List.getElem?_eq_some_iff.1 hk).1
    have e : cur[i]? = some (.string (bs k.name)) := by
      have := congrArg (·[i]?) h4
      simp only [List.getElem?_take, List.getElem?_map, hk, Option.map_some] at this
      rw [if_pos (by simp; omega)] at this
      simpa using this
    simp [World.cell?, hc, e]

/-- The slice is a row of its own, in a block from base on. -/
def OwnRow (base : Nat) (w : World) (v : Value) (fs : List Int) : Prop := ∃ b, base ≤ b ∧ w.ownsRow b 3 1 v fs.length (fs.map fun x => Value.int .i64 x)

/-- The slice's room is no less than its length. -/
def CapOk (v : Value) : Prop := ∀ p n c, v = .slice p n c → n ≤ c

set_option maxHeartbeats 3200000 in
set_option maxRecDepth 20000 in
theorem make_own (op : Int) (slv : Value) (ns : List Int) (w : World) (hS : SliceIs w slv ns) :
    Calls Tryd.prog 6 #[.int .i64 op, slv] w fun e w' => ∃ v, e = .returned (.agg #[.int .i64 (op % 66), v]) ∧ NewSlice w.heap.size w' v (makeF op ns) ∧ Below w.heap.size w w' ∧ CapOk v ∧ OwnRow w.heap.size w' v (makeF op ns) := by
  have hb0 : Below w.heap.size w (w.alloc (.cells #[.int .i64 0, .slice none 0 0] 28)) := (Below.refl _ _).alloc (Nat.le_refl _) _
  have c1 := new_cell (w := w) (t := 28) #[.int .i64 0, .slice none 0 0] 0 (.int .i64 0) rfl
  have c2 := new_cell (w := w) (t := 28) #[.int .i64 0, .slice none 0 0] 1 (.slice none 0 0) rfl
  have g0 := new_thawed (w := w) (t := 28) #[.int .i64 0, .slice none 0 0] 0
  have g1 := new_thawed (w := w) (t := 28) #[.int .i64 0, .slice none 0 0] 1
  have hz : w.heap.size < (w.alloc (.cells #[.int .i64 0, .slice none 0 0] 28)).heap.size := by simp
  have hX : (w.alloc (.cells #[.int .i64 0, .slice none 0 0] 28)).heap.size = w.heap.size + 1 := by simp
  have hwd := rows_words _ (rowP_mem (op % 66))
  obtain ⟨_, _, hk100, hn3, _, _⟩ := rows_fields _ (rowP_mem (op % 66))
  obtain ⟨pn, capn, rfl, hNs⟩ := hS
  have Kd := fun W => refKinds_any (op % 66) W
  have Wd := fun W => words_any (rowP (op % 66)).kinds (by omega) W
  rw [hwd] at Wd
  have Wi := fun W => within_any op 66 (by omega) (by omega) W
  unfold makeF
  generalize (rowP (op % 66)).kinds = kt at *
  generalize (rowP (op % 66)).ks = ks at *
  generalize op % 66 = q at *
  go_enter Tryd.func6, Tryd.ntmps6
  go_wp2_with (go_at_call 7; refine (Wi _).mono ?_; rintro e w' ⟨rfl, rfl⟩)
  clear Wi
  generalize w.alloc (.cells #[.int .i64 0, .slice none 0 0] 28) = w2 at *
  rw [← hX]
  clear hX
  have hbX : Below w.heap.size w (w2.alloc (.cells #[.int .i64 q, .slice none 0 0] 28)) := hb0.alloc hb0.size _
  have d0 := new_cell (w := w2) (t := 28) #[.int .i64 q, .slice none 0 0] 0 (.int .i64 q) rfl
  have d1 := new_cell (w := w2) (t := 28) #[.int .i64 q, .slice none 0 0] 1 (.slice none 0 0) rfl
  have e1 := new_thawed (w := w2) (t := 28) #[.int .i64 q, .slice none 0 0] 1
  have c1 := kept_alloc (o := .cells #[.int .i64 q, .slice none 0 0] 28) c1
  have c2 := kept_alloc (o := .cells #[.int .i64 q, .slice none 0 0] 28) c2
  have g0 := kept_thawed ((Below.refl _ _).alloc (Nat.le_refl _) (.cells #[.int .i64 q, .slice none 0 0] 28)) hz g0
  have g1 := kept_thawed ((Below.refl _ _).alloc (Nat.le_refl _) (.cells #[.int .i64 q, .slice none 0 0] 28)) hz g1
  have hX2 : (w2.alloc (.cells #[.int .i64 q, .slice none 0 0] 28)).heap.size = w2.heap.size + 1 := by simp
  generalize w2.alloc (.cells #[.int .i64 q, .slice none 0 0] 28) = wA at *
  refine (Kd _).mono ?_
  rintro e wB ⟨rfl, hwB⟩
  go_wp2_with fail
  refine (Wd _).mono ?_
  rintro e w3 ⟨tv, rfl, hTx, hwC⟩
  obtain ⟨tp, tcap, rfl, hT⟩ := texts_form hTx
  have hw3 : Below wA.heap.size wA w3 := hwB.trans (hwC.mono hwB.size)
  have c1 := kept_cell hw3 c1
  have c2 := kept_cell hw3 c2
  have d0 := kept_cell hw3 d0
  have d1 := kept_cell hw3 d1
  have g0 := kept_thawed hw3 (show w.heap.size < wA.heap.size by omega) g0
  have g1 := kept_thawed hw3 (show w.heap.size < wA.heap.size by omega) g1
  have e1 := kept_thawed hw3 (show w2.heap.size < wA.heap.size by omega) e1
  have hb3 := hbX.trans (hw3.mono hbX.size)
  have hX3 : w2.heap.size < w3.heap.size := by have := hw3.size; omega
  have hBs : w2.heap.size < wB.heap.size := by have := hwB.size; omega
  clear hw3 hX2 hbX Kd Wd hTx hwB hwC hwd
  generalize w2.heap.size = X at *
  have hwX : w.heap.size < X := hz
  go_wp2
  go_loopw [7] (fun i wr => ∃ (j : Nat) (sl : Value), j ≤ ks.length ∧ i = .int .i64 j ∧ w3.grownBy wr (some X) ∧ wr.cell? ⟨X, 0, none⟩ = some (.int .i64 q) ∧ wr.cell? ⟨X, 1, none⟩ = some sl ∧ wr.frozen? ⟨X, 1, none⟩ = false ∧
      wr.ownsRow w3.heap.size 3 1 sl j (((opds ns 0 ks).take j).map fun v => Value.int .i64 v)) (fun i _ => ks.length - (intOf i).toNat)
  case atStart => exact ⟨0, .slice none 0 0, by omega, rfl, World.grownBy.refl _ _, d0, d1, e1, by simp, .inl ⟨rfl, rfl⟩⟩
  case round =>
    obtain ⟨j, sl, hj, rfl, hgr, x0c, x1c, xth, hown⟩ := hrel
    by_cases hjn : j < ks.length
    · obtain ⟨k, hk⟩ : ∃ k, ks[j]? = some k := ⟨_, List.getElem?_eq_getElem hjn⟩
      obtain ⟨gt, rfl, hgt, htc⟩ := hT j k hk
      have n1 := hgr.cell htc (by simp; omega)
      have hop := opds_get ns 0 j ks k hk
      rw [Nat.zero_add] at hop
      have htk : Hid (((opds ns 0 ks).take (j + 1)).map (fun v => Value.int .i64 v) = ((opds ns 0 ks).take j).map (fun v => Value.int .i64 v) ++ [.int .i64 (k.opd (ns.getD j (j : Nat)))]) := by
        show _ = _
        rw [List.take_add_one, hop]
        simp
      have Oc := fun W => operand_any k (ns.getD j (j : Nat)) W
      rw [show (⟨k.name.toArray⟩ : ByteArray) = bs k.name from rfl] at Oc
      have hXr : X < wr.heap.size := Nat.lt_of_lt_of_le hX3 hgr.size
      have nX : sl.ownBlock ≠ some X := fun e => by have := (hown.lt _ e).1; omega
      have hX5d : X < wr.drew.heap.size := hXr
      have hb35 : w3.heap.size ≤ wr.drew.heap.size := hgr.size
      have hown5d := hown.drew
      have th5d : wr.drew.frozen? ⟨X, 1, none⟩ = false := xth
      have x1d : wr.drew.cell? ⟨X, 1, none⟩ = some sl := x1c
      have x0d : wr.drew.cell? ⟨X, 0, none⟩ = some (.int .i64 q) := x0c
      have gdrew : wr.grownBy wr.drew (some X) := ⟨rfl, rfl, rfl, Nat.le_refl _, fun _ _ _ => rfl⟩
      have hob : ∀ b, sl.ownBlock = some b → w3.heap.size ≤ b := fun b e => (hown.lt b e).1
      have hnone : sl.ownBlock = none ∨ sl.ownBlock ≠ none := by cases sl.ownBlock <;> simp
      obtain ⟨i0, hi0, hz0, hz2, hz3⟩ := info_parts info_int
      have hjI : (j : Int) < (ks.length : Int) := by omega
      clear hop hT htc hk
      generalize hy : k.opd (ns.getD j (j : Nat)) = y at *
      clear hy
      generalize bs k.name = kn at *
      by_cases hjs : j < ns.length
      · obtain ⟨x, hx⟩ : ∃ x, ns[j]? = some x := ⟨_, List.getElem?_eq_getElem hjs⟩
        obtain ⟨nb, no, rfl, hNc⟩ := hNs (by rintro rfl; simp at hx)
        have hnb := block_lt_of_cell (hNc j x hx)
        have nsc := hgr.cell (kept_cell hb3 (hNc j x hx)) (by simp at hnb ⊢; omega)
        have hgd : ns.getD j ((j : Nat) : Int) = x := by rw [List.getD_eq_getElem?_getD, hx]; rfl
        rw [hgd] at Oc
        have hjs' : (j : Int) < (ns.length : Int) := by omega
        clear hgd hx hNc hNs
        go_wp2_with fail
        go_region_law
          (first
            | (refine step_enter (v := .int .i64 y) ?_ ?_ (Oc _) ?_; (rfl); (simp [execOp, Act.eval, go_sem, Tryd.func21]); intro wc hwc; have x1d := kept_cell hwc x1d; have hXc : X < wc.heap.size := Nat.lt_of_lt_of_le hX5d hwc.size)
            | (refine step_append_lies _ (by rfl) _ _ _ (by rfl) w3.heap.size 3 i0 _ 1 8 Tryd.underlying23 hi0 hz0 hz2 hz3 rfl (by omega) sl j _ (by rfl) ((hown5d.kept (grown_of_below hwc none) hnone).alloc _)
                ⟨wc.heap.size, 0, none⟩ 1 1 [.int .i64 y] (by rfl) (by rfl) (World.news_of_block (cs := #[.int .i64 y]) (t := 3) (fr := (0, 0)) (heap_alloc_new wc _)) (by simp [Value.oneCell']) (by omega) (by unfold maxLen; omega) (by omega) (Nat.le_trans hb35 (Nat.le_trans hwc.size (by simp))) (wc.heap.size + 1) (by simp) ?_; intro gg cap w6 hown6 hgrow hat hlt6; have x6 := hgrow.cell (kept_alloc x1d) (Ne.symm nX); have hsz1 : wc.heap.size ≤ (wc.alloc (.cells #[.int .i64 y] 3)).heap.size := (by simp); have th6 : w6.frozen? ⟨X, 1, none⟩ = false := (hgrow.frozen_far ⟨X, 1, none⟩ (Nat.lt_of_lt_of_le hX5d (Nat.le_trans hwc.size hsz1)) (Ne.symm nX)).trans (kept_thawed ((Below.refl _ _).alloc (Nat.le_refl _) _) (Nat.lt_of_lt_of_le hX5d hwc.size) (kept_thawed hwc hX5d th5d))))
        all_goals
          have x06 := hgrow.cell (kept_alloc (kept_cell hwc x0d)) (Ne.symm nX)
          have gr6 : w3.grownBy (w6.setCell ⟨X, 1, none⟩ (.slice (some ⟨gg, 0, none⟩) (j + 1) cap)) (some X) :=
            (grown_then (((hgr.trans gdrew).trans (grown_of_below hwc _)).trans (grown_of_below ((Below.refl _ _).alloc (Nat.le_refl _) _) _)) hgrow hob).trans (grown_set _ _ _)
          have ow6 := ownsRow_setCell_below hown6 (a := ⟨X, 1, none⟩) hX3 (.slice (some ⟨gg, 0, none⟩) (j + 1) cap)
          rw [← htk.out] at ow6
          have xx0 : (w6.setCell ⟨X, 1, none⟩ (.slice (some ⟨gg, 0, none⟩) (j + 1) cap)).cell? ⟨X, 0, none⟩ = some (.int .i64 q) := set_far x06
          have xx1 : (w6.setCell ⟨X, 1, none⟩ (.slice (some ⟨gg, 0, none⟩) (j + 1) cap)).cell? ⟨X, 1, none⟩ = some (.slice (some ⟨gg, 0, none⟩) (j + 1) cap) := set_same x6
          have xt1 : (w6.setCell ⟨X, 1, none⟩ (.slice (some ⟨gg, 0, none⟩) (j + 1) cap)).frozen? ⟨X, 1, none⟩ = false := set_thawed th6
          clear hown6 hgrow hwc hat x1d hown5d hown hgr Oc
          generalize w6.setCell ⟨X, 1, none⟩ (.slice (some ⟨gg, 0, none⟩) (j + 1) cap) = W7 at *
          go_wp2
          go_roundw
          case rel => exact ⟨j + 1, _, by omega, by go_num, gr6, xx0, xx1, xt1, ow6⟩
          case measure => simp [intOf]; omega
      · have hgd : ns.getD j ((j : Nat) : Int) = (j : Int) := by rw [List.getD_eq_getElem?_getD, List.getElem?_eq_none (by omega)]; rfl
        rw [hgd] at Oc
        clear hgd
        go_wp2_with fail
        go_region_law
          (first
            | (refine step_enter (v := .int .i64 y) ?_ ?_ (Oc _) ?_; (rfl); (simp [execOp, Act.eval, go_sem, Tryd.func21]); intro wc hwc; have x1d := kept_cell hwc x1d; have hXc : X < wc.heap.size := Nat.lt_of_lt_of_le hX5d hwc.size)
            | (refine step_append_lies _ (by rfl) _ _ _ (by rfl) w3.heap.size 3 i0 _ 1 8 Tryd.underlying23 hi0 hz0 hz2 hz3 rfl (by omega) sl j _ (by rfl) ((hown5d.kept (grown_of_below hwc none) hnone).alloc _)
                ⟨wc.heap.size, 0, none⟩ 1 1 [.int .i64 y] (by rfl) (by rfl) (World.news_of_block (cs := #[.int .i64 y]) (t := 3) (fr := (0, 0)) (heap_alloc_new wc _)) (by simp [Value.oneCell']) (by omega) (by unfold maxLen; omega) (by omega) (Nat.le_trans hb35 (Nat.le_trans hwc.size (by simp))) (wc.heap.size + 1) (by simp) ?_; intro gg cap w6 hown6 hgrow hat hlt6; have x6 := hgrow.cell (kept_alloc x1d) (Ne.symm nX); have hsz1 : wc.heap.size ≤ (wc.alloc (.cells #[.int .i64 y] 3)).heap.size := (by simp); have th6 : w6.frozen? ⟨X, 1, none⟩ = false := (hgrow.frozen_far ⟨X, 1, none⟩ (Nat.lt_of_lt_of_le hX5d (Nat.le_trans hwc.size hsz1)) (Ne.symm nX)).trans (kept_thawed ((Below.refl _ _).alloc (Nat.le_refl _) _) (Nat.lt_of_lt_of_le hX5d hwc.size) (kept_thawed hwc hX5d th5d))))
        all_goals
          have x06 := hgrow.cell (kept_alloc (kept_cell hwc x0d)) (Ne.symm nX)
          have gr6 : w3.grownBy (w6.setCell ⟨X, 1, none⟩ (.slice (some ⟨gg, 0, none⟩) (j + 1) cap)) (some X) :=
            (grown_then (((hgr.trans gdrew).trans (grown_of_below hwc _)).trans (grown_of_below ((Below.refl _ _).alloc (Nat.le_refl _) _) _)) hgrow hob).trans (grown_set _ _ _)
          have ow6 := ownsRow_setCell_below hown6 (a := ⟨X, 1, none⟩) hX3 (.slice (some ⟨gg, 0, none⟩) (j + 1) cap)
          rw [← htk.out] at ow6
          have xx0 : (w6.setCell ⟨X, 1, none⟩ (.slice (some ⟨gg, 0, none⟩) (j + 1) cap)).cell? ⟨X, 0, none⟩ = some (.int .i64 q) := set_far x06
          have xx1 : (w6.setCell ⟨X, 1, none⟩ (.slice (some ⟨gg, 0, none⟩) (j + 1) cap)).cell? ⟨X, 1, none⟩ = some (.slice (some ⟨gg, 0, none⟩) (j + 1) cap) := set_same x6
          have xt1 : (w6.setCell ⟨X, 1, none⟩ (.slice (some ⟨gg, 0, none⟩) (j + 1) cap)).frozen? ⟨X, 1, none⟩ = false := set_thawed th6
          clear hown6 hgrow hwc hat x1d hown5d hown hgr Oc
          generalize w6.setCell ⟨X, 1, none⟩ (.slice (some ⟨gg, 0, none⟩) (j + 1) cap) = W7 at *
          go_wp2
          go_roundw
          case rel => exact ⟨j + 1, _, by omega, by go_num, gr6, xx0, xx1, xt1, ow6⟩
          case measure => simp [intOf]; omega
    · have hjn : j = ks.length := by omega
      subst hjn
      rw [List.take_of_length_le (by rw [opds_length]; exact Nat.le_refl _)] at hown
      have hl := opds_length ns 0 ks
      have a1 := hgr.cell c1 (by simp; omega)
      have a2 := hgr.cell c2 (by simp; omega)
      have t0 := (hgr.frozen_far ⟨w.heap.size, 0, none⟩ (by show w.heap.size < w3.heap.size; omega) (by simp; omega)).trans g0
      have t1 := (hgr.frozen_far ⟨w.heap.size, 1, none⟩ (by show w.heap.size < w3.heap.size; omega) (by simp; omega)).trans g1
      have hbw : Below w.heap.size w wr := ⟨hgr.os.trans hb3.os, hgr.tape.trans hb3.tape, hgr.output.trans hb3.output, Nat.le_trans hb3.size hgr.size, fun k hk => (hgr.block k (by omega) (by simp; omega)).trans (hb3.block k hk)⟩
      have hAX : w.heap.size ≠ X := by omega
      have rowEnd : ∀ u v, NewSlice w.heap.size ((wr.setCell ⟨w.heap.size, 0, none⟩ u).setCell ⟨w.heap.size, 1, none⟩ v) sl (opds ns 0 ks) := by
        intro u v
        have h2 := ownsRow_setCell_below hown (a := ⟨w.heap.size, 0, none⟩) (by show w.heap.size < w3.heap.size; omega) u
        have h3 := ownsRow_setCell_below h2 (a := ⟨w.heap.size, 1, none⟩) (by show w.heap.size < w3.heap.size; omega) v
        rw [← hl] at h3
        exact new_of_row (base := w3.heap.size) (by omega) h3
      have ownEnd : ∀ u v, OwnRow w.heap.size ((wr.setCell ⟨w.heap.size, 0, none⟩ u).setCell ⟨w.heap.size, 1, none⟩ v) sl (opds ns 0 ks) := by
        intro u v
        have h2 := ownsRow_setCell_below hown (a := ⟨w.heap.size, 0, none⟩) (by show w.heap.size < w3.heap.size; omega) u
        have h3 := ownsRow_setCell_below h2 (a := ⟨w.heap.size, 1, none⟩) (by show w.heap.size < w3.heap.size; omega) v
        rw [← hl] at h3
        exact ⟨w3.heap.size, by omega, h3⟩
      have belowEnd : ∀ u v, Below w.heap.size w ((wr.setCell ⟨w.heap.size, 0, none⟩ u).setCell ⟨w.heap.size, 1, none⟩ v) := fun u v => (hbw.setCell (Nat.le_refl _) _).setCell (Nat.le_refl _) _
      obtain ⟨ps, pl, pc, rfl, hcap⟩ : ∃ ps pl pc, sl = .slice ps pl pc ∧ pl ≤ pc := by
        obtain ⟨_, h⟩ := hown
        rcases h with ⟨rfl, _⟩ | ⟨g, cap, cur, rfl, _, _, hle, _⟩
        · exact ⟨_, _, _, rfl, Nat.le_refl _⟩
        · exact ⟨_, _, _, rfl, hle⟩
      have hcap' : CapOk (.slice ps pl pc) := fun p n c h => by cases h; exact hcap
      clear hown hgr hbw hb3 c1 c2 g0 g1 hT hNs d0 d1 e1 xth hl
      go_wp2
      exact bodyPost_ret (v := .agg #[.int .i64 q, .slice ps pl pc]) (by simp [results, Tryd.results6, go_sem, a1, a2]) rfl ⟨_, rfl, rowEnd _ _, belowEnd _ _, hcap', ownEnd _ _⟩

theorem make_cap (op : Int) (slv : Value) (ns : List Int) (w : World) (hS : SliceIs w slv ns) :
    Calls Tryd.prog 6 #[.int .i64 op, slv] w fun e w' => ∃ v, e = .returned (.agg #[.int .i64 (op % 66), v]) ∧ NewSlice w.heap.size w' v (makeF op ns) ∧ Below w.heap.size w w' ∧ CapOk v :=
  (make_own op slv ns w hS).mono fun e w' ⟨v, h1, h2, h3, h4, _⟩ => ⟨v, h1, h2, h3, h4⟩

theorem make_any (op : Int) (slv : Value) (ns : List Int) (w : World) (hS : SliceIs w slv ns) :
    Calls Tryd.prog 6 #[.int .i64 op, slv] w fun e w' => ∃ v, e = .returned (.agg #[.int .i64 (op % 66), v]) ∧ NewSlice w.heap.size w' v (makeF op ns) ∧ Below w.heap.size w w' :=
  (make_cap op slv ns w hS).mono fun e w' ⟨v, h1, h2, h3, _⟩ => ⟨v, h1, h2, h3⟩
end Go.Proofs.YtnmclpphiajleaaDoor
