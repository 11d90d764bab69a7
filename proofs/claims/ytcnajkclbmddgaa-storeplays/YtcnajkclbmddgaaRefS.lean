/- The reference's store in memory: a list of versions, a list of pins; its calls. -/
import Derived.Test.YtcnajkclbmddgaaLawsP
import Derived.Test.YtcnajkclbmddgaaStoI
import Derived.Deep.DeepAppendRoom
import Derived.BigQuiet
namespace Go.Proofs.Ytcnajkclbmddgaa
open Go.ChangeShapes Go.WideShapes Go.ChangeAt Go.RowKit
set_option linter.unusedVariables false
set_option linter.unusedSimpArgs false

def encR : List Ver → List Value
  | [] => []
  | x :: l => .string x.w.key :: .string x.w.val :: .bool x.w.gone :: .int .i64 x.at' :: encR l
theorem encR_len : ∀ l, (encR l).length = l.length * 4
  | [] => rfl
  | x :: l => by simp [encR, encR_len l]; omega
theorem encR_append : ∀ l m, encR (l ++ m) = encR l ++ encR m
  | [], m => rfl
  | x :: l, m => by simp [encR, encR_append l m]
theorem encR_get : ∀ (l : List Ver) (j : Nat) (x : Ver), l[j]? = some x → (encR l)[j * 4]? = some (.string x.w.key) ∧ (encR l)[j * 4 + 1]? = some (.string x.w.val) ∧ (encR l)[j * 4 + 2]? = some (.bool x.w.gone) ∧ (encR l)[j * 4 + 3]? = some (.int .i64 x.at')
  | [], j, x, h => by simp at h
  | y :: l, 0, x, h => by simp at h; subst h; simp [encR]
  | y :: l, j + 1, x, h => by
    have := encR_get l j x (by simpa using h)
    rw [show (j + 1) * 4 = j * 4 + 4 by omega, show j * 4 + 4 + 1 = j * 4 + 1 + 4 by omega, show j * 4 + 4 + 2 = j * 4 + 2 + 4 by omega, show j * 4 + 4 + 3 = j * 4 + 3 + 4 by omega]
    simpa [encR] using this

structure RefAt (w : World) (q : Nat) (v pv : Value) (s : Sto) : Prop where
  blk : Blk w q #[.int .i64 s.all, .int .i64 s.stamp, v, pv] 42
  rv : w.ownsRow 0 66 4 v s.v.length (encR s.v)
  rp : w.ownsRow 0 3 1 pv s.p.length (s.p.map (Value.int .i64))
  qv : v.ownBlock ≠ some q
  qp : pv.ownBlock ≠ some q
  vp : ∀ g, v.ownBlock = some g → pv.ownBlock ≠ some g
  few : s.v.length < 1000000

theorem RefAt.frame {w w' : World} {q : Nat} {v pv : Value} {s : Sto} (R : RefAt w q v pv s) (h : ∀ k, k = q ∨ v.ownBlock = some k ∨ pv.ownBlock = some k → w'.heap[k]? = w.heap[k]?) : RefAt w' q v pv s :=
  ⟨R.blk.of_block (h q (.inl rfl)), row_thru R.rv (fun g hg => h g (.inr (.inl hg))), row_thru R.rp (fun g hg => h g (.inr (.inr hg))), R.qv, R.qp, R.vp, R.few⟩
theorem RefAt.lt {w : World} {q : Nat} {v pv : Value} {s : Sto} (R : RefAt w q v pv s) : ∀ k, k = q ∨ v.ownBlock = some k ∨ pv.ownBlock = some k → k < w.heap.size := by
  rintro k (rfl | h | h)
  · exact R.blk.lt
  · exact (R.rv.lt k h).2
  · exact (R.rp.lt k h).2
theorem RefAt.later {w w' : World} {q : Nat} {v pv : Value} {s : Sto} (R : RefAt w q v pv s) (hb : Below w.heap.size w w') : RefAt w' q v pv s := R.frame (fun k hk => hb.block k (R.lt k hk))

theorem toList_ne {a b : ByteArray} (h : ¬ a = b) : (a.toList == b.toList) = false := by
  rw [ByteArray.toList_eq, ByteArray.toList_eq]
  have : a.data.toList ≠ b.data.toList := fun e => h (by
    cases a; cases b
    congr 1
    exact Array.toList_inj.1 e)
  simpa using this

theorem rnow_any (q : Nat) (v pv : Value) (s : Sto) (w : World) (R : RefAt w q v pv s) : Calls Try.prog 18 #[.pointer (some ⟨q, 0, none⟩)] w fun e w' => e = .returned (.int .i64 s.stamp) ∧ w' = w := by
  have c1 := R.blk.cell (i := 1) (v := .int .i64 s.stamp) rfl
  clear R
  go_enter Try.func18, Try.ntmps18
  go_wp2_with fail
  go_ret
  exact ⟨rfl, rfl⟩

theorem rcount_any (q : Nat) (v pv : Value) (s : Sto) (w : World) (R : RefAt w q v pv s) : Calls Try.prog 38 #[.pointer (some ⟨q, 0, none⟩)] w fun e w' => e = .returned (.int .i64 (s.v.length : Nat)) ∧ w' = w := by
  have c1 := R.blk.cell (i := 2) (v := v) rfl
  obtain ⟨a, c, hv⟩ := own_slice R.rv
  subst hv
  clear R
  generalize s.v.length = ln at *
  go_enter Try.func38, Try.ntmps38
  go_wp2_with fail
  go_ret
  exact ⟨rfl, rfl⟩

set_option maxHeartbeats 800000 in
theorem rnew_any (lim : Int) (w : World) : Calls Try.prog 12 #[.int .i64 lim] w fun e w' => e = .returned (.pointer (some ⟨w.heap.size, 0, none⟩)) ∧ RefAt w' w.heap.size (.slice none 0 0) (.slice none 0 0) ⟨lim, 0, [], []⟩ ∧ Below w.heap.size w w' := by
  go_enter Try.func12, Try.ntmps12
  go_wp2_with fail
  go_ret
  exact ⟨rfl, ⟨Blk.new w _ _, World.ownsRow_nil _ _ _ _, World.ownsRow_nil _ _ _ _, fun h => (by cases h), fun h => (by cases h), fun g h => (by cases h), by show (0 : Nat) < 1000000; omega⟩, below_new w _⟩

/-- Versions in a slice. -/
theorem own_vers {w : World} {v : Value} {l : List Ver} (h : w.ownsRow 0 66 4 v l.length (encR l)) : ∃ a c, v = .slice a l.length c ∧ ∀ j x, l[j]? = some x → ∃ g, a = some ⟨g, 0, none⟩ ∧ w.cell? ⟨g, j * 4, none⟩ = some (.string x.w.key) ∧ w.cell? ⟨g, j * 4 + 1, none⟩ = some (.string x.w.val) ∧ w.cell? ⟨g, j * 4 + 2, none⟩ = some (.bool x.w.gone) ∧ w.cell? ⟨g, j * 4 + 3, none⟩ = some (.int .i64 x.at') := by
  obtain ⟨a, c, rfl⟩ := own_slice h
  refine ⟨a, c, rfl, fun j x hx => ?_⟩
  have hj := (List.getElem?_eq_some_iff.1 hx).1
  obtain ⟨g, cap, hvv, -, -⟩ := h.form (by omega)
  injection hvv with e1 e2 e3
  subst e1
  obtain ⟨e1, e2, e3, e4⟩ := encR_get l j x hx
  have b1 := h.cells (g := g) rfl _ _ e1
  have b2 := h.cells (g := g) rfl _ _ e2
  have b3 := h.cells (g := g) rfl _ _ e3
  have b4 := h.cells (g := g) rfl _ _ e4
  rw [cell_add, Nat.zero_add] at b1 b2 b3 b4
  exact ⟨g, rfl, b1, b2, b3, b4⟩

set_option maxHeartbeats 1600000 in
set_option maxRecDepth 20000 in
theorem rnewest_any (q : Nat) (v pv : Value) (s : Sto) (key : ByteArray) (t : Int) (w : World) (R : RefAt w q v pv s) :
    Calls Try.prog 37 #[.pointer (some ⟨q, 0, none⟩), .string key, .int .i64 t] w fun e w' => e = .returned (.int .i64 (bestP key t s.v s.v.length)) ∧ w' = w := by
  have c2 := R.blk.cell (i := 2) (v := v) rfl
  obtain ⟨a, c, hv, hcell⟩ := own_vers R.rv
  replace hcell : Hid _ := hcell
  have hfew : Hid (s.v.length < 1000000) := R.few
  subst hv
  clear R
  generalize s.v = l at *
  generalize hln : l.length = ln at *
  replace hln : Hid (l.length = ln) := hln
  go_enter Try.func37, Try.ntmps37
  go_wp2_with fail
  go_loopg [7, 8] ln (fun kx s7 s8 wr => ∃ i : Nat, s8 = .int .i64 i ∧ s7 = .int .i64 (bestP key t l i) ∧ i ≤ ln ∧ ln - i ≤ kx ∧ Hid (wr = w))
  case atStart => exact ⟨0, rfl, rfl, Nat.zero_le _, by omega, (rfl : w = w)⟩
  case round =>
    obtain ⟨i, rfl, rfl, hi, hg, hw⟩ := hrel
    obtain rfl := hw.out
    clear hw
    by_cases hin : i < ln
    · have hinI : (i : Int) < (ln : Int) := by omega
      have hi0 : (0 : Int) ≤ (i : Int) := by omega
      obtain ⟨x, hx⟩ : ∃ x, l[i]? = some x := ⟨_, List.getElem?_eq_getElem (by rw [hln.out]; exact hin)⟩
      obtain ⟨g, rfl, d0, -, -, d3⟩ := hcell.out i x hx
      have hst : Hid (bestP key t l (i + 1) = if x.hit key t then (i : Int) else bestP key t l i) := best_step hx
      have HF : Hid (i < ln ∧ ln - i ≤ gk ∧ i < 1000000) := ⟨hin, hg, by have := hfew.out; exact (by omega : i < 1000000)⟩
      clear hi hg hin hcell hx
      generalize bestP key t l i = bi at *
      by_cases hk : x.w.key = key
      · rw [hk] at d0
        by_cases ht : x.at' ≤ t
        · have hb : Hid (bestP key t l (i + 1) = (i : Int)) := hst.out.trans (by simp [Ver.hit, hk, ht])
          clear hst hk
          go_wp2_with fail
          obtain ⟨f1, f2, f3⟩ := HF.out
          clear d0 d3
          go_roundg (ln - (i + 1))
          case rel => exact ⟨i + 1, by rw [IntWalk.wrap64_in _ (by omega)]; rfl, by rw [hb.out], by omega, Nat.le_refl _, (rfl : wr = wr)⟩
          case measure => omega
        · have hb : Hid (bestP key t l (i + 1) = bi) := hst.out.trans (by simp [Ver.hit, hk, ht])
          clear hst hk
          go_wp2_with fail
          obtain ⟨f1, f2, f3⟩ := HF.out
          clear d0 d3
          go_roundg (ln - (i + 1))
          case rel => exact ⟨i + 1, by rw [IntWalk.wrap64_in _ (by omega)]; rfl, by rw [hb.out], by omega, Nat.le_refl _, (rfl : wr = wr)⟩
          case measure => omega
      · have hb : Hid (bestP key t l (i + 1) = bi) := hst.out.trans (by simp [Ver.hit, hk])
        have hne := toList_ne hk
        clear hst hk
        go_wp2_with fail
        obtain ⟨f1, f2, f3⟩ := HF.out
        clear d0 d3
        go_roundg (ln - (i + 1))
        case rel => exact ⟨i + 1, by rw [IntWalk.wrap64_in _ (by omega)]; rfl, by rw [hb.out], by omega, Nat.le_refl _, (rfl : wr = wr)⟩
        case measure => omega
    · obtain rfl : i = ln := by omega
      have hinI : ¬ ((i : Int) < (i : Int)) := by omega
      clear hi hg hin hcell
      go_wp2_with fail
      go_ret
      exact ⟨rfl, rfl⟩

set_option maxHeartbeats 1600000 in
set_option maxRecDepth 20000 in
theorem rread_any (q : Nat) (v pv : Value) (s : Sto) (key : ByteArray) (t : Int) (w : World) (R : RefAt w q v pv s) :
    Calls Try.prog 26 #[.pointer (some ⟨q, 0, none⟩), .string key, .int .i64 t] w fun e w' => e = .returned (.tuple #[.string (readP s key t).1, .bool (readP s key t).2]) ∧ w' = w := by
  have NW := rnewest_any q v pv s key t w R
  have c2 := R.blk.cell (i := 2) (v := v) rfl
  obtain ⟨a, c, hv, hcell⟩ := own_vers R.rv
  have hb := best_all key t s.v
  have hfew : Hid (s.v.length < 1000000) := R.few
  obtain ⟨rv, hrv⟩ : ∃ rv, readP s key t = rv := ⟨_, rfl⟩
  have hrd : readP s key t = match lastP key t s.v with
    | some x => if x.w.gone then (ByteArray.empty, false) else (x.w.val, true)
    | none => (ByteArray.empty, false) := rfl
  rw [hrv] at hrd ⊢
  subst hv
  rcases hb with ⟨h1, h2⟩ | ⟨k, x, h1, h2, h3, h4⟩
  · rw [h2] at hrd
    rw [h1] at NW
    simp only at hrd
    subst hrd
    clear hcell R hrv h1 h2
    generalize s.v.length = ln at *
    go_enter Try.func26, Try.ntmps26
    go_wp2_with fail
    refine NW.mono ?_
    rintro e w1 ⟨rfl, rfl⟩
    clear NW
    go_wp2_with fail
    exact bodyPost_ret (v := .tuple #[.string ⟨#[]⟩, .bool false]) (by simp [results, Try.results26, go_sem]) rfl ⟨rfl, rfl⟩
  · rw [h4] at hrd
    rw [h2] at NW
    obtain ⟨g, rfl, d0, d1, d2, d3⟩ := hcell k x h3
    have hkI : (k : Int) < (s.v.length : Int) := by omega
    have hk0 : (0 : Int) ≤ (k : Int) := by omega
    simp only at hrd
    clear hcell R hrv h1 h2 h3 h4
    generalize s.v.length = ln at *
    cases hg : x.w.gone with
    | true =>
      rw [hg] at hrd d2
      simp only [if_true] at hrd
      subst hrd
      clear hg
      go_enter Try.func26, Try.ntmps26
      go_wp2_with fail
      refine NW.mono ?_
      rintro e w1 ⟨rfl, rfl⟩
      clear NW
      go_wp2_with fail
      exact bodyPost_ret (v := .tuple #[.string ⟨#[]⟩, .bool false]) (by simp [results, Try.results26, go_sem]) rfl ⟨rfl, rfl⟩
    | false =>
      rw [hg] at hrd d2
      simp only [Bool.false_eq_true, if_false] at hrd
      subst hrd
      clear hg
      go_enter Try.func26, Try.ntmps26
      go_wp2_with fail
      refine NW.mono ?_
      rintro e w1 ⟨rfl, rfl⟩
      clear NW
      go_wp2_with fail
      exact bodyPost_ret (v := .tuple #[.string x.w.val, .bool true]) (by simp [results, Try.results26, go_sem]) rfl ⟨rfl, rfl⟩

set_option maxHeartbeats 1600000 in
set_option maxRecDepth 20000 in
theorem rchanged_any (q : Nat) (v pv : Value) (s : Sto) (key : ByteArray) (t : Int) (w : World) (R : RefAt w q v pv s) :
    Calls Try.prog 28 #[.pointer (some ⟨q, 0, none⟩), .string key, .int .i64 t] w fun e w' => e = .returned (.bool (changedP s key t)) ∧ w' = w := by
  have NW := rnewest_any q v pv s key s.stamp w R
  have c1 := R.blk.cell (i := 1) (v := .int .i64 s.stamp) rfl
  have c2 := R.blk.cell (i := 2) (v := v) rfl
  obtain ⟨a, c, hv, hcell⟩ := own_vers R.rv
  have hb := best_all key s.stamp s.v
  have hfew : Hid (s.v.length < 1000000) := R.few
  have hrd : changedP s key t = match lastP key s.stamp s.v with
    | some x => decide (t < x.at')
    | none => false := rfl
  generalize changedP s key t = rv at *
  subst hv
  rcases hb with ⟨h1, h2⟩ | ⟨k, x, h1, h2, h3, h4⟩
  · rw [h2] at hrd
    rw [h1] at NW
    simp only at hrd
    subst hrd
    clear hcell R h1 h2
    generalize s.v.length = ln at *
    go_enter Try.func28, Try.ntmps28
    go_wp2_with fail
    refine NW.mono ?_
    rintro e w1 ⟨rfl, rfl⟩
    clear NW
    go_wp2_with fail
    go_ret
    exact ⟨rfl, rfl⟩
  · rw [h4] at hrd
    rw [h2] at NW
    obtain ⟨g, rfl, d0, d1, d2, d3⟩ := hcell k x h3
    have hkI : (k : Int) < (s.v.length : Int) := by omega
    have hk0 : (0 : Int) ≤ (k : Int) := by omega
    simp only at hrd
    subst hrd
    clear hcell R h1 h2 h3 h4
    generalize s.v.length = ln at *
    go_enter Try.func28, Try.ntmps28
    go_wp2_with fail
    refine NW.mono ?_
    rintro e w1 ⟨rfl, rfl⟩
    clear NW
    go_wp2_with fail
    go_ret
    exact ⟨rfl, rfl⟩

theorem info_rver : (Try.prog.info? 66).map (fun i => (i.zero, i.size, i.bytes)) = some (some (.agg #[.string ⟨#[]⟩, .string ⟨#[]⟩, .bool false, .int .i64 0]), 4, 48) := by kernel_rfl
theorem info_int : (Try.prog.info? 3).map (fun i => (i.zero, i.size, i.bytes)) = some (some (.int .i64 0), 1, 8) := by kernel_rfl

/-- One version more. -/
theorem ref_more {w w6 : World} {q gg cap : Nat} {v pv : Value} {s : Sto} {x : Ver} (R : RefAt w q v pv s) (hf : s.v.length < 999999)
    (hown6 : w6.ownsRow 0 66 4 (.slice (some ⟨gg, 0, none⟩) (s.v.length + 1) cap) (s.v.length + 1) (encR s.v ++ [.string x.w.key, .string x.w.val, .bool x.w.gone, .int .i64 x.at']))
    (O6 : Only (fun b => v.ownBlock = some b) w w6) (hat : v.ownBlock = some gg ∨ w.heap.size ≤ gg) :
    RefAt (w6.setCell ⟨q, 2, none⟩ (.slice (some ⟨gg, 0, none⟩) (s.v.length + 1) cap)) q (.slice (some ⟨gg, 0, none⟩) (s.v.length + 1) cap) pv { s with v := s.v ++ [x] } ∧
      Only (fun k => k = q ∨ v.ownBlock = some k) w (w6.setCell ⟨q, 2, none⟩ (.slice (some ⟨gg, 0, none⟩) (s.v.length + 1) cap)) := by
  have hql := R.blk.lt
  have hgq : gg ≠ q := by
    rintro rfl
    rcases hat with h | h
    · exact R.qv h
    · omega
  have B6 : Blk w6 q #[.int .i64 s.all, .int .i64 s.stamp, v, pv] 42 := R.blk.of_block (O6.block q hql R.qv)
  have hp6 : w6.ownsRow 0 3 1 pv s.p.length (s.p.map (Value.int .i64)) := row_thru R.rp (fun g hg => O6.block g (R.rp.lt g hg).2 (fun e => R.vp g e hg))
  have R7 := ownsRow_setCell_other hown6 (a := ⟨q, 2, none⟩) (by simpa [Value.ownBlock] using hgq) (.slice (some ⟨gg, 0, none⟩) (s.v.length + 1) cap)
  have P7 := ownsRow_setCell_other hp6 (a := ⟨q, 2, none⟩) (fun e => R.qp e) (.slice (some ⟨gg, 0, none⟩) (s.v.length + 1) cap)
  have e : encR (s.v ++ [x]) = encR s.v ++ [.string x.w.key, .string x.w.val, .bool x.w.gone, .int .i64 x.at'] := by rw [encR_append]; rfl
  have hlen : (s.v ++ [x]).length = s.v.length + 1 := by simp
  refine ⟨⟨B6.set 2 _, ?_, P7, ?_, R.qp, ?_, ?_⟩, O6.os, O6.tape, O6.output, by simp [World.setCell]; exact O6.size, fun k hk hn => (Below.heap_setCell _ _ _ _ (fun e => hn (.inl e))).trans (O6.block k hk (fun e => hn (.inr e)))⟩
  · show World.ownsRow _ 0 _ 4 _ (s.v ++ [x]).length (encR (s.v ++ [x]))
    rw [hlen, e]
    exact R7
  · simpa [Value.ownBlock] using hgq
  · intro g hg e2
    simp [Value.ownBlock] at hg
    subst hg
    rcases hat with h | h
    · exact R.vp _ h e2
    · have := (R.rp.lt _ e2).2; omega
  · show (s.v ++ [x]).length < 1000000
    omega

theorem RefAt.stamp {w : World} {q : Nat} {v pv : Value} {s : Sto} (R : RefAt w q v pv s) (t : Int) : RefAt (w.setCell ⟨q, 1, none⟩ (.int .i64 t)) q v pv { s with stamp := t } :=
  ⟨R.blk.set 1 _, ownsRow_setCell_other R.rv (a := ⟨q, 1, none⟩) (fun e => R.qv e) _, ownsRow_setCell_other R.rp (a := ⟨q, 1, none⟩) (fun e => R.qp e) _, R.qv, R.qp, R.vp, R.few⟩

def RefTold (w0 w : World) (q : Nat) (v pv : Value) (s : Sto) (v' : Value) : Prop :=
  RefAt w q v' pv s ∧ Only (fun k => k = q ∨ v.ownBlock = some k) w0 w ∧ ∀ g, v'.ownBlock = some g → v.ownBlock = some g ∨ w0.heap.size ≤ g

/-- Writes of the reference's kind in a slice. -/
def WrAt (w : World) (a : Option Addr) (ws : List Wr) : Prop := ∀ j x, ws[j]? = some x → ∃ g, a = some ⟨g, 0, none⟩ ∧ g < w.heap.size ∧ w.cell? ⟨g, j * 3, none⟩ = some (.string x.key) ∧ w.cell? ⟨g, j * 3 + 1, none⟩ = some (.string x.val) ∧ w.cell? ⟨g, j * 3 + 2, none⟩ = some (.bool x.gone)

theorem wr_own {w : World} {base : Nat} {v : Value} {l : List Wr} (h : w.ownsRow base 63 3 v l.length (wrsCells l)) : ∃ a c, v = .slice a l.length c ∧ WrAt w a l ∧ ∀ g o, a = some ⟨g, o, none⟩ → v.ownBlock = some g := by
  obtain ⟨a, c, rfl⟩ := own_slice h
  refine ⟨a, c, rfl, fun j x hx => ?_, fun g o e => by rw [e]; rfl⟩
  have hj := (List.getElem?_eq_some_iff.1 hx).1
  obtain ⟨g, cap, hvv, -, hgl⟩ := h.form (by omega)
  injection hvv with e1 e2 e3
  subst e1
  obtain ⟨e1, e2, e3⟩ := wrs_get l j x hx
  have b1 := h.cells (g := g) rfl _ _ e1
  have b2 := h.cells (g := g) rfl _ _ e2
  have b3 := h.cells (g := g) rfl _ _ e3
  rw [cell_add, Nat.zero_add] at b1 b2 b3
  exact ⟨g, rfl, hgl, b1, b2, b3⟩

set_option maxHeartbeats 3200000 in
set_option maxRecDepth 20000 in
theorem rcommit_any (q : Nat) (v pv : Value) (s : Sto) (a : Option Addr) (c : Nat) (ws : List Wr) (w : World) (R : RefAt w q v pv s) (W : WrAt w a ws) (hap : ∀ g o, a = some ⟨g, o, none⟩ → g ≠ q ∧ v.ownBlock ≠ some g) (hf : s.v.length + ws.length ≤ 900000) (hb : 0 ≤ s.all ∧ s.all ≤ 1000000 ∧ 0 ≤ s.stamp ∧ s.stamp ≤ 1000000) :
    Calls Try.prog 15 #[.pointer (some ⟨q, 0, none⟩), .slice a ws.length c] w fun e w' => e = .returned (.tuple #[.int .i64 (commitP s ws).2.1, .int .i64 (commitP s ws).2.2]) ∧ ∃ v', RefTold w w' q v pv (commitP s ws).1 v' := by
  have c0 := R.blk.cell (i := 0) (v := .int .i64 s.all) rfl
  have c1 := R.blk.cell (i := 1) (v := .int .i64 s.stamp) rfl
  have c2 := R.blk.cell (i := 2) (v := v) rfl
  have f1 := R.blk.thawed 1
  obtain ⟨av, cv, hv⟩ := own_slice R.rv
  have hql := R.blk.lt
  obtain ⟨vl, hvl⟩ : ∃ vl, s.v.length = vl := ⟨_, rfl⟩
  obtain ⟨wl, hwl⟩ : ∃ wl, ws.length = wl := ⟨_, rfl⟩
  have hsum : (vl : Int) + (wl : Int) = ((vl + wl : Nat) : Int) := by omega
  have hsB : wrap64 ((vl + wl : Nat) : Int) = ((vl + wl : Nat) : Int) := IntWalk.wrap64_in _ (by omega)
  by_cases hfull : s.all < ((vl + wl : Nat) : Int)
  · have hcp : commitP s ws = (s, 0, 13) := by
      unfold commitP
      rw [if_pos (by omega)]
    rw [hcp]
    have HR : Hid (∀ n, ∃ v', RefTold w (w.drewN n) q v pv s v') := fun n => ⟨v, R.later (below_drewN w n), ⟨rfl, rfl, rfl, Nat.le_refl _, fun _ _ _ => rfl⟩, fun g h => .inl h⟩
    rw [hv, hvl] at c2
    rw [hwl]
    clear R W hap hf hb hcp hv hvl hwl
    generalize vl + wl = sm at *
    go_enter Try.func15, Try.ntmps15
    go_wp2_with fail
    go_quiet (fail)
    go_wp2_with fail
    exact bodyPost_ret (v := .tuple #[.int .i64 0, .int .i64 13]) (by simp [results, Try.results15, go_sem]) rfl ⟨rfl, HR.out nq⟩
  · have hcp : commitP s ws = ({ s with stamp := s.stamp + 1, v := s.v ++ ws.map fun w => ⟨w, s.stamp + 1⟩ }, s.stamp + 1, 0) := commit_room (by omega)
    rw [hcp]
    obtain ⟨st, hst⟩ : ∃ st, s.stamp + 1 = st := ⟨_, rfl⟩
    have hstB : wrap64 st = st := IntWalk.wrap64_in _ (by omega)
    rw [hst]
    have HR : Hid (∀ n, RefTold w ((w.drewN n).setCell ⟨q, 1, none⟩ (.int .i64 st)) q v pv { s with stamp := st, v := s.v ++ (ws.take 0).map fun w => ⟨w, st⟩ } v) := fun n => by
      have := (R.later (below_drewN w n)).stamp st
      simp only [List.take_zero, List.map_nil, List.append_nil]
      exact ⟨this, ⟨rfl, rfl, rfl, by simp [World.setCell], fun k hk hn => Below.heap_setCell _ _ _ _ (fun e => hn (.inl e))⟩, fun g h => .inl h⟩
    have HW : Hid (WrAt w a ws ∧ (∀ g o, a = some ⟨g, o, none⟩ → g ≠ q ∧ v.ownBlock ≠ some g) ∧ s.v.length + ws.length ≤ 900000 ∧ q < w.heap.size) := ⟨W, hap, hf, hql⟩
    rw [hv, hvl] at c2
    rw [hwl]
    replace hwl : Hid (ws.length = wl) := hwl
    clear R W hap hf hb hcp hv hvl hql
    generalize hsm : vl + wl = sm at *
    clear hsm
    go_enter Try.func15, Try.ntmps15
    go_wp2_with fail
    go_quiet (fail)
    have HQ : Hid (∃ v', RefTold w ((w.drewN nq).setCell ⟨q, 1, none⟩ (.int .i64 st)) q v pv { s with stamp := st, v := s.v ++ (ws.take 0).map fun w => ⟨w, st⟩ } v') := ⟨_, HR.out nq⟩
    have c1' : (w.drewN nq).cell? ⟨q, 1, none⟩ = some (.int .i64 s.stamp) := c1
    have f1' : (w.drewN nq).frozen? ⟨q, 1, none⟩ = false := f1
    clear HR c0 c1 c2 f1
    generalize w.drewN nq = w1 at *
    go_wp2_with fail
    generalize w1.setCell ⟨q, 1, none⟩ (.int .i64 st) = w2 at *
    clear c1' f1' hsum hsB hstB hfull
    go_loopg [6] wl (fun kx s6 wr => ∃ i : Nat, s6 = .int .i64 i ∧ i ≤ wl ∧ wl - i ≤ kx ∧ Hid (∃ v', RefTold w wr q v pv { s with stamp := st, v := s.v ++ (ws.take i).map fun w => ⟨w, st⟩ } v'))
    case atStart => exact ⟨0, rfl, Nat.zero_le _, by omega, HQ⟩
    case round =>
      clear HQ
      obtain ⟨i, rfl, hi, hg, Q⟩ := hrel
      obtain ⟨v', R', O', V'⟩ := Q.out
      clear Q
      by_cases hin : i < wl
      · have hinI : (i : Int) < (wl : Int) := by omega
        have hi0 : (0 : Int) ≤ (i : Int) := by omega
        obtain ⟨x, hx⟩ : ∃ x, ws[i]? = some x := ⟨_, List.getElem?_eq_getElem (by rw [hwl.out]; exact hin)⟩
        obtain ⟨g, rfl, hgl, k0, k1, k2⟩ := HW.out.1 i x hx
        obtain ⟨gq, gv⟩ := HW.out.2.1 g 0 rfl
        have hba : wr.heap[g]? = w.heap[g]? := O'.block g hgl (by rintro (e | e) <;> contradiction)
        rw [← cell_of_block (a := ⟨g, i * 3, none⟩) hba] at k0
        rw [← cell_of_block (a := ⟨g, i * 3 + 1, none⟩) hba] at k1
        rw [← cell_of_block (a := ⟨g, i * 3 + 2, none⟩) hba] at k2
        have htk : ws.take (i + 1) = ws.take i ++ [x] := by rw [List.take_add_one, hx]; rfl
        obtain ⟨av, cv, hv'⟩ := own_slice R'.rv
        have hln : (s.v ++ (ws.take i).map fun w => (⟨w, st⟩ : Ver)).length = s.v.length + i := by simp; rw [hwl.out]; omega
        simp only at hv'
        rw [hln] at hv'
        have hfl : s.v.length + i < 900000 := by have := HW.out.2.2.1; rw [hwl.out] at this; omega
        have c1 := R'.blk.cell (i := 1) (v := .int .i64 st) rfl
        have c2 := R'.blk.cell (i := 2) (v := v') rfl
        have f2 := R'.blk.thawed 2
        have hrow := R'.rv
        have hqv := R'.qv
        have hql := R'.blk.lt
        simp only at hrow
        rw [hln] at hrow
        have HEND : Hid (∀ (w6 : World) (gg cap : Nat), w6.ownsRow 0 66 4 (.slice (some ⟨gg, 0, none⟩) (s.v.length + i + 1) cap) (s.v.length + i + 1) (encR (s.v ++ (ws.take i).map fun w => (⟨w, st⟩ : Ver)) ++ [.string x.key, .string x.val, .bool x.gone, .int .i64 st]) → (wr.drew.alloc (.cells #[.string x.key, .string x.val, .bool x.gone, .int .i64 st] 66)).grownBy w6 v'.ownBlock → (v'.ownBlock = some gg ∨ gg = wr.heap.size + 1) →
            w6.cell? ⟨q, 2, none⟩ = some v' ∧ w6.frozen? ⟨q, 2, none⟩ = false ∧ Hid (∃ v'', RefTold w (w6.setCell ⟨q, 2, none⟩ (.slice (some ⟨gg, 0, none⟩) (s.v.length + i + 1) cap)) q v pv { s with stamp := st, v := s.v ++ (ws.take (i + 1)).map fun w => ⟨w, st⟩ } (.slice (some ⟨gg, 0, none⟩) (s.v.length + i + 1) cap) ∧ v'' = v)) := by
          intro w6 gg cap h1 h2 h3
          have b1 : Below wr.heap.size wr (wr.drew.alloc (.cells #[.string x.key, .string x.val, .bool x.gone, .int .i64 st] 66)) := ((Below.refl _ _).drew).alloc (Nat.le_refl _) _
          have O6 : Only (fun b => v'.ownBlock = some b) wr w6 := ⟨h2.os.trans b1.os, h2.tape.trans b1.tape, h2.output.trans b1.output, Nat.le_trans b1.size h2.size, fun k hk hn => (h2.block k (Nat.lt_of_lt_of_le hk b1.size) (fun e => hn e.symm)).trans (b1.block k hk)⟩
          have B6 := R'.blk.of_block (O6.block q hql hqv)
          have hlen : ({ s with stamp := st, v := s.v ++ (ws.take i).map fun w => ⟨w, st⟩ } : Sto).v.length = s.v.length + i := hln
          obtain ⟨r1, r2⟩ := ref_more (x := ⟨x, st⟩) R' (by rw [hlen]; omega) (gg := gg) (cap := cap) (w6 := w6) (by rw [hlen]; exact h1) O6 (h3.imp id (fun h => by omega))
          rw [hlen] at r1 r2
          refine ⟨B6.cell (i := 2) rfl, B6.thawed 2, v, ⟨?_, ?_, ?_⟩, rfl⟩
          · have e : s.v ++ (ws.take (i + 1)).map (fun w => (⟨w, st⟩ : Ver)) = (s.v ++ (ws.take i).map fun w => (⟨w, st⟩ : Ver)) ++ [⟨x, st⟩] := by rw [htk, List.map_append, List.append_assoc]; rfl
            rw [e]
            exact r1
          · refine ⟨r2.os.trans O'.os, r2.tape.trans O'.tape, r2.output.trans O'.output, Nat.le_trans O'.size r2.size, fun k hk hn => ?_⟩
            rw [r2.block k (Nat.lt_of_lt_of_le hk O'.size) ?_, O'.block k hk hn]
            rintro (e | e)
            · exact hn (.inl e)
            · rcases V' k e with h | h
              · exact hn (.inr h)
              · omega
          · intro g' hg'
            simp [Value.ownBlock] at hg'
            subst hg'
            rcases h3 with h | h
            · exact V' _ h
            · right; have := O'.size; omega
        obtain ⟨i0, ii0, iz0, iz2, iz3⟩ := info_parts info_rver
        have HF : Hid (i < wl ∧ wl - i ≤ gk ∧ i < 900000 ∧ s.v.length + i < 900000) := ⟨hin, hg, by omega, hfl⟩
        have hne : v'.ownBlock ≠ some q := hqv
        clear R' O' V' hi hg hin htk hln hfl HW hba gq gv hx hqv
        generalize s.v ++ (ws.take i).map (fun w => (⟨w, st⟩ : Ver)) = lv at *
        generalize s.v.length + i = vn at *
        subst hv'
        replace hrow : Hid (wr.ownsRow 0 66 4 (.slice av vn cv) vn (encR lv)) := hrow
        have hrow1 : wr.drew.ownsRow 0 66 4 (.slice av vn cv) vn (encR lv) := hrow.out.drew
        have c1d : wr.drew.cell? ⟨q, 1, none⟩ = some (.int .i64 st) := c1
        have c2d : wr.drew.cell? ⟨q, 2, none⟩ = some (.slice av vn cv) := c2
        have f2d : wr.drew.frozen? ⟨q, 2, none⟩ = false := f2
        have k0d : wr.drew.cell? ⟨g, i * 3, none⟩ = some (.string x.key) := k0
        have k1d : wr.drew.cell? ⟨g, i * 3 + 1, none⟩ = some (.string x.val) := k1
        have k2d : wr.drew.cell? ⟨g, i * 3 + 2, none⟩ = some (.bool x.gone) := k2
        go_wp2_with fail
        go_region_law
          (first
            | (refine step_append_lies _ (by rfl) _ _ _ (by rfl) 0 66 i0 _ 4 48 Try.underlying40 ii0 iz0 iz2 iz3 rfl (by omega) (.slice av vn cv) vn (encR lv) (by rfl) (hrow1.alloc _)
                ⟨wr.heap.size, 0, none⟩ 1 1 [.string x.key, .string x.val, .bool x.gone, .int .i64 st] (by rfl) (by rfl) (World.news_of_block (cs := #[.string x.key, .string x.val, .bool x.gone, .int .i64 st]) (t := 66) (fr := (0, 0)) (heap_alloc_new wr.drew _)) (by simp [Value.oneCell']) (by omega) (by have := HF.out; unfold maxLen; omega) (by have := HF.out; omega) (Nat.zero_le _) (wr.heap.size + 1) (by simp) ?_; intro gg cap w6 hown6 hgrow hat hlt6; obtain ⟨x6, th6, RR⟩ := HEND.out w6 gg cap hown6 ⟨hgrow.os, hgrow.tape, hgrow.output, hgrow.size, hgrow.block⟩ hat))
        all_goals
          obtain ⟨f1, f2', f3, f4⟩ := HF.out
          replace RR : Hid _ := RR
          clear c1d c2d f2d k0d k1d k2d c1 c2 f2 k0 k1 k2 x6 th6 hown6 hgrow hrow1
          go_wp2_with fail
          go_roundg (wl - (i + 1))
          case rel => exact ⟨i + 1, rfl, by omega, Nat.le_refl _, by obtain ⟨_, h, _⟩ := RR.out; exact ⟨_, h⟩⟩
          case measure => omega
      · obtain rfl : i = wl := by omega
        have htk : ws.take i = ws := List.take_of_length_le (by rw [hwl.out]; exact Nat.le_refl _)
        rw [htk] at R'
        have c1 := R'.blk.cell (i := 1) (v := .int .i64 st) rfl
        have HE : Hid (∃ v', RefTold w wr q v pv { s with stamp := st, v := s.v ++ ws.map fun w => ⟨w, st⟩ } v') := ⟨v', R', O', V'⟩
        clear R' O' V' hi hg hin
        go_wp2_with fail
        exact bodyPost_ret (v := .tuple #[.int .i64 st, .int .i64 0]) (by simp [results, Try.results15, go_sem]) rfl ⟨rfl, HE.out⟩
end Go.Proofs.Ytcnajkclbmddgaa
