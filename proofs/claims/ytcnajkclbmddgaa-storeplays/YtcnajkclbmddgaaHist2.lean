/- What only looks at a history. -/
import Derived.Test.YtcnajkclbmddgaaHist
import Derived.Deep.LoopGhost
namespace Go.Proofs.Ytcnajkclbmddgaa
open Go.ChangeShapes Go.WideShapes Go.ChangeAt Go.RowKit
set_option linter.unusedVariables false
set_option linter.unusedSimpArgs false

def pastP (x t : Int) : Int := if t < x then 1 else -1

theorem below_new (w : World) (o : Obj) : Below w.heap.size w (w.alloc o) := (Below.refl _ _).alloc (Nat.le_refl _) _
theorem below_drewN (w : World) (n : Nat) : Below w.heap.size w (w.drewN n) := ⟨rfl, rfl, rfl, Nat.le_refl _, fun _ _ => rfl⟩

set_option maxHeartbeats 400000 in
theorem past_any (x t : Int) (w : World) :
    Calls Try.prog 32 #[.agg #[.int .i64 x], .int .i64 t] w fun e w' => e = .returned (.int .i64 (pastP x t)) ∧ Below w.heap.size w w' := by
  by_cases h : t < x
  · go_enter Try.func32, Try.ntmps32
    go_wp2
    go_ret
    exact ⟨by simp [pastP, h], below_new _ _⟩
  · go_enter Try.func32, Try.ntmps32
    go_wp2
    go_ret
    exact ⟨by simp [pastP, h], below_new _ _⟩

/-- Versions l lie in a slice. -/
def LiveAt (w : World) (v : Value) (l : List Vr) : Prop :=
  (l = [] ∧ v = .slice none 0 0) ∨ ∃ g o c, v = .slice (some ⟨g, o, none⟩) l.length c ∧ l.length ≤ c ∧ 0 < l.length ∧ g < w.heap.size ∧
    ∀ j x, l[j]? = some x → w.cell? ⟨g, o + j * 3, none⟩ = some (.int .i64 x.at') ∧ w.cell? ⟨g, o + j * 3 + 1, none⟩ = some (.string x.val) ∧ w.cell? ⟨g, o + j * 3 + 2, none⟩ = some (.bool x.gone)

theorem LiveAt.below {w w' : World} {v : Value} {l : List Vr} (h : LiveAt w v l) (hb : Below w.heap.size w w') : LiveAt w' v l := by
  rcases h with h | ⟨g, o, c, h1, h2, h3, h4, h5⟩
  · exact .inl h
  · refine .inr ⟨g, o, c, h1, h2, h3, Nat.lt_of_lt_of_le h4 hb.size, fun j x hx => ?_⟩
    have hc : ∀ i, w'.cell? ⟨g, i, none⟩ = w.cell? ⟨g, i, none⟩ := fun i => cell_of_block (hb.block g h4)
    rw [hc, hc, hc]
    exact h5 j x hx

theorem cell_add (w : World) (g o j : Nat) : w.cell? ((⟨g, o, none⟩ : Addr).add j) = w.cell? ⟨g, o + j, none⟩ := by
  unfold Addr.add
  split
  · rename_i h; rw [h]; rfl
  · rfl

theorem HistAt.liveAt {w : World} {h : Hi} (H : HistAt w h) : LiveAt w (liveV h.off h.row) h.live := by
  obtain ⟨blk, key, row, all, off⟩ := h
  have ho := H.off
  have hrow := H.row
  simp only at *
  unfold Hi.live
  simp only
  rcases ho with ho | ⟨rfl, rfl, rfl⟩
  · right
    obtain ⟨hl, hr⟩ := hrow
    have hcells : ∀ g, row.ownBlock = some g → _ := fun g => H.row.cells (g := g)
    simp only at hcells
    rcases hr with ⟨rfl, hn⟩ | ⟨g, cap, cur, rfl, _, hg, hnc, hcm, _⟩
    · omega
    · refine ⟨g, off * 3, cap - off, ?_, ?_, ?_, (Array.getElem?_eq_some_iff.1 hg).1, fun j x hx => ?_⟩
      · simp [liveV]
      · simp; omega
      · simp; omega
      · rw [List.getElem?_drop] at hx
        obtain ⟨a1, a2, a3⟩ := encVs_get all (off + j) x hx
        have b1 := hcells g rfl _ _ a1
        have b2 := hcells g rfl _ _ a2
        have b3 := hcells g rfl _ _ a3
        rw [cell_add] at b1 b2 b3
        rw [show off * 3 + j * 3 = 0 + (off + j) * 3 by omega, show 0 + (off + j) * 3 + 1 = 0 + ((off + j) * 3 + 1) by omega, show 0 + (off + j) * 3 + 2 = 0 + ((off + j) * 3 + 2) by omega]
        exact ⟨b1, b2, b3⟩
  · exact .inl ⟨rfl, rfl⟩

/-- How many are no newer than t. -/
def upToP (t : Int) (l : List Vr) : Nat := l.countP fun x => decide (x.at' ≤ t)

def Rise (l : List Vr) : Prop := l.Pairwise fun a b => a.at' ≤ b.at'

theorem upTo_eq {t : Int} {l : List Vr} (n : Nat) (hn : n ≤ l.length) (h1 : ∀ i x, i < n → l[i]? = some x → x.at' ≤ t) (h2 : ∀ i x, n ≤ i → l[i]? = some x → t < x.at') : upToP t l = n := by
  unfold upToP
  have e : l = l.take n ++ l.drop n := (List.take_append_drop n l).symm
  rw [e, List.countP_append, List.countP_eq_length.2, List.countP_eq_zero.2]
  · simp; omega
  · intro x hx
    obtain ⟨i, hi⟩ := List.getElem?_of_mem hx
    rw [List.getElem?_drop] at hi
    have := h2 (n + i) x (by omega) hi
    simp; omega
  · intro x hx
    obtain ⟨i, hi⟩ := List.getElem?_of_mem hx
    have hil : i < n := by
      have := (List.getElem?_eq_some_iff.1 hi).1
      simp at this; omega
    rw [List.getElem?_take_of_lt hil] at hi
    have := h1 i x hil hi
    simp; omega

def pastV : Value := .func (.methodOf 81 "letterpress/store.past") #[] #[]

def AtL (w : World) (a : Option Addr) (l : List Vr) : Prop :=
  0 < l.length → ∃ g o, a = some ⟨g, o, none⟩ ∧ g < w.heap.size ∧
    ∀ j x, l[j]? = some x → w.cell? ⟨g, o + j * 3, none⟩ = some (.int .i64 x.at') ∧ w.cell? ⟨g, o + j * 3 + 1, none⟩ = some (.string x.val) ∧ w.cell? ⟨g, o + j * 3 + 2, none⟩ = some (.bool x.gone)

theorem LiveAt.atL {w : World} {v : Value} {l : List Vr} (h : LiveAt w v l) : ∃ a c, v = .slice a l.length c ∧ l.length ≤ c ∧ AtL w a l := by
  rcases h with ⟨rfl, rfl⟩ | ⟨g, o, c, h1, h2, h3, h4, h5⟩
  · exact ⟨none, 0, rfl, Nat.le_refl _, fun h => by simp at h⟩
  · exact ⟨some ⟨g, o, none⟩, c, h1, h2, fun _ => ⟨g, o, rfl, h4, h5⟩⟩

theorem rise_get {l : List Vr} (hs : Rise l) {i j : Nat} {x y : Vr} (hi : l[i]? = some x) (hj : l[j]? = some y) (h : i ≤ j) : x.at' ≤ y.at' := by
  by_cases e : i = j
  · subst e
    rw [hi] at hj
    cases hj
    exact Int.le_refl _
  · obtain ⟨hi1, hi2⟩ := List.getElem?_eq_some_iff.1 hi
    obtain ⟨hj1, hj2⟩ := List.getElem?_eq_some_iff.1 hj
    have := List.pairwise_iff_getElem.1 hs i j hi1 hj1 (by omega)
    rw [hi2, hj2] at this
    exact this

theorem mid_u64 (lo hi n : Nat) (h : hi ≤ n) (hlo : lo ≤ hi) (hn : n < 1000000) : IntKind.u64.wrap ((lo : Int) + hi) = (lo : Int) + hi := by
  have e : IntKind.u64.wrap ((lo : Int) + hi) = ((lo : Int) + hi) % 18446744073709551616 := rfl
  rw [e]; omega
theorem mid_eq (lo hi n : Nat) (h : hi ≤ n) (hlo : lo ≤ hi) (hn : n < 1000000) : wrap64 (IntKind.u64.wrap (wrap64 (↑lo + ↑hi)) / 2) = (((lo + hi) / 2 : Nat) : Int) := by
  rw [IntWalk.wrap64_in ((lo : Int) + hi) (by omega), mid_u64 lo hi n h hlo hn, IntWalk.wrap64_in _ (by omega)]
  omega

end Go.Proofs.Ytcnajkclbmddgaa
