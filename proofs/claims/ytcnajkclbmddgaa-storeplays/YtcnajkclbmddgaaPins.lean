/- Stamps that are pinned: searched. -/
import Derived.Test.YtcnajkclbmddgaaOwn
import Derived.Deep.LoopGhost
namespace Go.Proofs.Ytcnajkclbmddgaa
open Go.ChangeShapes Go.WideShapes Go.ChangeAt Go.RowKit
set_option linter.unusedVariables false
set_option linter.unusedSimpArgs false

abbrev Pn := Int × Int
theorem encP_len : ∀ l, (encP l).length = l.length * 2
  | [] => rfl
  | x :: l => by simp [encP, encP_len l]; omega
theorem encP_append : ∀ l m, encP (l ++ m) = encP l ++ encP m
  | [], m => rfl
  | x :: l, m => by simp [encP, encP_append l m]
theorem encP_get : ∀ (l : List Pn) (j : Nat) (x : Pn), l[j]? = some x → (encP l)[j * 2]? = some (.int .i64 x.1) ∧ (encP l)[j * 2 + 1]? = some (.int .i64 x.2)
  | [], j, x, h => by simp at h
  | y :: l, 0, x, h => by simp at h; subst h; simp [encP]
  | y :: l, j + 1, x, h => by
    have := encP_get l j x (by simpa using h)
    rw [show (j + 1) * 2 = j * 2 + 2 by omega, show j * 2 + 2 + 1 = j * 2 + 1 + 2 by omega]
    simpa [encP] using this

/-- Pins in a slice. -/
def AtP (w : World) (a : Option Addr) (l : List Pn) : Prop :=
  0 < l.length → ∃ g o, a = some ⟨g, o, none⟩ ∧ g < w.heap.size ∧ ∀ j x, l[j]? = some x → w.cell? ⟨g, o + j * 2, none⟩ = some (.int .i64 x.1) ∧ w.cell? ⟨g, o + j * 2 + 1, none⟩ = some (.int .i64 x.2)

theorem own_atP {w : World} {base : Nat} {v : Value} {l : List Pn} (h : w.ownsRow base 70 2 v l.length (encP l)) : ∃ a c, v = .slice a l.length c ∧ l.length ≤ c ∧ AtP w a l := by
  rcases h.2 with ⟨rfl, h0⟩ | ⟨g, cap, cur, rfl, _, hg, hnc, _⟩
  · exact ⟨none, 0, by rw [h0], by rw [h0]; exact Nat.le_refl _, fun h1 => by omega⟩
  · refine ⟨_, _, rfl, hnc, fun _ => ⟨g, 0, rfl, (Array.getElem?_eq_some_iff.1 hg).1, fun j x hx => ?_⟩⟩
    obtain ⟨a1, a2⟩ := encP_get l j x hx
    have b1 := h.cells (g := g) rfl _ _ a1
    have b2 := h.cells (g := g) rfl _ _ a2
    rw [cell_add] at b1 b2
    exact ⟨b1, by rw [Nat.add_assoc]; exact b2⟩

def RiseP (l : List Pn) : Prop := l.Pairwise fun a b => a.1 < b.1
def upToN (t : Int) (l : List Pn) : Nat := l.countP fun x => decide (x.1 ≤ t)

theorem upToN_eq {t : Int} {l : List Pn} (n : Nat) (hn : n ≤ l.length) (h1 : ∀ i x, i < n → l[i]? = some x → x.1 ≤ t) (h2 : ∀ i x, n ≤ i → l[i]? = some x → t < x.1) : upToN t l = n := by
  unfold upToN
  have e : l = l.take n ++ l.drop n := (List.take_append_drop n l).symm
  rw [e, List.countP_append, List.countP_eq_length.2, List.countP_eq_zero.2]
  · simp; omega
  · intro x hx
    obtain ⟨i, hi⟩ := List.getElem?_of_mem hx
    rw [List.getElem?_drop] at hi
    have := h2 (n + i) x (by omega) hi
    simp; omega
  · intro x hx
    obtain ⟨i, hi⟩ := List.getElem?_of_mem hx
    have hil : i < n := by
      have := (List.getElem?_eq_some_iff.1 hi).1
      simp at this; omega
    rw [List.getElem?_take_of_lt hil] at hi
    have := h1 i x hil hi
    simp; omega

theorem riseP_get {l : List Pn} (hs : RiseP l) {i j : Nat} {x y : Pn} (hi : l[i]? = some x) (hj : l[j]? = some y) (h : i ≤ j) : x.1 ≤ y.1 := by
  by_cases e : i = j
  · subst e
    rw [hi] at hj
    cases hj
    exact Int.le_refl _
  · obtain ⟨hi1, hi2⟩ := List.getElem?_eq_some_iff.1 hi
    obtain ⟨hj1, hj2⟩ := List.getElem?_eq_some_iff.1 hj
    have := List.pairwise_iff_getElem.1 hs i j hi1 hj1 (by omega)
    rw [hi2, hj2] at this
    omega

theorem past_p (w : World) (a b : Int) : Sem.run Try.prog (method 223 70 (.agg #[.int .i64 a, .int .i64 b]) "letterpress/store.past") w = .ok (32, .agg #[.int .i64 a]) w := by kernel_rfl

set_option maxHeartbeats 800000 in
set_option maxRecDepth 20000 in
theorem psearch_any (a : Option Addr) (c : Nat) (l : List Pn) (t : Int) (w : World) (A : AtP w a l) (hs : RiseP l) (hf : l.length < 1000000) :
    Calls Try.prog 31 #[.slice a l.length c, .int .i64 t, .func (.methodOf 70 "letterpress/store.past") #[] #[]] w fun e w' => (∃ b, e = .returned (.tuple #[.int .i64 (upToN t l : Nat), .bool b])) ∧ Below w.heap.size w w' := by
  have A : Aside _ := A
  have S : Aside _ := hs
  clear hs
  generalize hn : l.length = n at hf
  have HN : Aside (l.length = n) := hn
  clear hn
  generalize hu : upToN t l = u
  have HU : Aside (upToN t l = u) := hu
  clear hu
  have SB : Aside (Below w.heap.size w w) := Below.refl _ _
  have hf : n < 1000000 := hf
  go_enter Try.func31, Try.ntmps31
  go_wp2
  go_loopg [9, 10] n (fun kx s9 s10 wr => ∃ lo hi : Nat, s9 = .int .i64 lo ∧ s10 = .int .i64 hi ∧ lo ≤ hi ∧ hi ≤ n ∧ hi - lo ≤ kx ∧ Aside (Below w.heap.size w wr) ∧
    Aside ((∀ i x, i < lo → l[i]? = some x → x.1 ≤ t) ∧ (∀ i x, hi ≤ i → l[i]? = some x → t < x.1)))
  case atStart => exact ⟨0, n, rfl, rfl, Nat.zero_le _, Nat.le_refl _, by omega, SB, (⟨fun i x hi => absurd hi (Nat.not_lt_zero _), fun i x h1 h2 => by have := (List.getElem?_eq_some_iff.1 h2).1; have := HN.out; omega⟩ : (∀ i x, i < 0 → l[i]? = some x → x.1 ≤ t) ∧ (∀ i x, n ≤ i → l[i]? = some x → t < x.1))⟩
  case round =>
    clear SB
    obtain ⟨lo, hi, rfl, rfl, hlh, hin, hg, S1, I⟩ := hrel
    by_cases hlt : lo < hi
    · have hltI : (lo : Int) < (hi : Int) := by omega
      obtain ⟨g, o, rfl, hgl, hcell⟩ := A.out (by have := HN.out; omega)
      have hml : (lo + hi) / 2 < l.length := by have := HN.out; omega
      obtain ⟨x, hx⟩ : ∃ x, l[(lo + hi) / 2]? = some x := ⟨_, List.getElem?_eq_getElem hml⟩
      have X : Aside (l[(lo + hi) / 2]? = some x) := hx
      obtain ⟨c0, c1⟩ := hcell _ _ hx
      have hcw : ∀ i, wr.cell? ⟨g, i, none⟩ = w.cell? ⟨g, i, none⟩ := fun i => cell_of_block (S1.out.block g hgl)
      rw [← hcw] at c0 c1
      generalize hm : (lo + hi) / 2 = m at c0 c1 X hml
      have hmn : m < n := by omega
      have hmnI : (m : Int) < (n : Int) := by omega
      have hm0 : (0 : Int) ≤ (m : Int) := by omega
      have P := past_any x.1 t wr
      have PM := past_p wr x.1 x.2
      clear hcell hcw hx hml
      have HF : Aside (n < 1000000 ∧ lo ≤ hi ∧ hi ≤ n ∧ hi - lo ≤ gk ∧ (lo + hi) / 2 = m ∧ m < n ∧ lo < hi) := ⟨hf, hlh, hin, hg, hm, hmn, hlt⟩
      have hmid := (mid_eq lo hi n hin hlh hf).trans (congrArg (fun z : Nat => (z : Int)) hm)
      obtain ⟨q, hq, hmid⟩ : ∃ q, IntKind.u64.wrap (wrap64 (↑lo + ↑hi)) = q ∧ wrap64 (q / 2) = (m : Int) := ⟨_, rfl, hmid⟩
      clear hm hg hf hlh hin hmn hlt
      go_wp2_with fail
      refine P.mono ?_
      rintro e w2 ⟨rfl, hb⟩
      have S2 : Aside (Below w.heap.size w w2) := S1.out.trans (hb.mono S1.out.size)
      clear P PM c0 c1 hb S1 hq
      by_cases hyx : t < x.1
      · have hp : pastP x.1 t = 1 := by simp [pastP, hyx]
        rw [hp]
        have I2 : Aside ((∀ i x, i < lo → l[i]? = some x → x.1 ≤ t) ∧ (∀ i x, m ≤ i → l[i]? = some x → t < x.1)) := by
          refine ⟨I.out.1, fun i y h1 h2 => ?_⟩
          have := riseP_get S.out X.out h2 h1
          omega
        clear I X hp hyx
        go_wp2_with fail
        obtain ⟨h1, h3, h4, h5, h6, h7, h8⟩ := HF.out
        clear hmid hmnI hm0
        go_roundg (m - lo)
        case rel => exact ⟨lo, m, rfl, rfl, by omega, by omega, Nat.le_refl _, S2, I2⟩
        case measure => omega
      · have hp : pastP x.1 t = -1 := by simp [pastP, hyx]
        rw [hp]
        have I2 : Aside ((∀ i x, i < m + 1 → l[i]? = some x → x.1 ≤ t) ∧ (∀ i x, hi ≤ i → l[i]? = some x → t < x.1)) := by
          refine ⟨fun i y h1 h2 => ?_, I.out.2⟩
          have := riseP_get S.out h2 X.out (by omega)
          omega
        clear I X hp hyx
        go_wp2_with fail
        obtain ⟨h1, h3, h4, h5, h6, h7, h8⟩ := HF.out
        clear hmid hmnI hm0
        go_roundg (hi - (m + 1))
        case rel => exact ⟨m + 1, hi, by simp [IntWalk.wrap64_in], rfl, by omega, by omega, Nat.le_refl _, S2, I2⟩
        case measure => omega
    · obtain rfl : lo = hi := by omega
      have hun : u = lo := by
        rw [← HU.out]
        exact upToN_eq lo (by have := HN.out; omega) I.out.1 I.out.2
      subst hun
      clear I HU hg hlt hlh
      by_cases hln : u < n
      · have hlnI : (u : Int) < (n : Int) := by omega
        have hu0 : (0 : Int) ≤ (u : Int) := by omega
        obtain ⟨g, o, rfl, hgl, hcell⟩ := A.out (by have := HN.out; omega)
        obtain ⟨x, hx⟩ : ∃ x, l[u]? = some x := ⟨_, List.getElem?_eq_getElem (by have := HN.out; omega)⟩
        obtain ⟨c0, c1⟩ := hcell _ _ hx
        have hcw : ∀ i, wr.cell? ⟨g, i, none⟩ = w.cell? ⟨g, i, none⟩ := fun i => cell_of_block (S1.out.block g hgl)
        rw [← hcw] at c0 c1
        have P := past_any x.1 t wr
        have PM := past_p wr x.1 x.2
        clear hcell hcw hx hln hin hf
        go_wp2_with fail
        refine P.mono ?_
        rintro e w2 ⟨rfl, hb⟩
        have S2 : Below w.heap.size w w2 := S1.out.trans (hb.mono S1.out.size)
        clear P PM c0 c1 hb S1
        generalize pastP x.1 t = pv
        go_wp2_with fail
        exact bodyPost_ret (v := .tuple #[.int .i64 u, .bool (pv == 0)]) (by simp [results, Try.results31, go_sem]) rfl ⟨⟨_, rfl⟩, S2⟩
      · obtain rfl : u = n := by omega
        clear hln hin hf
        go_wp2_with fail
        exact bodyPost_ret (v := .tuple #[.int .i64 u, .bool false]) (by simp [results, Try.results31, go_sem]) rfl ⟨⟨_, rfl⟩, S1.out⟩
end Go.Proofs.Ytcnajkclbmddgaa
