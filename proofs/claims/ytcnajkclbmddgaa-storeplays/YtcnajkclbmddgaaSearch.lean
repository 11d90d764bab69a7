/- A search among a history's versions. -/
import Derived.Test.YtcnajkclbmddgaaHist2
namespace Go.Proofs.Ytcnajkclbmddgaa
open Go.ChangeShapes Go.WideShapes Go.ChangeAt Go.RowKit
set_option linter.unusedVariables false
set_option linter.unusedSimpArgs false

theorem past_m (w : World) (a : Int) (s : ByteArray) (b : Bool) : Sem.run Try.prog (method 223 81 (.agg #[.int .i64 a, .string s, .bool b]) "letterpress/store.past") w = .ok (32, .agg #[.int .i64 a]) w := by kernel_rfl

set_option maxHeartbeats 800000 in
set_option maxRecDepth 20000 in
theorem search_any (v : Value) (l : List Vr) (t : Int) (w : World) (L : LiveAt w v l) (hs : Rise l) (hf : l.length < 1000000) :
    Calls Try.prog 55 #[v, .int .i64 t, pastV] w fun e w' => (∃ b, e = .returned (.tuple #[.int .i64 (upToP t l : Nat), .bool b])) ∧ Below w.heap.size w w' := by
  unfold pastV
  obtain ⟨a, c, rfl, hc, A⟩ := L.atL
  have A : Aside _ := A
  have S : Aside _ := hs
  clear L hs
  generalize hn : l.length = n at hc hf
  have HN : Aside (l.length = n) := hn
  clear hn
  generalize hu : upToP t l = u
  have HU : Aside (upToP t l = u) := hu
  clear hu
  have SB : Aside (Below w.heap.size w w) := Below.refl _ _
  have hf : n < 1000000 := hf
  go_enter Try.func55, Try.ntmps55
  go_wp2
  go_loopg [9, 10] n (fun kx s9 s10 wr => ∃ lo hi : Nat, s9 = .int .i64 lo ∧ s10 = .int .i64 hi ∧ lo ≤ hi ∧ hi ≤ n ∧ hi - lo ≤ kx ∧ Aside (Below w.heap.size w wr) ∧
    Aside ((∀ i x, i < lo → l[i]? = some x → x.at' ≤ t) ∧ (∀ i x, hi ≤ i → l[i]? = some x → t < x.at')))
  case atStart => exact ⟨0, n, rfl, rfl, Nat.zero_le _, Nat.le_refl _, by omega, SB, (⟨fun i x hi => absurd hi (Nat.not_lt_zero _), fun i x h1 h2 => by have := (List.getElem?_eq_some_iff.1 h2).1; have := HN.out; omega⟩ : (∀ i x, i < 0 → l[i]? = some x → x.at' ≤ t) ∧ (∀ i x, n ≤ i → l[i]? = some x → t < x.at'))⟩
  case round =>
    clear SB
    obtain ⟨lo, hi, rfl, rfl, hlh, hin, hg, S1, I⟩ := hrel
    by_cases hlt : lo < hi
    · have hltI : (lo : Int) < (hi : Int) := by omega
      obtain ⟨g, o, rfl, hgl, hcell⟩ := A.out (by have := HN.out; omega)
      have hml : (lo + hi) / 2 < l.length := by have := HN.out; omega
      obtain ⟨x, hx⟩ : ∃ x, l[(lo + hi) / 2]? = some x := ⟨_, List.getElem?_eq_getElem hml⟩
      have X : Aside (l[(lo + hi) / 2]? = some x) := hx
      obtain ⟨c0, c1, c2⟩ := hcell _ _ hx
      have hcw : ∀ i, wr.cell? ⟨g, i, none⟩ = w.cell? ⟨g, i, none⟩ := fun i => cell_of_block (S1.out.block g hgl)
      rw [← hcw] at c0 c1 c2
      generalize hm : (lo + hi) / 2 = m at c0 c1 c2 X hml
      have hmn : m < n := by omega
      have hmnI : (m : Int) < (n : Int) := by omega
      have hm0 : (0 : Int) ≤ (m : Int) := by omega
      have P := past_any x.at' t wr
      have PM := past_m wr x.at' x.val x.gone
      clear hcell hcw hx hml
      have HF : Aside (n < 1000000 ∧ n ≤ c ∧ lo ≤ hi ∧ hi ≤ n ∧ hi - lo ≤ gk ∧ (lo + hi) / 2 = m ∧ m < n ∧ lo < hi) := ⟨hf, hc, hlh, hin, hg, hm, hmn, hlt⟩
      have hmid := (mid_eq lo hi n hin hlh hf).trans (congrArg (fun z : Nat => (z : Int)) hm)
      obtain ⟨q, hq, hmid⟩ : ∃ q, IntKind.u64.wrap (wrap64 (↑lo + ↑hi)) = q ∧ wrap64 (q / 2) = (m : Int) := ⟨_, rfl, hmid⟩
      clear hm hg hf hc hlh hin hmn hlt
      go_wp2_with fail
      refine P.mono ?_
      rintro e w2 ⟨rfl, hb⟩
      have S2 : Aside (Below w.heap.size w w2) := S1.out.trans (hb.mono S1.out.size)
      clear P PM c0 c1 c2 hb S1 hq
      by_cases hyx : t < x.at'
      · have hp : pastP x.at' t = 1 := by simp [pastP, hyx]
        rw [hp]
        have I2 : Aside ((∀ i x, i < lo → l[i]? = some x → x.at' ≤ t) ∧ (∀ i x, m ≤ i → l[i]? = some x → t < x.at')) := by
          refine ⟨I.out.1, fun i y h1 h2 => ?_⟩
          have := rise_get S.out X.out h2 h1
          omega
        clear I X hp hyx
        go_wp2_with fail
        obtain ⟨h1, h2, h3, h4, h5, h6, h7, h8⟩ := HF.out
        clear hmid hmnI hm0
        go_roundg (m - lo)
        case rel => exact ⟨lo, m, rfl, rfl, by omega, by omega, Nat.le_refl _, S2, I2⟩
        case measure => omega
      · have hp : pastP x.at' t = -1 := by simp [pastP, hyx]
        rw [hp]
        have I2 : Aside ((∀ i x, i < m + 1 → l[i]? = some x → x.at' ≤ t) ∧ (∀ i x, hi ≤ i → l[i]? = some x → t < x.at')) := by
          refine ⟨fun i y h1 h2 => ?_, I.out.2⟩
          have := rise_get S.out h2 X.out (by omega)
          omega
        clear I X hp hyx
        go_wp2_with fail
        obtain ⟨h1, h2, h3, h4, h5, h6, h7, h8⟩ := HF.out
        clear hmid hmnI hm0
        go_roundg (hi - (m + 1))
        case rel => exact ⟨m + 1, hi, by simp [IntWalk.wrap64_in], rfl, by omega, by omega, Nat.le_refl _, S2, I2⟩
        case measure => omega
    · obtain rfl : lo = hi := by omega
      have hun : u = lo := by
        rw [← HU.out]
        exact upTo_eq lo (by have := HN.out; omega) I.out.1 I.out.2
      subst hun
      clear I HU hg hlt hlh
      by_cases hln : u < n
      · have hlnI : (u : Int) < (n : Int) := by omega
        have hu0 : (0 : Int) ≤ (u : Int) := by omega
        obtain ⟨g, o, rfl, hgl, hcell⟩ := A.out (by have := HN.out; omega)
        obtain ⟨x, hx⟩ : ∃ x, l[u]? = some x := ⟨_, List.getElem?_eq_getElem (by have := HN.out; omega)⟩
        obtain ⟨c0, c1, c2⟩ := hcell _ _ hx
        have hcw : ∀ i, wr.cell? ⟨g, i, none⟩ = w.cell? ⟨g, i, none⟩ := fun i => cell_of_block (S1.out.block g hgl)
        rw [← hcw] at c0 c1 c2
        have P := past_any x.at' t wr
        have PM := past_m wr x.at' x.val x.gone
        clear hcell hcw hx hln hc hin hf
        go_wp2_with fail
        refine P.mono ?_
        rintro e w2 ⟨rfl, hb⟩
        have S2 : Below w.heap.size w w2 := S1.out.trans (hb.mono S1.out.size)
        clear P PM c0 c1 c2 hb S1
        generalize pastP x.at' t = pv
        go_wp2_with fail
        exact bodyPost_ret (v := .tuple #[.int .i64 u, .bool (pv == 0)]) (by simp [results, Try.results55, go_sem]) rfl ⟨⟨_, rfl⟩, S2⟩
      · obtain rfl : u = n := by omega
        clear hln hin hf hc
        go_wp2_with fail
        exact bodyPost_ret (v := .tuple #[.int .i64 u, .bool false]) (by simp [results, Try.results55, go_sem]) rfl ⟨⟨_, rfl⟩, S1.out⟩
end Go.Proofs.Ytcnajkclbmddgaa
