/- container/heap's up. -/
import Derived.Test.YtcnajkclbmddgaaMeth
import Derived.Deep.LoopGhost
namespace Go.Proofs.Ytcnajkclbmddgaa
open Go.ChangeShapes Go.WideShapes Go.ChangeAt Go.RowKit
open Go.Sort (grow)
set_option linter.unusedVariables false
set_option linter.unusedSimpArgs false

theorem Only.of_below' {w w' : World} (h : Below w.heap.size w w') (F : Nat → Prop) : Only F w w' := ⟨h.os, h.tape, h.output, h.size, fun k hk _ => h.block k hk⟩
theorem Only.then {F : Nat → Prop} {a b c : World} (h : Only F a b) (k : Only F b c) : Only F a c := h.trans k (fun _ _ h => h)
theorem Only.cell {F : Nat → Prop} {w w' : World} (h : Only F w w') {a : Addr} {v : Value} (hc : w.cell? a = some v) (hn : ¬ F a.block) : w'.cell? a = some v :=
  (cell_of_block (h.block a.block (block_lt hc) hn)).trans hc
theorem HistAt.only {F : Nat → Prop} {w w' : World} {h : Hi} (H : HistAt w h) (O : Only F w w') (h1 : ¬ F h.blk) (h2 : ∀ g, h.row.ownBlock = some g → ¬ F g) : HistAt w' h :=
  H.of_block (O.block _ H.blk.lt h1) (fun g hg => O.block _ (H.row.lt g hg).2 (h2 g hg))

def nx (hi : Nat → Hi) (b : Nat) : Int := nextP (hi b).live

/-- What lies apart: the row's block, the place where the row is held, the histories. -/
def ApartD (v : Value) (q : Addr) (l : List Nat) (hi : Nat → Hi) : Prop := ∀ g, v.ownBlock = some g → g ≠ q.block ∧ ∀ b ∈ l, g ≠ b ∧ (hi b).row.ownBlock ≠ some g

theorem DueAt.swapped {w w' : World} {v : Value} {l l' : List Nat} {hi : Nat → Hi} {q : Addr} (D : DueAt w v l hi) (A : ApartD v q l hi) (hp : l'.Perm l) (hr : w'.ownsRow 0 76 1 v l.length (ptrs l')) (O : Only (fun k => v.ownBlock = some k) w w') : DueAt w' v l' hi := by
  refine ⟨by rw [hp.length_eq]; exact hr, fun b hb => ?_, by rw [hp.length_eq]; exact D.few⟩
  have hb := hp.mem_iff.1 hb
  obtain ⟨h1, h2, h3⟩ := D.his b hb
  refine ⟨h1, h2.only O (fun e => ?_) (fun g hg e => ((A g e).2 b hb).2 hg), h3⟩
  rw [h1] at e
  exact ((A b e).2 b hb).1 rfl

theorem ApartD.perm {v : Value} {q : Addr} {l l' : List Nat} {hi : Nat → Hi} (A : ApartD v q l hi) (hp : l'.Perm l) : ApartD v q l' hi :=
  fun g hg => ⟨(A g hg).1, fun b hb => (A g hg).2 b (hp.mem_iff.1 hb)⟩

set_option maxHeartbeats 1600000 in
set_option maxRecDepth 20000 in
theorem up_any (q : Addr) (v : Value) (l : List Nat) (hi : Nat → Hi) (j : Nat) (w : World) (hq : w.cell? q = some v) (D : DueAt w v l hi) (A : ApartD v q l hi) (hj : j < l.length) (U : UpInv (keyL (nx hi) l) j l.length) :
    Calls Try.prog 56 #[.iface 92 (.pointer (some q)), .int .i64 j] w fun e w' => e = .returned (.tuple #[]) ∧
      ∃ l', l'.Perm l ∧ HeapOn (keyL (nx hi) l') l.length ∧ w'.ownsRow 0 76 1 v l.length (ptrs l') ∧ Only (fun k => v.ownBlock = some k) w w' := by
  have hfew := D.few
  go_enter Try.func56, Try.ntmps56
  go_wp2_with fail
  go_loopg [1] j (fun kx s1 wr => ∃ (j1 : Nat) (l1 : List Nat), s1 = .int .i64 j1 ∧ j1 ≤ kx ∧ j1 < l.length ∧ l1.Perm l ∧ Hid (UpInv (keyL (nx hi) l1) j1 l.length) ∧ Hid (wr.ownsRow 0 76 1 v l.length (ptrs l1)) ∧ Hid (Only (fun k => v.ownBlock = some k) w wr))
  case atStart => exact ⟨j, l, rfl, Nat.le_refl _, hj, List.Perm.refl _, U, D.row, Only.refl _ _⟩
  case round =>
    obtain ⟨j1, l1, rfl, hg, hjl, hp, U1, R1, O1⟩ := hrel
    have hl1 := hp.length_eq
    have D1 := D.swapped A hp R1.out O1.out
    have hq1 : wr.cell? q = some v := O1.out.cell hq (fun e => (A _ e).1 rfl)
    by_cases h0 : j1 = 0
    · subst h0
      have hh : Hid (∃ l', l'.Perm l ∧ HeapOn (keyL (nx hi) l') l.length ∧ wr.ownsRow 0 76 1 v l.length (ptrs l') ∧ Only (fun k => v.ownBlock = some k) w wr) := ⟨l1, hp, up_done U1.out (.inl rfl), R1.out, O1.out⟩
      clear U1 R1 O1 D1 hq1 D A U hq hfew hj hjl hl1 hp hg
      go_wp2_with fail
      go_end0
      exact ⟨rfl, hh.out⟩
    · obtain ⟨a, ha⟩ : ∃ a, l1[j1]? = some a := ⟨_, List.getElem?_eq_getElem (by omega)⟩
      obtain ⟨b, hb⟩ : ∃ b, l1[(j1 - 1) / 2]? = some b := ⟨_, List.getElem?_eq_getElem (by omega)⟩
      have L := less_any v l1 hi j1 ((j1 - 1) / 2) a b wr D1 ha hb
      have LM := less_m wr q v hq1
      generalize hpe : (j1 - 1) / 2 = p at *
      have hj1e : (j1 : Int) - 1 = ((j1 - 1 : Nat) : Int) := by omega
      obtain ⟨m, hm⟩ : ∃ m, wrap64 ((j1 : Int) - 1) = m := ⟨_, rfl⟩
      have hm1 : m = ((j1 - 1 : Nat) : Int) := by rw [← hm, IntWalk.wrap64_in _ (by omega)]; omega
      have hm2 : wrap64 (m.tdiv 2) = (p : Int) := by
        have : m.tdiv 2 = (p : Int) := by rw [hm1, Int.tdiv_eq_ediv_of_nonneg (by omega)]; omega
        rw [this, IntWalk.wrap64_in _ (by omega)]
      have hpj : ((p : Int) == (j1 : Int)) = false := by simp; omega
      have HF : Hid (l.length < 1000000 ∧ j1 < l.length ∧ j1 ≤ gk ∧ ¬ j1 = 0 ∧ l1.length = l.length ∧ p < j1 ∧ (j1 - 1) / 2 = p) := ⟨hfew, hjl, hg, h0, hl1, by omega, hpe⟩
      have HP : Hid (l1.Perm l) := hp
      have HK : Hid (keyL (nx hi) l1 j1 = nextP (hi a).live ∧ keyL (nx hi) l1 p = nextP (hi b).live) := by
        constructor
        · unfold keyL nx; rw [List.getD_eq_getElem?_getD, ha]; rfl
        · unfold keyL nx; rw [List.getD_eq_getElem?_getD, hb]; rfl
      clear hfew hjl hg h0 hl1 hj hp U ha hb D hj1e hm1 hpe
      go_wp2_with fail
      refine L.mono ?_
      rintro e w2 ⟨rfl, hb2⟩
      have O2 : Only (fun k => v.ownBlock = some k) w w2 := O1.out.then (Only.of_below' hb2 _)
      have R2 : w2.ownsRow 0 76 1 v l.length (ptrs l1) := row_thru R1.out (fun g hg => hb2.block g (R1.out.lt g hg).2)
      have hq2 := kept_cell hb2 hq1
      clear L LM hq1 D1 O1 R1 hb2
      by_cases hlt : nextP (hi a).live < nextP (hi b).live
      · have hd : decide (nextP (hi a).live < nextP (hi b).live) = true := decide_eq_true hlt
        rw [hd]
        have S := swap_any v l1 p j1 w2 (by rw [HF.out.2.2.2.2.1]; exact R2) (by have := HF.out; omega) (by have := HF.out; omega) (by have := HF.out; omega)
        have SM := swap_m w2 q v hq2
        have HL : Hid (keyL (nx hi) l1 j1 < keyL (nx hi) l1 p) := by rw [HK.out.1, HK.out.2]; exact hlt
        have O2 : Hid _ := O2
        clear hd hlt HK R2
        go_wp2_with fail
        refine S.mono ?_
        rintro e w3 ⟨rfl, R3, O3⟩
        clear S SM
        obtain ⟨f1, f2, f3, f4, f5, f6, f7⟩ := HF.out
        go_wp2_with fail
        go_roundg p
        case rel =>
          refine ⟨p, swapL l1 p j1, rfl, Nat.le_refl _, by omega, (swapL_perm (by omega) (by omega)).trans HP.out, ?_, ?_, O2.out.then O3⟩
          · show UpInv _ _ _
            rw [keyL_swap _ (by omega) (by omega), ← f7]
            exact up_step U1.out (by omega) f2 (by rw [f7]; exact HL.out)
          · rw [f5] at R3
            exact R3
        case measure => omega
      · have hd : decide (nextP (hi a).live < nextP (hi b).live) = false := decide_eq_false hlt
        rw [hd]
        have hh : Hid (∃ l', l'.Perm l ∧ HeapOn (keyL (nx hi) l') l.length ∧ w2.ownsRow 0 76 1 v l.length (ptrs l') ∧ Only (fun k => v.ownBlock = some k) w w2) :=
          ⟨l1, HP.out, up_done U1.out (.inr (by rw [HF.out.2.2.2.2.2.2, HK.out.1, HK.out.2]; omega)), R2, O2⟩
        clear hd hlt R2 O2 HK HP HF U1
        go_wp2_with fail
        go_end0
        exact ⟨rfl, hh.out⟩
end Go.Proofs.Ytcnajkclbmddgaa
