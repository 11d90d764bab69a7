/- container/heap's up.
   container/heap's down.
   A heap made longer.
   A history put into the heap.
   The store in memory.
   A store made, and asked.
   A key's history: the one that is there, or a new one.
   What holds of a store between its calls; a history put into its heap.
   One write.
   Behind the history was made longer: put into the heap, or not.
   The program's put: one write.
   Commit.
   The store in memory is the store in plain words.
   A store that a law has made: its calls. -/
import Derived.Test.YtlncljfljjaacaaGreatDoorStA
import Derived.Deep.LoopGhost
import Derived.Carry
namespace Go.Proofs.YtlncljfljjaacaaGreatDoor
open Go.ChangeShapes Go.WideShapes Go.ChangeAt Go.RowKit
open Go.Sort (grow)
set_option linter.unusedVariables false
set_option linter.unusedSimpArgs false

theorem Only.of_below' {w w' : World} (h : Below w.heap.size w w') (F : Nat → Prop) : Only F w w' := ⟨h.os, h.tape, h.output, h.size, fun k hk _ => h.block k hk⟩
theorem Only.then {F : Nat → Prop} {a b c : World} (h : Only F a b) (k : Only F b c) : Only F a c := h.trans k (fun _ _ h => h)
theorem Only.cell {F : Nat → Prop} {w w' : World} (h : Only F w w') {a : Addr} {v : Value} (hc : w.cell? a = some v) (hn : ¬ F a.block) : w'.cell? a = some v :=
  (cell_of_block (h.block a.block (block_lt hc) hn)).trans hc
theorem HistAt.only {F : Nat → Prop} {w w' : World} {h : Hi} (H : HistAt w h) (O : Only F w w') (h1 : ¬ F h.blk) (h2 : ∀ g, h.row.ownBlock = some g → ¬ F g) : HistAt w' h :=
  H.of_block (O.block _ H.blk.lt h1) (fun g hg => O.block _ (H.row.lt g hg).2 (h2 g hg))

def nx (hi : Nat → Hi) (b : Nat) : Int := nextP (hi b).live

/-- What lies apart: the row's block, the place where the row is held, the histories. -/
def ApartD (v : Value) (q : Addr) (l : List Nat) (hi : Nat → Hi) : Prop := ∀ g, v.ownBlock = some g → g ≠ q.block ∧ ∀ b ∈ l, g ≠ b ∧ (hi b).row.ownBlock ≠ some g

theorem DueAt.swapped {w w' : World} {v : Value} {l l' : List Nat} {hi : Nat → Hi} {q : Addr} (D : DueAt w v l hi) (A : ApartD v q l hi) (hp : l'.Perm l) (hr : w'.ownsRow 0 135 1 v l.length (ptrs l')) (O : Only (fun k => v.ownBlock = some k) w w') : DueAt w' v l' hi := by
  refine ⟨by rw [hp.length_eq]; exact hr, fun b hb => ?_, by rw [hp.length_eq]; exact D.few⟩
  have hb := hp.mem_iff.1 hb
  obtain ⟨h1, h2, h3⟩ := D.his b hb
  refine ⟨h1, h2.only O (fun e => ?_) (fun g hg e => ((A g e).2 b hb).2 hg), h3⟩
  rw [h1] at e
  exact ((A b e).2 b hb).1 rfl

theorem ApartD.perm {v : Value} {q : Addr} {l l' : List Nat} {hi : Nat → Hi} (A : ApartD v q l hi) (hp : l'.Perm l) : ApartD v q l' hi :=
  fun g hg => ⟨(A g hg).1, fun b hb => (A g hg).2 b (hp.mem_iff.1 hb)⟩

set_option maxHeartbeats 1600000 in
set_option maxRecDepth 20000 in
theorem up_any (q : Addr) (v : Value) (l : List Nat) (hi : Nat → Hi) (j : Nat) (w : World) (hq : w.cell? q = some v) (D : DueAt w v l hi) (A : ApartD v q l hi) (hj : j < l.length) (U : UpInv (keyL (nx hi) l) j l.length) :
    Calls Tryz.prog 171 #[.iface 199 (.pointer (some q)), .int .i64 j] w fun e w' => e = .returned (.tuple #[]) ∧
      ∃ l', l'.Perm l ∧ HeapOn (keyL (nx hi) l') l.length ∧ w'.ownsRow 0 135 1 v l.length (ptrs l') ∧ Only (fun k => v.ownBlock = some k) w w' := by
  have hfew := D.few
  go_enter Tryz.func171, Tryz.ntmps171
  go_wp2_with fail
  go_loopg [1] j (fun kx s1 wr => ∃ (j1 : Nat) (l1 : List Nat), s1 = .int .i64 j1 ∧ j1 ≤ kx ∧ j1 < l.length ∧ l1.Perm l ∧ Hid (UpInv (keyL (nx hi) l1) j1 l.length) ∧ Hid (wr.ownsRow 0 135 1 v l.length (ptrs l1)) ∧ Hid (Only (fun k => v.ownBlock = some k) w wr))
  case atStart => exact ⟨j, l, rfl, Nat.le_refl _, hj, List.Perm.refl _, U, D.row, Only.refl _ _⟩
  case round =>
    obtain ⟨j1, l1, rfl, hg, hjl, hp, U1, R1, O1⟩ := hrel
    have hl1 := hp.length_eq
    have D1 := D.swapped A hp R1.out O1.out
    have hq1 : wr.cell? q = some v := O1.out.cell hq (fun e => (A _ e).1 rfl)
    by_cases h0 : j1 = 0
    · subst h0
      have hh : Hid (∃ l', l'.Perm l ∧ HeapOn (keyL (nx hi) l') l.length ∧ wr.ownsRow 0 135 1 v l.length (ptrs l') ∧ Only (fun k => v.ownBlock = some k) w wr) := ⟨l1, hp, up_done U1.out (.inl rfl), R1.out, O1.out⟩
      clear U1 R1 O1 D1 hq1 D A U hq hfew hj hjl hl1 hp hg
      go_wp2_with fail
      go_end0
      exact ⟨rfl, hh.out⟩
    · obtain ⟨a, ha⟩ : ∃ a, l1[j1]? = some a := ⟨_, List.getElem?_eq_getElem (by omega)⟩
      obtain ⟨b, hb⟩ : ∃ b, l1[(j1 - 1) / 2]? = some b := ⟨_, List.getElem?_eq_getElem (by omega)⟩
      have L := less_any v l1 hi j1 ((j1 - 1) / 2) a b wr D1 ha hb
      have LM := less_m wr q v hq1
      generalize hpe : (j1 - 1) / 2 = p at *
      have hj1e : (j1 : Int) - 1 = ((j1 - 1 : Nat) : Int) := by omega
      obtain ⟨m, hm⟩ : ∃ m, wrap64 ((j1 : Int) - 1) = m := ⟨_, rfl⟩
      have hm1 : m = ((j1 - 1 : Nat) : Int) := by rw [← hm, IntWalk.wrap64_in _ (by omega)]; omega
      have hm2 : wrap64 (m.tdiv 2) = (p : Int) := by
        have : m.tdiv 2 = (p : Int) := by rw [hm1, Int.tdiv_eq_ediv_of_nonneg (by omega)]; omega
        rw [this, IntWalk.wrap64_in _ (by omega)]
      have hpj : ((p : Int) == (j1 : Int)) = false := by simp; omega
      have HF : Hid (l.length < 1000000 ∧ j1 < l.length ∧ j1 ≤ gk ∧ ¬ j1 = 0 ∧ l1.length = l.length ∧ p < j1 ∧ (j1 - 1) / 2 = p) := ⟨hfew, hjl, hg, h0, hl1, by omega, hpe⟩
      have HP : Hid (l1.Perm l) := hp
      have HK : Hid (keyL (nx hi) l1 j1 = nextP (hi a).live ∧ keyL (nx hi) l1 p = nextP (hi b).live) := by
        constructor
        · unfold keyL nx; rw [List.getD_eq_getElem?_getD, ha]; rfl
        · unfold keyL nx; rw [List.getD_eq_getElem?_getD, hb]; rfl
      clear hfew hjl hg h0 hl1 hj hp U ha hb D hj1e hm1 hpe
      go_wp2_with fail
      refine L.mono ?_
      rintro e w2 ⟨rfl, hb2⟩
      have O2 : Only (fun k => v.ownBlock = some k) w w2 := O1.out.then (Only.of_below' hb2 _)
      have R2 : w2.ownsRow 0 135 1 v l.length (ptrs l1) := row_thru R1.out (fun g hg => hb2.block g (R1.out.lt g hg).2)
      have hq2 := kept_cell hb2 hq1
      clear L LM hq1 D1 O1 R1 hb2
      by_cases hlt : nextP (hi a).live < nextP (hi b).live
      · have hd : decide (nextP (hi a).live < nextP (hi b).live) = true := decide_eq_true hlt
        rw [hd]
        have S := swap_any v l1 p j1 w2 (by rw [HF.out.2.2.2.2.1]; exact R2) (by have := HF.out; omega) (by have := HF.out; omega) (by have := HF.out; omega)
        have SM := swap_m w2 q v hq2
        have HL : Hid (keyL (nx hi) l1 j1 < keyL (nx hi) l1 p) := by rw [HK.out.1, HK.out.2]; exact hlt
        have O2 : Hid _ := O2
        clear hd hlt HK R2
        go_wp2_with fail
        refine S.mono ?_
        rintro e w3 ⟨rfl, R3, O3⟩
        clear S SM
        obtain ⟨f1, f2, f3, f4, f5, f6, f7⟩ := HF.out
        go_wp2_with fail
        go_roundg p
        case rel =>
          refine ⟨p, swapL l1 p j1, rfl, Nat.le_refl _, by omega, (swapL_perm (by omega) (by omega)).trans HP.out, ?_, ?_, O2.out.then O3⟩
          · show UpInv _ _ _
            rw [keyL_swap _ (by omega) (by omega), ← f7]
            exact up_step U1.out (by omega) f2 (by rw [f7]; exact HL.out)
          · rw [f5] at R3
            exact R3
        case measure => omega
      · have hd : decide (nextP (hi a).live < nextP (hi b).live) = false := decide_eq_false hlt
        rw [hd]
        have hh : Hid (∃ l', l'.Perm l ∧ HeapOn (keyL (nx hi) l') l.length ∧ w2.ownsRow 0 135 1 v l.length (ptrs l') ∧ Only (fun k => v.ownBlock = some k) w w2) :=
          ⟨l1, HP.out, up_done U1.out (.inr (by rw [HF.out.2.2.2.2.2.2, HK.out.1, HK.out.2]; omega)), R2, O2⟩
        clear hd hlt R2 O2 HK HP HF U1
        go_wp2_with fail
        go_end0
        exact ⟨rfl, hh.out⟩
end Go.Proofs.YtlncljfljjaacaaGreatDoor

namespace Go.Proofs.YtlncljfljjaacaaGreatDoor
open Go.ChangeShapes Go.WideShapes Go.ChangeAt Go.RowKit
open Go.Sort (grow)
set_option linter.unusedVariables false
set_option linter.unusedSimpArgs false

theorem keyL_at {hi : Nat → Hi} {l : List Nat} {j a : Nat} (h : l[j]? = some a) : keyL (nx hi) l j = nextP (hi a).live := by
  unfold keyL nx; rw [List.getD_eq_getElem?_getD, h]; rfl

set_option maxHeartbeats 4000000 in
set_option maxRecDepth 20000 in
theorem down_any (q : Addr) (v : Value) (l : List Nat) (hi : Nat → Hi) (n : Nat) (w : World) (hq : w.cell? q = some v) (D : DueAt w v l hi) (A : ApartD v q l hi) (h0 : 0 < l.length) (hn : n ≤ l.length) (U : DownInv (keyL (nx hi) l) 0 n) :
    Calls Tryz.prog 169 #[.iface 199 (.pointer (some q)), .int .i64 0, .int .i64 n] w fun e w' => (∃ r, e = .returned (.bool r)) ∧
      ∃ l', l'.Perm l ∧ HeapOn (keyL (nx hi) l') n ∧ l'.getD n 0 = l.getD n 0 ∧ w'.ownsRow 0 135 1 v l.length (ptrs l') ∧ Only (fun k => v.ownBlock = some k) w w' := by
  have hfew := D.few
  go_enter Tryz.func169, Tryz.ntmps169
  go_wp2_with fail
  go_loopg [7] n (fun kx s7 wr => ∃ (i1 : Nat) (l1 : List Nat), s7 = .int .i64 i1 ∧ n - i1 ≤ kx ∧ i1 < l.length ∧ l1.Perm l ∧ Hid (DownInv (keyL (nx hi) l1) i1 n) ∧ Hid (l1.getD n 0 = l.getD n 0) ∧ Hid (wr.ownsRow 0 135 1 v l.length (ptrs l1)) ∧ Hid (Only (fun k => v.ownBlock = some k) w wr))
  case atStart => exact ⟨0, l, rfl, by omega, h0, List.Perm.refl _, U, rfl, D.row, Only.refl _ _⟩
  case round =>
    obtain ⟨i1, l1, rfl, hg, hil, hp, U1, N1, R1, O1⟩ := hrel
    have hl1 := hp.length_eq
    have D1 := D.swapped A hp R1.out O1.out
    have hq1 : wr.cell? q = some v := O1.out.cell hq (fun e => (A _ e).1 rfl)
    have hmulI : wrap64 (2 * (i1 : Int)) = ((2 * i1 : Nat) : Int) := by rw [IntWalk.wrap64_in _ (by omega)]; omega
    have haddI : wrap64 (((2 * i1 : Nat) : Int) + 1) = ((2 * i1 + 1 : Nat) : Int) := by rw [IntWalk.wrap64_in _ (by omega)]; omega
    generalize hm : 2 * i1 = m at hmulI haddI
    generalize hjj : m + 1 = jj at haddI
    by_cases hjn : jj < n
    · have hjnI : (jj : Int) < (n : Int) := by omega
      have hadd2 : wrap64 ((jj : Int) + 1) = ((jj + 1 : Nat) : Int) := by rw [IntWalk.wrap64_in _ (by omega)]; omega
      generalize hj2 : jj + 1 = j2 at hadd2
      have HF : Hid (l.length < 1000000 ∧ 2 * i1 + 1 = jj ∧ jj + 1 = j2 ∧ n - i1 ≤ gk ∧ jj < n ∧ n ≤ l.length ∧ l1.length = l.length ∧ i1 < l.length) := ⟨hfew, by omega, hj2, hg, hjn, hn, hl1, hil⟩
      have HP : Hid (l1.Perm l) := hp
      have hj0 : (0 : Int) ≤ (jj : Int) := by omega
      obtain ⟨ei, hei⟩ : ∃ a, l1[i1]? = some a := ⟨_, List.getElem?_eq_getElem (by omega)⟩
      obtain ⟨ej, hej⟩ : ∃ a, l1[jj]? = some a := ⟨_, List.getElem?_eq_getElem (by omega)⟩
      by_cases hjn2 : j2 < n
      · have hjn2I : (j2 : Int) < (n : Int) := by omega
        obtain ⟨e2, he2⟩ : ∃ a, l1[j2]? = some a := ⟨_, List.getElem?_eq_getElem (by omega)⟩
        have LM := less_m wr q v hq1
        have L := less_any v l1 hi j2 jj e2 ej wr D1 he2 hej
        have HN : Hid (j2 < n) := hjn2
        clear hm hjj hj2 hfew hg hjn hn hl1 hil hp h0 D U hjn2
        go_wp2_with fail
        refine L.mono ?_
        rintro e w2 ⟨rfl, hb2⟩
        have Ox : Hid (Only (fun k => v.ownBlock = some k) w w2) := O1.out.then (Only.of_below' hb2 _)
        have Rx : Hid (w2.ownsRow 0 135 1 v l.length (ptrs l1)) := row_thru R1.out (fun g hg => hb2.block g (R1.out.lt g hg).2)
        have hqx := kept_cell hb2 hq1
        have Dx := D1.below hb2
        clear hq1 O1 R1 hb2
        by_cases hlt0 : nextP (hi e2).live < nextP (hi ej).live
        · have hd0 : decide (nextP (hi e2).live < nextP (hi ej).live) = true := decide_eq_true hlt0
          rw [hd0]
          have HC : Hid ((j2 - 1) / 2 = i1 ∧ j2 < n ∧ ∀ k, 0 < k → k < n → (k - 1) / 2 = i1 → keyL (nx hi) l1 j2 ≤ keyL (nx hi) l1 k) := by
            obtain ⟨f1, f2, f3, f4, f5, f6, f7, f8⟩ := HF.out
            have k2 := keyL_at (hi := hi) he2
            have kj := keyL_at (hi := hi) hej
            refine ⟨by omega, HN.out, fun k k0 kn ke => ?_⟩
            have : k = jj ∨ k = j2 := by omega
            rcases this with rfl | rfl
            · omega
            · exact Int.le_refl _
          clear hd0 hlt0 hej HN
          have LM2 := less_m w2 q v hqx
          have L2 := less_any v l1 hi j2 i1 e2 ei w2 Dx he2 hei
          have HK : Hid (keyL (nx hi) l1 j2 = nextP (hi e2).live ∧ keyL (nx hi) l1 i1 = nextP (hi ei).live) := ⟨keyL_at he2, keyL_at hei⟩
          clear he2 hei Dx D1 L LM
          go_wp2_with fail
          refine L2.mono ?_
          rintro e w3 ⟨rfl, hb3⟩
          have O3 : Only (fun k => v.ownBlock = some k) w w3 := Ox.out.then (Only.of_below' hb3 _)
          have R3 : w3.ownsRow 0 135 1 v l.length (ptrs l1) := row_thru Rx.out (fun g hg => hb3.block g (Rx.out.lt g hg).2)
          have hq3 := kept_cell hb3 hqx
          clear L2 LM2 hqx Ox Rx hb3
          by_cases hlt : nextP (hi e2).live < nextP (hi ei).live
          · have hd : decide (nextP (hi e2).live < nextP (hi ei).live) = true := decide_eq_true hlt
            rw [hd]
            have S := swap_any v l1 i1 j2 w3 (by rw [HF.out.2.2.2.2.2.2.1]; exact R3) (by have := HF.out; omega) (by have := HF.out; omega) (by have := HF.out; have := HC.out; omega)
            have SM := swap_m w3 q v hq3
            have HL : Hid (keyL (nx hi) l1 j2 < keyL (nx hi) l1 i1) := by rw [HK.out.1, HK.out.2]; exact hlt
            have O3 : Hid (Only (fun k => v.ownBlock = some k) w w3) := O3
            clear hd hlt HK R3
            go_wp2_with fail
            refine S.mono ?_
            rintro e w4 ⟨rfl, R4, O4⟩
            clear S SM
            obtain ⟨f1, f2, f3, f4, f5, f6, f7, f8⟩ := HF.out
            obtain ⟨g1, g2, g3⟩ := HC.out
            go_wp2_with fail
            go_roundg (n - j2)
            case rel =>
              refine ⟨j2, swapL l1 i1 j2, rfl, Nat.le_refl _, by omega, (swapL_perm (by omega) (by omega)).trans HP.out, ?_, ?_, ?_, O3.out.then O4⟩
              · show DownInv _ _ _
                rw [keyL_swap _ (by omega) (by omega)]
                exact down_step U1.out g1 (by omega) g2 g3 HL.out
              · show (swapL l1 i1 j2).getD n 0 = _
                rw [swapL_get (by omega) (by omega), if_neg (by omega), if_neg (by omega)]
                exact N1.out
              · rw [f7] at R4
                exact R4
            case measure => omega
          · have hd : decide (nextP (hi e2).live < nextP (hi ei).live) = false := decide_eq_false hlt
            rw [hd]
            have hh : Hid (∃ l', l'.Perm l ∧ HeapOn (keyL (nx hi) l') n ∧ l'.getD n 0 = l.getD n 0 ∧ w3.ownsRow 0 135 1 v l.length (ptrs l') ∧ Only (fun k => v.ownBlock = some k) w w3) :=
              ⟨l1, HP.out, down_done U1.out (fun k k0 kn e => by have h1 := HC.out.2.2 k k0 kn e; have h2 := HK.out; omega), N1.out, R3, O3⟩
            clear hd hlt R3 O3 HK HP HC U1 N1
            go_wp2_with fail
            go_ret
            exact ⟨⟨_, rfl⟩, hh.out⟩
        · have hd0 : decide (nextP (hi e2).live < nextP (hi ej).live) = false := decide_eq_false hlt0
          rw [hd0]
          have HC : Hid ((jj - 1) / 2 = i1 ∧ jj < n ∧ ∀ k, 0 < k → k < n → (k - 1) / 2 = i1 → keyL (nx hi) l1 jj ≤ keyL (nx hi) l1 k) := by
            obtain ⟨f1, f2, f3, f4, f5, f6, f7, f8⟩ := HF.out
            have k2 := keyL_at (hi := hi) he2
            have kj := keyL_at (hi := hi) hej
            refine ⟨by omega, f5, fun k k0 kn ke => ?_⟩
            have : k = jj ∨ k = j2 := by omega
            rcases this with rfl | rfl
            · exact Int.le_refl _
            · omega
          clear hd0 hlt0 he2 HN
          have LM2 := less_m w2 q v hqx
          have L2 := less_any v l1 hi jj i1 ej ei w2 Dx hej hei
          have HK : Hid (keyL (nx hi) l1 jj = nextP (hi ej).live ∧ keyL (nx hi) l1 i1 = nextP (hi ei).live) := ⟨keyL_at hej, keyL_at hei⟩
          clear hej hei Dx D1 L LM
          go_wp2_with fail
          refine L2.mono ?_
          rintro e w3 ⟨rfl, hb3⟩
          have O3 : Only (fun k => v.ownBlock = some k) w w3 := Ox.out.then (Only.of_below' hb3 _)
          have R3 : w3.ownsRow 0 135 1 v l.length (ptrs l1) := row_thru Rx.out (fun g hg => hb3.block g (Rx.out.lt g hg).2)
          have hq3 := kept_cell hb3 hqx
          clear L2 LM2 hqx Ox Rx hb3
          by_cases hlt : nextP (hi ej).live < nextP (hi ei).live
          · have hd : decide (nextP (hi ej).live < nextP (hi ei).live) = true := decide_eq_true hlt
            rw [hd]
            have S := swap_any v l1 i1 jj w3 (by rw [HF.out.2.2.2.2.2.2.1]; exact R3) (by have := HF.out; omega) (by have := HF.out; omega) (by have := HF.out; have := HC.out; omega)
            have SM := swap_m w3 q v hq3
            have HL : Hid (keyL (nx hi) l1 jj < keyL (nx hi) l1 i1) := by rw [HK.out.1, HK.out.2]; exact hlt
            have O3 : Hid (Only (fun k => v.ownBlock = some k) w w3) := O3
            clear hd hlt HK R3
            go_wp2_with fail
            refine S.mono ?_
            rintro e w4 ⟨rfl, R4, O4⟩
            clear S SM
            obtain ⟨f1, f2, f3, f4, f5, f6, f7, f8⟩ := HF.out
            obtain ⟨g1, g2, g3⟩ := HC.out
            go_wp2_with fail
            go_roundg (n - jj)
            case rel =>
              refine ⟨jj, swapL l1 i1 jj, rfl, Nat.le_refl _, by omega, (swapL_perm (by omega) (by omega)).trans HP.out, ?_, ?_, ?_, O3.out.then O4⟩
              · show DownInv _ _ _
                rw [keyL_swap _ (by omega) (by omega)]
                exact down_step U1.out g1 (by omega) g2 g3 HL.out
              · show (swapL l1 i1 jj).getD n 0 = _
                rw [swapL_get (by omega) (by omega), if_neg (by omega), if_neg (by omega)]
                exact N1.out
              · rw [f7] at R4
                exact R4
            case measure => omega
          · have hd : decide (nextP (hi ej).live < nextP (hi ei).live) = false := decide_eq_false hlt
            rw [hd]
            have hh : Hid (∃ l', l'.Perm l ∧ HeapOn (keyL (nx hi) l') n ∧ l'.getD n 0 = l.getD n 0 ∧ w3.ownsRow 0 135 1 v l.length (ptrs l') ∧ Only (fun k => v.ownBlock = some k) w w3) :=
              ⟨l1, HP.out, down_done U1.out (fun k k0 kn e => by have h1 := HC.out.2.2 k k0 kn e; have h2 := HK.out; omega), N1.out, R3, O3⟩
            clear hd hlt R3 O3 HK HP HC U1 N1
            go_wp2_with fail
            go_ret
            exact ⟨⟨_, rfl⟩, hh.out⟩
      · have hjn2I : (n : Int) ≤ (j2 : Int) := by omega
        have HC : Hid ((jj - 1) / 2 = i1 ∧ jj < n ∧ ∀ k, 0 < k → k < n → (k - 1) / 2 = i1 → keyL (nx hi) l1 jj ≤ keyL (nx hi) l1 k) := by
          obtain ⟨f1, f2, f3, f4, f5, f6, f7, f8⟩ := HF.out
          refine ⟨by omega, f5, fun k k0 kn ke => ?_⟩
          obtain rfl : k = jj := by omega
          exact Int.le_refl _
        have Ox := O1
        have Rx := R1
        have hqx := hq1
        have Dx := D1
        have L := trivial
        have LM := trivial
        clear hm hjj hj2 hfew hg hjn hn hl1 hil hp h0 D U hjn2 hq1 O1 R1
        have LM2 := less_m wr q v hqx
        have L2 := less_any v l1 hi jj i1 ej ei wr Dx hej hei
        have HK : Hid (keyL (nx hi) l1 jj = nextP (hi ej).live ∧ keyL (nx hi) l1 i1 = nextP (hi ei).live) := ⟨keyL_at hej, keyL_at hei⟩
        clear hej hei Dx D1 L LM
        go_wp2_with fail
        refine L2.mono ?_
        rintro e w3 ⟨rfl, hb3⟩
        have O3 : Only (fun k => v.ownBlock = some k) w w3 := Ox.out.then (Only.of_below' hb3 _)
        have R3 : w3.ownsRow 0 135 1 v l.length (ptrs l1) := row_thru Rx.out (fun g hg => hb3.block g (Rx.out.lt g hg).2)
        have hq3 := kept_cell hb3 hqx
        clear L2 LM2 hqx Ox Rx hb3
        by_cases hlt : nextP (hi ej).live < nextP (hi ei).live
        · have hd : decide (nextP (hi ej).live < nextP (hi ei).live) = true := decide_eq_true hlt
          rw [hd]
          have S := swap_any v l1 i1 jj w3 (by rw [HF.out.2.2.2.2.2.2.1]; exact R3) (by have := HF.out; omega) (by have := HF.out; omega) (by have := HF.out; have := HC.out; omega)
          have SM := swap_m w3 q v hq3
          have HL : Hid (keyL (nx hi) l1 jj < keyL (nx hi) l1 i1) := by rw [HK.out.1, HK.out.2]; exact hlt
          have O3 : Hid (Only (fun k => v.ownBlock = some k) w w3) := O3
          clear hd hlt HK R3
          go_wp2_with fail
          refine S.mono ?_
          rintro e w4 ⟨rfl, R4, O4⟩
          clear S SM
          obtain ⟨f1, f2, f3, f4, f5, f6, f7, f8⟩ := HF.out
          obtain ⟨g1, g2, g3⟩ := HC.out
          go_wp2_with fail
          go_roundg (n - jj)
          case rel =>
            refine ⟨jj, swapL l1 i1 jj, rfl, Nat.le_refl _, by omega, (swapL_perm (by omega) (by omega)).trans HP.out, ?_, ?_, ?_, O3.out.then O4⟩
            · show DownInv _ _ _
              rw [keyL_swap _ (by omega) (by omega)]
              exact down_step U1.out g1 (by omega) g2 g3 HL.out
            · show (swapL l1 i1 jj).getD n 0 = _
              rw [swapL_get (by omega) (by omega), if_neg (by omega), if_neg (by omega)]
              exact N1.out
            · rw [f7] at R4
              exact R4
          case measure => omega
        · have hd : decide (nextP (hi ej).live < nextP (hi ei).live) = false := decide_eq_false hlt
          rw [hd]
          have hh : Hid (∃ l', l'.Perm l ∧ HeapOn (keyL (nx hi) l') n ∧ l'.getD n 0 = l.getD n 0 ∧ w3.ownsRow 0 135 1 v l.length (ptrs l') ∧ Only (fun k => v.ownBlock = some k) w w3) :=
            ⟨l1, HP.out, down_done U1.out (fun k k0 kn e => by have h1 := HC.out.2.2 k k0 kn e; have h2 := HK.out; omega), N1.out, R3, O3⟩
          clear hd hlt R3 O3 HK HP HC U1 N1
          go_wp2_with fail
          go_ret
          exact ⟨⟨_, rfl⟩, hh.out⟩
    · have hh : Hid (∃ l', l'.Perm l ∧ HeapOn (keyL (nx hi) l') n ∧ l'.getD n 0 = l.getD n 0 ∧ wr.ownsRow 0 135 1 v l.length (ptrs l') ∧ Only (fun k => v.ownBlock = some k) w wr) :=
        ⟨l1, hp, down_done U1.out (fun k k0 kn e => by omega), N1.out, R1.out, O1.out⟩
      have hjnI : (n : Int) ≤ (jj : Int) := by omega
      clear U1 N1 R1 O1 D1 hq1 D A U hq hfew hil hl1 hp hg hm hjj hjn hn h0
      go_wp2_with fail
      go_ret
      exact ⟨⟨_, rfl⟩, hh.out⟩
end Go.Proofs.YtlncljfljjaacaaGreatDoor

namespace Go.Proofs.YtlncljfljjaacaaGreatDoor
open Go.ChangeShapes Go.WideShapes Go.ChangeAt Go.RowKit
open Go.Sort (grow)
set_option linter.unusedVariables false
set_option linter.unusedSimpArgs false

theorem info_ptr : (Tryz.prog.info? 135).map (fun i => (i.zero, i.size, i.bytes)) = some (some (.pointer none), 1, 8) := by kernel_rfl

theorem len_any (v : Value) (n : Nat) (w : World) (h : ∃ a c, v = .slice a n c) : Calls Tryz.prog 394 #[v] w fun e w' => e = .returned (.int .i64 n) ∧ w' = w := by
  obtain ⟨a, c, rfl⟩ := h
  go_enter Tryz.func394, Tryz.ntmps394
  go_wp2_with fail
  go_ret
  exact ⟨rfl, rfl⟩

theorem own_slice {w : World} {base : Nat} {e : TypeId} {size : Nat} {v : Value} {n : Nat} {xs : List Value} (h : w.ownsRow base e size v n xs) : ∃ a c, v = .slice a n c := by
  rcases h.2 with ⟨rfl, rfl⟩ | ⟨g, cap, cur, rfl, _⟩
  · exact ⟨_, _, rfl⟩
  · exact ⟨_, _, rfl⟩

theorem assert_m (w : World) (v : Value) : Sem.run Tryz.prog (Instr.typeAssert (.iface 135 v) 20 135 true) w = .ok (.tuple #[v, .bool true]) w := by kernel_rfl

set_option maxHeartbeats 1600000 in
set_option maxRecDepth 20000 in
theorem push_any (p b : Nat) (cs : Array Value) (v : Value) (l : List Nat) (w : World) (B : Blk w p cs 66) (hc : cs[5]? = some v) (hrow : w.ownsRow 0 135 1 v l.length (ptrs l)) (hne : v.ownBlock ≠ some p) (hf : l.length < 999999) :
    Calls Tryz.prog 399 #[.pointer (some ⟨p, 5, none⟩), .iface 135 (.pointer (some ⟨b, 0, none⟩))] w fun e w' => e = .returned (.tuple #[]) ∧
      ∃ v', Blk w' p (cs.setIfInBounds 5 v') 66 ∧ w'.ownsRow 0 135 1 v' (l ++ [b]).length (ptrs (l ++ [b])) ∧ Only (fun k => k = p ∨ v.ownBlock = some k) w w' ∧ ∀ g, v'.ownBlock = some g → v.ownBlock = some g ∨ w.heap.size ≤ g := by
  have c1 := B.cell hc
  have f1 := B.thawed 5
  have hX := B.lt
  obtain ⟨i0, hi0, hz0, hz2, hz3⟩ := info_parts info_ptr
  replace hf : Hid (l.length < 999999) := hf
  have TA := assert_m w (.pointer (some ⟨b, 0, none⟩))
  have B1 := below_new w (.cells #[.pointer (some ⟨b, 0, none⟩)] 135)
  have c1A := kept_cell B1 c1
  have f1A := kept_thawed B1 hX f1
  have hblkA : Blk (w.alloc (.cells #[.pointer (some ⟨b, 0, none⟩)] 135)) p cs 66 := B.of_block (B1.block p hX)
  have hB : Hid (Blk w p cs 66) := B
  clear B
  go_enter Tryz.func399, Tryz.ntmps399
  go_wp2_with (at_builtin; refine wpList_append_lies _ rfl _ _ _ rfl 0 135 i0 (.pointer none) 1 8 Tryz.underlying64 hi0 hz0 hz2 hz3 rfl (by decide) v l.length (ptrs l) rfl (hrow.alloc _) ⟨w.heap.size, 0, none⟩ 1 1 [.pointer (some ⟨b, 0, none⟩)] rfl rfl (World.news_of_block (cs := #[.pointer (some ⟨b, 0, none⟩)]) (t := 135) (fr := (0, 0)) (heap_alloc_new w _)) (by simp [Value.oneCell']) (by omega) (by have := hf.out; unfold maxLen; omega) (by have := hf.out; omega) (Nat.zero_le _) (w.heap.size + 1) (by simp) ?_; intro g cap w6 hown6 hgrow hat hlt6; have x6 := hgrow.cell c1A (Ne.symm hne); have th6 : w6.frozen? ⟨p, 5, none⟩ = false := (hgrow.frozen_far ⟨p, 5, none⟩ (Nat.lt_of_lt_of_le hX B1.size) (Ne.symm hne)).trans f1A)
  go_end0
  have hb6 : Blk w6 p cs 66 := hblkA.of_block (hgrow.block p (Nat.lt_of_lt_of_le hX B1.size) (Ne.symm hne))
  have hgb : p ≠ g := by
    rintro rfl
    rcases hat with h | h
    · exact hne h
    · omega
  refine ⟨rfl, _, hb6.set 5 _, ?_, ?_, ?_⟩
  · have := ownsRow_setCell_other hown6 (a := ⟨p, 5, none⟩) (by simpa [Value.ownBlock] using Ne.symm hgb) (.slice (some ⟨g, 0, none⟩) (l.length + 1) cap)
    simpa [ptrs, ptrV] using this
  · refine ⟨hgrow.os.trans B1.os, hgrow.tape.trans B1.tape, hgrow.output.trans B1.output, ?_, fun k hk hn => ?_⟩
    · have := hgrow.size
      have := B1.size
      simp [World.setCell] at *
      omega
    · rw [Below.heap_setCell _ _ _ _ (fun e => hn (.inl e)), hgrow.block k (Nat.lt_of_lt_of_le hk B1.size) (fun e => hn (.inr e.symm)), B1.block k hk]
  · intro g' hg'
    simp [Value.ownBlock] at hg'
    subst hg'
    rcases hat with h | h
    · exact .inl h
    · right; omega
end Go.Proofs.YtlncljfljjaacaaGreatDoor

namespace Go.Proofs.YtlncljfljjaacaaGreatDoor
open Go.ChangeShapes Go.WideShapes Go.ChangeAt Go.RowKit
open Go.Sort (grow)
set_option linter.unusedVariables false
set_option linter.unusedSimpArgs false

structure Apt (p : Nat) (v : Value) (l : List Nat) (hi : Nat → Hi) : Prop where
  own : v.ownBlock ≠ some p
  his : ∀ b ∈ l, b ≠ p ∧ (hi b).row.ownBlock ≠ some p ∧ ∀ g, v.ownBlock = some g → g ≠ b ∧ (hi b).row.ownBlock ≠ some g

theorem Apt.apart {p i : Nat} {v : Value} {l : List Nat} {hi : Nat → Hi} (A : Apt p v l hi) : ApartD v ⟨p, i, none⟩ l hi :=
  fun g hg => ⟨fun e => A.own (by rw [hg, e]), fun b hb => (A.his b hb).2.2 g hg⟩

theorem Apt.perm {p : Nat} {v : Value} {l l' : List Nat} {hi : Nat → Hi} (A : Apt p v l hi) (hp : l'.Perm l) : Apt p v l' hi :=
  ⟨A.own, fun b hb => A.his b (hp.mem_iff.1 hb)⟩

/-- The row moved to another block: an elder one of its own, or a new one. -/
theorem Apt.moved {p : Nat} {v v' : Value} {l : List Nat} {hi : Nat → Hi} {w : World} (A : Apt p v l hi) (hw : p < w.heap.size) (hH : ∀ b ∈ l, HistAt w (hi b) ∧ (hi b).blk = b) (h : ∀ g, v'.ownBlock = some g → v.ownBlock = some g ∨ w.heap.size ≤ g) : Apt p v' l hi := by
  refine ⟨fun e => ?_, fun b hb => ⟨(A.his b hb).1, (A.his b hb).2.1, fun g hg => ?_⟩⟩
  · rcases h p e with h | h
    · exact A.own h
    · omega
  · rcases h g hg with h | h
    · exact (A.his b hb).2.2 g h
    · obtain ⟨H, e⟩ := hH b hb
      have h1 := H.blk.lt
      refine ⟨by omega, fun e2 => ?_⟩
      have := (H.row.lt g e2).2
      omega

set_option maxHeartbeats 1600000 in
set_option maxRecDepth 20000 in
theorem heapPush_any (p b : Nat) (cs : Array Value) (v : Value) (l : List Nat) (hi : Nat → Hi) (w : World) (B : Blk w p cs 66) (hc : cs[5]? = some v) (D : DueAt w v l hi) (A : Apt p v (l ++ [b]) hi)
    (hb : (hi b).blk = b ∧ HistAt w (hi b) ∧ waitsP (hi b).live = true) (HH : HeapOn (keyL (nx hi) l) l.length) (hf : l.length < 999999) :
    Calls Tryz.prog 142 #[.iface 199 (.pointer (some ⟨p, 5, none⟩)), .iface 135 (.pointer (some ⟨b, 0, none⟩))] w fun e w' => e = .returned (.tuple #[]) ∧
      ∃ v' l', l'.Perm (l ++ [b]) ∧ HeapOn (keyL (nx hi) l') l'.length ∧ Blk w' p (cs.setIfInBounds 5 v') 66 ∧ DueAt w' v' l' hi ∧ Only (fun k => k = p ∨ v.ownBlock = some k) w w' ∧ ∀ g, v'.ownBlock = some g → v.ownBlock = some g ∨ w.heap.size ≤ g := by
  have P := push_any p b cs v l w B hc D.row A.own hf
  have PM := push_m w ⟨p, 5, none⟩
  have hpl := B.lt
  have hH : ∀ x ∈ l ++ [b], HistAt w (hi x) ∧ (hi x).blk = x ∧ waitsP (hi x).live = true := by
    intro x hx
    rcases List.mem_append.1 hx with h | h
    · obtain ⟨h1, h2, h3⟩ := D.his x h; exact ⟨h2, h1, h3⟩
    · obtain rfl : x = b := by simpa using h
      exact ⟨hb.2.1, hb.1, hb.2.2⟩
  have hc5 : 5 < cs.size := (Array.getElem?_eq_some_iff.1 hc).1
  -- what stands behind the push
  have K1 : Hid (∀ w1 v1, Blk w1 p (cs.setIfInBounds 5 v1) 66 → w1.ownsRow 0 135 1 v1 (l ++ [b]).length (ptrs (l ++ [b])) → Only (fun k => k = p ∨ v.ownBlock = some k) w w1 → (∀ g, v1.ownBlock = some g → v.ownBlock = some g ∨ w.heap.size ≤ g) →
      DueAt w1 v1 (l ++ [b]) hi ∧ Apt p v1 (l ++ [b]) hi) := by
    intro w1 v1 B1 R1 O1 G1
    refine ⟨⟨R1, fun x hx => ?_, by simp; omega⟩, A.moved hpl (fun x hx => ⟨(hH x hx).1, (hH x hx).2.1⟩) G1⟩
    obtain ⟨h1, h2, h3⟩ := hH x hx
    obtain ⟨a1, a2, a3⟩ := A.his x hx
    refine ⟨h2, h1.only O1 ?_ ?_, h3⟩
    · rw [h2]
      rintro (e | e)
      · exact a1 e
      · exact (a3 x e).1 rfl
    · rintro g hg (e | e)
      · exact a2 (by rw [hg, e])
      · exact (a3 g e).2 hg
  have K2 : Hid (UpInv (keyL (nx hi) (l ++ [b])) l.length (l ++ [b]).length) := push_inv HH
  have K3 : Hid (5 < cs.size ∧ (l ++ [b]).length = l.length + 1 ∧ l.length < 999999 ∧ p < w.heap.size) := ⟨hc5, by simp, hf, hpl⟩
  clear hc D A hb HH hf hH hpl B hc5
  go_enter Tryz.func142, Tryz.ntmps142
  go_wp2_with fail
  refine P.mono ?_
  rintro e w1 ⟨rfl, v1, B1, R1, O1, G1⟩
  obtain ⟨D1, A1⟩ := K1.out w1 v1 B1 R1 O1 G1
  obtain ⟨k1, k2, k3, k4⟩ := K3.out
  have hq1 : w1.cell? ⟨p, 5, none⟩ = some v1 := B1.cell (by simp [k1])
  have LM := len_m w1 _ v1 hq1
  have LN := len_any v1 _ w1 (own_slice R1)
  have UU := up_any ⟨p, 5, none⟩ v1 (l ++ [b]) hi l.length w1 hq1 D1 A1.apart (by omega) K2.out
  have hsub : (((l ++ [b]).length : Nat) : Int) - 1 = (l.length : Int) := by omega
  have hHH : Hid (∀ w2 l', l'.Perm (l ++ [b]) ∧ HeapOn (keyL (nx hi) l') (l ++ [b]).length ∧ w2.ownsRow 0 135 1 v1 (l ++ [b]).length (ptrs l') ∧ Only (fun k => v1.ownBlock = some k) w1 w2 →
      ∃ v' l', l'.Perm (l ++ [b]) ∧ HeapOn (keyL (nx hi) l') l'.length ∧ Blk w2 p (cs.setIfInBounds 5 v') 66 ∧ DueAt w2 v' l' hi ∧ Only (fun k => k = p ∨ v.ownBlock = some k) w w2 ∧ ∀ g, v'.ownBlock = some g → v.ownBlock = some g ∨ w.heap.size ≤ g) := by
    rintro w2 l' ⟨hp, hh, hr, ho⟩
    refine ⟨v1, l', hp, by rw [hp.length_eq]; exact hh, B1.of_block (ho.block p B1.lt (fun e => A1.own e)), D1.swapped (q := ⟨p, 5, none⟩) A1.apart hp hr ho, ?_, G1⟩
    refine ⟨ho.os.trans O1.os, ho.tape.trans O1.tape, ho.output.trans O1.output, Nat.le_trans O1.size ho.size, fun k hk hn => ?_⟩
    rw [ho.block k (Nat.lt_of_lt_of_le hk O1.size) ?_, O1.block k hk hn]
    intro e
    rcases G1 k e with h | h
    · exact hn (.inr h)
    · omega
  generalize (l ++ [b]).length = nn at *
  have hnnI : (nn : Int) < 1000000 := by omega
  have hnn0 : (1 : Int) ≤ (nn : Int) := by omega
  clear P PM K1 K2 K3 B1 R1 O1 G1 D1 A1 k1 k2 k3 k4
  generalize l.length = n0 at *
  go_wp2_with fail
  refine LN.mono ?_
  rintro e w2 ⟨rfl, rfl⟩
  clear LN LM
  go_wp2_with fail
  refine UU.mono ?_
  rintro e w3 ⟨rfl, h3⟩
  have h4 := hHH.out w3 h3.choose h3.choose_spec
  clear UU h3 hHH
  go_wp2_with fail
  go_end0
  exact ⟨rfl, h4⟩

set_option maxHeartbeats 1600000 in
theorem put_any (p b : Nat) (cs : Array Value) (v : Value) (l : List Nat) (hi : Nat → Hi) (w : World) (B : Blk w p cs 66) (hc : cs[5]? = some v) (D : DueAt w v l hi) (A : Apt p v (l ++ [b]) hi)
    (hb : (hi b).blk = b ∧ HistAt w (hi b) ∧ waitsP (hi b).live = true) (HH : HeapOn (keyL (nx hi) l) l.length) (hf : l.length < 999999) :
    Calls Tryz.prog 114 #[.pointer (some ⟨p, 5, none⟩), .pointer (some ⟨b, 0, none⟩)] w fun e w' => e = .returned (.tuple #[]) ∧
      ∃ v' l', l'.Perm (l ++ [b]) ∧ HeapOn (keyL (nx hi) l') l'.length ∧ Blk w' p (cs.setIfInBounds 5 v') 66 ∧ DueAt w' v' l' hi ∧ Only (fun k => k = p ∨ v.ownBlock = some k) w w' ∧ ∀ g, v'.ownBlock = some g → v.ownBlock = some g ∨ w.heap.size ≤ g := by
  have P := heapPush_any p b cs v l hi w B hc D A hb HH hf
  clear B hc D A hb HH hf
  go_enter Tryz.func114, Tryz.ntmps114
  go_wp2_with fail
  refine P.mono ?_
  rintro e w1 ⟨rfl, h⟩
  clear P
  go_wp2_with fail
  go_end0
  exact ⟨rfl, h⟩
end Go.Proofs.YtlncljfljjaacaaGreatDoor

namespace Go.Proofs.YtlncljfljjaacaaGreatDoor
open Go.ChangeShapes Go.WideShapes Go.ChangeAt Go.RowKit
set_option linter.unusedVariables false
set_option linter.unusedSimpArgs false

/-- What a block is for. -/
inductive Role where
  | st | mp | pin | due
  | his (k : ByteArray)
  | row (k : ByteArray)

structure St where
  p : Nat
  m : Nat
  lim : Int
  now : Int
  cnt : Int
  n : Nat
  tot : Nat
  hs : ByteArray → Option Hi
  pinV : Value
  pins : List (Int × Int)
  dueV : Value
  due : List Nat
  hb : Nat → Hi
  lab : Nat → Option Role

def encP : List (Int × Int) → List Value
  | [] => []
  | x :: l => .int .i64 x.1 :: .int .i64 x.2 :: encP l

def St.cs (S : St) : Array Value := #[.int .i64 S.lim, .int .i64 S.now, .int .i64 S.cnt, .map (some S.m), S.pinV, S.dueV]
def St.f (S : St) (k : ByteArray) : Option Nat := (S.hs k).map Hi.blk

structure StoreAt (w : World) (S : St) : Prop where
  blk : Blk w S.p S.cs 66
  map : KMap w S.m S.n S.f
  his : ∀ k h, S.hs k = some h → HistAt w h ∧ h.key = k ∧ S.hb h.blk = h
  pinR : w.ownsRow 0 110 2 S.pinV S.pins.length (encP S.pins)
  dueD : DueAt w S.dueV S.due S.hb
  dueIn : ∀ b ∈ S.due, ∃ k, S.hs k = some (S.hb b)
  labP : S.lab S.p = some .st
  labM : S.lab S.m = some .mp
  labPin : ∀ g, S.pinV.ownBlock = some g → S.lab g = some .pin
  labDue : ∀ g, S.dueV.ownBlock = some g → S.lab g = some .due
  labHis : ∀ k h, S.hs k = some h → S.lab h.blk = some (.his k)
  labRow : ∀ k h g, S.hs k = some h → h.row.ownBlock = some g → S.lab g = some (.row k)
  lt : ∀ b, (S.lab b).isSome → b < w.heap.size
  few : S.n ≤ S.tot ∧ S.due.length ≤ S.tot ∧ S.tot ≤ 900000 ∧ S.pins.length ≤ 900000
  all : ∀ k h, S.hs k = some h → h.all.length ≤ S.tot

/-- Nothing of its own has turned. -/
theorem StoreAt.frame {w w' : World} {S : St} (A : StoreAt w S) (hs : w.heap.size ≤ w'.heap.size) (hb : ∀ b, (S.lab b).isSome → w'.heap[b]? = w.heap[b]?) : StoreAt w' S := by
  have hH : ∀ k h, S.hs k = some h → HistAt w' h := fun k h e =>
    (A.his k h e).1.of_block (hb _ (by rw [A.labHis k h e]; rfl)) (fun g hg => hb _ (by rw [A.labRow k h g e hg]; rfl))
  exact { blk := A.blk.of_block (hb _ (by rw [A.labP]; rfl)), map := A.map.of_block (hb _ (by rw [A.labM]; rfl)), his := (fun k h e => ⟨hH k h e, (A.his k h e).2⟩), pinR := row_thru A.pinR (fun g hg => hb _ (by rw [A.labPin g hg]; rfl)), dueD := ⟨row_thru A.dueD.row (fun g hg => hb _ (by rw [A.labDue g hg]; rfl)), fun b m => ⟨(A.dueD.his b m).1, by obtain ⟨k, e⟩ := A.dueIn b m; exact hH k _ e, (A.dueD.his b m).2.2⟩, A.dueD.few⟩, dueIn := A.dueIn, labP := A.labP, labM := A.labM, labPin := A.labPin, labDue := A.labDue, labHis := A.labHis, labRow := A.labRow, lt := fun b e => Nat.lt_of_lt_of_le (A.lt b e) hs, few := A.few, all := A.all }

theorem StoreAt.below {w w' : World} {S : St} (A : StoreAt w S) (hb : Below w.heap.size w w') : StoreAt w' S := A.frame hb.size (fun b e => hb.block b (A.lt b e))
theorem StoreAt.only {w w' : World} {S : St} {F : Nat → Prop} (A : StoreAt w S) (hb : Only F w w') (hF : ∀ b, (S.lab b).isSome → ¬ F b) : StoreAt w' S := A.frame hb.size (fun b e => hb.block b (A.lt b e) (hF b e))
theorem StoreAt.drewN {w : World} {S : St} (A : StoreAt w S) (n : Nat) : StoreAt (w.drewN n) S := A.below (below_drewN w n)

/-- What a call may turn: what is the store's own, and new blocks, that may become its own. -/
structure Step (w w' : World) (S S' : St) : Prop where
  only : Only (fun k => (S.lab k).isSome) w w'
  lab : ∀ b, (S'.lab b).isSome → (S.lab b).isSome ∨ w.heap.size ≤ b
  p : S'.p = S.p

theorem Step.refl (w : World) (S : St) : Step w w S S := ⟨Only.refl _ _, fun _ h => .inl h, rfl⟩
theorem Step.trans {a b c : World} {S T U : St} (h : Step a b S T) (k : Step b c T U) : Step a c S U := by
  refine ⟨⟨k.only.os.trans h.only.os, k.only.tape.trans h.only.tape, k.only.output.trans h.only.output, Nat.le_trans h.only.size k.only.size, fun i hi hn => ?_⟩, fun b hb => ?_, k.p.trans h.p⟩
  · rw [k.only.block i (Nat.lt_of_lt_of_le hi h.only.size) ?_, h.only.block i hi hn]
    intro e
    rcases h.lab i e with h | h
    · exact hn h
    · omega
  · rcases k.lab b hb with h' | h'
    · exact h.lab b h'
    · right
      have := h.only.size
      omega
theorem Step.of_below {w w' : World} (h : Below w.heap.size w w') (S : St) : Step w w' S S := ⟨Only.of_below' h _, fun _ h => .inl h, rfl⟩

theorem ne_role {S : St} {a b : Nat} {r s : Role} (ha : S.lab a = some r) (hb : S.lab b = some s) (h : r ≠ s) : a ≠ b := by
  rintro rfl
  rw [ha] at hb
  exact h (Option.some.inj hb)

/-- Its numbers turned. -/
def St.nums (S : St) (now cnt : Int) : St := { S with now := now, cnt := cnt }

theorem StoreAt.nums {w w' : World} {S : St} (A : StoreAt w S) (now cnt : Int) (B : Blk w' S.p (S.nums now cnt).cs 66) (O : Only (fun k => k = S.p) w w') : StoreAt w' (S.nums now cnt) := by
  have hb : ∀ b, b < w.heap.size → b ≠ S.p → w'.heap[b]? = w.heap[b]? := fun b h1 h2 => O.block b h1 h2
  have hl : ∀ b r, S.lab b = some r → r ≠ .st → w'.heap[b]? = w.heap[b]? := fun b r e h => hb b (A.lt b (by rw [e]; rfl)) (ne_role e A.labP h)
  have hH : ∀ k h, S.hs k = some h → HistAt w' h := fun k h e =>
    (A.his k h e).1.of_block (hl _ _ (A.labHis k h e) (by simp)) (fun g hg => hl _ _ (A.labRow k h g e hg) (by simp))
  exact { blk := B, map := A.map.of_block (hl _ _ A.labM (by simp)), his := (fun k h e => ⟨hH k h e, (A.his k h e).2⟩), pinR := (row_thru A.pinR (fun g hg => hl _ _ (A.labPin g hg) (by simp))), dueD := ⟨row_thru A.dueD.row (fun g hg => hl _ _ (A.labDue g hg) (by simp)), fun b m => ⟨(A.dueD.his b m).1, by obtain ⟨k, e⟩ := A.dueIn b m; exact hH k _ e, (A.dueD.his b m).2.2⟩, A.dueD.few⟩, dueIn := A.dueIn, labP := A.labP, labM := A.labM, labPin := A.labPin, labDue := A.labDue, labHis := A.labHis, labRow := A.labRow, lt := fun b e => Nat.lt_of_lt_of_le (A.lt b e) O.size, few := A.few, all := A.all }

theorem Step.nums {w w' : World} {S : St} (A : StoreAt w S) (now cnt : Int) (O : Only (fun k => k = S.p) w w') : Step w w' S (S.nums now cnt) :=
  ⟨O.mono (fun k _ e => by rw [e, A.labP]; rfl), fun b h => .inl h, rfl⟩

/-- A history turned: at its own block, its row maybe another one. -/
def St.turn (S : St) (k : ByteArray) (h : Hi) (tot : Nat) : St :=
  { S with tot := tot, hs := fun k' => if k' = k then some h else S.hs k', hb := fun b => if b = h.blk then h else S.hb b,
           lab := fun b => if h.row.ownBlock = some b then some (.row k) else S.lab b }

theorem StoreAt.turn {w w' : World} {S : St} {k : ByteArray} {h h' : Hi} {tot : Nat} (A : StoreAt w S) (hk : S.hs k = some h) (H : HistAt w' h') (e1 : h'.blk = h.blk) (e2 : h'.key = h.key)
    (O : Only (fun b => b = h.blk ∨ h.row.ownBlock = some b) w w') (R : ∀ g, h'.row.ownBlock = some g → h.row.ownBlock = some g ∨ w.heap.size ≤ g)
    (W : h.blk ∈ S.due → waitsP h'.live = true) (ht : S.tot ≤ tot) (hl : h'.all.length ≤ tot) (ht2 : tot ≤ 900000) : StoreAt w' (S.turn k h' tot) := by
  obtain ⟨H0, K0, B0⟩ := A.his k h hk
  have hlt : ∀ b r, S.lab b = some r → b < w.heap.size := fun b r e => A.lt b (by rw [e]; rfl)
  have hr0 : ∀ g, h.row.ownBlock = some g → S.lab g = some (.row k) := fun g hg => A.labRow k h g hk hg
  have hnew : ∀ g, h'.row.ownBlock = some g → S.lab g = some (.row k) ∨ w.heap.size ≤ g := fun g hg => (R g hg).imp (hr0 g) id
  have hkeep : ∀ b r, S.lab b = some r → r ≠ .his k → r ≠ .row k → w'.heap[b]? = w.heap[b]? := fun b r e n1 n2 => O.block b (hlt b r e) (by
    rintro (e' | e')
    · rw [e', A.labHis k h hk] at e; exact n1 (Option.some.inj e).symm
    · rw [hr0 b e'] at e; exact n2 (Option.some.inj e).symm)
  have hlab : ∀ b r, S.lab b = some r → r ≠ .row k → (S.turn k h' tot).lab b = some r := fun b r e n => by
    show (if h'.row.ownBlock = some b then _ else _) = _
    rw [if_neg, e]
    intro e'
    rcases hnew b e' with x | x
    · rw [x] at e; exact n (Option.some.inj e).symm
    · have := hlt b r e; omega
  have hother : ∀ k2 h2, S.hs k2 = some h2 → k2 ≠ k → HistAt w' h2 ∧ h2.blk ≠ h.blk := fun k2 h2 e n =>
    ⟨(A.his k2 h2 e).1.of_block (hkeep _ _ (A.labHis k2 h2 e) (by simpa using n) (by simp)) (fun g hg => hkeep _ _ (A.labRow k2 h2 g e hg) (by simp) (by simpa using n)),
     ne_role (A.labHis k2 h2 e) (A.labHis k h hk) (by simpa using n)⟩
  have hhs : ∀ k2 h2, (S.turn k h' tot).hs k2 = some h2 → (k2 = k ∧ h2 = h') ∨ (k2 ≠ k ∧ S.hs k2 = some h2) := fun k2 h2 e => by
    by_cases n : k2 = k
    · left
      refine ⟨n, ?_⟩
      have e : (if k2 = k then some h' else S.hs k2) = some h2 := e
      rw [if_pos n] at e
      exact (Option.some.inj e).symm
    · right
      have e : (if k2 = k then some h' else S.hs k2) = some h2 := e
      rw [if_neg n] at e
      exact ⟨n, e⟩
  have hbb : ∀ b, b ≠ h.blk → (S.turn k h' tot).hb b = S.hb b := fun b n => by
    show (if b = h'.blk then _ else _) = _
    rw [if_neg (by rw [e1]; exact n)]
  have hbh : (S.turn k h' tot).hb h.blk = h' := by
    show (if h.blk = h'.blk then _ else _) = _
    rw [if_pos e1.symm]
  refine { blk := ?_, map := ?_, his := ?_, pinR := ?_, dueD := ⟨?_, ?_, A.dueD.few⟩, dueIn := ?_, labP := hlab _ _ A.labP (by simp), labM := hlab _ _ A.labM (by simp), labPin := fun g hg => hlab _ _ (A.labPin g hg) (by simp), labDue := fun g hg => hlab _ _ (A.labDue g hg) (by simp), labHis := ?_, labRow := ?_, lt := ?_, few := ⟨by have := A.few.1; show S.n ≤ tot; omega, by have := A.few.2.1; show S.due.length ≤ tot; omega, ht2, A.few.2.2.2⟩, all := ?_ }
  · exact A.blk.of_block (hkeep _ _ A.labP (by simp) (by simp))
  · have : (S.turn k h' tot).f = S.f := by
      funext k2
      unfold St.f
      by_cases n : k2 = k
      · subst n
        rw [hk]
        show Option.map Hi.blk (if k2 = k2 then some h' else S.hs k2) = _
        rw [if_pos rfl]
        simp [e1]
      · show Option.map Hi.blk (if k2 = k then some h' else S.hs k2) = _
        rw [if_neg n]
    rw [this]
    exact A.map.of_block (hkeep _ _ A.labM (by simp) (by simp))
  · intro k2 h2 e
    rcases hhs k2 h2 e with ⟨rfl, rfl⟩ | ⟨n, e⟩
    · exact ⟨H, e2.trans K0, by rw [e1]; exact hbh⟩
    · obtain ⟨q1, q2⟩ := hother k2 h2 e n
      exact ⟨q1, (A.his k2 h2 e).2.1, by rw [hbb _ q2]; exact (A.his k2 h2 e).2.2⟩
  · exact row_thru A.pinR (fun g hg => hkeep _ _ (A.labPin g hg) (by simp) (by simp))
  · exact row_thru A.dueD.row (fun g hg => hkeep _ _ (A.labDue g hg) (by simp) (by simp))
  · intro b hb
    by_cases n : b = h.blk
    · subst n
      rw [hbh]
      exact ⟨e1, H, W hb⟩
    · rw [hbb b n]
      obtain ⟨q1, q2, q3⟩ := A.dueD.his b hb
      obtain ⟨k2, e⟩ := A.dueIn b hb
      refine ⟨q1, (hother k2 _ e ?_).1, q3⟩
      rintro rfl
      rw [hk] at e
      exact n (by rw [Option.some.inj e]; exact q1.symm)
  · intro b hb
    by_cases n : b = h.blk
    · subst n
      rw [hbh]
      exact ⟨k, if_pos rfl⟩
    · rw [hbb b n]
      obtain ⟨k2, e⟩ := A.dueIn b hb
      refine ⟨k2, ?_⟩
      show (if k2 = k then _ else _) = _
      rw [if_neg, e]
      rintro rfl
      rw [hk] at e
      exact n (by rw [Option.some.inj e]; exact (A.dueD.his b hb).1.symm)
  · intro k2 h2 e
    rcases hhs k2 h2 e with ⟨rfl, rfl⟩ | ⟨n, e⟩
    · rw [e1]; exact hlab _ _ (A.labHis _ h hk) (by simp)
    · exact hlab _ _ (A.labHis k2 h2 e) (by simp)
  · intro k2 h2 g e hg
    rcases hhs k2 h2 e with ⟨rfl, rfl⟩ | ⟨n, e⟩
    · exact if_pos hg
    · exact hlab _ _ (A.labRow k2 h2 g e hg) (by simpa using n)
  · intro b hb
    have hb : ((if h'.row.ownBlock = some b then some (Role.row k) else S.lab b)).isSome := hb
    by_cases n : h'.row.ownBlock = some b
    · exact (H.row.lt b n).2
    · rw [if_neg n] at hb
      exact Nat.lt_of_lt_of_le (A.lt b hb) O.size
  · intro k2 h2 e
    rcases hhs k2 h2 e with ⟨rfl, rfl⟩ | ⟨n, e⟩
    · exact hl
    · have := A.all k2 h2 e; show _ ≤ tot; omega

theorem Step.turn {w w' : World} {S : St} {k : ByteArray} {h h' : Hi} {tot : Nat} (A : StoreAt w S) (hk : S.hs k = some h)
    (O : Only (fun b => b = h.blk ∨ h.row.ownBlock = some b) w w') (R : ∀ g, h'.row.ownBlock = some g → h.row.ownBlock = some g ∨ w.heap.size ≤ g) : Step w w' S (S.turn k h' tot) := by
  refine ⟨O.mono (fun b _ e => ?_), fun b hb => ?_, rfl⟩
  · rcases e with e | e
    · rw [e, A.labHis k h hk]; rfl
    · rw [A.labRow k h b hk e]; rfl
  · have hb : ((if h'.row.ownBlock = some b then some (Role.row k) else S.lab b)).isSome := hb
    by_cases n : h'.row.ownBlock = some b
    · rcases R b n with x | x
      · left; rw [A.labRow k h b hk x]; rfl
      · exact .inr x
    · rw [if_neg n] at hb
      exact .inl hb
end Go.Proofs.YtlncljfljjaacaaGreatDoor

namespace Go.Proofs.YtlncljfljjaacaaGreatDoor
open Go.ChangeShapes Go.WideShapes Go.ChangeAt Go.RowKit
open Go.Sort (grow)
set_option linter.unusedVariables false
set_option linter.unusedSimpArgs false

def St.new (p m : Nat) (lim : Int) : St :=
  { p := p, m := m, lim := lim, now := 0, cnt := 0, n := 0, tot := 0, hs := fun _ => none, pinV := .slice none 0 0, pins := [], dueV := .slice none 0 0, due := [], hb := fun _ => ⟨0, ByteArray.empty, .slice none 0 0, [], 0⟩,
    lab := fun b => if b = p then some .st else if b = m then some .mp else none }

set_option maxHeartbeats 800000 in
theorem new_any (lim : Int) (w : World) : Calls Tryz.prog 11 #[.int .i64 lim] w fun e w' => ∃ p m, e = .returned (.pointer (some ⟨p, 0, none⟩)) ∧ StoreAt w' (St.new p m lim) ∧ Below w.heap.size w w' ∧ w.heap.size ≤ p ∧ w.heap.size ≤ m := by
  have hmm := @run_makeMap Tryz.prog
  go_enter Tryz.func11, Tryz.ntmps11
  go_wp2_with fail
  go_ret
  have h1 : (w.alloc (.map #[] 0)).heap.size = w.heap.size + 1 := by simp
  have b1 := below_new w (.map #[] 0)
  have b2 := below_new (w.alloc (.map #[] 0)) (.cells (St.new (w.heap.size + 1) w.heap.size lim).cs 66)
  refine ⟨w.heap.size + 1, w.heap.size, rfl, ?_, b1.trans (b2.mono (by omega)), by omega, Nat.le_refl _⟩
  have hB := Blk.new (w.alloc (.map #[] 0)) (St.new (w.heap.size + 1) w.heap.size lim).cs 66
  rw [h1] at hB
  have hM := (KMap.new w).of_block (b2.block w.heap.size (by omega))
  exact { blk := hB, map := hM, his := (fun k h e => by cases e), pinR := World.ownsRow_nil _ _ _ _, dueD := ⟨World.ownsRow_nil _ _ _ _, (fun b hb => by cases hb), by show (0 : Nat) < 1000000; omega⟩, dueIn := (fun b hb => by cases hb), labP := if_pos rfl, labM := (if_neg (by show ¬ w.heap.size = w.heap.size + 1; omega)).trans (if_pos rfl), labPin := (fun g hg => by cases hg), labDue := (fun g hg => by cases hg), labHis := (fun k h e => by cases e), labRow := (fun k h g e => by cases e), lt := (fun b hb => by
    have hb : ((if b = w.heap.size + 1 then some Role.st else if b = w.heap.size then some Role.mp else none : Option Role)).isSome := hb
    have h2 : ((w.alloc (.map #[] 0)).alloc (.cells (St.new (w.heap.size + 1) w.heap.size lim).cs 66)).heap.size = w.heap.size + 2 := by simp
    refine Nat.lt_of_lt_of_le (m := w.heap.size + 2) ?_ (Nat.le_of_eq h2.symm)
    split at hb
    · omega
    · split at hb
      · omega
      · cases hb), few := ⟨Nat.le_refl _, Nat.le_refl _, Nat.zero_le _, Nat.zero_le _⟩, all := (fun k h e => by cases e) }

theorem count_any (S : St) (w : World) (A : StoreAt w S) : Calls Tryz.prog 16 #[.pointer (some ⟨S.p, 0, none⟩)] w fun e w' => e = .returned (.int .i64 S.cnt) ∧ w' = w := by
  have c1 := A.blk.cell (i := 2) (v := .int .i64 S.cnt) rfl
  clear A
  go_enter Tryz.func16, Tryz.ntmps16
  go_wp2_with fail
  go_ret
  exact ⟨rfl, rfl⟩

/-- What is left of a key. -/
def St.live (S : St) (k : ByteArray) : List Vr := match S.hs k with | some h => h.live | none => []

theorem readL_nil (t : Int) : readL t [] = (ByteArray.empty, false) := rfl

set_option maxHeartbeats 800000 in
theorem read_any (S : St) (k : ByteArray) (t : Int) (w : World) (A : StoreAt w S) (hk : k.size ≤ maxLen) (hs : Rise (S.live k)) (hsz : ∀ x ∈ S.live k, x.val.size ≤ 281474976710656) :
    Calls Tryz.prog 60 #[.pointer (some ⟨S.p, 0, none⟩), .string k, .int .i64 t] w fun e w' => e = .returned (.tuple #[.string (readL t (S.live k)).1, .bool (readL t (S.live k)).2]) ∧ Below w.heap.size w w' := by
  have c1 := A.blk.cell (i := 3) (v := .map (some S.m)) rfl
  have LK := A.map.look hk
  have e0 : S.live k = match S.hs k with | some h => h.live | none => [] := rfl
  cases hh : S.hs k with
  | none =>
    rw [hh] at e0
    simp only at e0
    rw [e0, readL_nil]
    have f0 : S.f k = none := by unfold St.f; rw [hh]; rfl
    rw [f0] at LK
    simp only [optPtr, Option.isSome_none] at LK
    clear A hsz hs e0 hh f0 hk
    go_enter Tryz.func60, Tryz.ntmps60
    go_wp2_with fail
    exact bodyPost_ret (v := .tuple #[.string ⟨#[]⟩, .bool false]) (by simp [results, Tryz.results60, go_sem]) rfl ⟨rfl, Below.refl _ _⟩
  | some h =>
    rw [hh] at e0
    simp only at e0
    rw [e0] at hs hsz
    rw [e0]
    have f0 : S.f k = some h.blk := by unfold St.f; rw [hh]; rfl
    rw [f0] at LK
    simp only [optPtr, Option.isSome_some] at LK
    have R := hread_any h t w (A.his k h hh).1 hs hsz
    generalize readL t h.live = rv at *
    clear A hsz hs e0 hh f0 hk
    go_enter Tryz.func60, Tryz.ntmps60
    go_wp2_with fail
    refine R.mono ?_
    rintro e w1 ⟨rfl, hb⟩
    clear R
    go_wp2_with fail
    exact bodyPost_ret (v := .tuple #[.string rv.1, .bool rv.2]) (by simp [results, Tryz.results60, go_sem]) rfl ⟨rfl, hb⟩

def changedL (t : Int) (l : List Vr) : Bool := match l.getLast? with | some x => decide (t < x.at') | none => false

set_option maxHeartbeats 800000 in
theorem changed_any (S : St) (k : ByteArray) (t : Int) (w : World) (A : StoreAt w S) (hk : k.size ≤ maxLen) (hne : ∀ h, S.hs k = some h → h.live ≠ []) :
    Calls Tryz.prog 137 #[.pointer (some ⟨S.p, 0, none⟩), .string k, .int .i64 t] w fun e w' => e = .returned (.bool (changedL t (S.live k))) ∧ ∃ n, w' = w.drewN n := by
  have c1 := A.blk.cell (i := 3) (v := .map (some S.m)) rfl
  have LK := A.map.look hk
  have e0 : S.live k = match S.hs k with | some h => h.live | none => [] := rfl
  rw [e0]
  clear e0
  cases hh : S.hs k with
  | none =>
    have f0 : S.f k = none := by unfold St.f; rw [hh]; rfl
    rw [f0] at LK
    simp only [optPtr, Option.isSome_none] at LK
    clear A hh f0 hk hne
    go_enter Tryz.func137, Tryz.ntmps137
    go_wp2_with fail
    go_ret
    exact ⟨rfl, 0, rfl⟩
  | some h =>
    have f0 : S.f k = some h.blk := by unfold St.f; rw [hh]; rfl
    rw [f0] at LK
    simp only [optPtr, Option.isSome_some] at LK
    have R := newest_any h w (A.his k h hh).1 (hne h hh)
    have ec : changedL t h.live = decide (t < newestP h.live) := by
      have := hne h hh
      unfold changedL newestP
      cases hg : h.live.getLast? with
      | none => exact absurd (List.getLast?_eq_none_iff.1 hg) this
      | some x => rfl
    simp only
    rw [ec]
    clear ec
    generalize newestP h.live = rv at *
    clear A hh f0 hk hne
    go_enter Tryz.func137, Tryz.ntmps137
    go_wp2_with fail
    refine R.mono ?_
    rintro e w1 ⟨rfl, n, rfl⟩
    clear R
    go_wp2_with fail
    go_ret
    exact ⟨rfl, n, rfl⟩
end Go.Proofs.YtlncljfljjaacaaGreatDoor

namespace Go.Proofs.YtlncljfljjaacaaGreatDoor
open Go.ChangeShapes Go.WideShapes Go.ChangeAt Go.RowKit
open Go.ChangeMaps Go.MapKept
open Go.Sort (grow)
set_option linter.unusedVariables false
set_option linter.unusedSimpArgs false

def St.more (S : St) : St := { S with tot := S.tot + 1 }
def St.grow (S : St) (k : ByteArray) (h : Hi) : St :=
  { S with n := S.n + 1, tot := S.tot + 1, hs := fun k' => if k' = k then some h else S.hs k', hb := fun b => if b = h.blk then h else S.hb b, lab := fun b => if b = h.blk then some (.his k) else S.lab b }

theorem StoreAt.more {w : World} {S : St} (A : StoreAt w S) (ht : S.tot < 900000) : StoreAt w S.more :=
  { A with few := ⟨by have := A.few.1; show S.n ≤ S.tot + 1; omega, by have := A.few.2.1; show S.due.length ≤ S.tot + 1; omega, by show S.tot + 1 ≤ 900000; omega, A.few.2.2.2⟩, all := fun k h e => by have := A.all k h e; show _ ≤ S.tot + 1; omega }

theorem StoreAt.grow {w w' : World} {S : St} {k : ByteArray} {h : Hi} (A : StoreAt w S) (ht : S.tot < 900000) (hk : S.hs k = none) (M : KMap w' S.m (S.n + 1) (fput S.f k (some h.blk))) (H : HistAt w' h) (e : h.key = k) (ha : h.all = []) (hr : h.row = .slice none 0 0) (hb : w.heap.size ≤ h.blk)
    (O : Only (fun b => b = S.m) w w') : StoreAt w' (S.grow k h) := by
  have hlt : ∀ b r, S.lab b = some r → b < w.heap.size := fun b r e => A.lt b (by rw [e]; rfl)
  have hkeep : ∀ b r, S.lab b = some r → r ≠ .mp → w'.heap[b]? = w.heap[b]? := fun b r e n => O.block b (hlt b r e) (ne_role e A.labM n)
  have hne : ∀ b r, S.lab b = some r → b ≠ h.blk := fun b r e => by have := hlt b r e; omega
  have hlab : ∀ b r, S.lab b = some r → (S.grow k h).lab b = some r := fun b r e => by
    show (if b = h.blk then _ else _) = _
    rw [if_neg (hne b r e), e]
  have hhs : ∀ k2 h2, (S.grow k h).hs k2 = some h2 → (k2 = k ∧ h2 = h) ∨ (k2 ≠ k ∧ S.hs k2 = some h2) := fun k2 h2 e => by
    have e : (if k2 = k then some h else S.hs k2) = some h2 := e
    by_cases n : k2 = k
    · rw [if_pos n] at e; exact .inl ⟨n, (Option.some.inj e).symm⟩
    · rw [if_neg n] at e; exact .inr ⟨n, e⟩
  have hH : ∀ k2 h2, S.hs k2 = some h2 → HistAt w' h2 := fun k2 h2 e =>
    (A.his k2 h2 e).1.of_block (hkeep _ _ (A.labHis k2 h2 e) (by simp)) (fun g hg => hkeep _ _ (A.labRow k2 h2 g e hg) (by simp))
  have hbb : ∀ b r, S.lab b = some r → (S.grow k h).hb b = S.hb b := fun b r e => by
    show (if b = h.blk then _ else _) = _
    rw [if_neg (hne b r e)]
  have hdl : ∀ b ∈ S.due, ∃ k2, S.hs k2 = some (S.hb b) ∧ S.lab b = some (.his k2) := fun b m => by
    obtain ⟨k2, e⟩ := A.dueIn b m
    have := A.labHis k2 _ e
    rw [(A.dueD.his b m).1] at this
    exact ⟨k2, e, this⟩
  refine { blk := A.blk.of_block (hkeep _ _ A.labP (by simp)), map := ?_, his := ?_, pinR := row_thru A.pinR (fun g hg => hkeep _ _ (A.labPin g hg) (by simp)), dueD := ⟨row_thru A.dueD.row (fun g hg => hkeep _ _ (A.labDue g hg) (by simp)), ?_, A.dueD.few⟩, dueIn := ?_, labP := hlab _ _ A.labP, labM := hlab _ _ A.labM, labPin := fun g hg => hlab _ _ (A.labPin g hg), labDue := fun g hg => hlab _ _ (A.labDue g hg), labHis := ?_, labRow := ?_, lt := ?_, few := ⟨by have := A.few.1; show S.n + 1 ≤ S.tot + 1; omega, by have := A.few.2.1; show S.due.length ≤ S.tot + 1; omega, by show S.tot + 1 ≤ 900000; omega, A.few.2.2.2⟩, all := ?_ }
  · have : (S.grow k h).f = fput S.f k (some h.blk) := by
      funext k2
      unfold St.f fput
      show Option.map Hi.blk (if k2 = k then some h else S.hs k2) = _
      split <;> rfl
    rw [this]
    exact M
  · intro k2 h2 e2
    rcases hhs k2 h2 e2 with ⟨rfl, rfl⟩ | ⟨n, e2⟩
    · exact ⟨H, e, if_pos rfl⟩
    · exact ⟨hH k2 h2 e2, (A.his k2 h2 e2).2.1, by rw [hbb _ _ (A.labHis k2 h2 e2)]; exact (A.his k2 h2 e2).2.2⟩
  · intro b m
    obtain ⟨k2, e2, e3⟩ := hdl b m
    rw [hbb _ _ e3]
    exact ⟨(A.dueD.his b m).1, hH k2 _ e2, (A.dueD.his b m).2.2⟩
  · intro b m
    obtain ⟨k2, e2, e3⟩ := hdl b m
    rw [hbb _ _ e3]
    refine ⟨k2, ?_⟩
    show (if k2 = k then _ else _) = _
    rw [if_neg, e2]
    rintro rfl
    rw [hk] at e2
    cases e2
  · intro k2 h2 e2
    rcases hhs k2 h2 e2 with ⟨rfl, rfl⟩ | ⟨n, e2⟩
    · exact if_pos rfl
    · exact hlab _ _ (A.labHis k2 h2 e2)
  · intro k2 h2 g e2 hg
    rcases hhs k2 h2 e2 with ⟨rfl, rfl⟩ | ⟨n, e2⟩
    · rw [hr] at hg; cases hg
    · exact hlab _ _ (A.labRow k2 h2 g e2 hg)
  · intro b hb2
    have hb2 : (if b = h.blk then some (Role.his k) else S.lab b).isSome := hb2
    by_cases n : b = h.blk
    · rw [n]; exact H.blk.lt
    · rw [if_neg n] at hb2
      exact Nat.lt_of_lt_of_le (A.lt b hb2) O.size
  · intro k2 h2 e2
    rcases hhs k2 h2 e2 with ⟨rfl, rfl⟩ | ⟨n, e2⟩
    · rw [ha]; exact Nat.zero_le _
    · have := A.all k2 h2 e2; show _ ≤ S.tot + 1; omega

theorem Step.grow {w w' : World} {S : St} {k : ByteArray} {h : Hi} (A : StoreAt w S) (hb : w.heap.size ≤ h.blk) (O : Only (fun b => b = S.m) w w') : Step w w' S (S.grow k h) := by
  refine ⟨O.mono (fun b _ e => by rw [e, A.labM]; rfl), fun b hb2 => ?_, rfl⟩
  have hb2 : (if b = h.blk then some (Role.his k) else S.lab b).isSome := hb2
  by_cases n : b = h.blk
  · right; omega
  · rw [if_neg n] at hb2; exact .inl hb2

set_option maxHeartbeats 1600000 in
theorem history_any (S : St) (k : ByteArray) (w : World) (A : StoreAt w S) (hk : k.size ≤ maxLen) (hk2 : k.size ≤ 281474976710656) (ht : S.tot < 900000) :
    Calls Tryz.prog 138 #[.pointer (some ⟨S.p, 0, none⟩), .string k] w fun e w' => ∃ S' h, e = .returned (.pointer (some ⟨h.blk, 0, none⟩)) ∧ StoreAt w' S' ∧ Step w w' S S' ∧ S'.hs k = some h ∧
      ((S.hs k = some h ∧ S' = S.more) ∨ (S.hs k = none ∧ S' = S.grow k h ∧ h.all = [] ∧ h.off = 0)) := by
  have c1 := A.blk.cell (i := 3) (v := .map (some S.m)) rfl
  have LK := A.map.look hk
  cases hh : S.hs k with
  | some h =>
    have f0 : S.f k = some h.blk := by unfold St.f; rw [hh]; rfl
    rw [f0] at LK
    simp only [optPtr, Option.isSome_some] at LK
    have R : Hid (StoreAt w S.more ∧ Step w w S S.more ∧ S.more.hs k = some h) := ⟨A.more ht, ⟨Only.refl _ _, fun _ h => .inl h, rfl⟩, hh⟩
    clear A f0 hk hk2 ht hh
    go_enter Tryz.func138, Tryz.ntmps138
    go_wp2_with fail
    go_ret
    exact ⟨_, h, rfl, R.out.1, R.out.2.1, R.out.2.2, .inl ⟨rfl, rfl⟩⟩
  | none =>
    have f0 : S.f k = none := by unfold St.f; rw [hh]; rfl
    have LK0 := LK
    rw [f0] at LK
    simp only [optPtr, Option.isSome_none] at LK
    have C := clone_any k hk2 w
    have hml := A.map.lt
    have HM : Hid (∀ w1, Below w.heap.size w w1 → KMap w1 S.m S.n S.f) := fun w1 hb => A.map.of_block (hb.block _ hml)
    clear LK0
    have HA : Hid (StoreAt w S ∧ S.tot < 900000 ∧ k.size ≤ maxLen) := ⟨A, ht, hk⟩
    clear A hk hk2 ht
    go_enter Tryz.func138, Tryz.ntmps138
    go_wp2_with fail
    refine C.mono ?_
    rintro e w1 ⟨rfl, hb1⟩
    clear C
    replace c1 := kept_cell hb1 c1
    go_wp2_with fail
    have B2 := Blk.new w1 #[.string k, .slice none 0 0, .int .i64 0] 161
    have hb2 : Below w.heap.size w (w1.alloc (.cells #[.string k, .slice none 0 0, .int .i64 0] 161)) := hb1.alloc hb1.size _
    have hs2 : w1.heap.size < (w1.alloc (.cells #[.string k, .slice none 0 0, .int .i64 0] 161)).heap.size := by simp
    replace c1 := kept_alloc (o := .cells #[.string k, .slice none 0 0, .int .i64 0] 161) c1
    generalize w1.alloc (.cells #[.string k, .slice none 0 0, .int .i64 0] 161) = w2 at *
    have hX : w.heap.size ≤ w1.heap.size := hb1.size
    generalize w1.heap.size = X at *
    have d0 := B2.cell (i := 0) (v := .string k) rfl
    obtain ⟨hA, ht, hk⟩ := HA.out
    obtain ⟨o, hrun, hmap⟩ := (HM.out w2 hb2).put hk f0 (by have := hA.few; unfold maxLen; omega) X
    have r1 := hrun w2.drew rfl
    have hml2 : S.m < w2.heap.size := Nat.lt_of_lt_of_le hml hb2.size
    have RR : Hid (StoreAt (setBlock w2.drew S.m o) (S.grow k ⟨X, k, .slice none 0 0, [], 0⟩) ∧ Step w (setBlock w2.drew S.m o) S (S.grow k ⟨X, k, .slice none 0 0, [], 0⟩)) := by
      have hM := hmap w2.drew rfl
      have hO : Only (fun b => b = S.m) w (setBlock w2.drew S.m o) := ⟨hb2.os, hb2.tape, hb2.output, by simp [setBlock]; exact hb2.size, fun b h1 h2 => (setBlock_other _ _ h2).trans (hb2.block b h1)⟩
      have hXm : X ≠ S.m := by omega
      have hH : HistAt (setBlock w2.drew S.m o) ⟨X, k, .slice none 0 0, [], 0⟩ := ⟨B2.of_block (setBlock_other _ _ hXm), World.ownsRow_nil _ _ _ _, .inr ⟨rfl, rfl, rfl⟩, by show (0 : Nat) < 1000000; omega, hk⟩
      exact ⟨hA.grow ht hh hM hH rfl rfl rfl hX hO, Step.grow hA hX hO⟩
    clear hrun hmap HM HA hA ht hk B2 hb2 hb1 hml hml2 f0
    go_region
    go_wp2_with fail
    go_ret
    exact ⟨_, _, rfl, RR.out.1, RR.out.2, if_pos rfl, .inr ⟨trivial, rfl, rfl, rfl⟩⟩
end Go.Proofs.YtlncljfljjaacaaGreatDoor

namespace Go.Proofs.YtlncljfljjaacaaGreatDoor
open Go.ChangeShapes Go.WideShapes Go.ChangeAt Go.RowKit
set_option linter.unusedVariables false
set_option linter.unusedSimpArgs false

structure Good (S : St) : Prop where
  ne : ∀ k h, S.hs k = some h → h.live ≠ []
  nodup : S.due.Nodup
  wait : ∀ k h, S.hs k = some h → waitsP h.live = true → h.blk ∈ S.due
  heap : HeapOn (keyL (nx S.hb) S.due) S.due.length

theorem waits_snoc {l : List Vr} (x : Vr) (h : waitsP l = true) : waitsP (l ++ [x]) = true := by
  match l, h with
  | [a], h => rfl
  | a :: b :: l, h => rfl
theorem next_snoc {l : List Vr} (x : Vr) (h : waitsP l = true) : nextP (l ++ [x]) = nextP l := by
  match l, h with
  | [a], h =>
    have h : a.gone = true := h
    simp [nextP, h]
  | a :: b :: l, h => rfl

/-- Its heap turned. -/
def St.dued (S : St) (v : Value) (l : List Nat) : St := { S with dueV := v, due := l, lab := fun b => if v.ownBlock = some b then some .due else S.lab b }

theorem StoreAt.dued {w w' : World} {S : St} {v : Value} {l : List Nat} (A : StoreAt w S) (B : Blk w' S.p (S.cs.setIfInBounds 5 v) 66) (D : DueAt w' v l S.hb) (O : Only (fun b => b = S.p ∨ S.dueV.ownBlock = some b) w w')
    (R : ∀ g, v.ownBlock = some g → S.dueV.ownBlock = some g ∨ w.heap.size ≤ g) (I : ∀ b ∈ l, ∃ k, S.hs k = some (S.hb b)) (hl : l.length ≤ S.tot) : StoreAt w' (S.dued v l) := by
  have hlt : ∀ b r, S.lab b = some r → b < w.heap.size := fun b r e => A.lt b (by rw [e]; rfl)
  have hnew : ∀ g, v.ownBlock = some g → S.lab g = some .due ∨ w.heap.size ≤ g := fun g hg => (R g hg).imp (A.labDue g) id
  have hkeep : ∀ b r, S.lab b = some r → r ≠ .st → r ≠ .due → w'.heap[b]? = w.heap[b]? := fun b r e n1 n2 => O.block b (hlt b r e) (by
    rintro (e' | e')
    · rw [e', A.labP] at e; exact n1 (Option.some.inj e).symm
    · rw [A.labDue b e'] at e; exact n2 (Option.some.inj e).symm)
  have hlab : ∀ b r, S.lab b = some r → r ≠ .due → (S.dued v l).lab b = some r := fun b r e n => by
    show (if v.ownBlock = some b then _ else _) = _
    rw [if_neg, e]
    intro e'
    rcases hnew b e' with x | x
    · rw [x] at e; exact n (Option.some.inj e).symm
    · have := hlt b r e; omega
  refine { blk := B, map := A.map.of_block (hkeep _ _ A.labM (by simp) (by simp)), his := ?_, pinR := row_thru A.pinR (fun g hg => hkeep _ _ (A.labPin g hg) (by simp) (by simp)), dueD := D, dueIn := I, labP := hlab _ _ A.labP (by simp), labM := hlab _ _ A.labM (by simp), labPin := fun g hg => hlab _ _ (A.labPin g hg) (by simp), labDue := fun g hg => if_pos hg, labHis := fun k h e => hlab _ _ (A.labHis k h e) (by simp), labRow := fun k h g e hg => hlab _ _ (A.labRow k h g e hg) (by simp), lt := ?_, few := ⟨A.few.1, hl, A.few.2.2⟩, all := A.all }
  · intro k h e
    exact ⟨(A.his k h e).1.of_block (hkeep _ _ (A.labHis k h e) (by simp) (by simp)) (fun g hg => hkeep _ _ (A.labRow k h g e hg) (by simp) (by simp)), (A.his k h e).2⟩
  · intro b hb
    have hb : (if v.ownBlock = some b then some Role.due else S.lab b).isSome := hb
    by_cases n : v.ownBlock = some b
    · exact (D.row.lt b n).2
    · rw [if_neg n] at hb
      exact Nat.lt_of_lt_of_le (A.lt b hb) O.size

theorem Step.dued {w w' : World} {S : St} {v : Value} {l : List Nat} (A : StoreAt w S) (O : Only (fun b => b = S.p ∨ S.dueV.ownBlock = some b) w w') (R : ∀ g, v.ownBlock = some g → S.dueV.ownBlock = some g ∨ w.heap.size ≤ g) : Step w w' S (S.dued v l) := by
  refine ⟨O.mono (fun b _ e => ?_), fun b hb => ?_, rfl⟩
  · rcases e with e | e
    · rw [e, A.labP]; rfl
    · rw [A.labDue b e]; rfl
  · have hb : (if v.ownBlock = some b then some Role.due else S.lab b).isSome := hb
    by_cases n : v.ownBlock = some b
    · rcases R b n with x | x
      · left; rw [A.labDue b x]; rfl
      · exact .inr x
    · rw [if_neg n] at hb; exact .inl hb

/-- Its heap's row lies apart from its histories. -/
theorem StoreAt.apt {w : World} {S : St} {l : List Nat} (A : StoreAt w S) (I : ∀ b ∈ l, ∃ k, S.hs k = some (S.hb b) ∧ (S.hb b).blk = b) : Apt S.p S.dueV l S.hb := by
  refine ⟨fun e => ?_, fun b m => ?_⟩
  · have := A.labDue _ e
    rw [A.labP] at this
    cases this
  · obtain ⟨k, e, eb⟩ := I b m
    have h1 := A.labHis k _ e
    rw [eb] at h1
    refine ⟨ne_role h1 A.labP (by simp), fun e2 => ?_, fun g hg => ⟨ne_role (A.labDue g hg) h1 (by simp), fun e2 => ?_⟩⟩
    · have := A.labRow k _ _ e e2
      rw [A.labP] at this
      cases this
    · have := A.labRow k _ _ e e2
      rw [A.labDue g hg] at this
      cases this

theorem live_add (h : Hi) (row : Value) (x : Vr) (ho : h.off ≤ h.all.length) : ({ h with row := row, all := h.all ++ [x] } : Hi).live = h.live ++ [x] := by
  unfold Hi.live
  simp only
  rw [List.drop_append_of_le_length ho]

theorem HistAt.off_le {w : World} {h : Hi} (H : HistAt w h) : h.off ≤ h.all.length := by
  rcases H.off with h | ⟨h, _⟩ <;> omega
end Go.Proofs.YtlncljfljjaacaaGreatDoor

namespace Go.Proofs.YtlncljfljjaacaaGreatDoor
open Go.ChangeShapes Go.WideShapes Go.ChangeAt Go.RowKit
open Go.Sort (grow)
set_option linter.unusedVariables false
set_option linter.unusedSimpArgs false

def wrV (x : Wr) : Value := .agg #[.string x.key, .string x.val, .bool x.gone]
def vrOf (now : Int) (x : Wr) : Vr := ⟨now, if x.gone then ByteArray.empty else x.val, x.gone⟩

/-- Behind a write: the key has one version more. -/
structure Wrote (S S' : St) (x : Wr) : Prop where
  lim : S'.lim = S.lim
  now : S'.now = S.now
  cnt : S'.cnt = S.cnt
  tot : S'.tot = S.tot + 1
  pins : S'.pins = S.pins
  same : S'.live x.key = S.live x.key ++ [vrOf S.now x]
  other : ∀ k, k ≠ x.key → S'.live k = S.live k

/-- Behind the key's history was made longer. -/
theorem wrote_mid {w w1 : World} {S S1 : St} {x : Wr} {h : Hi} (A : StoreAt w S) (G : Good S) (H1 : StoreAt w1 S1) (E1 : S1.hs x.key = some h)
    (E : (S.hs x.key = some h ∧ S1 = S.more) ∨ (S.hs x.key = none ∧ S1 = S.grow x.key h ∧ h.all = [] ∧ h.off = 0)) {w2 : World} {row : Value}
    (H2 : HistAt w2 { h with row := row, all := h.all ++ [vrOf S.now x] }) (O2 : Only (fun k => k = h.blk ∨ h.row.ownBlock = some k) w1 w2) (R2 : ∀ g, row.ownBlock = some g → h.row.ownBlock = some g ∨ w1.heap.size ≤ g) :
    let h' : Hi := { h with row := row, all := h.all ++ [vrOf S.now x] }
    let S2 := S1.turn x.key h' S1.tot
    StoreAt w2 S2 ∧ Step w1 w2 S1 S2 ∧ h'.live = h.live ++ [vrOf S.now x] ∧ Wrote S S2 x ∧ HeapOn (keyL (nx S2.hb) S2.due) S2.due.length ∧ S2.due.Nodup ∧ S2.hs x.key = some h' ∧ S2.hb h.blk = h' ∧
      (∀ k h2, S2.hs k = some h2 → h2.live ≠ []) ∧ (∀ k h2, S2.hs k = some h2 → waitsP h2.live = true → h2.blk ∈ S2.due ∨ (k = x.key ∧ waitsP h.live = false)) ∧ (waitsP h.live = false → h.blk ∉ S2.due) ∧ S2.due.length + 1 ≤ S2.tot ∧ (waitsP h.live = true → h.blk ∈ S2.due) := by
  intro h' S2
  have hoff := (H1.his _ _ E1).1.off_le
  have hL : h'.live = h.live ++ [vrOf S.now x] := live_add h row _ hoff
  have hdue : S1.due = S.due := by rcases E with ⟨_, rfl⟩ | ⟨_, rfl, _⟩ <;> rfl
  have htot : S1.tot = S.tot + 1 := by rcases E with ⟨_, rfl⟩ | ⟨_, rfl, _⟩ <;> rfl
  have hlive : h.live = S.live x.key := by
    unfold St.live
    rcases E with ⟨e, _⟩ | ⟨e, _, a, _⟩
    · rw [e]
    · rw [e]; unfold Hi.live; rw [a]; simp
  have hlen : h.all.length ≤ S.tot := by
    rcases E with ⟨e, _⟩ | ⟨e, _, a, _⟩
    · exact A.all _ _ e
    · rw [a]; exact Nat.zero_le _
  have hW : h.blk ∈ S1.due → waitsP h.live = true := fun m => by
    have := (H1.dueD.his _ m).2.2
    rw [(H1.his _ _ E1).2.2] at this
    exact this
  have hS2 : StoreAt w2 S2 := H1.turn E1 H2 rfl rfl O2 R2 (fun m => by rw [hL]; exact waits_snoc _ (hW m)) (Nat.le_refl _) (by show (h.all ++ [vrOf S.now x]).length ≤ _; rw [htot]; simp; omega) H1.few.2.2.1
  have hhs : ∀ k h2, S2.hs k = some h2 → (k = x.key ∧ h2 = h') ∨ (k ≠ x.key ∧ S.hs k = some h2 ∧ S1.hs k = some h2) := fun k h2 e => by
    have e : (if k = x.key then some h' else S1.hs k) = some h2 := e
    by_cases n : k = x.key
    · rw [if_pos n] at e; exact .inl ⟨n, (Option.some.inj e).symm⟩
    · rw [if_neg n] at e
      refine .inr ⟨n, ?_, e⟩
      rcases E with ⟨_, rfl⟩ | ⟨_, rfl, _⟩
      · exact e
      · have e : (if k = x.key then some h else S.hs k) = some h2 := e
        rwa [if_neg n] at e
  have hkey : ∀ b ∈ S1.due, nx S2.hb b = nx S.hb b := fun b m => by
    unfold nx
    by_cases n : b = h.blk
    · subst n
      have : S2.hb h.blk = h' := if_pos rfl
      rw [this, hL, next_snoc _ (hW m)]
      congr 1
      have e1 := (H1.his _ _ E1).2.2
      rcases E with ⟨e, rfl⟩ | ⟨e, rfl, a, _⟩
      · rw [(A.his _ _ e).2.2]
      · exfalso
        have := hW m
        unfold Hi.live at this
        rw [a] at this
        simp [waitsP] at this
    · have : S2.hb b = S1.hb b := if_neg n
      rw [this]
      rcases E with ⟨e, rfl⟩ | ⟨e, rfl, a, _⟩
      · rfl
      · have : (S.grow x.key h).hb b = S.hb b := if_neg n
        rw [this]
  refine ⟨hS2, Step.turn H1 E1 O2 R2, hL, ⟨?_, ?_, ?_, htot, ?_, ?_, ?_⟩, ?_, ?_, if_pos rfl, if_pos rfl, ?_, ?_, ?_, ?_, ?_⟩
  · rcases E with ⟨_, rfl⟩ | ⟨_, rfl, _⟩ <;> rfl
  · rcases E with ⟨_, rfl⟩ | ⟨_, rfl, _⟩ <;> rfl
  · rcases E with ⟨_, rfl⟩ | ⟨_, rfl, _⟩ <;> rfl
  · rcases E with ⟨_, rfl⟩ | ⟨_, rfl, _⟩ <;> rfl
  · show (match (if x.key = x.key then some h' else S1.hs x.key) with | some h => h.live | none => []) = _
    rw [if_pos rfl]
    show h'.live = _
    rw [hL, hlive]
  · intro k n
    show (match (if k = x.key then some h' else S1.hs k) with | some h => h.live | none => []) = _
    rw [if_neg n]
    unfold St.live
    rcases E with ⟨_, rfl⟩ | ⟨_, rfl, _⟩
    · rfl
    · have : (S.grow x.key h).hs k = S.hs k := if_neg n
      rw [this]
      try (cases S.hs k <;> rfl)
  · show HeapOn (keyL (nx S2.hb) S1.due) S1.due.length
    intro k k0 kn
    have e : ∀ j, j < S1.due.length → keyL (nx S2.hb) S1.due j = keyL (nx S.hb) S.due j := fun j hj => by
      unfold keyL
      rw [hkey _ (by rw [List.getD_eq_getElem?_getD, List.getElem?_eq_getElem hj]; exact List.getElem_mem hj), hdue]
    rw [e _ kn, e _ (by omega)]
    exact G.heap k k0 (by rw [← hdue]; exact kn)
  · show S1.due.Nodup
    rw [hdue]; exact G.nodup
  · intro k h2 e
    rcases hhs k h2 e with ⟨_, rfl⟩ | ⟨_, e, _⟩
    · rw [hL]; simp
    · exact G.ne k h2 e
  · intro k h2 e hw
    rcases hhs k h2 e with ⟨rfl, rfl⟩ | ⟨_, e, _⟩
    · cases hw0 : waitsP h.live with
      | false => exact .inr ⟨rfl, rfl⟩
      | true =>
        left
        show h.blk ∈ S1.due
        rw [hdue]
        rcases E with ⟨e2, _⟩ | ⟨e2, _, a, _⟩
        · exact G.wait _ _ e2 hw0
        · exfalso
          unfold Hi.live at hw0
          rw [a] at hw0
          simp [waitsP] at hw0
    · left
      show h2.blk ∈ S1.due
      rw [hdue]
      exact G.wait k h2 e hw
  · intro hw0 m
    rw [hW m] at hw0
    cases hw0
  · show S1.due.length + 1 ≤ S1.tot
    rw [hdue, htot]
    have := A.few.2.1
    omega
  · intro hw0
    show h.blk ∈ S1.due
    rw [hdue]
    rcases E with ⟨e2, _⟩ | ⟨e2, _, a, _⟩
    · exact G.wait _ _ e2 hw0
    · exfalso
      unfold Hi.live at hw0
      rw [a] at hw0
      simp [waitsP] at hw0
end Go.Proofs.YtlncljfljjaacaaGreatDoor

namespace Go.Proofs.YtlncljfljjaacaaGreatDoor
open Go.ChangeShapes Go.WideShapes Go.ChangeAt Go.RowKit
set_option linter.unusedVariables false
set_option linter.unusedSimpArgs false

theorem Wrote.dued {S S2 : St} {x : Wr} (h : Wrote S S2 x) (v : Value) (l : List Nat) : Wrote S (S2.dued v l) x := ⟨h.lim, h.now, h.cnt, h.tot, h.pins, h.same, h.other⟩

structure Mid (w : World) (S S2 : St) (x : Wr) (h h' : Hi) : Prop where
  store : StoreAt w S2
  wrote : Wrote S S2 x
  heap : HeapOn (keyL (nx S2.hb) S2.due) S2.due.length
  nodup : S2.due.Nodup
  hs : S2.hs x.key = some h'
  hb : S2.hb h.blk = h'
  blk : h'.blk = h.blk
  ne : ∀ k h2, S2.hs k = some h2 → h2.live ≠ []
  wait : ∀ k h2, S2.hs k = some h2 → waitsP h2.live = true → h2.blk ∈ S2.due ∨ (k = x.key ∧ waitsP h.live = false)
  notin : waitsP h.live = false → h.blk ∉ S2.due
  len : S2.due.length + 1 ≤ S2.tot
  isin : waitsP h.live = true → h.blk ∈ S2.due

theorem mid_of {w w1 : World} {S S1 : St} {x : Wr} {h : Hi} (A : StoreAt w S) (G : Good S) (H1 : StoreAt w1 S1) (E1 : S1.hs x.key = some h)
    (E : (S.hs x.key = some h ∧ S1 = S.more) ∨ (S.hs x.key = none ∧ S1 = S.grow x.key h ∧ h.all = [] ∧ h.off = 0)) {w2 : World} {row : Value}
    (H2 : HistAt w2 { h with row := row, all := h.all ++ [vrOf S.now x] }) (O2 : Only (fun k => k = h.blk ∨ h.row.ownBlock = some k) w1 w2) (R2 : ∀ g, row.ownBlock = some g → h.row.ownBlock = some g ∨ w1.heap.size ≤ g) :
    ∃ S2 h', Mid w2 S S2 x h h' ∧ Step w1 w2 S1 S2 ∧ HistAt w2 h' := by
  obtain ⟨m1, m2, m3, m4, m5, m6, m7, m8, m9, m10, m11, m12, m13⟩ := wrote_mid A G H1 E1 E H2 O2 R2
  exact ⟨_, _, ⟨m1, m4, m5, m6, m7, m8, rfl, m9, m10, m11, m12, m13⟩, m2, H2⟩

theorem Mid.done {w : World} {S S2 : St} {x : Wr} {h h' : Hi} (M : Mid w S S2 x h h') (d : waitsP h.live = true ∨ waitsP h'.live = false) : Good S2 := by
  refine ⟨M.ne, M.nodup, fun k h2 e hw => ?_, M.heap⟩
  rcases M.wait k h2 e hw with h3 | ⟨rfl, h3⟩
  · exact h3
  · rcases d with d | d
    · rw [d] at h3; cases h3
    · rw [M.hs] at e
      cases e
      rw [d] at hw; cases hw

theorem Mid.put {w : World} {S S2 : St} {x : Wr} {h h' : Hi} (M : Mid w S S2 x h h') (d0 : waitsP h.live = false) (d1 : waitsP h'.live = true) :
    Calls Tryz.prog 114 #[.pointer (some ⟨S2.p, 5, none⟩), .pointer (some ⟨h.blk, 0, none⟩)] w fun e w' => e = .returned (.tuple #[]) ∧ ∃ S', StoreAt w' S' ∧ Step w w' S2 S' ∧ Good S' ∧ Wrote S S' x := by
  have I : ∀ b ∈ S2.due ++ [h.blk], ∃ k, S2.hs k = some (S2.hb b) ∧ (S2.hb b).blk = b := by
    intro b m
    rcases List.mem_append.1 m with m | m
    · obtain ⟨k, e⟩ := M.store.dueIn b m
      exact ⟨k, e, (M.store.dueD.his b m).1⟩
    · obtain rfl : b = h.blk := by simpa using m
      exact ⟨x.key, by rw [M.hb]; exact M.hs, by rw [M.hb]; exact M.blk⟩
  have hH := (M.store.his _ _ M.hs).1
  refine (put_any S2.p h.blk S2.cs S2.dueV S2.due S2.hb w M.store.blk rfl M.store.dueD (M.store.apt I) ⟨by rw [M.hb]; exact M.blk, by rw [M.hb]; exact hH, by rw [M.hb]; exact d1⟩ M.heap (by have := M.len; have := M.store.few; omega)).mono ?_
  rintro e w' ⟨rfl, v', l', hp, hh, B, D, O, R⟩
  refine ⟨rfl, S2.dued v' l', M.store.dued B D O R (fun b m => ?_) ?_, Step.dued M.store O R, ⟨M.ne, ?_, ?_, hh⟩, M.wrote.dued _ _⟩
  · obtain ⟨k, e, _⟩ := I b (hp.mem_iff.1 m)
    exact ⟨k, e⟩
  · rw [hp.length_eq]; simp; exact M.len
  · show l'.Nodup
    rw [hp.nodup_iff, List.nodup_append]
    refine ⟨M.nodup, by simp, fun a ha b hb => ?_⟩
    obtain rfl : b = h.blk := by simpa using hb
    rintro rfl
    exact M.notin d0 ha
  · intro k h2 e hw
    show h2.blk ∈ l'
    rw [hp.mem_iff]
    rcases M.wait k h2 e hw with h3 | ⟨rfl, h3⟩
    · exact List.mem_append_left _ h3
    · have e : S2.hs x.key = some h2 := e
      rw [M.hs] at e
      have := Option.some.inj e
      rw [← this, M.blk]
      simp
end Go.Proofs.YtlncljfljjaacaaGreatDoor

namespace Go.Proofs.YtlncljfljjaacaaGreatDoor
open Go.ChangeShapes Go.WideShapes Go.ChangeAt Go.RowKit
open Go.Sort (grow)
set_option linter.unusedVariables false
set_option linter.unusedSimpArgs false

set_option maxHeartbeats 3200000 in
set_option maxRecDepth 20000 in
theorem write_any (S : St) (x : Wr) (w : World) (A : StoreAt w S) (G : Good S) (hk : x.key.size ≤ 281474976710656) (hv : x.val.size ≤ 281474976710656) (ht : S.tot < 900000) :
    Calls Tryz.prog 110 #[.pointer (some ⟨S.p, 0, none⟩), wrV x] w fun e w' => e = .returned (.tuple #[]) ∧ ∃ S', StoreAt w' S' ∧ Step w w' S S' ∧ Good S' ∧ Wrote S S' x := by
  obtain ⟨key, val, gone⟩ := x
  unfold wrV
  simp only at hk hv ⊢
  have c1 := A.blk.cell (i := 1) (v := .int .i64 S.now) rfl
  have hpl := A.blk.lt
  have hp0 : S.p < w.heap.size := hpl
  have HA : Hid (StoreAt w S ∧ Good S ∧ key.size ≤ 281474976710656 ∧ S.tot < 900000) := ⟨A, G, hk, ht⟩
  have HC : Hid (∀ w1, Calls Tryz.prog 22 #[.string val] w1 fun e w' => e = .returned (.string val) ∧ Below w1.heap.size w1 w') := fun w1 => clone_any val hv w1
  -- what stands behind the version was made: from there on both ways are one
  have REST : Hid (∀ w1, Below w.heap.size w w1 → Calls Tryz.prog 138 #[.pointer (some ⟨S.p, 0, none⟩), .string key] w1 fun e w' => ∃ S' h, e = .returned (.pointer (some ⟨h.blk, 0, none⟩)) ∧ StoreAt w' S' ∧ Step w1 w' S S' ∧ S'.hs key = some h ∧
      ((S.hs key = some h ∧ S' = S.more) ∨ (S.hs key = none ∧ S' = S.grow key h ∧ h.all = [] ∧ h.off = 0))) := fun w1 hb => history_any S key w1 (A.below hb) (by unfold maxLen; omega) hk ht
  clear A G hk hv ht hpl
  go_enter Tryz.func110, Tryz.ntmps110
  go_wp2_with fail
  have B1 := Blk.new w #[.string key, .string val, .bool gone] 128
  have hb1 := below_new w (.cells #[.string key, .string val, .bool gone] 128)
  replace c1 := kept_cell hb1 c1
  have hs1 : (w.alloc (.cells #[.string key, .string val, .bool gone] 128)).heap.size = w.heap.size + 1 := by simp
  have hXp : S.p ≠ w.heap.size := by omega
  generalize w.alloc (.cells #[.string key, .string val, .bool gone] 128) = w1 at *
  generalize hwb : w.heap.size = wb at *
  have d0 := B1.cell (i := 0) (v := .string key) rfl
  have d1 := B1.cell (i := 1) (v := .string val) rfl
  have d2 := B1.cell (i := 2) (v := .bool gone) rfl
  clear B1
  cases gone
  · go_region
    have hbX : Below wb w (w1.alloc (.cells #[.int .i64 S.now, .string ⟨#[]⟩, .bool false] 152)).drew := (hb1.alloc (by omega) _).drew
    have BX : Blk (w1.alloc (.cells #[.int .i64 S.now, .string ⟨#[]⟩, .bool false] 152)).drew (wb + 1) #[.int .i64 S.now, .string ⟨#[]⟩, .bool false] 152 := by rw [← hs1]; exact Blk.new w1 _ _
    have e0 : (w1.alloc (.cells #[.int .i64 S.now, .string ⟨#[]⟩, .bool false] 152)).drew.cell? ⟨wb, 0, none⟩ = some (.string key) := kept_alloc d0
    have e1 : (w1.alloc (.cells #[.int .i64 S.now, .string ⟨#[]⟩, .bool false] 152)).drew.cell? ⟨wb, 1, none⟩ = some (.string val) := kept_alloc d1
    have e2 : (w1.alloc (.cells #[.int .i64 S.now, .string ⟨#[]⟩, .bool false] 152)).drew.cell? ⟨wb, 2, none⟩ = some (.bool false) := kept_alloc d2
    clear d0 d1 d2 c1 hb1
    generalize (w1.alloc (.cells #[.int .i64 S.now, .string ⟨#[]⟩, .bool false] 152)).drew = w2 at *
    have hxw : wb ≠ wb + 1 := by omega
    have hwx : wb < wb + 1 := by omega
    generalize wb + 1 = xb at *
    clear hs1 w1
    have hbs : wb ≤ w2.heap.size := by have := hbX.size; omega
    have C := HC.out w2
    go_wp2_with fail
    refine C.mono ?_
    rintro e w3 ⟨rfl, hb3⟩
    clear C
    have hb4 : Below wb w w3 := hbX.trans (hb3.mono hbs)
    replace BX := BX.of_block (hb3.block xb BX.lt)
    replace e0 := kept_cell hb3 e0
    have z1 := BX.cell (i := 1) (v := .string ⟨#[]⟩) rfl
    have f1 := BX.thawed 1
    have B4 : Blk (w3.setCell ⟨xb, 1, none⟩ (.string val)) xb #[.int .i64 S.now, .string val, .bool false] 152 := BX.set 1 _
    have hb5 : Below wb w (w3.setCell ⟨xb, 1, none⟩ (.string val)) := hb4.setCell (by show wb ≤ xb; omega) _
    have g0 : (w3.setCell ⟨xb, 1, none⟩ (.string val)).cell? ⟨wb, 0, none⟩ = some (.string key) := by rw [World.cell?_setCell_other _ _ _ _ (by intro e; injection e with e1; exact hxw e1.symm)]; exact e0
    have HV : Hid (vrOf S.now ⟨key, val, false⟩ = ⟨S.now, val, false⟩) := rfl
    clear e0 e1 e2 hb3 hb4 hbX
    go_wp2_with fail
    have R := REST.out _ hb5
    generalize hW4 : (w3.setCell ⟨xb, 1, none⟩ (.string val)) = w4 at *
    clear hW4
    refine R.mono ?_
    rintro e w5 ⟨S1, h, rfl, H1, ST1, E1, E⟩
    clear R
    obtain ⟨hA, hG, hk, ht⟩ := HA.out
    have hxl : ¬ (S.lab xb).isSome := fun e => by have := hA.lt xb e; omega
    have B5 := B4.of_block (ST1.only.block xb B4.lt hxl)
    have W1 := waits_any h w5 (H1.his _ _ E1).1
    have HADD : Hid (∀ n, Calls Tryz.prog 139 #[.pointer (some ⟨h.blk, 0, none⟩), .agg #[.int .i64 S.now, .string val, .bool false]] (w5.drewN n) fun e w' => e = .returned (.tuple #[]) ∧
          ∃ row, HistAt w' { h with row := row, all := h.all ++ [⟨S.now, val, false⟩] } ∧ Only (fun k => k = h.blk ∨ h.row.ownBlock = some k) (w5.drewN n) w' ∧ ∀ g, row.ownBlock = some g → h.row.ownBlock = some g ∨ (w5.drewN n).heap.size ≤ g) := fun n =>
      add_any h ⟨S.now, val, false⟩ (w5.drewN n) ((H1.drewN n).his _ _ E1).1 (by have := H1.all _ _ E1; have := H1.few; omega)
    have HM : Hid (∀ n w6 row, HistAt w6 { h with row := row, all := h.all ++ [⟨S.now, val, false⟩] } → Only (fun k => k = h.blk ∨ h.row.ownBlock = some k) (w5.drewN n) w6 → (∀ g, row.ownBlock = some g → h.row.ownBlock = some g ∨ (w5.drewN n).heap.size ≤ g) → ∃ S2 h', Mid w6 S S2 ⟨key, val, false⟩ h h' ∧ Step (w5.drewN n) w6 S1 S2 ∧ HistAt w6 h') := fun n w6 row a b c => mid_of hA hG (H1.drewN n) E1 E (x := ⟨key, val, false⟩) a b c
    have HST : Hid (∀ n, Step w (w5.drewN n) S S1) := fun n => ((Step.of_below (hwb.symm ▸ hb5) S).trans ST1).trans (Step.of_below (below_drewN w5 n) S1)
    have HN : Hid (S1.p = S.p) := ST1.p
    clear hA hG hk ht hxl B4 E H1 ST1 E1 hb5 g0 HA HV REST HC
    go_wp2_with fail
    refine W1.mono ?_
    rintro e w6 ⟨rfl, n, rfl⟩
    clear W1
    replace B5 : Blk (w5.drewN n) xb #[.int .i64 S.now, .string val, .bool false] 152 := B5
    have HST2 : Hid (Step w (w5.drewN n) S S1) := HST.out n
    have AD := HADD.out n
    have HM2 := HM.out n
    replace HM2 : Hid _ := HM2
    clear HST HADD HM
    generalize w5.drewN n = w6 at *
    have x0 := B5.cell (i := 0) (v := .int .i64 S.now) rfl
    have x1 := B5.cell (i := 1) (v := .string val) rfl
    have x2 := B5.cell (i := 2) (v := .bool false) rfl
    clear B5
    go_wp2_with fail
    refine AD.mono ?_
    rintro e w7 ⟨rfl, row, H7, O7, R7⟩
    clear AD x0 x1 x2
    obtain ⟨S2, h', M, ST3, H8⟩ := HM2.out w7 row H7 O7 R7
    have ST4 : Step w w7 S S2 := HST2.out.trans ST3
    have hp2 : S2.p = S.p := ST4.p
    clear HM2 O7 R7 H7 ST3 HN HST2
    cases hw0 : waitsP h.live with
    | true =>
      have RR : Hid (StoreAt w7 S2 ∧ Step w w7 S S2 ∧ Good S2 ∧ Wrote S S2 ⟨key, val, false⟩) := ⟨M.store, ST4, M.done (.inl hw0), M.wrote⟩
      clear M ST4 hp2 H8 hw0
      go_wp2_with fail
      go_end0
      exact ⟨rfl, S2, RR.out⟩
    | false =>
      have W2 := waits_any h' w7 H8
      rw [M.blk] at W2
      cases hw1 : waitsP h'.live with
      | false =>
        have RR : Hid (∀ n, StoreAt (w7.drewN n) S2 ∧ Step w (w7.drewN n) S S2 ∧ Good S2 ∧ Wrote S S2 ⟨key, val, false⟩) := fun n => ⟨M.store.drewN n, ST4.trans (Step.of_below (below_drewN _ _) _), M.done (.inr hw1), M.wrote⟩
        rw [hw1] at W2
        clear M ST4 hp2 H8 hw0 hw1
        go_wp2_with fail
        refine W2.mono ?_
        rintro e w8 ⟨rfl, n2, rfl⟩
        clear W2
        go_wp2_with fail
        go_end0
        exact ⟨rfl, S2, RR.out n2⟩
      | true =>
        have PP : Hid (∀ n, Calls Tryz.prog 114 #[.pointer (some ⟨S.p, 5, none⟩), .pointer (some ⟨h.blk, 0, none⟩)] (w7.drewN n) fun e w' => e = .returned (.tuple #[]) ∧ ∃ S', StoreAt w' S' ∧ Step (w7.drewN n) w' S2 S' ∧ Good S' ∧ Wrote S S' ⟨key, val, false⟩) := fun n => by
          rw [← hp2]
          exact Mid.put { M with store := M.store.drewN n } hw0 hw1
        have ST5 : Hid (∀ n, Step w (w7.drewN n) S S2) := fun n => ST4.trans (Step.of_below (below_drewN _ _) _)
        rw [hw1] at W2
        clear M ST4 hp2 H8 hw0 hw1
        go_wp2_with fail
        refine W2.mono ?_
        rintro e w8 ⟨rfl, n2, rfl⟩
        clear W2
        have P := PP.out n2
        have ST6 : Hid (Step w (w7.drewN n2) S S2) := ST5.out n2
        clear PP ST5
        generalize w7.drewN n2 = w8 at *
        go_wp2_with fail
        refine P.mono ?_
        rintro e w9 ⟨rfl, S', a1, a2, a3, a4⟩
        clear P
        have RR : Hid (StoreAt w9 S' ∧ Step w w9 S S' ∧ Good S' ∧ Wrote S S' ⟨key, val, false⟩) := ⟨a1, ST6.out.trans a2, a3, a4⟩
        clear a1 a2 a3 a4 ST6
        go_wp2_with fail
        go_end0
        exact ⟨rfl, S', RR.out⟩
  · go_region
    have hbX : Below wb w (w1.alloc (.cells #[.int .i64 S.now, .string ⟨#[]⟩, .bool true] 152)).drew := (hb1.alloc (by omega) _).drew
    have BX : Blk (w1.alloc (.cells #[.int .i64 S.now, .string ⟨#[]⟩, .bool true] 152)).drew (wb + 1) #[.int .i64 S.now, .string ⟨#[]⟩, .bool true] 152 := by rw [← hs1]; exact Blk.new w1 _ _
    have e0 : (w1.alloc (.cells #[.int .i64 S.now, .string ⟨#[]⟩, .bool true] 152)).drew.cell? ⟨wb, 0, none⟩ = some (.string key) := kept_alloc d0
    have e1 : (w1.alloc (.cells #[.int .i64 S.now, .string ⟨#[]⟩, .bool true] 152)).drew.cell? ⟨wb, 1, none⟩ = some (.string val) := kept_alloc d1
    have e2 : (w1.alloc (.cells #[.int .i64 S.now, .string ⟨#[]⟩, .bool true] 152)).drew.cell? ⟨wb, 2, none⟩ = some (.bool true) := kept_alloc d2
    clear d0 d1 d2 c1 hb1
    generalize (w1.alloc (.cells #[.int .i64 S.now, .string ⟨#[]⟩, .bool true] 152)).drew = w2 at *
    have hxw : wb ≠ wb + 1 := by omega
    have hwx : wb < wb + 1 := by omega
    generalize wb + 1 = xb at *
    clear hs1 w1
    have HV : Hid (vrOf S.now ⟨key, val, true⟩ = ⟨S.now, ⟨#[]⟩, true⟩) := rfl
    have B4 := BX
    have g0 := e0
    have hb5 := hbX
    go_wp2_with fail
    clear e0 e1 e2 hbX BX
    have R := REST.out _ hb5
    generalize hW4 : w2 = w4 at *
    clear hW4
    refine R.mono ?_
    rintro e w5 ⟨S1, h, rfl, H1, ST1, E1, E⟩
    clear R
    obtain ⟨hA, hG, hk, ht⟩ := HA.out
    have hxl : ¬ (S.lab xb).isSome := fun e => by have := hA.lt xb e; omega
    have B5 := B4.of_block (ST1.only.block xb B4.lt hxl)
    have W1 := waits_any h w5 (H1.his _ _ E1).1
    have HADD : Hid (∀ n, Calls Tryz.prog 139 #[.pointer (some ⟨h.blk, 0, none⟩), .agg #[.int .i64 S.now, .string ⟨#[]⟩, .bool true]] (w5.drewN n) fun e w' => e = .returned (.tuple #[]) ∧
          ∃ row, HistAt w' { h with row := row, all := h.all ++ [⟨S.now, ⟨#[]⟩, true⟩] } ∧ Only (fun k => k = h.blk ∨ h.row.ownBlock = some k) (w5.drewN n) w' ∧ ∀ g, row.ownBlock = some g → h.row.ownBlock = some g ∨ (w5.drewN n).heap.size ≤ g) := fun n =>
      add_any h ⟨S.now, ⟨#[]⟩, true⟩ (w5.drewN n) ((H1.drewN n).his _ _ E1).1 (by have := H1.all _ _ E1; have := H1.few; omega)
    have HM : Hid (∀ n w6 row, HistAt w6 { h with row := row, all := h.all ++ [⟨S.now, ⟨#[]⟩, true⟩] } → Only (fun k => k = h.blk ∨ h.row.ownBlock = some k) (w5.drewN n) w6 → (∀ g, row.ownBlock = some g → h.row.ownBlock = some g ∨ (w5.drewN n).heap.size ≤ g) → ∃ S2 h', Mid w6 S S2 ⟨key, val, true⟩ h h' ∧ Step (w5.drewN n) w6 S1 S2 ∧ HistAt w6 h') := fun n w6 row a b c => mid_of hA hG (H1.drewN n) E1 E (x := ⟨key, val, true⟩) a b c
    have HST : Hid (∀ n, Step w (w5.drewN n) S S1) := fun n => ((Step.of_below (hwb.symm ▸ hb5) S).trans ST1).trans (Step.of_below (below_drewN w5 n) S1)
    have HN : Hid (S1.p = S.p) := ST1.p
    clear hA hG hk ht hxl B4 E H1 ST1 E1 hb5 g0 HA HV REST HC
    go_wp2_with fail
    refine W1.mono ?_
    rintro e w6 ⟨rfl, n, rfl⟩
    clear W1
    replace B5 : Blk (w5.drewN n) xb #[.int .i64 S.now, .string ⟨#[]⟩, .bool true] 152 := B5
    have HST2 : Hid (Step w (w5.drewN n) S S1) := HST.out n
    have AD := HADD.out n
    have HM2 := HM.out n
    replace HM2 : Hid _ := HM2
    clear HST HADD HM
    generalize w5.drewN n = w6 at *
    have x0 := B5.cell (i := 0) (v := .int .i64 S.now) rfl
    have x1 := B5.cell (i := 1) (v := .string ⟨#[]⟩) rfl
    have x2 := B5.cell (i := 2) (v := .bool true) rfl
    clear B5
    go_wp2_with fail
    refine AD.mono ?_
    rintro e w7 ⟨rfl, row, H7, O7, R7⟩
    clear AD x0 x1 x2
    obtain ⟨S2, h', M, ST3, H8⟩ := HM2.out w7 row H7 O7 R7
    have ST4 : Step w w7 S S2 := HST2.out.trans ST3
    have hp2 : S2.p = S.p := ST4.p
    clear HM2 O7 R7 H7 ST3 HN HST2
    cases hw0 : waitsP h.live with
    | true =>
      have RR : Hid (StoreAt w7 S2 ∧ Step w w7 S S2 ∧ Good S2 ∧ Wrote S S2 ⟨key, val, true⟩) := ⟨M.store, ST4, M.done (.inl hw0), M.wrote⟩
      clear M ST4 hp2 H8 hw0
      go_wp2_with fail
      go_end0
      exact ⟨rfl, S2, RR.out⟩
    | false =>
      have W2 := waits_any h' w7 H8
      rw [M.blk] at W2
      cases hw1 : waitsP h'.live with
      | false =>
        have RR : Hid (∀ n, StoreAt (w7.drewN n) S2 ∧ Step w (w7.drewN n) S S2 ∧ Good S2 ∧ Wrote S S2 ⟨key, val, true⟩) := fun n => ⟨M.store.drewN n, ST4.trans (Step.of_below (below_drewN _ _) _), M.done (.inr hw1), M.wrote⟩
        rw [hw1] at W2
        clear M ST4 hp2 H8 hw0 hw1
        go_wp2_with fail
        refine W2.mono ?_
        rintro e w8 ⟨rfl, n2, rfl⟩
        clear W2
        go_wp2_with fail
        go_end0
        exact ⟨rfl, S2, RR.out n2⟩
      | true =>
        have PP : Hid (∀ n, Calls Tryz.prog 114 #[.pointer (some ⟨S.p, 5, none⟩), .pointer (some ⟨h.blk, 0, none⟩)] (w7.drewN n) fun e w' => e = .returned (.tuple #[]) ∧ ∃ S', StoreAt w' S' ∧ Step (w7.drewN n) w' S2 S' ∧ Good S' ∧ Wrote S S' ⟨key, val, true⟩) := fun n => by
          rw [← hp2]
          exact Mid.put { M with store := M.store.drewN n } hw0 hw1
        have ST5 : Hid (∀ n, Step w (w7.drewN n) S S2) := fun n => ST4.trans (Step.of_below (below_drewN _ _) _)
        rw [hw1] at W2
        clear M ST4 hp2 H8 hw0 hw1
        go_wp2_with fail
        refine W2.mono ?_
        rintro e w8 ⟨rfl, n2, rfl⟩
        clear W2
        have P := PP.out n2
        have ST6 : Hid (Step w (w7.drewN n2) S S2) := ST5.out n2
        clear PP ST5
        generalize w7.drewN n2 = w8 at *
        go_wp2_with fail
        refine P.mono ?_
        rintro e w9 ⟨rfl, S', a1, a2, a3, a4⟩
        clear P
        have RR : Hid (StoreAt w9 S' ∧ Step w w9 S S' ∧ Good S' ∧ Wrote S S' ⟨key, val, true⟩) := ⟨a1, ST6.out.trans a2, a3, a4⟩
        clear a1 a2 a3 a4 ST6
        go_wp2_with fail
        go_end0
        exact ⟨rfl, S', RR.out⟩
end Go.Proofs.YtlncljfljjaacaaGreatDoor

namespace Go.Proofs.YtlncljfljjaacaaGreatDoor
open Go.ChangeShapes Go.WideShapes Go.ChangeAt Go.RowKit
open Go.Sort (grow)
set_option linter.unusedVariables false
set_option linter.unusedSimpArgs false

/-- Writes in a slice. -/
structure WsAt (w : World) (a : Option Addr) (ws : List Wr) : Prop where
  cells : 0 < ws.length → ∃ g o, a = some ⟨g, o, none⟩ ∧ g < w.heap.size ∧ ∀ j x, ws[j]? = some x → w.cell? ⟨g, o + j * 3, none⟩ = some (.string x.key) ∧ w.cell? ⟨g, o + j * 3 + 1, none⟩ = some (.string x.val) ∧ w.cell? ⟨g, o + j * 3 + 2, none⟩ = some (.bool x.gone)

theorem WsAt.step {w w' : World} {a : Option Addr} {ws : List Wr} (W : WsAt w a ws) (h : ∀ g o, a = some ⟨g, o, none⟩ → g < w.heap.size → w'.heap[g]? = w.heap[g]?) (hs : w.heap.size ≤ w'.heap.size) : WsAt w' a ws := by
  refine ⟨fun h0 => ?_⟩
  obtain ⟨g, o, e, hg, hc⟩ := W.cells h0
  have hb := h g o e hg
  refine ⟨g, o, e, Nat.lt_of_lt_of_le hg hs, fun j x hx => ?_⟩
  obtain ⟨c1, c2, c3⟩ := hc j x hx
  have k : ∀ i, w'.cell? ⟨g, i, none⟩ = w.cell? ⟨g, i, none⟩ := fun i => cell_of_block hb
  rw [k, k, k]
  exact ⟨c1, c2, c3⟩

def addL (now : Int) (ws : List Wr) (k : ByteArray) : List Vr := (ws.filter fun x => decide (x.key = k)).map (vrOf now)

theorem addL_snoc (now : Int) (ws : List Wr) (x : Wr) (k : ByteArray) : addL now (ws ++ [x]) k = addL now ws k ++ if x.key = k then [vrOf now x] else [] := by
  unfold addL
  rw [List.filter_append, List.map_append]
  congr 1
  by_cases h : x.key = k <;> simp [h]

/-- Behind these of them. -/
structure Done (S S' : St) (stamp count : Int) (ws : List Wr) : Prop where
  lim : S'.lim = S.lim
  now : S'.now = stamp
  cnt : S'.cnt = count
  tot : S'.tot = S.tot + ws.length
  pins : S'.pins = S.pins
  live : ∀ k, S'.live k = S.live k ++ addL stamp ws k

theorem Good.nums {S : St} (G : Good S) (now cnt : Int) : Good (S.nums now cnt) := ⟨G.ne, G.nodup, G.wait, G.heap⟩

set_option maxHeartbeats 3200000 in
set_option maxRecDepth 20000 in
theorem commit_any (S : St) (a : Option Addr) (c : Nat) (ws : List Wr) (w : World) (A : StoreAt w S) (G : Good S) (W : WsAt w a ws) (hap : ∀ g o, a = some ⟨g, o, none⟩ → ¬ (S.lab g).isSome)
    (hsz : ∀ x ∈ ws, x.key.size ≤ 281474976710656 ∧ x.val.size ≤ 281474976710656) (ht : S.tot + ws.length ≤ 900000) (hl : 0 ≤ S.lim ∧ S.lim ≤ 1000000) (hn : 0 ≤ S.now ∧ S.now ≤ 1000000) (hc : 0 ≤ S.cnt ∧ S.cnt ≤ 1000000) :
    Calls Tryz.prog 87 #[.pointer (some ⟨S.p, 0, none⟩), .slice a ws.length c] w fun e w' =>
      (S.lim - S.cnt < (ws.length : Int) ∧ e = .returned (.tuple #[.int .i64 0, .int .i64 13]) ∧ ∃ n, w' = w.drewN n) ∨
      ((ws.length : Int) ≤ S.lim - S.cnt ∧ e = .returned (.tuple #[.int .i64 (S.now + 1), .int .i64 0]) ∧ ∃ S', StoreAt w' S' ∧ Step w w' S S' ∧ Good S' ∧ Done S S' (S.now + 1) (S.cnt + ws.length) ws) := by
  have c0 := A.blk.cell (i := 0) (v := .int .i64 S.lim) rfl
  have c1 := A.blk.cell (i := 1) (v := .int .i64 S.now) rfl
  have c2 := A.blk.cell (i := 2) (v := .int .i64 S.cnt) rfl
  have f1 := A.blk.thawed 1
  have f2 := A.blk.thawed 2
  have hsub : wrap64 (S.lim - S.cnt) = S.lim - S.cnt := IntWalk.wrap64_in _ (by omega)
  have hadd : wrap64 (S.now + 1) = S.now + 1 := IntWalk.wrap64_in _ (by omega)
  have hadd2 : wrap64 (S.cnt + ws.length) = S.cnt + ws.length := IntWalk.wrap64_in _ (by omega)
  by_cases hfull : S.lim - S.cnt < (ws.length : Int)
  · generalize ws.length = ln at *
    clear A G W hap hsz ht hadd hadd2 f1 f2
    go_enter Tryz.func87, Tryz.ntmps87
    go_wp2_with fail
    go_region
    go_wp2_with fail
    exact bodyPost_ret (v := .tuple #[.int .i64 0, .int .i64 13]) (by simp [results, Tryz.results87, go_sem]) rfl (.inl ⟨hfull, rfl, 1, rfl⟩)
  · have hle : (ws.length : Int) ≤ S.lim - S.cnt := by omega
    obtain ⟨now, hnow⟩ : ∃ now, now = S.now + 1 := ⟨_, rfl⟩
    obtain ⟨cnt, hcnt⟩ : ∃ cnt, cnt = S.cnt + ws.length := ⟨_, rfl⟩
    rw [← hnow, ← hcnt]
    replace hadd : wrap64 (S.now + 1) = now := hadd.trans hnow.symm
    replace hadd2 : wrap64 (S.cnt + ws.length) = cnt := hadd2.trans hcnt.symm
    have HA : Hid (StoreAt w S ∧ Good S ∧ WsAt w a ws) := ⟨A, G, W⟩
    have HB : Hid ((∀ g o, a = some ⟨g, o, none⟩ → ¬ (S.lab g).isSome) ∧ (∀ x ∈ ws, x.key.size ≤ 281474976710656 ∧ x.val.size ≤ 281474976710656) ∧ S.tot + ws.length ≤ 900000 ∧ now = S.now + 1 ∧ cnt = S.cnt + ws.length) := ⟨hap, hsz, ht, hnow, hcnt⟩
    have hpl := A.blk.lt
    clear A G W hap hsz ht hnow hcnt hl hn hc
    go_enter Tryz.func87, Tryz.ntmps87
    go_wp2_with fail
    go_region
    go_wp2_with fail
    have hW0 : Hid (∃ S0, StoreAt ((w.setCell ⟨S.p, 1, none⟩ (.int .i64 now)).setCell ⟨S.p, 2, none⟩ (.int .i64 cnt)).drew S0 ∧ Step w ((w.setCell ⟨S.p, 1, none⟩ (.int .i64 now)).setCell ⟨S.p, 2, none⟩ (.int .i64 cnt)).drew S S0 ∧ Good S0 ∧ Done S S0 now cnt []) := by
      have hO : Only (fun b => b = S.p) w ((w.setCell ⟨S.p, 1, none⟩ (.int .i64 now)).setCell ⟨S.p, 2, none⟩ (.int .i64 cnt)).drew :=
        ⟨rfl, rfl, rfl, by simp [World.setCell, World.drew], fun k h1 h2 => (Below.heap_setCell _ _ _ _ h2).trans (Below.heap_setCell _ _ _ _ h2)⟩
      have hB : Blk ((w.setCell ⟨S.p, 1, none⟩ (.int .i64 now)).setCell ⟨S.p, 2, none⟩ (.int .i64 cnt)).drew S.p (S.nums now cnt).cs 66 := (HA.out.1.blk.set 1 (.int .i64 now)).set 2 (.int .i64 cnt)
      exact ⟨S.nums now cnt, HA.out.1.nums now cnt hB hO, Step.nums HA.out.1 now cnt hO, HA.out.2.1.nums now cnt, ⟨rfl, rfl, rfl, rfl, rfl, fun k => by simp [addL]; rfl⟩⟩
    generalize ((w.setCell ⟨S.p, 1, none⟩ (.int .i64 now)).setCell ⟨S.p, 2, none⟩ (.int .i64 cnt)).drew = W0 at *
    obtain ⟨S0, q1, q2, q3, q4⟩ := hW0.out
    have hQ : Hid (StoreAt W0 S0 ∧ Step w W0 S S0 ∧ Good S0 ∧ Done S S0 now cnt (ws.take 0)) := ⟨q1, q2, q3, q4⟩
    clear hW0 q1 q2 q3 q4 c0 c1 c2 f1 f2 hsub hadd hadd2
    generalize hln : ws.length = ln at hle
    replace hln : Hid (ws.length = ln) := hln
    go_loopg [38] ln (fun kx s38 wr => ∃ (i : Nat) (Si : St), s38 = .int .i64 i ∧ i ≤ ln ∧ ln - i ≤ kx ∧ Hid (StoreAt wr Si ∧ Step w wr S Si ∧ Good Si ∧ Done S Si now cnt (ws.take i)))
    case atStart => exact ⟨0, S0, rfl, Nat.zero_le _, by omega, hQ⟩
    case round =>
      clear hQ
      obtain ⟨i, Si, rfl, hi, hg, Q⟩ := hrel
      by_cases hin : i < ln
      · have hinI : (i : Int) < (ln : Int) := by omega
        have hi0 : (0 : Int) ≤ (i : Int) := by omega
        obtain ⟨q1, q2, q3, q4⟩ := Q.out
        obtain ⟨x, hx⟩ : ∃ x, ws[i]? = some x := ⟨_, List.getElem?_eq_getElem (by rw [hln.out]; exact hin)⟩
        have hWw : WsAt wr a ws := HA.out.2.2.step (fun g o e hg => q2.only.block g hg (HB.out.1 g o e)) q2.only.size
        obtain ⟨g, o, rfl, hgl, hcell⟩ := hWw.cells (by rw [hln.out]; omega)
        obtain ⟨k1, k2, k3⟩ := hcell i x hx
        obtain ⟨z1, z2⟩ := HB.out.2.1 x (List.mem_of_getElem? hx)
        have htk : ws.take (i + 1) = ws.take i ++ [x] := by rw [List.take_add_one, hx]; rfl
        have htl : (ws.take i).length = i := by rw [List.length_take, hln.out]; omega
        have hbn := below_new wr (.cells #[.string x.key, .string x.val, .bool x.gone] 128)
        have P := write_any Si x (wr.alloc (.cells #[.string x.key, .string x.val, .bool x.gone] 128)) (q1.below hbn) q3 z1 z2 (by have := q4.tot; have := HB.out.2.2.1; rw [hln.out] at this; omega)
        rw [q2.p] at P
        have HN : Hid (∀ w9, (∃ S', StoreAt w9 S' ∧ Step (wr.alloc (.cells #[.string x.key, .string x.val, .bool x.gone] 128)) w9 Si S' ∧ Good S' ∧ Wrote Si S' x) → ∃ S', StoreAt w9 S' ∧ Step w w9 S S' ∧ Good S' ∧ Done S S' now cnt (ws.take (i + 1))) := by
          rintro w9 ⟨S', r1, r2, r3, r4⟩
          refine ⟨S', r1, (q2.trans (Step.of_below hbn Si)).trans r2, r3, ⟨r4.lim.trans q4.lim, r4.now.trans q4.now, r4.cnt.trans q4.cnt, ?_, r4.pins.trans q4.pins, fun k => ?_⟩⟩
          · rw [r4.tot, q4.tot, htk, List.length_append]; rfl
          · rw [htk, addL_snoc]
            by_cases e : x.key = k
            · subst e
              rw [r4.same, q4.live, q4.now, if_pos rfl, List.append_assoc]
            · rw [r4.other k (fun h => e h.symm), q4.live, if_neg e, List.append_nil]
        have HI : Hid (i < ln ∧ ln - i ≤ gk ∧ ln ≤ 900000) := ⟨hin, hg, by have := HB.out.2.2.1; rw [hln.out] at this; omega⟩
        unfold wrV at P
        clear Q q1 q2 q3 q4 hbn hx hWw hcell z1 z2 htk htl hin hg hi HB HA
        go_wp2_with fail
        refine P.mono ?_
        rintro e w9 ⟨rfl, h9⟩
        have h10 := HN.out w9 h9
        clear P HN h9
        obtain ⟨S', r1, r2, r3, r4⟩ := h10
        have hR : Hid (StoreAt w9 S' ∧ Step w w9 S S' ∧ Good S' ∧ Done S S' now cnt (ws.take (i + 1))) := ⟨r1, r2, r3, r4⟩
        clear r1 r2 r3 r4 k1 k2 k3
        obtain ⟨hi1, hi2, hi3⟩ := HI.out
        go_wp2_with fail
        go_roundg (ln - (i + 1))
        case rel => exact ⟨i + 1, S', by go_num, by omega, Nat.le_refl _, hR⟩
        case measure => omega
      · obtain rfl : i = ln := by omega
        obtain ⟨q1, q2, q3, q4⟩ := Q.out
        have c1 := q1.blk.cell (i := 1) (v := .int .i64 Si.now) rfl
        rw [q2.p, q4.now] at c1
        have htk : ws.take i = ws := List.take_of_length_le (by rw [hln.out]; exact Nat.le_refl _)
        rw [htk] at q4
        have hR : Hid (∃ S', StoreAt wr S' ∧ Step w wr S S' ∧ Good S' ∧ Done S S' now cnt ws) := ⟨Si, q1, q2, q3, q4⟩
        clear Q q1 q2 q3 q4 hin hg hi HA HB htk
        go_wp2_with fail
        exact bodyPost_ret (v := .tuple #[.int .i64 now, .int .i64 0]) (by simp [results, Tryz.results87, go_sem]) rfl (.inr ⟨by rw [hln.out]; exact hle, rfl, hR.out⟩)
end Go.Proofs.YtlncljfljjaacaaGreatDoor

namespace Go.Proofs.YtlncljfljjaacaaGreatDoor
open Go.ChangeShapes Go.WideShapes Go.ChangeAt Go.RowKit
set_option linter.unusedVariables false
set_option linter.unusedSimpArgs false

theorem snoc_ind {α : Type} {P : List α → Prop} (h0 : P []) (h1 : ∀ l x, P l → P (l ++ [x])) (l : List α) : P l := by
  have : ∀ r : List α, P r.reverse := by
    intro r
    induction r with
    | nil => exact h0
    | cons x r ih => rw [List.reverse_cons]; exact h1 _ _ ih
  simpa using this l.reverse

def toVr (x : Ver) : Vr := ⟨x.at', if x.w.gone then ByteArray.empty else x.w.val, x.w.gone⟩
def vers (k : ByteArray) (v : List Ver) : List Vr := (v.filter fun x => decide (x.w.key = k)).map toVr

theorem vers_append (k : ByteArray) (a b : List Ver) : vers k (a ++ b) = vers k a ++ vers k b := by unfold vers; rw [List.filter_append, List.map_append]
theorem vers_one (k : ByteArray) (x : Ver) : vers k [x] = if x.w.key = k then [toVr x] else [] := by
  unfold vers
  by_cases h : x.w.key = k <;> simp [h]
theorem vers_mem {k : ByteArray} {v : List Ver} {y : Vr} (h : y ∈ vers k v) : ∃ x ∈ v, x.w.key = k ∧ y = toVr x := by
  unfold vers at h
  obtain ⟨x, hx, rfl⟩ := List.mem_map.1 h
  have := List.mem_filter.1 hx
  exact ⟨x, this.1, by simpa using this.2, rfl⟩

theorem rise_vers {k : ByteArray} {v : List Ver} (h : Rising v) : Rise (vers k v) := by
  unfold Rise vers
  rw [List.pairwise_map]
  exact List.Pairwise.filter _ h

theorem upTo_snoc (t : Int) (l : List Vr) (y : Vr) : upToP t (l ++ [y]) = upToP t l + if y.at' ≤ t then 1 else 0 := by
  unfold upToP
  rw [List.countP_append]
  congr 1
  by_cases h : y.at' ≤ t <;> simp [h]

theorem readL_snoc (t : Int) (l : List Vr) (y : Vr) (h : Rise (l ++ [y])) : readL t (l ++ [y]) = if y.at' ≤ t then (y.val, !y.gone) else readL t l := by
  have hle : ∀ x ∈ l, x.at' ≤ y.at' := fun x hx => (List.pairwise_append.1 h).2.2 x hx y (by simp)
  by_cases hy : y.at' ≤ t
  · rw [if_pos hy]
    have : upToP t l = l.length := by
      unfold upToP
      rw [List.countP_eq_length]
      intro x hx
      have := hle x hx
      simp; omega
    unfold readL
    rw [upTo_snoc, if_pos hy, this]
    simp
  · rw [if_neg hy]
    unfold readL
    rw [upTo_snoc, if_neg hy, Nat.add_zero]
    cases hu : upToP t l with
    | zero => rfl
    | succ k =>
      have := upTo_le t l
      simp only
      rw [List.getElem?_append_left (by omega)]

theorem read_vers (k : ByteArray) (t : Int) (v : List Ver) : Rising v → readL t (vers k v) = match lastP k t v with | some x => if x.w.gone then (ByteArray.empty, false) else (x.w.val, true) | none => (ByteArray.empty, false) := by
  refine snoc_ind (P := fun v => Rising v → readL t (vers k v) = match lastP k t v with | some x => if x.w.gone then (ByteArray.empty, false) else (x.w.val, true) | none => (ByteArray.empty, false)) (fun _ => rfl) ?_ v
  intro l x ih h
  have hl : Rising l := (List.pairwise_append.1 h).1
  rw [lastP_snoc, vers_append, vers_one]
  by_cases hk : x.w.key = k
  · rw [if_pos hk, readL_snoc _ _ _ (by have := rise_vers (k := k) h; rwa [vers_append, vers_one, if_pos hk] at this)]
    by_cases ht : x.at' ≤ t
    · rw [if_pos (show (toVr x).at' ≤ t from ht), if_pos (by simp [Ver.hit, hk, ht])]
      unfold toVr
      cases hg : x.w.gone <;> simp [hg]
    · rw [if_neg (show ¬ (toVr x).at' ≤ t from ht), if_neg (by simp [Ver.hit, hk, ht])]
      exact ih hl
  · rw [if_neg hk, List.append_nil, if_neg (by simp [Ver.hit, hk])]
    exact ih hl

theorem changed_vers (k : ByteArray) (t s : Int) (v : List Ver) : (∀ x ∈ v, x.at' ≤ s) → changedL t (vers k v) = match lastP k s v with | some x => decide (t < x.at') | none => false := by
  refine snoc_ind (P := fun v => (∀ x ∈ v, x.at' ≤ s) → changedL t (vers k v) = match lastP k s v with | some x => decide (t < x.at') | none => false) (fun _ => rfl) ?_ v
  intro l x ih h
  rw [lastP_snoc, vers_append, vers_one]
  have hs := h x (by simp)
  by_cases hk : x.w.key = k
  · rw [if_pos hk, if_pos (by simp [Ver.hit, hk, hs])]
    unfold changedL
    rw [List.getLast?_concat]
    rfl
  · rw [if_neg hk, List.append_nil, if_neg (by simp [Ver.hit, hk])]
    exact ih (fun y hy => h y (by simp [hy]))

structure Abs (S : St) (s : Sto) : Prop where
  all : S.lim = s.all
  stamp : S.now = s.stamp
  cnt : S.cnt = s.v.length
  live : ∀ k, S.live k = vers k s.v
  rising : Rising s.v
  le : ∀ x ∈ s.v, x.at' ≤ s.stamp
  size : ∀ x ∈ s.v, x.w.val.size ≤ 281474976710656
  tot : s.v.length ≤ S.tot
  nonneg : 0 ≤ s.stamp ∧ 0 ≤ s.all ∧ s.all ≤ 1000000

theorem Abs.read {S : St} {s : Sto} (H : Abs S s) (k : ByteArray) (t : Int) : readL t (S.live k) = readP s k t := by
  rw [H.live, read_vers k t s.v H.rising]
  unfold readP
  cases lastP k t s.v <;> rfl
theorem Abs.changed {S : St} {s : Sto} (H : Abs S s) (k : ByteArray) (t : Int) : changedL t (S.live k) = changedP s k t := by
  rw [H.live, changed_vers k t s.stamp s.v H.le]
  unfold changedP
  cases lastP k s.stamp s.v <;> rfl

theorem addL_vers (now : Int) (ws : List Wr) (k : ByteArray) : addL now ws k = vers k (ws.map fun w => ⟨w, now⟩) := by
  unfold addL vers
  rw [List.filter_map, List.map_map]
  rfl

theorem Abs.commit {S S' : St} {s : Sto} {ws : List Wr} (H : Abs S s) (D : Done S S' (S.now + 1) (S.cnt + ws.length) ws) (h : (ws.length : Int) ≤ S.lim - S.cnt) (hsz : ∀ x ∈ ws, x.val.size ≤ 281474976710656) : Abs S' (commitP s ws).1 ∧ (commitP s ws).2 = (S.now + 1, 0) := by
  have hroom : ¬ s.all < (s.v.length : Int) + (ws.length : Int) := by rw [← H.all, ← H.cnt]; omega
  have R := rising_commit (ws := ws) H.rising H.le
  unfold commitP at *
  rw [if_neg hroom] at *
  refine ⟨⟨D.lim.trans H.all, ?_, ?_, fun k => ?_, R.1, R.2, ?_, ?_, ?_⟩, ?_⟩
  · rw [D.now, H.stamp]
  · rw [D.cnt, H.cnt]; simp
  · rw [D.live, H.live, H.stamp, addL_vers]
    exact (vers_append _ _ _).symm
  · intro x hx
    rcases List.mem_append.1 hx with hx | hx
    · exact H.size x hx
    · obtain ⟨y, hy, rfl⟩ := List.mem_map.1 hx
      exact hsz y hy
  · have := H.tot
    rw [D.tot]
    simp
    omega
  · have := H.nonneg
    simp only
    omega
  · rw [H.stamp]

theorem Abs.full {S : St} {s : Sto} {ws : List Wr} (H : Abs S s) (h : S.lim - S.cnt < (ws.length : Int)) : commitP s ws = (s, 0, 13) := by
  unfold commitP
  rw [if_pos (by rw [← H.all, ← H.cnt]; omega)]

theorem Abs.new (p m : Nat) (lim : Int) (h : 0 ≤ lim ∧ lim ≤ 1000000) : Abs (St.new p m lim) ⟨lim, 0, [], []⟩ :=
  ⟨rfl, rfl, rfl, fun k => rfl, List.Pairwise.nil, fun x hx => (by cases hx), fun x hx => (by cases hx), Nat.zero_le _, ⟨Int.le_refl _, h.1, h.2⟩⟩
theorem Good.new (p m : Nat) (lim : Int) : Good (St.new p m lim) := ⟨fun k h e => (by cases e), List.nodup_nil, fun k h e => (by cases e), fun k _ h => (by cases h)⟩
end Go.Proofs.YtlncljfljjaacaaGreatDoor

namespace Go.Proofs.YtlncljfljjaacaaGreatDoor
open Go.ChangeShapes Go.WideShapes Go.ChangeAt Go.RowKit
set_option linter.unusedVariables false
set_option linter.unusedSimpArgs false

structure Own (B p : Nat) (w0 w : World) (S : St) (s : Sto) : Prop where
  ptr : S.p = p
  below : Below B w0 w
  size : B ≤ w.heap.size
  store : StoreAt w S
  good : Good S
  abs : Abs S s
  ge : ∀ b, (S.lab b).isSome → B ≤ b

theorem Step.below {B : Nat} {w0 w w' : World} {S S' : St} (T : Step w w' S S') (hb : Below B w0 w) (hB : B ≤ w.heap.size) (ge : ∀ b, (S.lab b).isSome → B ≤ b) : Below B w0 w' :=
  hb.trans ⟨T.only.os, T.only.tape, T.only.output, T.only.size, fun k hk => T.only.block k (by omega) (fun e => by have := ge k e; omega)⟩
theorem Step.ge {B : Nat} {w w' : World} {S S' : St} (T : Step w w' S S') (hB : B ≤ w.heap.size) (ge : ∀ b, (S.lab b).isSome → B ≤ b) : ∀ b, (S'.lab b).isSome → B ≤ b :=
  fun b e => (T.lab b e).elim (ge b) (fun h => by omega)

theorem Own.later {B p : Nat} {w0 w w' : World} {S : St} {s : Sto} (O : Own B p w0 w S s) (h : Below w.heap.size w w') : Own B p w0 w' S s :=
  ⟨O.ptr, O.below.trans (h.mono O.size), Nat.le_trans O.size h.size, O.store.below h, O.good, O.abs, O.ge⟩

theorem Own.moved {B p : Nat} {w0 w w' : World} {S S' : St} {s s' : Sto} (O : Own B p w0 w S s) (T : Step w w' S S') (A : StoreAt w' S') (G : Good S') (H : Abs S' s') : Own B p w0 w' S' s' :=
  ⟨T.p.trans O.ptr, T.below O.below O.size O.ge, Nat.le_trans O.size T.only.size, A, G, H, T.ge O.size O.ge⟩

theorem new_own (B : Nat) (w0 w : World) (lim : Int) (hl : 0 ≤ lim ∧ lim ≤ 1000000) (hb : Below B w0 w) (hB : B ≤ w.heap.size) :
    Calls Tryz.prog 11 #[.int .i64 lim] w fun e w' => ∃ p S, e = .returned (.pointer (some ⟨p, 0, none⟩)) ∧ Own B p w0 w' S ⟨lim, 0, [], []⟩ ∧ S.tot = 0 ∧ S.pins = [] ∧ Below w.heap.size w w' ∧ ∀ b, (S.lab b).isSome → w.heap.size ≤ b := by
  refine (new_any lim w).mono ?_
  rintro e w' ⟨p, m, rfl, A, hb', hp, hm⟩
  have hge : ∀ b, ((St.new p m lim).lab b).isSome → w.heap.size ≤ b := fun b e => by
    have e : (if b = p then some Role.st else if b = m then some Role.mp else none : Option Role).isSome := e
    split at e
    · omega
    · split at e
      · omega
      · cases e
  exact ⟨p, St.new p m lim, rfl, ⟨rfl, hb.trans (hb'.mono hB), Nat.le_trans hB hb'.size, A, Good.new _ _ _, Abs.new _ _ _ hl, fun b e => Nat.le_trans hB (hge b e)⟩, rfl, rfl, hb', hge⟩

theorem count_own {B p : Nat} {w0 w : World} {S : St} {s : Sto} (O : Own B p w0 w S s) : Calls Tryz.prog 16 #[.pointer (some ⟨p, 0, none⟩)] w fun e w' => e = .returned (.int .i64 (s.v.length : Nat)) ∧ w' = w := by
  rw [← O.abs.cnt, ← O.ptr]; exact count_any S w O.store

theorem read_own {B p : Nat} {w0 w : World} {S : St} {s : Sto} (O : Own B p w0 w S s) (k : ByteArray) (t : Int) (hk : k.size ≤ maxLen) :
    Calls Tryz.prog 60 #[.pointer (some ⟨p, 0, none⟩), .string k, .int .i64 t] w fun e w' => e = .returned (.tuple #[.string (readP s k t).1, .bool (readP s k t).2]) ∧ Below w.heap.size w w' := by
  rw [← O.abs.read k t, ← O.ptr]
  refine read_any S k t w O.store hk (by rw [O.abs.live]; exact rise_vers O.abs.rising) (fun x hx => ?_)
  rw [O.abs.live] at hx
  obtain ⟨y, hy, _, rfl⟩ := vers_mem hx
  unfold toVr
  simp only
  split
  · exact Nat.zero_le _
  · exact O.abs.size y hy

theorem changed_own {B p : Nat} {w0 w : World} {S : St} {s : Sto} (O : Own B p w0 w S s) (k : ByteArray) (t : Int) (hk : k.size ≤ maxLen) :
    Calls Tryz.prog 137 #[.pointer (some ⟨p, 0, none⟩), .string k, .int .i64 t] w fun e w' => e = .returned (.bool (changedP s k t)) ∧ ∃ n, w' = w.drewN n := by
  rw [← O.abs.changed k t, ← O.ptr]
  exact changed_any S k t w O.store hk (O.good.ne k)

theorem commit_own {B p : Nat} {w0 w : World} {S : St} {s : Sto} (O : Own B p w0 w S s) (a : Option Addr) (c : Nat) (ws : List Wr) (W : WsAt w a ws) (hap : ∀ g o, a = some ⟨g, o, none⟩ → ¬ (S.lab g).isSome)
    (hsz : ∀ x ∈ ws, x.key.size ≤ 281474976710656 ∧ x.val.size ≤ 281474976710656) (ht : S.tot + ws.length ≤ 900000) (hn : s.stamp ≤ 1000000) :
    Calls Tryz.prog 87 #[.pointer (some ⟨p, 0, none⟩), .slice a ws.length c] w fun e w' => ∃ S', e = .returned (.tuple #[.int .i64 (commitP s ws).2.1, .int .i64 (commitP s ws).2.2]) ∧ Own B p w0 w' S' (commitP s ws).1 ∧ Step w w' S S' ∧ S'.tot ≤ S.tot + ws.length ∧ S'.pins = S.pins := by
  have h1 := O.abs.nonneg
  have P := commit_any S a c ws w O.store O.good W hap hsz ht (by rw [O.abs.all]; exact h1.2) (by rw [O.abs.stamp]; exact ⟨h1.1, hn⟩) (by rw [O.abs.cnt]; have := O.abs.tot; omega)
  rw [O.ptr] at P
  refine P.mono ?_
  rintro e w' (⟨hf, rfl, n, rfl⟩ | ⟨hf, rfl, S', A, T, G, D⟩)
  · rw [O.abs.full hf]
    exact ⟨S, rfl, O.later (below_drewN w n), Step.of_below (below_drewN w n) S, by omega, rfl⟩
  · obtain ⟨h2, h3⟩ := O.abs.commit D hf (fun x hx => (hsz x hx).2)
    rw [h3]
    exact ⟨S', rfl, O.moved T A G h2, T, by rw [D.tot]; exact Nat.le_refl _, D.pins⟩
end Go.Proofs.YtlncljfljjaacaaGreatDoor
