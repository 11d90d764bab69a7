/- The first of the heap taken. -/
import Derived.Test.YtcnajkclbmddgaaPut
import Derived.WalkSmall
namespace Go.Proofs.Ytcnajkclbmddgaa
open Go.ChangeShapes Go.WideShapes Go.ChangeAt Go.RowKit
open Go.Sort (grow)
set_option linter.unusedVariables false
set_option linter.unusedSimpArgs false

set_option maxHeartbeats 1600000 in
set_option maxRecDepth 20000 in
/-- The last of the row is taken off. -/
theorem popm_any (p g cap b : Nat) (cs : Array Value) (l : List Nat) (w : World) (B : Blk w p cs 62) (hc : cs[5]? = some (.slice (some ⟨g, 0, none⟩) (l.length + 1) cap)) (hrow : w.ownsRow 0 76 1 (.slice (some ⟨g, 0, none⟩) (l.length + 1) cap) (l.length + 1) (ptrs (l ++ [b]))) (hne : g ≠ p) (hf : l.length < 1000000) :
    Calls Try.prog 79 #[.pointer (some ⟨p, 5, none⟩)] w fun e w' => e = .returned (.iface 76 (.pointer (some ⟨b, 0, none⟩))) ∧
      Blk w' p (cs.setIfInBounds 5 (.slice (some ⟨g, 0, none⟩) l.length cap)) 62 ∧ w'.ownsRow 0 76 1 (.slice (some ⟨g, 0, none⟩) l.length cap) l.length (ptrs l) ∧ Only (fun k => k = p ∨ k = g) w w' := by
  have c1 := B.cell hc
  have f1 := B.thawed 5
  have hlast : (ptrs (l ++ [b]))[l.length]? = some (ptrV b) := ptrs_get (by simp)
  have c2 := hrow.cells (g := g) rfl _ _ hlast
  rw [cell_add, Nat.zero_add] at c2
  unfold ptrV at c2
  have f2 := hrow.frozenAt l.length
  have hsub : ((l.length + 1 : Nat) : Int) - 1 = (l.length : Int) := by omega
  have hcap : l.length + 1 ≤ cap := by
    rcases hrow.2 with ⟨h, _⟩ | ⟨g', cap', cur, h, _, _, hn, _⟩
    · cases h
    · cases h; exact hn
  obtain ⟨R1, G1⟩ := hrow.stored l.length (.pointer none)
  have hset : (ptrs (l ++ [b])).set l.length (.pointer none) = ptrs l ++ [.pointer none] := by
    unfold ptrs
    simp [List.set_append]
  rw [hset] at R1
  have R2 := ownsRow_pop (xs := ptrs l) (last := [.pointer none]) (by simp [ptrs_len]) R1
  have B1 : Blk (w.setCell ⟨g, l.length, none⟩ (.pointer none)) p cs 62 := B.of_block (Below.heap_setCell _ _ _ _ (Ne.symm hne))
  have HR : Hid (w.ownsRow 0 76 1 (.slice (some ⟨g, 0, none⟩) (l.length + 1) cap) (l.length + 1) (ptrs (l ++ [b])) ∧ (w.setCell ⟨g, l.length, none⟩ (.pointer none)).ownsRow 0 76 1 (.slice (some ⟨g, 0, none⟩) l.length cap) l.length (ptrs l) ∧ Blk (w.setCell ⟨g, l.length, none⟩ (.pointer none)) p cs 62 ∧ l.length < 1000000) := ⟨hrow, R2, B1, hf⟩
  have d1 : (w.setCell ⟨g, l.length, none⟩ (.pointer none)).cell? ⟨p, 5, none⟩ = some (.slice (some ⟨g, 0, none⟩) (l.length + 1) cap) := B1.cell hc
  have df1 : (w.setCell ⟨g, l.length, none⟩ (.pointer none)).frozen? ⟨p, 5, none⟩ = false := B1.thawed 5
  have hlnI : (l.length : Int) < ((l.length + 1 : Nat) : Int) := by omega
  have hcapI : ((l.length + 1 : Nat) : Int) ≤ (cap : Int) := by omega
  have hbig : ((l.length + 1 : Nat) : Int) < 2000000 := by omega
  have h0 : (0 : Int) ≤ (l.length : Int) := by omega
  clear hrow R1 R2 G1 hset hlast B B1 hc hf hcap
  generalize l.length = n at *
  generalize hn1 : n + 1 = n1 at *
  clear hn1
  go_enter Try.func79, Try.ntmps79
  go_wp2_with fail
  go_ret
  obtain ⟨-, R2, B2, -⟩ := HR.out
  refine ⟨rfl, B2.set 5 _, ownsRow_setCell_other R2 (a := ⟨p, 5, none⟩) (by simpa [Value.ownBlock] using hne) _, rfl, rfl, rfl, by simp [World.setCell], fun k hk hn => ?_⟩
  exact (Below.heap_setCell _ _ _ _ (fun e => hn (.inl e))).trans (Below.heap_setCell _ _ _ _ (fun e => hn (.inr e)))

set_option maxHeartbeats 3200000 in
set_option maxRecDepth 20000 in
theorem heapPop_any (p : Nat) (cs : Array Value) (v : Value) (l : List Nat) (hi : Nat → Hi) (w : World) (B : Blk w p cs 62) (hc : cs[5]? = some v) (D : DueAt w v l hi) (A : Apt p v l hi) (HH : HeapOn (keyL (nx hi) l) l.length) (h0 : 0 < l.length) :
    Calls Try.prog 53 #[.iface 92 (.pointer (some ⟨p, 5, none⟩))] w fun e w' => (∃ r, e = .returned r) ∧
      ∃ v' l', (l' ++ [l.getD 0 0]).Perm l ∧ HeapOn (keyL (nx hi) l') l'.length ∧ Blk w' p (cs.setIfInBounds 5 v') 62 ∧ DueAt w' v' l' hi ∧ Only (fun k => k = p ∨ v.ownBlock = some k) w w' ∧ ∀ g, v'.ownBlock = some g → v.ownBlock = some g := by
  have hq := B.cell hc
  have hfew := D.few
  obtain ⟨g, cap, rfl, _, hg⟩ := D.row.form h0
  have hgp : g ≠ p := fun e => A.own (by rw [← e]; rfl)
  have LM := len_m w ⟨p, 5, none⟩ _ hq
  have LN := len_any (.slice (some ⟨g, 0, none⟩) l.length cap) l.length w ⟨_, _, rfl⟩
  have SM := swap_m w ⟨p, 5, none⟩ _ hq
  have SW := swap_any _ l 0 (l.length - 1) w D.row hfew h0 (by omega)
  rw [show ((0 : Nat) : Int) = 0 from rfl] at SW
  have hpl := B.lt
  -- behind the swap
  have K1 : Hid (∀ w1, w1.ownsRow 0 76 1 (.slice (some ⟨g, 0, none⟩) l.length cap) l.length (ptrs (swapL l 0 (l.length - 1))) → Only (fun k => (Value.slice (some ⟨g, 0, none⟩) l.length cap).ownBlock = some k) w w1 →
      w1.cell? ⟨p, 5, none⟩ = some (.slice (some ⟨g, 0, none⟩) l.length cap) ∧ Calls Try.prog 57 #[.iface 92 (.pointer (some ⟨p, 5, none⟩)), .int .i64 0, .int .i64 ((l.length - 1 : Nat) : Int)] w1 fun e w' => (∃ r, e = .returned (.bool r)) ∧
        ∃ l', l'.Perm (swapL l 0 (l.length - 1)) ∧ HeapOn (keyL (nx hi) l') (l.length - 1) ∧ l'.getD (l.length - 1) 0 = l.getD 0 0 ∧ w'.ownsRow 0 76 1 (.slice (some ⟨g, 0, none⟩) l.length cap) l.length (ptrs l') ∧ Only (fun k => (Value.slice (some ⟨g, 0, none⟩) l.length cap).ownBlock = some k) w1 w') := by
    intro w1 R1 O1
    have hsp := swapL_perm (l := l) (i := 0) (j := l.length - 1) h0 (by omega)
    have D1 := D.swapped (q := ⟨p, 5, none⟩) A.apart hsp R1 O1
    have hq1 : w1.cell? ⟨p, 5, none⟩ = some (.slice (some ⟨g, 0, none⟩) l.length cap) := O1.cell hq (fun e => A.own e)
    refine ⟨hq1, (down_any ⟨p, 5, none⟩ _ _ hi (l.length - 1) w1 hq1 D1 (A.apart.perm hsp) (by rw [swapL_len]; exact h0) (by rw [swapL_len]; omega) (pop_inv h0 HH)).mono ?_⟩
    rintro e w2 ⟨hr, l', hp, hh, hl, hrow, ho⟩
    rw [swapL_len] at hrow
    refine ⟨hr, l', hp, hh, ?_, hrow, ho⟩
    rw [hl, swapL_get h0 (by omega), if_pos rfl]
  have K2 : Hid (∀ w2 l', Blk w2 p cs 62 → l'.length = l.length → w2.ownsRow 0 76 1 (.slice (some ⟨g, 0, none⟩) l.length cap) l.length (ptrs l') → Calls Try.prog 79 #[.pointer (some ⟨p, 5, none⟩)] w2 fun e w' => (∃ r, e = .returned r) ∧
      Blk w' p (cs.setIfInBounds 5 (.slice (some ⟨g, 0, none⟩) (l.length - 1) cap)) 62 ∧ w'.ownsRow 0 76 1 (.slice (some ⟨g, 0, none⟩) (l.length - 1) cap) (l.length - 1) (ptrs (l'.take (l.length - 1))) ∧ Only (fun k => k = p ∨ k = g) w2 w') := by
    intro w2 l' B2 hll hrow
    have hl0 : l' = l'.take (l.length - 1) ++ [l'.getD (l.length - 1) 0] := by
      conv => lhs; rw [← List.take_append_drop (l.length - 1) l']
      congr 1
      have : l.length - 1 < l'.length := by omega
      rw [List.drop_eq_getElem_cons this, List.getD_eq_getElem?_getD, List.getElem?_eq_getElem this, List.drop_eq_nil_of_le (by omega)]
      rfl
    have hln : (l'.take (l.length - 1)).length = l.length - 1 := by rw [List.length_take]; omega
    have e1 : l.length = (l'.take (l.length - 1)).length + 1 := by omega
    have := popm_any p g cap (l'.getD (l.length - 1) 0) cs (l'.take (l.length - 1)) w2 B2 (by rw [← e1]; exact hc) (by rw [← e1, ← hl0]; exact hrow) hgp (by omega)
    rw [hln] at this
    exact this.mono (fun e w' h => ⟨⟨_, h.1⟩, h.2⟩)
  have PM := fun w => pop_m w ⟨p, 5, none⟩
  have K3 : Hid (∀ w1 w2 w3 l', Only (fun k => (Value.slice (some ⟨g, 0, none⟩) l.length cap).ownBlock = some k) w w1 → l'.Perm (swapL l 0 (l.length - 1)) → HeapOn (keyL (nx hi) l') (l.length - 1) → l'.getD (l.length - 1) 0 = l.getD 0 0 → Only (fun k => (Value.slice (some ⟨g, 0, none⟩) l.length cap).ownBlock = some k) w1 w2 →
      Blk w3 p (cs.setIfInBounds 5 (.slice (some ⟨g, 0, none⟩) (l.length - 1) cap)) 62 → w3.ownsRow 0 76 1 (.slice (some ⟨g, 0, none⟩) (l.length - 1) cap) (l.length - 1) (ptrs (l'.take (l.length - 1))) → Only (fun k => k = p ∨ k = g) w2 w3 →
      ∃ v' l', (l' ++ [l.getD 0 0]).Perm l ∧ HeapOn (keyL (nx hi) l') l'.length ∧ Blk w3 p (cs.setIfInBounds 5 v') 62 ∧ DueAt w3 v' l' hi ∧ Only (fun k => k = p ∨ (Value.slice (some ⟨g, 0, none⟩) l.length cap).ownBlock = some k) w w3 ∧ ∀ g', v'.ownBlock = some g' → (Value.slice (some ⟨g, 0, none⟩) l.length cap).ownBlock = some g') := by
    intro w1 w2 w3 l' O1 hp hh hl O2 B3 R3 O3
    have hsp := swapL_perm (l := l) (i := 0) (j := l.length - 1) h0 (by omega)
    have hpl := hp.trans hsp
    have hll := hpl.length_eq
    have hln : (l'.take (l.length - 1)).length = l.length - 1 := by rw [List.length_take]; omega
    have hl0 : l' = l'.take (l.length - 1) ++ [l.getD 0 0] := by
      conv => lhs; rw [← List.take_append_drop (l.length - 1) l']
      congr 1
      have h1 : l.length - 1 < l'.length := by omega
      rw [List.drop_eq_getElem_cons h1, ← hl, List.getD_eq_getElem?_getD, List.getElem?_eq_getElem h1, List.drop_eq_nil_of_le (by omega)]
      rfl
    have OO : Only (fun k => k = p ∨ (Value.slice (some ⟨g, 0, none⟩) l.length cap).ownBlock = some k) w w3 := by
      refine ⟨O3.os.trans (O2.os.trans O1.os), O3.tape.trans (O2.tape.trans O1.tape), O3.output.trans (O2.output.trans O1.output), Nat.le_trans O1.size (Nat.le_trans O2.size O3.size), fun k hk hn => ?_⟩
      have hk1 := Nat.lt_of_lt_of_le hk O1.size
      rw [O3.block k (Nat.lt_of_lt_of_le hk1 O2.size) (by
        rintro (e | e)
        · exact hn (.inl e)
        · exact hn (.inr (by rw [e]; rfl))), O2.block k hk1 (fun e => hn (.inr e)), O1.block k hk (fun e => hn (.inr e))]
    refine ⟨_, l'.take (l.length - 1), by rw [← hl0]; exact hpl, ?_, B3, ⟨by rw [hln]; exact R3, fun b hb => ?_, by rw [hln]; omega⟩, OO, fun g' hg' => hg'⟩
    · rw [hln]
      intro k k0 kn
      have e : ∀ j, j < l.length - 1 → keyL (nx hi) (l'.take (l.length - 1)) j = keyL (nx hi) l' j := fun j hj => by
        unfold keyL
        rw [List.getD_eq_getElem?_getD, List.getD_eq_getElem?_getD, List.getElem?_take_of_lt hj]
      rw [e _ kn, e _ (by omega)]
      exact hh k k0 kn
    · have hbl : b ∈ l := hpl.mem_iff.1 (List.mem_of_mem_take hb)
      obtain ⟨h1, h2, h3⟩ := D.his b hbl
      obtain ⟨a1, a2, a3⟩ := A.his b hbl
      refine ⟨h1, h2.only OO ?_ ?_, h3⟩
      · rw [h1]
        rintro (e | e)
        · exact a1 e
        · exact (a3 b e).1 rfl
      · rintro g' hg' (e | e)
        · exact a2 (by rw [hg', e])
        · exact (a3 g' e).2 hg'
  have hsub : (l.length : Int) - 1 = ((l.length - 1 : Nat) : Int) := by omega
  have hbd : ((l.length - 1 : Nat) : Int) < 1000000 := by omega
  have hbd0 : (0 : Int) ≤ ((l.length - 1 : Nat) : Int) := by omega
  have K4 : Hid (Blk w p cs 62 ∧ (Value.slice (some ⟨g, 0, none⟩) l.length cap).ownBlock ≠ some p ∧ p < w.heap.size ∧ ∀ l' : List Nat, l'.Perm (swapL l 0 (l.length - 1)) → l'.length = l.length) := ⟨B, A.own, hpl, fun l' hp => by rw [hp.length_eq, swapL_len]⟩
  clear B hc D A HH h0 hfew hgp hpl hg
  generalize hsw : swapL l 0 (l.length - 1) = sl at *
  clear hsw
  generalize l.length - 1 = n1 at *
  generalize l.getD 0 0 = l00 at *
  generalize l.length = ln at *
  go_enter Try.func53, Try.ntmps53
  go_wp2_with fail
  refine LN.mono ?_
  rintro e w0 ⟨rfl, rfl⟩
  clear LN LM
  go_wp2_with fail
  refine SW.mono ?_
  rintro e w1 ⟨rfl, R1, O1⟩
  clear SW SM
  obtain ⟨hq1, DN⟩ := K1.out w1 R1 O1
  clear R1
  go_wp2_with fail
  refine DN.mono ?_
  rintro e w2 ⟨⟨r, rfl⟩, l', hp, hh, hl, hrow, ho⟩
  clear DN hq1
  have B2 : Blk w2 p cs 62 := (K4.out.1.of_block (O1.block p K4.out.2.2.1 K4.out.2.1)).of_block (ho.block p (Nat.lt_of_lt_of_le K4.out.2.2.1 O1.size) K4.out.2.1)
  have P := K2.out w2 l' B2 (K4.out.2.2.2 l' hp) hrow
  have HX : Hid _ := And.intro O1 (And.intro hp (And.intro hh (And.intro hl ho)))
  clear O1 hp hh hl ho hrow B2
  go_wp2_with fail
  refine P.mono ?_
  rintro e w3 ⟨⟨r2, rfl⟩, B3, R3, O3⟩
  clear P PM
  obtain ⟨O1, hp, hh, hl, ho⟩ := HX.out
  have RR : Hid _ := K3.out w1 w2 w3 l' O1 hp hh hl ho B3 R3 O3
  clear O1 hp hh hl ho B3 R3 O3 HX K1 K2 K3 K4
  go_wp2_with fail
  go_ret
  exact ⟨⟨_, rfl⟩, RR.out⟩
end Go.Proofs.Ytcnajkclbmddgaa
