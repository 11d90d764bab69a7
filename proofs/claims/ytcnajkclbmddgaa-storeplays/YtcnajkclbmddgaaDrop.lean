/- The first versions of a history taken off. -/
import Derived.Test.YtcnajkclbmddgaaLive2
namespace Go.Proofs.Ytcnajkclbmddgaa
open Go.ChangeShapes Go.WideShapes Go.ChangeAt Go.RowKit
set_option linter.unusedVariables false
set_option linter.unusedSimpArgs false

def Dropped (w w' : World) (h : Hi) (n : Nat) : Prop :=
  (n < h.live.length ∧ ∃ row all off, HistAt w' { h with row := row, all := all, off := off } ∧ all.drop off = h.live.drop n ∧ all.length ≤ h.all.length ∧ ∀ g, row.ownBlock = some g → h.row.ownBlock = some g ∨ w.heap.size ≤ g) ∨ (n = h.live.length ∧ Spent w' h.blk h.key)

theorem setRow_Blk {w : World} {g b : Nat} {cs : Array Value} {t : TypeId} (B : Blk w b cs t) (h : b ≠ g) (cur : Array Value) : Blk (w.setRow g cur) b cs t := B.of_block (setRow_other w g b cur h)

theorem ownsRow_form0 {w : World} {base : Nat} {e : TypeId} {size : Nat} {v : Value} {n : Nat} {xs : List Value} (h : w.ownsRow base e size v n xs) (hv : v ≠ .slice none 0 0) : ∃ g c, v = .slice (some ⟨g, 0, none⟩) n c ∧ base ≤ g := by
  rcases h.2 with ⟨h1, _⟩ | ⟨g, c, cur, h1, h2, _⟩
  · exact absurd h1 hv
  · exact ⟨g, c, h1, h2⟩

theorem own_base {w : World} {a b : Nat} {e : TypeId} {size : Nat} {v : Value} {n : Nat} {xs : List Value} (h : w.ownsRow a e size v n xs) (hb : b ≤ a) : w.ownsRow b e size v n xs := by
  obtain ⟨h1, h2⟩ := h
  refine ⟨h1, ?_⟩
  rcases h2 with h2 | ⟨g, c, cur, e1, e2, r⟩
  · exact .inl h2
  · exact .inr ⟨g, c, cur, e1, Nat.le_trans hb e2, r⟩

set_option maxHeartbeats 3200000 in
set_option maxRecDepth 20000 in
theorem drop_any (h : Hi) (n : Nat) (w : World) (H : HistAt w h) (h0 : 0 < h.live.length) (hn : n ≤ h.live.length) :
    Calls Try.prog 54 #[.pointer (some ⟨h.blk, 0, none⟩), .int .i64 n] w fun e w' => e = .returned (.tuple #[]) ∧ Only (fun k => k = h.blk ∨ h.row.ownBlock = some k) w w' ∧ Dropped w w' h n := by
  have L := live_any h w H
  obtain ⟨blk, key, row, all, off⟩ := h
  unfold Dropped
  unfold Hi.live at *
  simp only at *
  have hB : Blk w blk #[.string key, row, .int .i64 off] 91 := H.blk
  have hrow := H.row
  have hfew := H.few
  have hkey := H.key
  simp only at hrow hfew hkey
  clear H
  rw [List.length_drop] at *
  obtain ⟨hl, hr⟩ := hrow
  rcases hr with ⟨rfl, hz⟩ | ⟨g, cap, cur, rfl, _, hg, hnc, hcm, hcs, htk⟩
  · omega
  have hgb : blk ≠ g := by
    rintro rfl
    rw [hB] at hg
    simp at hg
  obtain ⟨R, hR⟩ : ∃ R, cur.toList = encVs all ++ R := ⟨cur.toList.drop (all.length * 3), by rw [← htk, List.take_append_drop]⟩
  have hle : off + n ≤ all.length := by omega
  have CL := fun (W : World) (hb : W.heap[g]? = some (.cells cur 81 (0, 0))) ty => run_clear2 g off n (cap - off) cur all R W hb hR hle ty
  have hcur2 : (encVs (cleared off n all) ++ R).toArray.size = cap * 3 := by
    have : cur.toList.length = all.length * 3 + R.length := by rw [hR, List.length_append, encVs_len]
    rw [Array.length_toList] at this
    simp only [List.size_toArray, List.length_append, encVs_len, cleared_len hle]
    omega
  have htk2 : (encVs (cleared off n all) ++ R).toArray.toList.take ((cleared off n all).length * 3) = encVs (cleared off n all) := by
    simp only [List.take_left' (encVs_len _)]
  have hclen := cleared_len hle
  have hcdrop := cleared_drop hle
  generalize cleared off n all = all2 at *
  generalize (encVs all2 ++ R).toArray = cur2 at *
  -- the row behind clear, in whatever world holds it
  have HROW : Hid (∀ W : World, W.heap[g]? = some (.cells cur2 81 (0, 0)) → W.ownsRow 0 81 3 (.slice (some ⟨g, 0, none⟩) all.length cap) all2.length (encVs all2)) := fun W hW =>
    ⟨encVs_len _, .inr ⟨g, cap, cur2, by rw [hclen], Nat.zero_le _, hW, by rw [hclen]; exact hnc, hcm, hcur2, htk2⟩⟩
  have HF : Hid (off < all.length ∧ n ≤ all.length - off ∧ all.length < 1000000 ∧ key.size ≤ maxLen ∧ all.length ≤ cap ∧ all2.length = all.length ∧ all2.drop (off + n) = all.drop (off + n)) := ⟨by omega, hn, hfew, hkey, hnc, hclen, hcdrop⟩
  have hLV : liveV off (.slice (some ⟨g, 0, none⟩) all.length cap) = .slice (some ⟨g, off * 3, none⟩) (all.length - off) (cap - off) := rfl
  rw [hLV] at L
  have hdd : (all.drop off).drop n = all.drop (off + n) := by rw [List.drop_drop]
  rw [hdd]
  have hgl : g < w.heap.size := (Array.getElem?_eq_some_iff.1 hg).1
  have hbl : blk < w.heap.size := hB.lt
  have hXX : Hid (g < w.heap.size ∧ blk < w.heap.size) := ⟨hgl, hbl⟩
  have hnI : (n : Int) ≤ ((all.length - off : Nat) : Int) := by omega
  have hnC : (n : Int) ≤ ((cap - off : Nat) : Int) := by omega
  have hn0 : (0 : Int) ≤ (n : Int) := by omega
  clear hLV hdd hfew hkey hnc hcm hcs htk hclen hcdrop hcur2 htk2 hR hn h0 hgl hbl hl hle
  generalize hof : off + n = of at *
  have hoI : (off : Int) + (n : Int) = (of : Int) := by omega
  have hoB : (of : Int) < 1000000 := by have := HF.out; omega
  have hoB0 : (0 : Int) ≤ (of : Int) := by omega
  replace hof : Hid (off + n = of) := hof
  go_enter Try.func54, Try.ntmps54
  go_wp2_with fail
  refine L.mono ?_
  rintro e w1 ⟨rfl, m, rfl⟩
  clear L
  have B1 : Blk (w.drewN m) blk #[.string key, .slice (some ⟨g, 0, none⟩) all.length cap, .int .i64 off] 91 := hB
  have hg1 : (w.drewN m).heap[g]? = some (.cells cur 81 (0, 0)) := hg
  have O1 : Hid (Only (fun k => k = blk ∨ (Value.slice (some ⟨g, 0, none⟩) all.length cap).ownBlock = some k) w (w.drewN m)) := ⟨rfl, rfl, rfl, Nat.le_refl _, fun _ _ _ => rfl⟩
  replace CL := fun ty => CL _ hg1 ty
  generalize w.drewN m = w1 at *
  clear hB hg
  have B2 := setRow_Blk B1 hgb cur2
  have hg2 : (w1.setRow g cur2).heap[g]? = some (.cells cur2 81 (0, 0)) := setRow_heap w1 g cur cur2 _ _ hg1
  have O2 : Hid (Only (fun k => k = blk ∨ (Value.slice (some ⟨g, 0, none⟩) all.length cap).ownBlock = some k) w (w1.setRow g cur2)) :=
    ⟨O1.out.os, O1.out.tape, O1.out.output, by simp; exact O1.out.size, fun k hk hn => (setRow_other w1 g k cur2 (fun e => hn (.inr (by rw [e]; rfl)))).trans (O1.out.block k hk hn)⟩
  have c2 := B2.cell (i := 2) (v := .int .i64 off) rfl
  have f2 := B2.thawed 2
  go_wp2_with fail
  have B3 : Blk ((w1.setRow g cur2).setCell ⟨blk, 2, none⟩ (.int .i64 of)) blk #[.string key, .slice (some ⟨g, 0, none⟩) all.length cap, .int .i64 of] 91 := B2.set 2 _
  have hg3 : ((w1.setRow g cur2).setCell ⟨blk, 2, none⟩ (.int .i64 of)).heap[g]? = some (.cells cur2 81 (0, 0)) := (Below.heap_setCell _ _ _ _ (Ne.symm hgb)).trans hg2
  have O3 : Hid (Only (fun k => k = blk ∨ (Value.slice (some ⟨g, 0, none⟩) all.length cap).ownBlock = some k) w ((w1.setRow g cur2).setCell ⟨blk, 2, none⟩ (.int .i64 of))) :=
    ⟨O2.out.os, O2.out.tape, O2.out.output, by have := O2.out.size; simp [World.setCell] at this ⊢; exact this, fun k hk hn => (Below.heap_setCell _ _ _ _ (fun e => hn (.inl e))).trans (O2.out.block k hk hn)⟩
  clear c2 f2 B1 hg1 O1 B2 hg2 O2 CL hnI hnC hn0 hoI
  generalize (w1.setRow g cur2).setCell ⟨blk, 2, none⟩ (.int .i64 of) = w3 at *
  have c1 := B3.cell (i := 1) (v := .slice (some ⟨g, 0, none⟩) all.length cap) rfl
  have c2 := B3.cell (i := 2) (v := .int .i64 of) rfl
  have hlI : (all.length : Int) < 1000000 := by have := HF.out; omega
  by_cases hge : (all.length : Int) ≤ 2 * (of : Int)
  · go_region
    clear c1 c2 hge
    have L := live2_any blk g of all.length cap key w3.drew B3 (by have := HF.out; have := hof.out; omega) (by have := HF.out; omega) (by have := HF.out; omega)
    have C : Hid (∀ w4, w4.heap[g]? = some (.cells cur2 81 (0, 0)) → Calls Try.prog 58 #[tailV g of all.length cap] w4 fun e w' => ∃ v', e = .returned v' ∧ w'.ownsRow w4.heap.size 81 3 v' (all.length - of) (encVs (all.drop of)) ∧ v' ≠ .slice none 0 0 ∧ Below w4.heap.size w4 w') := by
      intro w4 hg4
      obtain ⟨f1, f2, f3, f4, f5, f6, f7⟩ := HF.out
      have R4 := HROW.out w4 hg4
      have hlen : (all.drop of).length = all.length - of := List.length_drop
      have := cloneV_any g (if cap = of then 0 else of * 3) (cap - of) (all.drop of) w4 (by omega) (fun j u hj => by
        have hjl := (List.getElem?_eq_some_iff.1 hj).1
        rw [encVs_len, hlen] at hjl
        rw [if_neg (by omega)]
        have e2 : encVs all2 = encVs (all2.take of) ++ encVs (all.drop of) := by rw [← f7, ← encVs_append, List.take_append_drop]
        have h3 : (encVs all2)[of * 3 + j]? = some u := by
          rw [e2, List.getElem?_append_right (by rw [encVs_len, List.length_take]; omega), encVs_len, List.length_take]
          rw [show of * 3 + j - min of all2.length * 3 = j by omega]
          exact hj
        have := R4.cells (g := g) rfl _ _ h3
        rw [cell_add, Nat.zero_add] at this
        exact this)
      unfold tailV
      rw [hlen] at this
      exact this
    go_wp2_with fail
    refine L.mono ?_
    rintro e w4 ⟨rfl, m4, rfl⟩
    clear L
    replace C := C.out (w3.drew.drewN m4) hg3
    have B4 : Blk (w3.drew.drewN m4) blk #[.string key, .slice (some ⟨g, 0, none⟩) all.length cap, .int .i64 of] 91 := B3
    have O4 : Hid (Only (fun k => k = blk ∨ (Value.slice (some ⟨g, 0, none⟩) all.length cap).ownBlock = some k) w (w3.drew.drewN m4)) := ⟨O3.out.os, O3.out.tape, O3.out.output, O3.out.size, O3.out.block⟩
    generalize w3.drew.drewN m4 = w4 at *
    clear B3 hg3 O3
    unfold tailV at C ⊢
    generalize (if cap = of then 0 else of * 3) = oo at *
    go_wp2_with fail
    refine C.mono ?_
    rintro e w5 ⟨v', rfl, R5, hnil, hb5⟩
    clear C
    have hb4 : blk < w4.heap.size := B4.lt
    have B5 := B4.of_block (hb5.block blk hb4)
    obtain ⟨g2, cc2, rfl, hg2⟩ := ownsRow_form0 R5 hnil
    have O5 : Hid (Only (fun k => k = blk ∨ (Value.slice (some ⟨g, 0, none⟩) all.length cap).ownBlock = some k) w w5) :=
      ⟨hb5.os.trans O4.out.os, hb5.tape.trans O4.out.tape, hb5.output.trans O4.out.output, Nat.le_trans O4.out.size hb5.size, fun k hk hn => (hb5.block k (Nat.lt_of_lt_of_le hk O4.out.size)).trans (O4.out.block k hk hn)⟩
    have hne2 : blk ≠ g2 := by omega
    have hge2 : w.heap.size ≤ g2 := Nat.le_trans O4.out.size hg2
    have B6 := (B5.set 1 (.slice (some ⟨g2, 0, none⟩) (all.length - of) cc2)).set 2 (.int .i64 (0 : Nat))
    have R6 := ownsRow_setCell_other (ownsRow_setCell_other R5 (a := ⟨blk, 1, none⟩) (by simpa [Value.ownBlock] using Ne.symm hne2) (.slice (some ⟨g2, 0, none⟩) (all.length - of) cc2)) (a := ⟨blk, 2, none⟩) (by simpa [Value.ownBlock] using Ne.symm hne2) (.int .i64 (0 : Nat))
    have c1 := B5.cell (i := 1) (v := .slice (some ⟨g, 0, none⟩) all.length cap) rfl
    have f1 := B5.thawed 1
    have c2 := B5.cell (i := 2) (v := .int .i64 of) rfl
    have f2 := B5.thawed 2
    clear hb5 hb4 B4 O4
    go_wp2_with fail
    go_end0
    obtain ⟨f1, f2, f3, f4, f5, f6, f7⟩ := HF.out
    have hofn := hof.out
    refine ⟨rfl, ⟨O5.out.os, O5.out.tape, O5.out.output, by have := O5.out.size; simp [World.setCell] at this ⊢; exact this, fun k hk hn => (Below.heap_setCell _ _ _ _ (fun e => hn (.inl e))).trans ((Below.heap_setCell _ _ _ _ (fun e => hn (.inl e))).trans (O5.out.block k hk hn))⟩, ?_⟩
    by_cases he : of = all.length
    · right
      have e0 : all.length - of = 0 := by omega
      refine ⟨by omega, g2, cc2, ?_⟩
      rw [e0] at B6 ⊢
      exact B6
    · left
      have hlen : (all.drop of).length = all.length - of := List.length_drop
      refine ⟨by omega, .slice (some ⟨g2, 0, none⟩) (all.length - of) cc2, all.drop of, 0, ⟨B6, ?_, .inl ?_, ?_, f4⟩, rfl, ?_, fun g' h => .inr ?_⟩
      · dsimp only
        rw [hlen]
        exact own_base R6 (Nat.zero_le _)
      · show 0 < (all.drop of).length
        omega
      · show (all.drop of).length < 1000000
        omega
      · show (all.drop of).length ≤ all.length
        omega
      · simp [Value.ownBlock] at h
        omega
  · go_region
    go_wp2_with fail
    go_end0
    obtain ⟨f1, f2, f3, f4, f5, f6, f7⟩ := HF.out
    have := hof.out
    refine ⟨rfl, ⟨O3.out.os, O3.out.tape, O3.out.output, O3.out.size, O3.out.block⟩, .inl ⟨by omega, .slice (some ⟨g, 0, none⟩) all.length cap, all2, of, ⟨B3, ?_, .inl ?_, ?_, f4⟩, f7, by omega, fun g' h => .inl h⟩⟩
    · exact HROW.out w3.drew hg3
    · show of < all2.length
      omega
    · show all2.length < 1000000
      omega
end Go.Proofs.Ytcnajkclbmddgaa
