/- The program's put: one write. -/
import Derived.Test.YtcnajkclbmddgaaMid
namespace Go.Proofs.Ytcnajkclbmddgaa
open Go.ChangeShapes Go.WideShapes Go.ChangeAt Go.RowKit
open Go.Sort (grow)
set_option linter.unusedVariables false
set_option linter.unusedSimpArgs false

set_option maxHeartbeats 3200000 in
set_option maxRecDepth 20000 in
theorem write_any (S : St) (x : Wr) (w : World) (A : StoreAt w S) (G : Good S) (hk : x.key.size ≤ 281474976710656) (hv : x.val.size ≤ 281474976710656) (ht : S.tot < 900000) :
    Calls Try.prog 30 #[.pointer (some ⟨S.p, 0, none⟩), wrV x] w fun e w' => e = .returned (.tuple #[]) ∧ ∃ S', StoreAt w' S' ∧ Step w w' S S' ∧ Good S' ∧ Wrote S S' x := by
  obtain ⟨key, val, gone⟩ := x
  unfold wrV
  simp only at hk hv ⊢
  have c1 := A.blk.cell (i := 1) (v := .int .i64 S.now) rfl
  have hpl := A.blk.lt
  have hp0 : S.p < w.heap.size := hpl
  have HA : Hid (StoreAt w S ∧ Good S ∧ key.size ≤ 281474976710656 ∧ S.tot < 900000) := ⟨A, G, hk, ht⟩
  have HC : Hid (∀ w1, Calls Try.prog 41 #[.string val] w1 fun e w' => e = .returned (.string val) ∧ Below w1.heap.size w1 w') := fun w1 => clone_any val hv w1
  -- what stands behind the version was made: from there on both ways are one
  have REST : Hid (∀ w1, Below w.heap.size w w1 → Calls Try.prog 42 #[.pointer (some ⟨S.p, 0, none⟩), .string key] w1 fun e w' => ∃ S' h, e = .returned (.pointer (some ⟨h.blk, 0, none⟩)) ∧ StoreAt w' S' ∧ Step w1 w' S S' ∧ S'.hs key = some h ∧
      ((S.hs key = some h ∧ S' = S.more) ∨ (S.hs key = none ∧ S' = S.grow key h ∧ h.all = [] ∧ h.off = 0))) := fun w1 hb => history_any S key w1 (A.below hb) (by unfold maxLen; omega) hk ht
  clear A G hk hv ht hpl
  go_enter Try.func30, Try.ntmps30
  go_wp2_with fail
  have B1 := Blk.new w #[.string key, .string val, .bool gone] 54
  have hb1 := below_new w (.cells #[.string key, .string val, .bool gone] 54)
  replace c1 := kept_cell hb1 c1
  have hs1 : (w.alloc (.cells #[.string key, .string val, .bool gone] 54)).heap.size = w.heap.size + 1 := by simp
  have hXp : S.p ≠ w.heap.size := by omega
  generalize w.alloc (.cells #[.string key, .string val, .bool gone] 54) = w1 at *
  generalize hwb : w.heap.size = wb at *
  have d0 := B1.cell (i := 0) (v := .string key) rfl
  have d1 := B1.cell (i := 1) (v := .string val) rfl
  have d2 := B1.cell (i := 2) (v := .bool gone) rfl
  clear B1
  cases gone
  · go_region
    have hbX : Below wb w (w1.alloc (.cells #[.int .i64 S.now, .string ⟨#[]⟩, .bool false] 81)).drew := (hb1.alloc (by omega) _).drew
    have BX : Blk (w1.alloc (.cells #[.int .i64 S.now, .string ⟨#[]⟩, .bool false] 81)).drew (wb + 1) #[.int .i64 S.now, .string ⟨#[]⟩, .bool false] 81 := by rw [← hs1]; exact Blk.new w1 _ _
    have e0 : (w1.alloc (.cells #[.int .i64 S.now, .string ⟨#[]⟩, .bool false] 81)).drew.cell? ⟨wb, 0, none⟩ = some (.string key) := kept_alloc d0
    have e1 : (w1.alloc (.cells #[.int .i64 S.now, .string ⟨#[]⟩, .bool false] 81)).drew.cell? ⟨wb, 1, none⟩ = some (.string val) := kept_alloc d1
    have e2 : (w1.alloc (.cells #[.int .i64 S.now, .string ⟨#[]⟩, .bool false] 81)).drew.cell? ⟨wb, 2, none⟩ = some (.bool false) := kept_alloc d2
    clear d0 d1 d2 c1 hb1
    generalize (w1.alloc (.cells #[.int .i64 S.now, .string ⟨#[]⟩, .bool false] 81)).drew = w2 at *
    have hxw : wb ≠ wb + 1 := by omega
    have hwx : wb < wb + 1 := by omega
    generalize wb + 1 = xb at *
    clear hs1 w1
    have hbs : wb ≤ w2.heap.size := by have := hbX.size; omega
    have C := HC.out w2
    go_wp2_with fail
    refine C.mono ?_
    rintro e w3 ⟨rfl, hb3⟩
    clear C
    have hb4 : Below wb w w3 := hbX.trans (hb3.mono hbs)
    replace BX := BX.of_block (hb3.block xb BX.lt)
    replace e0 := kept_cell hb3 e0
    have z1 := BX.cell (i := 1) (v := .string ⟨#[]⟩) rfl
    have f1 := BX.thawed 1
    have B4 : Blk (w3.setCell ⟨xb, 1, none⟩ (.string val)) xb #[.int .i64 S.now, .string val, .bool false] 81 := BX.set 1 _
    have hb5 : Below wb w (w3.setCell ⟨xb, 1, none⟩ (.string val)) := hb4.setCell (by show wb ≤ xb; omega) _
    have g0 : (w3.setCell ⟨xb, 1, none⟩ (.string val)).cell? ⟨wb, 0, none⟩ = some (.string key) := by rw [World.cell?_setCell_other _ _ _ _ (by intro e; injection e with e1; exact hxw e1.symm)]; exact e0
    have HV : Hid (vrOf S.now ⟨key, val, false⟩ = ⟨S.now, val, false⟩) := rfl
    clear e0 e1 e2 hb3 hb4 hbX
    go_wp2_with fail
    have R := REST.out _ hb5
    generalize hW4 : (w3.setCell ⟨xb, 1, none⟩ (.string val)) = w4 at *
    clear hW4
    refine R.mono ?_
    rintro e w5 ⟨S1, h, rfl, H1, ST1, E1, E⟩
    clear R
    obtain ⟨hA, hG, hk, ht⟩ := HA.out
    have hxl : ¬ (S.lab xb).isSome := fun e => by have := hA.lt xb e; omega
    have B5 := B4.of_block (ST1.only.block xb B4.lt hxl)
    have W1 := waits_any h w5 (H1.his _ _ E1).1
    have HADD : Hid (∀ n, Calls Try.prog 44 #[.pointer (some ⟨h.blk, 0, none⟩), .agg #[.int .i64 S.now, .string val, .bool false]] (w5.drewN n) fun e w' => e = .returned (.tuple #[]) ∧
          ∃ row, HistAt w' { h with row := row, all := h.all ++ [⟨S.now, val, false⟩] } ∧ Only (fun k => k = h.blk ∨ h.row.ownBlock = some k) (w5.drewN n) w' ∧ ∀ g, row.ownBlock = some g → h.row.ownBlock = some g ∨ (w5.drewN n).heap.size ≤ g) := fun n =>
      add_any h ⟨S.now, val, false⟩ (w5.drewN n) ((H1.drewN n).his _ _ E1).1 (by have := H1.all _ _ E1; have := H1.few; omega)
    have HM : Hid (∀ n w6 row, HistAt w6 { h with row := row, all := h.all ++ [⟨S.now, val, false⟩] } → Only (fun k => k = h.blk ∨ h.row.ownBlock = some k) (w5.drewN n) w6 → (∀ g, row.ownBlock = some g → h.row.ownBlock = some g ∨ (w5.drewN n).heap.size ≤ g) → ∃ S2 h', Mid w6 S S2 ⟨key, val, false⟩ h h' ∧ Step (w5.drewN n) w6 S1 S2 ∧ HistAt w6 h') := fun n w6 row a b c => mid_of hA hG (H1.drewN n) E1 E (x := ⟨key, val, false⟩) a b c
    have HST : Hid (∀ n, Step w (w5.drewN n) S S1) := fun n => ((Step.of_below (hwb.symm ▸ hb5) S).trans ST1).trans (Step.of_below (below_drewN w5 n) S1)
    have HN : Hid (S1.p = S.p) := ST1.p
    clear hA hG hk ht hxl B4 E H1 ST1 E1 hb5 g0 HA HV REST HC
    go_wp2_with fail
    refine W1.mono ?_
    rintro e w6 ⟨rfl, n, rfl⟩
    clear W1
    replace B5 : Blk (w5.drewN n) xb #[.int .i64 S.now, .string val, .bool false] 81 := B5
    have HST2 : Hid (Step w (w5.drewN n) S S1) := HST.out n
    have AD := HADD.out n
    have HM2 := HM.out n
    replace HM2 : Hid _ := HM2
    clear HST HADD HM
    generalize w5.drewN n = w6 at *
    have x0 := B5.cell (i := 0) (v := .int .i64 S.now) rfl
    have x1 := B5.cell (i := 1) (v := .string val) rfl
    have x2 := B5.cell (i := 2) (v := .bool false) rfl
    clear B5
    go_wp2_with fail
    refine AD.mono ?_
    rintro e w7 ⟨rfl, row, H7, O7, R7⟩
    clear AD x0 x1 x2
    obtain ⟨S2, h', M, ST3, H8⟩ := HM2.out w7 row H7 O7 R7
    have ST4 : Step w w7 S S2 := HST2.out.trans ST3
    have hp2 : S2.p = S.p := ST4.p
    clear HM2 O7 R7 H7 ST3 HN HST2
    cases hw0 : waitsP h.live with
    | true =>
      have RR : Hid (StoreAt w7 S2 ∧ Step w w7 S S2 ∧ Good S2 ∧ Wrote S S2 ⟨key, val, false⟩) := ⟨M.store, ST4, M.done (.inl hw0), M.wrote⟩
      clear M ST4 hp2 H8 hw0
      go_wp2_with fail
      go_end0
      exact ⟨rfl, S2, RR.out⟩
    | false =>
      have W2 := waits_any h' w7 H8
      rw [M.blk] at W2
      cases hw1 : waitsP h'.live with
      | false =>
        have RR : Hid (∀ n, StoreAt (w7.drewN n) S2 ∧ Step w (w7.drewN n) S S2 ∧ Good S2 ∧ Wrote S S2 ⟨key, val, false⟩) := fun n => ⟨M.store.drewN n, ST4.trans (Step.of_below (below_drewN _ _) _), M.done (.inr hw1), M.wrote⟩
        rw [hw1] at W2
        clear M ST4 hp2 H8 hw0 hw1
        go_wp2_with fail
        refine W2.mono ?_
        rintro e w8 ⟨rfl, n2, rfl⟩
        clear W2
        go_wp2_with fail
        go_end0
        exact ⟨rfl, S2, RR.out n2⟩
      | true =>
        have PP : Hid (∀ n, Calls Try.prog 45 #[.pointer (some ⟨S.p, 5, none⟩), .pointer (some ⟨h.blk, 0, none⟩)] (w7.drewN n) fun e w' => e = .returned (.tuple #[]) ∧ ∃ S', StoreAt w' S' ∧ Step (w7.drewN n) w' S2 S' ∧ Good S' ∧ Wrote S S' ⟨key, val, false⟩) := fun n => by
          rw [← hp2]
          exact Mid.put { M with store := M.store.drewN n } hw0 hw1
        have ST5 : Hid (∀ n, Step w (w7.drewN n) S S2) := fun n => ST4.trans (Step.of_below (below_drewN _ _) _)
        rw [hw1] at W2
        clear M ST4 hp2 H8 hw0 hw1
        go_wp2_with fail
        refine W2.mono ?_
        rintro e w8 ⟨rfl, n2, rfl⟩
        clear W2
        have P := PP.out n2
        have ST6 : Hid (Step w (w7.drewN n2) S S2) := ST5.out n2
        clear PP ST5
        generalize w7.drewN n2 = w8 at *
        go_wp2_with fail
        refine P.mono ?_
        rintro e w9 ⟨rfl, S', a1, a2, a3, a4⟩
        clear P
        have RR : Hid (StoreAt w9 S' ∧ Step w w9 S S' ∧ Good S' ∧ Wrote S S' ⟨key, val, false⟩) := ⟨a1, ST6.out.trans a2, a3, a4⟩
        clear a1 a2 a3 a4 ST6
        go_wp2_with fail
        go_end0
        exact ⟨rfl, S', RR.out⟩
  · go_region
    have hbX : Below wb w (w1.alloc (.cells #[.int .i64 S.now, .string ⟨#[]⟩, .bool true] 81)).drew := (hb1.alloc (by omega) _).drew
    have BX : Blk (w1.alloc (.cells #[.int .i64 S.now, .string ⟨#[]⟩, .bool true] 81)).drew (wb + 1) #[.int .i64 S.now, .string ⟨#[]⟩, .bool true] 81 := by rw [← hs1]; exact Blk.new w1 _ _
    have e0 : (w1.alloc (.cells #[.int .i64 S.now, .string ⟨#[]⟩, .bool true] 81)).drew.cell? ⟨wb, 0, none⟩ = some (.string key) := kept_alloc d0
    have e1 : (w1.alloc (.cells #[.int .i64 S.now, .string ⟨#[]⟩, .bool true] 81)).drew.cell? ⟨wb, 1, none⟩ = some (.string val) := kept_alloc d1
    have e2 : (w1.alloc (.cells #[.int .i64 S.now, .string ⟨#[]⟩, .bool true] 81)).drew.cell? ⟨wb, 2, none⟩ = some (.bool true) := kept_alloc d2
    clear d0 d1 d2 c1 hb1
    generalize (w1.alloc (.cells #[.int .i64 S.now, .string ⟨#[]⟩, .bool true] 81)).drew = w2 at *
    have hxw : wb ≠ wb + 1 := by omega
    have hwx : wb < wb + 1 := by omega
    generalize wb + 1 = xb at *
    clear hs1 w1
    have HV : Hid (vrOf S.now ⟨key, val, true⟩ = ⟨S.now, ⟨#[]⟩, true⟩) := rfl
    have B4 := BX
    have g0 := e0
    have hb5 := hbX
    go_wp2_with fail
    clear e0 e1 e2 hbX BX
    have R := REST.out _ hb5
    generalize hW4 : w2 = w4 at *
    clear hW4
    refine R.mono ?_
    rintro e w5 ⟨S1, h, rfl, H1, ST1, E1, E⟩
    clear R
    obtain ⟨hA, hG, hk, ht⟩ := HA.out
    have hxl : ¬ (S.lab xb).isSome := fun e => by have := hA.lt xb e; omega
    have B5 := B4.of_block (ST1.only.block xb B4.lt hxl)
    have W1 := waits_any h w5 (H1.his _ _ E1).1
    have HADD : Hid (∀ n, Calls Try.prog 44 #[.pointer (some ⟨h.blk, 0, none⟩), .agg #[.int .i64 S.now, .string ⟨#[]⟩, .bool true]] (w5.drewN n) fun e w' => e = .returned (.tuple #[]) ∧
          ∃ row, HistAt w' { h with row := row, all := h.all ++ [⟨S.now, ⟨#[]⟩, true⟩] } ∧ Only (fun k => k = h.blk ∨ h.row.ownBlock = some k) (w5.drewN n) w' ∧ ∀ g, row.ownBlock = some g → h.row.ownBlock = some g ∨ (w5.drewN n).heap.size ≤ g) := fun n =>
      add_any h ⟨S.now, ⟨#[]⟩, true⟩ (w5.drewN n) ((H1.drewN n).his _ _ E1).1 (by have := H1.all _ _ E1; have := H1.few; omega)
    have HM : Hid (∀ n w6 row, HistAt w6 { h with row := row, all := h.all ++ [⟨S.now, ⟨#[]⟩, true⟩] } → Only (fun k => k = h.blk ∨ h.row.ownBlock = some k) (w5.drewN n) w6 → (∀ g, row.ownBlock = some g → h.row.ownBlock = some g ∨ (w5.drewN n).heap.size ≤ g) → ∃ S2 h', Mid w6 S S2 ⟨key, val, true⟩ h h' ∧ Step (w5.drewN n) w6 S1 S2 ∧ HistAt w6 h') := fun n w6 row a b c => mid_of hA hG (H1.drewN n) E1 E (x := ⟨key, val, true⟩) a b c
    have HST : Hid (∀ n, Step w (w5.drewN n) S S1) := fun n => ((Step.of_below (hwb.symm ▸ hb5) S).trans ST1).trans (Step.of_below (below_drewN w5 n) S1)
    have HN : Hid (S1.p = S.p) := ST1.p
    clear hA hG hk ht hxl B4 E H1 ST1 E1 hb5 g0 HA HV REST HC
    go_wp2_with fail
    refine W1.mono ?_
    rintro e w6 ⟨rfl, n, rfl⟩
    clear W1
    replace B5 : Blk (w5.drewN n) xb #[.int .i64 S.now, .string ⟨#[]⟩, .bool true] 81 := B5
    have HST2 : Hid (Step w (w5.drewN n) S S1) := HST.out n
    have AD := HADD.out n
    have HM2 := HM.out n
    replace HM2 : Hid _ := HM2
    clear HST HADD HM
    generalize w5.drewN n = w6 at *
    have x0 := B5.cell (i := 0) (v := .int .i64 S.now) rfl
    have x1 := B5.cell (i := 1) (v := .string ⟨#[]⟩) rfl
    have x2 := B5.cell (i := 2) (v := .bool true) rfl
    clear B5
    go_wp2_with fail
    refine AD.mono ?_
    rintro e w7 ⟨rfl, row, H7, O7, R7⟩
    clear AD x0 x1 x2
    obtain ⟨S2, h', M, ST3, H8⟩ := HM2.out w7 row H7 O7 R7
    have ST4 : Step w w7 S S2 := HST2.out.trans ST3
    have hp2 : S2.p = S.p := ST4.p
    clear HM2 O7 R7 H7 ST3 HN HST2
    cases hw0 : waitsP h.live with
    | true =>
      have RR : Hid (StoreAt w7 S2 ∧ Step w w7 S S2 ∧ Good S2 ∧ Wrote S S2 ⟨key, val, true⟩) := ⟨M.store, ST4, M.done (.inl hw0), M.wrote⟩
      clear M ST4 hp2 H8 hw0
      go_wp2_with fail
      go_end0
      exact ⟨rfl, S2, RR.out⟩
    | false =>
      have W2 := waits_any h' w7 H8
      rw [M.blk] at W2
      cases hw1 : waitsP h'.live with
      | false =>
        have RR : Hid (∀ n, StoreAt (w7.drewN n) S2 ∧ Step w (w7.drewN n) S S2 ∧ Good S2 ∧ Wrote S S2 ⟨key, val, true⟩) := fun n => ⟨M.store.drewN n, ST4.trans (Step.of_below (below_drewN _ _) _), M.done (.inr hw1), M.wrote⟩
        rw [hw1] at W2
        clear M ST4 hp2 H8 hw0 hw1
        go_wp2_with fail
        refine W2.mono ?_
        rintro e w8 ⟨rfl, n2, rfl⟩
        clear W2
        go_wp2_with fail
        go_end0
        exact ⟨rfl, S2, RR.out n2⟩
      | true =>
        have PP : Hid (∀ n, Calls Try.prog 45 #[.pointer (some ⟨S.p, 5, none⟩), .pointer (some ⟨h.blk, 0, none⟩)] (w7.drewN n) fun e w' => e = .returned (.tuple #[]) ∧ ∃ S', StoreAt w' S' ∧ Step (w7.drewN n) w' S2 S' ∧ Good S' ∧ Wrote S S' ⟨key, val, true⟩) := fun n => by
          rw [← hp2]
          exact Mid.put { M with store := M.store.drewN n } hw0 hw1
        have ST5 : Hid (∀ n, Step w (w7.drewN n) S S2) := fun n => ST4.trans (Step.of_below (below_drewN _ _) _)
        rw [hw1] at W2
        clear M ST4 hp2 H8 hw0 hw1
        go_wp2_with fail
        refine W2.mono ?_
        rintro e w8 ⟨rfl, n2, rfl⟩
        clear W2
        have P := PP.out n2
        have ST6 : Hid (Step w (w7.drewN n2) S S2) := ST5.out n2
        clear PP ST5
        generalize w7.drewN n2 = w8 at *
        go_wp2_with fail
        refine P.mono ?_
        rintro e w9 ⟨rfl, S', a1, a2, a3, a4⟩
        clear P
        have RR : Hid (StoreAt w9 S' ∧ Step w w9 S S' ∧ Good S' ∧ Wrote S S' ⟨key, val, true⟩) := ⟨a1, ST6.out.trans a2, a3, a4⟩
        clear a1 a2 a3 a4 ST6
        go_wp2_with fail
        go_end0
        exact ⟨rfl, S', RR.out⟩
end Go.Proofs.Ytcnajkclbmddgaa
