/- Commit. -/
import Derived.Test.YtcnajkclbmddgaaPuts
namespace Go.Proofs.Ytcnajkclbmddgaa
open Go.ChangeShapes Go.WideShapes Go.ChangeAt Go.RowKit
open Go.Sort (grow)
set_option linter.unusedVariables false
set_option linter.unusedSimpArgs false

/-- Writes in a slice. -/
structure WsAt (w : World) (a : Option Addr) (ws : List Wr) : Prop where
  cells : 0 < ws.length → ∃ g o, a = some ⟨g, o, none⟩ ∧ g < w.heap.size ∧ ∀ j x, ws[j]? = some x → w.cell? ⟨g, o + j * 3, none⟩ = some (.string x.key) ∧ w.cell? ⟨g, o + j * 3 + 1, none⟩ = some (.string x.val) ∧ w.cell? ⟨g, o + j * 3 + 2, none⟩ = some (.bool x.gone)

theorem WsAt.step {w w' : World} {a : Option Addr} {ws : List Wr} (W : WsAt w a ws) (h : ∀ g o, a = some ⟨g, o, none⟩ → g < w.heap.size → w'.heap[g]? = w.heap[g]?) (hs : w.heap.size ≤ w'.heap.size) : WsAt w' a ws := by
  refine ⟨fun h0 => ?_⟩
  obtain ⟨g, o, e, hg, hc⟩ := W.cells h0
  have hb := h g o e hg
  refine ⟨g, o, e, Nat.lt_of_lt_of_le hg hs, fun j x hx => ?_⟩
  obtain ⟨c1, c2, c3⟩ := hc j x hx
  have k : ∀ i, w'.cell? ⟨g, i, none⟩ = w.cell? ⟨g, i, none⟩ := fun i => cell_of_block hb
  rw [k, k, k]
  exact ⟨c1, c2, c3⟩

def addL (now : Int) (ws : List Wr) (k : ByteArray) : List Vr := (ws.filter fun x => decide (x.key = k)).map (vrOf now)

theorem addL_snoc (now : Int) (ws : List Wr) (x : Wr) (k : ByteArray) : addL now (ws ++ [x]) k = addL now ws k ++ if x.key = k then [vrOf now x] else [] := by
  unfold addL
  rw [List.filter_append, List.map_append]
  congr 1
  by_cases h : x.key = k <;> simp [h]

/-- Behind these of them. -/
structure Done (S S' : St) (stamp count : Int) (ws : List Wr) : Prop where
  lim : S'.lim = S.lim
  now : S'.now = stamp
  cnt : S'.cnt = count
  tot : S'.tot = S.tot + ws.length
  pins : S'.pins = S.pins
  live : ∀ k, S'.live k = S.live k ++ addL stamp ws k

theorem Good.nums {S : St} (G : Good S) (now cnt : Int) : Good (S.nums now cnt) := ⟨G.ne, G.nodup, G.wait, G.heap⟩

set_option maxHeartbeats 3200000 in
set_option maxRecDepth 20000 in
theorem commit_any (S : St) (a : Option Addr) (c : Nat) (ws : List Wr) (w : World) (A : StoreAt w S) (G : Good S) (W : WsAt w a ws) (hap : ∀ g o, a = some ⟨g, o, none⟩ → ¬ (S.lab g).isSome)
    (hsz : ∀ x ∈ ws, x.key.size ≤ 281474976710656 ∧ x.val.size ≤ 281474976710656) (ht : S.tot + ws.length ≤ 900000) (hl : 0 ≤ S.lim ∧ S.lim ≤ 1000000) (hn : 0 ≤ S.now ∧ S.now ≤ 1000000) (hc : 0 ≤ S.cnt ∧ S.cnt ≤ 1000000) :
    Calls Try.prog 14 #[.pointer (some ⟨S.p, 0, none⟩), .slice a ws.length c] w fun e w' =>
      (S.lim - S.cnt < (ws.length : Int) ∧ e = .returned (.tuple #[.int .i64 0, .int .i64 13]) ∧ ∃ n, w' = w.drewN n) ∨
      ((ws.length : Int) ≤ S.lim - S.cnt ∧ e = .returned (.tuple #[.int .i64 (S.now + 1), .int .i64 0]) ∧ ∃ S', StoreAt w' S' ∧ Step w w' S S' ∧ Good S' ∧ Done S S' (S.now + 1) (S.cnt + ws.length) ws) := by
  have c0 := A.blk.cell (i := 0) (v := .int .i64 S.lim) rfl
  have c1 := A.blk.cell (i := 1) (v := .int .i64 S.now) rfl
  have c2 := A.blk.cell (i := 2) (v := .int .i64 S.cnt) rfl
  have f1 := A.blk.thawed 1
  have f2 := A.blk.thawed 2
  have hsub : wrap64 (S.lim - S.cnt) = S.lim - S.cnt := IntWalk.wrap64_in _ (by omega)
  have hadd : wrap64 (S.now + 1) = S.now + 1 := IntWalk.wrap64_in _ (by omega)
  have hadd2 : wrap64 (S.cnt + ws.length) = S.cnt + ws.length := IntWalk.wrap64_in _ (by omega)
  by_cases hfull : S.lim - S.cnt < (ws.length : Int)
  · generalize ws.length = ln at *
    clear A G W hap hsz ht hadd hadd2 f1 f2
    go_enter Try.func14, Try.ntmps14
    go_wp2_with fail
    go_region
    go_wp2_with fail
    exact bodyPost_ret (v := .tuple #[.int .i64 0, .int .i64 13]) (by simp [results, Try.results14, go_sem]) rfl (.inl ⟨hfull, rfl, 1, rfl⟩)
  · have hle : (ws.length : Int) ≤ S.lim - S.cnt := by omega
    obtain ⟨now, hnow⟩ : ∃ now, now = S.now + 1 := ⟨_, rfl⟩
    obtain ⟨cnt, hcnt⟩ : ∃ cnt, cnt = S.cnt + ws.length := ⟨_, rfl⟩
    rw [← hnow, ← hcnt]
    replace hadd : wrap64 (S.now + 1) = now := hadd.trans hnow.symm
    replace hadd2 : wrap64 (S.cnt + ws.length) = cnt := hadd2.trans hcnt.symm
    have HA : Hid (StoreAt w S ∧ Good S ∧ WsAt w a ws) := ⟨A, G, W⟩
    have HB : Hid ((∀ g o, a = some ⟨g, o, none⟩ → ¬ (S.lab g).isSome) ∧ (∀ x ∈ ws, x.key.size ≤ 281474976710656 ∧ x.val.size ≤ 281474976710656) ∧ S.tot + ws.length ≤ 900000 ∧ now = S.now + 1 ∧ cnt = S.cnt + ws.length) := ⟨hap, hsz, ht, hnow, hcnt⟩
    have hpl := A.blk.lt
    clear A G W hap hsz ht hnow hcnt hl hn hc
    go_enter Try.func14, Try.ntmps14
    go_wp2_with fail
    go_region
    go_wp2_with fail
    have hW0 : Hid (∃ S0, StoreAt ((w.setCell ⟨S.p, 1, none⟩ (.int .i64 now)).setCell ⟨S.p, 2, none⟩ (.int .i64 cnt)).drew S0 ∧ Step w ((w.setCell ⟨S.p, 1, none⟩ (.int .i64 now)).setCell ⟨S.p, 2, none⟩ (.int .i64 cnt)).drew S S0 ∧ Good S0 ∧ Done S S0 now cnt []) := by
      have hO : Only (fun b => b = S.p) w ((w.setCell ⟨S.p, 1, none⟩ (.int .i64 now)).setCell ⟨S.p, 2, none⟩ (.int .i64 cnt)).drew :=
        ⟨rfl, rfl, rfl, by simp [World.setCell, World.drew], fun k h1 h2 => (Below.heap_setCell _ _ _ _ h2).trans (Below.heap_setCell _ _ _ _ h2)⟩
      have hB : Blk ((w.setCell ⟨S.p, 1, none⟩ (.int .i64 now)).setCell ⟨S.p, 2, none⟩ (.int .i64 cnt)).drew S.p (S.nums now cnt).cs 62 := (HA.out.1.blk.set 1 (.int .i64 now)).set 2 (.int .i64 cnt)
      exact ⟨S.nums now cnt, HA.out.1.nums now cnt hB hO, Step.nums HA.out.1 now cnt hO, HA.out.2.1.nums now cnt, ⟨rfl, rfl, rfl, rfl, rfl, fun k => by simp [addL]; rfl⟩⟩
    generalize ((w.setCell ⟨S.p, 1, none⟩ (.int .i64 now)).setCell ⟨S.p, 2, none⟩ (.int .i64 cnt)).drew = W0 at *
    obtain ⟨S0, q1, q2, q3, q4⟩ := hW0.out
    have hQ : Hid (StoreAt W0 S0 ∧ Step w W0 S S0 ∧ Good S0 ∧ Done S S0 now cnt (ws.take 0)) := ⟨q1, q2, q3, q4⟩
    clear hW0 q1 q2 q3 q4 c0 c1 c2 f1 f2 hsub hadd hadd2
    generalize hln : ws.length = ln at hle
    replace hln : Hid (ws.length = ln) := hln
    go_loopg [38] ln (fun kx s38 wr => ∃ (i : Nat) (Si : St), s38 = .int .i64 i ∧ i ≤ ln ∧ ln - i ≤ kx ∧ Hid (StoreAt wr Si ∧ Step w wr S Si ∧ Good Si ∧ Done S Si now cnt (ws.take i)))
    case atStart => exact ⟨0, S0, rfl, Nat.zero_le _, by omega, hQ⟩
    case round =>
      clear hQ
      obtain ⟨i, Si, rfl, hi, hg, Q⟩ := hrel
      by_cases hin : i < ln
      · have hinI : (i : Int) < (ln : Int) := by omega
        have hi0 : (0 : Int) ≤ (i : Int) := by omega
        obtain ⟨q1, q2, q3, q4⟩ := Q.out
        obtain ⟨x, hx⟩ : ∃ x, ws[i]? = some x := ⟨_, List.getElem?_eq_getElem (by rw [hln.out]; exact hin)⟩
        have hWw : WsAt wr a ws := HA.out.2.2.step (fun g o e hg => q2.only.block g hg (HB.out.1 g o e)) q2.only.size
        obtain ⟨g, o, rfl, hgl, hcell⟩ := hWw.cells (by rw [hln.out]; omega)
        obtain ⟨k1, k2, k3⟩ := hcell i x hx
        obtain ⟨z1, z2⟩ := HB.out.2.1 x (List.mem_of_getElem? hx)
        have htk : ws.take (i + 1) = ws.take i ++ [x] := by rw [List.take_add_one, hx]; rfl
        have htl : (ws.take i).length = i := by rw [List.length_take, hln.out]; omega
        have hbn := below_new wr (.cells #[.string x.key, .string x.val, .bool x.gone] 54)
        have P := write_any Si x (wr.alloc (.cells #[.string x.key, .string x.val, .bool x.gone] 54)) (q1.below hbn) q3 z1 z2 (by have := q4.tot; have := HB.out.2.2.1; rw [hln.out] at this; omega)
        rw [q2.p] at P
        have HN : Hid (∀ w9, (∃ S', StoreAt w9 S' ∧ Step (wr.alloc (.cells #[.string x.key, .string x.val, .bool x.gone] 54)) w9 Si S' ∧ Good S' ∧ Wrote Si S' x) → ∃ S', StoreAt w9 S' ∧ Step w w9 S S' ∧ Good S' ∧ Done S S' now cnt (ws.take (i + 1))) := by
          rintro w9 ⟨S', r1, r2, r3, r4⟩
          refine ⟨S', r1, (q2.trans (Step.of_below hbn Si)).trans r2, r3, ⟨r4.lim.trans q4.lim, r4.now.trans q4.now, r4.cnt.trans q4.cnt, ?_, r4.pins.trans q4.pins, fun k => ?_⟩⟩
          · rw [r4.tot, q4.tot, htk, List.length_append]; rfl
          · rw [htk, addL_snoc]
            by_cases e : x.key = k
            · subst e
              rw [r4.same, q4.live, q4.now, if_pos rfl, List.append_assoc]
            · rw [r4.other k (fun h => e h.symm), q4.live, if_neg e, List.append_nil]
        have HI : Hid (i < ln ∧ ln - i ≤ gk ∧ ln ≤ 900000) := ⟨hin, hg, by have := HB.out.2.2.1; rw [hln.out] at this; omega⟩
        unfold wrV at P
        clear Q q1 q2 q3 q4 hbn hx hWw hcell z1 z2 htk htl hin hg hi HB HA
        go_wp2_with fail
        refine P.mono ?_
        rintro e w9 ⟨rfl, h9⟩
        have h10 := HN.out w9 h9
        clear P HN h9
        obtain ⟨S', r1, r2, r3, r4⟩ := h10
        have hR : Hid (StoreAt w9 S' ∧ Step w w9 S S' ∧ Good S' ∧ Done S S' now cnt (ws.take (i + 1))) := ⟨r1, r2, r3, r4⟩
        clear r1 r2 r3 r4 k1 k2 k3
        obtain ⟨hi1, hi2, hi3⟩ := HI.out
        go_wp2_with fail
        go_roundg (ln - (i + 1))
        case rel => exact ⟨i + 1, S', by go_num, by omega, Nat.le_refl _, hR⟩
        case measure => omega
      · obtain rfl : i = ln := by omega
        obtain ⟨q1, q2, q3, q4⟩ := Q.out
        have c1 := q1.blk.cell (i := 1) (v := .int .i64 Si.now) rfl
        rw [q2.p, q4.now] at c1
        have htk : ws.take i = ws := List.take_of_length_le (by rw [hln.out]; exact Nat.le_refl _)
        rw [htk] at q4
        have hR : Hid (∃ S', StoreAt wr S' ∧ Step w wr S S' ∧ Good S' ∧ Done S S' now cnt ws) := ⟨Si, q1, q2, q3, q4⟩
        clear Q q1 q2 q3 q4 hin hg hi HA HB htk
        go_wp2_with fail
        exact bodyPost_ret (v := .tuple #[.int .i64 now, .int .i64 0]) (by simp [results, Try.results14, go_sem]) rfl (.inr ⟨by rw [hln.out]; exact hle, rfl, hR.out⟩)
end Go.Proofs.Ytcnajkclbmddgaa
