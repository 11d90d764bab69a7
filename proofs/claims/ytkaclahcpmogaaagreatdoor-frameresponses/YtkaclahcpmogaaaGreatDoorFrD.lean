/- The writer in memory: number, text. -/
import Derived.Test.YtkaclahcpmogaaaGreatDoorFrC
import Derived.Test.YtkaclahcpmogaaaGreatDoorExB
import Derived.Deep.AppendLies
import Derived.Lib.AppendStr
namespace Go.Proofs.YtkaclahcpmogaaaGreatDoor
open Go.ChangeShapes Go.WideShapes Go.ChangeAt Go.RowKit
set_option linter.unusedVariables false
set_option linter.unusedSimpArgs false

/-- The writer at k, its bytes in a row of its own; both at B, or behind it. -/
def Wr (B k : Nat) (w : World) (l : Bs) : Prop := B ≤ k ∧ ∃ v, w.heap[k]? = some (.cells #[v] 87 (0, 0)) ∧ w.ownsRow B 5 1 v l.length (Lib.byteCells l)

theorem Wr.lt {B k : Nat} {w : World} {l : Bs} (h : Wr B k w l) : k < w.heap.size := by
  obtain ⟨_, v, h, _⟩ := h
  exact (Array.getElem?_eq_some_iff.1 h).1

/-- The row is not the writer's own block. -/
theorem Wr.apart {k : Nat} {w : World} {v u : Value} {B n : Nat} {xs : List Value} (hk : w.heap[k]? = some (.cells #[u] 87 (0, 0))) (h : w.ownsRow B 5 1 v n xs) : v.ownBlock ≠ some k := by
  intro e
  rcases h.2 with ⟨rfl, _⟩ | ⟨g, cap, cur, rfl, _, h3, _⟩
  · cases e
  · cases e
    rw [hk] at h3
    injection h3 with h3
    injection h3 with _ h4
    exact absurd h4 (by decide)

theorem owns_of_set {w : World} {B g n cap k i : Nat} {xs : List Value} {u : Value} (h : w.ownsRow B 5 1 (.slice (some ⟨g, 0, none⟩) n cap) n xs) (hg : g ≠ k) : (w.setCell ⟨k, i, none⟩ u).ownsRow B 5 1 (.slice (some ⟨g, 0, none⟩) n cap) n xs := by
  refine ⟨h.1, ?_⟩
  rcases h.2 with ⟨h1, _⟩ | ⟨g', cap', cur, h1, h2, h3, h4⟩
  · cases h1
  · cases h1
    exact .inr ⟨g, cap, cur, rfl, h2, (Below.heap_setCell _ _ _ _ hg).trans h3, h4⟩

theorem owns_of_set' {w : World} {B n k i : Nat} {v : Value} {xs : List Value} {u : Value} (h : w.ownsRow B 5 1 v n xs) (hg : v.ownBlock ≠ some k) : (w.setCell ⟨k, i, none⟩ u).ownsRow B 5 1 v n xs := by
  rcases h.2 with h1 | ⟨g', cap', cur, rfl, h2, h3, h4⟩
  · exact ⟨h.1, .inl h1⟩
  · exact owns_of_set h (fun e => hg (by simp [Value.ownBlock, e]))

theorem byteCells_one (c : UInt8) : Lib.byteCells [c] = [.int .u8 c.toNat] := rfl

def intW : Value → Int
  | .int _ n => n
  | _ => 0

set_option maxHeartbeats 1600000 in
set_option maxRecDepth 20000 in
theorem wnumber_any (B k sz : Nat) (n : Int) (l : Bs) (w : World) (h : Wr B k w l) (hsz : sz ≤ 8) (hl : l.length ≤ 1000000) :
    Calls Tryz.prog 47 #[.pointer (some ⟨k, 0, none⟩), .int .i64 sz, .int .i64 n] w fun e w' => e = .returned (.int .i64 n) ∧ Wr B k w' (l ++ numB sz n) ∧ Below B w w' ∧ Lib.OthersKept 5 (some k) w w' := by
  obtain ⟨i0, hi0, hz0, hz2, hz3⟩ := info_parts infoU8
  have hszI : (sz : Int) ≤ 8 := by omega
  go_enter Tryz.func47, Tryz.ntmps47
  go_wp2
  go_loopw [7] (fun i wr => ∃ (j : Nat) (acc : Bs), j ≤ sz ∧ i = .int .i64 ((j : Int) - 1) ∧ Hid (acc ++ numB j n = l ++ numB sz n) ∧ acc.length ≤ l.length + sz - j ∧ Wr B k wr acc ∧ Below B w wr ∧ Hid (Lib.OthersKept 5 (some k) w wr)) (fun i _ => (intW i + 1).toNat)
  case atStart => exact ⟨sz, l, Nat.le_refl _, rfl, rfl, by omega, h, Below.refl _ _, Lib.OthersKept.refl _ _ _⟩
  case round =>
    obtain ⟨j, acc, hj, rfl, hacc, hal, hW, hb, hok⟩ := hrel
    cases j with
    | zero =>
      have hend : Wr B k wr (l ++ numB sz n) := by have := hacc.out; simp only [numB, List.append_nil] at this; rw [← this]; exact hW
      clear hacc hal hW h
      go_wp2
      go_ret
      exact ⟨rfl, hend, hb, hok.out⟩
    | succ j =>
      have ei : (((j + 1 : Nat) : Int) - 1) = (j : Int) := by omega
      rw [ei]
      obtain ⟨hBk, v, hk, hown⟩ := id hW
      have c0 : wr.cell? ⟨k, 0, none⟩ = some v := by rw [Lib.cell_of_heap hk]; rfl
      have f0 : wr.frozen? ⟨k, 0, none⟩ = false := Lib.frozen_of_heap hk 0
      have hap := Wr.apart hk hown
      have hjI : (j : Int) ≤ 7 := by omega
      have hlt := hW.lt
      have hBs : B ≤ wr.heap.size := by omega
      have hownd := hown.drew
      have cd : wr.drew.cell? ⟨k, 0, none⟩ = some v := c0
      have fd : wr.drew.frozen? ⟨k, 0, none⟩ = false := f0
      clear hW
      go_wp2_with fail
      have hsh : Op.shift .shr .i64 n .i64 (IntKind.i64.wrap (8 * (j : Int))) = pure (.int .i64 (n / 2 ^ (8 * j))) := by
        rw [IntWalk.i64_in _ ⟨by omega, by omega⟩, shift_shr _ _ _ _ (by omega) (by simp only [IntKind.bits]; omega)]
        congr 2
      have hby : Lib.byteCells acc ++ [.int .u8 (IntKind.u8.wrap (n / 2 ^ (8 * j)))] = Lib.byteCells (acc ++ [byteN (n / 2 ^ (8 * j))]) := by
        rw [Lib.byteCells_append, byteCells_one, byteN_int, IntKind.wrap_u8]
      have hnext : Hid ((acc ++ [byteN (n / 2 ^ (8 * j))]) ++ numB j n = l ++ numB sz n) := by
        have := hacc.out
        rw [List.append_assoc]
        exact this
      have hlen : (acc ++ [byteN (n / 2 ^ (8 * j))]).length = acc.length + 1 := by simp
      have hal2 : acc.length + 1 ≤ 1000008 := by omega
      generalize acc ++ [byteN (n / 2 ^ (8 * j))] = acc2 at *
      obtain ⟨q, hq⟩ : ∃ q : Int, n / 2 ^ (8 * j) = q := ⟨_, rfl⟩
      rw [hq] at hsh hby
      clear hq
      generalize hy : IntKind.u8.wrap q = y at *
      have hnew : (wr.drew.alloc (.cells #[.int .u8 y] 5)).heap[wr.heap.size]? = some (.cells #[.int .u8 y] 5 (0, 0)) := heap_alloc_new wr.drew _
      have hsz1 : (wr.drew.alloc (.cells #[.int .u8 y] 5)).heap.size = wr.heap.size + 1 := by simp
      have hB1 : B ≤ (wr.drew.alloc (.cells #[.int .u8 y] 5)).heap.size := by omega
      have hk1 : k < (wr.drew.alloc (.cells #[.int .u8 y] 5)).heap.size := by omega
      have hkk : (wr.drew.alloc (.cells #[.int .u8 y] 5)).heap[k]? = some (.cells #[v] 87 (0, 0)) := (Below.heap_alloc wr.drew _ _ (show k < wr.heap.size from hlt)).trans hk
      have hown1 := hownd.alloc (.cells #[.int .u8 y] 5)
      have hmx : acc.length + 1 ≤ maxLen := by unfold maxLen; omega
      have hb1 : (acc.length + 1) * 1 ≤ 140737488355328 := by omega
      go_region_law
        (first
          | (refine step_append_lies _ (by rfl) _ _ _ (by rfl) B 5 i0 _ 1 1 Tryz.underlying23 hi0 hz0 hz2 hz3 rfl (by omega) v acc.length _ (by rfl) hown1
              ⟨wr.heap.size, 0, none⟩ 1 1 [.int .u8 y] (by rfl) (by rfl) (World.news_of_block (cs := #[.int .u8 y]) (t := 5) (fr := (0, 0)) hnew) (by simp [Value.oneCell']) (by omega) hmx hb1 hB1 (wr.heap.size + 1) hsz1 ?_; intro gg cap w6 hown6 hgrow hat hlt6; have hk6 : w6.heap[k]? = some (.cells #[v] 87 (0, 0)) := (hgrow.block k hk1 (fun e => hap e.symm)).trans hkk; have c6 : w6.cell? ⟨k, 0, none⟩ = some v := (by rw [Lib.cell_of_heap hk6]; rfl); have f6 : w6.frozen? ⟨k, 0, none⟩ = false := Lib.frozen_of_heap hk6 0))
      all_goals
        rw [hby] at hown6
        have hgk : gg ≠ k := by
          rcases hat with hat | hat
          · exact fun e => hap (by rw [hat, e])
          · omega
        have hB6 : Below B w (w6.setCell ⟨k, 0, none⟩ (.slice (some ⟨gg, 0, none⟩) (acc.length + 1) cap)) := by
          have h1 : Below B wr (wr.drew.alloc (.cells #[.int .u8 y] 5)) := ⟨rfl, rfl, rfl, by simp, fun i hi => Below.heap_alloc _ _ _ (by simp; omega)⟩
          have h2 := (hb.trans h1)
          refine Below.setCell (p := ⟨k, 0, none⟩) ⟨hgrow.os.trans h2.os, hgrow.tape.trans h2.tape, hgrow.output.trans h2.output, Nat.le_trans h2.size hgrow.size, fun i hi => ?_⟩ hBk _
          refine (hgrow.block i (by simp; omega) (fun e => ?_)).trans (h2.block i hi)
          have := (hownd.lt _ e.symm).1
          omega
        have hW6 : Wr B k (w6.setCell ⟨k, 0, none⟩ (.slice (some ⟨gg, 0, none⟩) (acc.length + 1) cap)) acc2 := by
          refine ⟨hBk, .slice (some ⟨gg, 0, none⟩) (acc.length + 1) cap, by simp [World.setCell, Array.getElem?_modify, hk6], ?_⟩
          rw [hlen]
          exact owns_of_set hown6 hgk
        have hok6 : Hid (Lib.OthersKept 5 (some k) w (w6.setCell ⟨k, 0, none⟩ (.slice (some ⟨gg, 0, none⟩) (acc.length + 1) cap))) :=
          ((hok.out.drew.alloc (.cells #[.int .u8 y] 5)).grown hgrow (fun g hg => by
            rcases hown1.2 with ⟨h1, _⟩ | ⟨g', cap', cur, h1, _, h3, _⟩
            · rw [h1] at hg; cases hg
            · rw [h1] at hg; cases hg; exact ⟨_, _, h3⟩)).setCell ⟨k, 0, none⟩ rfl _
        clear hown6 hgrow hat hk6 c6 f6
        generalize w6.setCell ⟨k, 0, none⟩ (.slice (some ⟨gg, 0, none⟩) (acc.length + 1) cap) = W7 at *
        go_wp2
        go_roundw
        case rel => exact ⟨j, acc2, by omega, by go_num, hnext, by omega, hW6, hB6, hok6⟩
        case measure => simp [intW]

set_option maxHeartbeats 1600000 in
set_option maxRecDepth 20000 in
theorem wtext_any (B k sz : Nat) (s l : Bs) (w : World) (h : Wr B k w l) (hsz : sz ≤ 8) (hl : l.length ≤ 900000) (hs : s.length ≤ 100000) :
    Calls Tryz.prog 67 #[.pointer (some ⟨k, 0, none⟩), .int .i64 sz, .string (bs s)] w fun e w' => e = .returned (.string (bs s)) ∧ Wr B k w' (l ++ textB sz s) ∧ Below B w w' ∧ Lib.OthersKept 5 (some k) w w' := by
  obtain ⟨i0, hi0, hz0, hz2, hz3⟩ := info_parts infoU8
  have C := wnumber_any B k sz s.length l w h hsz (by omega)
  have hsz0 : (bs s).size = s.length := bs_size s
  have hl2 : (l ++ numB sz s.length).length ≤ 900008 := by rw [List.length_append, numB_len]; omega
  have ha : l ++ textB sz s = (l ++ numB sz s.length) ++ s := by unfold textB; rw [List.append_assoc]
  rw [ha]
  generalize l ++ numB sz s.length = l2 at *
  go_enter Tryz.func67, Tryz.ntmps67
  go_wp2_with fail
  refine C.mono ?_
  rintro e w1 ⟨rfl, hW, hb, hok⟩
  obtain ⟨hBk, v, hk, hown⟩ := id hW
  have c0 : w1.cell? ⟨k, 0, none⟩ = some v := by rw [Lib.cell_of_heap hk]; rfl
  have hap := Wr.apart hk hown
  have hlt := hW.lt
  clear C h hW
  go_wp2_with (at_builtin; refine Lib.wpList_append_own_string _ rfl _ _ 23 9 rfl B 5 i0 Tryz.underlying23 Tryz.underlying9 hi0 hz0 hz2 hz3 _ _ _ rfl hown (bs s) rfl ?c3 ?c4 ?c5 ?_)
  case c3 => unfold maxLen; omega
  case c4 => omega
  case c5 => omega
  intro v' w2 hown' hgrow _
  have hk2 : w2.heap[k]? = some (.cells #[v] 87 (0, 0)) := (hgrow.block k hlt (fun e => hap e.symm)).trans hk
  have d0 : w2.cell? ⟨k, 0, none⟩ = some v := by rw [Lib.cell_of_heap hk2]; rfl
  have f0 : w2.frozen? ⟨k, 0, none⟩ = false := Lib.frozen_of_heap hk2 0
  rw [strCells_bs, ← Lib.byteCells_append] at hown'
  obtain ⟨a', c', rfl⟩ := row_slice hown'
  have hap2 := Wr.apart hk2 hown'
  have hB2 : Below B w w2 := ⟨hgrow.os.trans hb.os, hgrow.tape.trans hb.tape, hgrow.output.trans hb.output, Nat.le_trans hb.size hgrow.size, fun i hi => (hgrow.block i (by omega) (fun e => by have := (hown.lt _ e.symm).1; omega)).trans (hb.block i hi)⟩
  have hok2 := hok.grown hgrow (fun g hg => (by
    rcases hown.2 with ⟨h1, _⟩ | ⟨g', cap', cur, h1, _, h3, _⟩
    · rw [h1] at hg; cases hg
    · rw [h1] at hg; cases hg; exact ⟨_, _, h3⟩ : ∃ c fz, w1.heap[g]? = some (.cells c 5 fz)))
  clear hown hgrow c0 hk hap
  go_wp2
  go_ret
  refine ⟨rfl, ⟨hBk, .slice a' (l2.length + s.length) c', by simp [World.setCell, Array.getElem?_modify, hk2], ?_⟩, hB2.setCell (p := ⟨k, 0, none⟩) hBk _, hok2.setCell ⟨k, 0, none⟩ rfl _⟩
  rw [List.length_append]
  exact owns_of_set' hown' hap2
end Go.Proofs.YtkaclahcpmogaaaGreatDoor
