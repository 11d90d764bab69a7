/- A history put into the heap. -/
import Derived.Test.YtcnajkclbmddgaaPush
namespace Go.Proofs.Ytcnajkclbmddgaa
open Go.ChangeShapes Go.WideShapes Go.ChangeAt Go.RowKit
open Go.Sort (grow)
set_option linter.unusedVariables false
set_option linter.unusedSimpArgs false

structure Apt (p : Nat) (v : Value) (l : List Nat) (hi : Nat → Hi) : Prop where
  own : v.ownBlock ≠ some p
  his : ∀ b ∈ l, b ≠ p ∧ (hi b).row.ownBlock ≠ some p ∧ ∀ g, v.ownBlock = some g → g ≠ b ∧ (hi b).row.ownBlock ≠ some g

theorem Apt.apart {p i : Nat} {v : Value} {l : List Nat} {hi : Nat → Hi} (A : Apt p v l hi) : ApartD v ⟨p, i, none⟩ l hi :=
  fun g hg => ⟨fun e => A.own (by rw [hg, e]), fun b hb => (A.his b hb).2.2 g hg⟩

theorem Apt.perm {p : Nat} {v : Value} {l l' : List Nat} {hi : Nat → Hi} (A : Apt p v l hi) (hp : l'.Perm l) : Apt p v l' hi :=
  ⟨A.own, fun b hb => A.his b (hp.mem_iff.1 hb)⟩

/-- The row moved to another block: an elder one of its own, or a new one. -/
theorem Apt.moved {p : Nat} {v v' : Value} {l : List Nat} {hi : Nat → Hi} {w : World} (A : Apt p v l hi) (hw : p < w.heap.size) (hH : ∀ b ∈ l, HistAt w (hi b) ∧ (hi b).blk = b) (h : ∀ g, v'.ownBlock = some g → v.ownBlock = some g ∨ w.heap.size ≤ g) : Apt p v' l hi := by
  refine ⟨fun e => ?_, fun b hb => ⟨(A.his b hb).1, (A.his b hb).2.1, fun g hg => ?_⟩⟩
  · rcases h p e with h | h
    · exact A.own h
    · omega
  · rcases h g hg with h | h
    · exact (A.his b hb).2.2 g h
    · obtain ⟨H, e⟩ := hH b hb
      have h1 := H.blk.lt
      refine ⟨by omega, fun e2 => ?_⟩
      have := (H.row.lt g e2).2
      omega

set_option maxHeartbeats 1600000 in
set_option maxRecDepth 20000 in
theorem heapPush_any (p b : Nat) (cs : Array Value) (v : Value) (l : List Nat) (hi : Nat → Hi) (w : World) (B : Blk w p cs 62) (hc : cs[5]? = some v) (D : DueAt w v l hi) (A : Apt p v (l ++ [b]) hi)
    (hb : (hi b).blk = b ∧ HistAt w (hi b) ∧ waitsP (hi b).live = true) (HH : HeapOn (keyL (nx hi) l) l.length) (hf : l.length < 999999) :
    Calls Try.prog 52 #[.iface 92 (.pointer (some ⟨p, 5, none⟩)), .iface 76 (.pointer (some ⟨b, 0, none⟩))] w fun e w' => e = .returned (.tuple #[]) ∧
      ∃ v' l', l'.Perm (l ++ [b]) ∧ HeapOn (keyL (nx hi) l') l'.length ∧ Blk w' p (cs.setIfInBounds 5 v') 62 ∧ DueAt w' v' l' hi ∧ Only (fun k => k = p ∨ v.ownBlock = some k) w w' ∧ ∀ g, v'.ownBlock = some g → v.ownBlock = some g ∨ w.heap.size ≤ g := by
  have P := push_any p b cs v l w B hc D.row A.own hf
  have PM := push_m w ⟨p, 5, none⟩
  have hpl := B.lt
  have hH : ∀ x ∈ l ++ [b], HistAt w (hi x) ∧ (hi x).blk = x ∧ waitsP (hi x).live = true := by
    intro x hx
    rcases List.mem_append.1 hx with h | h
    · obtain ⟨h1, h2, h3⟩ := D.his x h; exact ⟨h2, h1, h3⟩
    · obtain rfl : x = b := by simpa using h
      exact ⟨hb.2.1, hb.1, hb.2.2⟩
  have hc5 : 5 < cs.size := (Array.getElem?_eq_some_iff.1 hc).1
  -- what stands behind the push
  have K1 : Hid (∀ w1 v1, Blk w1 p (cs.setIfInBounds 5 v1) 62 → w1.ownsRow 0 76 1 v1 (l ++ [b]).length (ptrs (l ++ [b])) → Only (fun k => k = p ∨ v.ownBlock = some k) w w1 → (∀ g, v1.ownBlock = some g → v.ownBlock = some g ∨ w.heap.size ≤ g) →
      DueAt w1 v1 (l ++ [b]) hi ∧ Apt p v1 (l ++ [b]) hi) := by
    intro w1 v1 B1 R1 O1 G1
    refine ⟨⟨R1, fun x hx => ?_, by simp; omega⟩, A.moved hpl (fun x hx => ⟨(hH x hx).1, (hH x hx).2.1⟩) G1⟩
    obtain ⟨h1, h2, h3⟩ := hH x hx
    obtain ⟨a1, a2, a3⟩ := A.his x hx
    refine ⟨h2, h1.only O1 ?_ ?_, h3⟩
    · rw [h2]
      rintro (e | e)
      · exact a1 e
      · exact (a3 x e).1 rfl
    · rintro g hg (e | e)
      · exact a2 (by rw [hg, e])
      · exact (a3 g e).2 hg
  have K2 : Hid (UpInv (keyL (nx hi) (l ++ [b])) l.length (l ++ [b]).length) := push_inv HH
  have K3 : Hid (5 < cs.size ∧ (l ++ [b]).length = l.length + 1 ∧ l.length < 999999 ∧ p < w.heap.size) := ⟨hc5, by simp, hf, hpl⟩
  clear hc D A hb HH hf hH hpl B hc5
  go_enter Try.func52, Try.ntmps52
  go_wp2_with fail
  refine P.mono ?_
  rintro e w1 ⟨rfl, v1, B1, R1, O1, G1⟩
  obtain ⟨D1, A1⟩ := K1.out w1 v1 B1 R1 O1 G1
  obtain ⟨k1, k2, k3, k4⟩ := K3.out
  have hq1 : w1.cell? ⟨p, 5, none⟩ = some v1 := B1.cell (by simp [k1])
  have LM := len_m w1 _ v1 hq1
  have LN := len_any v1 _ w1 (own_slice R1)
  have UU := up_any ⟨p, 5, none⟩ v1 (l ++ [b]) hi l.length w1 hq1 D1 A1.apart (by omega) K2.out
  have hsub : (((l ++ [b]).length : Nat) : Int) - 1 = (l.length : Int) := by omega
  have hHH : Hid (∀ w2 l', l'.Perm (l ++ [b]) ∧ HeapOn (keyL (nx hi) l') (l ++ [b]).length ∧ w2.ownsRow 0 76 1 v1 (l ++ [b]).length (ptrs l') ∧ Only (fun k => v1.ownBlock = some k) w1 w2 →
      ∃ v' l', l'.Perm (l ++ [b]) ∧ HeapOn (keyL (nx hi) l') l'.length ∧ Blk w2 p (cs.setIfInBounds 5 v') 62 ∧ DueAt w2 v' l' hi ∧ Only (fun k => k = p ∨ v.ownBlock = some k) w w2 ∧ ∀ g, v'.ownBlock = some g → v.ownBlock = some g ∨ w.heap.size ≤ g) := by
    rintro w2 l' ⟨hp, hh, hr, ho⟩
    refine ⟨v1, l', hp, by rw [hp.length_eq]; exact hh, B1.of_block (ho.block p B1.lt (fun e => A1.own e)), D1.swapped (q := ⟨p, 5, none⟩) A1.apart hp hr ho, ?_, G1⟩
    refine ⟨ho.os.trans O1.os, ho.tape.trans O1.tape, ho.output.trans O1.output, Nat.le_trans O1.size ho.size, fun k hk hn => ?_⟩
    rw [ho.block k (Nat.lt_of_lt_of_le hk O1.size) ?_, O1.block k hk hn]
    intro e
    rcases G1 k e with h | h
    · exact hn (.inr h)
    · omega
  generalize (l ++ [b]).length = nn at *
  have hnnI : (nn : Int) < 1000000 := by omega
  have hnn0 : (1 : Int) ≤ (nn : Int) := by omega
  clear P PM K1 K2 K3 B1 R1 O1 G1 D1 A1 k1 k2 k3 k4
  generalize l.length = n0 at *
  go_wp2_with fail
  refine LN.mono ?_
  rintro e w2 ⟨rfl, rfl⟩
  clear LN LM
  go_wp2_with fail
  refine UU.mono ?_
  rintro e w3 ⟨rfl, h3⟩
  have h4 := hHH.out w3 h3.choose h3.choose_spec
  clear UU h3 hHH
  go_wp2_with fail
  go_end0
  exact ⟨rfl, h4⟩

set_option maxHeartbeats 1600000 in
theorem put_any (p b : Nat) (cs : Array Value) (v : Value) (l : List Nat) (hi : Nat → Hi) (w : World) (B : Blk w p cs 62) (hc : cs[5]? = some v) (D : DueAt w v l hi) (A : Apt p v (l ++ [b]) hi)
    (hb : (hi b).blk = b ∧ HistAt w (hi b) ∧ waitsP (hi b).live = true) (HH : HeapOn (keyL (nx hi) l) l.length) (hf : l.length < 999999) :
    Calls Try.prog 45 #[.pointer (some ⟨p, 5, none⟩), .pointer (some ⟨b, 0, none⟩)] w fun e w' => e = .returned (.tuple #[]) ∧
      ∃ v' l', l'.Perm (l ++ [b]) ∧ HeapOn (keyL (nx hi) l') l'.length ∧ Blk w' p (cs.setIfInBounds 5 v') 62 ∧ DueAt w' v' l' hi ∧ Only (fun k => k = p ∨ v.ownBlock = some k) w w' ∧ ∀ g, v'.ownBlock = some g → v.ownBlock = some g ∨ w.heap.size ≤ g := by
  have P := heapPush_any p b cs v l hi w B hc D A hb HH hf
  clear B hc D A hb HH hf
  go_enter Try.func45, Try.ntmps45
  go_wp2_with fail
  refine P.mono ?_
  rintro e w1 ⟨rfl, h⟩
  clear P
  go_wp2_with fail
  go_end0
  exact ⟨rfl, h⟩
end Go.Proofs.Ytcnajkclbmddgaa
