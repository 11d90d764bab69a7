/- Whether what was read is stale: all looks. -/
import Derived.Test.YtlncljfljjaacaaGreatDoorTxI
namespace Go.Proofs.YtlncljfljjaacaaGreatDoor
open Go.ChangeShapes Go.WideShapes Go.ChangeAt Go.RowKit
set_option linter.unusedVariables false
set_option linter.unusedSimpArgs false

def staleP (s : Sto) (at' : Int) (L : List Lk) : Bool := L.any fun l => changedP s (E.bs (l.head ++ l.name)) at'
/-- Each look has a method to take its value, and a short key. -/
def LkOk (L : List Lk) : Prop := L.length ≤ 100 ∧ ∀ l ∈ L, (∃ f y, l.take = bndV f y) ∧ l.head.length + l.name.length ≤ 1000

set_option maxHeartbeats 3200000 in
set_option maxRecDepth 20000 in
theorem idxStale_any {B p m : Nat} {w0 w : World} {S : St} {s : Sto} (O : OwnP B p w0 w S s m) (x : Nat) (cs : Array Value) (at' : Int) (g c : Nat) (L : List Lk) (hL : LkOk L) (X : Blk w x cs 96) (h0 : cs[0]? = some (.pointer (some ⟨p, 0, none⟩))) (h11 : cs[11]? = some (.int .i64 at'))
    (hr : w.ownsRow 0 113 3 (.slice (some ⟨g, 0, none⟩) L.length c) L.length (lkCells L)) :
    Calls Tryz.prog 136 #[.slice (some ⟨g, 0, none⟩) L.length c, bndV 109 x] w fun e w' => (∃ z : Int, e = .returned (.int .i64 z) ∧ decide (0 ≤ z) = staleP s at' L) ∧ Below w.heap.size w w' := by
  have ef : ∀ args w, (callFunc 109 args).run Tryz.prog w = .ok (.enter 109 args) w := enters_of Tryz.func109 (by kernel_rfl) rfl
  have hxl := X.lt
  have hgl := (hr.lt g rfl).2
  have O := hid_of O
  have hL := hid_of hL
  have hr := hid_of hr
  have X := hid_of X
  obtain ⟨st, hst⟩ : ∃ st, st = staleP s at' L := ⟨_, rfl⟩
  rw [← hst]
  have HST : Hid (st = staleP s at' L) := hst
  have hlen : Hid (L.length ≤ 100) := hL.out.1
  have C : Hid (∀ (wr : World), Below w.heap.size w wr → ∀ l ∈ L, ∀ f y, l.take = bndV f y → Calls Tryz.prog 109 #[.pointer (some ⟨x, 0, none⟩), .agg #[.string (E.bs l.head), .string (E.bs l.name), bndV f y]] wr fun e w' => e = .returned (.bool (changedP s (E.bs (l.head ++ l.name)) at')) ∧ Below wr.heap.size wr w') := fun wr hb l hl f y hf =>
    changedL_any (O.out.later hb) x cs at' l f y hf (X.out.of_block (hb.block x hxl)) h0 h11 (hL.out.2 l hl).2
  clear hst h0 h11 X O
  unfold bndV at *
  go_enter Tryz.func136, Tryz.ntmps136
  go_wp2_with fail
  go_loopw [8] (fun i wr => ∃ j : Nat, j ≤ L.length ∧ i = .int .i64 j ∧ Below w.heap.size w wr ∧ Hid (staleP s at' (L.take j) = false)) (fun i _ => L.length - (intOf i).toNat)
  case atStart => exact ⟨0, by omega, rfl, Below.refl _ _, rfl⟩
  case round =>
    obtain ⟨j, hj, rfl, hb, hI⟩ := hrel
    by_cases hjn : j < L.length
    · obtain ⟨l, hl⟩ : ∃ l, L[j]? = some l := ⟨_, List.getElem?_eq_getElem hjn⟩
      have hlm := List.mem_of_getElem? hl
      obtain ⟨f, y, hf⟩ := (hL.out.2 l hlm).1
      obtain ⟨k0, k1, k2⟩ := lk_get L j l hl
      have r0 := E.kept_cell hb (hr.out.cells (g := g) rfl _ _ k0)
      have r1 := E.kept_cell hb (hr.out.cells (g := g) rfl _ _ k1)
      have r2 := E.kept_cell hb (hr.out.cells (g := g) rfl _ _ k2)
      rw [cell_add, Nat.zero_add] at r0 r1 r2
      rw [hf] at r2
      have CC := C.out wr hb l hlm f y hf
      unfold bndV at r2 CC
      have hjI : (j : Int) < (L.length : Int) := by omega
      have hlI : (L.length : Int) ≤ 100 := by have := hlen.out; omega
      have hnx : Hid (staleP s at' (L.take (j + 1)) = (staleP s at' (L.take j) || changedP s (E.bs (l.head ++ l.name)) at')) := by
        show _ = _
        rw [List.take_add_one, hl]
        unfold staleP
        rw [List.any_append]
        simp
      have hal : Hid (changedP s (E.bs (l.head ++ l.name)) at' = true → staleP s at' L = true) := fun h => by
        unfold staleP
        exact List.any_eq_true.2 ⟨l, hlm, h⟩
      generalize changedP s (E.bs (l.head ++ l.name)) at' = ch at *
      clear k0 k1 k2 hl hlm hf
      go_wp2_with fail
      refine CC.mono ?_
      rintro e w2 ⟨rfl, hb2⟩
      have hb3 := hb.trans (hb2.mono hb.size)
      clear CC r0 r1 r2 hb hb2
      cases ch with
      | true =>
        have ht : Hid (st = true) := HST.out.trans (hal.out rfl)
        clear hal hnx
        go_wp2_with fail
        go_ret
        exact ⟨⟨_, rfl, by rw [ht.out]; simp⟩, hb3⟩
      | false =>
        have HS : Hid (staleP s at' (L.take (j + 1)) = false) := by show _ = _; rw [hnx.out, hI.out]; rfl
        clear hal hnx hI
        go_wp2_with fail
        go_roundw
        case rel => exact ⟨j + 1, by omega, by go_num, hb3, HS⟩
        case measure => simp [intOf]; omega
    · obtain rfl : j = L.length := by omega
      have hjI : ¬ (L.length : Int) < (L.length : Int) := by omega
      have ht : Hid (st = false) := by have := hI.out; rw [List.take_length] at this; exact HST.out.trans this
      clear hI
      go_wp2_with fail
      go_ret
      exact ⟨⟨_, rfl, by rw [ht.out]; rfl⟩, hb⟩

set_option maxHeartbeats 1600000 in
set_option maxRecDepth 20000 in
theorem isStale_any {B p m : Nat} {w0 w : World} {S : St} {s : Sto} (O : OwnP B p w0 w S s m) (x : Nat) (cs : Array Value) (at' : Int) (g c : Nat) (L : List Lk) (hL : LkOk L) (X : Blk w x cs 96) (h0 : cs[0]? = some (.pointer (some ⟨p, 0, none⟩))) (h11 : cs[11]? = some (.int .i64 at')) (h12 : cs[12]? = some (.slice (some ⟨g, 0, none⟩) L.length c))
    (hr : w.ownsRow 0 113 3 (.slice (some ⟨g, 0, none⟩) L.length c) L.length (lkCells L)) :
    Calls Tryz.prog 86 #[.pointer (some ⟨x, 0, none⟩)] w fun e w' => e = .returned (.bool (staleP s at' L)) ∧ Below w.heap.size w w' := by
  have hmf := E.hmf
  have c12 : w.cell? ⟨x, 12, none⟩ = some (.slice (some ⟨g, 0, none⟩) L.length c) := X.cell h12
  have hxl := X.lt
  have I := fun W (hb : Below w.heap.size w W) => idxStale_any (O.later hb) x cs at' g c L hL (X.of_block (hb.block x hxl)) h0 h11 (row_thru hr (fun g' hg' => by cases hg'; exact hb.block g (hr.lt g rfl).2))
  generalize staleP s at' L = st at *
  have CF : ∀ W, Below w.heap.size w W → Calls Tryz.prog 108 #[.slice (some ⟨g, 0, none⟩) L.length c, bndV 109 x] W fun e w' => e = .returned (.bool st) ∧ Below W.heap.size W w' := by
    intro W hb
    have J := I W hb
    unfold bndV at *
    clear I
    go_enter Tryz.func108, Tryz.ntmps108
    go_wp2_with fail
    refine J.mono ?_
    rintro e w2 ⟨⟨z, rfl, hz⟩, hb2⟩
    replace hz : Hid (decide (0 ≤ z) = st) := hz
    go_wp2_with fail
    go_ret
    exact ⟨by rw [hz.out]; rfl, hb2⟩
  have CD := CF w.drew (E.below_drewN w 1)
  have CE := CF w (Below.refl _ _)
  clear I X O hr h0 h11 h12 CF
  unfold bndV at *
  have e12 : w.drew.cell? ⟨x, 12, none⟩ = some (.slice (some ⟨g, 0, none⟩) L.length c) := c12
  have exl : x < w.drew.heap.size := hxl
  go_enter Tryz.func86, Tryz.ntmps86
  go_wp2_with fail
  first
  | (refine CE.mono ?_
     rintro e w2 ⟨rfl, hb2⟩
     go_wp2_with fail
     go_ret
     exact ⟨rfl, hb2⟩)
  | (go_region_with (go_at_call 108; refine CD.mono ?_; rintro e w2 ⟨rfl, hb2⟩)
     all_goals go_wp2_with fail
     all_goals go_ret
     all_goals exact ⟨rfl, ⟨hb2.os, hb2.tape, hb2.output, hb2.size, hb2.block⟩⟩)
end Go.Proofs.YtlncljfljjaacaaGreatDoor
