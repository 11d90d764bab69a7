/- take: the first of the heap. -/
import Derived.Test.YtcnajkclbmddgaaTake
namespace Go.Proofs.Ytcnajkclbmddgaa
open Go.ChangeShapes Go.WideShapes Go.ChangeAt Go.RowKit
set_option linter.unusedVariables false
set_option linter.unusedSimpArgs false

set_option maxHeartbeats 1600000 in
set_option maxRecDepth 20000 in
theorem take_any (p : Nat) (cs : Array Value) (v : Value) (l : List Nat) (hi : Nat → Hi) (w : World) (B : Blk w p cs 62) (hc : cs[5]? = some v) (D : DueAt w v l hi) (A : Apt p v l hi) (HH : HeapOn (keyL (nx hi) l) l.length) (h0 : 0 < l.length) :
    Calls Try.prog 47 #[.pointer (some ⟨p, 5, none⟩)] w fun e w' => e = .returned (.pointer (some ⟨l.getD 0 0, 0, none⟩)) ∧
      ∃ v' l', (l' ++ [l.getD 0 0]).Perm l ∧ HeapOn (keyL (nx hi) l') l'.length ∧ Blk w' p (cs.setIfInBounds 5 v') 62 ∧ DueAt w' v' l' hi ∧ Only (fun k => k = p ∨ v.ownBlock = some k) w w' ∧ ∀ g, v'.ownBlock = some g → v.ownBlock = some g := by
  have P := heapPop_any p cs v l hi w B hc D A HH h0
  have c1 := B.cell hc
  obtain ⟨g, cap, rfl, _, hg⟩ := D.row.form h0
  obtain ⟨b, hb⟩ : ∃ b, l[0]? = some b := ⟨_, List.getElem?_eq_getElem h0⟩
  have c2 := D.row.cells (g := g) rfl _ _ (ptrs_get hb)
  rw [cell_add, Nat.zero_add] at c2
  unfold ptrV at c2
  have e : l.getD 0 0 = b := by rw [List.getD_eq_getElem?_getD, hb]; rfl
  rw [e] at P ⊢
  have h0I : (0 : Int) < (l.length : Int) := by omega
  clear B hc D A HH h0 hb e
  generalize l.length = ln at *
  go_enter Try.func47, Try.ntmps47
  go_wp2_with fail
  refine P.mono ?_
  rintro e w1 ⟨⟨r, rfl⟩, h⟩
  clear P
  go_wp2_with fail
  go_ret
  exact ⟨rfl, h⟩
end Go.Proofs.Ytcnajkclbmddgaa
