/- live and others at a history whose all have gone. -/
import Derived.Test.YtcnajkclbmddgaaCloneV
namespace Go.Proofs.Ytcnajkclbmddgaa
open Go.ChangeShapes Go.WideShapes Go.ChangeAt Go.RowKit
set_option linter.unusedVariables false
set_option linter.unusedSimpArgs false

/-- The slice of a row from off on. -/
def tailV (g off n c : Nat) : Value := .slice (some ⟨g, if c = off then 0 else off * 3, none⟩) (n - off) (c - off)

set_option maxHeartbeats 800000 in
theorem live2_any (b g off n c : Nat) (k : ByteArray) (w : World) (B : Blk w b #[.string k, .slice (some ⟨g, 0, none⟩) n c, .int .i64 off] 91) (ho : off ≤ n) (hc : n ≤ c) (hm : n < 1000000) :
    Calls Try.prog 46 #[.pointer (some ⟨b, 0, none⟩)] w fun e w' => e = .returned (tailV g off n c) ∧ ∃ m, w' = w.drewN m := by
  have c1 := B.cell (i := 1) (v := .slice (some ⟨g, 0, none⟩) n c) rfl
  have c2 := B.cell (i := 2) (v := .int .i64 off) rfl
  clear B
  unfold tailV
  by_cases hco : c = off
  · rw [if_pos hco, show c - off = 0 by omega]
    go_enter Try.func46, Try.ntmps46
    go_wp2
    go_region
    go_wp2
    go_ret
    exact ⟨rfl, 1, rfl⟩
  · rw [if_neg hco]
    go_enter Try.func46, Try.ntmps46
    go_wp2
    go_region
    go_wp2
    go_ret
    exact ⟨rfl, 1, rfl⟩

/-- All of it have gone. -/
def Spent (w : World) (b : Nat) (k : ByteArray) : Prop := ∃ g c, Blk w b #[.string k, .slice (some ⟨g, 0, none⟩) 0 c, .int .i64 (0 : Nat)] 91

theorem Spent.of_block {w w' : World} {b : Nat} {k : ByteArray} (h : Spent w b k) (e : w'.heap[b]? = w.heap[b]?) : Spent w' b k := by
  obtain ⟨g, c, h⟩ := h
  exact ⟨g, c, h.of_block e⟩

set_option maxHeartbeats 800000 in
theorem waits0_any (b : Nat) (k : ByteArray) (w : World) (H : Spent w b k) :
    Calls Try.prog 43 #[.pointer (some ⟨b, 0, none⟩)] w fun e w' => e = .returned (.bool false) ∧ ∃ n, w' = w.drewN n := by
  obtain ⟨g, c, B⟩ := H
  have L := live2_any b g 0 0 c k w B (Nat.le_refl _) (Nat.zero_le _) (by omega)
  unfold tailV at L
  simp only [Nat.sub_zero, Nat.zero_sub] at L
  clear B
  generalize (if c = 0 then 0 else 0 * 3) = o at L
  go_enter Try.func43, Try.ntmps43
  go_wp2_with fail
  refine L.mono ?_
  rintro e w1 ⟨rfl, n, rfl⟩
  clear L
  go_wp2_with fail
  go_ret
  exact ⟨rfl, n, rfl⟩

set_option maxHeartbeats 800000 in
theorem empty0_any (b : Nat) (k : ByteArray) (w : World) (H : Spent w b k) :
    Calls Try.prog 49 #[.pointer (some ⟨b, 0, none⟩)] w fun e w' => e = .returned (.bool true) ∧ ∃ n, w' = w.drewN n := by
  obtain ⟨g, c, B⟩ := H
  have L := live2_any b g 0 0 c k w B (Nat.le_refl _) (Nat.zero_le _) (by omega)
  unfold tailV at L
  simp only [Nat.sub_zero, Nat.zero_sub] at L
  clear B
  generalize (if c = 0 then 0 else 0 * 3) = o at L
  go_enter Try.func49, Try.ntmps49
  go_wp2_with fail
  refine L.mono ?_
  rintro e w1 ⟨rfl, n, rfl⟩
  clear L
  go_wp2_with fail
  go_ret
  exact ⟨rfl, n, rfl⟩
end Go.Proofs.Ytcnajkclbmddgaa
