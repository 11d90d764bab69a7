/- A key's history in memory; what only looks at it. -/
import Derived.Test.YtcnajkclbmddgaaMapK
import Derived.BigRegion
import Derived.BigQuiet
import Derived.Deep.AppendLies
namespace Go.Proofs.Ytcnajkclbmddgaa
open Go.ChangeShapes Go.WideShapes Go.ChangeAt Go.RowKit
set_option linter.unusedVariables false
set_option linter.unusedSimpArgs false

structure Vr where
  at' : Int
  val : ByteArray
  gone : Bool

def encV (x : Vr) : List Value := [.int .i64 x.at', .string x.val, .bool x.gone]
def encVs : List Vr → List Value
  | [] => []
  | x :: l => .int .i64 x.at' :: .string x.val :: .bool x.gone :: encVs l

theorem encVs_len : ∀ l, (encVs l).length = l.length * 3
  | [] => rfl
  | x :: l => by simp [encVs, encVs_len l]; omega
theorem encVs_append : ∀ l m, encVs (l ++ m) = encVs l ++ encVs m
  | [], m => rfl
  | x :: l, m => by simp [encVs, encVs_append l m]
theorem encVs_get : ∀ (l : List Vr) (j : Nat) (x : Vr), l[j]? = some x → (encVs l)[j * 3]? = some (.int .i64 x.at') ∧ (encVs l)[j * 3 + 1]? = some (.string x.val) ∧ (encVs l)[j * 3 + 2]? = some (.bool x.gone)
  | [], j, x, h => by simp at h
  | y :: l, 0, x, h => by simp at h; subst h; simp [encVs]
  | y :: l, j + 1, x, h => by
    have := encVs_get l j x (by simpa using h)
    rw [show (j + 1) * 3 = j * 3 + 3 by omega, show j * 3 + 3 + 1 = j * 3 + 1 + 3 by omega, show j * 3 + 3 + 2 = j * 3 + 2 + 3 by omega]
    simpa [encVs] using this

/-- A history: its block, its key, where its list lies, all versions that lie there, how many of them have gone. -/
structure Hi where
  blk : Nat
  key : ByteArray
  row : Value
  all : List Vr
  off : Nat

def Hi.live (h : Hi) : List Vr := h.all.drop h.off

def liveV (off : Nat) : Value → Value
  | .slice (some ⟨g, 0, none⟩) n cap => .slice (some ⟨g, off * 3, none⟩) (n - off) (cap - off)
  | v => v

structure HistAt (w : World) (h : Hi) : Prop where
  blk : Blk w h.blk #[.string h.key, h.row, .int .i64 h.off] 91
  row : w.ownsRow 0 81 3 h.row h.all.length (encVs h.all)
  off : h.off < h.all.length ∨ (h.off = 0 ∧ h.all = [] ∧ h.row = .slice none 0 0)
  few : h.all.length < 1000000
  key : h.key.size ≤ maxLen

theorem row_thru {w w' : World} {e : TypeId} {size : Nat} {v : Value} {n : Nat} {xs : List Value} (h : w.ownsRow 0 e size v n xs) (hb : ∀ g, v.ownBlock = some g → w'.heap[g]? = w.heap[g]?) : w'.ownsRow 0 e size v n xs := by
  obtain ⟨h1, h2⟩ := h
  refine ⟨h1, ?_⟩
  rcases h2 with h2 | ⟨g, cap, cur, e1, e2, e3, r⟩
  · exact .inl h2
  · exact .inr ⟨g, cap, cur, e1, e2, (hb g (by rw [e1]; rfl)).trans e3, r⟩

theorem HistAt.of_block {w w' : World} {h : Hi} (H : HistAt w h) (hb : w'.heap[h.blk]? = w.heap[h.blk]?) (hr : ∀ g, h.row.ownBlock = some g → w'.heap[g]? = w.heap[g]?) : HistAt w' h :=
  ⟨H.blk.of_block hb, row_thru H.row hr, H.off, H.few, H.key⟩
theorem HistAt.drewN {w : World} {h : Hi} (H : HistAt w h) (n : Nat) : HistAt (w.drewN n) h := H.of_block rfl (fun _ _ => rfl)

set_option maxHeartbeats 400000 in
theorem live_any (h : Hi) (w : World) (H : HistAt w h) :
    Calls Try.prog 46 #[.pointer (some ⟨h.blk, 0, none⟩)] w fun e w' => e = .returned (liveV h.off h.row) ∧ ∃ n, w' = w.drewN n := by
  have c1 := H.blk.cell (i := 1) (v := h.row) rfl
  have c2 := H.blk.cell (i := 2) (v := .int .i64 h.off) rfl
  obtain ⟨blk, key, row, all, off⟩ := h
  simp only at *
  obtain ⟨hl, hr⟩ := H.row
  have ho := H.off
  have hf := H.few
  clear H
  simp only at *
  rcases hr with ⟨rfl, hn⟩ | ⟨g, cap, cur, rfl, _, hg, hnc, hcm, _⟩
  · obtain ⟨rfl, rfl⟩ : off = 0 ∧ all = [] := by
      rcases ho with ho | ho
      · omega
      · exact ⟨ho.1, ho.2.1⟩
    clear ho hf hl hn
    go_enter Try.func46, Try.ntmps46
    go_wp2
    go_region
    go_wp2
    go_ret
    exact ⟨rfl, 1, rfl⟩
  · have ho' : off < all.length := by
      rcases ho with ho | ⟨_, _, h⟩
      · exact ho
      · cases h
    have hco : ¬ cap = off := by omega
    clear ho hl
    go_enter Try.func46, Try.ntmps46
    go_wp2
    go_region
    go_wp2
    go_ret
    exact ⟨rfl, 1, rfl⟩
end Go.Proofs.Ytcnajkclbmddgaa
