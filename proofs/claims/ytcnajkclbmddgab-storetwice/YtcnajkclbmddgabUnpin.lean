/- Unpin. -/
import Derived.Test.YtcnajkclbmddgabDel
namespace Go.Proofs.Ytcnajkclbmddgab
open Go.ChangeShapes Go.WideShapes Go.ChangeAt Go.RowKit
set_option linter.unusedVariables false
set_option linter.unusedSimpArgs false

/-- The pins behind one less of this stamp. -/
def unpinL (t : Int) (l : List Pn) : List Pn :=
  match upToN t l with
  | 0 => l
  | k + 1 => match l[k]? with
    | some x => if x.1 = t then (if x.2 - 1 = 0 then l.eraseIdx k else l.set k (x.1, x.2 - 1)) else l
    | none => l

theorem pin_same {w w' : World} {S : St} (A : StoreAt w S) (hb : Below w.heap.size w w') : StoreAt w' (S.pinned S.pinV S.pins) ∧ Step w w' S (S.pinned S.pinV S.pins) := by
  have A' := A.below hb
  have O : Only (fun b => b = S.p ∨ S.pinV.ownBlock = some b) w' w' := Only.refl _ _
  exact ⟨A'.pinned A'.blk A'.pinR O (fun g h => .inl h) A.few.2.2.2, (Step.of_below hb S).trans (Step.pinned A' O (fun g h => .inl h))⟩

theorem encP_setN : ∀ (l : List Pn) (k : Nat) (x : Pn) (y : Int), l[k]? = some x → (encP l).set (k * 2 + 1) (.int .i64 y) = encP (l.set k (x.1, y))
  | [], k, x, y, h => by simp at h
  | z :: l, 0, x, y, h => by simp at h; subst h; rfl
  | z :: l, k + 1, x, y, h => by
    have := encP_setN l k x y (by simpa using h)
    rw [show (k + 1) * 2 + 1 = k * 2 + 1 + 2 by omega]
    simp only [encP, List.set_cons_succ, this]

/-- One less of a stamp that stays pinned. -/
theorem pin_less {w : World} {S : St} {k : Nat} {x : Pn} {y : Int} {g cap : Nat} (A : StoreAt w S) (hx : S.pins[k]? = some x) (hv : S.pinV = .slice (some ⟨g, 0, none⟩) S.pins.length cap) :
    StoreAt (w.setCell ⟨g, k * 2 + 1, none⟩ (.int .i64 y)) (S.pinned S.pinV (S.pins.set k (x.1, y))) ∧ Step w (w.setCell ⟨g, k * 2 + 1, none⟩ (.int .i64 y)) S (S.pinned S.pinV (S.pins.set k (x.1, y))) := by
  have hg : S.pinV.ownBlock = some g := by rw [hv]; rfl
  have hne : S.p ≠ g := fun e => by
    have := A.labPin g hg
    rw [← e, A.labP] at this
    cases this
  have hR := A.pinR
  rw [hv] at hR
  obtain ⟨R1, G1⟩ := hR.stored (k * 2 + 1) (.int .i64 y)
  rw [← hv, encP_setN _ _ _ _ hx] at R1
  have hlen : (S.pins.set k (x.1, y)).length = S.pins.length := by simp
  rw [← hlen] at R1
  have OO : Only (fun b => b = S.p ∨ S.pinV.ownBlock = some b) w (w.setCell ⟨g, k * 2 + 1, none⟩ (.int .i64 y)) := ⟨rfl, rfl, rfl, by simp [World.setCell], fun k hk hn => Below.heap_setCell _ _ _ _ (fun e => hn (.inr (by rw [hg, e])))⟩
  exact ⟨A.pinned (A.blk.of_block (Below.heap_setCell _ _ _ _ hne)) R1 OO (fun g h => .inl h) (by rw [hlen]; exact A.few.2.2.2), Step.pinned A OO (fun g h => .inl h)⟩

/-- A stamp that is no more pinned. -/
theorem pin_gone {w w' : World} {S : St} {l : List Pn} {g cap : Nat} (A : StoreAt w S) (hv : S.pinV = .slice (some ⟨g, 0, none⟩) S.pins.length cap) (R : w'.ownsRow 0 62 2 (.slice (some ⟨g, 0, none⟩) l.length cap) l.length (encP l)) (O : Only (fun k => k = g) w w') (hl : l.length ≤ S.pins.length) :
    StoreAt (w'.setCell ⟨S.p, 4, none⟩ (.slice (some ⟨g, 0, none⟩) l.length cap)) (S.pinned (.slice (some ⟨g, 0, none⟩) l.length cap) l) ∧ Step w (w'.setCell ⟨S.p, 4, none⟩ (.slice (some ⟨g, 0, none⟩) l.length cap)) S (S.pinned (.slice (some ⟨g, 0, none⟩) l.length cap) l) := by
  have hg : S.pinV.ownBlock = some g := by rw [hv]; rfl
  have hne : S.p ≠ g := fun e => by
    have := A.labPin g hg
    rw [← e, A.labP] at this
    cases this
  have B' : Blk w' S.p S.cs 54 := A.blk.of_block (O.block _ A.blk.lt hne)
  have OO : Only (fun b => b = S.p ∨ S.pinV.ownBlock = some b) w (w'.setCell ⟨S.p, 4, none⟩ (.slice (some ⟨g, 0, none⟩) l.length cap)) :=
    ⟨O.os, O.tape, O.output, by simp [World.setCell]; exact O.size, fun k hk hn => (Below.heap_setCell _ _ _ _ (fun e => hn (.inl e))).trans (O.block k hk (fun e => hn (.inr (by rw [hg, e]))))⟩
  have RR : ∀ g', (Value.slice (some ⟨g, 0, none⟩) l.length cap).ownBlock = some g' → S.pinV.ownBlock = some g' ∨ w.heap.size ≤ g' := fun g' h => .inl (by rw [hg, ← h]; rfl)
  have R7 := ownsRow_setCell_other R (a := ⟨S.p, 4, none⟩) (by simpa [Value.ownBlock] using Ne.symm hne) (.slice (some ⟨g, 0, none⟩) l.length cap)
  exact ⟨A.pinned (B'.set 4 _) R7 OO RR (Nat.le_trans hl A.few.2.2.2), Step.pinned A OO RR⟩

end Go.Proofs.Ytcnajkclbmddgab
