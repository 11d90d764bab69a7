/- What holds of a store between its calls; a history put into its heap. -/
import Derived.Test.YtcnajkclbmddgaaKey
namespace Go.Proofs.Ytcnajkclbmddgaa
open Go.ChangeShapes Go.WideShapes Go.ChangeAt Go.RowKit
set_option linter.unusedVariables false
set_option linter.unusedSimpArgs false

structure Good (S : St) : Prop where
  ne : ∀ k h, S.hs k = some h → h.live ≠ []
  nodup : S.due.Nodup
  wait : ∀ k h, S.hs k = some h → waitsP h.live = true → h.blk ∈ S.due
  heap : HeapOn (keyL (nx S.hb) S.due) S.due.length

theorem waits_snoc {l : List Vr} (x : Vr) (h : waitsP l = true) : waitsP (l ++ [x]) = true := by
  match l, h with
  | [a], h => rfl
  | a :: b :: l, h => rfl
theorem next_snoc {l : List Vr} (x : Vr) (h : waitsP l = true) : nextP (l ++ [x]) = nextP l := by
  match l, h with
  | [a], h =>
    have h : a.gone = true := h
    simp [nextP, h]
  | a :: b :: l, h => rfl

/-- Its heap turned. -/
def St.dued (S : St) (v : Value) (l : List Nat) : St := { S with dueV := v, due := l, lab := fun b => if v.ownBlock = some b then some .due else S.lab b }

theorem StoreAt.dued {w w' : World} {S : St} {v : Value} {l : List Nat} (A : StoreAt w S) (B : Blk w' S.p (S.cs.setIfInBounds 5 v) 62) (D : DueAt w' v l S.hb) (O : Only (fun b => b = S.p ∨ S.dueV.ownBlock = some b) w w')
    (R : ∀ g, v.ownBlock = some g → S.dueV.ownBlock = some g ∨ w.heap.size ≤ g) (I : ∀ b ∈ l, ∃ k, S.hs k = some (S.hb b)) (hl : l.length ≤ S.tot) : StoreAt w' (S.dued v l) := by
  have hlt : ∀ b r, S.lab b = some r → b < w.heap.size := fun b r e => A.lt b (by rw [e]; rfl)
  have hnew : ∀ g, v.ownBlock = some g → S.lab g = some .due ∨ w.heap.size ≤ g := fun g hg => (R g hg).imp (A.labDue g) id
  have hkeep : ∀ b r, S.lab b = some r → r ≠ .st → r ≠ .due → w'.heap[b]? = w.heap[b]? := fun b r e n1 n2 => O.block b (hlt b r e) (by
    rintro (e' | e')
    · rw [e', A.labP] at e; exact n1 (Option.some.inj e).symm
    · rw [A.labDue b e'] at e; exact n2 (Option.some.inj e).symm)
  have hlab : ∀ b r, S.lab b = some r → r ≠ .due → (S.dued v l).lab b = some r := fun b r e n => by
    show (if v.ownBlock = some b then _ else _) = _
    rw [if_neg, e]
    intro e'
    rcases hnew b e' with x | x
    · rw [x] at e; exact n (Option.some.inj e).symm
    · have := hlt b r e; omega
  refine { blk := B, map := A.map.of_block (hkeep _ _ A.labM (by simp) (by simp)), his := ?_, pinR := row_thru A.pinR (fun g hg => hkeep _ _ (A.labPin g hg) (by simp) (by simp)), dueD := D, dueIn := I, labP := hlab _ _ A.labP (by simp), labM := hlab _ _ A.labM (by simp), labPin := fun g hg => hlab _ _ (A.labPin g hg) (by simp), labDue := fun g hg => if_pos hg, labHis := fun k h e => hlab _ _ (A.labHis k h e) (by simp), labRow := fun k h g e hg => hlab _ _ (A.labRow k h g e hg) (by simp), lt := ?_, few := ⟨A.few.1, hl, A.few.2.2⟩, all := A.all }
  · intro k h e
    exact ⟨(A.his k h e).1.of_block (hkeep _ _ (A.labHis k h e) (by simp) (by simp)) (fun g hg => hkeep _ _ (A.labRow k h g e hg) (by simp) (by simp)), (A.his k h e).2⟩
  · intro b hb
    have hb : (if v.ownBlock = some b then some Role.due else S.lab b).isSome := hb
    by_cases n : v.ownBlock = some b
    · exact (D.row.lt b n).2
    · rw [if_neg n] at hb
      exact Nat.lt_of_lt_of_le (A.lt b hb) O.size

theorem Step.dued {w w' : World} {S : St} {v : Value} {l : List Nat} (A : StoreAt w S) (O : Only (fun b => b = S.p ∨ S.dueV.ownBlock = some b) w w') (R : ∀ g, v.ownBlock = some g → S.dueV.ownBlock = some g ∨ w.heap.size ≤ g) : Step w w' S (S.dued v l) := by
  refine ⟨O.mono (fun b _ e => ?_), fun b hb => ?_, rfl⟩
  · rcases e with e | e
    · rw [e, A.labP]; rfl
    · rw [A.labDue b e]; rfl
  · have hb : (if v.ownBlock = some b then some Role.due else S.lab b).isSome := hb
    by_cases n : v.ownBlock = some b
    · rcases R b n with x | x
      · left; rw [A.labDue b x]; rfl
      · exact .inr x
    · rw [if_neg n] at hb; exact .inl hb

/-- Its heap's row lies apart from its histories. -/
theorem StoreAt.apt {w : World} {S : St} {l : List Nat} (A : StoreAt w S) (I : ∀ b ∈ l, ∃ k, S.hs k = some (S.hb b) ∧ (S.hb b).blk = b) : Apt S.p S.dueV l S.hb := by
  refine ⟨fun e => ?_, fun b m => ?_⟩
  · have := A.labDue _ e
    rw [A.labP] at this
    cases this
  · obtain ⟨k, e, eb⟩ := I b m
    have h1 := A.labHis k _ e
    rw [eb] at h1
    refine ⟨ne_role h1 A.labP (by simp), fun e2 => ?_, fun g hg => ⟨ne_role (A.labDue g hg) h1 (by simp), fun e2 => ?_⟩⟩
    · have := A.labRow k _ _ e e2
      rw [A.labP] at this
      cases this
    · have := A.labRow k _ _ e e2
      rw [A.labDue g hg] at this
      cases this

theorem live_add (h : Hi) (row : Value) (x : Vr) (ho : h.off ≤ h.all.length) : ({ h with row := row, all := h.all ++ [x] } : Hi).live = h.live ++ [x] := by
  unfold Hi.live
  simp only
  rw [List.drop_append_of_le_length ho]

theorem HistAt.off_le {w : World} {h : Hi} (H : HistAt w h) : h.off ≤ h.all.length := by
  rcases H.off with h | ⟨h, _⟩ <;> omega
end Go.Proofs.Ytcnajkclbmddgaa
