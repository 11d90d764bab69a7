/- A store's pins: the least one; one more. -/
import Derived.Test.YtcnajkclbmddgaaPins
import Derived.BigRegion
namespace Go.Proofs.Ytcnajkclbmddgaa
open Go.ChangeShapes Go.WideShapes Go.ChangeAt Go.RowKit
set_option linter.unusedVariables false
set_option linter.unusedSimpArgs false

/-- Its pins turned. -/
def St.pinned (S : St) (v : Value) (l : List Pn) : St := { S with pinV := v, pins := l, lab := fun b => if v.ownBlock = some b then some .pin else S.lab b }

theorem StoreAt.pinned {w w' : World} {S : St} {v : Value} {l : List Pn} (A : StoreAt w S) (B : Blk w' S.p (S.cs.setIfInBounds 4 v) 62) (D : w'.ownsRow 0 70 2 v l.length (encP l)) (O : Only (fun b => b = S.p ∨ S.pinV.ownBlock = some b) w w')
    (R : ∀ g, v.ownBlock = some g → S.pinV.ownBlock = some g ∨ w.heap.size ≤ g) (hl : l.length ≤ 900000) : StoreAt w' (S.pinned v l) := by
  have hlt : ∀ b r, S.lab b = some r → b < w.heap.size := fun b r e => A.lt b (by rw [e]; rfl)
  have hnew : ∀ g, v.ownBlock = some g → S.lab g = some .pin ∨ w.heap.size ≤ g := fun g hg => (R g hg).imp (A.labPin g) id
  have hkeep : ∀ b r, S.lab b = some r → r ≠ .st → r ≠ .pin → w'.heap[b]? = w.heap[b]? := fun b r e n1 n2 => O.block b (hlt b r e) (by
    rintro (e' | e')
    · rw [e', A.labP] at e; exact n1 (Option.some.inj e).symm
    · rw [A.labPin b e'] at e; exact n2 (Option.some.inj e).symm)
  have hlab : ∀ b r, S.lab b = some r → r ≠ .pin → (S.pinned v l).lab b = some r := fun b r e n => by
    show (if v.ownBlock = some b then _ else _) = _
    rw [if_neg, e]
    intro e'
    rcases hnew b e' with x | x
    · rw [x] at e; exact n (Option.some.inj e).symm
    · have := hlt b r e; omega
  have hH : ∀ k h, S.hs k = some h → HistAt w' h := fun k h e =>
    (A.his k h e).1.of_block (hkeep _ _ (A.labHis k h e) (by simp) (by simp)) (fun g hg => hkeep _ _ (A.labRow k h g e hg) (by simp) (by simp))
  refine { blk := B, map := A.map.of_block (hkeep _ _ A.labM (by simp) (by simp)), his := fun k h e => ⟨hH k h e, (A.his k h e).2⟩, pinR := D, dueD := ⟨row_thru A.dueD.row (fun g hg => hkeep _ _ (A.labDue g hg) (by simp) (by simp)), fun b m => ⟨(A.dueD.his b m).1, by obtain ⟨k, e⟩ := A.dueIn b m; exact hH k _ e, (A.dueD.his b m).2.2⟩, A.dueD.few⟩, dueIn := A.dueIn, labP := hlab _ _ A.labP (by simp), labM := hlab _ _ A.labM (by simp), labPin := fun g hg => if_pos hg, labDue := fun g hg => hlab _ _ (A.labDue g hg) (by simp), labHis := fun k h e => hlab _ _ (A.labHis k h e) (by simp), labRow := fun k h g e hg => hlab _ _ (A.labRow k h g e hg) (by simp), lt := ?_, few := ⟨A.few.1, A.few.2.1, A.few.2.2.1, hl⟩, all := A.all }
  intro b hb
  have hb : (if v.ownBlock = some b then some Role.pin else S.lab b).isSome := hb
  by_cases n : v.ownBlock = some b
  · exact (D.lt b n).2
  · rw [if_neg n] at hb
    exact Nat.lt_of_lt_of_le (A.lt b hb) O.size

theorem Step.pinned {w w' : World} {S : St} {v : Value} {l : List Pn} (A : StoreAt w S) (O : Only (fun b => b = S.p ∨ S.pinV.ownBlock = some b) w w') (R : ∀ g, v.ownBlock = some g → S.pinV.ownBlock = some g ∨ w.heap.size ≤ g) : Step w w' S (S.pinned v l) := by
  refine ⟨O.mono (fun b _ e => ?_), fun b hb => ?_, rfl⟩
  · rcases e with e | e
    · rw [e, A.labP]; rfl
    · rw [A.labPin b e]; rfl
  · have hb : (if v.ownBlock = some b then some Role.pin else S.lab b).isSome := hb
    by_cases n : v.ownBlock = some b
    · rcases R b n with x | x
      · left; rw [A.labPin b x]; rfl
      · exact .inr x
    · rw [if_neg n] at hb; exact .inl hb

def St.low (S : St) : Int := match S.pins with | x :: _ => x.1 | [] => S.now

set_option maxHeartbeats 800000 in
theorem low_any (S : St) (w : World) (A : StoreAt w S) : Calls Try.prog 34 #[.pointer (some ⟨S.p, 0, none⟩)] w fun e w' => e = .returned (.int .i64 S.low) ∧ ∃ n, w' = w.drewN n := by
  have c1 := A.blk.cell (i := 1) (v := .int .i64 S.now) rfl
  have c4 := A.blk.cell (i := 4) (v := S.pinV) rfl
  obtain ⟨a, c, e, -, P⟩ := own_atP A.pinR
  rw [e] at c4
  have el : S.low = match S.pins with | x :: _ => x.1 | [] => S.now := rfl
  cases hp : S.pins with
  | nil =>
    rw [hp] at el c4
    simp only at el
    rw [el]
    clear A P e el hp
    go_enter Try.func34, Try.ntmps34
    go_wp2_with fail
    go_ret
    exact ⟨rfl, 0, rfl⟩
  | cons x l =>
    rw [hp] at el c4 P
    simp only at el
    rw [el]
    obtain ⟨g, o, rfl, _, hc⟩ := P (by simp)
    obtain ⟨d1, d2⟩ := hc 0 x rfl
    simp only [Nat.zero_mul, Nat.add_zero] at d1
    have hln : (0 : Int) < ((x :: l).length : Int) := by simp
    generalize (x :: l).length = ln at *
    clear A P e el hp hc
    go_enter Try.func34, Try.ntmps34
    go_wp2_with fail
    go_ret
    exact ⟨rfl, 0, rfl⟩
end Go.Proofs.Ytcnajkclbmddgaa
