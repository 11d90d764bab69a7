/- A key's history: the one that is there, or a new one. -/
import Derived.Test.YtcnajkclbmddgaaAsk
namespace Go.Proofs.Ytcnajkclbmddgaa
open Go.ChangeShapes Go.WideShapes Go.ChangeAt Go.RowKit
open Go.ChangeMaps Go.MapKept
open Go.Sort (grow)
set_option linter.unusedVariables false
set_option linter.unusedSimpArgs false

def St.more (S : St) : St := { S with tot := S.tot + 1 }
def St.grow (S : St) (k : ByteArray) (h : Hi) : St :=
  { S with n := S.n + 1, tot := S.tot + 1, hs := fun k' => if k' = k then some h else S.hs k', hb := fun b => if b = h.blk then h else S.hb b, lab := fun b => if b = h.blk then some (.his k) else S.lab b }

theorem StoreAt.more {w : World} {S : St} (A : StoreAt w S) (ht : S.tot < 900000) : StoreAt w S.more :=
  { A with few := ⟨by have := A.few.1; show S.n ≤ S.tot + 1; omega, by have := A.few.2.1; show S.due.length ≤ S.tot + 1; omega, by show S.tot + 1 ≤ 900000; omega, A.few.2.2.2⟩, all := fun k h e => by have := A.all k h e; show _ ≤ S.tot + 1; omega }

theorem StoreAt.grow {w w' : World} {S : St} {k : ByteArray} {h : Hi} (A : StoreAt w S) (ht : S.tot < 900000) (hk : S.hs k = none) (M : KMap w' S.m (S.n + 1) (fput S.f k (some h.blk))) (H : HistAt w' h) (e : h.key = k) (ha : h.all = []) (hr : h.row = .slice none 0 0) (hb : w.heap.size ≤ h.blk)
    (O : Only (fun b => b = S.m) w w') : StoreAt w' (S.grow k h) := by
  have hlt : ∀ b r, S.lab b = some r → b < w.heap.size := fun b r e => A.lt b (by rw [e]; rfl)
  have hkeep : ∀ b r, S.lab b = some r → r ≠ .mp → w'.heap[b]? = w.heap[b]? := fun b r e n => O.block b (hlt b r e) (ne_role e A.labM n)
  have hne : ∀ b r, S.lab b = some r → b ≠ h.blk := fun b r e => by have := hlt b r e; omega
  have hlab : ∀ b r, S.lab b = some r → (S.grow k h).lab b = some r := fun b r e => by
    show (if b = h.blk then _ else _) = _
    rw [if_neg (hne b r e), e]
  have hhs : ∀ k2 h2, (S.grow k h).hs k2 = some h2 → (k2 = k ∧ h2 = h) ∨ (k2 ≠ k ∧ S.hs k2 = some h2) := fun k2 h2 e => by
    have e : (if k2 = k then some h else S.hs k2) = some h2 := e
    by_cases n : k2 = k
    · rw [if_pos n] at e; exact .inl ⟨n, (Option.some.inj e).symm⟩
    · rw [if_neg n] at e; exact .inr ⟨n, e⟩
  have hH : ∀ k2 h2, S.hs k2 = some h2 → HistAt w' h2 := fun k2 h2 e =>
    (A.his k2 h2 e).1.of_block (hkeep _ _ (A.labHis k2 h2 e) (by simp)) (fun g hg => hkeep _ _ (A.labRow k2 h2 g e hg) (by simp))
  have hbb : ∀ b r, S.lab b = some r → (S.grow k h).hb b = S.hb b := fun b r e => by
    show (if b = h.blk then _ else _) = _
    rw [if_neg (hne b r e)]
  have hdl : ∀ b ∈ S.due, ∃ k2, S.hs k2 = some (S.hb b) ∧ S.lab b = some (.his k2) := fun b m => by
    obtain ⟨k2, e⟩ := A.dueIn b m
    have := A.labHis k2 _ e
    rw [(A.dueD.his b m).1] at this
    exact ⟨k2, e, this⟩
  refine { blk := A.blk.of_block (hkeep _ _ A.labP (by simp)), map := ?_, his := ?_, pinR := row_thru A.pinR (fun g hg => hkeep _ _ (A.labPin g hg) (by simp)), dueD := ⟨row_thru A.dueD.row (fun g hg => hkeep _ _ (A.labDue g hg) (by simp)), ?_, A.dueD.few⟩, dueIn := ?_, labP := hlab _ _ A.labP, labM := hlab _ _ A.labM, labPin := fun g hg => hlab _ _ (A.labPin g hg), labDue := fun g hg => hlab _ _ (A.labDue g hg), labHis := ?_, labRow := ?_, lt := ?_, few := ⟨by have := A.few.1; show S.n + 1 ≤ S.tot + 1; omega, by have := A.few.2.1; show S.due.length ≤ S.tot + 1; omega, by show S.tot + 1 ≤ 900000; omega, A.few.2.2.2⟩, all := ?_ }
  · have : (S.grow k h).f = fput S.f k (some h.blk) := by
      funext k2
      unfold St.f fput
      show Option.map Hi.blk (if k2 = k then some h else S.hs k2) = _
      split <;> rfl
    rw [this]
    exact M
  · intro k2 h2 e2
    rcases hhs k2 h2 e2 with ⟨rfl, rfl⟩ | ⟨n, e2⟩
    · exact ⟨H, e, if_pos rfl⟩
    · exact ⟨hH k2 h2 e2, (A.his k2 h2 e2).2.1, by rw [hbb _ _ (A.labHis k2 h2 e2)]; exact (A.his k2 h2 e2).2.2⟩
  · intro b m
    obtain ⟨k2, e2, e3⟩ := hdl b m
    rw [hbb _ _ e3]
    exact ⟨(A.dueD.his b m).1, hH k2 _ e2, (A.dueD.his b m).2.2⟩
  · intro b m
    obtain ⟨k2, e2, e3⟩ := hdl b m
    rw [hbb _ _ e3]
    refine ⟨k2, ?_⟩
    show (if k2 = k then _ else _) = _
    rw [if_neg, e2]
    rintro rfl
    rw [hk] at e2
    cases e2
  · intro k2 h2 e2
    rcases hhs k2 h2 e2 with ⟨rfl, rfl⟩ | ⟨n, e2⟩
    · exact if_pos rfl
    · exact hlab _ _ (A.labHis k2 h2 e2)
  · intro k2 h2 g e2 hg
    rcases hhs k2 h2 e2 with ⟨rfl, rfl⟩ | ⟨n, e2⟩
    · rw [hr] at hg; cases hg
    · exact hlab _ _ (A.labRow k2 h2 g e2 hg)
  · intro b hb2
    have hb2 : (if b = h.blk then some (Role.his k) else S.lab b).isSome := hb2
    by_cases n : b = h.blk
    · rw [n]; exact H.blk.lt
    · rw [if_neg n] at hb2
      exact Nat.lt_of_lt_of_le (A.lt b hb2) O.size
  · intro k2 h2 e2
    rcases hhs k2 h2 e2 with ⟨rfl, rfl⟩ | ⟨n, e2⟩
    · rw [ha]; exact Nat.zero_le _
    · have := A.all k2 h2 e2; show _ ≤ S.tot + 1; omega

theorem Step.grow {w w' : World} {S : St} {k : ByteArray} {h : Hi} (A : StoreAt w S) (hb : w.heap.size ≤ h.blk) (O : Only (fun b => b = S.m) w w') : Step w w' S (S.grow k h) := by
  refine ⟨O.mono (fun b _ e => by rw [e, A.labM]; rfl), fun b hb2 => ?_, rfl⟩
  have hb2 : (if b = h.blk then some (Role.his k) else S.lab b).isSome := hb2
  by_cases n : b = h.blk
  · right; omega
  · rw [if_neg n] at hb2; exact .inl hb2

set_option maxHeartbeats 1600000 in
theorem history_any (S : St) (k : ByteArray) (w : World) (A : StoreAt w S) (hk : k.size ≤ maxLen) (hk2 : k.size ≤ 281474976710656) (ht : S.tot < 900000) :
    Calls Try.prog 42 #[.pointer (some ⟨S.p, 0, none⟩), .string k] w fun e w' => ∃ S' h, e = .returned (.pointer (some ⟨h.blk, 0, none⟩)) ∧ StoreAt w' S' ∧ Step w w' S S' ∧ S'.hs k = some h ∧
      ((S.hs k = some h ∧ S' = S.more) ∨ (S.hs k = none ∧ S' = S.grow k h ∧ h.all = [] ∧ h.off = 0)) := by
  have c1 := A.blk.cell (i := 3) (v := .map (some S.m)) rfl
  have LK := A.map.look hk
  cases hh : S.hs k with
  | some h =>
    have f0 : S.f k = some h.blk := by unfold St.f; rw [hh]; rfl
    rw [f0] at LK
    simp only [optPtr, Option.isSome_some] at LK
    have R : Hid (StoreAt w S.more ∧ Step w w S S.more ∧ S.more.hs k = some h) := ⟨A.more ht, ⟨Only.refl _ _, fun _ h => .inl h, rfl⟩, hh⟩
    clear A f0 hk hk2 ht hh
    go_enter Try.func42, Try.ntmps42
    go_wp2_with fail
    go_ret
    exact ⟨_, h, rfl, R.out.1, R.out.2.1, R.out.2.2, .inl ⟨rfl, rfl⟩⟩
  | none =>
    have f0 : S.f k = none := by unfold St.f; rw [hh]; rfl
    have LK0 := LK
    rw [f0] at LK
    simp only [optPtr, Option.isSome_none] at LK
    have C := clone_any k hk2 w
    have hml := A.map.lt
    have HM : Hid (∀ w1, Below w.heap.size w w1 → KMap w1 S.m S.n S.f) := fun w1 hb => A.map.of_block (hb.block _ hml)
    clear LK0
    have HA : Hid (StoreAt w S ∧ S.tot < 900000 ∧ k.size ≤ maxLen) := ⟨A, ht, hk⟩
    clear A hk hk2 ht
    go_enter Try.func42, Try.ntmps42
    go_wp2_with fail
    refine C.mono ?_
    rintro e w1 ⟨rfl, hb1⟩
    clear C
    replace c1 := kept_cell hb1 c1
    go_wp2_with fail
    have B2 := Blk.new w1 #[.string k, .slice none 0 0, .int .i64 0] 91
    have hb2 : Below w.heap.size w (w1.alloc (.cells #[.string k, .slice none 0 0, .int .i64 0] 91)) := hb1.alloc hb1.size _
    have hs2 : w1.heap.size < (w1.alloc (.cells #[.string k, .slice none 0 0, .int .i64 0] 91)).heap.size := by simp
    replace c1 := kept_alloc (o := .cells #[.string k, .slice none 0 0, .int .i64 0] 91) c1
    generalize w1.alloc (.cells #[.string k, .slice none 0 0, .int .i64 0] 91) = w2 at *
    have hX : w.heap.size ≤ w1.heap.size := hb1.size
    generalize w1.heap.size = X at *
    have d0 := B2.cell (i := 0) (v := .string k) rfl
    obtain ⟨hA, ht, hk⟩ := HA.out
    obtain ⟨o, hrun, hmap⟩ := (HM.out w2 hb2).put hk f0 (by have := hA.few; unfold maxLen; omega) X
    have r1 := hrun w2.drew rfl
    have hml2 : S.m < w2.heap.size := Nat.lt_of_lt_of_le hml hb2.size
    have RR : Hid (StoreAt (setBlock w2.drew S.m o) (S.grow k ⟨X, k, .slice none 0 0, [], 0⟩) ∧ Step w (setBlock w2.drew S.m o) S (S.grow k ⟨X, k, .slice none 0 0, [], 0⟩)) := by
      have hM := hmap w2.drew rfl
      have hO : Only (fun b => b = S.m) w (setBlock w2.drew S.m o) := ⟨hb2.os, hb2.tape, hb2.output, by simp [setBlock]; exact hb2.size, fun b h1 h2 => (setBlock_other _ _ h2).trans (hb2.block b h1)⟩
      have hXm : X ≠ S.m := by omega
      have hH : HistAt (setBlock w2.drew S.m o) ⟨X, k, .slice none 0 0, [], 0⟩ := ⟨B2.of_block (setBlock_other _ _ hXm), World.ownsRow_nil _ _ _ _, .inr ⟨rfl, rfl, rfl⟩, by show (0 : Nat) < 1000000; omega, hk⟩
      exact ⟨hA.grow ht hh hM hH rfl rfl rfl hX hO, Step.grow hA hX hO⟩
    clear hrun hmap HM HA hA ht hk B2 hb2 hb1 hml hml2 f0
    go_region
    go_wp2_with fail
    go_ret
    exact ⟨_, _, rfl, RR.out.1, RR.out.2, if_pos rfl, .inr ⟨trivial, rfl, rfl, rfl⟩⟩
end Go.Proofs.Ytcnajkclbmddgaa
