/- The store in memory. -/
import Derived.Test.YtcnajkclbmddgaaPut
namespace Go.Proofs.Ytcnajkclbmddgaa
open Go.ChangeShapes Go.WideShapes Go.ChangeAt Go.RowKit
set_option linter.unusedVariables false
set_option linter.unusedSimpArgs false

/-- What a block is for. -/
inductive Role where
  | st | mp | pin | due
  | his (k : ByteArray)
  | row (k : ByteArray)

structure St where
  p : Nat
  m : Nat
  lim : Int
  now : Int
  cnt : Int
  n : Nat
  tot : Nat
  hs : ByteArray → Option Hi
  pinV : Value
  pins : List (Int × Int)
  dueV : Value
  due : List Nat
  hb : Nat → Hi
  lab : Nat → Option Role

def encP : List (Int × Int) → List Value
  | [] => []
  | x :: l => .int .i64 x.1 :: .int .i64 x.2 :: encP l

def St.cs (S : St) : Array Value := #[.int .i64 S.lim, .int .i64 S.now, .int .i64 S.cnt, .map (some S.m), S.pinV, S.dueV]
def St.f (S : St) (k : ByteArray) : Option Nat := (S.hs k).map Hi.blk

structure StoreAt (w : World) (S : St) : Prop where
  blk : Blk w S.p S.cs 62
  map : KMap w S.m S.n S.f
  his : ∀ k h, S.hs k = some h → HistAt w h ∧ h.key = k ∧ S.hb h.blk = h
  pinR : w.ownsRow 0 70 2 S.pinV S.pins.length (encP S.pins)
  dueD : DueAt w S.dueV S.due S.hb
  dueIn : ∀ b ∈ S.due, ∃ k, S.hs k = some (S.hb b)
  labP : S.lab S.p = some .st
  labM : S.lab S.m = some .mp
  labPin : ∀ g, S.pinV.ownBlock = some g → S.lab g = some .pin
  labDue : ∀ g, S.dueV.ownBlock = some g → S.lab g = some .due
  labHis : ∀ k h, S.hs k = some h → S.lab h.blk = some (.his k)
  labRow : ∀ k h g, S.hs k = some h → h.row.ownBlock = some g → S.lab g = some (.row k)
  lt : ∀ b, (S.lab b).isSome → b < w.heap.size
  few : S.n ≤ S.tot ∧ S.due.length ≤ S.tot ∧ S.tot ≤ 900000 ∧ S.pins.length ≤ 900000
  all : ∀ k h, S.hs k = some h → h.all.length ≤ S.tot

/-- Nothing of its own has turned. -/
theorem StoreAt.frame {w w' : World} {S : St} (A : StoreAt w S) (hs : w.heap.size ≤ w'.heap.size) (hb : ∀ b, (S.lab b).isSome → w'.heap[b]? = w.heap[b]?) : StoreAt w' S := by
  have hH : ∀ k h, S.hs k = some h → HistAt w' h := fun k h e =>
    (A.his k h e).1.of_block (hb _ (by rw [A.labHis k h e]; rfl)) (fun g hg => hb _ (by rw [A.labRow k h g e hg]; rfl))
  exact { blk := A.blk.of_block (hb _ (by rw [A.labP]; rfl)), map := A.map.of_block (hb _ (by rw [A.labM]; rfl)), his := (fun k h e => ⟨hH k h e, (A.his k h e).2⟩), pinR := row_thru A.pinR (fun g hg => hb _ (by rw [A.labPin g hg]; rfl)), dueD := ⟨row_thru A.dueD.row (fun g hg => hb _ (by rw [A.labDue g hg]; rfl)), fun b m => ⟨(A.dueD.his b m).1, by obtain ⟨k, e⟩ := A.dueIn b m; exact hH k _ e, (A.dueD.his b m).2.2⟩, A.dueD.few⟩, dueIn := A.dueIn, labP := A.labP, labM := A.labM, labPin := A.labPin, labDue := A.labDue, labHis := A.labHis, labRow := A.labRow, lt := fun b e => Nat.lt_of_lt_of_le (A.lt b e) hs, few := A.few, all := A.all }

theorem StoreAt.below {w w' : World} {S : St} (A : StoreAt w S) (hb : Below w.heap.size w w') : StoreAt w' S := A.frame hb.size (fun b e => hb.block b (A.lt b e))
theorem StoreAt.only {w w' : World} {S : St} {F : Nat → Prop} (A : StoreAt w S) (hb : Only F w w') (hF : ∀ b, (S.lab b).isSome → ¬ F b) : StoreAt w' S := A.frame hb.size (fun b e => hb.block b (A.lt b e) (hF b e))
theorem StoreAt.drewN {w : World} {S : St} (A : StoreAt w S) (n : Nat) : StoreAt (w.drewN n) S := A.below (below_drewN w n)

/-- What a call may turn: what is the store's own, and new blocks, that may become its own. -/
structure Step (w w' : World) (S S' : St) : Prop where
  only : Only (fun k => (S.lab k).isSome) w w'
  lab : ∀ b, (S'.lab b).isSome → (S.lab b).isSome ∨ w.heap.size ≤ b
  p : S'.p = S.p

theorem Step.refl (w : World) (S : St) : Step w w S S := ⟨Only.refl _ _, fun _ h => .inl h, rfl⟩
theorem Step.trans {a b c : World} {S T U : St} (h : Step a b S T) (k : Step b c T U) : Step a c S U := by
  refine ⟨⟨k.only.os.trans h.only.os, k.only.tape.trans h.only.tape, k.only.output.trans h.only.output, Nat.le_trans h.only.size k.only.size, fun i hi hn => ?_⟩, fun b hb => ?_, k.p.trans h.p⟩
  · rw [k.only.block i (Nat.lt_of_lt_of_le hi h.only.size) ?_, h.only.block i hi hn]
    intro e
    rcases h.lab i e with h | h
    · exact hn h
    · omega
  · rcases k.lab b hb with h' | h'
    · exact h.lab b h'
    · right
      have := h.only.size
      omega
theorem Step.of_below {w w' : World} (h : Below w.heap.size w w') (S : St) : Step w w' S S := ⟨Only.of_below' h _, fun _ h => .inl h, rfl⟩

theorem ne_role {S : St} {a b : Nat} {r s : Role} (ha : S.lab a = some r) (hb : S.lab b = some s) (h : r ≠ s) : a ≠ b := by
  rintro rfl
  rw [ha] at hb
  exact h (Option.some.inj hb)

/-- Its numbers turned. -/
def St.nums (S : St) (now cnt : Int) : St := { S with now := now, cnt := cnt }

theorem StoreAt.nums {w w' : World} {S : St} (A : StoreAt w S) (now cnt : Int) (B : Blk w' S.p (S.nums now cnt).cs 62) (O : Only (fun k => k = S.p) w w') : StoreAt w' (S.nums now cnt) := by
  have hb : ∀ b, b < w.heap.size → b ≠ S.p → w'.heap[b]? = w.heap[b]? := fun b h1 h2 => O.block b h1 h2
  have hl : ∀ b r, S.lab b = some r → r ≠ .st → w'.heap[b]? = w.heap[b]? := fun b r e h => hb b (A.lt b (by rw [e]; rfl)) (ne_role e A.labP h)
  have hH : ∀ k h, S.hs k = some h → HistAt w' h := fun k h e =>
    (A.his k h e).1.of_block (hl _ _ (A.labHis k h e) (by simp)) (fun g hg => hl _ _ (A.labRow k h g e hg) (by simp))
  exact { blk := B, map := A.map.of_block (hl _ _ A.labM (by simp)), his := (fun k h e => ⟨hH k h e, (A.his k h e).2⟩), pinR := (row_thru A.pinR (fun g hg => hl _ _ (A.labPin g hg) (by simp))), dueD := ⟨row_thru A.dueD.row (fun g hg => hl _ _ (A.labDue g hg) (by simp)), fun b m => ⟨(A.dueD.his b m).1, by obtain ⟨k, e⟩ := A.dueIn b m; exact hH k _ e, (A.dueD.his b m).2.2⟩, A.dueD.few⟩, dueIn := A.dueIn, labP := A.labP, labM := A.labM, labPin := A.labPin, labDue := A.labDue, labHis := A.labHis, labRow := A.labRow, lt := fun b e => Nat.lt_of_lt_of_le (A.lt b e) O.size, few := A.few, all := A.all }

theorem Step.nums {w w' : World} {S : St} (A : StoreAt w S) (now cnt : Int) (O : Only (fun k => k = S.p) w w') : Step w w' S (S.nums now cnt) :=
  ⟨O.mono (fun k _ e => by rw [e, A.labP]; rfl), fun b h => .inl h, rfl⟩

/-- A history turned: at its own block, its row maybe another one. -/
def St.turn (S : St) (k : ByteArray) (h : Hi) (tot : Nat) : St :=
  { S with tot := tot, hs := fun k' => if k' = k then some h else S.hs k', hb := fun b => if b = h.blk then h else S.hb b,
           lab := fun b => if h.row.ownBlock = some b then some (.row k) else S.lab b }

theorem StoreAt.turn {w w' : World} {S : St} {k : ByteArray} {h h' : Hi} {tot : Nat} (A : StoreAt w S) (hk : S.hs k = some h) (H : HistAt w' h') (e1 : h'.blk = h.blk) (e2 : h'.key = h.key)
    (O : Only (fun b => b = h.blk ∨ h.row.ownBlock = some b) w w') (R : ∀ g, h'.row.ownBlock = some g → h.row.ownBlock = some g ∨ w.heap.size ≤ g)
    (W : h.blk ∈ S.due → waitsP h'.live = true) (ht : S.tot ≤ tot) (hl : h'.all.length ≤ tot) (ht2 : tot ≤ 900000) : StoreAt w' (S.turn k h' tot) := by
  obtain ⟨H0, K0, B0⟩ := A.his k h hk
  have hlt : ∀ b r, S.lab b = some r → b < w.heap.size := fun b r e => A.lt b (by rw [e]; rfl)
  have hr0 : ∀ g, h.row.ownBlock = some g → S.lab g = some (.row k) := fun g hg => A.labRow k h g hk hg
  have hnew : ∀ g, h'.row.ownBlock = some g → S.lab g = some (.row k) ∨ w.heap.size ≤ g := fun g hg => (R g hg).imp (hr0 g) id
  have hkeep : ∀ b r, S.lab b = some r → r ≠ .his k → r ≠ .row k → w'.heap[b]? = w.heap[b]? := fun b r e n1 n2 => O.block b (hlt b r e) (by
    rintro (e' | e')
    · rw [e', A.labHis k h hk] at e; exact n1 (Option.some.inj e).symm
    · rw [hr0 b e'] at e; exact n2 (Option.some.inj e).symm)
  have hlab : ∀ b r, S.lab b = some r → r ≠ .row k → (S.turn k h' tot).lab b = some r := fun b r e n => by
    show (if h'.row.ownBlock = some b then _ else _) = _
    rw [if_neg, e]
    intro e'
    rcases hnew b e' with x | x
    · rw [x] at e; exact n (Option.some.inj e).symm
    · have := hlt b r e; omega
  have hother : ∀ k2 h2, S.hs k2 = some h2 → k2 ≠ k → HistAt w' h2 ∧ h2.blk ≠ h.blk := fun k2 h2 e n =>
    ⟨(A.his k2 h2 e).1.of_block (hkeep _ _ (A.labHis k2 h2 e) (by simpa using n) (by simp)) (fun g hg => hkeep _ _ (A.labRow k2 h2 g e hg) (by simp) (by simpa using n)),
     ne_role (A.labHis k2 h2 e) (A.labHis k h hk) (by simpa using n)⟩
  have hhs : ∀ k2 h2, (S.turn k h' tot).hs k2 = some h2 → (k2 = k ∧ h2 = h') ∨ (k2 ≠ k ∧ S.hs k2 = some h2) := fun k2 h2 e => by
    by_cases n : k2 = k
    · left
      refine ⟨n, ?_⟩
      have e : (if k2 = k then some h' else S.hs k2) = some h2 := e
      rw [if_pos n] at e
      exact (Option.some.inj e).symm
    · right
      have e : (if k2 = k then some h' else S.hs k2) = some h2 := e
      rw [if_neg n] at e
      exact ⟨n, e⟩
  have hbb : ∀ b, b ≠ h.blk → (S.turn k h' tot).hb b = S.hb b := fun b n => by
    show (if b = h'.blk then _ else _) = _
    rw [if_neg (by rw [e1]; exact n)]
  have hbh : (S.turn k h' tot).hb h.blk = h' := by
    show (if h.blk = h'.blk then _ else _) = _
    rw [if_pos e1.symm]
  refine { blk := ?_, map := ?_, his := ?_, pinR := ?_, dueD := ⟨?_, ?_, A.dueD.few⟩, dueIn := ?_, labP := hlab _ _ A.labP (by simp), labM := hlab _ _ A.labM (by simp), labPin := fun g hg => hlab _ _ (A.labPin g hg) (by simp), labDue := fun g hg => hlab _ _ (A.labDue g hg) (by simp), labHis := ?_, labRow := ?_, lt := ?_, few := ⟨by have := A.few.1; show S.n ≤ tot; omega, by have := A.few.2.1; show S.due.length ≤ tot; omega, ht2, A.few.2.2.2⟩, all := ?_ }
  · exact A.blk.of_block (hkeep _ _ A.labP (by simp) (by simp))
  · have : (S.turn k h' tot).f = S.f := by
      funext k2
      unfold St.f
      by_cases n : k2 = k
      · subst n
        rw [hk]
        show Option.map Hi.blk (if k2 = k2 then some h' else S.hs k2) = _
        rw [if_pos rfl]
        simp [e1]
      · show Option.map Hi.blk (if k2 = k then some h' else S.hs k2) = _
        rw [if_neg n]
    rw [this]
    exact A.map.of_block (hkeep _ _ A.labM (by simp) (by simp))
  · intro k2 h2 e
    rcases hhs k2 h2 e with ⟨rfl, rfl⟩ | ⟨n, e⟩
    · exact ⟨H, e2.trans K0, by rw [e1]; exact hbh⟩
    · obtain ⟨q1, q2⟩ := hother k2 h2 e n
      exact ⟨q1, (A.his k2 h2 e).2.1, by rw [hbb _ q2]; exact (A.his k2 h2 e).2.2⟩
  · exact row_thru A.pinR (fun g hg => hkeep _ _ (A.labPin g hg) (by simp) (by simp))
  · exact row_thru A.dueD.row (fun g hg => hkeep _ _ (A.labDue g hg) (by simp) (by simp))
  · intro b hb
    by_cases n : b = h.blk
    · subst n
      rw [hbh]
      exact ⟨e1, H, W hb⟩
    · rw [hbb b n]
      obtain ⟨q1, q2, q3⟩ := A.dueD.his b hb
      obtain ⟨k2, e⟩ := A.dueIn b hb
      refine ⟨q1, (hother k2 _ e ?_).1, q3⟩
      rintro rfl
      rw [hk] at e
      exact n (by rw [Option.some.inj e]; exact q1.symm)
  · intro b hb
    by_cases n : b = h.blk
    · subst n
      rw [hbh]
      exact ⟨k, if_pos rfl⟩
    · rw [hbb b n]
      obtain ⟨k2, e⟩ := A.dueIn b hb
      refine ⟨k2, ?_⟩
      show (if k2 = k then _ else _) = _
      rw [if_neg, e]
      rintro rfl
      rw [hk] at e
      exact n (by rw [Option.some.inj e]; exact (A.dueD.his b hb).1.symm)
  · intro k2 h2 e
    rcases hhs k2 h2 e with ⟨rfl, rfl⟩ | ⟨n, e⟩
    · rw [e1]; exact hlab _ _ (A.labHis _ h hk) (by simp)
    · exact hlab _ _ (A.labHis k2 h2 e) (by simp)
  · intro k2 h2 g e hg
    rcases hhs k2 h2 e with ⟨rfl, rfl⟩ | ⟨n, e⟩
    · exact if_pos hg
    · exact hlab _ _ (A.labRow k2 h2 g e hg) (by simpa using n)
  · intro b hb
    have hb : ((if h'.row.ownBlock = some b then some (Role.row k) else S.lab b)).isSome := hb
    by_cases n : h'.row.ownBlock = some b
    · exact (H.row.lt b n).2
    · rw [if_neg n] at hb
      exact Nat.lt_of_lt_of_le (A.lt b hb) O.size
  · intro k2 h2 e
    rcases hhs k2 h2 e with ⟨rfl, rfl⟩ | ⟨n, e⟩
    · exact hl
    · have := A.all k2 h2 e; show _ ≤ tot; omega

theorem Step.turn {w w' : World} {S : St} {k : ByteArray} {h h' : Hi} {tot : Nat} (A : StoreAt w S) (hk : S.hs k = some h)
    (O : Only (fun b => b = h.blk ∨ h.row.ownBlock = some b) w w') (R : ∀ g, h'.row.ownBlock = some g → h.row.ownBlock = some g ∨ w.heap.size ≤ g) : Step w w' S (S.turn k h' tot) := by
  refine ⟨O.mono (fun b _ e => ?_), fun b hb => ?_, rfl⟩
  · rcases e with e | e
    · rw [e, A.labHis k h hk]; rfl
    · rw [A.labRow k h b hk e]; rfl
  · have hb : ((if h'.row.ownBlock = some b then some (Role.row k) else S.lab b)).isSome := hb
    by_cases n : h'.row.ownBlock = some b
    · rcases R b n with x | x
      · left; rw [A.labRow k h b hk x]; rfl
      · exact .inr x
    · rw [if_neg n] at hb
      exact .inl hb
end Go.Proofs.Ytcnajkclbmddgaa
