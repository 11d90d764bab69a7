/- A store of which one history is not where it belongs. -/
import Derived.Test.YtcnajkclbmddgaaTrim
import Derived.Test.YtcnajkclbmddgaaOwn
namespace Go.Proofs.Ytcnajkclbmddgaa
open Go.ChangeShapes Go.WideShapes Go.ChangeAt Go.RowKit
set_option linter.unusedVariables false
set_option linter.unusedSimpArgs false

theorem heap_congr {f g : Nat → Int} {l : List Nat} (h : ∀ b ∈ l, f b = g b) (H : HeapOn (keyL f l) l.length) : HeapOn (keyL g l) l.length := by
  intro k k0 kn
  have e : ∀ j, j < l.length → keyL g l j = keyL f l j := fun j hj => by
    unfold keyL
    rw [h _ (by rw [List.getD_eq_getElem?_getD, List.getElem?_eq_getElem hj]; exact List.getElem_mem hj)]
  rw [e _ kn, e _ (by omega)]
  exact H k k0 kn

structure Half (w : World) (S : St) (k : ByteArray) (h : Hi) : Prop where
  store : StoreAt w S
  heap : HeapOn (keyL (nx S.hb) S.due) S.due.length
  nodup : S.due.Nodup
  hs : S.hs k = some h
  ne : ∀ k2 h2, S.hs k2 = some h2 → h2.live ≠ []
  wait : ∀ k2 h2, S.hs k2 = some h2 → waitsP h2.live = true → h2.blk ∈ S.due ∨ k2 = k
  notin : h.blk ∉ S.due
  len : S.due.length + 1 ≤ S.tot

theorem Half.later {w w' : World} {S : St} {k : ByteArray} {h : Hi} (M : Half w S k h) (hb : Below w.heap.size w w') : Half w' S k h :=
  { M with store := M.store.below hb }

theorem Half.done {w : World} {S : St} {k : ByteArray} {h : Hi} (M : Half w S k h) (d : waitsP h.live = false) : Good S := by
  refine ⟨M.ne, M.nodup, fun k2 h2 e hw => ?_, M.heap⟩
  rcases M.wait k2 h2 e hw with h3 | rfl
  · exact h3
  · rw [M.hs] at e
    cases e
    rw [d] at hw; cases hw

theorem Half.put {w : World} {S : St} {k : ByteArray} {h : Hi} (M : Half w S k h) (d : waitsP h.live = true) :
    Calls Try.prog 45 #[.pointer (some ⟨S.p, 5, none⟩), .pointer (some ⟨h.blk, 0, none⟩)] w fun e w' => e = .returned (.tuple #[]) ∧ ∃ v l, StoreAt w' (S.dued v l) ∧ Step w w' S (S.dued v l) ∧ Good (S.dued v l) := by
  have hbb := (M.store.his _ _ M.hs).2.2
  have I : ∀ b ∈ S.due ++ [h.blk], ∃ k, S.hs k = some (S.hb b) ∧ (S.hb b).blk = b := by
    intro b m
    rcases List.mem_append.1 m with m | m
    · obtain ⟨k, e⟩ := M.store.dueIn b m
      exact ⟨k, e, (M.store.dueD.his b m).1⟩
    · obtain rfl : b = h.blk := by simpa using m
      exact ⟨k, by rw [hbb]; exact M.hs, by rw [hbb]⟩
  have hH := (M.store.his _ _ M.hs).1
  refine (put_any S.p h.blk S.cs S.dueV S.due S.hb w M.store.blk rfl M.store.dueD (M.store.apt I) ⟨by rw [hbb], by rw [hbb]; exact hH, by rw [hbb]; exact d⟩ M.heap (by have := M.len; have := M.store.few; omega)).mono ?_
  rintro e w' ⟨rfl, v', l', hp, hh, B, D, O, R⟩
  refine ⟨rfl, v', l', M.store.dued B D O R (fun b m => ?_) ?_, Step.dued M.store O R, ⟨M.ne, ?_, ?_, hh⟩⟩
  · obtain ⟨k, e, _⟩ := I b (hp.mem_iff.1 m)
    exact ⟨k, e⟩
  · rw [hp.length_eq]; simp; exact M.len
  · show l'.Nodup
    rw [hp.nodup_iff, List.nodup_append]
    refine ⟨M.nodup, by simp, fun a ha b hb => ?_⟩
    obtain rfl : b = h.blk := by simpa using hb
    rintro rfl
    exact M.notin ha
  · intro k2 h2 e hw
    show h2.blk ∈ l'
    rw [hp.mem_iff]
    rcases M.wait k2 h2 e hw with h3 | rfl
    · exact List.mem_append_left _ h3
    · have e : S.hs k2 = some h2 := e
      rw [M.hs] at e
      have := Option.some.inj e
      rw [← this]
      simp

/-- The first of the heap was taken. -/
theorem half_take {w w1 : World} {S : St} {v : Value} {l : List Nat} (A : StoreAt w S) (G : Good S) (h0 : 0 < S.due.length) (hp : (l ++ [S.due.getD 0 0]).Perm S.due) (hh : HeapOn (keyL (nx S.hb) l) l.length) (B : Blk w1 S.p (S.cs.setIfInBounds 5 v) 62)
    (D : DueAt w1 v l S.hb) (O : Only (fun b => b = S.p ∨ S.dueV.ownBlock = some b) w w1) (R : ∀ g, v.ownBlock = some g → S.dueV.ownBlock = some g) :
    ∃ k, Half w1 (S.dued v l) k (S.hb (S.due.getD 0 0)) ∧ Step w w1 S (S.dued v l) ∧ (S.hb (S.due.getD 0 0)).blk = S.due.getD 0 0 ∧ waitsP (S.hb (S.due.getD 0 0)).live = true := by
  have hm : S.due.getD 0 0 ∈ S.due := by
    rw [List.getD_eq_getElem?_getD, List.getElem?_eq_getElem h0]
    exact List.getElem_mem h0
  generalize S.due.getD 0 0 = b at *
  obtain ⟨k, hk⟩ := A.dueIn b hm
  obtain ⟨d1, d2, d3⟩ := A.dueD.his b hm
  have hnd : (l ++ [b]).Nodup := hp.nodup_iff.2 G.nodup
  have hnd' := List.nodup_append.1 hnd
  have hlen : l.length + 1 = S.due.length := by have := hp.length_eq; simpa using this
  have hle : l.length + 1 ≤ S.tot := by have := A.few.2.1; omega
  have hbl : b ∉ l := fun h => hnd'.2.2 b h b (by simp) rfl
  refine ⟨k, ⟨A.dued B D O (fun g hg => .inl (R g hg)) (fun x hx => A.dueIn x (hp.mem_iff.1 (List.mem_append_left _ hx))) (by omega), hh, hnd'.1, hk, G.ne, fun k2 h2 e hw => ?_, ?_, hle⟩, Step.dued A O (fun g hg => .inl (R g hg)), d1, d3⟩
  · have := hp.mem_iff.2 (G.wait k2 h2 e hw)
    rcases List.mem_append.1 this with h | h
    · exact .inl h
    · right
      have h : h2.blk = b := by simpa using h
      have l1 := A.labHis k2 h2 e
      have l2 := A.labHis k _ hk
      rw [d1] at l2
      rw [h, l2] at l1
      injection l1 with l1
      injection l1 with l1
      exact l1.symm
  · rw [d1]; exact hbl

/-- A history turned. -/
theorem Half.turn {w w' : World} {S : St} {k : ByteArray} {h h' : Hi} (M : Half w S k h) (H : HistAt w' h') (e1 : h'.blk = h.blk) (e2 : h'.key = h.key)
    (O : Only (fun b => b = h.blk ∨ h.row.ownBlock = some b) w w') (R : ∀ g, h'.row.ownBlock = some g → h.row.ownBlock = some g ∨ w.heap.size ≤ g) (hl : h'.all.length ≤ h.all.length) (hne : h'.live ≠ []) :
    Half w' (S.turn k h' S.tot) k h' ∧ Step w w' S (S.turn k h' S.tot) := by
  have hhs : ∀ k2 h2, (S.turn k h' S.tot).hs k2 = some h2 → (k2 = k ∧ h2 = h') ∨ (k2 ≠ k ∧ S.hs k2 = some h2) := fun k2 h2 e => by
    have e : (if k2 = k then some h' else S.hs k2) = some h2 := e
    by_cases n : k2 = k
    · rw [if_pos n] at e; exact .inl ⟨n, (Option.some.inj e).symm⟩
    · rw [if_neg n] at e; exact .inr ⟨n, e⟩
  refine ⟨⟨M.store.turn M.hs H e1 e2 O R (fun m => absurd m M.notin) (Nat.le_refl _) (Nat.le_trans hl (M.store.all _ _ M.hs)) M.store.few.2.2.1, ?_, M.nodup, if_pos rfl, ?_, ?_, by rw [e1]; exact M.notin, M.len⟩, Step.turn M.store M.hs O R⟩
  · refine heap_congr (fun b hb => ?_) M.heap
    unfold nx
    show nextP (S.hb b).live = nextP (if b = h'.blk then h' else S.hb b).live
    rw [if_neg]
    rintro rfl
    rw [e1] at hb
    exact M.notin hb
  · intro k2 h2 e
    rcases hhs k2 h2 e with ⟨_, rfl⟩ | ⟨_, e⟩
    · exact hne
    · exact M.ne k2 h2 e
  · intro k2 h2 e hw
    rcases hhs k2 h2 e with ⟨n, rfl⟩ | ⟨_, e⟩
    · exact .inr n
    · exact M.wait k2 h2 e hw

/-- A key forgotten. -/
def St.forget (S : St) (k : ByteArray) : St := { S with hs := fun k' => if k' = k then none else S.hs k' }

theorem Half.forget {w w' : World} {S : St} {k : ByteArray} {h : Hi} (M : Half w S k h) (K : KMap w' S.m S.n (fput S.f k none)) (O : Only (fun b => (b = h.blk ∨ h.row.ownBlock = some b) ∨ b = S.m) w w') :
    StoreAt w' (S.forget k) ∧ Good (S.forget k) ∧ Step w w' S (S.forget k) := by
  have A := M.store
  have hlt : ∀ b r, S.lab b = some r → b < w.heap.size := fun b r e => A.lt b (by rw [e]; rfl)
  have hkeep : ∀ b r, S.lab b = some r → r ≠ .his k → r ≠ .row k → r ≠ .mp → w'.heap[b]? = w.heap[b]? := fun b r e n1 n2 n3 => O.block b (hlt b r e) (by
    rintro ((e' | e') | e')
    · rw [e', A.labHis k h M.hs] at e; exact n1 (Option.some.inj e).symm
    · rw [A.labRow k h b M.hs e'] at e; exact n2 (Option.some.inj e).symm
    · rw [e', A.labM] at e; exact n3 (Option.some.inj e).symm)
  have hhs : ∀ k2 h2, (S.forget k).hs k2 = some h2 → k2 ≠ k ∧ S.hs k2 = some h2 := fun k2 h2 e => by
    have e : (if k2 = k then none else S.hs k2) = some h2 := e
    by_cases n : k2 = k
    · rw [if_pos n] at e; cases e
    · rw [if_neg n] at e; exact ⟨n, e⟩
  have hH : ∀ k2 h2, k2 ≠ k → S.hs k2 = some h2 → HistAt w' h2 := fun k2 h2 n e =>
    (A.his k2 h2 e).1.of_block (hkeep _ _ (A.labHis k2 h2 e) (by simpa using n) (by simp) (by simp)) (fun g hg => hkeep _ _ (A.labRow k2 h2 g e hg) (by simp) (by simpa using n) (by simp))
  have hdk : ∀ b ∈ S.due, ∀ k2, S.hs k2 = some (S.hb b) → k2 ≠ k := fun b m k2 e => by
    rintro rfl
    rw [M.hs] at e
    have := (A.dueD.his b m).1
    rw [← Option.some.inj e] at this
    exact M.notin (by rw [this]; exact m)
  refine ⟨?_, ⟨fun k2 h2 e => M.ne k2 h2 (hhs k2 h2 e).2, M.nodup, fun k2 h2 e hw => ?_, M.heap⟩, ?_⟩
  · refine { blk := A.blk.of_block (hkeep _ _ A.labP (by simp) (by simp) (by simp)), map := ?_, his := fun k2 h2 e => ?_, pinR := row_thru A.pinR (fun g hg => hkeep _ _ (A.labPin g hg) (by simp) (by simp) (by simp)), dueD := ⟨row_thru A.dueD.row (fun g hg => hkeep _ _ (A.labDue g hg) (by simp) (by simp) (by simp)), fun b m => ?_, A.dueD.few⟩, dueIn := fun b m => ?_, labP := A.labP, labM := A.labM, labPin := A.labPin, labDue := A.labDue, labHis := fun k2 h2 e => A.labHis k2 h2 (hhs k2 h2 e).2, labRow := fun k2 h2 g e => A.labRow k2 h2 g (hhs k2 h2 e).2, lt := fun b e => Nat.lt_of_lt_of_le (A.lt b e) O.size, few := A.few, all := fun k2 h2 e => A.all k2 h2 (hhs k2 h2 e).2 }
    · have : (S.forget k).f = fput S.f k none := by
        funext k2
        unfold St.f fput
        show Option.map Hi.blk (if k2 = k then none else S.hs k2) = _
        split <;> rfl
      rw [this]
      exact K
    · obtain ⟨n, e⟩ := hhs k2 h2 e
      exact ⟨hH k2 h2 n e, (A.his k2 h2 e).2⟩
    · obtain ⟨k2, e⟩ := A.dueIn b m
      exact ⟨(A.dueD.his b m).1, hH k2 _ (hdk b m k2 e) e, (A.dueD.his b m).2.2⟩
    · obtain ⟨k2, e⟩ := A.dueIn b m
      refine ⟨k2, ?_⟩
      show (if k2 = k then none else S.hs k2) = _
      rw [if_neg (hdk b m k2 e)]
      exact e
  · obtain ⟨n, e⟩ := hhs k2 h2 e
    rcases M.wait k2 h2 e hw with h3 | h3
    · exact h3
    · exact absurd h3 n
  · refine ⟨O.mono (fun b _ e => ?_), fun b e => .inl e, rfl⟩
    rcases e with (e | e) | e
    · rw [e, A.labHis k h M.hs]; rfl
    · rw [A.labRow k h b M.hs e]; rfl
    · rw [e, A.labM]; rfl

/-- Of one key the first n have gone. -/
structure Trimmed (S S' : St) (k : ByteArray) (n : Nat) : Prop where
  lim : S'.lim = S.lim
  now : S'.now = S.now
  cnt : S'.cnt = S.cnt
  tot : S'.tot = S.tot
  pins : S'.pins = S.pins
  same : S'.live k = (S.live k).drop n
  other : ∀ k2, k2 ≠ k → S'.live k2 = S.live k2
end Go.Proofs.Ytcnajkclbmddgaa
