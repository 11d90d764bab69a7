/- Behind the history was made longer: put into the heap, or not. -/
import Derived.Test.YtcnajkclbmddgaaWrite
namespace Go.Proofs.Ytcnajkclbmddgaa
open Go.ChangeShapes Go.WideShapes Go.ChangeAt Go.RowKit
set_option linter.unusedVariables false
set_option linter.unusedSimpArgs false

theorem Wrote.dued {S S2 : St} {x : Wr} (h : Wrote S S2 x) (v : Value) (l : List Nat) : Wrote S (S2.dued v l) x := ⟨h.lim, h.now, h.cnt, h.tot, h.pins, h.same, h.other⟩

structure Mid (w : World) (S S2 : St) (x : Wr) (h h' : Hi) : Prop where
  store : StoreAt w S2
  wrote : Wrote S S2 x
  heap : HeapOn (keyL (nx S2.hb) S2.due) S2.due.length
  nodup : S2.due.Nodup
  hs : S2.hs x.key = some h'
  hb : S2.hb h.blk = h'
  blk : h'.blk = h.blk
  ne : ∀ k h2, S2.hs k = some h2 → h2.live ≠ []
  wait : ∀ k h2, S2.hs k = some h2 → waitsP h2.live = true → h2.blk ∈ S2.due ∨ (k = x.key ∧ waitsP h.live = false)
  notin : waitsP h.live = false → h.blk ∉ S2.due
  len : S2.due.length + 1 ≤ S2.tot
  isin : waitsP h.live = true → h.blk ∈ S2.due

theorem mid_of {w w1 : World} {S S1 : St} {x : Wr} {h : Hi} (A : StoreAt w S) (G : Good S) (H1 : StoreAt w1 S1) (E1 : S1.hs x.key = some h)
    (E : (S.hs x.key = some h ∧ S1 = S.more) ∨ (S.hs x.key = none ∧ S1 = S.grow x.key h ∧ h.all = [] ∧ h.off = 0)) {w2 : World} {row : Value}
    (H2 : HistAt w2 { h with row := row, all := h.all ++ [vrOf S.now x] }) (O2 : Only (fun k => k = h.blk ∨ h.row.ownBlock = some k) w1 w2) (R2 : ∀ g, row.ownBlock = some g → h.row.ownBlock = some g ∨ w1.heap.size ≤ g) :
    ∃ S2 h', Mid w2 S S2 x h h' ∧ Step w1 w2 S1 S2 ∧ HistAt w2 h' := by
  obtain ⟨m1, m2, m3, m4, m5, m6, m7, m8, m9, m10, m11, m12, m13⟩ := wrote_mid A G H1 E1 E H2 O2 R2
  exact ⟨_, _, ⟨m1, m4, m5, m6, m7, m8, rfl, m9, m10, m11, m12, m13⟩, m2, H2⟩

theorem Mid.done {w : World} {S S2 : St} {x : Wr} {h h' : Hi} (M : Mid w S S2 x h h') (d : waitsP h.live = true ∨ waitsP h'.live = false) : Good S2 := by
  refine ⟨M.ne, M.nodup, fun k h2 e hw => ?_, M.heap⟩
  rcases M.wait k h2 e hw with h3 | ⟨rfl, h3⟩
  · exact h3
  · rcases d with d | d
    · rw [d] at h3; cases h3
    · rw [M.hs] at e
      cases e
      rw [d] at hw; cases hw

theorem Mid.put {w : World} {S S2 : St} {x : Wr} {h h' : Hi} (M : Mid w S S2 x h h') (d0 : waitsP h.live = false) (d1 : waitsP h'.live = true) :
    Calls Try.prog 45 #[.pointer (some ⟨S2.p, 5, none⟩), .pointer (some ⟨h.blk, 0, none⟩)] w fun e w' => e = .returned (.tuple #[]) ∧ ∃ S', StoreAt w' S' ∧ Step w w' S2 S' ∧ Good S' ∧ Wrote S S' x := by
  have I : ∀ b ∈ S2.due ++ [h.blk], ∃ k, S2.hs k = some (S2.hb b) ∧ (S2.hb b).blk = b := by
    intro b m
    rcases List.mem_append.1 m with m | m
    · obtain ⟨k, e⟩ := M.store.dueIn b m
      exact ⟨k, e, (M.store.dueD.his b m).1⟩
    · obtain rfl : b = h.blk := by simpa using m
      exact ⟨x.key, by rw [M.hb]; exact M.hs, by rw [M.hb]; exact M.blk⟩
  have hH := (M.store.his _ _ M.hs).1
  refine (put_any S2.p h.blk S2.cs S2.dueV S2.due S2.hb w M.store.blk rfl M.store.dueD (M.store.apt I) ⟨by rw [M.hb]; exact M.blk, by rw [M.hb]; exact hH, by rw [M.hb]; exact d1⟩ M.heap (by have := M.len; have := M.store.few; omega)).mono ?_
  rintro e w' ⟨rfl, v', l', hp, hh, B, D, O, R⟩
  refine ⟨rfl, S2.dued v' l', M.store.dued B D O R (fun b m => ?_) ?_, Step.dued M.store O R, ⟨M.ne, ?_, ?_, hh⟩, M.wrote.dued _ _⟩
  · obtain ⟨k, e, _⟩ := I b (hp.mem_iff.1 m)
    exact ⟨k, e⟩
  · rw [hp.length_eq]; simp; exact M.len
  · show l'.Nodup
    rw [hp.nodup_iff, List.nodup_append]
    refine ⟨M.nodup, by simp, fun a ha b hb => ?_⟩
    obtain rfl : b = h.blk := by simpa using hb
    rintro rfl
    exact M.notin d0 ha
  · intro k h2 e hw
    show h2.blk ∈ l'
    rw [hp.mem_iff]
    rcases M.wait k h2 e hw with h3 | ⟨rfl, h3⟩
    · exact List.mem_append_left _ h3
    · have e : S2.hs x.key = some h2 := e
      rw [M.hs] at e
      have := Option.some.inj e
      rw [← this, M.blk]
      simp
end Go.Proofs.Ytcnajkclbmddgaa
