/- A store made, and asked. -/
import Derived.Test.YtcnajkclbmddgaaObj
import Derived.Carry
namespace Go.Proofs.Ytcnajkclbmddgaa
open Go.ChangeShapes Go.WideShapes Go.ChangeAt Go.RowKit
open Go.Sort (grow)
set_option linter.unusedVariables false
set_option linter.unusedSimpArgs false

def St.new (p m : Nat) (lim : Int) : St :=
  { p := p, m := m, lim := lim, now := 0, cnt := 0, n := 0, tot := 0, hs := fun _ => none, pinV := .slice none 0 0, pins := [], dueV := .slice none 0 0, due := [], hb := fun _ => ⟨0, ByteArray.empty, .slice none 0 0, [], 0⟩,
    lab := fun b => if b = p then some .st else if b = m then some .mp else none }

set_option maxHeartbeats 800000 in
theorem new_any (lim : Int) (w : World) : Calls Try.prog 11 #[.int .i64 lim] w fun e w' => ∃ p m, e = .returned (.pointer (some ⟨p, 0, none⟩)) ∧ StoreAt w' (St.new p m lim) ∧ Below w.heap.size w w' ∧ w.heap.size ≤ p ∧ w.heap.size ≤ m := by
  have hmm := @run_makeMap Try.prog
  go_enter Try.func11, Try.ntmps11
  go_wp2_with fail
  go_ret
  have h1 : (w.alloc (.map #[] 0)).heap.size = w.heap.size + 1 := by simp
  have b1 := below_new w (.map #[] 0)
  have b2 := below_new (w.alloc (.map #[] 0)) (.cells (St.new (w.heap.size + 1) w.heap.size lim).cs 62)
  refine ⟨w.heap.size + 1, w.heap.size, rfl, ?_, b1.trans (b2.mono (by omega)), by omega, Nat.le_refl _⟩
  have hB := Blk.new (w.alloc (.map #[] 0)) (St.new (w.heap.size + 1) w.heap.size lim).cs 62
  rw [h1] at hB
  have hM := (KMap.new w).of_block (b2.block w.heap.size (by omega))
  exact { blk := hB, map := hM, his := (fun k h e => by cases e), pinR := World.ownsRow_nil _ _ _ _, dueD := ⟨World.ownsRow_nil _ _ _ _, (fun b hb => by cases hb), by show (0 : Nat) < 1000000; omega⟩, dueIn := (fun b hb => by cases hb), labP := if_pos rfl, labM := (if_neg (by show ¬ w.heap.size = w.heap.size + 1; omega)).trans (if_pos rfl), labPin := (fun g hg => by cases hg), labDue := (fun g hg => by cases hg), labHis := (fun k h e => by cases e), labRow := (fun k h g e => by cases e), lt := (fun b hb => by
    have hb : ((if b = w.heap.size + 1 then some Role.st else if b = w.heap.size then some Role.mp else none : Option Role)).isSome := hb
    have h2 : ((w.alloc (.map #[] 0)).alloc (.cells (St.new (w.heap.size + 1) w.heap.size lim).cs 62)).heap.size = w.heap.size + 2 := by simp
    refine Nat.lt_of_lt_of_le (m := w.heap.size + 2) ?_ (Nat.le_of_eq h2.symm)
    split at hb
    · omega
    · split at hb
      · omega
      · cases hb), few := ⟨Nat.le_refl _, Nat.le_refl _, Nat.zero_le _, Nat.zero_le _⟩, all := (fun k h e => by cases e) }

theorem now_any (S : St) (w : World) (A : StoreAt w S) : Calls Try.prog 25 #[.pointer (some ⟨S.p, 0, none⟩)] w fun e w' => e = .returned (.int .i64 S.now) ∧ w' = w := by
  have c1 := A.blk.cell (i := 1) (v := .int .i64 S.now) rfl
  clear A
  go_enter Try.func25, Try.ntmps25
  go_wp2_with fail
  go_ret
  exact ⟨rfl, rfl⟩

theorem count_any (S : St) (w : World) (A : StoreAt w S) : Calls Try.prog 29 #[.pointer (some ⟨S.p, 0, none⟩)] w fun e w' => e = .returned (.int .i64 S.cnt) ∧ w' = w := by
  have c1 := A.blk.cell (i := 2) (v := .int .i64 S.cnt) rfl
  clear A
  go_enter Try.func29, Try.ntmps29
  go_wp2_with fail
  go_ret
  exact ⟨rfl, rfl⟩

/-- What is left of a key. -/
def St.live (S : St) (k : ByteArray) : List Vr := match S.hs k with | some h => h.live | none => []

theorem readL_nil (t : Int) : readL t [] = (ByteArray.empty, false) := rfl

set_option maxHeartbeats 800000 in
theorem read_any (S : St) (k : ByteArray) (t : Int) (w : World) (A : StoreAt w S) (hk : k.size ≤ maxLen) (hs : Rise (S.live k)) (hsz : ∀ x ∈ S.live k, x.val.size ≤ 281474976710656) :
    Calls Try.prog 24 #[.pointer (some ⟨S.p, 0, none⟩), .string k, .int .i64 t] w fun e w' => e = .returned (.tuple #[.string (readL t (S.live k)).1, .bool (readL t (S.live k)).2]) ∧ Below w.heap.size w w' := by
  have c1 := A.blk.cell (i := 3) (v := .map (some S.m)) rfl
  have LK := A.map.look hk
  have e0 : S.live k = match S.hs k with | some h => h.live | none => [] := rfl
  cases hh : S.hs k with
  | none =>
    rw [hh] at e0
    simp only at e0
    rw [e0, readL_nil]
    have f0 : S.f k = none := by unfold St.f; rw [hh]; rfl
    rw [f0] at LK
    simp only [optPtr, Option.isSome_none] at LK
    clear A hsz hs e0 hh f0 hk
    go_enter Try.func24, Try.ntmps24
    go_wp2_with fail
    exact bodyPost_ret (v := .tuple #[.string ⟨#[]⟩, .bool false]) (by simp [results, Try.results24, go_sem]) rfl ⟨rfl, Below.refl _ _⟩
  | some h =>
    rw [hh] at e0
    simp only at e0
    rw [e0] at hs hsz
    rw [e0]
    have f0 : S.f k = some h.blk := by unfold St.f; rw [hh]; rfl
    rw [f0] at LK
    simp only [optPtr, Option.isSome_some] at LK
    have R := hread_any h t w (A.his k h hh).1 hs hsz
    generalize readL t h.live = rv at *
    clear A hsz hs e0 hh f0 hk
    go_enter Try.func24, Try.ntmps24
    go_wp2_with fail
    refine R.mono ?_
    rintro e w1 ⟨rfl, hb⟩
    clear R
    go_wp2_with fail
    exact bodyPost_ret (v := .tuple #[.string rv.1, .bool rv.2]) (by simp [results, Try.results24, go_sem]) rfl ⟨rfl, hb⟩

def changedL (t : Int) (l : List Vr) : Bool := match l.getLast? with | some x => decide (t < x.at') | none => false

set_option maxHeartbeats 800000 in
theorem changed_any (S : St) (k : ByteArray) (t : Int) (w : World) (A : StoreAt w S) (hk : k.size ≤ maxLen) (hne : ∀ h, S.hs k = some h → h.live ≠ []) :
    Calls Try.prog 27 #[.pointer (some ⟨S.p, 0, none⟩), .string k, .int .i64 t] w fun e w' => e = .returned (.bool (changedL t (S.live k))) ∧ ∃ n, w' = w.drewN n := by
  have c1 := A.blk.cell (i := 3) (v := .map (some S.m)) rfl
  have LK := A.map.look hk
  have e0 : S.live k = match S.hs k with | some h => h.live | none => [] := rfl
  rw [e0]
  clear e0
  cases hh : S.hs k with
  | none =>
    have f0 : S.f k = none := by unfold St.f; rw [hh]; rfl
    rw [f0] at LK
    simp only [optPtr, Option.isSome_none] at LK
    clear A hh f0 hk hne
    go_enter Try.func27, Try.ntmps27
    go_wp2_with fail
    go_ret
    exact ⟨rfl, 0, rfl⟩
  | some h =>
    have f0 : S.f k = some h.blk := by unfold St.f; rw [hh]; rfl
    rw [f0] at LK
    simp only [optPtr, Option.isSome_some] at LK
    have R := newest_any h w (A.his k h hh).1 (hne h hh)
    have ec : changedL t h.live = decide (t < newestP h.live) := by
      have := hne h hh
      unfold changedL newestP
      cases hg : h.live.getLast? with
      | none => exact absurd (List.getLast?_eq_none_iff.1 hg) this
      | some x => rfl
    simp only
    rw [ec]
    clear ec
    generalize newestP h.live = rv at *
    clear A hh f0 hk hne
    go_enter Try.func27, Try.ntmps27
    go_wp2_with fail
    refine R.mono ?_
    rintro e w1 ⟨rfl, n, rfl⟩
    clear R
    go_wp2_with fail
    go_ret
    exact ⟨rfl, n, rfl⟩
end Go.Proofs.Ytcnajkclbmddgaa
