/- A key is read. -/
import Derived.Test.YtlncljfljjaacaaGreatDoorTxD
namespace Go.Proofs.YtlncljfljjaacaaGreatDoor
open Go.ChangeShapes Go.WideShapes Go.ChangeAt Go.RowKit
set_option linter.unusedVariables false
set_option linter.unusedSimpArgs false

set_option maxHeartbeats 800000 in
theorem lkey_any (a b : E.Bs) (v : Value) (w : World) (hl : a.length + b.length ≤ 1000000) :
    Calls Tryz.prog 61 #[.agg #[.string (E.bs a), .string (E.bs b), v]] w fun e w' => e = .returned (.string (E.bs (a ++ b))) ∧ Below w.heap.size w w' := by
  have A := fun W => run_string_add_sum (P := Tryz.prog) W (E.bs a) (E.bs b) (by rw [E.bs_size, E.bs_size]; omega)
  rw [E.bs_add] at A
  go_enter Tryz.func61, Tryz.ntmps61
  go_wp2
  go_ret
  exact ⟨rfl, E.below_new _ _⟩

theorem lk_get : ∀ (l : List Lk) (j : Nat) (x : Lk), l[j]? = some x → (lkCells l)[j * 3]? = some (.string (E.bs x.head)) ∧ (lkCells l)[j * 3 + 1]? = some (.string (E.bs x.name)) ∧ (lkCells l)[j * 3 + 2]? = some x.take
  | [], j, x, h => by simp at h
  | y :: l, 0, x, h => by
    simp at h; subst h
    simp [lkCells]
  | y :: l, j + 1, x, h => by
    have := lk_get l j x (by simpa using h)
    have e : lkCells (y :: l) = [.string (E.bs y.head), .string (E.bs y.name), y.take] ++ lkCells l := by unfold lkCells; rw [List.flatMap_cons]
    rw [e, show (j + 1) * 3 = j * 3 + 3 by omega, show j * 3 + 3 + 1 = j * 3 + 1 + 3 by omega, show j * 3 + 3 + 2 = j * 3 + 2 + 3 by omega]
    simpa using this

theorem row_ne {w : World} {base g x : Nat} {e t : TypeId} {size n c : Nat} {xs : List Value} {cs : Array Value} (hr : w.ownsRow base e size (.slice (some ⟨g, 0, none⟩) n c) n xs) (X : Blk w x cs t) (h : t ≠ e) : g ≠ x := by
  rintro rfl
  rcases hr.2 with ⟨h1, _⟩ | ⟨g', cap, cur, h1, _, h3, _⟩
  · cases h1
  · cases h1
    unfold Blk at X
    rw [X] at h3
    injection h3 with h3
    injection h3 with _ h4
    exact h h4

set_option maxHeartbeats 3200000 in
set_option maxRecDepth 20000 in
theorem tread_any {B p m : Nat} {w0 w : World} {S : St} {s : Sto} (O : OwnP B p w0 w S s m) (x b : Nat) (k : Int) (n t : E.Bs) (st fi : Nat) (at' : Int) (g c : Nat) (L : List Lk) (past : Nat) (N : Value) (text : E.Bs) (is : Bool) (X : Blk w x (tryCs p b k n t st fi at' (.slice (some ⟨g, 0, none⟩) L.length c) past N text is) 96)
    (hr : w.ownsRow 0 113 3 (.slice (some ⟨g, 0, none⟩) L.length c) L.length (lkCells L)) (l : Lk) (hl : L[past]? = some l) (f : Nat) (hf : l.take = bndV f x) (hsz : l.head.length + l.name.length ≤ 1000) (hp : past ≤ 1000) (Q : World → Prop)
    (C : ∀ (w1 : World), Only (fun i => i = x) w w1 → Blk w1 x (tryCs p b k n t st fi at' (.slice (some ⟨g, 0, none⟩) L.length c) (past + 1) N text is) 96 → Calls Tryz.prog f #[.pointer (some ⟨x, 0, none⟩), .string (E.bs l.name), .string (readP s (E.bs (l.head ++ l.name)) at').1, .bool (readP s (E.bs (l.head ++ l.name)) at').2] w1 fun e w' => e = .returned (.tuple #[]) ∧ Q w')
    (ef : ∀ args w, (callFunc f args).run Tryz.prog w = .ok (.enter f args) w) (hB : B ≤ x) (hnl : ¬ (S.lab x).isSome) :
    Calls Tryz.prog 41 #[.pointer (some ⟨x, 0, none⟩)] w fun e w' => e = .returned (.tuple #[]) ∧ Q w' := by
  have hpl : past < L.length := (List.getElem?_eq_some_iff.1 hl).1
  obtain ⟨k0, k1, k2⟩ := lk_get L past l hl
  have r0 := hr.cells (g := g) rfl _ _ k0
  have r1 := hr.cells (g := g) rfl _ _ k1
  have r2 := hr.cells (g := g) rfl _ _ k2
  rw [cell_add, Nat.zero_add] at r0 r1 r2
  have hpI : (past : Int) < (L.length : Int) := by omega
  have hp0 : (0 : Int) ≤ (past : Int) := by omega
  have c12 : w.cell? ⟨x, 12, none⟩ = some (.slice (some ⟨g, 0, none⟩) L.length c) := X.cell rfl
  have c13 : w.cell? ⟨x, 13, none⟩ = some (.int .i64 past) := X.cell rfl
  have f13 := X.thawed 13
  have hgl : g < w.heap.size := (hr.lt g rfl).2
  have hgx : g ≠ x := row_ne hr X (by decide)
  have hxl := X.lt
  rw [hf] at r2
  unfold bndV at r2
  go_enter Tryz.func41, Tryz.ntmps41
  go_wp2_with fail
  go_region
  have hb1 := (E.below_new w (.cells #[.string (E.bs l.head), .string (E.bs l.name), .func (.func f) #[.pointer (some ⟨x, 0, none⟩)] #[]] 113)).drew
  have XX := hid_of (X.of_block (w' := (w.alloc (.cells #[.string (E.bs l.head), .string (E.bs l.name), .func (.func f) #[.pointer (some ⟨x, 0, none⟩)] #[]] 113)).drew) (hb1.block _ hxl))
  have LL : Hid (Blk (w.alloc (.cells #[.string (E.bs l.head), .string (E.bs l.name), .func (.func f) #[.pointer (some ⟨x, 0, none⟩)] #[]] 113)).drew w.heap.size #[.string (E.bs l.head), .string (E.bs l.name), .func (.func f) #[.pointer (some ⟨x, 0, none⟩)] #[]] 113) := (Blk.new w _ _).of_block rfl
  have hnew : ¬ (S.lab w.heap.size).isSome := fun e => by have := O.own.store.lt _ e; omega
  replace O := hid_of (O.later hb1)
  have OO : Hid (Only (fun i => i = x) w _) := hid_of (Only.of_below' hb1 (fun i => i = x))
  clear X hr k0 k1 k2 r0 r1 r2 hl c12 hgl
  replace hsz := hid_of hsz
  replace C := hid_of C
  replace hB := hid_of hB
  have hxl1 := XX.out.lt
  have hne : w.heap.size ≠ x := by omega
  generalize (w.alloc (.cells #[.string (E.bs l.head), .string (E.bs l.name), .func (.func f) #[.pointer (some ⟨x, 0, none⟩)] #[]] 113)).drew = W1 at *
  replace c13 : W1.cell? ⟨x, 13, none⟩ = some (.int .i64 past) := XX.out.cell rfl
  replace f13 := XX.out.thawed 13
  go_wp2_with fail
  have O13 : Only (fun i => i = x) W1 (W1.setCell ⟨x, 13, none⟩ (.int .i64 ((past : Int) + 1))) := ⟨rfl, rfl, rfl, by simp [World.setCell], fun i hi hn => Below.heap_setCell _ _ _ _ (fun h => hn h)⟩
  have XX : Hid (Blk (W1.setCell ⟨x, 13, none⟩ (.int .i64 ((past : Int) + 1))).drew x (tryCs p b k n t st fi at' (.slice (some ⟨g, 0, none⟩) L.length c) (past + 1) N text is) 96) := (XX.out.set 13 _).of_block rfl
  replace LL : Hid (Blk (W1.setCell ⟨x, 13, none⟩ (.int .i64 ((past : Int) + 1))).drew w.heap.size #[.string (E.bs l.head), .string (E.bs l.name), .func (.func f) #[.pointer (some ⟨x, 0, none⟩)] #[]] 113) := (LL.out.of_block (O13.block _ LL.out.lt hne)).of_block rfl
  replace OO : Hid (Only (fun i => i = x) w (W1.setCell ⟨x, 13, none⟩ (.int .i64 ((past : Int) + 1))).drew) := by
    have h := OO.out.trans O13 (fun _ _ h => h)
    exact ⟨h.os, h.tape, h.output, h.size, h.block⟩
  replace O : Hid (OwnP B p w0 (W1.setCell ⟨x, 13, none⟩ (.int .i64 ((past : Int) + 1))).drew S s m) := (O.out.frame O13 (fun i _ h => by subst h; exact ⟨hB.out, hnl⟩)).later (E.below_drewN _ 1)
  generalize W1.setCell ⟨x, 13, none⟩ (.int .i64 ((past : Int) + 1)) = W2 at *
  have d0 : W2.drew.cell? ⟨x, 0, none⟩ = some (.pointer (some ⟨p, 0, none⟩)) := XX.out.cell rfl
  have d11 : W2.drew.cell? ⟨x, 11, none⟩ = some (.int .i64 at') := XX.out.cell rfl
  have l0 : W2.drew.cell? ⟨w.heap.size, 0, none⟩ = some (.string (E.bs l.head)) := LL.out.cell rfl
  have l1 : W2.drew.cell? ⟨w.heap.size, 1, none⟩ = some (.string (E.bs l.name)) := LL.out.cell rfl
  have l2 : W2.drew.cell? ⟨w.heap.size, 2, none⟩ = some (.func (.func f) #[.pointer (some ⟨x, 0, none⟩)] #[]) := LL.out.cell rfl
  have hx2 := XX.out.lt
  have hl2 := LL.out.lt
  have K := fun v W => lkey_any l.head l.name v W (by have := hsz.out; omega)
  have hks : Hid ((E.bs (l.head ++ l.name)).size ≤ maxLen) := by show _ ≤ _; rw [E.bs_size]; have := hsz.out; simp; unfold maxLen; omega
  clear c13 f13 O13 hb1 hp hpl hpI hp0 hxl1 hnew hf
  go_region_with (first
    | (go_at_call 61; refine (K _ _).mono ?_; rintro e w3 ⟨rfl, hb3⟩; replace O := hid_of (O.out.later hb3); replace OO := hid_of (OO.out.trans (Only.of_below' hb3 (fun i => i = x)) (fun _ _ h => h)); replace XX := hid_of (XX.out.of_block (hb3.block _ hx2)); replace LL := hid_of (LL.out.of_block (hb3.block _ hl2)); clear hb3; replace d0 : w3.cell? ⟨x, 0, none⟩ = some (.pointer (some ⟨p, 0, none⟩)) := XX.out.cell rfl; replace d11 : w3.cell? ⟨x, 11, none⟩ = some (.int .i64 at') := XX.out.cell rfl; replace l0 : w3.cell? ⟨w.heap.size, 0, none⟩ = some (.string (E.bs l.head)) := LL.out.cell rfl; replace l1 : w3.cell? ⟨w.heap.size, 1, none⟩ = some (.string (E.bs l.name)) := LL.out.cell rfl; replace l2 : w3.cell? ⟨w.heap.size, 2, none⟩ = some (.func (.func f) #[.pointer (some ⟨x, 0, none⟩)] #[]) := LL.out.cell rfl; replace hx2 := XX.out.lt; replace hl2 := LL.out.lt)
    | (go_at_call 60; refine (read_own O.out.own (E.bs (l.head ++ l.name)) at' hks.out).mono ?_; rintro e w4 ⟨rfl, hb4⟩; replace OO := hid_of (OO.out.trans (Only.of_below' hb4 (fun i => i = x)) (fun _ _ h => h)); replace XX := hid_of (XX.out.of_block (hb4.block _ hx2)); replace LL := hid_of (LL.out.of_block (hb4.block _ hl2)); clear hb4 O; replace d0 : w4.cell? ⟨x, 0, none⟩ = some (.pointer (some ⟨p, 0, none⟩)) := XX.out.cell rfl; replace d11 : w4.cell? ⟨x, 11, none⟩ = some (.int .i64 at') := XX.out.cell rfl; replace l0 : w4.cell? ⟨w.heap.size, 0, none⟩ = some (.string (E.bs l.head)) := LL.out.cell rfl; replace l1 : w4.cell? ⟨w.heap.size, 1, none⟩ = some (.string (E.bs l.name)) := LL.out.cell rfl; replace l2 : w4.cell? ⟨w.heap.size, 2, none⟩ = some (.func (.func f) #[.pointer (some ⟨x, 0, none⟩)] #[]) := LL.out.cell rfl; replace hx2 := XX.out.lt; replace hl2 := LL.out.lt))
  all_goals
    have CC := C.out w4 OO.out XX.out
    clear C K
    go_wp2_with fail
    refine CC.mono ?_
    rintro e w5 ⟨rfl, hQ⟩
    go_wp2_with fail
    go_end0
    exact ⟨rfl, hQ⟩
end Go.Proofs.YtlncljfljjaacaaGreatDoor
