/- The form of a request, by the writer. -/
import Derived.Test.YtkaclahcpmogaaaGreatDoorFrD
import Derived.Test.YtkaclahcpmogaaaGreatDoorFrA
import Derived.Deep.CutRange
import Derived.Handy
namespace Go.Proofs.YtkaclahcpmogaaaGreatDoor
open Go.ChangeShapes Go.WideShapes Go.ChangeAt Go.RowKit
set_option linter.unusedVariables false
set_option linter.unusedSimpArgs false

/-- A bound method. -/
def bndV (f x : Nat) : Value := .func (.func f) #[.pointer (some ⟨x, 0, none⟩)] #[]
def wayW (k : Nat) : Value := .agg #[bndV 47 k, bndV 47 k, bndV 67 k]
def wayR (k : Nat) : Value := .agg #[bndV 48 k, bndV 69 k, bndV 70 k]

theorem wway_any (k : Nat) (w : World) : Calls Tryz.prog 46 #[.pointer (some ⟨k, 0, none⟩)] w fun e w' => e = .returned (wayW k) ∧ Below w.heap.size w w' := by
  unfold wayW bndV
  go_enter Tryz.func46, Tryz.ntmps46
  go_wp2
  go_returns
  refine ⟨rfl, ?_⟩
  go_grown

theorem rway_any (k : Nat) (w : World) : Calls Tryz.prog 49 #[.pointer (some ⟨k, 0, none⟩)] w fun e w' => e = .returned (wayR k) ∧ Below w.heap.size w w' := by
  unfold wayR bndV
  go_enter Tryz.func49, Tryz.ntmps49
  go_wp2
  go_returns
  refine ⟨rfl, ?_⟩
  go_grown

def rqVal (r : Rq) : Value := .agg #[.int .i64 r.kind, .string (bs r.name), .string (bs r.text), .int .i64 r.value]
/-- A request at x, in cells of that type. -/
def RqAt (T : TypeId) (x : Nat) (w : World) (k : Int) (n t : Bs) (v : Int) : Prop := w.heap[x]? = some (.cells #[.int .i64 k, .string (bs n), .string (bs t), .int .i64 v] T (0, 0))

structure RqCells (x : Nat) (w : World) (k : Int) (n t : Bs) (v : Int) : Prop where
  c0 : w.cell? ⟨x, 0, none⟩ = some (.int .i64 k)
  c1 : w.cell? ⟨x, 1, none⟩ = some (.string (bs n))
  c2 : w.cell? ⟨x, 2, none⟩ = some (.string (bs t))
  c3 : w.cell? ⟨x, 3, none⟩ = some (.int .i64 v)
  f0 : w.frozen? ⟨x, 0, none⟩ = false
  f1 : w.frozen? ⟨x, 1, none⟩ = false
  f2 : w.frozen? ⟨x, 2, none⟩ = false
  f3 : w.frozen? ⟨x, 3, none⟩ = false

theorem RqAt.cells {T : TypeId} {x : Nat} {w : World} {k v : Int} {n t : Bs} (h : RqAt T x w k n t v) : RqCells x w k n t v := by
  unfold RqAt at h
  constructor
  · rw [Lib.cell_of_heap h]; rfl
  · rw [Lib.cell_of_heap h]; rfl
  · rw [Lib.cell_of_heap h]; rfl
  · rw [Lib.cell_of_heap h]; rfl
  · exact Lib.frozen_of_heap h 0
  · exact Lib.frozen_of_heap h 1
  · exact Lib.frozen_of_heap h 2
  · exact Lib.frozen_of_heap h 3

theorem RqAt.kind {T : TypeId} {x : Nat} {w : World} {k v : Int} {n t : Bs} (h : RqAt T x w k n t v) (k' : Int) : RqAt T x (w.setCell ⟨x, 0, none⟩ (.int .i64 k')) k' n t v := by
  unfold RqAt at *; simp [World.setCell, Array.getElem?_modify, h]
theorem RqAt.name {T : TypeId} {x : Nat} {w : World} {k v : Int} {n t : Bs} (h : RqAt T x w k n t v) (n' : Bs) : RqAt T x (w.setCell ⟨x, 1, none⟩ (.string (bs n'))) k n' t v := by
  unfold RqAt at *; simp [World.setCell, Array.getElem?_modify, h]
theorem RqAt.text {T : TypeId} {x : Nat} {w : World} {k v : Int} {n t : Bs} (h : RqAt T x w k n t v) (t' : Bs) : RqAt T x (w.setCell ⟨x, 2, none⟩ (.string (bs t'))) k n t' v := by
  unfold RqAt at *; simp [World.setCell, Array.getElem?_modify, h]
theorem RqAt.value {T : TypeId} {x : Nat} {w : World} {k v : Int} {n t : Bs} (h : RqAt T x w k n t v) (v' : Int) : RqAt T x (w.setCell ⟨x, 3, none⟩ (.int .i64 v')) k n t v' := by
  unfold RqAt at *; simp [World.setCell, Array.getElem?_modify, h]

/-- The way, laid anew at b. -/
def WayAt (b : Nat) (w : World) (k : Nat) : Prop := w.heap[b]? = some (.cells #[bndV 47 k, bndV 47 k, bndV 67 k] 90 (0, 0))
theorem Wr.later {B k : Nat} {w w' : World} {l : Bs} (h : Wr B k w l) (hb : ∀ i, B ≤ i → i < w.heap.size → w'.heap[i]? = w.heap[i]?) : Wr B k w' l := by
  have hlt := h.lt
  obtain ⟨hBk, v, hk, hown⟩ := h
  refine ⟨hBk, v, (hb k hBk hlt).trans hk, hown.1, ?_⟩
  rcases hown.2 with h1 | ⟨g, cap, cur, h1, h2, h3, h4⟩
  · exact .inl h1
  · exact .inr ⟨g, cap, cur, h1, h2, (hb g h2 (Array.getElem?_eq_some_iff.1 h3).1).trans h3, h4⟩
theorem Wr.set {B k x i : Nat} {w : World} {l : Bs} (h : Wr B k w l) (hx : x < B) (u : Value) : Wr B k (w.setCell ⟨x, i, none⟩ u) l :=
  h.later fun j hj _ => Below.heap_setCell _ _ _ _ (by simp only; omega)

/-- What holds between the form's steps. -/
structure Mid (B x k b : Nat) (w0 : World) (kd v : Int) (n t l : Bs) (w : World) : Prop where
  rq : RqAt 61 x w kd n t v
  wr : Wr B k w l
  way : WayAt b w k
  bel : Below x w0 w

theorem Mid.number {B x k b : Nat} {w0 : World} {kd v : Int} {n t l l' : Bs} {w w' : World} (h : Mid B x k b w0 kd v n t l w) (hx : x < B) (hbk : b ≠ k) (hW : Wr B k w' l') (hb : Below B w w') (ho : Lib.OthersKept 5 (some k) w w') : Mid B x k b w0 kd v n t l' w' where
  rq := by have := h.rq; unfold RqAt at *; exact (hb.block _ hx).trans this
  wr := hW
  way := ho b _ h.way (by simpa using hbk) (fun c fz e => by injection e with _ e2; exact absurd e2 (by decide))
  bel := h.bel.trans (hb.mono (Nat.le_of_lt hx))
theorem Mid.set {B x k b : Nat} {w0 : World} {kd v kd' v' : Int} {n t l n' t' : Bs} {w : World} (h : Mid B x k b w0 kd v n t l w) (hx : x < B) (hb : B ≤ b) (i : Nat) (u : Value) (hr : RqAt 61 x (w.setCell ⟨x, i, none⟩ u) kd' n' t' v') : Mid B x k b w0 kd' v' n' t' l (w.setCell ⟨x, i, none⟩ u) where
  rq := hr
  wr := h.wr.set hx u
  way := by have := h.way; unfold WayAt at *; exact (Below.heap_setCell _ _ _ _ (by simp only; omega)).trans this
  bel := h.bel.setCell (p := ⟨x, i, none⟩) (Nat.le_refl _) u
theorem Mid.drew {B x k b : Nat} {w0 : World} {kd v : Int} {n t l : Bs} {w : World} (h : Mid B x k b w0 kd v n t l w) : Mid B x k b w0 kd v n t l w.drew := ⟨h.rq, h.wr, h.way, ⟨h.bel.os, h.bel.tape, h.bel.output, h.bel.size, h.bel.block⟩⟩
theorem WayAt.c0 {b k : Nat} {w : World} (h : WayAt b w k) : w.cell? ⟨b, 0, none⟩ = some (.func (.func 47) #[.pointer (some ⟨k, 0, none⟩)] #[]) := by unfold WayAt at h; rw [Lib.cell_of_heap h]; rfl
theorem WayAt.c2 {b k : Nat} {w : World} (h : WayAt b w k) : w.cell? ⟨b, 2, none⟩ = some (.func (.func 67) #[.pointer (some ⟨k, 0, none⟩)] #[]) := by unfold WayAt at h; rw [Lib.cell_of_heap h]; rfl

set_option maxHeartbeats 3200000 in
set_option maxRecDepth 20000 in
theorem wform_any (B x k : Nat) (r : Rq) (l : Bs) (w : World) (hx : x < B) (X : RqAt 61 x w r.kind r.name r.text r.value) (h : Wr B k w l) (hl : l.length ≤ 1000) (hn : r.name.length ≤ 1000) (ht : r.text.length ≤ 1000) :
    Calls Tryz.prog 28 #[.pointer (some ⟨x, 0, none⟩), wayW k] w fun e w' => e = .returned (.tuple #[]) ∧ Wr B k w' (l ++ reqB r) ∧ Below x w w' := by
  obtain ⟨kd, n, t, v⟩ := r
  simp only at X hn ht
  have hklt := h.lt
  have hBk := h.1
  have hbk : w.heap.size ≠ k := by omega
  have hBb : B ≤ w.heap.size := by omega
  have M : Mid B x k w.heap.size w kd v n t l (w.alloc (.cells #[bndV 47 k, bndV 47 k, bndV 67 k] 90)) :=
    ⟨by unfold RqAt at *; exact (Below.heap_alloc _ _ _ (by omega)).trans X, h.later (fun i _ hi => Below.heap_alloc _ _ _ hi), heap_alloc_new w _, (below_new w _).mono (by omega)⟩
  unfold wayW
  have hreq : l ++ reqB ⟨kd, n, t, v⟩ = ((l ++ numB 1 kd) ++ textB 1 n) ++ tailB ⟨kd, n, t, v⟩ := by unfold reqB; simp only [List.append_assoc]
  rw [hreq]
  obtain ⟨tl, htl⟩ : ∃ tl, tailB ⟨kd, n, t, v⟩ = tl := ⟨_, rfl⟩
  have htl : Hid (tailB ⟨kd, n, t, v⟩ = tl) := htl
  rw [htl.out]
  clear hreq
  go_enter Tryz.func28, Tryz.ntmps28
  go_upto_region 1 with fail
  generalize hz : w.heap.size = b at *
  generalize w.alloc (.cells #[bndV 47 k, bndV 47 k, bndV 67 k] 90) = w1 at *
  clear h X hz hklt
  go_cut [] from 4 to 13 (fun wx => Mid B x k b w kd v n t (l ++ numB 1 kd) wx)
  case first =>
    have C := M.drew.rq.cells
    have a0 := C.c0
    have p0 := M.drew.way.c0
    have W := wnumber_any B k 1 kd l w1.drew M.drew.wr (by omega) (by omega)
    clear C
    go_region_with (go_at_call 47; refine W.mono ?_; rintro e w2 ⟨rfl, hW2, hb2, ho2⟩; have M2 := M.drew.number hx hbk hW2 hb2 ho2; have d0 := M2.rq.cells.c0; have g0 := M2.rq.cells.f0)
    all_goals
      have M3 := M2.set hx hBb 0 _ (M2.rq.kind kd)
      clear M M2 hW2 hb2 ho2 W
      go_wp2_with fail
      go_meet
      exact M3
  case rest =>
  have M := hcut
  clear hcut
  have hl1 : (l ++ numB 1 kd).length ≤ 1001 := by rw [List.length_append, numB_len]; omega
  go_upto_region 2 with fail
  go_cut [] from 14 to 23 (fun wx => Mid B x k b w kd v n t ((l ++ numB 1 kd) ++ textB 1 n) wx)
  case first =>
    have a1 := M.drew.rq.cells.c1
    have p2 := M.drew.way.c2
    have W := wtext_any B k 1 n (l ++ numB 1 kd) wc.drew M.drew.wr (by omega) (by omega) (by omega)
    go_region_with (go_at_call 67; refine W.mono ?_; rintro e w2 ⟨rfl, hW2, hb2, ho2⟩; have M2 := M.drew.number hx hbk hW2 hb2 ho2; have d0 := M2.rq.cells.c1; have g0 := M2.rq.cells.f1)
    all_goals
      have M3 := M2.set hx hBb 1 _ (M2.rq.name n)
      clear M M2 hW2 hb2 ho2 W
      go_wp2_with fail
      go_meet
      exact M3
  case rest =>
  have M := hcut
  clear hcut
  have hl2 : ((l ++ numB 1 kd) ++ textB 1 n).length ≤ 3000 := by rw [List.length_append, textB_len]; omega
  have htl := htl.out
  unfold tailB at htl
  simp only at htl
  have a0 := M.rq.cells.c0
  by_cases h1 : kd = 1 ∨ kd = 3
  · rw [if_pos h1] at htl
    rcases h1 with rfl | rfl
    all_goals
      have a2 := M.drew.rq.cells.c2
      have p2 := M.drew.way.c2
      have W := wtext_any B k 2 t _ wc.drew M.drew.wr (by omega) (by omega) (by omega)
      go_wp2_with fail
      go_region_with (go_at_call 67; refine W.mono ?_; rintro e w2 ⟨rfl, hW2, hb2, ho2⟩; have M2 := M.drew.number hx hbk hW2 hb2 ho2; have d0 := M2.rq.cells.c2; have g0 := M2.rq.cells.f2)
    all_goals
      have M3 := M2.set hx hBb 2 _ (M2.rq.text t)
      clear M M2 hW2 hb2 ho2 W
      go_wp2_with fail
      go_end0
      rw [← htl]
      exact ⟨rfl, M3.wr, M3.bel⟩
  · rw [if_neg h1] at htl
    have k1 : (kd == 1) = false := by rw [beq_eq_false_iff_ne]; omega
    have k3 : (kd == 3) = false := by rw [beq_eq_false_iff_ne]; omega
    by_cases h5 : kd = 5
    · subst h5
      rw [if_pos rfl] at htl
      have a3 := M.drew.rq.cells.c3
      have p0 := M.drew.way.c0
      have W := wnumber_any B k 8 v _ wc.drew M.drew.wr (by omega) (by omega)
      go_wp2_with fail
      go_region_with (go_at_call 47; refine W.mono ?_; rintro e w2 ⟨rfl, hW2, hb2, ho2⟩; have M2 := M.drew.number hx hbk hW2 hb2 ho2; have d0 := M2.rq.cells.c3; have g0 := M2.rq.cells.f3)
      all_goals
        have M3 := M2.set hx hBb 3 _ (M2.rq.value v)
        clear M M2 hW2 hb2 ho2 W
        go_wp2_with fail
        go_end0
        rw [← htl]
        exact ⟨rfl, M3.wr, M3.bel⟩
    · rw [if_neg h5] at htl
      have k5 : (kd == 5) = false := by rw [beq_eq_false_iff_ne]; omega
      go_wp2_with fail
      go_end0
      rw [← htl, List.append_nil]
      exact ⟨rfl, M.wr, M.bel⟩
end Go.Proofs.YtkaclahcpmogaaaGreatDoor
