/- The form of a request, by the reader. -/
import Derived.Test.YtkaclahcpmogaaaGreatDoorFrE
namespace Go.Proofs.YtkaclahcpmogaaaGreatDoor
open Go.ChangeShapes Go.WideShapes Go.ChangeAt Go.RowKit
set_option linter.unusedVariables false
set_option linter.unusedSimpArgs false

def WayAtR (b : Nat) (w : World) (k : Nat) : Prop := w.heap[b]? = some (.cells #[bndV 48 k, bndV 69 k, bndV 70 k] 90 (0, 0))
theorem WayAtR.c0 {b k : Nat} {w : World} (h : WayAtR b w k) : w.cell? ⟨b, 0, none⟩ = some (.func (.func 48) #[.pointer (some ⟨k, 0, none⟩)] #[]) := by unfold WayAtR at h; rw [Lib.cell_of_heap h]; rfl
theorem WayAtR.c1 {b k : Nat} {w : World} (h : WayAtR b w k) : w.cell? ⟨b, 1, none⟩ = some (.func (.func 69) #[.pointer (some ⟨k, 0, none⟩)] #[]) := by unfold WayAtR at h; rw [Lib.cell_of_heap h]; rfl
theorem WayAtR.c2 {b k : Nat} {w : World} (h : WayAtR b w k) : w.cell? ⟨b, 2, none⟩ = some (.func (.func 70) #[.pointer (some ⟨k, 0, none⟩)] #[]) := by unfold WayAtR at h; rw [Lib.cell_of_heap h]; rfl

/-- What holds between the form's steps, where it is read. -/
structure MidR (x k b : Nat) (w0 : World) (kd v : Int) (n t : Bs) (s : Rs) (w : World) : Prop where
  rq : RqAt 61 x w kd n t v
  rd : Rdf x k w s
  way : WayAtR b w k
  bel : Below x w0 w

theorem MidR.step {x k b : Nat} {w0 : World} {kd v : Int} {n t : Bs} {s s' : Rs} {w w' : World} (h : MidR x k b w0 kd v n t s w) (hx : x < k) (hbk : b ≠ k) (hR : Rdf x k w' s') (hj : Just k w w') : MidR x k b w0 kd v n t s' w' where
  rq := by have := h.rq; unfold RqAt at *; exact (hj.other _ (by omega)).trans this
  rd := hR
  way := (hj.other _ hbk).trans h.way
  bel := h.bel.trans (hj.below.mono (Nat.le_of_lt hx))
theorem MidR.set {x k b : Nat} {w0 : World} {kd v kd' v' : Int} {n t n' t' : Bs} {s : Rs} {w : World} (h : MidR x k b w0 kd v n t s w) (hx : x < k) (hb : x < b) (i : Nat) (u : Value) (hr : RqAt 61 x (w.setCell ⟨x, i, none⟩ u) kd' n' t' v') : MidR x k b w0 kd' v' n' t' s (w.setCell ⟨x, i, none⟩ u) where
  rq := hr
  rd := h.rd.later ((Below.refl _ _).setCell (p := ⟨x, i, none⟩) (Nat.le_refl _) u) (Below.heap_setCell _ _ _ _ (by simp only; omega))
  way := (Below.heap_setCell _ _ _ _ (by simp only; omega)).trans h.way
  bel := h.bel.setCell (p := ⟨x, i, none⟩) (Nat.le_refl _) u
theorem MidR.drew {x k b : Nat} {w0 : World} {kd v : Int} {n t : Bs} {s : Rs} {w : World} (h : MidR x k b w0 kd v n t s w) : MidR x k b w0 kd v n t s w.drew :=
  ⟨h.rq, h.rd.later ⟨rfl, rfl, rfl, Nat.le_refl _, fun _ _ => rfl⟩ rfl, h.way, ⟨h.bel.os, h.bel.tape, h.bel.output, h.bel.size, h.bel.block⟩⟩

set_option maxHeartbeats 3200000 in
set_option maxRecDepth 20000 in
theorem rform_any (x k : Nat) (s : Rs) (w : World) (hx : x < k) (X : RqAt 61 x w 0 [] [] 0) (h : Rdf x k w s) :
    Calls Tryz.prog 28 #[.pointer (some ⟨x, 0, none⟩), wayR k] w fun e w' => e = .returned (.tuple #[]) ∧ RqAt 61 x w' (reqR s).1.kind (reqR s).1.name (reqR s).1.text (reqR s).1.value ∧ Rdf x k w' (reqR s).2 ∧ Below x w w' := by
  have hklt := h.lt
  have hbk : w.heap.size ≠ k := by omega
  have hBb : x < w.heap.size := by omega
  have M : MidR x k w.heap.size w 0 0 [] [] s (w.alloc (.cells #[bndV 48 k, bndV 69 k, bndV 70 k] 90)) :=
    ⟨by unfold RqAt at *; exact (Below.heap_alloc _ _ _ (by omega)).trans X, h.later ((below_new w _).mono (by omega)) (Below.heap_alloc _ _ _ (by omega)), heap_alloc_new w _, (below_new w _).mono (by omega)⟩
  unfold wayR
  obtain ⟨R, hR⟩ : ∃ R, reqR s = R := ⟨_, rfl⟩
  rw [hR]
  unfold reqR at hR
  obtain ⟨⟨kd, s1⟩, hK⟩ : ∃ K, numP 1 s = K := ⟨_, rfl⟩
  rw [hK] at hR
  simp only at hR
  obtain ⟨⟨n, s2⟩, hN⟩ : ∃ N, textR 1 s1 = N := ⟨_, rfl⟩
  rw [hN] at hR
  simp only at hR
  replace hR : Hid _ := hR
  go_enter Tryz.func28, Tryz.ntmps28
  go_upto_region 1 with fail
  generalize hz : w.heap.size = b at *
  generalize w.alloc (.cells #[bndV 48 k, bndV 69 k, bndV 70 k] 90) = w1 at *
  clear h X hz hklt
  go_cut [] from 4 to 13 (fun wx => MidR x k b w kd 0 [] [] s1 wx)
  case first =>
    have a0 := M.drew.rq.cells.c0
    have p0 := M.drew.way.c0
    have W := rnumber_any x k 1 0 s w1.drew M.drew.rd (by omega)
    rw [hK] at W
    go_region_with (go_at_call 48; refine W.mono ?_; rintro e w2 ⟨rfl, hW2, hb2⟩; have M2 := M.drew.step hx hbk hW2 hb2; have d0 := M2.rq.cells.c0; have g0 := M2.rq.cells.f0)
    all_goals
      have M3 := M2.set hx hBb 0 _ (M2.rq.kind kd)
      clear M M2 hW2 hb2 W
      go_wp2_with fail
      go_meet
      exact M3
  case rest =>
  have M := hcut
  clear hcut
  go_upto_region 2 with fail
  go_cut [] from 14 to 23 (fun wx => MidR x k b w kd 0 n [] s2 wx)
  case first =>
    have a1 := M.drew.rq.cells.c1
    have p2 := M.drew.way.c2
    have W := rtext_any x k 1 (bs []) s1 wc.drew M.drew.rd (by omega)
    rw [hN] at W
    go_region_with (go_at_call 70; refine W.mono ?_; rintro e w2 ⟨rfl, hW2, hb2⟩; have M2 := M.drew.step hx hbk hW2 hb2; have d0 := M2.rq.cells.c1; have g0 := M2.rq.cells.f1)
    all_goals
      have M3 := M2.set hx hBb 1 _ (M2.rq.name n)
      clear M M2 hW2 hb2 W
      go_wp2_with fail
      go_meet
      exact M3
  case rest =>
  have M := hcut
  clear hcut
  replace hR := hR.out
  have a0 := M.rq.cells.c0
  by_cases h1 : kd = 1 ∨ kd = 3
  · rw [if_pos h1] at hR
    obtain ⟨⟨t, s3⟩, hT⟩ : ∃ N, textR 2 s2 = N := ⟨_, rfl⟩
    rw [hT] at hR
    replace hR : Hid _ := hR
    rcases h1 with rfl | rfl
    all_goals
      have a2 := M.drew.rq.cells.c2
      have p2 := M.drew.way.c2
      have W := rtext_any x k 2 (bs []) s2 wc.drew M.drew.rd (by omega)
      rw [hT] at W
      go_wp2_with fail
      go_region_with (go_at_call 70; refine W.mono ?_; rintro e w2 ⟨rfl, hW2, hb2⟩; have M2 := M.drew.step hx hbk hW2 hb2; have d0 := M2.rq.cells.c2; have g0 := M2.rq.cells.f2)
    all_goals
      have M3 := M2.set hx hBb 2 _ (M2.rq.text t)
      clear M M2 hW2 hb2 W
      go_wp2_with fail
      go_end0
      rw [← hR.out]
      exact ⟨rfl, M3.rq, M3.rd, M3.bel⟩
  · rw [if_neg h1] at hR
    have k1 : (kd == 1) = false := by rw [beq_eq_false_iff_ne]; omega
    have k3 : (kd == 3) = false := by rw [beq_eq_false_iff_ne]; omega
    by_cases h5 : kd = 5
    · subst h5
      rw [if_pos rfl] at hR
      obtain ⟨⟨v, s3⟩, hT⟩ : ∃ N, numP 8 s2 = N := ⟨_, rfl⟩
      rw [hT] at hR
      replace hR : Hid _ := hR
      have a3 := M.drew.rq.cells.c3
      have p0 := M.drew.way.c0
      have W := rnumber_any x k 8 0 s2 wc.drew M.drew.rd (by omega)
      rw [hT] at W
      go_wp2_with fail
      go_region_with (go_at_call 48; refine W.mono ?_; rintro e w2 ⟨rfl, hW2, hb2⟩; have M2 := M.drew.step hx hbk hW2 hb2; have d0 := M2.rq.cells.c3; have g0 := M2.rq.cells.f3)
      all_goals
        have M3 := M2.set hx hBb 3 _ (M2.rq.value v)
        clear M M2 hW2 hb2 W
        go_wp2_with fail
        go_end0
        rw [← hR.out]
        exact ⟨rfl, M3.rq, M3.rd, M3.bel⟩
    · rw [if_neg h5] at hR
      replace hR : Hid _ := hR
      have k5 : (kd == 5) = false := by rw [beq_eq_false_iff_ne]; omega
      go_wp2_with fail
      go_end0
      rw [← hR.out]
      exact ⟨rfl, M.rq, M.rd, M.bel⟩
end Go.Proofs.YtkaclahcpmogaaaGreatDoor
