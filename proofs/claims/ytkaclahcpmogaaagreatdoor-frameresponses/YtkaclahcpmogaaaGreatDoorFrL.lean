/- An error, a diagnostic, by the writer and by the reader. -/
import Derived.Test.YtkaclahcpmogaaaGreatDoorFrG
import Derived.Test.YtkaclahcpmogaaaGreatDoorFrF
import Derived.Test.YtkaclahcpmogaaaGreatDoorFrK
namespace Go.Proofs.YtkaclahcpmogaaaGreatDoor
open Go.ChangeShapes Go.WideShapes Go.ChangeAt Go.RowKit
set_option linter.unusedVariables false
set_option linter.unusedSimpArgs false

theorem OK_setNew {e : TypeId} {b : Option Nat} {a w : World} (h : Lib.OthersKept e b a w) (k i : Nat) (hk : a.heap.size ≤ k) (v : Value) : Lib.OthersKept e b a (w.setCell ⟨k, i, none⟩ v) := by
  intro j x hj hb hx
  have h1 := h j x hj hb hx
  have hlt := (Array.getElem?_eq_some_iff.1 hj).1
  rw [Below.heap_setCell _ _ _ _ (by simp only; omega)]
  exact h1

/-- What a writer's step does to the rest. -/
structure WStep (B k : Nat) (w w' : World) : Prop where
  below : Below B w w'
  ok : Lib.OthersKept 5 (some k) w w'
theorem WStep.refl (B k : Nat) (w : World) : WStep B k w w := ⟨Below.refl _ _, Lib.OthersKept.refl _ _ _⟩
theorem WStep.trans {B k : Nat} {a b c : World} (h : WStep B k a b) (g : WStep B k b c) : WStep B k a c := ⟨h.below.trans g.below, h.ok.trans g.ok⟩
theorem WStep.alloc {B k : Nat} {a b : World} (h : WStep B k a b) (hB : B ≤ a.heap.size) (o : Obj) : WStep B k a (b.alloc o) := ⟨h.below.alloc (Nat.le_trans hB h.below.size) o, h.ok.alloc o⟩
theorem WStep.set {B k : Nat} {a b : World} (h : WStep B k a b) (hB : B ≤ a.heap.size) (j i : Nat) (hj : a.heap.size ≤ j) (v : Value) : WStep B k a (b.setCell ⟨j, i, none⟩ v) :=
  ⟨h.below.setCell (p := ⟨j, i, none⟩) (Nat.le_trans hB hj) v, OK_setNew h.ok j i hj v⟩
/-- A block that is not bytes, and not the writer's. -/
theorem WStep.kept {B k : Nat} {a b : World} (h : WStep B k a b) {j : Nat} {cs : Array Value} {t : TypeId} (hj : a.heap[j]? = some (.cells cs t (0, 0))) (hk : j ≠ k) (ht : t ≠ 5) : b.heap[j]? = some (.cells cs t (0, 0)) :=
  h.ok j _ hj (by simpa using hk) (fun c fz e => by injection e with _ e2; exact ht e2)

theorem cell_at {w : World} {k : Nat} {cs : Array Value} {t : TypeId} (h : w.heap[k]? = some (.cells cs t (0, 0))) (i : Nat) (v : Value) (hv : cs[i]? = some v) : w.cell? ⟨k, i, none⟩ = some v := by rw [Lib.cell_of_heap h]; exact hv
theorem froz_at {w : World} {k : Nat} {cs : Array Value} {t : TypeId} (h : w.heap[k]? = some (.cells cs t (0, 0))) (i : Nat) : w.frozen? ⟨k, i, none⟩ = false := Lib.frozen_of_heap h i
theorem set_at {w : World} {k : Nat} {cs : Array Value} {t : TypeId} (h : w.heap[k]? = some (.cells cs t (0, 0))) (i : Nat) (v : Value) : (w.setCell ⟨k, i, none⟩ v).heap[k]? = some (.cells (cs.setIfInBounds i v) t (0, 0)) := by
  simp [World.setCell, Array.getElem?_modify, h]

theorem Wr.new {B k : Nat} {w : World} {l : Bs} (h : Wr B k w l) (o : Obj) : Wr B k (w.alloc o) l := h.later fun i _ hi => Below.heap_alloc _ _ _ hi
theorem Wr.setNew {B k j i : Nat} {w : World} {l : Bs} (h : Wr B k w l) {t : TypeId} {cs : Array Value} (hj : w.heap[j]? = some (.cells cs t (0, 0))) (ht : t ≠ 5) (hk : j ≠ k) (v : Value) : Wr B k (w.setCell ⟨j, i, none⟩ v) l := by
  obtain ⟨hBk, u, hk', hown⟩ := h
  refine ⟨hBk, u, (Below.heap_setCell _ _ _ _ (by simpa using hk.symm)).trans hk', hown.1, ?_⟩
  rcases hown.2 with h1 | ⟨g, cap, cur, h1, h2, h3, h4⟩
  · exact .inl h1
  · refine .inr ⟨g, cap, cur, h1, h2, (Below.heap_setCell _ _ _ _ ?_).trans h3, h4⟩
    simp only
    rintro rfl
    rw [hj] at h3
    injection h3 with h3
    injection h3 with _ h5
    exact ht h5

theorem werrno_any (B k : Nat) (n : Int) (l : Bs) (w : World) (h : Wr B k w l) (hl : l.length ≤ 900000) :
    Calls Tryz.prog 54 #[wayW k, .int .i64 n] w fun e w' => e = .returned (.int .i64 n) ∧ Wr B k w' (l ++ numB 1 n) ∧ WStep B k w w' := by
  have hB : B ≤ w.heap.size := by have := h.1; have := h.lt; omega
  have C := wnumber_any B k 1 n l _ (h.new (.cells #[bndV 47 k, bndV 47 k, bndV 67 k] 90)) (by omega) (by omega)
  have S := (WStep.refl B k w).alloc hB (.cells #[bndV 47 k, bndV 47 k, bndV 67 k] 90)
  unfold wayW bndV at *
  go_enter Tryz.func54, Tryz.ntmps54
  go_wp2_with fail
  refine C.mono ?_
  rintro e w2 ⟨rfl, hW, hb, ho⟩
  go_wp2_with fail
  go_ret
  exact ⟨rfl, hW, S.trans ⟨hb, ho⟩⟩

theorem rerrno_any (L k : Nat) (n : Int) (s : Rs) (w : World) (h : Rdf L k w s) :
    Calls Tryz.prog 54 #[wayR k, .int .i64 n] w fun e w' => e = .returned (.int .i64 (numP 1 s).1) ∧ Rdf L k w' (numP 1 s).2 ∧ But (fun i => i = k) w w' := by
  have hL := h.1
  have hk := h.lt
  have R0 : Rdf L k (w.alloc (.cells #[bndV 48 k, bndV 69 k, bndV 70 k] 90)) s := h.later ((below_new w _).mono (by omega)) (Below.heap_alloc _ _ _ hk)
  have C := rnumber_any L k 1 n s _ R0 (by omega)
  have S := (But.refl (fun i => i = k) w).alloc (.cells #[bndV 48 k, bndV 69 k, bndV 70 k] 90)
  unfold wayR bndV at *
  go_enter Tryz.func54, Tryz.ntmps54
  go_wp2_with fail
  refine C.mono ?_
  rintro e w2 ⟨rfl, hR, hj⟩
  go_wp2_with fail
  go_ret
  exact ⟨rfl, hR, S.trans ⟨hj.below.os, hj.below.tape, hj.below.output, hj.below.size, fun i _ hi => hj.other i hi⟩⟩

def dgCells (d : Dg) : Array Value := #[.string (bs d.frag), .int .i64 d.line, .int .i64 d.e]
def dgVal (d : Dg) : Value := .agg (dgCells d)

/-- Between the steps: the way at b, the diagnostic behind it, the result behind that. -/
structure DMid (B k b : Nat) (w0 : World) (f : Bs) (ln er : Int) (l : Bs) (w : World) : Prop where
  wr : Wr B k w l
  way : w.heap[b]? = some (.cells #[bndV 47 k, bndV 47 k, bndV 67 k] 90 (0, 0))
  dg : w.heap[b + 1]? = some (.cells #[.string (bs f), .int .i64 ln, .int .i64 er] 75 (0, 0))
  res : w.heap[b + 1 + 1]? = some (.cells #[.string ⟨#[]⟩, .int .i64 0, .int .i64 0] 75 (0, 0))
  step : WStep B k w0 w
theorem DMid.go {B k b : Nat} {w0 : World} {f : Bs} {ln er : Int} {l l' : Bs} {w w' : World} (M : DMid B k b w0 f ln er l w) (hk : k < b) (W : Wr B k w' l') (S : WStep B k w w') : DMid B k b w0 f ln er l' w' :=
  ⟨W, S.kept M.way (by omega) (by decide), S.kept M.dg (by omega) (by decide), S.kept M.res (by omega) (by decide), M.step.trans S⟩
theorem DMid.put {B k b : Nat} {w0 : World} {f f' : Bs} {ln er ln' er' : Int} {l : Bs} {w : World} (M : DMid B k b w0 f ln er l w) (hB : B ≤ w0.heap.size) (hb : b = w0.heap.size) (hk : k < b) (i : Nat) (u : Value) (hc : #[Value.string (bs f), .int .i64 ln, .int .i64 er].setIfInBounds i u = #[.string (bs f'), .int .i64 ln', .int .i64 er']) : DMid B k b w0 f' ln' er' l (w.setCell ⟨b + 1, i, none⟩ u) :=
  ⟨M.wr.setNew M.dg (by decide) (by omega) u, (Below.heap_setCell _ _ _ _ (by simp only; omega)).trans M.way, by rw [← hc]; exact set_at M.dg i u, (Below.heap_setCell _ _ _ _ (by simp only; omega)).trans M.res, M.step.set hB _ _ (by omega) u⟩

set_option maxHeartbeats 1600000 in
set_option maxRecDepth 20000 in
theorem wdiag_any (B k : Nat) (d : Dg) (l : Bs) (w : World) (h : Wr B k w l) (hl : l.length ≤ 800000) (hd : d.frag.length ≤ 1000) :
    Calls Tryz.prog 55 #[wayW k, dgVal d] w fun e w' => e = .returned (dgVal d) ∧ Wr B k w' (l ++ diagB d) ∧ WStep B k w w' := by
  obtain ⟨f, ln, er⟩ := d
  simp only at hd
  have hB : B ≤ w.heap.size := by have := h.1; have := h.lt; omega
  have hkl := h.lt
  have M : DMid B k w.heap.size w f ln er l (((w.alloc (.cells #[bndV 47 k, bndV 47 k, bndV 67 k] 90)).alloc (.cells #[.string (bs f), .int .i64 ln, .int .i64 er] 75)).alloc (.cells #[.string ⟨#[]⟩, .int .i64 0, .int .i64 0] 75)) := by
    refine ⟨((h.new _).new _).new _, ?_, ?_, ?_, (((WStep.refl B k w).alloc hB _).alloc hB _).alloc hB _⟩
    · rw [Below.heap_alloc _ _ _ (by simp; omega), Below.heap_alloc _ _ _ (by simp)]; exact heap_alloc_new _ _
    · rw [Below.heap_alloc _ _ _ (by simp)]
      have := heap_alloc_new (w.alloc (.cells #[bndV 47 k, bndV 47 k, bndV 67 k] 90)) (.cells #[.string (bs f), .int .i64 ln, .int .i64 er] 75)
      simpa using this
    · have := heap_alloc_new ((w.alloc (.cells #[bndV 47 k, bndV 47 k, bndV 67 k] 90)).alloc (.cells #[.string (bs f), .int .i64 ln, .int .i64 er] 75)) (.cells #[.string ⟨#[]⟩, .int .i64 0, .int .i64 0] 75)
      simpa using this
  have hfin : l ++ diagB ⟨f, ln, er⟩ = ((l ++ textB 1 f) ++ numB 2 ln) ++ numB 1 er := by unfold diagB; simp only [List.append_assoc]
  rw [hfin]
  clear hfin
  have hl1 : (l ++ textB 1 f).length ≤ 810000 := by rw [List.length_append, textB_len]; omega
  have hl2 : ((l ++ textB 1 f) ++ numB 2 ln).length ≤ 810002 := by rw [List.length_append, numB_len]; omega
  unfold dgVal dgCells wayW bndV
  simp only
  go_enter Tryz.func55, Tryz.ntmps55
  go_wp2_with fail
  unfold bndV at M
  generalize ((w.alloc (.cells #[.func (.func 47) #[.pointer (some ⟨k, 0, none⟩)] #[], .func (.func 47) #[.pointer (some ⟨k, 0, none⟩)] #[], .func (.func 67) #[.pointer (some ⟨k, 0, none⟩)] #[]] 90)).alloc (.cells #[.string (bs f), .int .i64 ln, .int .i64 er] 75)).alloc (.cells #[.string ⟨#[]⟩, .int .i64 0, .int .i64 0] 75) = w1 at *
  refine (wtext_any B k 1 f l w1 M.wr (by omega) (by omega) (by omega)).mono ?_
  rintro e w2 ⟨rfl, W2, b2, o2⟩
  have M2 := M.go hkl W2 ⟨b2, o2⟩
  clear M W2 b2 o2 h
  have a0 := cell_at M2.dg 0 _ rfl
  have g0 := froz_at M2.dg 0
  have M3 := M2.put hB rfl hkl 0 (.string (bs f)) rfl
  have p0 := cell_at M3.way 0 _ rfl
  have q1 := cell_at M3.dg 1 _ rfl
  unfold bndV at p0
  go_wp2_with fail
  generalize w2.setCell ⟨w.heap.size + 1, 0, none⟩ (.string (bs f)) = w3 at *
  refine (wnumber_any B k 2 ln _ w3 M3.wr (by omega) (by omega)).mono ?_
  rintro e w4 ⟨rfl, W4, b4, o4⟩
  have M4 := M3.go hkl W4 ⟨b4, o4⟩
  clear M3 M2 W4 b4 o4 a0 g0 p0 q1
  have a1 := cell_at M4.dg 1 _ rfl
  have g1 := froz_at M4.dg 1
  have M5 := M4.put hB rfl hkl 1 (.int .i64 ln) rfl
  have p0 := cell_at M5.way 0 _ rfl
  have p1 := cell_at M5.way 1 _ rfl
  have p2 := cell_at M5.way 2 _ rfl
  have q2 := cell_at M5.dg 2 _ rfl
  go_wp2_with fail
  generalize w4.setCell ⟨w.heap.size + 1, 1, none⟩ (.int .i64 ln) = w5 at *
  refine (werrno_any B k er _ w5 M5.wr (by omega)).mono ?_
  rintro e w6 ⟨rfl, W6, S6⟩
  have M6 := M5.go hkl W6 S6
  clear M4 M5 W6 S6 a1 g1 p0 p1 p2 q2
  have a2 := cell_at M6.dg 2 _ rfl
  have g2 := froz_at M6.dg 2
  have M7 := M6.put hB rfl hkl 2 (.int .i64 er) rfl
  have q0 := cell_at M7.dg 0 _ rfl
  have q1 := cell_at M7.dg 1 _ rfl
  have q2 := cell_at M7.dg 2 _ rfl
  have r0 := cell_at M7.res 0 _ rfl
  have r1 := cell_at M7.res 1 _ rfl
  have r2 := cell_at M7.res 2 _ rfl
  have s0 := froz_at M7.res 0
  have s1 := froz_at M7.res 1
  have s2 := froz_at M7.res 2
  go_wp2_with fail
  have R1 := set_at M7.res 0 (.string (bs f))
  have R2 := set_at R1 1 (.int .i64 ln)
  have R3 := set_at R2 2 (.int .i64 er)
  have z0 := cell_at R3 0 _ rfl
  have z1 := cell_at R3 1 _ rfl
  have z2 := cell_at R3 2 _ rfl
  have W8 := ((M7.wr.setNew (i := 0) M7.res (by decide) (by omega) (.string (bs f))).setNew (i := 1) R1 (by decide) (by omega) (.int .i64 ln)).setNew (i := 2) R2 (by decide) (by omega) (.int .i64 er)
  have S8 := ((M7.step.set hB (w.heap.size + 1 + 1) 0 (by omega) (.string (bs f))).set hB (w.heap.size + 1 + 1) 1 (by omega) (.int .i64 ln)).set hB (w.heap.size + 1 + 1) 2 (by omega) (.int .i64 er)
  exact bodyPost_ret (v := .agg #[.string (bs f), .int .i64 ln, .int .i64 er]) (by simp [results, Tryz.results55, go_sem, z0, z1, z2]) rfl ⟨rfl, W8, S8⟩

/-- The same where it is read. -/
structure DMidR (L k b : Nat) (w0 : World) (f : Bs) (ln er : Int) (s : Rs) (w : World) : Prop where
  rd : Rdf L k w s
  way : w.heap[b]? = some (.cells #[bndV 48 k, bndV 69 k, bndV 70 k] 90 (0, 0))
  dg : w.heap[b + 1]? = some (.cells #[.string (bs f), .int .i64 ln, .int .i64 er] 75 (0, 0))
  res : w.heap[b + 1 + 1]? = some (.cells #[.string ⟨#[]⟩, .int .i64 0, .int .i64 0] 75 (0, 0))
  step : But (fun i => i = k) w0 w
theorem DMidR.go {L k b : Nat} {w0 : World} {f : Bs} {ln er : Int} {s s' : Rs} {w w' : World} (M : DMidR L k b w0 f ln er s w) (hk : k < b) (W : Rdf L k w' s') (S : But (fun i => i = k) w w') : DMidR L k b w0 f ln er s' w' :=
  have lt : ∀ {j o}, w.heap[j]? = some o → j < w.heap.size := fun h => (Array.getElem?_eq_some_iff.1 h).1
  ⟨W, (S.block _ (lt M.way) (by omega)).trans M.way, (S.block _ (lt M.dg) (by omega)).trans M.dg, (S.block _ (lt M.res) (by omega)).trans M.res, M.step.trans S⟩
theorem But.setNew {p : Nat → Prop} {a b : World} (h : But p a b) (k i : Nat) (hk : a.heap.size ≤ k) (u : Value) : But p a (b.setCell ⟨k, i, none⟩ u) :=
  ⟨h.os, h.tape, h.output, by simp [World.setCell]; exact h.size, fun j hj hp => (Below.heap_setCell _ _ _ _ (by simp only; omega)).trans (h.block j hj hp)⟩
theorem Rdf.setNew {L k : Nat} {w : World} {s : Rs} (h : Rdf L k w s) (j i : Nat) (hj : k < j) (u : Value) : Rdf L k (w.setCell ⟨j, i, none⟩ u) s :=
  h.later ((Below.refl _ _).setCell (p := ⟨j, i, none⟩) (by have := h.1; simp only; omega) u) (Below.heap_setCell _ _ _ _ (by simp only; omega))
theorem DMidR.put {L k b : Nat} {w0 : World} {f f' : Bs} {ln er ln' er' : Int} {s : Rs} {w : World} (M : DMidR L k b w0 f ln er s w) (hb : b = w0.heap.size) (hk : k < b) (i : Nat) (u : Value) (hc : #[Value.string (bs f), .int .i64 ln, .int .i64 er].setIfInBounds i u = #[.string (bs f'), .int .i64 ln', .int .i64 er']) : DMidR L k b w0 f' ln' er' s (w.setCell ⟨b + 1, i, none⟩ u) :=
  ⟨M.rd.setNew _ _ (by omega) u, (Below.heap_setCell _ _ _ _ (by simp only; omega)).trans M.way, by rw [← hc]; exact set_at M.dg i u, (Below.heap_setCell _ _ _ _ (by simp only; omega)).trans M.res, M.step.setNew _ _ (by omega) u⟩
theorem Just.but {k : Nat} {a b : World} (h : Just k a b) : But (fun i => i = k) a b := ⟨h.below.os, h.below.tape, h.below.output, h.below.size, fun i _ hi => h.other i hi⟩

set_option maxHeartbeats 1600000 in
set_option maxRecDepth 20000 in
theorem rdiag_any (L k : Nat) (s : Rs) (w : World) (h : Rdf L k w s) :
    Calls Tryz.prog 55 #[wayR k, dgVal ⟨[], 0, 0⟩] w fun e w' => e = .returned (dgVal (diagR s).1) ∧ Rdf L k w' (diagR s).2 ∧ But (fun i => i = k) w w' := by
  have hkl := h.lt
  have hL := h.1
  have M : DMidR L k w.heap.size w [] 0 0 s (((w.alloc (.cells #[bndV 48 k, bndV 69 k, bndV 70 k] 90)).alloc (.cells #[.string (bs []), .int .i64 0, .int .i64 0] 75)).alloc (.cells #[.string ⟨#[]⟩, .int .i64 0, .int .i64 0] 75)) := by
    have R1 := h.later (w' := w.alloc (.cells #[bndV 48 k, bndV 69 k, bndV 70 k] 90)) ((below_new w _).mono (by omega)) (Below.heap_alloc _ _ _ hkl)
    have R2 := R1.later (w' := (w.alloc (.cells #[bndV 48 k, bndV 69 k, bndV 70 k] 90)).alloc (.cells #[.string (bs []), .int .i64 0, .int .i64 0] 75)) ((below_new _ _).mono (by simp; omega)) (Below.heap_alloc _ _ _ R1.lt)
    refine ⟨R2.later ((below_new _ _).mono (by simp; omega)) (Below.heap_alloc _ _ _ R2.lt), ?_, ?_, ?_, (((But.refl _ w).alloc _).alloc _).alloc _⟩
    · rw [Below.heap_alloc _ _ _ (by simp; omega), Below.heap_alloc _ _ _ (by simp)]; exact heap_alloc_new _ _
    · rw [Below.heap_alloc _ _ _ (by simp)]
      have := heap_alloc_new (w.alloc (.cells #[bndV 48 k, bndV 69 k, bndV 70 k] 90)) (.cells #[.string (bs []), .int .i64 0, .int .i64 0] 75)
      simpa using this
    · have := heap_alloc_new ((w.alloc (.cells #[bndV 48 k, bndV 69 k, bndV 70 k] 90)).alloc (.cells #[.string (bs []), .int .i64 0, .int .i64 0] 75)) (.cells #[.string ⟨#[]⟩, .int .i64 0, .int .i64 0] 75)
      simpa using this
  have T1 := fun w1 (h : Rdf L k w1 s) => rtext_any L k 1 (bs []) s w1 h (by omega)
  have T2 := fun w1 (h : Rdf L k w1 (textR 1 s).2) => rnumber_any L k 2 0 (textR 1 s).2 w1 h (by omega)
  have T3 := fun w1 (h : Rdf L k w1 (numP 2 (textR 1 s).2).2) => rerrno_any L k 0 (numP 2 (textR 1 s).2).2 w1 h
  unfold diagR
  simp only
  generalize textR 1 s = r1 at *
  obtain ⟨f, s1⟩ := r1
  simp only at *
  generalize numP 2 s1 = r2 at *
  obtain ⟨ln, s2⟩ := r2
  simp only at *
  generalize numP 1 s2 = r3 at *
  obtain ⟨er, s3⟩ := r3
  simp only at *
  unfold dgVal dgCells wayR bndV
  simp only
  go_enter Tryz.func55, Tryz.ntmps55
  go_wp2_with fail
  unfold bndV at M
  generalize ((w.alloc (.cells #[.func (.func 48) #[.pointer (some ⟨k, 0, none⟩)] #[], .func (.func 69) #[.pointer (some ⟨k, 0, none⟩)] #[], .func (.func 70) #[.pointer (some ⟨k, 0, none⟩)] #[]] 90)).alloc (.cells #[.string (bs []), .int .i64 0, .int .i64 0] 75)).alloc (.cells #[.string ⟨#[]⟩, .int .i64 0, .int .i64 0] 75) = w1 at *
  refine (T1 w1 M.rd).mono ?_
  rintro e w2 ⟨rfl, W2, j2⟩
  have M2 := M.go hkl W2 j2.but
  clear M W2 j2 h T1
  have a0 := cell_at M2.dg 0 _ rfl
  have g0 := froz_at M2.dg 0
  have M3 := M2.put rfl hkl 0 (.string (bs f)) rfl
  have p0 := cell_at M3.way 0 _ rfl
  have q1 := cell_at M3.dg 1 _ rfl
  unfold bndV at p0
  go_wp2_with fail
  generalize w2.setCell ⟨w.heap.size + 1, 0, none⟩ (.string (bs f)) = w3 at *
  refine (T2 w3 M3.rd).mono ?_
  rintro e w4 ⟨rfl, W4, j4⟩
  have M4 := M3.go hkl W4 j4.but
  clear M3 M2 W4 j4 a0 g0 p0 q1 T2
  have a1 := cell_at M4.dg 1 _ rfl
  have g1 := froz_at M4.dg 1
  have M5 := M4.put rfl hkl 1 (.int .i64 ln) rfl
  have p0 := cell_at M5.way 0 _ rfl
  have p1 := cell_at M5.way 1 _ rfl
  have p2 := cell_at M5.way 2 _ rfl
  have q2 := cell_at M5.dg 2 _ rfl
  go_wp2_with fail
  generalize w4.setCell ⟨w.heap.size + 1, 1, none⟩ (.int .i64 ln) = w5 at *
  refine (T3 w5 M5.rd).mono ?_
  rintro e w6 ⟨rfl, W6, S6⟩
  have M6 := M5.go hkl W6 S6
  clear M4 M5 W6 S6 a1 g1 p0 p1 p2 q2 T3
  have a2 := cell_at M6.dg 2 _ rfl
  have g2 := froz_at M6.dg 2
  have M7 := M6.put rfl hkl 2 (.int .i64 er) rfl
  have q0 := cell_at M7.dg 0 _ rfl
  have q1 := cell_at M7.dg 1 _ rfl
  have q2 := cell_at M7.dg 2 _ rfl
  have r0 := cell_at M7.res 0 _ rfl
  have r1 := cell_at M7.res 1 _ rfl
  have r2 := cell_at M7.res 2 _ rfl
  have s0 := froz_at M7.res 0
  have s1 := froz_at M7.res 1
  have s2 := froz_at M7.res 2
  go_wp2_with fail
  have R1 := set_at M7.res 0 (.string (bs f))
  have R2 := set_at R1 1 (.int .i64 ln)
  have R3 := set_at R2 2 (.int .i64 er)
  have z0 := cell_at R3 0 _ rfl
  have z1 := cell_at R3 1 _ rfl
  have z2 := cell_at R3 2 _ rfl
  have W8 := ((M7.rd.setNew (w.heap.size + 1 + 1) 0 (by omega) (.string (bs f))).setNew (w.heap.size + 1 + 1) 1 (by omega) (.int .i64 ln)).setNew (w.heap.size + 1 + 1) 2 (by omega) (.int .i64 er)
  have S8 := ((M7.step.setNew (w.heap.size + 1 + 1) 0 (by omega) (.string (bs f))).setNew (w.heap.size + 1 + 1) 1 (by omega) (.int .i64 ln)).setNew (w.heap.size + 1 + 1) 2 (by omega) (.int .i64 er)
  exact bodyPost_ret (v := .agg #[.string (bs f), .int .i64 ln, .int .i64 er]) (by simp [results, Tryz.results55, go_sem, z0, z1, z2]) rfl ⟨rfl, W8, S8⟩
end Go.Proofs.YtkaclahcpmogaaaGreatDoor
