/- The contract of coded: an instruction's bits, or that it may not be. -/
import Derived.Test.YtagplfochalidabDoorRows2
import Derived.Test.YtagplfochalidabDoorKindOf
namespace Go.Proofs.YtagplfochalidabDoor
open Go.ChangeShapes Go.WideShapes Go.ChangeAt Go.RowKit
open Go.Sort (grow)
open Plain
set_option linter.unusedVariables false
set_option linter.unusedSimpArgs false

/-- The bits of operands fs of kinds ks, laid over acc. -/
def codeGo : List K → List Int → Int → Int × Bool
  | k :: ks, f :: fs, acc => if (k.code f).2 = true then codeGo ks fs (bits .or .u32 acc (k.code f).1) else (0, false)
  | _, _, acc => (acc, true)

/-- An instruction's bits; false: it may not be. -/
def codedP (op : Int) (fs : List Int) : Int × Bool := if isP op = true ∧ fs.length = (rowP op).ks.length then codeGo (rowP op).ks fs (rowP op).bits else (0, false)

/-- The slice v holds the numbers fs. -/
def SliceIs (w : World) (v : Value) (fs : List Int) : Prop :=
  ∃ p cap, v = .slice p fs.length cap ∧ (fs ≠ [] → ∃ b o, p = some ⟨b, o, none⟩ ∧ ∀ i x, fs[i]? = some x → w.cell? ⟨b, o + i, none⟩ = some (.int .i64 x))

theorem SliceIs.later {w w' : World} {v : Value} {fs : List Int} (h : SliceIs w v fs) (hb : Below w.heap.size w w') : SliceIs w' v fs := by
  obtain ⟨p, cap, rfl, h⟩ := h
  refine ⟨p, cap, rfl, fun hn => ?_⟩
  obtain ⟨b, o, e, h2⟩ := h hn
  exact ⟨b, o, e, fun i x hx => kept_cell hb (h2 i x hx)⟩

def InRange (fs : List Int) : Prop := ∀ x ∈ fs, -9223372036854775808 ≤ x ∧ x ≤ 9223372036854775807

theorem K.lit (k : K) : ∃ p0 q0 l0 s0 p1 q1 l1 s1 p2 q2 l2 s2 : Int, k.pl = plV p0 q0 l0 s0 p1 q1 l1 s1 p2 q2 l2 s2 ∧
    k.val = .agg #[.int .i64 p0, .int .i64 q0, .int .i64 l0, .int .i64 s0, .int .i64 p1, .int .i64 q1, .int .i64 l1, .int .i64 s1, .int .i64 p2, .int .i64 q2, .int .i64 l2, .int .i64 s2, .func (.func k.codeF) #[] #[], .func (.func k.tellF) #[] #[]] := by
  cases k <;> exact ⟨_, _, _, _, _, _, _, _, _, _, _, _, rfl, rfl⟩

theorem enter31 (args : Array Value) (w : World) : (callFunc 37 args).run Tryd.prog w = .ok (.enter 37 args) w := by simp [go_sem, Tryd.func37]
theorem enter33 (args : Array Value) (w : World) : (callFunc 39 args).run Tryd.prog w = .ok (.enter 39 args) w := by simp [go_sem, Tryd.func39]
theorem enter35 (args : Array Value) (w : World) : (callFunc 41 args).run Tryd.prog w = .ok (.enter 41 args) w := by simp [go_sem, Tryd.func41]
theorem enter37 (args : Array Value) (w : World) : (callFunc 43 args).run Tryd.prog w = .ok (.enter 43 args) w := by simp [go_sem, Tryd.func43]
theorem enter39 (args : Array Value) (w : World) : (callFunc 45 args).run Tryd.prog w = .ok (.enter 45 args) w := by simp [go_sem, Tryd.func45]
theorem enter32 (args : Array Value) (w : World) : (callFunc 38 args).run Tryd.prog w = .ok (.enter 38 args) w := by simp [go_sem, Tryd.func38]
theorem enter34 (args : Array Value) (w : World) : (callFunc 40 args).run Tryd.prog w = .ok (.enter 40 args) w := by simp [go_sem, Tryd.func40]
theorem enter36 (args : Array Value) (w : World) : (callFunc 42 args).run Tryd.prog w = .ok (.enter 42 args) w := by simp [go_sem, Tryd.func42]
theorem enter38 (args : Array Value) (w : World) : (callFunc 44 args).run Tryd.prog w = .ok (.enter 44 args) w := by simp [go_sem, Tryd.func44]
theorem enter40 (args : Array Value) (w : World) : (callFunc 46 args).run Tryd.prog w = .ok (.enter 46 args) w := by simp [go_sem, Tryd.func46]

theorem K.entersCode (k : K) (args : Array Value) (w : World) : (callFunc k.codeF args).run Tryd.prog w = .ok (.enter k.codeF args) w := by
  cases k
  · exact enter31 _ _
  · exact enter31 _ _
  · exact enter33 _ _
  · exact enter33 _ _
  · exact enter33 _ _
  · exact enter33 _ _
  · exact enter33 _ _
  · exact enter33 _ _
  · exact enter33 _ _
  · exact enter33 _ _
  · exact enter35 _ _
  · exact enter33 _ _
  · exact enter33 _ _
  · exact enter33 _ _
  · exact enter35 _ _
  · exact enter37 _ _
  · exact enter39 _ _
  · exact enter33 _ _
  · exact enter33 _ _
  · exact enter35 _ _
  · exact enter35 _ _
theorem K.entersTell (k : K) (args : Array Value) (w : World) : (callFunc k.tellF args).run Tryd.prog w = .ok (.enter k.tellF args) w := by
  cases k
  · exact enter32 _ _
  · exact enter32 _ _
  · exact enter34 _ _
  · exact enter34 _ _
  · exact enter34 _ _
  · exact enter34 _ _
  · exact enter34 _ _
  · exact enter34 _ _
  · exact enter34 _ _
  · exact enter34 _ _
  · exact enter36 _ _
  · exact enter34 _ _
  · exact enter34 _ _
  · exact enter34 _ _
  · exact enter36 _ _
  · exact enter38 _ _
  · exact enter40 _ _
  · exact enter34 _ _
  · exact enter34 _ _
  · exact enter36 _ _
  · exact enter36 _ _

theorem isP_out {op : Int} {fs : List Int} (h : isP op = false) : codedP op fs = (0, false) := by unfold codedP; rw [if_neg (by simp [h])]

theorem kept_alloc {w : World} {o : Obj} {a : Addr} {v : Value} (h : w.cell? a = some v) : (w.alloc o).cell? a = some v := kept_cell ((Below.refl _ _).alloc (Nat.le_refl _) _) h

theorem fields_of (op : Int) (w : World) (T : TabOp op w) :
    Calls Tryd.prog 22 #[.string ⟨(rowP op).kinds.toArray⟩] w fun e w' => ∃ H, e = .returned (.slice (some ⟨H, 0, none⟩) (rowP op).ks.length (rowP op).ks.length) ∧ Below w.heap.size w w' ∧ w.heap.size ≤ H ∧
      ∀ i k, (rowP op).ks[i]? = some k → w'.cell? ⟨H, i, none⟩ = some (.string ⟨k.name.toArray⟩) := by
  refine (fields_any op w T).mono ?_
  rintro e w' ⟨rfl, rfl⟩
  refine ⟨_, rfl, (Below.refl _ _).alloc (Nat.le_refl _) _, Nat.le_refl _, fun i k h => ?_⟩
  exact new_cell _ i _ (by simp [h])

theorem codeGo_step {ks : List K} {fs : List Int} {a : Int} {j : Nat} {k : K} {f : Int} (hk : ks[j]? = some k) (hf : fs[j]? = some f) :
    codeGo (ks.drop j) (fs.drop j) a = if (k.code f).2 = true then codeGo (ks.drop (j + 1)) (fs.drop (j + 1)) (bits .or .u32 a (k.code f).1) else (0, false) := by
  obtain ⟨h1, rfl⟩ := List.getElem?_eq_some_iff.1 hk
  obtain ⟨h2, rfl⟩ := List.getElem?_eq_some_iff.1 hf
  rw [List.drop_eq_getElem_cons h1, List.drop_eq_getElem_cons h2]
  rfl

theorem codeGo_end {ks : List K} {fs : List Int} {a : Int} {j : Nat} (h : ks.length ≤ j) : codeGo (ks.drop j) (fs.drop j) a = (a, true) := by
  rw [List.drop_eq_nil_of_le h]
  rfl

set_option maxHeartbeats 800000 in
set_option maxRecDepth 20000 in
theorem coded_any (op : Int) (sl : Value) (fs : List Int) (w : World) (T : TabOp op w) (hF : SliceIs w sl fs) (hR : InRange fs) :
    Calls Tryd.prog 29 #[.agg #[.int .i64 op, sl]] w fun e w' => e = .returned (two (codedP op fs)) ∧ Below w.heap.size w w' := by
  obtain ⟨p, cap, rfl, hF⟩ := hF
  have hb0 : Below w.heap.size w (w.alloc (.cells #[.int .i64 op, .slice p fs.length cap] 42)) := (Below.refl _ _).alloc (Nat.le_refl _) _
  have cA := new_cell (w := w) (t := 42) #[.int .i64 op, .slice p fs.length cap] 0 (.int .i64 op) rfl
  have cB := new_cell (w := w) (t := 42) #[.int .i64 op, .slice p fs.length cap] 1 (.slice p fs.length cap) rfl
  have C0 := rowOf_any op _ (T.later hb0)
  unfold R.val at C0
  cases hi : isP op with
  | false =>
    have e := isP_out (fs := fs) hi
    rw [hi] at C0
    clear hF hR
    go_enter Tryd.func29, Tryd.ntmps29
    go_wp2_with (go_at_call 27; refine C0.mono ?_; rintro e w' ⟨rfl, hw'⟩)
    go_ret2
    exact ⟨by simp [two, e], (hb0.trans (hw'.mono hb0.size)).alloc (Nat.le_trans hb0.size hw'.size) _⟩
  | true =>
    rw [hi] at C0
    by_cases hl : fs.length = (rowP op).ks.length
    rotate_left 1
    · have e : codedP op fs = (0, false) := by unfold codedP; rw [if_neg (fun h => hl h.2)]
      have F0 := fun W T' => fields_of op W T'
      rw [e]
      clear e hi hF hR cA
      generalize rowP op = r at *
      obtain ⟨nm, bt, ks⟩ := r
      simp only [R.kinds] at C0 F0
      simp only at hl F0 C0
      generalize joined ks = kt at *
      have hl2 : decide ((fs.length : Int) = (ks.length : Int)) = false := by simp; omega
      go_enter Tryd.func29, Tryd.ntmps29
      go_wp2_with (first | (go_at_call 27; refine C0.mono ?_; rintro e w1 ⟨rfl, hw1⟩) | (go_at_call 22; refine (F0 _ (T.later ((hb0.trans (hw1.mono hb0.size)).alloc (Nat.le_trans hb0.size hw1.size) _))).mono ?_; rintro e w2 ⟨HH, rfl, hw2, hH, hN⟩; have d2 := kept_cell hw2 (kept_alloc (kept_cell hw1 cB)); have hb2 := ((hb0.trans (hw1.mono hb0.size)).alloc (Nat.le_trans hb0.size hw1.size) (.cells #[.string ⟨nm.toArray⟩, .int .u32 bt, .string ⟨kt.toArray⟩] 59)).trans (hw2.mono (Nat.le_trans (Nat.le_trans hb0.size hw1.size) (by simp)))))
      go_ret2
      exact ⟨rfl, hb2⟩
    have eP : codedP op fs = codeGo (rowP op).ks fs (rowP op).bits := by unfold codedP; rw [if_pos ⟨hi, hl⟩]
    have F0 := fun W T' => fields_of op W T'
    obtain ⟨_, _, _, hn3, bb0, bb1⟩ := rows_fields _ (rowP_mem op)
    rw [eP]
    clear eP hi
    generalize rowP op = r at *
    rw [hl] at hb0 cA cB C0 ⊢
    obtain ⟨nm, bt, ks⟩ := r
    simp only [R.kinds] at C0 F0
    simp only at hl bb0 bb1 hn3 F0 C0 hb0 cA cB ⊢
    generalize joined ks = kt at *
    go_enter Tryd.func29, Tryd.ntmps29
    go_wp2_with (first | (go_at_call 27; refine C0.mono ?_; rintro e w1 ⟨rfl, hw1⟩) | (go_at_call 22; refine (F0 _ (T.later ((hb0.trans (hw1.mono hb0.size)).alloc (Nat.le_trans hb0.size hw1.size) _))).mono ?_; rintro e w2 ⟨HH, rfl, hw2, hH, hN⟩; have d1 := kept_cell hw2 (new_cell (w := w1) (t := 59) #[.string ⟨nm.toArray⟩, .int .u32 bt, .string ⟨kt.toArray⟩] 1 (.int .u32 bt) rfl); have d2 := kept_cell hw2 (kept_alloc (kept_cell hw1 cB)); have hb2 := ((hb0.trans (hw1.mono hb0.size)).alloc (Nat.le_trans hb0.size hw1.size) (.cells #[.string ⟨nm.toArray⟩, .int .u32 bt, .string ⟨kt.toArray⟩] 59)).trans (hw2.mono (Nat.le_trans (Nat.le_trans hb0.size hw1.size) (by simp)))))
    clear C0 F0 cA cB hw1 hw2 hb0 hH d1
    go_loopw [7, 34] (fun acc i wr => ∃ (j : Nat) (a : Int), j ≤ ks.length ∧ i = .int .i64 j ∧ acc = .int .u32 a ∧ Hid (codeGo (ks.drop j) (fs.drop j) a = codeGo ks fs bt) ∧ Below w2.heap.size w2 wr) (fun _ i _ => ks.length - (intOf i).toNat)
    case atStart => exact ⟨0, bt, by omega, rfl, rfl, rfl, Below.refl _ _⟩
    case round =>
      obtain ⟨j, a, hj, rfl, rfl, hc, hbr⟩ := hrel
      by_cases hlt : j < ks.length
      · obtain ⟨k, hk⟩ : ∃ k, ks[j]? = some k := ⟨_, List.getElem?_eq_getElem hlt⟩
        obtain ⟨f, hf⟩ : ∃ f, fs[j]? = some f := ⟨_, List.getElem?_eq_getElem (by omega)⟩
        obtain ⟨b, o, rfl, hF2⟩ := hF (by rintro rfl; simp at hf)
        have hstep : Hid (codeGo (ks.drop j) (fs.drop j) a = _) := codeGo_step (a := a) hk hf
        obtain ⟨fr0, fr1⟩ := hR f (List.mem_of_getElem? hf)
        have c1 := kept_cell hbr (hN j k hk)
        have c2 := kept_cell hbr d2
        have c3 := kept_cell hbr (kept_cell hb2 (hF2 j f hf))
        obtain ⟨p0, q0, l0, s0, p1, q1, l1, s1, p2, q2, l2, s2, hpl, hval⟩ := k.lit
        have Kc := fun W => kindOf_any k W
        have Cc := fun W => code_any k f fr0 fr1 W
        have En := k.entersCode
        rw [hval] at Kc
        rw [hpl] at Cc
        unfold plV two at Cc
        generalize hcd : k.code f = cd at *
        obtain ⟨c, is⟩ := cd
        simp only at hstep Cc
        clear hval hpl hk hf hF hN hF2 hR d2 hcd fr0 fr1
        generalize k.name.toArray = kn at *
        generalize k.codeF = cf at *
        generalize k.tellF = tf at *
        go_wp2_with (go_at_call 28; refine (Kc _).mono ?_; rintro e w3 ⟨rfl, hw3⟩)
        have c0 := fun i x h => new_cell (w := w3) (t := 69) #[.int .i64 p0, .int .i64 q0, .int .i64 l0, .int .i64 s0, .int .i64 p1, .int .i64 q1, .int .i64 l1, .int .i64 s1, .int .i64 p2, .int .i64 q2, .int .i64 l2, .int .i64 s2, .func (.func cf) #[] #[], .func (.func tf) #[] #[]] i x h
        have c4 := kept_alloc (o := .cells #[.int .i64 p0, .int .i64 q0, .int .i64 l0, .int .i64 s0, .int .i64 p1, .int .i64 q1, .int .i64 l1, .int .i64 s1, .int .i64 p2, .int .i64 q2, .int .i64 l2, .int .i64 s2, .func (.func cf) #[] #[], .func (.func tf) #[] #[]] 69) (kept_cell hw3 c2)
        have c5 := kept_alloc (o := .cells #[.int .i64 p0, .int .i64 q0, .int .i64 l0, .int .i64 s0, .int .i64 p1, .int .i64 q1, .int .i64 l1, .int .i64 s1, .int .i64 p2, .int .i64 q2, .int .i64 l2, .int .i64 s2, .func (.func cf) #[] #[], .func (.func tf) #[] #[]] 69) (kept_cell hw3 c3)
        have hb4 := (hbr.trans (hw3.mono hbr.size)).alloc (Nat.le_trans hbr.size hw3.size) (.cells #[.int .i64 p0, .int .i64 q0, .int .i64 l0, .int .i64 s0, .int .i64 p1, .int .i64 q1, .int .i64 l1, .int .i64 s1, .int .i64 p2, .int .i64 q2, .int .i64 l2, .int .i64 s2, .func (.func cf) #[] #[], .func (.func tf) #[] #[]] 69)
        generalize w3.alloc (.cells #[.int .i64 p0, .int .i64 q0, .int .i64 l0, .int .i64 s0, .int .i64 p1, .int .i64 q1, .int .i64 l1, .int .i64 s1, .int .i64 p2, .int .i64 q2, .int .i64 l2, .int .i64 s2, .func (.func cf) #[] #[], .func (.func tf) #[] #[]] 69) = W4 at c0 c4 c5 hb4 ⊢
        have r0 := cell_regrown (c0 0 (.int .i64 p0) rfl)
        have r1 := cell_regrown (c0 1 (.int .i64 q0) rfl)
        have r2 := cell_regrown (c0 2 (.int .i64 l0) rfl)
        have r3 := cell_regrown (c0 3 (.int .i64 s0) rfl)
        have r4 := cell_regrown (c0 4 (.int .i64 p1) rfl)
        have r5 := cell_regrown (c0 5 (.int .i64 q1) rfl)
        have r6 := cell_regrown (c0 6 (.int .i64 l1) rfl)
        have r7 := cell_regrown (c0 7 (.int .i64 s1) rfl)
        have r8 := cell_regrown (c0 8 (.int .i64 p2) rfl)
        have r9 := cell_regrown (c0 9 (.int .i64 q2) rfl)
        have r10 := cell_regrown (c0 10 (.int .i64 l2) rfl)
        have r11 := cell_regrown (c0 11 (.int .i64 s2) rfl)
        have r12 := cell_regrown (c0 12 (.func (.func cf) #[] #[]) rfl)
        have r13 := cell_regrown c4
        have r14 := cell_regrown c5
        have Q0 := fun d os => calls_reg (W := W4) Cc d os
        clear c0 c4 c5 Cc Kc c1 c2 c3 hw3 hbr
        refine wp_region_quiet_below (by kernel_rfl) (by kernel_rfl) ?_
        repeat (quiet_step (first | with_reducible exact Q0 _ _))
        refine wpQuiet_nil ?_
        intro _ hw'
        obtain ⟨⟨dq, osq⟩, hw''⟩ := hw'
        subst hw''
        have hb5 := hb4.trans ((below_regrown W4 dq osq).mono hb4.size)
        clear r0 r1 r2 r3 r4 r5 r6 r7 r8 r9 r10 r11 r12 r13 r14 Q0 En hb4
        generalize grow (redrawn W4 dq) osq = W5 at hb5 ⊢
        cases is with
        | true =>
          go_wp2
          go_roundw
          case rel => exact ⟨j + 1, _, by omega, by go_num, rfl, by have := hstep.out; rw [if_pos rfl] at this; exact this.symm.trans hc.out, hb5⟩
          case measure => simp [intOf]; omega
        | false =>
          go_wp2
          go_ret2
          exact ⟨by have := hstep.out; rw [if_neg (by simp)] at this; rw [← hc.out, this]; rfl, hb2.trans (hb5.mono hb2.size)⟩
      · have hend := codeGo_end (ks := ks) (fs := fs) (a := a) (j := j) (by omega)
        have hc2 := hc.out
        rw [hend] at hc2
        have hc2 : Hid ((a, true) = codeGo ks fs bt) := hc2
        clear hend hc
        go_wp2
        go_ret2
        exact ⟨by rw [← hc2.out]; rfl, hb2.trans (hbr.mono hb2.size)⟩
end Go.Proofs.YtagplfochalidabDoor
