/- The reference's responses as bytes, whole. -/
import Derived.Test.YtkaclahcpmogaaaGreatDoorFrAD
namespace Go.Proofs.YtkaclahcpmogaaaGreatDoor
open Go.ChangeShapes Go.WideShapes Go.ChangeAt Go.RowKit
open Orders
set_option linter.unusedVariables false
set_option linter.unusedSimpArgs false

def EA (k : Nat) (e : Int) (t : Bs) (iv : Value) (im : Bs) : Nat → Value
  | 0 => .pointer (some ⟨k, 0, none⟩)
  | 1 => .int .i64 e
  | 3 => .pointer (some ⟨k, 1, none⟩)
  | 4 => .string (bs t)
  | 6 => .pointer (some ⟨k, 2, none⟩)
  | 7 => iv
  | 8 => .string (bs im)
  | _ => undef
def EB (k : Nat) (v0 : Value) (f : Bs) (ln er : Int) : Nat → Value
  | 0 => v0
  | 1 => .pointer (some ⟨k, 0, none⟩)
  | 2 => .string (bs f)
  | 4 => .pointer (some ⟨k, 1, none⟩)
  | 5 => .int .i64 ln
  | 7 => .pointer (some ⟨k, 2, none⟩)
  | 8 => .int .i64 er
  | _ => undef

set_option maxHeartbeats 3200000 in
set_option maxRecDepth 20000 in
theorem rresp_any (r : Rp) (ip : Option Addr) (ic : Nat) (dv : Value) (w : World) (hr : rpRight r = true) (hI : BytesAt w.heap.size w (.slice ip r.image.length ic) r.image) (hD : DiagsAt w.heap.size w dv r.diags) :
    Calls Tryz.prog 20 #[.agg #[.int .i64 r.e, .string (bs r.text), .slice ip r.image.length ic, dv]] w fun e w' => ∃ v, e = .returned v ∧ Own w.heap.size w' v (headed 3 (respB r)) ∧ Below w.heap.size w w' := by
  obtain ⟨ht6, hi4, hd5, _, hf12⟩ := rp_sizes hr
  obtain ⟨e, t, im, ds⟩ := r
  simp only at hI hD ht6 hi4 hd5 hf12 ⊢
  obtain ⟨b1, hb1⟩ : ∃ b1, (numB 1 e ++ textB 2 t) ++ textB 2 im = b1 := ⟨_, rfl⟩
  have hl1 : b1.length ≤ 4701 := by rw [← hb1]; simp only [List.length_append, numB_len, textB_len]; omega
  obtain ⟨hd, hhd⟩ : ∃ hd, headed 3 (respB ⟨e, t, im, ds⟩) = hd := ⟨_, rfl⟩
  have hbody : respB ⟨e, t, im, ds⟩ = (b1 ++ numB 2 ds.length) ++ ds.flatMap diagB := by
    rw [← hb1]
    unfold respB
    simp only [List.append_assoc]
  rw [hhd]
  unfold headed at hhd
  rw [hbody] at hhd
  replace hhd : Hid _ := hhd
  clear hbody hr
  obtain ⟨dp, dc, rfl, hdc, hdm, hdn, hdcl⟩ := id hD
  have hb0 := below_new w (.cells #[.int .i64 e, .string (bs t), .slice ip im.length ic, .slice dp ds.length dc] 42)
  have L0 := heap_alloc_new w (.cells #[.int .i64 e, .string (bs t), .slice ip im.length ic, .slice dp ds.length dc] 42)
  have hz : (w.alloc (.cells #[.int .i64 e, .string (bs t), .slice ip im.length ic, .slice dp ds.length dc] 42)).heap.size = w.heap.size + 1 := by simp
  have hI0 := hI.later hb0
  have hD0 := hD.later hb0
  clear hI hD hdcl
  go_enter Tryz.func20, Tryz.ntmps20
  go_upto_region 1 with fail
  generalize w.alloc (.cells #[.int .i64 e, .string (bs t), .slice ip im.length ic, .slice dp ds.length dc] 42) = w1 at *
  obtain ⟨k, hk⟩ : ∃ k, w.heap.size = k := ⟨_, rfl⟩
  rw [hk] at L0 hz hb0 hI0 hD0 ⊢
  refine region_inv2 (by kernel_rfl) (fun u => { tmps := #[Value.agg #[Value.int IntKind.i64 e, Value.string (bs t), Value.slice ip (List.length im) ic, Value.slice dp ds.length dc], Value.pointer (some { block := k, off := 0 }), Value.slice none 0 0, u 10, undef, undef, u 0, u 1, u 2, u 3, u 4, u 5, u 6, u 7, u 8, u 9, undef, undef, undef, undef, undef, undef, undef, undef, undef, undef, undef, undef, undef, undef, undef, undef, undef, undef, undef, undef, undef, undef, undef, undef, undef, undef, undef, undef, undef, undef, undef, undef], defers := [] }) (CI (k + 1) 2 5 9 w1 (EA k e t (.slice ip im.length ic) im) (.slice none 0 0) undef [] (numB 1 e) (numB 1 e ++ textB 2 t) ((numB 1 e ++ textB 2 t) ++ textB 2 im)) (by kernel_rfl) (fun _ => undef) ⟨fun _ _ h => (by cases h), ⟨rfl, rfl, rfl, Nat.le_refl _, fun _ _ => rfl⟩, fun _ _ _ _ h => h, fun _ => rfl, fun _ => own_nil _ _, fun h => (by cases h), fun h => (by cases h), fun h => (by cases h), fun h => (by cases h)⟩ ?_ ?_
  · intro i o L u v ho hL hp hcl hI
    have hi : i < 11 := by
      by_cases hi : i < 11
      · exact hi
      · rw [Array.getElem?_eq_none (by simp; omega)] at ho; cases ho
    match i, hi with
    | 0, _ =>
      cases ho
      exact step_value rfl rfl (run_fldR0 _ _ _ _ k rfl rfl) ⟨_, rfl, hI.put 0 rfl rfl⟩
    | 1, _ =>
      cases ho
      have hLv : v.heap[k]? = _ := (hI.blw.block k (by omega)).trans L0
      exact step_value rfl rfl (run_ldErr _ _ _ _ ⟨k, 0, none⟩ e rfl (hI.val 0 rfl (hp ⟨0, Ground.data⟩ (by simp) rfl)) (cell_at hLv 0 _ rfl)) ⟨_, rfl, hI.put 1 rfl rfl⟩
    | 2, _ =>
      cases ho
      have hBv : k + 1 ≤ v.heap.size := by have := hI.blw.size; omega
      have h5 : L 5 = false := by
          cases h : L 5 with
          | false => rfl
          | true => exact absurd (hL.symm.trans (hcl 5 _ rfl h ⟨2, Ground.data⟩ (by simp) rfl)) (by decide)
      have h9 : L 9 = false := by
          cases h : L 9 with
          | false => rfl
          | true => exact absurd (h5.symm.trans (hcl 9 _ rfl h ⟨5, Ground.data⟩ (by simp) rfl)) (by decide)
      exact step_called rfl rfl (run_num3 _ _ _ _ _ _ (.slice none 0 0) (.int .i64 e) (.int .i64 ((1 : Nat) : Int)) _ rfl rfl (hI.val 1 rfl (hp ⟨1, Ground.data⟩ (by simp) rfl)) rfl) (rnum_keep (k + 1) 1 (.slice none 0 0) e [] v (own_nil _ _) hBv (by omega) (by simp)) (fun _ _ hR => ⟨_, rfl, CI.stepA (by decide) (by decide) (by decide) (by decide) (by decide) (by decide) hI h5 h9 hR.1 hR.2.1 hR.2.2⟩)
    | 3, _ =>
      cases ho
      exact step_value rfl rfl (run_fldR1 _ _ _ _ k rfl rfl) ⟨_, rfl, hI.put 3 rfl rfl⟩
    | 4, _ =>
      cases ho
      have hLv : v.heap[k]? = _ := (hI.blw.block k (by omega)).trans L0
      exact step_value rfl rfl (run_ldText _ _ _ _ ⟨k, 1, none⟩ (bs t) rfl (hI.val 3 rfl (hp ⟨3, Ground.data⟩ (by simp) rfl)) (cell_at hLv 1 _ rfl)) ⟨_, rfl, hI.put 4 rfl rfl⟩
    | 5, _ =>
      cases ho
      have hBv : k + 1 ≤ v.heap.size := by have := hI.blw.size; omega
      have h9 : L 9 = false := by
          cases h : L 9 with
          | false => rfl
          | true => exact absurd (hL.symm.trans (hcl 9 _ rfl h ⟨5, Ground.data⟩ (by simp) rfl)) (by decide)
      have p2 : L 2 = true := (hp ⟨2, Ground.data⟩ (by simp) rfl)
      exact step_called rfl rfl (run_txt3 _ _ _ _ _ _ (u 2) (.string (bs t)) (.int .i64 ((2 : Nat) : Int)) _ rfl rfl (hI.val 4 rfl (hp ⟨4, Ground.data⟩ (by simp) rfl)) rfl) (rtxt_keep (k + 1) 2 (u 2) t _ v (hI.s1 p2 hL) hBv (by omega) (by simp [numB_len]) (by omega)) (fun _ _ hR => ⟨_, rfl, CI.stepB (by decide) (by decide) (by decide) (by decide) (by decide) (by decide) hI p2 h9 hR.1 hR.2.1 hR.2.2⟩)
    | 6, _ =>
      cases ho
      exact step_value rfl rfl (run_fldR2 _ _ _ _ k rfl rfl) ⟨_, rfl, hI.put 6 rfl rfl⟩
    | 7, _ =>
      cases ho
      have hLv : v.heap[k]? = _ := (hI.blw.block k (by omega)).trans L0
      exact step_value rfl rfl (run_ldBytes _ _ _ _ ⟨k, 2, none⟩ ip im.length ic rfl (hI.val 6 rfl (hp ⟨6, Ground.data⟩ (by simp) rfl)) (cell_at hLv 2 _ rfl)) ⟨_, rfl, hI.put 7 rfl rfl⟩
    | 8, _ =>
      cases ho
      exact step_value rfl rfl (run_conv _ _ _ _ _ _ im rfl (hI.val 7 rfl (hp ⟨7, Ground.data⟩ (by simp) rfl)) (hI0.later (hI.blw.mono (by omega)))) ⟨_, rfl, hI.put 8 rfl rfl⟩
    | 9, _ =>
      cases ho
      have hBv : k + 1 ≤ v.heap.size := by have := hI.blw.size; omega
      have h10 : L 10 = false := by
          cases h : L 10 with
          | false => rfl
          | true => exact absurd (hL.symm.trans (hcl 10 _ rfl h ⟨9, Ground.data⟩ (by simp) rfl)) (by decide)
      have p5 : L 5 = true := (hp ⟨5, Ground.data⟩ (by simp) rfl)
      have p2 : L 2 = true := hcl 5 _ rfl p5 ⟨2, Ground.data⟩ (by simp) rfl
      exact step_called rfl rfl (run_txt3 _ _ _ _ _ _ (u 5) (.string (bs im)) (.int .i64 ((2 : Nat) : Int)) _ rfl rfl (hI.val 8 rfl (hp ⟨8, Ground.data⟩ (by simp) rfl)) rfl) (rtxt_keep (k + 1) 2 (u 5) im _ v (hI.s2 p5 hL) hBv (by omega) (by simp only [List.length_append, numB_len, textB_len]; omega) (by omega)) (fun _ _ hR => ⟨_, rfl, CI.stepC (by decide) (by decide) (by decide) (by decide) (by decide) (by decide) hI p2 p5 h10 hR.1 hR.2.1 hR.2.2⟩)
    | 10, _ =>
      cases ho
      exact step_value rfl rfl (run_asg _ _ _ _ _ rfl rfl) ⟨_, rfl, CI.step10 (by decide) (by decide) (by decide) (by decide) (by decide) (by decide) hI⟩
  · intro La ua w2 hall hI
    have hO := hI.s3 (hall 9 (by simp))
    have e10 := hI.fin (hall 10 (by simp))
    have hB2 := hI.blw
    obtain ⟨pb, cb, hv⟩ := row_slice hO
    rw [hv] at hO e10
    rw [e10]
    clear e10 hv hI hall
    rw [hb1] at hO ⊢
    clear hb1
    have hB2s : k + 1 ≤ w2.heap.size := by have := hB2.size; omega
    have L2 := (hB2.block k (by omega)).trans L0
    have a3 := cell_at L2 3 _ rfl
    have C := rnum_any (k + 1) 2 (.slice pb b1.length cb) ds.length b1 w2 hO hB2s (by omega) (by omega)
    go_wp2_with fail
    refine C.mono ?_
    rintro e' w3 ⟨v3, rfl, hO3, hb3⟩
    have B3 := hB2.trans hb3
    have L3 := (B3.block k (by omega)).trans L0
    have hD3 := hD0.later (B3.mono (Nat.le_succ k))
    clear C hO hb3 L2 a3 hB2
    have hl2 : (b1 ++ numB 2 ds.length).length ≤ 4703 := by rw [List.length_append, numB_len]; omega
    generalize b1 ++ numB 2 ds.length = b2 at *
    obtain ⟨p3, c3, rfl⟩ := row_slice hO3
    go_wp2_with fail
    clear L3 hD3
    go_loopw [3, 4] (fun bv i wr => ∃ (j : Nat) (acc : Bs) (p : Option Addr) (c : Nat), i = .int .i64 j ∧ j ≤ ds.length ∧ bv = .slice p acc.length c ∧ Hid (acc = b2 ++ (ds.take j).flatMap diagB) ∧ acc.length ≤ 4703 + 16 * j ∧ Own (k + 1) wr (.slice p acc.length c) acc ∧ Below (k + 1) w1 wr) (fun _ i _ => ds.length - (intW i).toNat)
    case atStart => exact ⟨0, b2, p3, c3, rfl, by omega, rfl, by simp [Hid], by omega, hO3, B3⟩
    case round =>
      clear hO3 B3
      obtain ⟨j, acc, p, c, rfl, hj, rfl, hacc, hal, hO, hB⟩ := hrel
      have LR := (hB.block k (by omega)).trans L0
      have hBs : k + 1 ≤ wr.heap.size := by have := hB.size; omega
      have a3 := cell_at LR 3 _ rfl
      by_cases hjl : j < ds.length
      · obtain ⟨⟨f, ln, er⟩, hx⟩ : ∃ d, ds[j]? = some d := ⟨_, List.getElem?_eq_getElem hjl⟩
        obtain ⟨y0, y1, y2⟩ := dgs_get ds j _ hx
        simp only at y0 y1 y2
        have hf := hf12 _ (List.mem_of_getElem? hx)
        simp only at hf
        have hjI : (j : Int) < (ds.length : Int) := by omega
        have hj0 : (0 : Int) ≤ (j : Int) := by omega
        have hnext : Hid (((acc ++ textB 1 f) ++ numB 2 ln) ++ numB 1 er = b2 ++ (ds.take (j + 1)).flatMap diagB) := by
          have := hacc.out
          rw [List.take_add_one, hx, List.flatMap_append, ← List.append_assoc, ← this]
          simp [diagB, List.append_assoc, Hid]
        cases dp with
        | none => have := hdn rfl; omega
        | some pa =>
        obtain ⟨_, _, e0, _, _, _, hcl⟩ := hD0.later (hB.mono (Nat.le_succ k))
        cases e0
        obtain ⟨g, o, rfl, hgL, hcl'⟩ := hcl pa rfl
        have z0 := hcl' _ _ y0
        have z1 := hcl' _ _ y1
        have z2 := hcl' _ _ y2
        rw [← Nat.add_assoc] at z1 z2
        clear hcl hcl' y0 y1 y2 hx
        go_upto_region 7 with fail
        have L5 := heap_alloc_new wr (.cells #[.string (bs f), .int .i64 ln, .int .i64 er] 75)
        have hb5 := below_new wr (.cells #[.string (bs f), .int .i64 ln, .int .i64 er] 75)
        have hO5 := hO.later hb5
        have B5 := hB.trans (hb5.mono hBs)
        have hBs5 : k + 1 ≤ (wr.alloc (.cells #[.string (bs f), .int .i64 ln, .int .i64 er] 75)).heap.size := Nat.le_trans hBs hb5.size
        have hA1 : (acc ++ textB 1 f).length ≤ 1000000 := by rw [List.length_append, textB_len]; omega
        have hA2 : ((acc ++ textB 1 f) ++ numB 2 ln).length ≤ 1000000 := by rw [List.length_append, List.length_append, numB_len, textB_len]; omega
        have hA3 : (((acc ++ textB 1 f) ++ numB 2 ln) ++ numB 1 er).length ≤ 4703 + 16 * (j + 1) := by rw [List.length_append, List.length_append, List.length_append, numB_len, numB_len, textB_len]; omega
        clear hb5 hO hB LR a3 z0 z1 z2
        generalize wr.alloc (.cells #[.string (bs f), .int .i64 ln, .int .i64 er] 75) = x5 at *
        refine region_inv2 (by kernel_rfl) (fun u => { tmps := #[Value.agg #[Value.int IntKind.i64 e, Value.string (bs t), Value.slice ip (List.length im) ic, Value.slice (some { block := g, off := o }) ds.length dc], Value.pointer (some { block := k, off := 0 }), Value.slice none 0 0, u 10, Value.int IntKind.i64 ↑j, Value.pointer (some { block := wr.heap.size, off := 0 }), ua 0, ua 1, ua 2, ua 3, ua 4, ua 5, ua 6, ua 7, ua 8, ua 9, Value.slice pb (List.length b1) cb, Value.pointer (some { block := k, off := 3 }), Value.slice (some { block := g, off := o }) ds.length dc, Value.int IntKind.i64 ↑ds.length, Value.slice p3 (List.length b2) c3, Value.int IntKind.i64 ↑j, Value.pointer (some { block := k, off := 3 }), Value.slice (some { block := g, off := o }) ds.length dc, Value.int IntKind.i64 ↑ds.length, Value.bool true, u26, u27, Value.pointer (some { block := k, off := 3 }), Value.slice (some { block := g, off := o }) ds.length dc, Value.int IntKind.i64 ↑j, Value.pointer (some { block := g, off := o + j * 3 }), Value.agg #[Value.string (bs f), Value.int IntKind.i64 ln, Value.int IntKind.i64 er], u 0, u 1, u 2, u 3, u 4, u 5, u 6, u 7, u 8, u 9, undef, undef, undef, undef, undef], defers := [] }) (CI (k + 1) 3 6 9 x5 (EB wr.heap.size (.slice p acc.length c) f ln er) (.slice p acc.length c) (.slice p acc.length c) acc (acc ++ textB 1 f) ((acc ++ textB 1 f) ++ numB 2 ln) (((acc ++ textB 1 f) ++ numB 2 ln) ++ numB 1 er)) (by kernel_rfl) (fun i => [u33, u34, u35, u36, u37, u38, u39, u40, u41, u42, Value.slice p acc.length c].getD i undef) ⟨fun _ _ h => (by cases h), ⟨rfl, rfl, rfl, Nat.le_refl _, fun _ _ => rfl⟩, fun _ _ _ _ h => h, fun _ => rfl, fun _ => hO5, fun h => (by cases h), fun h => (by cases h), fun h => (by cases h), fun h => (by cases h)⟩ ?_ ?_
        · intro i o L u v ho hL hp hcl hI
          have hi : i < 11 := by
            by_cases hi : i < 11
            · exact hi
            · rw [Array.getElem?_eq_none (by simp; omega)] at ho; cases ho
          match i, hi with
          | 0, _ =>
            cases ho
            have h3 : L 3 = false := by
                cases h : L 3 with
                | false => rfl
                | true => exact absurd (hL.symm.trans (hcl 3 _ rfl h ⟨0, Ground.data⟩ (by simp) rfl)) (by decide)
            have h6 : L 6 = false := by
                cases h : L 6 with
                | false => rfl
                | true => exact absurd (h3.symm.trans (hcl 6 _ rfl h ⟨3, Ground.data⟩ (by simp) rfl)) (by decide)
            have h9 : L 9 = false := by
                cases h : L 9 with
                | false => rfl
                | true => exact absurd (h6.symm.trans (hcl 9 _ rfl h ⟨6, Ground.data⟩ (by simp) rfl)) (by decide)
            have h10 : L 10 = false := by
                cases h : L 10 with
                | false => rfl
                | true => exact absurd (h9.symm.trans (hcl 10 _ rfl h ⟨9, Ground.data⟩ (by simp) rfl)) (by decide)
            exact step_value rfl rfl (run_move _ _ _ _ _ rfl (hI.x10 h10)) ⟨_, rfl, hI.put 0 rfl rfl⟩
          | 1, _ =>
            cases ho
            exact step_value rfl rfl (run_fldD0 _ _ _ _ wr.heap.size rfl rfl) ⟨_, rfl, hI.put 1 rfl rfl⟩
          | 2, _ =>
            cases ho
            have hLv := hI.kps wr.heap.size _ _ (by decide) L5
            exact step_value rfl rfl (run_ldText _ _ _ _ ⟨wr.heap.size, 0, none⟩ (bs f) rfl (hI.val 1 rfl (hp ⟨1, Ground.data⟩ (by simp) rfl)) (cell_at hLv 0 _ rfl)) ⟨_, rfl, hI.put 2 rfl rfl⟩
          | 3, _ =>
            cases ho
            have hBv : k + 1 ≤ v.heap.size := by have := hI.blw.size; omega
            have h6 : L 6 = false := by
                cases h : L 6 with
                | false => rfl
                | true => exact absurd (hL.symm.trans (hcl 6 _ rfl h ⟨3, Ground.data⟩ (by simp) rfl)) (by decide)
            have h9 : L 9 = false := by
                cases h : L 9 with
                | false => rfl
                | true => exact absurd (h6.symm.trans (hcl 9 _ rfl h ⟨6, Ground.data⟩ (by simp) rfl)) (by decide)
            exact step_called rfl rfl (run_txt3 _ _ _ _ _ _ (.slice p acc.length c) (.string (bs f)) (.int .i64 ((1 : Nat) : Int)) _ rfl (hI.val 0 rfl (hp ⟨0, Ground.data⟩ (by simp) rfl)) (hI.val 2 rfl (hp ⟨2, Ground.data⟩ (by simp) rfl)) rfl) (rtxt_keep (k + 1) 1 (.slice p acc.length c) f acc v (hI.s0 hL) hBv (by omega) (by omega) (by omega)) (fun _ _ hR => ⟨_, rfl, CI.stepA (by decide) (by decide) (by decide) (by decide) (by decide) (by decide) hI h6 h9 hR.1 hR.2.1 hR.2.2⟩)
          | 4, _ =>
            cases ho
            exact step_value rfl rfl (run_fldD1 _ _ _ _ wr.heap.size rfl rfl) ⟨_, rfl, hI.put 4 rfl rfl⟩
          | 5, _ =>
            cases ho
            have hLv := hI.kps wr.heap.size _ _ (by decide) L5
            exact step_value rfl rfl (run_ldInt _ _ _ _ ⟨wr.heap.size, 1, none⟩ ln rfl (hI.val 4 rfl (hp ⟨4, Ground.data⟩ (by simp) rfl)) (cell_at hLv 1 _ rfl)) ⟨_, rfl, hI.put 5 rfl rfl⟩
          | 6, _ =>
            cases ho
            have hBv : k + 1 ≤ v.heap.size := by have := hI.blw.size; omega
            have h9 : L 9 = false := by
                cases h : L 9 with
                | false => rfl
                | true => exact absurd (hL.symm.trans (hcl 9 _ rfl h ⟨6, Ground.data⟩ (by simp) rfl)) (by decide)
            have p3 : L 3 = true := (hp ⟨3, Ground.data⟩ (by simp) rfl)
            exact step_called rfl rfl (run_num3 _ _ _ _ _ _ (u 3) (.int .i64 ln) (.int .i64 ((2 : Nat) : Int)) _ rfl rfl (hI.val 5 rfl (hp ⟨5, Ground.data⟩ (by simp) rfl)) rfl) (rnum_keep (k + 1) 2 (u 3) ln _ v (hI.s1 p3 hL) hBv (by omega) hA1) (fun _ _ hR => ⟨_, rfl, CI.stepB (by decide) (by decide) (by decide) (by decide) (by decide) (by decide) hI p3 h9 hR.1 hR.2.1 hR.2.2⟩)
          | 7, _ =>
            cases ho
            exact step_value rfl rfl (run_fldD2 _ _ _ _ wr.heap.size rfl rfl) ⟨_, rfl, hI.put 7 rfl rfl⟩
          | 8, _ =>
            cases ho
            have hLv := hI.kps wr.heap.size _ _ (by decide) L5
            exact step_value rfl rfl (run_ldErr _ _ _ _ ⟨wr.heap.size, 2, none⟩ er rfl (hI.val 7 rfl (hp ⟨7, Ground.data⟩ (by simp) rfl)) (cell_at hLv 2 _ rfl)) ⟨_, rfl, hI.put 8 rfl rfl⟩
          | 9, _ =>
            cases ho
            have hBv : k + 1 ≤ v.heap.size := by have := hI.blw.size; omega
            have h10 : L 10 = false := by
                cases h : L 10 with
                | false => rfl
                | true => exact absurd (hL.symm.trans (hcl 10 _ rfl h ⟨9, Ground.data⟩ (by simp) rfl)) (by decide)
            have p6 : L 6 = true := (hp ⟨6, Ground.data⟩ (by simp) rfl)
            have p3 : L 3 = true := hcl 6 _ rfl p6 ⟨3, Ground.data⟩ (by simp) rfl
            exact step_called rfl rfl (run_num3 _ _ _ _ _ _ (u 6) (.int .i64 er) (.int .i64 ((1 : Nat) : Int)) _ rfl rfl (hI.val 8 rfl (hp ⟨8, Ground.data⟩ (by simp) rfl)) rfl) (rnum_keep (k + 1) 1 (u 6) er _ v (hI.s2 p6 hL) hBv (by omega) hA2) (fun _ _ hR => ⟨_, rfl, CI.stepC (by decide) (by decide) (by decide) (by decide) (by decide) (by decide) hI p3 p6 h10 hR.1 hR.2.1 hR.2.2⟩)
          | 10, _ =>
            cases ho
            exact step_value rfl rfl (run_asg _ _ _ _ _ rfl rfl) ⟨_, rfl, CI.step10 (by decide) (by decide) (by decide) (by decide) (by decide) (by decide) hI⟩
        · intro Lb ub w6 hall hI
          have hO6 := hI.s3 (hall 9 (by simp))
          have e10 := hI.fin (hall 10 (by simp))
          have B6 := B5.trans hI.blw
          obtain ⟨p6, c6, hv⟩ := row_slice hO6
          rw [hv] at hO6 e10
          rw [e10]
          clear e10 hv hI hall hO5 B5 L5 hBs5 hacc
          generalize ((acc ++ textB 1 f) ++ numB 2 ln) ++ numB 1 er = acc2 at *
          go_wp2_with fail
          go_roundw
          case rel => exact ⟨j + 1, acc2, p6, c6, by go_num, by omega, rfl, hnext, hA3, hO6, B6⟩
          case measure => simp [intW]; omega
      · have hjI : ¬ (j : Int) < (ds.length : Int) := by omega
        have hfin : Hid (numB 3 acc.length ++ acc = hd) := by
          have h1 := hacc.out
          have hjl' : j = ds.length := by omega
          rw [hjl', List.take_length] at h1
          have := hhd.out
          rw [← h1] at this
          exact this
        have C := rnum_any wr.heap.size 3 (.slice none 0 0) acc.length [] wr (own_nil _ _) (Nat.le_refl _) (by omega) (by simp)
        rw [List.nil_append] at C
        clear hacc hhd
        go_wp2_with fail
        refine C.mono ?_
        rintro e' w7 ⟨v7, rfl, hO7, hb7⟩
        have hby := (hO.later hb7).bytes (Nat.le_refl w7.heap.size)
        obtain ⟨v8, w8, hrun, hO8, hgr⟩ := run_app_bytes _ wr.heap.size _ _ _ _ _ hO7 hby (by rw [numB_len]; omega) (by omega) hb7.size
        have hb8 := hb7.trans (hO7.below hgr hb7.size)
        have B8 : Below k w w8 := hb0.trans ((hB.trans (hb8.mono hBs)).mono (Nat.le_succ k))
        rw [hfin.out] at hO8
        obtain ⟨p7, c7, rfl⟩ := row_slice hO7
        have hO9 : Own k w8 v8 hd := hO8.low (by omega)
        obtain ⟨p8, c8, rfl⟩ := row_slice hO8
        clear C hO7 hO8 hby hgr hb7 hb8 hO hB LR a3
        go_wp2_with (at_builtin; refine wpList_run_app rfl _ _ _ _ rfl _ _ _ rfl rfl (hrun _) ?_)
        go_ret
        subst hk
        exact ⟨_, rfl, hO9, B8⟩
end Go.Proofs.YtkaclahcpmogaaaGreatDoor
