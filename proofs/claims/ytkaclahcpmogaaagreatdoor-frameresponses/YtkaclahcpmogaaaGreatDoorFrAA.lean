/- The laws' responses, made. -/
import Derived.Test.YtkaclahcpmogaaaGreatDoorFrZ
namespace Go.Proofs.YtkaclahcpmogaaaGreatDoor
open Go.ChangeShapes Go.WideShapes Go.ChangeAt Go.RowKit
open Orders
set_option linter.unusedVariables false
set_option linter.unusedSimpArgs false

/-- What is listed has all that it waits for listed. -/
def Closed (ops : Array Oper) (L : Nat → Bool) : Prop := ∀ i o, ops[i]? = some o → L i = true → ∀ e ∈ o.after.toList, Region.binds .any e = true → L e.on = true

theorem closed_upd {ops : Array Oper} {L : Nat → Bool} {i : Nat} {o : Oper} (h : Closed ops L) (ho : ops[i]? = some o) (hp : ∀ e ∈ o.after.toList, Region.binds .any e = true → L e.on = true) : Closed ops (updL L i) := by
  intro q o' hq hl e he hb
  have hLe : L e.on = true := by
    by_cases eq : q = i
    · subst eq
      rw [ho] at hq
      cases hq
      exact hp e he hb
    · rw [updL_other _ _ _ eq] at hl
      exact h q o' hq hl e he hb
  unfold updL
  split
  · rfl
  · exact hLe

theorem region_inv2 {ops : Array Oper} {Q : Exit → Act → World → Prop} {id : Nat} {w : World} (hm : Tryz.prog.follows .mixedOrders = true) (frame : (Nat → Value) → Act) (I : (Nat → Bool) → (Nat → Value) → World → Prop) (he : Orders.early ops = true)
    (u : Nat → Value) (hI : I (fun _ => false) u { w with drawn := w.drawn + 1 })
    (step : ∀ i o L u w, ops[i]? = some o → L i = false → (∀ e ∈ o.after.toList, Region.binds .any e = true → L e.on = true) → Closed ops L → I L u w →
      wpOp Tryz.prog ops Q i (fun a' w' => ∃ v, a' = frame (upd u i v) ∧ I (updL L i) (upd u i v) w') (frame u) w)
    (done : ∀ L u w, (∀ j, j < ops.size → L j = true) → I L u w → Q .normal (frame u) w) :
    (Code.region id ops true).wp Tryz.prog Q (frame u) w :=
  region_inv hm frame (fun L u w => Closed ops L ∧ I L u w) he u ⟨fun _ _ _ h => (by cases h), hI⟩
    (fun i o L u w ho hL hp hI => wpOp_mono (fun a' w' h => by
      obtain ⟨v, e, h⟩ := h
      exact ⟨v, e, closed_upd hI.1 ho hp, h⟩) (step i o L u w ho hL hp hI.1 hI.2))
    (fun L u w h hI => done L u w h hI.2)

set_option maxHeartbeats 8000000 in
set_option maxRecDepth 20000 in
theorem mkresp_any (nsv : Value) (ns : List Int) (t : Bs) (ip : Option Addr) (im ic : Nat) (w : World) (hs : SliceIs w nsv ns) (hr : InRange ns) :
    Calls Tryz.prog 17 #[nsv, .string (bs t), .slice ip im ic] w fun e w' => ∃ dv, e = .returned (.agg #[.int .i64 ((ns.length : Int) % 15), .string (bs t), .slice ip im ic, dv]) ∧ DiagsAt w'.heap.size w' dv (dgsOf ns) ∧ Below w.heap.size w w' := by
  obtain ⟨np, nc, rfl, hns⟩ := hs
  have hE : ((ns.length : Int).tmod 15) = (ns.length : Int) % 15 := Int.tmod_eq_emod_of_nonneg (by omega)
  go_enter Tryz.func17, Tryz.ntmps17
  go_wp2_with fail
  have LA : ((w.alloc (.cells #[.int .i64 0, .string ⟨#[]⟩, .slice none 0 0, .slice none 0 0] 42)).alloc (.cells #[.int .i64 ((ns.length : Int) % 15), .string (bs t), .slice ip im ic, .slice none 0 0] 42)).heap[w.heap.size]? = some (.cells #[.int .i64 0, .string ⟨#[]⟩, .slice none 0 0, .slice none 0 0] 42 (0, 0)) := (Below.heap_alloc _ _ _ (by simp)).trans (heap_alloc_new w _)
  have LB := heap_alloc_new (w.alloc (.cells #[.int .i64 0, .string ⟨#[]⟩, .slice none 0 0, .slice none 0 0] 42)) (.cells #[.int .i64 ((ns.length : Int) % 15), .string (bs t), .slice ip im ic, .slice none 0 0] 42)
  have B0 := (below_new w (.cells #[.int .i64 0, .string ⟨#[]⟩, .slice none 0 0, .slice none 0 0] 42)).alloc (by simp) (.cells #[.int .i64 ((ns.length : Int) % 15), .string (bs t), .slice ip im ic, .slice none 0 0] 42)
  have hk1 : (w.alloc (.cells #[.int .i64 0, .string ⟨#[]⟩, .slice none 0 0, .slice none 0 0] 42)).heap.size = w.heap.size + 1 := by simp
  rw [hk1] at LB
  clear hk1
  generalize (w.alloc (.cells #[.int .i64 0, .string ⟨#[]⟩, .slice none 0 0, .slice none 0 0] 42)).alloc (.cells #[.int .i64 ((ns.length : Int) % 15), .string (bs t), .slice ip im ic, .slice none 0 0] 42) = w1 at *
  obtain ⟨k, hk⟩ : ∃ k, w.heap.size + 1 = k := ⟨_, rfl⟩
  have hkw : w.heap.size < k := by omega
  rw [hk] at LB ⊢
  obtain ⟨ev, hev⟩ : ∃ ev, (ns.length : Int) % 15 = ev := ⟨_, rfl⟩
  rw [hev] at LB ⊢
  clear hE
  go_loopw [8] (fun i wr => ∃ (j : Nat) (v : Value), i = .int .i64 j ∧ j ≤ ns.length ∧ j ≤ 20 ∧ wr.heap[w.heap.size]? = some (.cells #[.int .i64 0, .string ⟨#[]⟩, .slice none 0 0, .slice none 0 0] 42 (0, 0)) ∧ wr.heap[k]? = some (.cells #[.int .i64 ev, .string (bs t), .slice ip im ic, v] 42 (0, 0)) ∧ OwnD (k + 1) wr v ((ns.take j).map dgOf) ∧ Below w.heap.size w wr) (fun i _ => 20 - (intW i).toNat)
  case atStart => exact ⟨0, .slice none 0 0, rfl, by omega, by omega, LA, LB, ownD_nil _ _, B0⟩
  case round =>
    clear LA LB B0
    obtain ⟨j, v, rfl, hjn, hj20, LA, LB, hO, hb⟩ := hrel
    have fin : ∀ (hstop : j = ns.length ∨ j = 20), dgsOf ns = (ns.take j).map dgOf := by
      intro hstop
      unfold dgsOf
      rcases hstop with e | e
      · rw [e, List.take_length, List.take_of_length_le (by omega)]
      · rw [e]
    have X : Blk wr w.heap.size (.int .i64 0) (.string ⟨#[]⟩) (.slice none 0 0) (.slice none 0 0) := ⟨cell_at LA 0 _ rfl, cell_at LA 1 _ rfl, cell_at LA 2 _ rfl, cell_at LA 3 _ rfl, froz_at LA 0, froz_at LA 1, froz_at LA 2, froz_at LA 3⟩
    obtain ⟨q, c, hv, hdc⟩ := ownD_slice hO
    have hml : ((ns.take j).map dgOf).length = j := by simp; omega
    rw [hml] at hv
    by_cases h1 : j < ns.length
    · by_cases h2 : j < 20
      · subst hv
        have h1I : (j : Int) < (ns.length : Int) := by omega
        have h2I : (j : Int) < 20 := by omega
        clear fin X
        go_wp2_with fail
        obtain ⟨x, hx⟩ : ∃ x, ns[j]? = some x := ⟨_, List.getElem?_eq_getElem h1⟩
        obtain ⟨x0, x1⟩ := hr x (List.mem_of_getElem? hx)
        obtain ⟨nb, f, rfl, hcx⟩ := hns (by rintro rfl; simp at h1)
        replace hcx := kept_cell hb (hcx j x hx)
        have hx0 := Int.emod_nonneg x (show (4 : Int) ≠ 0 by decide)
        have hx4 : (x % 4).toNat < 4 := by have := Int.emod_lt_of_pos x (show (0 : Int) < 4 by decide); omega
        have a3 := cell_at LB 3 _ rfl
        have hkr : k + 1 ≤ wr.heap.size := (Array.getElem?_eq_some_iff.1 LB).1
        refine region_inv2 (by kernel_rfl) (fun u => { tmps := #[Value.slice (some ⟨nb, f, none⟩) ns.length nc, Value.string (bs t), Value.slice ip im ic, undef, undef, undef, Value.pointer (some { block := w.heap.size, off := 0 }), Value.pointer (some { block := k, off := 0 }), Value.int IntKind.i64 ↑j, Value.slice (some ⟨nb, f, none⟩) ns.length nc, Value.int IntKind.i64 ↑ns.length, Value.int IntKind.i64 ev, Value.string (bs t), Value.slice ip im ic, Value.agg #[Value.int IntKind.i64 ev, Value.string (bs t), Value.slice ip im ic, Value.slice none 0 0], Value.int IntKind.i64 ↑j, Value.slice (some ⟨nb, f, none⟩) ns.length nc, Value.int IntKind.i64 ↑ns.length, Value.bool true, Value.bool true, Value.int IntKind.i64 ↑j, Value.bool true, Value.bool true, u23, u24, u 0, u 1, u 2, u 3, u 4, u 5, u 6, u 7, u 8, u 9, u 10, u 11, u 12, u 13, u 14, u 15, u 16, u 17, u 18, u 19, u 20, u 21, u 22, u 23, u 24, u 25, undef], defers := [] }) (RI wr (.slice (some ⟨nb, f, none⟩) ns.length nc) (.slice q j c) nb f j k x ((ns.take j).map dgOf) ev t (.slice ip im ic)) (by kernel_rfl) (fun i => [u25, u26, u27, u28, u29, u30, u31, u32, u33, u34, u35, u36, u37, u38, u39, u40, u41, u42, u43, u44, u45, u46, u47, u48, u49, u50].getD i undef) ?_ ?_ ?_
        · exact ⟨fun _ _ h => (by cases h), fun h => (by cases h), fun h => (by cases h), fun h => (by cases h), fun _ => ⟨rfl, ⟨rfl, rfl, rfl, Nat.le_refl _, fun _ _ => rfl⟩⟩, fun h => (by cases h), fun h => (by cases h)⟩
        · intro i o L u v ho hL hp hcl hI
          have hi : i < 27 := by
            by_cases hi : i < 27
            · exact hi
            · rw [Array.getElem?_eq_none (by simp; omega)] at ho; cases ho
          match i, hi with
          | 0, _ =>
            cases ho
            exact step_value rfl rfl (run_fldR3 _ _ _ _ k rfl rfl) ⟨_, rfl, hI.put 0 rfl hL rfl⟩
          | 1, _ =>
            cases ho
            have h24 : L 24 = false := by
              cases h : L 24 with
              | false => rfl
              | true => exact absurd (hL.symm.trans (hcl 24 _ rfl h ⟨1, Ground.data⟩ (by simp) rfl)) (by decide)
            obtain ⟨h26, hbv⟩ := hI.p0 h24
            exact step_value rfl rfl (run_ldDiags _ _ _ _ ⟨k, 3, none⟩ q j c rfl (hI.val 0 rfl (hp ⟨0, Ground.data⟩ (by simp) rfl)) (kept_cell hbv a3)) ⟨_, rfl, hI.put 1 rfl hL rfl⟩
          | 2, _ =>
            cases ho
            have h24 : L 24 = false := by
              cases h : L 24 with
              | false => rfl
              | true => exact absurd (hL.symm.trans (hcl 8 _ rfl (hcl 9 _ rfl (hcl 22 _ rfl (hcl 23 _ rfl (hcl 24 _ rfl h ⟨23, Ground.data⟩ (by simp) rfl) ⟨22, Ground.data⟩ (by simp) rfl) ⟨9, Ground.data⟩ (by simp) rfl) ⟨8, Ground.data⟩ (by simp) rfl) ⟨2, Ground.data⟩ (by simp) rfl)) (by decide)
            obtain ⟨h26, hbv⟩ := hI.p0 h24
            exact step_value rfl rfl (run_bld4 _ _ _ rfl) ⟨_, rfl, hI.step2 hL h24⟩
          | 3, _ =>
            cases ho
            exact step_value rfl rfl (run_move _ _ _ _ _ rfl rfl) ⟨_, rfl, hI.put 3 rfl hL rfl⟩
          | 4, _ =>
            cases ho
            exact step_value rfl rfl (run_move _ _ _ _ _ rfl rfl) ⟨_, rfl, hI.put 4 rfl hL rfl⟩
          | 5, _ =>
            cases ho
            exact step_value rfl rfl (run_ixInts _ _ _ _ _ nb f ns.length nc j rfl (hI.val 3 rfl (hp ⟨3, Ground.data⟩ (by simp) rfl)) (hI.val 4 rfl (hp ⟨4, Ground.data⟩ (by simp) rfl)) h1) ⟨_, rfl, hI.put 5 rfl hL rfl⟩
          | 6, _ =>
            cases ho
            have h24 : L 24 = false := by
              cases h : L 24 with
              | false => rfl
              | true => exact absurd (hL.symm.trans (hcl 7 _ rfl (hcl 8 _ rfl (hcl 9 _ rfl (hcl 22 _ rfl (hcl 23 _ rfl (hcl 24 _ rfl h ⟨23, Ground.data⟩ (by simp) rfl) ⟨22, Ground.data⟩ (by simp) rfl) ⟨9, Ground.data⟩ (by simp) rfl) ⟨8, Ground.data⟩ (by simp) rfl) ⟨7, Ground.data⟩ (by simp) rfl) ⟨6, Ground.data⟩ (by simp) rfl)) (by decide)
            obtain ⟨h26, hbv⟩ := hI.p0 h24
            exact step_value rfl rfl (run_ldInt _ _ _ _ ⟨nb, f + j, none⟩ x rfl (hI.val 5 rfl (hp ⟨5, Ground.data⟩ (by simp) rfl)) (kept_cell hbv hcx)) ⟨_, rfl, hI.put 6 rfl hL rfl⟩
          | 7, _ =>
            cases ho
            exact step_call rfl rfl (run_call11 _ _ _ _ _ _ _ _ rfl (hI.val 6 rfl (hp ⟨6, Ground.data⟩ (by simp) rfl)) rfl) (within11_any x 4 (by decide) (by decide) v) ⟨_, rfl, hI.put 7 rfl hL rfl⟩
          | 8, _ =>
            cases ho
            have h24 : L 24 = false := by
              cases h : L 24 with
              | false => rfl
              | true => exact absurd (hL.symm.trans (hcl 9 _ rfl (hcl 22 _ rfl (hcl 23 _ rfl (hcl 24 _ rfl h ⟨23, Ground.data⟩ (by simp) rfl) ⟨22, Ground.data⟩ (by simp) rfl) ⟨9, Ground.data⟩ (by simp) rfl) ⟨8, Ground.data⟩ (by simp) rfl)) (by decide)
            obtain ⟨h26, hbv⟩ := hI.p0 h24
            have p2 := (hp ⟨2, Ground.data⟩ (by simp) rfl)
            obtain ⟨b, e2, _⟩ := hI.arr p2 h24
            have e7 : u 7 = .int .i64 (((x % 4).toNat : Nat) : Int) := by rw [Int.toNat_of_nonneg hx0]; exact (hI.val 7 rfl (hp ⟨7, Ground.data⟩ (by simp) rfl))
            exact step_value rfl rfl (run_ixTexts _ _ _ _ _ b 4 4 (x % 4).toNat rfl e2 e7 hx4) ⟨_, rfl, hI.step8 p2 b e2⟩
          | 9, _ =>
            cases ho
            have h24 : L 24 = false := by
              cases h : L 24 with
              | false => rfl
              | true => exact absurd (hL.symm.trans (hcl 22 _ rfl (hcl 23 _ rfl (hcl 24 _ rfl h ⟨23, Ground.data⟩ (by simp) rfl) ⟨22, Ground.data⟩ (by simp) rfl) ⟨9, Ground.data⟩ (by simp) rfl)) (by decide)
            obtain ⟨h26, hbv⟩ := hI.p0 h24
            obtain ⟨p2, hpt⟩ := hI.ptr (hp ⟨8, Ground.data⟩ (by simp) rfl)
            obtain ⟨b, e2, hblk⟩ := hI.arr p2 h24
            exact step_value rfl rfl (run_ldText _ _ _ _ ⟨b, (x % 4).toNat, none⟩ _ rfl (hpt b e2) (cell_at hblk _ _ (arr4_at _ hx4))) ⟨_, rfl, hI.put 9 rfl hL rfl⟩
          | 10, _ =>
            cases ho
            exact step_value rfl rfl (run_move _ _ _ _ _ rfl rfl) ⟨_, rfl, hI.put 10 rfl hL rfl⟩
          | 11, _ =>
            cases ho
            exact step_value rfl rfl (run_move _ _ _ _ _ rfl rfl) ⟨_, rfl, hI.put 11 rfl hL rfl⟩
          | 12, _ =>
            cases ho
            exact step_value rfl rfl (run_ixInts _ _ _ _ _ nb f ns.length nc j rfl (hI.val 10 rfl (hp ⟨10, Ground.data⟩ (by simp) rfl)) (hI.val 11 rfl (hp ⟨11, Ground.data⟩ (by simp) rfl)) h1) ⟨_, rfl, hI.put 12 rfl hL rfl⟩
          | 13, _ =>
            cases ho
            have h24 : L 24 = false := by
              cases h : L 24 with
              | false => rfl
              | true => exact absurd (hL.symm.trans (hcl 14 _ rfl (hcl 15 _ rfl (hcl 22 _ rfl (hcl 23 _ rfl (hcl 24 _ rfl h ⟨23, Ground.data⟩ (by simp) rfl) ⟨22, Ground.data⟩ (by simp) rfl) ⟨15, Ground.data⟩ (by simp) rfl) ⟨14, Ground.data⟩ (by simp) rfl) ⟨13, Ground.data⟩ (by simp) rfl)) (by decide)
            obtain ⟨h26, hbv⟩ := hI.p0 h24
            exact step_value rfl rfl (run_ldInt _ _ _ _ ⟨nb, f + j, none⟩ x rfl (hI.val 12 rfl (hp ⟨12, Ground.data⟩ (by simp) rfl)) (kept_cell hbv hcx)) ⟨_, rfl, hI.put 13 rfl hL rfl⟩
          | 14, _ =>
            cases ho
            exact step_value rfl rfl (run_quo _ _ _ _ _ x 4 rfl (hI.val 13 rfl (hp ⟨13, Ground.data⟩ (by simp) rfl)) rfl (.inl rfl) x0 x1) ⟨_, rfl, hI.put 14 rfl hL rfl⟩
          | 15, _ =>
            cases ho
            exact step_call rfl rfl (run_call11 _ _ _ _ _ _ _ _ rfl (hI.val 14 rfl (hp ⟨14, Ground.data⟩ (by simp) rfl)) rfl) (within11_any (x.tdiv 4) 5001 (by decide) (by decide) v) ⟨_, rfl, hI.put 15 rfl hL rfl⟩
          | 16, _ =>
            cases ho
            exact step_value rfl rfl (run_move _ _ _ _ _ rfl rfl) ⟨_, rfl, hI.put 16 rfl hL rfl⟩
          | 17, _ =>
            cases ho
            exact step_value rfl rfl (run_move _ _ _ _ _ rfl rfl) ⟨_, rfl, hI.put 17 rfl hL rfl⟩
          | 18, _ =>
            cases ho
            exact step_value rfl rfl (run_ixInts _ _ _ _ _ nb f ns.length nc j rfl (hI.val 16 rfl (hp ⟨16, Ground.data⟩ (by simp) rfl)) (hI.val 17 rfl (hp ⟨17, Ground.data⟩ (by simp) rfl)) h1) ⟨_, rfl, hI.put 18 rfl hL rfl⟩
          | 19, _ =>
            cases ho
            have h24 : L 24 = false := by
              cases h : L 24 with
              | false => rfl
              | true => exact absurd (hL.symm.trans (hcl 20 _ rfl (hcl 21 _ rfl (hcl 22 _ rfl (hcl 23 _ rfl (hcl 24 _ rfl h ⟨23, Ground.data⟩ (by simp) rfl) ⟨22, Ground.data⟩ (by simp) rfl) ⟨21, Ground.data⟩ (by simp) rfl) ⟨20, Ground.data⟩ (by simp) rfl) ⟨19, Ground.data⟩ (by simp) rfl)) (by decide)
            obtain ⟨h26, hbv⟩ := hI.p0 h24
            exact step_value rfl rfl (run_ldInt _ _ _ _ ⟨nb, f + j, none⟩ x rfl (hI.val 18 rfl (hp ⟨18, Ground.data⟩ (by simp) rfl)) (kept_cell hbv hcx)) ⟨_, rfl, hI.put 19 rfl hL rfl⟩
          | 20, _ =>
            cases ho
            exact step_value rfl rfl (run_quo _ _ _ _ _ x 7 rfl (hI.val 19 rfl (hp ⟨19, Ground.data⟩ (by simp) rfl)) rfl (.inr rfl) x0 x1) ⟨_, rfl, hI.put 20 rfl hL rfl⟩
          | 21, _ =>
            cases ho
            exact step_call rfl rfl (run_call11 _ _ _ _ _ _ _ _ rfl (hI.val 20 rfl (hp ⟨20, Ground.data⟩ (by simp) rfl)) rfl) (within11_any (x.tdiv 7) 15 (by decide) (by decide) v) ⟨_, rfl, hI.put 21 rfl hL rfl⟩
          | 22, _ =>
            cases ho
            exact step_value rfl rfl (run_bldDiag _ _ _ _ _ _ (bs (dgOf x).frag) (dgOf x).line (dgOf x).e rfl (hI.val 9 rfl (hp ⟨9, Ground.data⟩ (by simp) rfl)) (hI.val 15 rfl (hp ⟨15, Ground.data⟩ (by simp) rfl)) (hI.val 21 rfl (hp ⟨21, Ground.data⟩ (by simp) rfl))) ⟨_, rfl, hI.put 22 rfl hL rfl⟩
          | 23, _ =>
            cases ho
            have h24 : L 24 = false := by
              cases h : L 24 with
              | false => rfl
              | true => exact absurd (hL.symm.trans (hcl 24 _ rfl h ⟨23, Ground.data⟩ (by simp) rfl)) (by decide)
            obtain ⟨h26, hbv⟩ := hI.p0 h24
            exact step_value rfl rfl (run_bldOne _ _ _ _ (bs (dgOf x).frag) (dgOf x).line (dgOf x).e rfl (hI.val 22 rfl (hp ⟨22, Ground.data⟩ (by simp) rfl))) ⟨_, rfl, hI.step23 h24⟩
          | 24, _ =>
            cases ho
            have h24 := hL
            obtain ⟨h26, hbv⟩ := hI.p0 h24
            obtain ⟨g, e23, hg⟩ := hI.dia (hp ⟨23, Ground.data⟩ (by simp) rfl) h24
            have hOv := hO.later hbv
            have hks := hbv.size
            obtain ⟨v', w', hrun, hO2, hgr⟩ := run_app_diag v (k + 1) _ _ (dgOf x) g hOv hg (by rw [hml]; omega) (by omega)
            exact step_value rfl rfl (run_appD _ _ _ _ _ _ _ _ _ rfl (hI.val 1 rfl (hp ⟨1, Ground.data⟩ (by simp) rfl)) e23 hrun) ⟨_, rfl, hI.step24 h24 hO2 ((hbv.mono hkr).trans (hOv.below hgr (by omega)))⟩
          | 25, _ =>
            cases ho
            exact step_value rfl rfl (run_fldR3 _ _ _ _ k rfl rfl) ⟨_, rfl, hI.put 25 rfl hL rfl⟩
          | 26, _ =>
            cases ho
            have p24 : L 24 = true := (hp ⟨24, Ground.data⟩ (by simp) rfl)
            obtain ⟨⟨q', c', e24⟩, _, hb24⟩ := hI.p1 p24 hL
            have hkv := (hb24.block k (by omega)).trans LB
            have h := hI.step26 p24 hL LB
            rw [e24] at h
            exact step_skip rfl rfl (run_stDiags _ _ _ _ _ ⟨k, 3, none⟩ q' _ c' _ rfl (hI.val 25 rfl (hp ⟨25, Ground.data⟩ (by simp) rfl)) e24 (cell_at hkv 3 _ rfl) (froz_at hkv 3)) ⟨undef, rfl, h⟩
        · intro L u w6 hall hI
          obtain ⟨v', hO6, LB6, hb6⟩ := hI.p2 (hall 26 (by simp))
          have LA6 := (hb6.block w.heap.size hkw).trans LA
          have hB6 : Below w.heap.size w w6 := hb.trans (hb6.mono (by omega))
          have hds : (ns.take j).map dgOf ++ [dgOf x] = (ns.take (j + 1)).map dgOf := by
            rw [List.take_add_one, hx]; simp
          rw [hds] at hO6
          clear hI hall
          go_wp2_with fail
          go_roundw
          case rel => exact ⟨j + 1, v', by go_num, by omega, by omega, LA6, LB6, hO6, hB6⟩
          case measure => simp [intW]; omega
      · have h1I : (j : Int) < (ns.length : Int) := by omega
        have h2I : ¬ (j : Int) < 20 := by omega
        have hfin := fin (.inr (by omega))
        have Z := X.put (.int .i64 ev) (.string (bs t)) (.slice ip im ic) v
        have BZ := below_put hb (Nat.le_refl _) (.int .i64 ev) (.string (bs t)) (.slice ip im ic) v
        have hD := ownD_put hO (by omega : w.heap.size < k + 1) (.int .i64 ev) (.string (bs t)) (.slice ip im ic) v
        rw [← hfin] at hD
        subst hv
        obtain ⟨z0, z1, z2, z3, _, _, _, _⟩ := id Z
        unfold put4 at z0 z1 z2 z3 BZ hD
        have a0 := cell_at LB 0 _ rfl
        have a1 := cell_at LB 1 _ rfl
        have a2 := cell_at LB 2 _ rfl
        have a3 := cell_at LB 3 _ rfl
        obtain ⟨b0, b1, b2, b3, g0, g1, g2, g3⟩ := X
        clear fin Z LA LB hO hb hfin hml
        go_wp2_with fail
        exact bodyPost_ret (v := .agg #[.int .i64 ev, .string (bs t), .slice ip im ic, .slice q j c]) (by simp [results, Tryz.results17, go_sem, z0, z1, z2, z3]) rfl ⟨_, rfl, hD, BZ⟩
    · have h1I : ¬ (j : Int) < (ns.length : Int) := by omega
      have hfin := fin (.inl (by omega))
      have Z := X.put (.int .i64 ev) (.string (bs t)) (.slice ip im ic) v
      have BZ := below_put hb (Nat.le_refl _) (.int .i64 ev) (.string (bs t)) (.slice ip im ic) v
      have hD := ownD_put hO (by omega : w.heap.size < k + 1) (.int .i64 ev) (.string (bs t)) (.slice ip im ic) v
      rw [← hfin] at hD
      subst hv
      obtain ⟨z0, z1, z2, z3, _, _, _, _⟩ := id Z
      unfold put4 at z0 z1 z2 z3 BZ hD
      have a0 := cell_at LB 0 _ rfl
      have a1 := cell_at LB 1 _ rfl
      have a2 := cell_at LB 2 _ rfl
      have a3 := cell_at LB 3 _ rfl
      obtain ⟨b0, b1, b2, b3, g0, g1, g2, g3⟩ := X
      clear fin Z LA LB hO hb hfin hml
      go_wp2_with fail
      exact bodyPost_ret (v := .agg #[.int .i64 ev, .string (bs t), .slice ip im ic, .slice q j c]) (by simp [results, Tryz.results17, go_sem, z0, z1, z2, z3]) rfl ⟨_, rfl, hD, BZ⟩
end Go.Proofs.YtkaclahcpmogaaaGreatDoor
