/- Requests and responses have as many bytes as the chapter says. -/
import Derived.Test.YtkaclahcpmogaabGreatDoorRows
import Derived.WalkKit
import Derived.ProofKit
import Derived.OpenShut
import Derived.LaidMore
import Derived.Stop.Joined
import Derived.SevenTiedAt
import Derived.Laws.BytesArg
import Derived.BigQuiet
import Derived.Lay
import Derived.MakeChecks
import Derived.Test.YtkaclahcpmogaabGreatDoorTie
import Derived.Test.YtkaclahcpmogaabGreatDoorCards
import Derived.Test.YtkaclahcpmogaabGreatDoorFrAA
import Derived.Test.YtkaclahcpmogaabGreatDoorFrAC
namespace Go.Proofs.YtkaclahcpmogaabGreatDoor.frameBytes
open Go.ChangeShapes Go.WideShapes Go.ChangeAt Go.RowKit
open Go.ChangeMaps (open_string shut_string)
set_option linter.unusedVariables false
set_option linter.unusedSimpArgs false

theorem own : ownKnob Tryz.prog.godebug = none := by kernel_rfl

theorem tailB_any (r : Rq) : (tailB r).length = if r.kind = 1 ∨ r.kind = 3 then 2 + r.text.length else if r.kind = 5 then 8 else 0 := by
  unfold tailB
  split
  · rw [textB_len]
  · split
    · rw [numB_len]
    · rfl
theorem acc_step (ds : List Dg) (j : Nat) (d : Dg) (h : ds[j]? = some d) : ((ds.take (j + 1)).flatMap diagB).length = ((ds.take j).flatMap diagB).length + 4 + d.frag.length := by
  rw [List.take_add_one, h, List.flatMap_append, List.length_append]
  have e : ((some d).toList.flatMap diagB).length = 4 + d.frag.length := by
    simp only [Option.toList_some, List.flatMap_cons, List.flatMap_nil, List.append_nil]
    unfold diagB
    simp only [List.length_append, textB_len, numB_len]
    omega
  omega
/-! ### The walk -/
set_option maxHeartbeats 6400000 in
set_option maxRecDepth 20000 in
theorem walk (a0 : Int) (w0 : (Lit.int .i64 a0).wf = true) (v1 : Value) (a1 : List Int) (w1 : InRange a1) (l1 : a1.length ≤ maxLen) (a2 : ByteArray) (w2 : a2.size ≤ maxLen) (v3 : Value) (a3 : Bs) (w : World) (T : Tab w) (s1 : SliceIs w v1 a1) (s3 : BytesAt w.heap.size w v3 a3) :
    Calls Tryz.prog 4 #[.int .i64 a0, v1, .string a2, v3] w fun e w' => e = .returned (.bool true) ∧ Below w.heap.size w w' := by
  have K := known_any w T
  obtain ⟨l, rfl⟩ : ∃ l, a2 = bs l := ⟨_, bs_of a2⟩
  have hsz := bs_size l
  obtain ⟨ip, ic, rfl, hic, him, _⟩ := id s3
  by_cases hl : 600 < (l.length : Int)
  · go_enter Tryz.func4, Tryz.ntmps4
    go_wp2_with fail
    refine K.mono ?_
    rintro e wk ⟨rfl, hbk⟩
    go_wp2_with fail
    go_ret
    exact ⟨rfl, hbk⟩
  · have hlI : ¬ 600 < (l.length : Int) := hl
    by_cases hi : 4096 < (a3.length : Int)
    · go_enter Tryz.func4, Tryz.ntmps4
      go_wp2_with fail
      refine K.mono ?_
      rintro e wk ⟨rfl, hbk⟩
      go_wp2_with fail
      go_ret
      exact ⟨rfl, hbk⟩
    · have hiI : ¬ 4096 < (a3.length : Int) := hi
      go_enter Tryz.func4, Tryz.ntmps4
      go_wp2_with fail
      refine K.mono ?_
      rintro e wk ⟨rfl, hbk⟩
      clear K
      have W1 := within11_any a0 1073741824 (by omega) (by omega)
      have n0 := Int.emod_nonneg a0 (show (1073741824 : Int) ≠ 0 by decide)
      have n1 := Int.emod_lt_of_pos a0 (show (0 : Int) < 1073741824 by decide)
      go_wp2_with fail
      refine (W1 wk).mono ?_
      rintro e wk1 ⟨rfl, rfl⟩
      generalize a0 % 1073741824 = n at *
      go_wp2_with fail
      refine (make_any n n0 n1 wk).mono ?_
      rintro e x1 ⟨rq, hr, rfl, hb1⟩
      have B1 := hbk.trans (hb1.mono hbk.size)
      obtain ⟨_, hn12, ht600⟩ := right_fits hr
      have hQ := headQ_len rq
      rw [tailB_any] at hQ
      have Q := fun W T => request_any rq hr W T
      have hnz := bs_size rq.name
      have htz := bs_size rq.text
      generalize headed 2 (reqB rq) = hb at *
      obtain ⟨kd, nm, tx, vl⟩ := rq
      unfold rqVal at Q ⊢
      simp only at Q hQ hnz htz hn12 ht600 ⊢
      clear hb1 W1 hbk hr
      have hb2 := below_new x1 (.cells #[.int .i64 kd, .string (bs nm), .string (bs tx), .int .i64 vl] 25)
      have L2 := heap_alloc_new x1 (.cells #[.int .i64 kd, .string (bs nm), .string (bs tx), .int .i64 vl] 25)
      have B2 := B1.trans (hb2.mono B1.size)
      have kk : kd = 1 ∨ kd = 3 ∨ kd = 5 ∨ (¬ kd = 1 ∧ ¬ kd = 3 ∧ ¬ kd = 5) := by omega
      rcases kk with hk | hk | hk | ⟨hk1, hk3, hk5⟩
      · have k1b : (kd == 1) = true := by simpa using hk
        rw [if_pos (Or.inl hk)] at hQ
        have hE : ((hb.length : Int) == 4 + (nm.length : Int) + 2 + (tx.length : Int)) = true := by simp only [beq_iff_eq]; omega
        clear hk hQ
        go_upto_region 13 with fail
        generalize x1.alloc (.cells #[.int .i64 kd, .string (bs nm), .string (bs tx), .int .i64 vl] 25) = x2 at *
        generalize x1.heap.size = b at *
        clear B1 hb2
        go_wp2_with fail
        refine (mkresp_any v1 a1 l ip a3.length ic x2 (s1.later B2) w1).mono ?_
        rintro e x3 ⟨dv, rfl, hD, hb3⟩
        have B3 := B2.trans (hb3.mono B2.size)
        have L3 := (hb3.block b (Array.getElem?_eq_some_iff.1 L2).1).trans L2
        have hr := rpOf_right a1 l a3 (by omega) (by omega)
        obtain ⟨_, _, hdn, _, hdf⟩ := rp_sizes hr
        have RS := fun W T hI hD => response_any (rpOf a1 l a3) (.slice ip a3.length ic) dv hr W T hI hD
        have hRl := headR_len (rpOf a1 l a3)
        generalize headed 3 (respB (rpOf a1 l a3)) = hr3 at *
        unfold rpOf at RS hRl hdn hdf
        simp only at RS hRl hdn hdf
        generalize dgsOf a1 = ds at *
        generalize (a1.length : Int) % 15 = ev at *
        clear hr hb3 L2 B2
        obtain ⟨q, c, rfl, hdc, hdm, hqn, hcl⟩ := id hD
        have hb4 := below_new x3 (.cells #[.int .i64 ev, .string (bs l), .slice ip a3.length ic, .slice q ds.length c] 37)
        have L4 := heap_alloc_new x3 (.cells #[.int .i64 ev, .string (bs l), .slice ip a3.length ic, .slice q ds.length c] 37)
        have L4b := (hb4.block b (Array.getElem?_eq_some_iff.1 L3).1).trans L3
        have B4 := B3.trans (hb4.mono B3.size)
        have hD4 := hD.later hb4
        go_wp2_with fail
        generalize x3.alloc (.cells #[.int .i64 ev, .string (bs l), .slice ip a3.length ic, .slice q ds.length c] 37) = x4 at *
        generalize hbr : x3.heap.size = br at *
        obtain ⟨_, _, e4, _, _, _, hcl4⟩ := id hD4
        cases e4
        have a3c := cell_at L4 3 _ rfl
        have hbr4 := (Array.getElem?_eq_some_iff.1 L4).1
        clear hcl hD L3 B3 hb4
        go_loop [12, 13] (fun kv i => ∃ j : Nat, j ≤ ds.length ∧ i = .int .i64 j ∧ ((ds.take j).flatMap diagB).length ≤ 16 * j ∧ kv = .int .i64 (10 + (l.length : Int) + (a3.length : Int) + (((ds.take j).flatMap diagB).length : Int))) (fun _ i => ds.length - (intW i).toNat)
        case atStart => exact ⟨0, by omega, rfl, by simp, by simp⟩
        case round =>
          obtain ⟨j, hj, rfl, hacc, rfl⟩ := hrel
          by_cases hjl : j < ds.length
          · obtain ⟨d, hx⟩ : ∃ d, ds[j]? = some d := ⟨_, List.getElem?_eq_getElem hjl⟩
            obtain ⟨y0, _, _⟩ := dgs_get ds j d hx
            have hf12 := hdf d (List.mem_of_getElem? hx)
            have hfz := bs_size d.frag
            have hst : Hid _ := acc_step ds j d hx
            have hjI : (j : Int) < (ds.length : Int) := by omega
            have hj0 : (0 : Int) ≤ (j : Int) := by omega
            cases q with
            | none => have := hqn rfl; omega
            | some qa =>
            obtain ⟨g, o, rfl, hgL, hcl'⟩ := hcl4 qa rfl
            have y0' := hcl' _ _ y0
            generalize ((ds.take j).flatMap diagB).length = acc at *
            clear hcl4 hcl' y0 hx hdf Q RS hRl
            go_wp2_with fail
            go_round
            case rel => exact ⟨j + 1, by omega, by go_num, by rw [hst.out]; omega, by rw [hst.out]; go_num⟩
            case measure => simp [intW]; omega
          · have h2 : ((ds.take j).flatMap diagB).length = (ds.flatMap diagB).length := by
              have hjl' : j = ds.length := by omega
              rw [hjl', List.take_length]
            have hk : (10 + (l.length : Int) + (a3.length : Int) + (((ds.take j).flatMap diagB).length : Int)) = (hr3.length : Int) := by omega
            rw [hk]
            have hjI : ¬ (j : Int) < (ds.length : Int) := by omega
            have hB : Hid (Below w.heap.size w x4) := B4
            have c0 := cell_at L4b 0 _ rfl
            have c1 := cell_at L4b 1 _ rfl
            have c2 := cell_at L4b 2 _ rfl
            have c3 := cell_at L4b 3 _ rfl
            clear hk h2 hRl hacc hcl4 hdf hqn
            go_wp2_with fail
            refine (Q x4 (T.later B4)).mono ?_
            rintro e x5 ⟨va, rfl, hOa, hb5⟩
            have B5 := B4.trans (hb5.mono B4.size)
            obtain ⟨pa, ca, rfl⟩ := row_slice hOa
            have L5 := (hb5.block br hbr4).trans L4
            have d0 := cell_at L5 0 _ rfl
            have d1 := cell_at L5 1 _ rfl
            have d2 := cell_at L5 2 _ rfl
            have d3 := cell_at L5 3 _ rfl
            have hD5 := (hD4.later (hb5.mono (Nat.le_of_lt hbr4))).mono (Nat.le_trans (Nat.le_of_lt hbr4) hb5.size)
            clear Q c0 c1 c2 c3 a3c L4 L4b L5 hb5 hD4 hOa B4 hB
            go_wp2_with fail
            refine (RS x5 (T.later B5) ((s3.later B5).mono B5.size) hD5).mono ?_
            rintro e x6 ⟨vb, rfl, hOb, hb6⟩
            obtain ⟨pb, cb, rfl⟩ := row_slice hOb
            have B6 := B5.trans (hb6.mono B5.size)
            clear RS d0 d1 d2 d3 hD5 hOb hb6 B5
            go_wp2_with fail
            go_ret
            exact ⟨by simp, B6⟩
      · have k1b : (kd == 1) = false := by simp [hk]
        have k3b : (kd == 3) = true := by simpa using hk
        rw [if_pos (Or.inr hk)] at hQ
        have hE : ((hb.length : Int) == 4 + (nm.length : Int) + 2 + (tx.length : Int)) = true := by simp only [beq_iff_eq]; omega
        clear hk hQ
        go_upto_region 13 with fail
        generalize x1.alloc (.cells #[.int .i64 kd, .string (bs nm), .string (bs tx), .int .i64 vl] 25) = x2 at *
        generalize x1.heap.size = b at *
        clear B1 hb2
        go_wp2_with fail
        refine (mkresp_any v1 a1 l ip a3.length ic x2 (s1.later B2) w1).mono ?_
        rintro e x3 ⟨dv, rfl, hD, hb3⟩
        have B3 := B2.trans (hb3.mono B2.size)
        have L3 := (hb3.block b (Array.getElem?_eq_some_iff.1 L2).1).trans L2
        have hr := rpOf_right a1 l a3 (by omega) (by omega)
        obtain ⟨_, _, hdn, _, hdf⟩ := rp_sizes hr
        have RS := fun W T hI hD => response_any (rpOf a1 l a3) (.slice ip a3.length ic) dv hr W T hI hD
        have hRl := headR_len (rpOf a1 l a3)
        generalize headed 3 (respB (rpOf a1 l a3)) = hr3 at *
        unfold rpOf at RS hRl hdn hdf
        simp only at RS hRl hdn hdf
        generalize dgsOf a1 = ds at *
        generalize (a1.length : Int) % 15 = ev at *
        clear hr hb3 L2 B2
        obtain ⟨q, c, rfl, hdc, hdm, hqn, hcl⟩ := id hD
        have hb4 := below_new x3 (.cells #[.int .i64 ev, .string (bs l), .slice ip a3.length ic, .slice q ds.length c] 37)
        have L4 := heap_alloc_new x3 (.cells #[.int .i64 ev, .string (bs l), .slice ip a3.length ic, .slice q ds.length c] 37)
        have L4b := (hb4.block b (Array.getElem?_eq_some_iff.1 L3).1).trans L3
        have B4 := B3.trans (hb4.mono B3.size)
        have hD4 := hD.later hb4
        go_wp2_with fail
        generalize x3.alloc (.cells #[.int .i64 ev, .string (bs l), .slice ip a3.length ic, .slice q ds.length c] 37) = x4 at *
        generalize hbr : x3.heap.size = br at *
        obtain ⟨_, _, e4, _, _, _, hcl4⟩ := id hD4
        cases e4
        have a3c := cell_at L4 3 _ rfl
        have hbr4 := (Array.getElem?_eq_some_iff.1 L4).1
        clear hcl hD L3 B3 hb4
        go_loop [12, 13] (fun kv i => ∃ j : Nat, j ≤ ds.length ∧ i = .int .i64 j ∧ ((ds.take j).flatMap diagB).length ≤ 16 * j ∧ kv = .int .i64 (10 + (l.length : Int) + (a3.length : Int) + (((ds.take j).flatMap diagB).length : Int))) (fun _ i => ds.length - (intW i).toNat)
        case atStart => exact ⟨0, by omega, rfl, by simp, by simp⟩
        case round =>
          obtain ⟨j, hj, rfl, hacc, rfl⟩ := hrel
          by_cases hjl : j < ds.length
          · obtain ⟨d, hx⟩ : ∃ d, ds[j]? = some d := ⟨_, List.getElem?_eq_getElem hjl⟩
            obtain ⟨y0, _, _⟩ := dgs_get ds j d hx
            have hf12 := hdf d (List.mem_of_getElem? hx)
            have hfz := bs_size d.frag
            have hst : Hid _ := acc_step ds j d hx
            have hjI : (j : Int) < (ds.length : Int) := by omega
            have hj0 : (0 : Int) ≤ (j : Int) := by omega
            cases q with
            | none => have := hqn rfl; omega
            | some qa =>
            obtain ⟨g, o, rfl, hgL, hcl'⟩ := hcl4 qa rfl
            have y0' := hcl' _ _ y0
            generalize ((ds.take j).flatMap diagB).length = acc at *
            clear hcl4 hcl' y0 hx hdf Q RS hRl
            go_wp2_with fail
            go_round
            case rel => exact ⟨j + 1, by omega, by go_num, by rw [hst.out]; omega, by rw [hst.out]; go_num⟩
            case measure => simp [intW]; omega
          · have h2 : ((ds.take j).flatMap diagB).length = (ds.flatMap diagB).length := by
              have hjl' : j = ds.length := by omega
              rw [hjl', List.take_length]
            have hk : (10 + (l.length : Int) + (a3.length : Int) + (((ds.take j).flatMap diagB).length : Int)) = (hr3.length : Int) := by omega
            rw [hk]
            have hjI : ¬ (j : Int) < (ds.length : Int) := by omega
            have hB : Hid (Below w.heap.size w x4) := B4
            have c0 := cell_at L4b 0 _ rfl
            have c1 := cell_at L4b 1 _ rfl
            have c2 := cell_at L4b 2 _ rfl
            have c3 := cell_at L4b 3 _ rfl
            clear hk h2 hRl hacc hcl4 hdf hqn
            go_wp2_with fail
            refine (Q x4 (T.later B4)).mono ?_
            rintro e x5 ⟨va, rfl, hOa, hb5⟩
            have B5 := B4.trans (hb5.mono B4.size)
            obtain ⟨pa, ca, rfl⟩ := row_slice hOa
            have L5 := (hb5.block br hbr4).trans L4
            have d0 := cell_at L5 0 _ rfl
            have d1 := cell_at L5 1 _ rfl
            have d2 := cell_at L5 2 _ rfl
            have d3 := cell_at L5 3 _ rfl
            have hD5 := (hD4.later (hb5.mono (Nat.le_of_lt hbr4))).mono (Nat.le_trans (Nat.le_of_lt hbr4) hb5.size)
            clear Q c0 c1 c2 c3 a3c L4 L4b L5 hb5 hD4 hOa B4 hB
            go_wp2_with fail
            refine (RS x5 (T.later B5) ((s3.later B5).mono B5.size) hD5).mono ?_
            rintro e x6 ⟨vb, rfl, hOb, hb6⟩
            obtain ⟨pb, cb, rfl⟩ := row_slice hOb
            have B6 := B5.trans (hb6.mono B5.size)
            clear RS d0 d1 d2 d3 hD5 hOb hb6 B5
            go_wp2_with fail
            go_ret
            exact ⟨by simp, B6⟩
      · have k1b : (kd == 1) = false := by simp [hk]
        have k3b : (kd == 3) = false := by simp [hk]
        have k5b : (kd == 5) = true := by simpa using hk
        rw [if_neg (by omega), if_pos hk] at hQ
        have hE : ((hb.length : Int) == 4 + (nm.length : Int) + 8) = true := by simp only [beq_iff_eq]; omega
        clear hk hQ
        go_upto_region 13 with fail
        generalize x1.alloc (.cells #[.int .i64 kd, .string (bs nm), .string (bs tx), .int .i64 vl] 25) = x2 at *
        generalize x1.heap.size = b at *
        clear B1 hb2
        go_wp2_with fail
        refine (mkresp_any v1 a1 l ip a3.length ic x2 (s1.later B2) w1).mono ?_
        rintro e x3 ⟨dv, rfl, hD, hb3⟩
        have B3 := B2.trans (hb3.mono B2.size)
        have L3 := (hb3.block b (Array.getElem?_eq_some_iff.1 L2).1).trans L2
        have hr := rpOf_right a1 l a3 (by omega) (by omega)
        obtain ⟨_, _, hdn, _, hdf⟩ := rp_sizes hr
        have RS := fun W T hI hD => response_any (rpOf a1 l a3) (.slice ip a3.length ic) dv hr W T hI hD
        have hRl := headR_len (rpOf a1 l a3)
        generalize headed 3 (respB (rpOf a1 l a3)) = hr3 at *
        unfold rpOf at RS hRl hdn hdf
        simp only at RS hRl hdn hdf
        generalize dgsOf a1 = ds at *
        generalize (a1.length : Int) % 15 = ev at *
        clear hr hb3 L2 B2
        obtain ⟨q, c, rfl, hdc, hdm, hqn, hcl⟩ := id hD
        have hb4 := below_new x3 (.cells #[.int .i64 ev, .string (bs l), .slice ip a3.length ic, .slice q ds.length c] 37)
        have L4 := heap_alloc_new x3 (.cells #[.int .i64 ev, .string (bs l), .slice ip a3.length ic, .slice q ds.length c] 37)
        have L4b := (hb4.block b (Array.getElem?_eq_some_iff.1 L3).1).trans L3
        have B4 := B3.trans (hb4.mono B3.size)
        have hD4 := hD.later hb4
        go_wp2_with fail
        generalize x3.alloc (.cells #[.int .i64 ev, .string (bs l), .slice ip a3.length ic, .slice q ds.length c] 37) = x4 at *
        generalize hbr : x3.heap.size = br at *
        obtain ⟨_, _, e4, _, _, _, hcl4⟩ := id hD4
        cases e4
        have a3c := cell_at L4 3 _ rfl
        have hbr4 := (Array.getElem?_eq_some_iff.1 L4).1
        clear hcl hD L3 B3 hb4
        go_loop [12, 13] (fun kv i => ∃ j : Nat, j ≤ ds.length ∧ i = .int .i64 j ∧ ((ds.take j).flatMap diagB).length ≤ 16 * j ∧ kv = .int .i64 (10 + (l.length : Int) + (a3.length : Int) + (((ds.take j).flatMap diagB).length : Int))) (fun _ i => ds.length - (intW i).toNat)
        case atStart => exact ⟨0, by omega, rfl, by simp, by simp⟩
        case round =>
          obtain ⟨j, hj, rfl, hacc, rfl⟩ := hrel
          by_cases hjl : j < ds.length
          · obtain ⟨d, hx⟩ : ∃ d, ds[j]? = some d := ⟨_, List.getElem?_eq_getElem hjl⟩
            obtain ⟨y0, _, _⟩ := dgs_get ds j d hx
            have hf12 := hdf d (List.mem_of_getElem? hx)
            have hfz := bs_size d.frag
            have hst : Hid _ := acc_step ds j d hx
            have hjI : (j : Int) < (ds.length : Int) := by omega
            have hj0 : (0 : Int) ≤ (j : Int) := by omega
            cases q with
            | none => have := hqn rfl; omega
            | some qa =>
            obtain ⟨g, o, rfl, hgL, hcl'⟩ := hcl4 qa rfl
            have y0' := hcl' _ _ y0
            generalize ((ds.take j).flatMap diagB).length = acc at *
            clear hcl4 hcl' y0 hx hdf Q RS hRl
            go_wp2_with fail
            go_round
            case rel => exact ⟨j + 1, by omega, by go_num, by rw [hst.out]; omega, by rw [hst.out]; go_num⟩
            case measure => simp [intW]; omega
          · have h2 : ((ds.take j).flatMap diagB).length = (ds.flatMap diagB).length := by
              have hjl' : j = ds.length := by omega
              rw [hjl', List.take_length]
            have hk : (10 + (l.length : Int) + (a3.length : Int) + (((ds.take j).flatMap diagB).length : Int)) = (hr3.length : Int) := by omega
            rw [hk]
            have hjI : ¬ (j : Int) < (ds.length : Int) := by omega
            have hB : Hid (Below w.heap.size w x4) := B4
            have c0 := cell_at L4b 0 _ rfl
            have c1 := cell_at L4b 1 _ rfl
            have c2 := cell_at L4b 2 _ rfl
            have c3 := cell_at L4b 3 _ rfl
            clear hk h2 hRl hacc hcl4 hdf hqn
            go_wp2_with fail
            refine (Q x4 (T.later B4)).mono ?_
            rintro e x5 ⟨va, rfl, hOa, hb5⟩
            have B5 := B4.trans (hb5.mono B4.size)
            obtain ⟨pa, ca, rfl⟩ := row_slice hOa
            have L5 := (hb5.block br hbr4).trans L4
            have d0 := cell_at L5 0 _ rfl
            have d1 := cell_at L5 1 _ rfl
            have d2 := cell_at L5 2 _ rfl
            have d3 := cell_at L5 3 _ rfl
            have hD5 := (hD4.later (hb5.mono (Nat.le_of_lt hbr4))).mono (Nat.le_trans (Nat.le_of_lt hbr4) hb5.size)
            clear Q c0 c1 c2 c3 a3c L4 L4b L5 hb5 hD4 hOa B4 hB
            go_wp2_with fail
            refine (RS x5 (T.later B5) ((s3.later B5).mono B5.size) hD5).mono ?_
            rintro e x6 ⟨vb, rfl, hOb, hb6⟩
            obtain ⟨pb, cb, rfl⟩ := row_slice hOb
            have B6 := B5.trans (hb6.mono B5.size)
            clear RS d0 d1 d2 d3 hD5 hOb hb6 B5
            go_wp2_with fail
            go_ret
            exact ⟨by simp, B6⟩
      · have k1b : (kd == 1) = false := by simpa using hk1
        have k3b : (kd == 3) = false := by simpa using hk3
        have k5b : (kd == 5) = false := by simpa using hk5
        rw [if_neg (by omega), if_neg hk5] at hQ
        have hE : ((hb.length : Int) == 4 + (nm.length : Int)) = true := by simp only [beq_iff_eq]; omega
        clear hk1 hk3 hk5 hQ
        go_upto_region 13 with fail
        generalize x1.alloc (.cells #[.int .i64 kd, .string (bs nm), .string (bs tx), .int .i64 vl] 25) = x2 at *
        generalize x1.heap.size = b at *
        clear B1 hb2
        go_wp2_with fail
        refine (mkresp_any v1 a1 l ip a3.length ic x2 (s1.later B2) w1).mono ?_
        rintro e x3 ⟨dv, rfl, hD, hb3⟩
        have B3 := B2.trans (hb3.mono B2.size)
        have L3 := (hb3.block b (Array.getElem?_eq_some_iff.1 L2).1).trans L2
        have hr := rpOf_right a1 l a3 (by omega) (by omega)
        obtain ⟨_, _, hdn, _, hdf⟩ := rp_sizes hr
        have RS := fun W T hI hD => response_any (rpOf a1 l a3) (.slice ip a3.length ic) dv hr W T hI hD
        have hRl := headR_len (rpOf a1 l a3)
        generalize headed 3 (respB (rpOf a1 l a3)) = hr3 at *
        unfold rpOf at RS hRl hdn hdf
        simp only at RS hRl hdn hdf
        generalize dgsOf a1 = ds at *
        generalize (a1.length : Int) % 15 = ev at *
        clear hr hb3 L2 B2
        obtain ⟨q, c, rfl, hdc, hdm, hqn, hcl⟩ := id hD
        have hb4 := below_new x3 (.cells #[.int .i64 ev, .string (bs l), .slice ip a3.length ic, .slice q ds.length c] 37)
        have L4 := heap_alloc_new x3 (.cells #[.int .i64 ev, .string (bs l), .slice ip a3.length ic, .slice q ds.length c] 37)
        have L4b := (hb4.block b (Array.getElem?_eq_some_iff.1 L3).1).trans L3
        have B4 := B3.trans (hb4.mono B3.size)
        have hD4 := hD.later hb4
        go_wp2_with fail
        generalize x3.alloc (.cells #[.int .i64 ev, .string (bs l), .slice ip a3.length ic, .slice q ds.length c] 37) = x4 at *
        generalize hbr : x3.heap.size = br at *
        obtain ⟨_, _, e4, _, _, _, hcl4⟩ := id hD4
        cases e4
        have a3c := cell_at L4 3 _ rfl
        have hbr4 := (Array.getElem?_eq_some_iff.1 L4).1
        clear hcl hD L3 B3 hb4
        go_loop [12, 13] (fun kv i => ∃ j : Nat, j ≤ ds.length ∧ i = .int .i64 j ∧ ((ds.take j).flatMap diagB).length ≤ 16 * j ∧ kv = .int .i64 (10 + (l.length : Int) + (a3.length : Int) + (((ds.take j).flatMap diagB).length : Int))) (fun _ i => ds.length - (intW i).toNat)
        case atStart => exact ⟨0, by omega, rfl, by simp, by simp⟩
        case round =>
          obtain ⟨j, hj, rfl, hacc, rfl⟩ := hrel
          by_cases hjl : j < ds.length
          · obtain ⟨d, hx⟩ : ∃ d, ds[j]? = some d := ⟨_, List.getElem?_eq_getElem hjl⟩
            obtain ⟨y0, _, _⟩ := dgs_get ds j d hx
            have hf12 := hdf d (List.mem_of_getElem? hx)
            have hfz := bs_size d.frag
            have hst : Hid _ := acc_step ds j d hx
            have hjI : (j : Int) < (ds.length : Int) := by omega
            have hj0 : (0 : Int) ≤ (j : Int) := by omega
            cases q with
            | none => have := hqn rfl; omega
            | some qa =>
            obtain ⟨g, o, rfl, hgL, hcl'⟩ := hcl4 qa rfl
            have y0' := hcl' _ _ y0
            generalize ((ds.take j).flatMap diagB).length = acc at *
            clear hcl4 hcl' y0 hx hdf Q RS hRl
            go_wp2_with fail
            go_round
            case rel => exact ⟨j + 1, by omega, by go_num, by rw [hst.out]; omega, by rw [hst.out]; go_num⟩
            case measure => simp [intW]; omega
          · have h2 : ((ds.take j).flatMap diagB).length = (ds.flatMap diagB).length := by
              have hjl' : j = ds.length := by omega
              rw [hjl', List.take_length]
            have hk : (10 + (l.length : Int) + (a3.length : Int) + (((ds.take j).flatMap diagB).length : Int)) = (hr3.length : Int) := by omega
            rw [hk]
            have hjI : ¬ (j : Int) < (ds.length : Int) := by omega
            have hB : Hid (Below w.heap.size w x4) := B4
            have c0 := cell_at L4b 0 _ rfl
            have c1 := cell_at L4b 1 _ rfl
            have c2 := cell_at L4b 2 _ rfl
            have c3 := cell_at L4b 3 _ rfl
            clear hk h2 hRl hacc hcl4 hdf hqn
            go_wp2_with fail
            refine (Q x4 (T.later B4)).mono ?_
            rintro e x5 ⟨va, rfl, hOa, hb5⟩
            have B5 := B4.trans (hb5.mono B4.size)
            obtain ⟨pa, ca, rfl⟩ := row_slice hOa
            have L5 := (hb5.block br hbr4).trans L4
            have d0 := cell_at L5 0 _ rfl
            have d1 := cell_at L5 1 _ rfl
            have d2 := cell_at L5 2 _ rfl
            have d3 := cell_at L5 3 _ rfl
            have hD5 := (hD4.later (hb5.mono (Nat.le_of_lt hbr4))).mono (Nat.le_trans (Nat.le_of_lt hbr4) hb5.size)
            clear Q c0 c1 c2 c3 a3c L4 L4b L5 hb5 hD4 hOa B4 hB
            go_wp2_with fail
            refine (RS x5 (T.later B5) ((s3.later B5).mono B5.size) hD5).mono ?_
            rintro e x6 ⟨vb, rfl, hOb, hb6⟩
            obtain ⟨pb, cb, rfl⟩ := row_slice hOb
            have B6 := B5.trans (hb6.mono B5.size)
            clear RS d0 d1 d2 d3 hD5 hOb hb6 B5
            go_wp2_with fail
            go_ret
            exact ⟨by simp, B6⟩

/-! ### The row's step -/
set_option maxRecDepth 100000 in
theorem lifted (os : Os) (started : os.Started) (H : Type) (enc : TypeId × Value → H) :
    ReturnsInHanded {} Tryz.checked os 4 .any (fun w args => (Rows.frameBytesSpec.pre enc Tryz.prog Tryz.f4 [] false w args ∧ laidMetH Tryz.prog laid8 w) ∧ sizedMet enc Tryz.prog Tryz.f4 (OpenSpec.ofChange Rows.frameBytesSpec) false w args)
      (Rows.frameBytesSpec.post enc Tryz.prog Tryz.f4 false true false false) := by
  refine returnsInHanded_of_change_and (C := Tryz.checked) (X := fun w _ => laidMetH Tryz.prog laid8 w) (fun _ _ _ hh h => h.of_heap hh) own started (by kernel_rfl) Tryz.func4
    (ChangeSpec.witness_shaped (enc := enc) (C := Tryz.checked) (os := os) (X := fun w _ => laidMetH Tryz.prog laid8 w) false (World.laidAll Tryz.prog os laid8) #[.int .i64 0, .slice none 0 0, .string ByteArray.empty, .slice none 0 0] 8 (World.laidAll_os _ _ _) (World.shaped_of_ZipB (by kernel_rfl) (by kernel_rfl)) (by kernel_rfl) (by kernel_rfl) (by kernel_rfl) (by rw [MakeChecks.laidMetH_plain _ _ _ (by kernel_rfl)]; exact laidMet_laidAll _ (by kernel_rfl) (by kernel_rfl))) ?_
  intro W base args ds gs before hval0 hW _ _ hL _
  have hval : ∀ (j : Nat) t v, Tryz.f4.params[j]? = some t → args[j]? = some v → Value.okWide Tryz.prog W .any base t v := hval0
  have hW' := hW
  obtain ⟨p, q, hA0, hV, rfl, hfz, hnd⟩ := hW
  have hA : DataW.TrodAll enc Tryz.prog W 0 (fun _ => true) true Tryz.f4.params.toList args.toList ds p := hA0
  rw [Tryz.params4] at hA hval
  obtain ⟨v0, vs0, d0, ds0, p0, q0, hargs, rfl, rfl, h0, r0⟩ := trodAll_cons hA
  obtain ⟨v1, vs1, d1, ds1, p1, q1, rfl, rfl, rfl, h1, r1⟩ := trodAll_cons r0
  obtain ⟨v2, vs2, d2, ds2, p2, q2, rfl, rfl, rfl, h2, r2⟩ := trodAll_cons r1
  obtain ⟨v3, vs3, d3, ds3, p3, q3, rfl, rfl, rfl, h3, r3⟩ := trodAll_cons r2
  obtain ⟨rfl, rfl, rfl⟩ := trodAll_nil r3
  obtain rfl : args = #[v0, v1, v2, v3] := by cases args; simp_all
  obtain ⟨rfl, rfl⟩ := trodVars_none hV
  obtain ⟨a0, rfl, rfl, rfl, w0⟩ := open_int Tryz.underlying3 (hval 0 3 v0 rfl rfl) h0
  have k1 := h1
  obtain ⟨a1, s1, w1, l1⟩ := open_ints' (hval 1 33 v1 rfl rfl) h1
  obtain ⟨a2, rfl, rfl, rfl, w2⟩ := open_string Tryz.underlying9 (hval 2 9 v2 rfl rfl) h2
  have k3 := h3
  obtain ⟨a3, s3⟩ := open_bytesB (hval 3 26 v3 rfl rfl) h3
  clear hA0 hval0
  simp only [List.append_nil, List.nil_append] at hW'
  have hlt : ∀ x ∈ p1 ++ p3, x.block < W.heap.size := fun x hx => by simpa using hW'.lt x (by simpa [or_assoc] using hx)
  refine (walk a0 w0 v1 a1 w1 l1 a2 w2 v3 a3 W (tab_of_laid hL) s1 s3).mono fun e W' ⟨he, hg⟩ => ?_
  subst he
  exact ⟨_, rfl, _, _, _, [], _, [], hW', (trodAll_cons_mk (shut_bool Tryz.underlying4 _) trodAll_mk0), (trodAll_cons_mk (shut_int Tryz.underlying3 w0) (trodAll_cons_mk (Below.trod laidOut (by kernel_rfl) (of_decide_eq_true (by kernel_rfl)) k1 hg (fun x hx => hlt x (by simp [hx]))) (trodAll_cons_mk (shut_string Tryz.underlying9 w2) (trodAll_cons_mk (Below.trod laidOut (by kernel_rfl) (of_decide_eq_true (by kernel_rfl)) k3 hg (fun x hx => hlt x (by simp [hx]))) trodAll_mk0)))), rfl, hg.frame _, fun h => by cases h⟩

theorem row : Rows.FrameBytesSaid :=
  OpenClaim.holds_of_wide 4 Tryz.f4 rfl rfl rfl rfl rfl rfl rfl ⟨rfl, rfl, rfl, rfl, rfl⟩ rfl rfl rfl rfl rfl (by kernel_rfl) Tryz.func4 (by kernel_rfl)
    (of_decide_eq_true (by kernel_rfl)) (by unfold Func.isWrapper; first | (rw [if_pos (by decide +kernel)]; kernel_rfl) | (rw [if_neg (by decide +kernel)]; exact ⟨rfl, rfl⟩))
    (fun os started H enc _ => lifted os started H enc)

/-- The statement. -/
theorem proved : Rows.FrameBytesCardSaid :=
  Claim7.holds_tied_plain_at .later [] [.data, .data, .data, .data, .sentinel, .sentinel, .data, .pinned] true (true, "08a89a5e6364c45d122e8fb79607955d50091ce8c52acdef0af13553d2760fe6") true
    row (fun _ h => by cases h) (by kernel_rfl) (fun _ h => by cases h) frameBytes_row_tie rfl ⟨rfl, rfl⟩ (by kernel_rfl) rfl
    (fun f fn hf hfn => by
      obtain rfl : f = 4 := Option.some.inj ((show Tryz.prog.funcNamed "letterpress/letterpresslaw11.FrameBytes" = some 4 by kernel_rfl).symm.trans hf) |>.symm
      obtain rfl : fn = Tryz.f4 := (Option.some.inj (Tryz.func4.symm.trans hfn)).symm
      exact ⟨by kernel_rfl, fun j t ht => by
        rw [Tryz.params4] at ht
        have hm : t ∈ [3, 33, 9, 26] := by simpa using Array.mem_of_getElem? ht
        have hall : ([3, 33, 9, 26].all fun u => !Tryz.prog.wantsStandIn u) = true := by kernel_rfl
        exact (show Tryz.prog.wantsStandIn t = false by simpa using List.all_eq_true.1 hall t hm)⟩)
    (by kernel_rfl)
#print axioms proved
end Go.Proofs.YtkaclahcpmogaabGreatDoor.frameBytes
