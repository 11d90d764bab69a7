/- The contract of the reference's Decode. -/
import Derived.Test.YtnmclpphiajleaaDoorRefTake
import Derived.Test.YtnmclpphiajleaaDoorRefHit
import Derived.Test.YtnmclpphiajleaaDoorArgs2
import Derived.BigQuiet
import Derived.Deep.RegionLaw
import Derived.Deep.Cut
import Derived.Deep.CutRange
namespace Go.Proofs.YtnmclpphiajleaaDoor
open Go.ChangeShapes Go.WideShapes Go.ChangeAt Go.RowKit
open Plain
set_option linter.unusedVariables false
set_option linter.unusedSimpArgs false

theorem fold_bounds : ∀ (l : List Int) (a : Int), AreBytes l → 0 ≤ a → 0 ≤ l.foldl (fun n c => n * 256 + c) a ∧ l.foldl (fun n c => n * 256 + c) a < (a + 1) * 256 ^ l.length
  | [], a, _, h => by simp; omega
  | c :: l, a, hb, h => by
    have hc := hb c (by simp)
    have ih := fold_bounds l (a * 256 + c) (fun x hx => hb x (by simp [hx])) (by omega)
    refine ⟨ih.1, ?_⟩
    have h2 : (a * 256 + c + 1) * 256 ^ l.length ≤ ((a + 1) * 256) * 256 ^ l.length := Int.mul_le_mul_of_nonneg_right (by omega) (Int.pow_nonneg (by omega))
    simp only [List.foldl_cons, List.length_cons]
    rw [Int.pow_succ, Int.mul_comm (256 ^ l.length) 256, ← Int.mul_assoc]
    exact Int.lt_of_lt_of_le ih.2 h2

theorem numB_bounds {l : List Int} (hb : AreBytes l) (h : l.length ≤ 3) : 0 ≤ numB l ∧ numB l < 16777216 := by
  have h1 := fold_bounds l 0 hb (by omega)
  have p : (256 : Int) ^ l.length ≤ 16777216 := by
    have h4 : l.length = 0 ∨ l.length = 1 ∨ l.length = 2 ∨ l.length = 3 := by omega
    rcases h4 with e | e | e | e <;> rw [e] <;> decide
  unfold numB
  refine ⟨h1.1, ?_⟩
  have h2 := h1.2
  rw [Int.zero_add, Int.one_mul] at h2
  exact Int.lt_of_lt_of_le h2 p

theorem numB_step {b : List Int} {j : Nat} {c : Int} (h : b[j]? = some c) : numB (b.take (j + 1)) = numB (b.take j) * 256 + c := by
  rw [List.take_add_one, h]
  exact numB_snoc _ _

theorem and1_u8 : ∀ k : Fin 16, bits .and .u8 (k.val : Int) 1 = (k.val : Int) % 2 := by decide +kernel

/-- Is the first byte one of four? -/
def longB : List Int → Bool
  | a :: _ => isLong a
  | [] => false

theorem refSize_eq (b : List Int) : refSize b = if longB b then 4 else 2 := by
  cases b with
  | nil => rfl
  | cons a l => rfl

theorem longB_of {b : List Int} {x : Int} (h : b[0]? = some x) : longB b = isLong x := by
  cases b with
  | nil => simp at h
  | cons a l => simp at h; subst h; rfl

theorem name_there {n : Nat} (h : n < 66) : (bs (rowP (n : Int)).name).toList.isEmpty = false := by
  rw [List.isEmpty_eq_false_iff]
  obtain ⟨_, _, _, h4⟩ := rows2_row ⟨n, h⟩
  rw [ByteArray.toList_eq]
  unfold bs
  simpa using h4

theorem name_none : bs (rowP 66).name = bs [] := by
  rw [rowP_out 66 (by omega)]
  rfl

theorem decodeP_hit {b : List Int} (h : refSize b ≤ b.length) (n : Nat) (hf : firstP (refSize b : Int) (numB (b.take (refSize b))) 66 0 = some n) : decodeP b = some ((n : Int), tells (n : Int) (numB (b.take (refSize b))), (refSize b : Int)) := by
  unfold decodeP
  rw [lead_ref, if_pos h]
  simp [hf]

theorem decodeP_miss {b : List Int} (h : refSize b ≤ b.length) (hf : firstP (refSize b : Int) (numB (b.take (refSize b))) 66 0 = none) : decodeP b = none := by
  unfold decodeP
  rw [lead_ref, if_pos h]
  simp [hf]

theorem decodeP_few {b : List Int} (h : ¬ refSize b ≤ b.length) : decodeP b = none := by
  unfold decodeP
  rw [lead_ref, if_neg h]
  simp

theorem hit_ref {b : List Int} (hb : AreBytes b) (h : refSize b ≤ b.length) (op : Nat) : hitP (refSize b : Int) (numB (b.take (refSize b))) op = hitR (refSize b : Int) (numB (b.take (refSize b))) b op := by
  have hl : (leadP b).2.2 = true := by rw [lead_ref, if_pos h]
  have := hitR_eq hb hl op
  rw [lead_ref, if_pos h] at this
  exact this.symm

theorem num_ref {b : List Int} (hb : AreBytes b) (h : refSize b ≤ b.length) : 0 ≤ numB (b.take (refSize b)) ∧ numB (b.take (refSize b)) < 4294967296 := by
  have := leadP_bounds hb
  rw [lead_ref, if_pos h] at this
  exact this

theorem below_draws {H : Nat} {v W : World} (h : Below H v W) (n : Nat) : Below H v (W.drewN n) := h.trans ⟨rfl, rfl, rfl, Nat.le_refl _, fun _ _ => rfl⟩

set_option maxHeartbeats 3200000 in
set_option maxRecDepth 20000 in
theorem refDecode_any (v : Value) (b : List Int) (w : World) (hB : BytesAt w v b) (hb : AreBytes b) (hm : b.length ≤ maxLen) :
    Calls Tryd.prog 9 #[v] w fun e w' => Below w.heap.size w w' ∧ Decoded w w' e (decodeP b) := by
  have hb0 : Below w.heap.size w (w.alloc (.cells #[.int .i64 0, .slice none 0 0] 28)) := (Below.refl _ _).alloc (Nat.le_refl _) _
  have hsz0 : (w.alloc (.cells #[.int .i64 0, .slice none 0 0] 28)).heap.size = w.heap.size + 1 := by simp
  have cA := new_cell (w := w) (t := 28) #[.int .i64 0, .slice none 0 0] 0 (.int .i64 0) rfl
  have cB := new_cell (w := w) (t := 28) #[.int .i64 0, .slice none 0 0] 1 (.slice none 0 0) rfl
  have f0 := new_thawed (w := w) (t := 28) #[.int .i64 0, .slice none 0 0] 0
  have f1 := new_thawed (w := w) (t := 28) #[.int .i64 0, .slice none 0 0] 1
  have hB := hB.later hb0
  obtain ⟨p, cap, rfl, hcap, hB⟩ := hB
  go_enter Tryd.func9, Tryd.ntmps9
  go_upto_region 2 with fail
  generalize w.alloc (.cells #[.int .i64 0, .slice none 0 0] 28) = w1 at *
  go_cut [31] from 14 (fun s wx => s = .bool (longB b) ∧ w1 = wx)
  case first =>
    by_cases h0 : b.length = 0
    · have h0' : ¬ (0 : Int) < (b.length : Int) := by omega
      have e0 : longB b = false := by rw [List.length_eq_zero_iff.1 h0]; rfl
      clear h0
      go_wp2
      go_meet
      case rel => exact ⟨by rw [e0], rfl⟩
    · have h0' : (0 : Int) < (b.length : Int) := by omega
      obtain ⟨x, hx⟩ : ∃ x, b[0]? = some x := ⟨_, List.getElem?_eq_getElem (by omega)⟩
      obtain ⟨g, o, rfl, hC⟩ := hB (by rintro rfl; simp at hx)
      have c0 := hC 0 x hx
      rw [Nat.add_zero] at c0
      obtain ⟨x0, x1⟩ := hb x (List.mem_of_getElem? hx)
      have e0 : Hid (longB b = isLong x) := longB_of hx
      have hand : bits .and .u8 (x / 16) 1 = x / 16 % 2 := by
        have := and1_u8 ⟨(x / 16).toNat, by omega⟩
        have e : (((x / 16).toNat : Nat) : Int) = x / 16 := by omega
        simpa [e] using this
      clear hC hx hB
      by_cases h8 : x / 16 < 8
      · have hq : x / 16 % 2 = 0 ∨ x / 16 % 2 = 1 := by omega
        rcases hq with hq | hq
        · rw [hq] at hand
          have e1 : Hid (isLong x = false) := by show _ = _; unfold isLong; simp; omega
          clear hq
          go_wp2
          go_meet
          case rel => exact ⟨by rw [e0.out, e1.out], rfl⟩
        · rw [hq] at hand
          have e1 : Hid (isLong x = true) := by show _ = _; unfold isLong; simp; omega
          clear hq
          go_wp2
          go_meet
          case rel => exact ⟨by rw [e0.out, e1.out], rfl⟩
      · have e1 : Hid (isLong x = false) := by show _ = _; unfold isLong; simp; omega
        clear hand
        go_wp2
        go_meet
        case rel => exact ⟨by rw [e0.out, e1.out], rfl⟩
  case rest =>
    obtain ⟨rfl, rfl⟩ := hcut
    go_upto_if 31 with fail
    go_cut [5] from 14 (fun s wx => s = .int .i64 (refSize b : Int) ∧ w1 = wx)
    case first =>
      cases hl : longB b with
      | false =>
        go_wp2
        go_meet
        case rel => exact ⟨by rw [refSize_eq, hl]; rfl, rfl⟩
      | true =>
        go_wp2
        go_meet
        case rel => exact ⟨by rw [refSize_eq, hl]; rfl, rfl⟩
    case rest =>
      obtain ⟨rfl, rfl⟩ := hcut
      by_cases hlen : refSize b ≤ b.length
      · have hit := fun op => hit_ref hb hlen op
        have xb := num_ref hb hlen
        have hL : refSize b = 2 ∨ refSize b = 4 := by rw [refSize_eq]; split <;> simp
        have hdecS : Hid (∀ n : Nat, _ → decodeP b = _) := fun n hf => decodeP_hit hlen n hf
        have hdecN : Hid (_ → decodeP b = none) := fun hf => decodeP_miss hlen hf
        obtain ⟨g, o, rfl, hC⟩ := hB (by rintro rfl; simp [refSize] at hlen)
        clear hB
        generalize hx : numB (b.take (refSize b)) = x at *
        generalize refSize b = L at *
        obtain ⟨x0, x1⟩ := xb
        have hlI : ¬ (b.length : Int) < (L : Int) := by omega
        replace hx : Hid (numB (b.take L) = x) := hx
        replace hit : Hid (∀ op : Nat, hitP (L : Int) x op = hitR (L : Int) x b op) := hit
        replace hC : Hid (∀ (i : Nat) (y : Int), b[i]? = some y → w1.cell? ⟨g, o + i, none⟩ = some (.int .u8 y)) := hC
        go_wp2
        go_loopw [6, 7] (fun n i wr => ∃ j : Nat, j ≤ L ∧ i = .int .i64 j ∧ n = .int .i64 (numB (b.take j)) ∧ w1 = wr) (fun _ i _ => L - (intOf i).toNat)
        case atStart => exact ⟨0, by omega, rfl, rfl, rfl⟩
        case round =>
          obtain ⟨j, hj, rfl, rfl, rfl⟩ := hrel
          by_cases hjn : j < L
          · obtain ⟨c, hc⟩ : ∃ c, b[j]? = some c := ⟨_, List.getElem?_eq_getElem (by omega)⟩
            have cc := hC.out j c hc
            obtain ⟨k0, k1⟩ := hb c (List.mem_of_getElem? hc)
            have hst : Hid (numB (b.take (j + 1)) = numB (b.take j) * 256 + c) := numB_step hc
            obtain ⟨n0, n1⟩ := numB_bounds (l := b.take j) (fun y hy => hb y (List.mem_of_mem_take hy)) (by rw [List.length_take]; omega)
            have hjI : (j : Int) < (L : Int) := by omega
            have hjb : (j : Int) < (b.length : Int) := by omega
            generalize numB (b.take j) = acc at *
            have e1 : bits .or .i64 (acc * 256) c = acc * 256 + c := or_i64 8 _ c (by omega) (by omega) (by omega) (by omega) (by omega) (by omega)
            clear hc
            go_wp2
            go_roundw
            case rel => exact ⟨j + 1, by omega, by go_num, by rw [hst.out], by trivial⟩
            case measure => simp [intOf]; omega
          · have hjn : L = j := by omega
            subst hjn
            rw [hx.out]
            clear hj hjn hx
            go_wp2
            go_loopw [8] (fun op wr => ∃ n : Nat, n ≤ 66 ∧ op = .int .i64 n ∧ Hid (firstP (L : Int) x (66 - n) n = firstP (L : Int) x 66 0) ∧ Below w1.heap.size w1 wr) (fun op _ => 66 - (intOf op).toNat)
            case atStart => exact ⟨0, by omega, rfl, rfl, Below.refl _ _⟩
            case round =>
              obtain ⟨n, hn, rfl, hfst, hbr⟩ := hrel
              have c1 := kept_cell hbr cA
              have c2 := kept_cell hbr cB
              have hb0' : w.heap.size < w1.heap.size := by omega
              have g0 := kept_thawed hbr hb0' f0
              have g1 := kept_thawed hbr hb0' f1
              have hAr : w.heap.size < wr.heap.size := Nat.lt_of_lt_of_le hb0' hbr.size
              have hbw := hb0.trans (hbr.mono hb0.size)
              clear hsz0
              by_cases hlt : n < 66
              · have hstep : Hid (firstP (L : Int) x (66 - n) n = _) := firstP_step (L : Int) x n hlt
                have hne := name_there hlt
                have hh : Hid (hitP (L : Int) x n = hitR (L : Int) x b n) := hit.out n
                go_wp2_with fail
                refine (refName_any n wr).mono ?_
                rintro e wa ⟨rfl, hba⟩
                have b1 := kept_cell hba c1
                have b2 := kept_cell hba c2
                have b3 := kept_thawed hba hAr g0
                have b4 := kept_thawed hba hAr g1
                have hAa : w.heap.size < wa.heap.size := Nat.lt_of_lt_of_le hAr hba.size
                have hra := hbr.trans (hba.mono hbr.size)
                clear c1 c2 g0 g1 hAr hbw
                go_wp2_with fail
                refine (refSize_any n wa).mono ?_
                rintro e wb ⟨rfl, hbb⟩
                have c1 := kept_cell hbb b1
                have c2 := kept_cell hbb b2
                have g0 := kept_thawed hbb hAa b3
                have g1 := kept_thawed hbb hAa b4
                have hAb : w.heap.size < wb.heap.size := Nat.lt_of_lt_of_le hAa hbb.size
                have hrb := hra.trans (hbb.mono hra.size)
                clear b1 b2 b3 b4 hAa hra hbr hba hbb
                by_cases hs : sizeP n = (L : Int)
                · rw [hs]
                  have hwd := rows_words _ (rowP_mem (n : Int))
                  obtain ⟨_, _, hk100, hn3, _, _⟩ := rows_fields _ (rowP_mem (n : Int))
                  have d0 := new_cell (w := wb) (t := 28) #[.int .i64 n, .slice none 0 0] 0 (.int .i64 n) rfl
                  have d1 := new_cell (w := wb) (t := 28) #[.int .i64 n, .slice none 0 0] 1 (.slice none 0 0) rfl
                  have e1 := new_thawed (w := wb) (t := 28) #[.int .i64 n, .slice none 0 0] 1
                  have hX1 : w1.heap.size ≤ wb.heap.size := hrb.size
                  have haa : Below wb.heap.size wb (wb.alloc (.cells #[.int .i64 n, .slice none 0 0] 28)) := (Below.refl _ _).alloc (Nat.le_refl _) _
                  replace c1 := kept_cell haa c1
                  replace c2 := kept_cell haa c2
                  replace g0 := kept_thawed haa hAb g0
                  replace g1 := kept_thawed haa hAb g1
                  have hX2 : (wb.alloc (.cells #[.int .i64 n, .slice none 0 0] 28)).heap.size = wb.heap.size + 1 := by simp
                  replace hrb := hrb.trans (haa.mono hrb.size)
                  have Kd := fun W => refKinds_any n W
                  have Wd := fun W => words_any (rowP (n : Int)).kinds (by omega) W
                  rw [hwd] at Wd
                  have htl : Hid (tells (n : Int) x = (rowP (n : Int)).ks.map fun k => k.tell x) := rfl
                  go_wp2_with fail
                  generalize wb.alloc (.cells #[.int .i64 n, .slice none 0 0] 28) = wA at *
                  refine (Kd _).mono ?_
                  rintro e wB ⟨rfl, hwB⟩
                  go_wp2_with fail
                  refine (Wd _).mono ?_
                  rintro e w3 ⟨tv, rfl, hTx, hwC⟩
                  obtain ⟨tp, tcap, rfl, hT⟩ := texts_form hTx
                  have hw3 : Below wA.heap.size wA w3 := hwB.trans (hwC.mono hwB.size)
                  replace c1 := kept_cell hw3 c1
                  replace c2 := kept_cell hw3 c2
                  replace d0 := kept_cell hw3 d0
                  replace d1 := kept_cell hw3 d1
                  replace g0 := kept_thawed hw3 (show w.heap.size < wA.heap.size by omega) g0
                  replace g1 := kept_thawed hw3 (show w.heap.size < wA.heap.size by omega) g1
                  replace e1 := kept_thawed hw3 (show wb.heap.size < wA.heap.size by omega) e1
                  replace hrb := hrb.trans (hw3.mono hrb.size)
                  have hX3 : wb.heap.size < w3.heap.size := by have := hw3.size; omega
                  have hBs : wb.heap.size < wB.heap.size := by have := hwB.size; omega
                  clear hw3 hX2 haa Kd Wd hTx hwB hwC hwd hne
                  generalize wb.heap.size = X at *
                  generalize (rowP (n : Int)).kinds = kt at *
                  generalize (rowP (n : Int)).ks = ks at *
                  generalize (rowP (n : Int)).name = nm at *
                  have hT : Hid (∀ (i : Nat) (k : K), ks[i]? = some k → ∃ g, tp = some ⟨g, 0, none⟩ ∧ wB.heap.size ≤ g ∧ w3.cell? ⟨g, i, none⟩ = some (.string (bs k.name))) := hT
                  go_wp2
                  go_loopw [11] (fun i wr => ∃ (j : Nat) (sl : Value), j ≤ ks.length ∧ i = .int .i64 j ∧ w3.grownBy wr (some X) ∧ wr.cell? ⟨X, 0, none⟩ = some (.int .i64 n) ∧ wr.cell? ⟨X, 1, none⟩ = some sl ∧ wr.frozen? ⟨X, 1, none⟩ = false ∧
                      wr.ownsRow w3.heap.size 3 1 sl j ((ks.take j).map fun k => Value.int .i64 (k.tell x))) (fun i _ => ks.length - (intOf i).toNat)
                  case atStart => exact ⟨0, .slice none 0 0, by omega, rfl, World.grownBy.refl _ _, d0, d1, e1, by simp, .inl ⟨rfl, rfl⟩⟩
                  case round =>
                    obtain ⟨j, sl, hj, rfl, hgr, x0c, x1c, xth, hown⟩ := hrel
                    by_cases hjn : j < ks.length
                    · obtain ⟨k, hk⟩ : ∃ k, ks[j]? = some k := ⟨_, List.getElem?_eq_getElem hjn⟩
                      obtain ⟨gt, rfl, hgt, htc⟩ := hT.out j k hk
                      have n1 := hgr.cell htc (by simp; omega)
                      have htk : Hid ((ks.take (j + 1)).map (fun k => Value.int .i64 (k.tell x)) = (ks.take j).map (fun k => Value.int .i64 (k.tell x)) ++ [.int .i64 (k.tell x)]) := by
                        show _ = _
                        rw [List.take_add_one, hk]; simp
                      have Oc : ∀ W, Calls Tryd.prog 26 #[.string (bs k.name), .int .i64 x] W fun e w' => e = .returned (.int .i64 (k.tell x)) ∧ Below W.heap.size W w' := fun W => (take_any' k x x0 x1 W).mono fun e w' h => ⟨h.2, h.1 ▸ Below.refl _ _⟩
                      have hXr : X < wr.heap.size := Nat.lt_of_lt_of_le hX3 hgr.size
                      have nX : sl.ownBlock ≠ some X := fun e => by have := (hown.lt _ e).1; omega
                      have hX5d : X < wr.drew.heap.size := hXr
                      have hb35 : w3.heap.size ≤ wr.drew.heap.size := hgr.size
                      have hown5d := hown.drew
                      have th5d : wr.drew.frozen? ⟨X, 1, none⟩ = false := xth
                      have x1d : wr.drew.cell? ⟨X, 1, none⟩ = some sl := x1c
                      have x0d : wr.drew.cell? ⟨X, 0, none⟩ = some (.int .i64 n) := x0c
                      have gdrew : wr.grownBy wr.drew (some X) := ⟨rfl, rfl, rfl, Nat.le_refl _, fun _ _ _ => rfl⟩
                      have hob : ∀ b, sl.ownBlock = some b → w3.heap.size ≤ b := fun b e => (hown.lt b e).1
                      have hnone : sl.ownBlock = none ∨ sl.ownBlock ≠ none := by cases sl.ownBlock <;> simp
                      obtain ⟨i0, hi0, hz0, hz2, hz3⟩ := info_parts info_int
                      have hjI : (j : Int) < (ks.length : Int) := by omega
                      clear hT htc hk hL hlt hn hlen hcap hm
                      generalize hy : k.tell x = y at *
                      clear hy
                      generalize bs k.name = kn at *
                      go_wp2_with fail
                      go_region_law
                        (first
                          | (refine step_enter (v := .int .i64 y) ?_ ?_ (Oc _) ?_; (rfl); (simp [execOp, Act.eval, go_sem, Tryd.func26]); intro wc hwc; have x1d := kept_cell hwc x1d; have hXc : X < wc.heap.size := Nat.lt_of_lt_of_le hX5d hwc.size)
                          | (refine step_append_lies _ (by rfl) _ _ _ (by rfl) w3.heap.size 3 i0 _ 1 8 Tryd.underlying23 hi0 hz0 hz2 hz3 rfl (by omega) sl j _ (by rfl) ((hown5d.kept (grown_of_below hwc none) hnone).alloc _)
                              ⟨wc.heap.size, 0, none⟩ 1 1 [.int .i64 y] (by rfl) (by rfl) (World.news_of_block (cs := #[.int .i64 y]) (t := 3) (fr := (0, 0)) (heap_alloc_new wc _)) (by simp [Value.oneCell']) (by omega) (by unfold maxLen; omega) (by omega) (Nat.le_trans hb35 (Nat.le_trans hwc.size (by simp))) (wc.heap.size + 1) (by simp) ?_; intro gg cap' w6 hown6 hgrow hat hlt6; have x6 := hgrow.cell (kept_alloc x1d) (Ne.symm nX); have hsz1 : wc.heap.size ≤ (wc.alloc (.cells #[.int .i64 y] 3)).heap.size := (by simp); have th6 : w6.frozen? ⟨X, 1, none⟩ = false := (hgrow.frozen_far ⟨X, 1, none⟩ (Nat.lt_of_lt_of_le hX5d (Nat.le_trans hwc.size hsz1)) (Ne.symm nX)).trans (kept_thawed ((Below.refl _ _).alloc (Nat.le_refl _) _) (Nat.lt_of_lt_of_le hX5d hwc.size) (kept_thawed hwc hX5d th5d))))
                      all_goals
                        have x06 := hgrow.cell (kept_alloc (kept_cell hwc x0d)) (Ne.symm nX)
                        have gr6 : w3.grownBy (w6.setCell ⟨X, 1, none⟩ (.slice (some ⟨gg, 0, none⟩) (j + 1) cap')) (some X) :=
                          (grown_then (((hgr.trans gdrew).trans (grown_of_below hwc _)).trans (grown_of_below ((Below.refl _ _).alloc (Nat.le_refl _) _) _)) hgrow hob).trans (grown_set _ _ _)
                        have ow6 := ownsRow_setCell_below hown6 (a := ⟨X, 1, none⟩) hX3 (.slice (some ⟨gg, 0, none⟩) (j + 1) cap')
                        rw [← htk.out] at ow6
                        have xx0 : (w6.setCell ⟨X, 1, none⟩ (.slice (some ⟨gg, 0, none⟩) (j + 1) cap')).cell? ⟨X, 0, none⟩ = some (.int .i64 n) := set_far x06
                        have xx1 : (w6.setCell ⟨X, 1, none⟩ (.slice (some ⟨gg, 0, none⟩) (j + 1) cap')).cell? ⟨X, 1, none⟩ = some (.slice (some ⟨gg, 0, none⟩) (j + 1) cap') := set_same x6
                        have xt1 : (w6.setCell ⟨X, 1, none⟩ (.slice (some ⟨gg, 0, none⟩) (j + 1) cap')).frozen? ⟨X, 1, none⟩ = false := set_thawed th6
                        clear hown6 hgrow hwc hat x1d hown5d hown hgr Oc
                        generalize w6.setCell ⟨X, 1, none⟩ (.slice (some ⟨gg, 0, none⟩) (j + 1) cap') = W7 at *
                        go_wp2
                        go_roundw
                        case rel => exact ⟨j + 1, _, by omega, by go_num, gr6, xx0, xx1, xt1, ow6⟩
                        case measure => simp [intOf]; omega
                    · have hjn : ks.length = j := by omega
                      subst hjn
                      rw [List.take_length] at hown
                      have hbw : Below w1.heap.size w1 wr := ⟨hgr.os.trans hrb.os, hgr.tape.trans hrb.tape, hgr.output.trans hrb.output, Nat.le_trans hrb.size hgr.size, fun k hk => (hgr.block k (by omega) (by simp; omega)).trans (hrb.block k hk)⟩
                      have hS : SliceIs wr sl (tells (n : Int) x) := by
                        rw [htl.out]
                        exact slice_of_row (base := w3.heap.size) (by simpa [Function.comp_def] using hown)
                      have hNw : ∀ W, W.ownsRow w3.heap.size 3 1 sl ks.length (ks.map fun k => Value.int .i64 (k.tell x)) → NewSlice w.heap.size W sl (tells (n : Int) x) := by
                        intro W hW
                        rw [htl.out]
                        exact new_of_row (base := w3.heap.size) (by omega) (by simpa [Function.comp_def] using hW)
                      have hRg : InRange (tells (n : Int) x) := by
                        rw [htl.out]
                        intro v hv
                        obtain ⟨k, _, rfl⟩ := List.mem_map.1 hv
                        exact tell_range k x
                      have hl3 : (tells (n : Int) x).length = ks.length := by rw [htl.out]; simp
                      have hlm : (tells (n : Int) x).length ≤ maxLen := by rw [hl3]; unfold maxLen; omega
                      have a1 := hgr.cell c1 (by simp; omega)
                      have a2 := hgr.cell c2 (by simp; omega)
                      have t0 := (hgr.frozen_far ⟨w.heap.size, 0, none⟩ (by show w.heap.size < w3.heap.size; omega) (by simp; omega)).trans g0
                      have t1 := (hgr.frozen_far ⟨w.heap.size, 1, none⟩ (by show w.heap.size < w3.heap.size; omega) (by simp; omega)).trans g1
                      have hAr : w.heap.size < wr.heap.size := by have := hgr.size; omega
                      have hXr : X < wr.heap.size := by have := hgr.size; omega
                      obtain ⟨ps, pl, pc, rfl⟩ : ∃ ps pl pc, sl = .slice ps pl pc := by obtain ⟨p, cap, e, _⟩ := hS; exact ⟨p, _, cap, e⟩
                      have hAX : w.heap.size ≠ X := by omega
                      have tk : AreBytes (b.take L) := fun y hy => hb y (List.mem_of_mem_take hy)
                      have tl : (b.take L).length = L := by rw [List.length_take]; omega
                      have tc : ∀ i y, (b.take L)[i]? = some y → wr.cell? ⟨g, o + i, none⟩ = some (.int .u8 y) := by
                        intro i y hy
                        rw [List.getElem?_take] at hy
                        split at hy
                        · exact kept_cell hbw (hC.out i y hy)
                        · simp at hy
                      have hip : isP (n : Int) = true := by unfold isP; simp; omega
                      clear hT hgr c1 c2 g0 g1 d0 d1 e1 hrb xth
                      cases hcd : (codedP (n : Int) (tells (n : Int) x)).2 with
                      | true =>
                        have E := refEncode_yes n _ (tells (n : Int) x) wr hS hRg hlm hcd
                        have hB4 := bytesP_bytes (sizeP (n : Int)) (codedP (n : Int) (tells (n : Int) x)).1
                        have lB := bytesP_length hip (codedP (n : Int) (tells (n : Int) x)).1
                        have hhit : Hid (hitP (L : Int) x n = decide (bytesP (sizeP (n : Int)) (codedP (n : Int) (tells (n : Int) x)).1 = b.take L)) := by
                          show _ = _
                          rw [hh.out]
                          unfold hitR
                          rw [hcd, hs]
                          simp
                        generalize bytesP (sizeP (n : Int)) (codedP (n : Int) (tells (n : Int) x)).1 = B at *
                        rw [hs] at lB
                        have TS := text_same hB4 tk
                        clear hcd hS hRg hlm hh hip
                        go_wp2_with fail
                        refine E.mono ?_
                        rintro e w7 ⟨ev, rfl, hb7, hev⟩
                        obtain ⟨ep, ec, rfl, ek, hev⟩ := hev
                        obtain ⟨eb, eo, rfl, hec⟩ := hev (by rintro rfl; simp at lB; omega)
                        have V1 := conv_any (W := w7) eb eo B.length ec B rfl hec
                        have V2 := conv_any (W := w7) g o L cap (b.take L) tl (fun i y hy => kept_cell hb7 (tc i y hy))
                        clear E hev hec tc
                        have z0 := kept_cell hb7 x0c
                        have z1 := kept_cell hb7 x1c
                        have y1 := kept_cell hb7 a1
                        have y2 := kept_cell hb7 a2
                        have y3 := kept_thawed hb7 hAr t0
                        have y4 := kept_thawed hb7 hAr t1
                        have y5 : w.heap.size < w7.heap.size := Nat.lt_of_lt_of_le hAr hb7.size
                        have hb7' := hbw.trans (hb7.mono hbw.size)
                        have hown7 := hown.kept (grown_of_below hb7 none) (by cases (Value.slice ps pl pc).ownBlock <;> simp)
                        have hLc : (L : Int) ≤ (cap : Int) := by omega
                        clear x0c x1c a1 a2 t0 t1 hbw hb7 hown
                        by_cases hq : B = b.take L
                        · have hfin : Hid (firstP (L : Int) x 66 0 = some n) := by
                            have h2 := hstep.out
                            rw [if_pos (by rw [hhit.out]; simp [hq])] at h2
                            exact hfst.out.symm.trans h2
                          rw [decide_eq_true hq] at TS
                          clear hq hhit hstep hfst hit
                          go_wp2_with fail
                          go_quiet (fail)
                          go_wp2
                          have hbe := below_draws (hb0.trans (hb7'.mono hb0.size)) nq
                          have hown8 := hown7.kept (⟨rfl, rfl, rfl, Nat.le_refl _, fun _ _ _ => rfl⟩ : w7.grownBy (w7.drewN nq) none) (by cases (Value.slice ps pl pc).ownBlock <;> simp)
                          have hwA : w.heap.size < w3.heap.size := by omega
                          exact bodyPost_ret (v := .tuple #[.agg #[.int .i64 n, .slice ps pl pc], .int .i64 L, .bool true]) (by simp [results, Tryd.results9, go_sem, y1, y2, y5, Nat.ne_of_lt y5]) rfl (by
                            rw [hdecS.out n hfin.out]
                            exact ⟨(hbe.setCell (Nat.le_refl _) _).setCell (Nat.le_refl _) _, _, rfl, hNw _ (ownsRow_setCell_below (ownsRow_setCell_below hown8 (a := ⟨w.heap.size, 0, none⟩) hwA _) (a := ⟨w.heap.size, 1, none⟩) hwA _)⟩)
                        · have hh2 : Hid (hitP (L : Int) x n = false) := by show _ = _; rw [hhit.out]; simp [hq]
                          rw [decide_eq_false hq] at TS
                          clear hq hhit
                          go_wp2_with fail
                          go_quiet (fail)
                          go_wp2
                          go_roundw
                          case rel => exact ⟨n + 1, by omega, by go_num, by have h2 := hstep.out; rw [if_neg (by simp [hh2.out])] at h2; exact h2.symm.trans hfst.out, below_draws hb7' _⟩
                          case measure => simp [intOf]; omega
                      | false =>
                        have hh2 : Hid (hitP (L : Int) x n = false) := by
                          show _ = _
                          rw [hh.out]
                          unfold hitR
                          rw [hcd]
                          simp
                        have E := refEncode_no n _ (tells (n : Int) x) wr hS hRg hlm hcd
                        clear hcd hS hRg hlm hh hip
                        go_wp2_with fail
                        refine E.mono ?_
                        rintro e w7 ⟨rfl, hb7⟩
                        have hb7' := hbw.trans (hb7.mono hbw.size)
                        clear E hb7 hbw tc hNw hown hl3
                        go_wp2_with fail
                        go_quiet (fail)
                        go_wp2
                        go_roundw
                        case rel => exact ⟨n + 1, by omega, by go_num, by have h2 := hstep.out; rw [if_neg (by simp [hh2.out])] at h2; exact h2.symm.trans hfst.out, below_draws hb7' _⟩
                        case measure => simp [intOf]; omega
                · have hh2 : Hid (hitP (L : Int) x n = false) := by show _ = _; unfold hitP; simp [hs]
                  have hs2 : (sizeP n == (L : Int)) = false := by simpa using hs
                  have hs3 : (sizeP n != (L : Int)) = true := by simpa using hs
                  go_wp2
                  go_roundw
                  case rel => exact ⟨n + 1, by omega, by go_num, by have h2 := hstep.out; rw [if_neg (by simp [hh2.out])] at h2; exact h2.symm.trans hfst.out, hrb⟩
                  case measure => simp [intOf]; omega
              · have hn66 : n = 66 := by omega
                subst hn66
                have hfin : Hid (firstP (L : Int) x 66 0 = none) := hfst.out.symm
                clear hfst
                go_wp2_with fail
                refine (refName_any 66 wr).mono ?_
                rintro e wa ⟨rfl, hba⟩
                rw [name_none]
                have hE : (bs []).toList.isEmpty = true := by rw [ByteArray.toList_eq]; rfl
                have y1 := kept_cell hba c1
                have y2 := kept_cell hba c2
                have y3 := kept_thawed hba hAr g0
                have y4 := kept_thawed hba hAr g1
                have hba' := hbw.trans (hba.mono hbw.size)
                go_wp2
                exact bodyPost_ret (v := .tuple #[.agg #[.int .i64 0, .slice none 0 0], .int .i64 0, .bool false]) (by simp [results, Tryd.results9, go_sem, y1, y2]) rfl ⟨(hba'.setCell (Nat.le_refl _) _).setCell (Nat.le_refl _) _, by rw [hdecN.out hfin.out]; rfl⟩
      · have hl' : (b.length : Int) < (refSize b : Int) := by omega
        have hdec : Hid (decodeP b = none) := decodeP_few hlen
        go_wp2
        exact bodyPost_ret (v := .tuple #[.agg #[.int .i64 0, .slice none 0 0], .int .i64 0, .bool false]) (by simp [results, Tryd.results9, go_sem, cA, cB]) rfl ⟨(hb0.setCell (Nat.le_refl _) _).setCell (Nat.le_refl _) _, by rw [hdec.out]; rfl⟩
end Go.Proofs.YtnmclpphiajleaaDoor
