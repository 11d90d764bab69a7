/- The contracts of the reference's Right and hex. -/
import Derived.Test.YtnmclpphiajleaaDoorRefPut
import Derived.Test.YtnmclpphiajleaaDoorBits2
import Derived.BigQuiet
namespace Go.Proofs.YtnmclpphiajleaaDoor
open Go.ChangeShapes Go.WideShapes Go.ChangeAt Go.RowKit
open Plain
set_option linter.unusedVariables false
set_option linter.unusedSimpArgs false

def hexOf (op : Int) : List UInt8 := if isP op = true then digits (2 * sizeP op).toNat (rowP op).bits.toNat else []

theorem found_row (op : Int) (e : Ending) (h : FoundIs e (findP op (bs [32]))) :
    ∃ n, e = .returned (.tuple #[.agg #[.string (bs (rowP op).name), .string (bs (hexOf op)), .string (bs (rowP op).kinds)], .int .i64 n, .bool (isP op)]) := by
  rw [find_op] at h
  unfold hexOf
  by_cases hi : isP op = true
  · rw [if_pos hi] at h
    obtain ⟨x, h1, rfl⟩ := h
    have hi2 := hi
    unfold isP at hi2
    rw [Bool.and_eq_true, decide_eq_true_eq, decide_eq_true_eq] at hi2
    obtain ⟨k, rfl⟩ := Int.eq_ofNat_of_zero_le hi2.1
    obtain ⟨g1, g2, _, _⟩ := rows2_row ⟨k, by omega⟩
    simp only [Int.toNat_natCast] at h1
    rw [g1] at h1
    cases h1
    rw [if_pos hi, hi]
    exact ⟨_, rfl⟩
  · rw [if_neg hi] at h
    have hout : op < 0 ∨ 66 ≤ op := by
      unfold isP at hi
      simp only [Bool.and_eq_true, decide_eq_true_eq] at hi
      omega
    rw [if_neg hi, rowP_out op hout, show isP op = false by simpa using hi]
    exact ⟨0, h⟩

theorem coded_no {op : Int} {fs : List Int} {j : Nat} {k : K} {f : Int} (hk : (rowP op).ks[j]? = some k) (hf : fs[j]? = some f) (h : (k.code f).2 = false) : (codedP op fs).2 = false := by
  unfold codedP
  split
  · rename_i hc
    cases hh : (codeGo (rowP op).ks fs (rowP op).bits).2 with
    | false => rfl
    | true => rw [(codeGo_iff _ _ _ hc.2).1 hh j k f hk hf] at h; cases h
  · rfl

theorem coded_yes {op : Int} {fs : List Int} (hi : isP op = true) (hl : fs.length = (rowP op).ks.length) (h : ∀ (i : Nat) (k : K) (f : Int), (rowP op).ks[i]? = some k → fs[i]? = some f → (k.code f).2 = true) : (codedP op fs).2 = true := by
  unfold codedP
  rw [if_pos ⟨hi, hl⟩]
  exact (codeGo_iff _ _ _ hl).2 h

set_option maxHeartbeats 3200000 in
set_option maxRecDepth 20000 in
theorem refRight_any (op : Int) (sl : Value) (fs : List Int) (w : World) (hF : SliceIs w sl fs) (hR : InRange fs) (hm : fs.length ≤ maxLen) :
    Calls Tryd.prog 15 #[.agg #[.int .i64 op, sl]] w fun e w' => e = .returned (.bool (codedP op fs).2) ∧ Below w.heap.size w w' := by
  have ha := (Below.refl w.heap.size w).alloc (Nat.le_refl _) (.cells #[.int .i64 op, sl] 28)
  have c0 := new_cell (w := w) (t := 28) #[.int .i64 op, sl] 0 (.int .i64 op) rfl
  have c1 := new_cell (w := w) (t := 28) #[.int .i64 op, sl] 1 sl rfl
  replace hF := hF.later ha
  obtain ⟨p, cap, rfl, hj⟩ := id hF
  clear hj
  have F := fun W => find_any op (bs [32]) W
  rw [show bs [32] = ⟨#[32]⟩ from rfl] at F
  have wd : Hid (wordsP (rowP op).kinds = (rowP op).ks.map K.name) := rows_words _ (rowP_mem op)
  obtain ⟨_, _, hk100, hn3, _, _⟩ := rows_fields _ (rowP_mem op)
  go_enter Tryd.func15, Tryd.ntmps15
  go_wp2_with fail
  generalize w.alloc (.cells #[.int .i64 op, .slice p fs.length cap] 28) = w1 at *
  refine (F _).mono ?_
  rintro e w2 ⟨hb2, hf⟩
  obtain ⟨n0, rfl⟩ := found_row op e hf
  clear hf F
  replace c0 := kept_cell hb2 c0
  replace c1 := kept_cell hb2 c1
  replace hF := hF.later hb2
  replace hb2 := ha.trans (hb2.mono ha.size)
  go_wp2_with fail
  have ha3 := (Below.refl w2.heap.size w2).alloc (Nat.le_refl _) (.cells #[.string (bs (rowP op).name), .string (bs (hexOf op)), .string (bs (rowP op).kinds)] 41)
  replace c0 := kept_cell ha3 c0
  replace c1 := kept_cell ha3 c1
  replace hF := hF.later ha3
  replace hb2 := hb2.trans (ha3.mono hb2.size)
  generalize w2.alloc (.cells #[.string (bs (rowP op).name), .string (bs (hexOf op)), .string (bs (rowP op).kinds)] 41) = w3 at *
  have Wd := words_any (rowP op).kinds (by omega) w3
  rw [wd.out] at Wd
  refine Wd.mono ?_
  rintro e w4 ⟨tv, rfl, hT, hb4⟩
  obtain ⟨tp, tcap, rfl, hTc⟩ := texts_form hT
  replace c0 := kept_cell hb4 c0
  replace c1 := kept_cell hb4 c1
  replace hF := hF.later hb4
  replace hb4 := hb2.trans (hb4.mono hb2.size)
  clear Wd hT ha3 ha hb2 hk100
  cases hi : isP op with
  | false =>
    have hno : (codedP op fs).2 = false := by rw [isP_out hi]
    go_wp2_with fail
    go_ret
    exact ⟨by rw [hno]; rfl, hb4⟩
  | true =>
    by_cases hl : fs.length = (rowP op).ks.length
    · have hl' : Hid (fs.length = (rowP op).ks.length) := hl
      rw [← hl]
      clear hl
      have hm' : fs.length < 4611686018427387904 := by unfold maxLen at hm; rw [hl'.out]; omega
      go_wp2_with fail
      go_loopw [7] (fun i wr => ∃ j : Nat, j ≤ fs.length ∧ i = .int .i64 j ∧ (∃ n, wr = w4.drewN n) ∧ ∀ (i : Nat) (k : K) (f : Int), i < j → (rowP op).ks[i]? = some k → fs[i]? = some f → (k.code f).2 = true) (fun i _ => fs.length - (intOf i).toNat)
      case atStart => exact ⟨0, by omega, rfl, ⟨0, rfl⟩, fun i _ _ hi => by omega⟩
      case round =>
        obtain ⟨j, hj, rfl, ⟨nd, rfl⟩, hall⟩ := hrel
        have hbd : Below w4.heap.size w4 (w4.drewN nd) := ⟨rfl, rfl, rfl, Nat.le_refl _, fun _ _ => rfl⟩
        have hbe : Below w.heap.size w (w4.drewN nd) := hb4.trans (hbd.mono hb4.size)
        by_cases hjn : j < fs.length
        · obtain ⟨x, hx⟩ : ∃ x, fs[j]? = some x := ⟨_, List.getElem?_eq_getElem hjn⟩
          obtain ⟨k, hk⟩ : ∃ k, (rowP op).ks[j]? = some k := ⟨_, List.getElem?_eq_getElem (by rw [← hl'.out]; exact hjn)⟩
          obtain ⟨gt, rfl, _, tc⟩ := hTc j k hk
          have c1 := kept_cell hbd c1
          have tc := kept_cell hbd tc
          obtain ⟨p', cap', e', hC⟩ := hF.later hbd
          cases e'
          obtain ⟨b, o, rfl, hC'⟩ := hC (by rintro rfl; simp at hx)
          have xc := hC' j x hx
          have hr := hR x (List.mem_of_getElem? hx)
          have M := fun W => (may_any k x hr.1 hr.2 W).mono fun e w' h => (⟨h.2, h.1.symm⟩ : e = .returned (.bool (k.code x).2) ∧ w' = W)
          rw [show (⟨k.name.toArray⟩ : ByteArray) = bs k.name from rfl] at M
          have hstep : Hid ((k.code x).2 = true → ∀ (i : Nat) (k : K) (f : Int), i < j + 1 → (rowP op).ks[i]? = some k → fs[i]? = some f → (k.code f).2 = true) := by
            show _ → _
            intro hc i k' f' hi hk' hf'
            by_cases hij : i = j
            · subst hij; rw [hk] at hk'; rw [hx] at hf'; cases hk'; cases hf'; exact hc
            · exact hall i k' f' (by omega) hk' hf'
          have hno : Hid ((k.code x).2 = false → (codedP op fs).2 = false) := fun h => coded_no hk hx h
          have hjI : (j : Int) < (fs.length : Int) := by omega
          clear hC hC' hall hTc hk hx hr hF c0 wd
          generalize hW1 : w4.drewN nd = W1 at *
          have hW : Hid (w4.drewN nd = W1) := hW1
          clear hW1
          generalize (k.code x).2 = r at *
          generalize bs k.name = nm at *
          go_wp2_with fail
          go_quiet (first | (go_at_call 29; exact Calls.quiet_of_same (M _)))
          cases r with
          | true =>
            go_wp2
            go_roundw
            case rel => exact ⟨j + 1, by omega, by go_num, ⟨nd + nq, by rw [← hW.out]; simp [World.drewN, Nat.add_assoc]⟩, hstep.out rfl⟩
            case measure => simp [intOf]; omega
          | false =>
            go_wp2
            go_ret
            exact ⟨by rw [hno.out (by first | rfl | trivial)]; rfl, hbe.trans ((below_drewN _ _).mono hbe.size)⟩
        · have hjn : j = fs.length := by omega
          subst hjn
          have hyes : (codedP op fs).2 = true := coded_yes hi hl'.out fun i k f hk hf => hall i k f (List.getElem?_eq_some_iff.1 hf).1 hk hf
          go_wp2
          go_ret
          exact ⟨by rw [hyes]; rfl, hbe⟩
    · have hl2 : ¬ ((rowP op).ks.length : Int) = (fs.length : Int) := by omega
      have hl3 : ¬ (fs.length : Int) = ((rowP op).ks.length : Int) := by omega
      have hno : (codedP op fs).2 = false := by rw [coded_other hl]
      clear hl
      go_wp2_with fail
      go_ret
      exact ⟨by rw [hno]; rfl, hb4⟩
end Go.Proofs.YtnmclpphiajleaaDoor
