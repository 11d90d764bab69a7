/- The contract of the reference's Same. -/
import Derived.Test.YtnmclpphiajleaaDoorTold
namespace Go.Proofs.YtnmclpphiajleaaDoor
open Go.ChangeShapes Go.WideShapes Go.ChangeAt Go.RowKit
open Plain
set_option linter.unusedVariables false
set_option linter.unusedSimpArgs false

theorem take_eq_step {fs fs' : List Int} {j : Nat} {x y : Int} (hx : fs[j]? = some x) (hy : fs'[j]? = some y) (h : fs.take j = fs'.take j) : fs.take (j + 1) = fs'.take (j + 1) ↔ x = y := by
  rw [List.take_add_one, List.take_add_one, hx, hy, h]
  simp

set_option maxHeartbeats 1600000 in
set_option maxRecDepth 20000 in
theorem same_any (op op' : Int) (v v' : Value) (fs fs' : List Int) (w : World) (hF : SliceIs w v fs) (hF' : SliceIs w v' fs') (hm : fs.length ≤ maxLen) :
    Calls Tryd.prog 10 #[.agg #[.int .i64 op, v], .agg #[.int .i64 op', v']] w fun e w' => e = .returned (.bool (decide (op = op' ∧ fs = fs'))) ∧ Below w.heap.size w w' := by
  have hb0 : Below w.heap.size w (w.alloc (.cells #[.int .i64 op, v] 28)) := (Below.refl _ _).alloc (Nat.le_refl _) _
  have hb1 := hb0.alloc hb0.size (.cells #[.int .i64 op', v'] 28)
  obtain ⟨p, cap, rfl, hF⟩ := hF
  obtain ⟨p', cap', rfl, hF'⟩ := hF'
  by_cases ho : op = op'
  · subst ho
    by_cases hl : fs.length = fs'.length
    · have hl' : Hid (fs.length = fs'.length) := hl
      rw [← hl] at hb1 ⊢
      clear hl
      unfold maxLen at hm
      have a1 := kept_alloc (o := .cells #[.int .i64 op, .slice p' fs.length cap'] 28) (new_cell (w := w) (t := 28) #[.int .i64 op, .slice p fs.length cap] 1 (.slice p fs.length cap) rfl)
      have a2 := new_cell (w := w.alloc (.cells #[.int .i64 op, .slice p fs.length cap] 28)) (t := 28) #[.int .i64 op, .slice p' fs.length cap'] 1 (.slice p' fs.length cap') rfl
      rw [show (w.alloc (.cells #[.int .i64 op, .slice p fs.length cap] 28)).heap.size = w.heap.size + 1 by simp] at a2
      go_enter Tryd.func10, Tryd.ntmps10
      go_wp2
      generalize (w.alloc (.cells #[.int .i64 op, .slice p fs.length cap] 28)).alloc (.cells #[.int .i64 op, .slice p' fs.length cap'] 28) = W0 at *
      go_loopw [5] (fun i wr => ∃ j : Nat, j ≤ fs.length ∧ i = .int .i64 j ∧ (∃ n, wr = W0.drewN n) ∧ fs.take j = fs'.take j) (fun i _ => fs.length - (intOf i).toNat)
      case atStart => exact ⟨0, by omega, rfl, ⟨0, rfl⟩, rfl⟩
      case round =>
        obtain ⟨j, hj, rfl, ⟨nd, rfl⟩, he⟩ := hrel
        have hbd : Below w.heap.size w (W0.drewN nd) := hb1.trans ⟨rfl, rfl, rfl, Nat.le_refl _, fun _ _ => rfl⟩
        have d1 : (W0.drewN nd).cell? ⟨w.heap.size, 1, none⟩ = some (.slice p fs.length cap) := a1
        have d2 : (W0.drewN nd).cell? ⟨w.heap.size + 1, 1, none⟩ = some (.slice p' fs.length cap') := a2
        by_cases hjn : j < fs.length
        · obtain ⟨x, hx⟩ : ∃ x, fs[j]? = some x := ⟨_, List.getElem?_eq_getElem hjn⟩
          obtain ⟨y, hy⟩ : ∃ y, fs'[j]? = some y := ⟨_, List.getElem?_eq_getElem (by have := hl'.out; omega)⟩
          obtain ⟨b, o, rfl, hc⟩ := hF (by rintro rfl; simp at hx)
          obtain ⟨b', o', rfl, hc'⟩ := hF' (by rintro rfl; simp at hy)
          have c := kept_cell hbd (hc j x hx)
          have c' := kept_cell hbd (hc' j y hy)
          have st := take_eq_step hx hy he
          have hjI : (j : Int) < (fs.length : Int) := by omega
          have hne : Hid (x ≠ y → fs ≠ fs') := by
            show x ≠ y → fs ≠ fs'
            rintro hxy rfl; rw [hx] at hy; exact hxy (Option.some.inj hy)
          have st' : Hid (x = y → fs.take (j + 1) = fs'.take (j + 1)) := fun h => st.2 h
          clear st hx hy hF hF' hc hc' a1 a2 hb0
          generalize hW1 : W0.drewN nd = W1 at *
          have hW : Hid (W0.drewN nd = W1) := hW1
          clear hW1
          go_wp2_with fail
          go_quiet (fail)
          by_cases hxy : x = y
          · subst hxy
            go_wp2
            go_roundw
            case rel => exact ⟨j + 1, by omega, by go_num, ⟨nd + nq, by rw [← hW.out]; simp [World.drewN, Nat.add_assoc]⟩, st'.out rfl⟩
            case measure => simp [intOf]; omega
          · have hb : (x != y) = true := by simp [hxy]
            go_wp2
            go_ret
            exact ⟨by simp [hne.out hxy], hbd.trans ⟨rfl, rfl, rfl, Nat.le_refl _, fun _ _ => rfl⟩⟩
        · have hjn : j = fs.length := by omega
          subst hjn
          rw [List.take_of_length_le (Nat.le_refl _), List.take_of_length_le (by have := hl'.out; omega)] at he
          subst he
          go_wp2
          go_ret
          exact ⟨by simp, hbd⟩
    · have hd : decide (op = op ∧ fs = fs') = false := by
        have : fs ≠ fs' := by rintro rfl; exact hl rfl
        simp [this]
      have hlI : ¬ (fs.length : Int) = (fs'.length : Int) := by omega
      rw [hd]
      go_enter Tryd.func10, Tryd.ntmps10
      go_wp2
      go_ret
      exact ⟨rfl, hb1⟩
  · have hd : decide (op = op' ∧ fs = fs') = false := by simp [ho]
    rw [hd]
    go_enter Tryd.func10, Tryd.ntmps10
    go_wp2
    go_ret
    exact ⟨rfl, hb1⟩
end Go.Proofs.YtnmclpphiajleaaDoor
