/- The contract of the reference's Words. -/
import Derived.Test.YtnmclpphiajleaaDoorFind
import Derived.Test.YtnmclpphiajleaaDoorTold
import Derived.Deep.AppendLies
import Derived.Laws.Strings2
namespace Go.Proofs.YtnmclpphiajleaaDoor
open Go.ChangeShapes Go.WideShapes Go.ChangeAt Go.RowKit
open Plain
set_option linter.unusedVariables false
set_option linter.unusedSimpArgs false

/-- The words that are whole, and where the next one begins, ahead of place i. -/
def stateW (s : List UInt8) : Nat → List (List UInt8) × Nat
  | 0 => ([], 0)
  | i + 1 =>
    let r := stateW s i
    if i = s.length ∨ s[i]? = some 32 then (if r.2 < i then r.1 ++ [(s.drop r.2).take (i - r.2)] else r.1, i + 1) else r

def wordsP (s : List UInt8) : List (List UInt8) := (stateW s (s.length + 1)).1

/-- The slice v holds the texts ws, in a block from base on. -/
def TextsIs (base : Nat) (w : World) (v : Value) (ws : List (List UInt8)) : Prop := w.ownsRow base 9 1 v ws.length (ws.map fun l => Value.string (bs l))

theorem info_string : (Tryd.prog.info? 9).map (fun i => (i.zero, i.size, i.bytes)) = some (some (.string ByteArray.empty), 1, 16) := by kernel_rfl

theorem stateW_le (s : List UInt8) : ∀ i, (stateW s i).2 ≤ i ∧ (stateW s i).1.length ≤ i
  | 0 => by simp [stateW]
  | i + 1 => by
    have h := stateW_le s i
    unfold stateW
    simp only
    split
    · split
      · simp; omega
      · simp only; omega
    · omega

set_option maxHeartbeats 1600000 in
set_option maxRecDepth 20000 in
theorem words_any (s : List UInt8) (hs : s.length ≤ 100000) (w : World) :
    Calls Tryd.prog 17 #[.string (bs s)] w fun e w' => ∃ v, e = .returned v ∧ TextsIs w.heap.size w' v (wordsP s) ∧ Below w.heap.size w w' := by
  obtain ⟨i0, hi0, hz0, hz2, hz3⟩ := info_parts info_string
  have hsz : (bs s).size = s.length := by unfold bs; simp [ByteArray.size]
  go_enter Tryd.func17, Tryd.ntmps17
  go_wp2
  go_loopw [3, 4, 5] (fun out at' i wr => ∃ j : Nat, j ≤ s.length + 1 ∧ i = .int .i64 j ∧ at' = .int .i64 (stateW s j).2 ∧ TextsIs w.heap.size wr out (stateW s j).1 ∧ Below w.heap.size w wr) (fun _ _ i _ => s.length + 1 - (intOf i).toNat)
  case atStart => exact ⟨0, by omega, rfl, rfl, ⟨by simp [stateW], .inl ⟨rfl, rfl⟩⟩, Below.refl _ _⟩
  case round =>
    obtain ⟨j, hj, rfl, rfl, hown, hb⟩ := hrel
    have hle := stateW_le s j
    by_cases hlt : j ≤ s.length
    · have hnext : Hid (stateW s (j + 1) = if j = s.length ∨ s[j]? = some 32 then (if (stateW s j).2 < j then (stateW s j).1 ++ [(s.drop (stateW s j).2).take (j - (stateW s j).2)] else (stateW s j).1, j + 1) else stateW s j) := rfl
      generalize stateW s j = st at *
      obtain ⟨ws, at'⟩ := st
      simp only at hown hle hnext ⊢
      obtain ⟨hle1, hle2⟩ := hle
      have hsl : at' ≤ j → ∀ W, (Instr.slice 9 (.string (bs s)) (some (.int .i64 (at' : Int))) (some (.int .i64 (j : Int))) none).run Tryd.prog W = .ok (.string (bs ((s.drop at').take (j - at')))) W := by
        intro _ W
        have h := run_slice_string (P := Tryd.prog) W 9 (bs s) .i64 .i64 (at' : Int) (j : Int) Tryd.underlying9 (by omega) (by omega) (by rw [hsz]; omega)
        rw [Int.toNat_natCast, Int.toNat_natCast] at h
        rw [h]
        unfold bs
        simp [ByteArray.extract, ByteArray.copySlice]
      have hsl := hsl hle1
      have cond : ∀ b : Bool, (decide (j = s.length) || decide (s[j]? = some 32)) = b → (b = true → (j = s.length ∨ s[j]? = some 32)) ∧ (b = false → ¬ (j = s.length ∨ s[j]? = some 32)) := by
        intro b h
        subst h
        simp
      by_cases hend : j = s.length
      · have e1 : ((j : Int) == (s.length : Int)) = true := by simp; omega
        have e2 : (j : Int) ≤ (s.length : Int) := by omega
        by_cases hgt : at' < j
        · have hst : Hid (stateW s (j + 1) = (ws ++ [(s.drop at').take (j - at')], j + 1)) := by
            have := hnext.out
            rw [if_pos (.inl hend), if_pos hgt] at this
            exact this
          generalize (s.drop at').take (j - at') = piece at *
          clear hnext cond hend
          go_wp2_with (at_builtin; refine wpList_append_lies _ rfl _ _ 44 rfl w.heap.size 9 i0 (.string ByteArray.empty) 1 16 Tryd.underlying44 hi0 hz0 hz2 hz3 rfl (by decide) _ ws.length _ rfl (hown.alloc _) ⟨wr.heap.size, 0, none⟩ 1 1 [.string (bs piece)] rfl rfl (World.news_of_block (cs := #[.string (bs piece)]) (t := 9) (fr := (0, 0)) (heap_alloc_new wr _)) (by simp [Value.oneCell']) (by omega) (by unfold maxLen; omega) (by omega) (Nat.le_trans hb.size (by simp)) (wr.heap.size + 1) (by simp) ?_; intro g cap w1 hown1 hgrow hat hlt1)
          have hb1 : Below w.heap.size w w1 := (hb.alloc hb.size _).grown hgrow (Nat.le_trans hb.size (by simp)) (fun k hk => (hown.lt k hk).1)
          go_roundw
          case rel => exact ⟨j + 1, by omega, by go_num, by rw [hst.out]; go_num, by rw [hst.out]; unfold TextsIs; simpa using hown1, hb1⟩
          case measure => simp [intOf]; omega
        · have hst : Hid (stateW s (j + 1) = (ws, j + 1)) := by
            have := hnext.out
            rw [if_pos (.inl hend), if_neg hgt] at this
            exact this
          clear hnext cond hend
          go_wp2
          go_roundw
          case rel => exact ⟨j + 1, by omega, by go_num, by rw [hst.out]; go_num, by rw [hst.out]; exact hown, hb⟩
          case measure => simp [intOf]; omega
      · have hjl : j < s.length := by omega
        have hjb : j < (bs s).size := by rw [hsz]; exact hjl
        have e1 : ((j : Int) == (s.length : Int)) = false := by simp; omega
        have e2 : (j : Int) ≤ (s.length : Int) := by omega
        obtain ⟨c, hc⟩ : ∃ c, s[j]? = some c := ⟨_, List.getElem?_eq_getElem hjl⟩
        have hbc : (bs s)[j] = c := by
          have h := (List.getElem?_eq_some_iff.1 hc).2
          exact (show s.toArray[j]'(by simpa using hjl) = c by simpa using h)
        by_cases h32 : c = 32
        · subst h32
          by_cases hgt : at' < j
          · have hst : Hid (stateW s (j + 1) = (ws ++ [(s.drop at').take (j - at')], j + 1)) := by
              have := hnext.out
              rw [if_pos (.inr hc), if_pos hgt] at this
              exact this
            generalize (s.drop at').take (j - at') = piece at *
            clear hnext cond hc
            go_wp2_with (at_builtin; refine wpList_append_lies _ rfl _ _ 44 rfl w.heap.size 9 i0 (.string ByteArray.empty) 1 16 Tryd.underlying44 hi0 hz0 hz2 hz3 rfl (by decide) _ ws.length _ rfl (hown.alloc _) ⟨wr.heap.size, 0, none⟩ 1 1 [.string (bs piece)] rfl rfl (World.news_of_block (cs := #[.string (bs piece)]) (t := 9) (fr := (0, 0)) (heap_alloc_new wr _)) (by simp [Value.oneCell']) (by omega) (by unfold maxLen; omega) (by omega) (Nat.le_trans hb.size (by simp)) (wr.heap.size + 1) (by simp) ?_; intro g cap w1 hown1 hgrow hat hlt1)
            have hb1 : Below w.heap.size w w1 := (hb.alloc hb.size _).grown hgrow (Nat.le_trans hb.size (by simp)) (fun k hk => (hown.lt k hk).1)
            go_roundw
            case rel => exact ⟨j + 1, by omega, by go_num, by rw [hst.out]; go_num, by rw [hst.out]; unfold TextsIs; simpa using hown1, hb1⟩
            case measure => simp [intOf]; omega
          · have hst : Hid (stateW s (j + 1) = (ws, j + 1)) := by
              have := hnext.out
              rw [if_pos (.inr hc), if_neg hgt] at this
              exact this
            clear hnext cond hc
            go_wp2
            go_roundw
            case rel => exact ⟨j + 1, by omega, by go_num, by rw [hst.out]; go_num, by rw [hst.out]; exact hown, hb⟩
            case measure => simp [intOf]; omega
        · have hst : Hid (stateW s (j + 1) = (ws, at')) := by
            have := hnext.out
            rw [if_neg (by rw [hc]; simp [hend, h32])] at this
            exact this
          have d1 : ((c.toNat : Int) == 32) = false := by
            have : ¬ (c.toNat : Int) = 32 := fun e => h32 (UInt8.toNat_inj.1 (by simpa using Int.ofNat.inj e))
            simpa using this
          clear hnext cond hc
          go_wp2
          go_roundw
          case rel => exact ⟨j + 1, by omega, by go_num, by rw [hst.out], by rw [hst.out]; exact hown, hb⟩
          case measure => simp [intOf]; omega
    · have hje : j = s.length + 1 := by omega
      subst hje
      have e2 : ¬ ((s.length + 1 : Nat) : Int) ≤ (s.length : Int) := by omega
      go_wp2
      go_ret
      exact ⟨_, rfl, hown, hb⟩
end Go.Proofs.YtnmclpphiajleaaDoor
