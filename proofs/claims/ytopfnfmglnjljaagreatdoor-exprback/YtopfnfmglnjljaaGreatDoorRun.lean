/- The contracts of letter, digit and run. -/
import Derived.Test.YtopfnfmglnjljaaGreatDoorBuilder
import Derived.BigCall
namespace Go.Proofs.YtopfnfmglnjljaaGreatDoor
open Go.ChangeShapes Go.WideShapes Go.ChangeAt Go.RowKit
set_option linter.unusedVariables false
set_option linter.unusedSimpArgs false

def letterR (c : Int) : Bool := (decide (97 ≤ c) && decide (c ≤ 122)) || decide (c = 95)
def digitR (c : Int) : Bool := decide (48 ≤ c) && decide (c ≤ 57)

theorem digit_any (c : Int) (w : World) : Calls Tryz.prog 119 #[.int .i32 c] w fun e w' => e = .returned (.bool (digitR c)) ∧ w' = w := by
  by_cases h : 48 ≤ c
  · go_enter Tryz.func119, Tryz.ntmps119
    go_wp2
    go_ret
    simp [digitR, h]
  · have h' : ¬ (48 : Int) ≤ c := h
    go_enter Tryz.func119, Tryz.ntmps119
    go_wp2
    go_ret
    simp [digitR]; omega

theorem letter_any (c : Int) (w : World) : Calls Tryz.prog 118 #[.int .i32 c] w fun e w' => e = .returned (.bool (letterR c)) ∧ w' = w := by
  by_cases h : 97 ≤ c
  · by_cases h2 : c ≤ 122
    · go_enter Tryz.func118, Tryz.ntmps118
      go_wp2
      go_ret
      simp [letterR, h, h2]
    · have h3 : ¬ c = 95 := by omega
      go_enter Tryz.func118, Tryz.ntmps118
      go_wp2
      go_ret
      have e : (c == 95) = false := by simpa using h3
      have e2 : decide (c ≤ 122) = false := by simp; omega
      simp [letterR, e, e2, h3]
  · go_enter Tryz.func118, Tryz.ntmps118
    go_wp2
    go_ret
    have e2 : decide (97 ≤ c) = false := by simp; omega
    have e : (c == 95) = decide (c = 95) := rfl
    simp [letterR, e, e2]

theorem run_split (s : Bs) (pos : Nat) (h1 : ∀ c ∈ s.take pos, runB c = true) (h2 : ∀ c, s[pos]? = some c → runB c = false) : s.takeWhile runB = s.take pos ∧ s.dropWhile runB = s.drop pos := by
  induction s generalizing pos with
  | nil => simp
  | cons a s ih =>
    cases pos with
    | zero =>
      have := h2 a rfl
      simp [List.takeWhile, List.dropWhile, this]
    | succ n =>
      have ha := h1 a (by simp)
      have := ih n (fun c hc => h1 c (by simp [hc])) (fun c hc => h2 c (by simpa using hc))
      simp [List.takeWhile, List.dropWhile, ha, this.1, this.2]

theorem runB_eq (c : UInt8) : runB c = (letterR (c.toNat : Int) || digitR (c.toNat : Int)) := by
  unfold runB letterB digitB letterR digitR
  congr 1
  · congr 1
    · congr 1 <;> (rw [decide_eq_decide]; omega)
    · rw [decide_eq_decide]; omega
  · congr 1 <;> (rw [decide_eq_decide]; omega)

theorem Beside.then {b : Nat} {w w1 w2 : World} (h : Beside b w w1) (hb : Below w.heap.size w1 w2) (hl : b < w.heap.size) : Beside b w w2 :=
  ⟨h.below.trans (hb.mono (Nat.le_of_lt hl)), fun k h1 h2 => (hb.block k h2).trans (h.above k h1 h2)⟩

theorem bs_extract (s : Bs) (pos : Nat) : (bs s).extract pos s.length = bs (s.drop pos) := by
  apply ByteArray.ext
  simp [bs, ByteArray.extract, ByteArray.copySlice]
  rw [List.take_of_length_le (by rw [List.length_drop]; omega)]

theorem run_tail {b : Nat} {s : Bs} {d : Nat} {w X : World} {pos : Nat} (h : Rdr w b s d) (hb : Below w.heap.size w X) (hI : Bld 58 w.heap.size X (s.take pos)) :
    Calls Tryz.prog 26 #[.pointer (some ⟨w.heap.size, 0, none⟩)] (X.setCell ⟨b, 0, none⟩ (.string ((bs s).extract pos s.length))).drew fun e W1 => e = .returned (.string (bs (s.take pos))) ∧ Beside b w W1 ∧ Rdr W1 b (s.drop pos) d := by
  have hbw := h.lt
  rw [bs_extract]
  have hI2 : Bld 58 w.heap.size (X.setCell ⟨b, 0, none⟩ (.string (bs (s.drop pos)))).drew (s.take pos) :=
    hI.of_blocks fun g c t fz hg h => (Below.heap_setCell X ⟨b, 0, none⟩ _ g (by simp; omega)).trans h
  refine (Tryz.Builder_String_any_k w.heap.size w.heap.size (s.take pos) _ (Lib.IsBuilderF.of hI2.is) (by simpa using hb.size)).mono ?_
  rintro e W1 ⟨rfl, _, b1, _⟩
  have h1 : Beside b w (X.setCell ⟨b, 0, none⟩ (.string (bs (s.drop pos)))).drew := by
    have h2 := (Beside.of hb hbw).trans (Beside.set (a := ⟨b, 0, none⟩) X rfl (.string (bs (s.drop pos))))
    exact ⟨⟨h2.below.os, h2.below.tape, h2.below.output, h2.below.size, h2.below.block⟩, h2.above⟩
  refine ⟨rfl, h1.then b1 hbw, ?_⟩
  have h3 : Rdr (X.setCell ⟨b, 0, none⟩ (.string (bs (s.drop pos)))).drew b (s.drop pos) d := ((h.later hb).put _).of_block rfl
  exact h3.of_block (b1.block b hbw)

set_option maxHeartbeats 4000000 in
set_option maxRecDepth 100000 in
theorem run_any (b : Nat) (s : Bs) (d : Nat) (w : World) (h : Rdr w b s d) (hl : s.length ≤ 35184372088832) :
    Calls Tryz.prog 111 #[.pointer (some ⟨b, 0, none⟩)] w fun e w' => e = .returned (.string (bs (s.takeWhile runB))) ∧ Beside b w w' ∧ Rdr w' b (s.dropWhile runB) d := by
  have hbw := h.lt
  have c0 := h.c0
  have hsz0 : (bs s).size = s.length := bs_size s
  have hget : ∀ (pos : Nat) (hp : pos < (bs s).size), s[pos]? = some ((bs s)[pos]'hp) := by
    intro pos hp
    have hp' : pos < s.length := by rw [← hsz0]; exact hp
    rw [List.getElem?_eq_getElem hp']
    exact congrArg some (show s[pos] = s.toArray[pos]'(by simpa using hp') by simp)
  go_enter Tryz.func111, Tryz.ntmps111
  go_wp2
  go_loopw [] (fun wr => ∃ pos : Nat, pos ≤ s.length ∧ Bld 58 w.heap.size wr (s.take pos) ∧ wr.heap[w.heap.size + 1]? = some (.stringIter (bs s) pos) ∧ Below w.heap.size w wr ∧ ∀ c ∈ s.take pos, runB c = true) (fun wr => s.length - wr.iterPos (w.heap.size + 1))
  case atStart =>
    refine ⟨0, by omega, (Bld.new w 58).alloc _, ?_, ((Below.refl _ w).alloc (Nat.le_refl _) _).alloc (by simp) _, by simp⟩
    have := World.iter_heap (w.alloc (.cells #[.pointer none, .slice none 0 0] 58)) (bs s) 0
    simpa using this
  case round =>
    obtain ⟨pos, hpos, hI, hit, hbw1, hall⟩ := hrel
    have hsz : w.heap.size + 1 < wr.heap.size := (Array.getElem?_eq_some_iff.1 hit).1
    by_cases hp : pos < (bs s).size
    · have hnx : ∀ ty, (Instr.next (.pointer (some ⟨w.heap.size + 1, 0, none⟩)) true ty).run Tryz.prog wr = _ := fun ty => Lib.run_next_any_at wr (w.heap.size + 1) (bs s) pos ty hit hp
      have hd1 := decode_le (bs s) pos
      have hI2 := hI.iterAt hit (pos + (Utf8.decode (bs s) pos).2)
      have hit2 := Lib.iterAt_heap wr (w.heap.size + 1) (bs s) pos (pos + (Utf8.decode (bs s) pos).2) hit
      have hbw2 := Lib.below_iterAt hbw1 (k := w.heap.size + 1) (by omega) (bs s) (pos + (Utf8.decode (bs s) pos).2)
      have hsz2 : w.heap.size ≤ (wr.iterAt (w.heap.size + 1) (bs s) (pos + (Utf8.decode (bs s) pos).2)).heap.size := by rw [Lib.iterAt_size]; omega
      have hgp := hget pos hp
      have L := fun W => letter_any ((Utf8.decode (bs s) pos).1 : Int) W
      have D := fun W => digit_any ((Utf8.decode (bs s) pos).1 : Int) W
      by_cases hrun : (letterR ((Utf8.decode (bs s) pos).1 : Int) || digitR ((Utf8.decode (bs s) pos).1 : Int)) = true
      · have hasc : ((bs s)[pos]'hp).toNat < 128 := by
          by_cases hx : ((bs s)[pos]'hp).toNat < 128
          · exact hx
          · have := (decode_high (bs s) pos hp (by omega)).1
            unfold letterR digitR at hrun
            simp at hrun
            omega
        have hdec := decode_ascii (bs s) pos hp hasc
        rw [hdec] at hnx hI2 hit2 hbw2 hsz2 L D hrun
        simp only at hnx hI2 hit2 hbw2 hsz2 L D hrun
        clear hd1 hdec
        have hr1 : runB ((bs s)[pos]'hp) = true := by rw [runB_eq]; exact hrun
        obtain ⟨cc, hcc⟩ : ∃ cc, cc = (bs s)[pos]'hp := ⟨_, rfl⟩
        rw [← hcc] at hnx L D hrun hr1 hgp hasc
        have HC : Hid (cc = (bs s)[pos]'hp) := hcc
        clear hcc
        have hlen : (s.take pos).length = pos := by rw [List.length_take]; rw [← hsz0] at *; omega
        have htk : s.take (pos + 1) = s.take pos ++ [cc] := by rw [List.take_add_one, hgp]; rfl
        have W := writeRune_any 58 heads_builder w.heap.size (s.take pos) cc hasc _ hI2 (by rw [hlen]; omega)
        rw [← htk] at W
        have hall2 : ∀ c ∈ s.take (pos + 1), runB c = true := by
          intro c hc
          rw [htk, List.mem_append] at hc
          rcases hc with hc | hc
          · exact hall c hc
          · simp at hc; subst hc; exact hr1
        have hme : pos + 1 ≤ s.length := by omega
        clear hI hI2 hall hlen htk hgp hget hr1 hasc HC
        cases hL : letterR (cc.toNat : Int) with
        | true =>
          rw [hL] at L
          go_wp2_with (first | (go_at_call 118; refine (L _).mono ?_; rintro e w' ⟨rfl, rfl⟩) | (go_at_call 119; refine (D _).mono ?_; rintro e w' ⟨rfl, rfl⟩) | (go_at_call 120; refine W.mono ?_; rintro e W1 ⟨rfl, h1, b1, k1⟩))
          go_roundw
          case rel => exact ⟨pos + 1, hme, h1, k1.iter hit2 (by omega), hbw2.trans b1, hall2⟩
          case measure =>
            simp only [World.iterPos, k1.iter hit2 (by omega), hit]
            omega
        | false =>
          rw [hL] at L hrun
          rw [Bool.false_or] at hrun
          rw [hrun] at D
          go_wp2_with (first | (go_at_call 118; refine (L _).mono ?_; rintro e w' ⟨rfl, rfl⟩) | (go_at_call 119; refine (D _).mono ?_; rintro e w' ⟨rfl, rfl⟩) | (go_at_call 120; refine W.mono ?_; rintro e W1 ⟨rfl, h1, b1, k1⟩))
          go_roundw
          case rel => exact ⟨pos + 1, hme, h1, k1.iter hit2 (by omega), hbw2.trans b1, hall2⟩
          case measure =>
            simp only [World.iterPos, k1.iter hit2 (by omega), hit]
            omega
      · have hrun : (letterR ((Utf8.decode (bs s) pos).1 : Int) || digitR ((Utf8.decode (bs s) pos).1 : Int)) = false := by simpa using hrun
        have hsp := run_split s pos hall (by
          intro c hc
          rw [hgp] at hc
          cases hc
          by_cases hx : ((bs s)[pos]'hp).toNat < 128
          · rw [decode_ascii (bs s) pos hp hx] at hrun
            rw [runB_eq]; exact hrun
          · rw [runB_eq]
            unfold letterR digitR
            simp
            omega)
        rw [Bool.or_eq_false_iff] at hrun
        rw [hrun.1] at L
        rw [hrun.2] at D
        have hlen : (s.take pos).length = pos := by rw [List.length_take]; omega
        have hI3 : Bld 58 w.heap.size (wr.iterAt (w.heap.size + 1) (bs s) (pos + (Utf8.decode (bs s) pos).2)).drew (s.take pos) := hI2
        have Ln := Tryz.Builder_Len_f w.heap.size w.heap.size _ _ (Lib.IsBuilderF.of hI3.is)
        rw [Lib.byteCells_length, hlen] at Ln
        have St := run_tail h hbw2 hI2
        have hR := h.later hbw2
        have r0 := hR.c0
        have rf := hR.f0
        have hblt := hR.lt
        have hpI : (pos : Int) ≤ ((bs s).size : Int) := by omega
        clear hI hget hall
        go_wp2_with (first | (go_at_call 118; refine (L _).mono ?_; rintro e w' ⟨rfl, rfl⟩) | (go_at_call 119; refine (D _).mono ?_; rintro e w' ⟨rfl, rfl⟩) | (go_at_call 121; refine Ln.mono ?_; rintro e w' ⟨rfl, rfl⟩))
        go_region_with (go_at_call 121; refine Ln.mono ?_; rintro e w' ⟨rfl, rfl⟩)
        all_goals (go_wp2_with (go_at_call 26; refine St.mono ?_; rintro e W1 ⟨rfl, b1, hR1⟩))
        all_goals go_ret
        all_goals (rw [hsp.1, hsp.2]; exact ⟨rfl, b1, hR1⟩)
    · have hnx : ∀ ty, (Instr.next (.pointer (some ⟨w.heap.size + 1, 0, none⟩)) true ty).run Tryz.prog wr = _ := fun ty => Lib.run_next_end_at wr (w.heap.size + 1) (bs s) pos ty hit hp
      have hpe : pos = s.length := by omega
      have hsp := run_split s pos hall (by
        intro c hc
        rw [hpe] at hc
        simp at hc)
      have hlen : (s.take pos).length = pos := by rw [List.length_take]; omega
      have hI3 : Bld 58 w.heap.size wr.drew (s.take pos) := hI
      have Ln := Tryz.Builder_Len_f w.heap.size w.heap.size _ _ (Lib.IsBuilderF.of hI3.is)
      rw [Lib.byteCells_length, hlen] at Ln
      have St := run_tail h hbw1 hI
      have hR := h.later hbw1
      have r0 := hR.c0
      have rf := hR.f0
      have hblt := hR.lt
      have hpI : (pos : Int) ≤ ((bs s).size : Int) := by omega
      clear hI hget hall hpe
      go_wp2
      go_region_with (go_at_call 121; refine Ln.mono ?_; rintro e w' ⟨rfl, rfl⟩)
      all_goals (go_wp2_with (go_at_call 26; refine St.mono ?_; rintro e W1 ⟨rfl, b1, hR1⟩))
      all_goals go_ret
      all_goals (rw [hsp.1, hsp.2]; exact ⟨rfl, b1, hR1⟩)
end Go.Proofs.YtopfnfmglnjljaaGreatDoor
