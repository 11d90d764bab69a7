/- dis.Frags at the two bytes of se_blr; the law's example: known is true. -/
import Derived.Test.YtagplfochalidabDoorTurn
namespace Go.Proofs.YtagplfochalidabDoor
open Go.ChangeShapes Go.WideShapes Go.ChangeAt Go.RowKit
open Plain
set_option linter.unusedVariables false
set_option linter.unusedSimpArgs false

set_option maxHeartbeats 1600000 in
set_option maxRecDepth 20000 in
theorem all_page (B : Nat) (w0 w : World) (T : Tab w0) (hB0 : w0.heap.size ≤ B) (hw : Below w0.heap.size w0 w) (h : Page1 B w) :
    Calls Tryd.prog 11 #[.pointer (some ⟨B, 0, none⟩)] w fun e w' => Below B w w' ∧ ∃ g cap, e = .returned (.slice (some ⟨g, 0, none⟩) 1 cap) ∧ w'.cell? ⟨g, 0, none⟩ = some (.string (bs [112, 48, 48])) ∧ w'.cell? ⟨g, 1, none⟩ = some (.string (bs [115, 101, 95, 98, 108, 114, 10])) := by
  have U := turn_page B w0 w T hB0 hw h
  obtain ⟨h0, ⟨tv, h1, hown⟩, h2, h3, h4⟩ := h
  obtain ⟨gt, ct, rfl⟩ : ∃ g cap, tv = .slice (some ⟨g, 0, none⟩) 7 cap := by
    rcases hown.2 with ⟨_, h⟩ | ⟨g, cap, cur, h, _⟩
    · cases h
    · exact ⟨g, cap, h⟩
  go_enter Tryd.func11, Tryd.ntmps11
  go_wp2_with fail
  refine U.mono ?_
  rintro e w1 ⟨rfl, ⟨g, cap, x0, x1, x2⟩, hb⟩
  clear U
  go_wp2
  go_ret
  exact ⟨hb, g, cap, rfl, x1, x2⟩

theorem dec04 (r : List Int) : decodeP (0 :: 4 :: r) = some (3, [], 2) := by
  have hl : leadP (0 :: 4 :: r) = (4, 2, true) := by simp [leadP, isLong]
  have hf : firstP 2 4 66 0 = some 3 := by decide +kernel
  have ht : tells 3 4 = [] := by decide +kernel
  unfold decodeP
  rw [hl]
  simp [hf, ht]

theorem fine04 {r : List Int} (hr : AreBytes r) : Fine (0 :: 4 :: r) := by
  refine ⟨fun x hx => ?_, by simp [leadP, isLong], .inr (dec04 r)⟩
  simp only [List.mem_cons] at hx
  rcases hx with rfl | rfl | hx
  · omega
  · omega
  · exact hr x hx

theorem line04 (r : List Int) : lineP (0 :: 4 :: r) = (blr, 2) := by unfold lineP; rw [dec04]

theorem fine1 (x : Int) (h0 : 0 ≤ x) (h1 : x ≤ 255) : Fine [x] := ⟨fun y hy => by simp at hy; omega, by simp [leadP], .inl (by simp [decodeP, leadP])⟩

theorem line1 (x : Int) : lineP [x] = (byteW ++ Lib.itoa x, 1) := by
  have : decodeP [x] = none := by simp [decodeP, leadP]
  unfold lineP; rw [this]

set_option maxHeartbeats 3200000 in
set_option maxRecDepth 20000 in
theorem each_put (w0 : World) (T : Tab w0) (B : Nat) (hB0 : w0.heap.size ≤ B) (v : Value) (w : World) (hw : Below w0.heap.size w0 w) (hB : BytesAt w0 v [0, 4]) (hS : Page B w) :
    Calls Tryd.prog 8 #[v, .func (.func 10) #[.pointer (some ⟨B, 0, none⟩)] #[]] w fun e w' => e = .returned (.bool true) ∧ Below w0.heap.size w0 w' ∧ Page1 B w' := by
  have F := line_any v [0, 4] w (T.later hw) (hB.later hw) (by simp) (fine04 (r := []) (fun x hx => by simp at hx))
  rw [line04 []] at F
  obtain ⟨p, cap, rfl, hcap, hC⟩ := id hB
  obtain ⟨g, o, rfl, _⟩ := hC (by simp)
  have hcI : (2 : Int) ≤ (cap : Int) := by simp at hcap; omega
  clear hC hB
  rw [show (([0, 4] : List Int).length) = 2 from rfl] at F hcap ⊢
  go_enter Tryd.func8, Tryd.ntmps8
  go_wp2
  refine wp_loop_rounds 2 ?_
  rw [rounds_succ]
  go_wp2_with fail
  refine F.mono ?_
  rintro e wa ⟨rfl, hba⟩
  have P := put_page B wa (hS.later hba)
  have hbwa := hw.trans (hba.mono hw.size)
  clear F
  go_wp2_with fail
  refine P.mono ?_
  rintro e wb ⟨rfl, hSb, hbb⟩
  have hbwb := hbwa.trans (hbb.mono hB0)
  clear P
  go_wp2
  all_goals
    rw [rounds_succ]
    go_wp2
    go_ret
    exact ⟨rfl, hbwb, hSb⟩

set_option maxHeartbeats 3200000 in
set_option maxRecDepth 20000 in
theorem frags_blr (v : Value) (w : World) (T : Tab w) (hB : BytesAt w v [0, 4]) :
    Calls Tryd.prog 7 #[v] w fun e w' => Below w.heap.size w w' ∧ ∃ g cap, e = .returned (.slice (some ⟨g, 0, none⟩) 1 cap) ∧ w'.cell? ⟨g, 0, none⟩ = some (.string (bs [112, 48, 48])) ∧ w'.cell? ⟨g, 1, none⟩ = some (.string (bs [115, 101, 95, 98, 108, 114, 10])) := by
  have ha : Below w.heap.size w (w.alloc (.cells #[.slice none 0 0, .slice none 0 0] 36)) := (Below.refl _ _).alloc (Nat.le_refl _) _
  have E := each_put w T w.heap.size (Nat.le_refl _) v _ ha hB ⟨new_cell _ 0 _ rfl, new_cell _ 1 _ rfl, new_thawed _ _, new_thawed _ _, by simp⟩
  obtain ⟨p, cap, rfl, _⟩ := id hB
  go_enter Tryd.func7, Tryd.ntmps7
  go_wp2_with fail
  refine E.mono ?_
  rintro e w1 ⟨rfl, hb1, hP⟩
  have A := all_page w.heap.size w w1 T (Nat.le_refl _) hb1 hP
  clear E
  go_wp2_with fail
  refine A.mono ?_
  rintro e w2 ⟨hb2, g, cp, rfl, x1, x2⟩
  clear A
  go_wp2
  go_ret
  exact ⟨hb1.trans hb2, g, cp, rfl, x1, x2⟩

theorem bytes_new {W : World} {H : Nat} (hH : W.heap.size = H) (B : List Int) : BytesAt (W.alloc (.cells (B.map fun x => Value.int .u8 x).toArray 5)) (.slice (some ⟨H, 0, none⟩) B.length B.length) B := by
  subst hH
  refine ⟨_, _, rfl, Nat.le_refl _, fun _ => ⟨W.heap.size, 0, rfl, fun i x hx => ?_⟩⟩
  rw [Nat.zero_add]
  exact new_cell _ i _ (by simp [hx])

/-- What a row of texts holds. -/
theorem texts_cells {base : Nat} {w : World} {v : Value} {ls : List (List UInt8)} (h : w.ownsRow base 9 1 v ls.length (ls.map fun l => Value.string (bs l))) (hn : ls ≠ []) :
    ∃ g cap, v = .slice (some ⟨g, 0, none⟩) ls.length cap ∧ ∀ i l, ls[i]? = some l → w.cell? ⟨g, i, none⟩ = some (.string (bs l)) := by
  rcases id h.2 with ⟨_, h0⟩ | ⟨g, cap, cur, rfl, _⟩
  · exact absurd (List.length_eq_zero_iff.1 h0) hn
  · refine ⟨g, cap, rfl, fun i l hl => ?_⟩
    have := h.cells (g := g) rfl i (.string (bs l)) (by simp [hl])
    by_cases hi : i = 0
    · subst hi; simpa [Addr.add] using this
    · simpa [Addr.add, hi] using this

def byte7 : List UInt8 := [46, 98, 121, 116, 101, 32, 55]

theorem lists047 : Lists [0, 4, 7] [blr, byte7] := by
  have h2 : Lists [7] [byte7] := by
    have := Lists.cons (b := [7]) (ls := []) (by simp) (fine1 7 (by omega) (by omega)) (by rw [line1]; exact Lists.nil)
    rw [line1, itoa7] at this
    exact this
  have := Lists.cons (b := [0, 4, 7]) (ls := [byte7]) (by simp) (fine04 (r := [7]) (fun x hx => by simp at hx; omega)) (by rw [line04 [7]]; exact h2)
  rw [line04 [7]] at this
  exact this

set_option maxHeartbeats 3200000 in
set_option maxRecDepth 20000 in
theorem known_true (w : World) (T : Tab w) : Calls Tryd.prog 4 #[] w fun e w' => e = .returned (.bool true) ∧ Below w.heap.size w w' := by
  have ha : Below w.heap.size w (w.alloc (.cells #[.int .u8 0, .int .u8 4, .int .u8 7] 5)) := (Below.refl _ _).alloc (Nat.le_refl _) _
  have E := list_any (.slice (some ⟨w.heap.size, 0, none⟩) 3 3) [0, 4, 7] [blr, byte7] _ (T.later ha) (bytes_new rfl [0, 4, 7]) lists047 (by simp) (by simp [maxLen])
  go_enter Tryd.func4, Tryd.ntmps4
  go_wp2_with fail
  refine E.mono ?_
  rintro e w1 ⟨sl, rfl, hb1, hr1⟩
  obtain ⟨g1, cp1, rfl, hc1⟩ := texts_cells hr1 (by simp)
  have a0 := hc1 0 blr rfl
  have a1 := hc1 1 byte7 rfl
  rw [show ([blr, byte7] : List (List UInt8)).length = 2 from rfl]
  replace hb1 := ha.trans (hb1.mono ha.size)
  clear E hr1 hc1 ha
  have ha2 : Below w1.heap.size w1 (w1.alloc (.cells #[.int .u8 0, .int .u8 4] 5)) := (Below.refl _ _).alloc (Nat.le_refl _) _
  have hb2 := hb1.trans (ha2.mono hb1.size)
  have E := frags_blr (.slice (some ⟨w1.heap.size, 0, none⟩) 2 2) _ (T.later hb2) (bytes_new rfl [0, 4])
  go_wp2_with fail
  refine E.mono ?_
  rintro e w2 ⟨hb3, g2, cp2, rfl, x1, x2⟩
  replace a0 := kept_cell hb3 (kept_cell ha2 a0)
  replace a1 := kept_cell hb3 (kept_cell ha2 a1)
  have hb4 := hb2.trans (hb3.mono hb2.size)
  clear E hb3 ha2 hb2 hb1
  have E := list_any (.slice none 0 0) [] [] w2 (T.later hb4) ⟨none, 0, rfl, by simp, fun h => absurd rfl h⟩ Lists.nil (by simp) (by simp)
  go_wp2_with fail
  refine E.mono ?_
  rintro e w3 ⟨sl, rfl, hb5, hr3⟩
  replace a0 := kept_cell hb5 a0
  replace a1 := kept_cell hb5 a1
  replace x1 := kept_cell hb5 x1
  replace x2 := kept_cell hb5 x2
  have hb6 := hb4.trans (hb5.mono hb4.size)
  obtain ⟨q, c, rfl⟩ : ∃ q c, sl = .slice q 0 c := by
    rcases hr3.2 with ⟨rfl, _⟩ | ⟨g, cap, cur, rfl, _⟩
    · exact ⟨none, 0, rfl⟩
    · exact ⟨_, _, rfl⟩
  have q0 : ((bs blr).toList == [115, 101, 95, 98, 108, 114]) = true := by rw [ByteArray.toList_eq]; rfl
  have q1 : ((bs byte7).toList == [46, 98, 121, 116, 101, 32, 55]) = true := by rw [ByteArray.toList_eq]; rfl
  have q2 : ((bs [112, 48, 48]).toList == [112, 48, 48]) = true := by rw [ByteArray.toList_eq]; rfl
  have q3 : ((bs [115, 101, 95, 98, 108, 114, 10]).toList == [115, 101, 95, 98, 108, 114, 10]) = true := by rw [ByteArray.toList_eq]; rfl
  clear E hr3 hb4 hb5
  go_wp2
  go_ret
  exact ⟨by simp [q0, q1, q2, q3], hb6⟩
end Go.Proofs.YtagplfochalidabDoor
