/- What the law knows. -/
import Derived.Test.YtlncljfljjaacaaGreatDoorTxS
namespace Go.Proofs.YtlncljfljjaacaaGreatDoor
open Go.ChangeShapes Go.WideShapes Go.ChangeAt Go.RowKit
set_option linter.unusedVariables false
set_option linter.unusedSimpArgs false

set_option maxHeartbeats 800000 in
theorem newB_any (w : World) : Calls Tryz.prog 12 #[] w fun e w' => ∃ g, e = .returned (.pointer (some ⟨g, 0, none⟩)) ∧ Below w.heap.size w w' := by
  go_enter Tryz.func12, Tryz.ntmps12
  go_wp2_with fail
  go_ret
  exact ⟨_, rfl, E.below_new w _⟩

theorem tries_any (tb : Nat) (w : World) (n : Int) (h : w.cell? ⟨tb, 6, none⟩ = some (.int .i64 n)) (hl : tb < w.heap.size) : Calls Tryz.prog 15 #[.pointer (some ⟨tb, 0, none⟩)] w fun e w' => e = .returned (.int .i64 n) ∧ w' = w := by
  go_enter Tryz.func15, Tryz.ntmps15
  go_wp2
  go_ret
  exact ⟨rfl, rfl⟩
theorem partsZ (w : World) : Calls Tryz.prog 9 #[.string ⟨#[]⟩] w fun e w' => ∃ a c, e = .returned (.slice a 0 c) ∧ Below w.heap.size w w' := by
  refine (E.parts_any [] (by decide) w).mono ?_
  rintro e w' ⟨v, rfl, h1, h2⟩
  obtain ⟨a, c, rfl, _⟩ := E.strs_of_own h2
  exact ⟨a, c, rfl, h1⟩
theorem joinZ (w : World) (v : Value) (h : E.StrsAt w v [[97], [98]]) : Calls Tryz.prog 6 #[v] w fun e w' => e = .returned (.string ⟨#[97, 10, 98, 10]⟩) ∧ Below w.heap.size w w' :=
  E.join_any [[97], [98]] (by decide) (by decide) v w h

set_option maxHeartbeats 3200000 in
set_option maxRecDepth 20000 in
theorem known_any (w : World) (T : E.Tab w) : Calls Tryz.prog 4 #[] w fun e w' => e = .returned (.bool true) ∧ Below w.heap.size w w' := by
  have NW := new_own w.heap.size w w 100 (by decide) (Below.refl _ w) (Nat.le_refl _)
  replace NW := NW.mono (fun e w' h => by
    obtain ⟨p, S, h1, h2⟩ := h
    exact (⟨p, S, h1, h2⟩ : ∃ p S, e = .returned (.pointer (some ⟨p, 0, none⟩)) ∧ Hid (Own w.heap.size p w w' S ⟨100, 0, [], []⟩ ∧ S.tot = 0 ∧ S.pins = [] ∧ Below w.heap.size w w' ∧ ∀ b, (S.lab b).isSome → w.heap.size ≤ b)))
  go_enter Tryz.func4, Tryz.ntmps4
  go_wp2_with fail
  refine NW.mono ?_
  rintro e w1 ⟨p, S, rfl, H⟩
  clear NW
  go_wp2_with fail
  refine (newB_any w1).mono ?_
  rintro e w2 ⟨b, rfl, hb2⟩
  have O2 : OwnP w.heap.size p w w2 S ⟨100, 0, [], []⟩ 0 := (Own.fresh (n := 0) H.out.1 H.out.2.2.1 rfl).later hb2
  have hbw : Below w.heap.size w w2 := H.out.2.2.2.1.trans (hb2.mono H.out.2.2.2.1.size)
  have BG : Calls Tryz.prog 13 #[.pointer (some ⟨p, 0, none⟩), .pointer (some ⟨b, 0, none⟩), .agg #[.int .i64 1, .string ⟨#[109]⟩, .string ⟨#[120]⟩, .int .i64 0]] w2 _ := begin_any p b 1 [109] [120] ⟨.inl rfl, by kernel_rfl, by decide⟩ w2 (T.later hbw)
  replace BG := BG.mono (fun e w' h => by
    obtain ⟨g, h1, h2⟩ := h
    exact (⟨g, h1, h2⟩ : ∃ g, e = .returned (.pointer (some ⟨g, 0, none⟩)) ∧ Hid (Below w2.heap.size w2 w' ∧ Blk w' g (txCs p b 1 [109] [120] 0 (.pointer none) (fnV 25)) 77 ∧ w2.heap.size ≤ g)))
  replace O2 := hid_of O2
  replace hbw := hid_of hbw
  clear T
  go_wp2_with fail
  refine BG.mono ?_
  rintro e w3 ⟨tb, rfl, H3⟩
  clear BG
  have O3 := O2.out.later H3.out.1
  have hlb := H.out.2.2.2.2
  have hs2 := O2.out.own.size
  have hlt2 : ∀ i, (S.lab i).isSome → i < w2.heap.size := fun i e => O2.out.own.store.lt i e
  have hBtb : w.heap.size ≤ tb := Nat.le_trans hs2 H3.out.2.2
  have hntb : ¬ (S.lab tb).isSome := fun e => by have := hlt2 _ e; have := H3.out.2.2; omega
  have S1 := step1_any O3 H.out.2.1 tb b [120] H3.out.2.1 hBtb hntb
  replace S1 := S1.mono (fun e w' h => (show e = .returned (.tuple #[.agg #[.int .i64 0, .string ⟨#[]⟩, .slice none 0 0, .slice none 0 0, .int .i64 0, .bool false], .bool false]) ∧ Hid _ from h))
  replace O3 := hid_of O3
  clear O2 hlb hs2 hlt2
  go_wp2_with fail
  refine S1.mono ?_
  rintro e w4 ⟨rfl, H4⟩
  clear S1
  obtain ⟨S', F, x, U4, o4, f4, l4⟩ := H4.out
  have hb4 := E.below_new w4 (.cells #[.int .i64 0, .string ⟨#[]⟩, .slice none 0 0, .slice none 0 0, .int .i64 0, .bool false] 44)
  have S2 := step2_any (U4.later (Only.of_below' hb4 (fun _ => False)) (fun i _ h => h.elim))
  replace S2 := S2.mono (fun e w' h => (show e = .returned (.tuple #[.agg #[.int .i64 0, .string ⟨#[]⟩, .slice none 0 0, .slice none 0 0, .int .i64 1, .bool true], .bool true]) ∧ Hid _ from h))
  replace U4 := hid_of U4
  clear o4 f4 l4
  go_wp2_with fail
  refine S2.mono ?_
  rintro e w6 ⟨rfl, H6⟩
  clear S2
  obtain ⟨S3, O6, T6, o6, l6⟩ := H6.out
  have hb6 := E.below_new w6 (.cells #[.int .i64 0, .string ⟨#[]⟩, .slice none 0 0, .slice none 0 0, .int .i64 1, .bool true] 44)
  have O7 := hid_of (O6.later hb6)
  have T7 := hid_of (T6.of_block (hb6.block _ T6.lt))
  have D7 := hid_of (Blk.new w6 #[.int .i64 0, .string ⟨#[]⟩, .slice none 0 0, .slice none 0 0, .int .i64 1, .bool true] 44)
  have PZ := partsZ
  have JZ := joinZ
  clear O6 T6 o6 l6 hb6
  go_wp2_with fail
  refine (PZ _).mono ?_
  rintro e w8 ⟨a, c, rfl, hb8⟩
  replace O7 := hid_of (O7.out.later hb8)
  replace T7 := hid_of (T7.out.of_block (hb8.block _ T7.out.lt))
  replace D7 := hid_of (D7.out.of_block (hb8.block _ D7.out.lt))
  clear hb8
  have hb9 := E.below_new w8 (.cells #[.string ⟨#[97]⟩, .string ⟨#[98]⟩] 9)
  have hS9 : E.StrsAt (w8.alloc (.cells #[.string ⟨#[97]⟩, .string ⟨#[98]⟩] 9)) (.slice (some ⟨w8.heap.size, 0, none⟩) 2 2) [[97], [98]] := by
    have B9 := Blk.new w8 #[.string ⟨#[97]⟩, .string ⟨#[98]⟩] 9
    refine ⟨_, _, rfl, fun _ => ⟨_, _, rfl, fun i s hs => ?_⟩⟩
    match i, hs with
    | 0, hs => cases hs; exact B9.cell rfl
    | 1, hs => cases hs; exact B9.cell rfl
  replace O7 := hid_of (O7.out.later hb9)
  replace T7 := hid_of (T7.out.of_block (hb9.block _ T7.out.lt))
  replace D7 := hid_of (D7.out.of_block (hb9.block _ D7.out.lt))
  replace JZ := JZ _ _ hS9
  clear hb9 hS9
  go_wp2_with fail
  generalize w8.alloc (.cells #[.string ⟨#[97]⟩, .string ⟨#[98]⟩] 9) = w9 at *
  refine JZ.mono ?_
  rintro e w10 ⟨rfl, hb10⟩
  replace O7 := hid_of (O7.out.later hb10)
  replace T7 := T7.out.of_block (hb10.block _ T7.out.lt)
  replace D7 := D7.out.of_block (hb10.block _ D7.out.lt)
  have d0 : w10.cell? ⟨w6.heap.size, 0, none⟩ = some (.int .i64 0) := D7.cell rfl
  have d1 : w10.cell? ⟨w6.heap.size, 1, none⟩ = some (.string ⟨#[]⟩) := D7.cell rfl
  have d2 : w10.cell? ⟨w6.heap.size, 2, none⟩ = some (.slice none 0 0) := D7.cell rfl
  have d3 : w10.cell? ⟨w6.heap.size, 3, none⟩ = some (.slice none 0 0) := D7.cell rfl
  have d4 : w10.cell? ⟨w6.heap.size, 4, none⟩ = some (.int .i64 1) := D7.cell rfl
  have d5 : w10.cell? ⟨w6.heap.size, 5, none⟩ = some (.bool true) := D7.cell rfl
  have t6 : w10.cell? ⟨tb, 6, none⟩ = some (.int .i64 1) := T7.cell rfl
  have htl := T7.lt
  have hdl := D7.lt
  have CN := count_own O7.out.own
  rw [show (((cleanP (unpinP (commitP (pinP KS) (put2 [109] [120])).1 0)).1).v.length : Nat) = 2 from left_known] at CN
  replace T7 := hid_of T7
  replace D7 := hid_of D7
  have TR := tries_any tb w10 1 t6 htl
  clear hb10 JZ PZ
  go_wp2_with fail
  refine TR.mono ?_
  rintro e w11 ⟨rfl, rfl⟩
  go_wp2_with fail
  refine CN.mono ?_
  rintro e w11 ⟨rfl, rfl⟩
  go_wp2_with fail
  go_ret
  exact ⟨rfl, O7.out.own.below⟩
end Go.Proofs.YtlncljfljjaacaaGreatDoor
