/- The first Step of a try: begin. -/
import Derived.Test.YtlncljfljjaacaaGreatDoorTxG
namespace Go.Proofs.YtlncljfljjaacaaGreatDoor
open Go.ChangeShapes Go.WideShapes Go.ChangeAt Go.RowKit
set_option linter.unusedVariables false
set_option linter.unusedSimpArgs false

/-- What a Step that reads leaves: the request at tb, its try at x, all in blocks of F. -/
structure After (B p m : Nat) (w0 w w' : World) (S : St) (s' : Sto) (tb b : Nat) (k : Int) (n t : E.Bs) (tries : Int) (next : Nat) (at' : Int) (past : Int) (N : List E.Bs) (text : E.Bs) (is : Bool) (tot : Nat) (S' : St) (F : Nat → Prop) (x : Nat) : Prop where
  own : OwnP B p w0 w' S' s' m
  tot : S'.tot = tot
  lab : ∀ i, (S'.lab i).isSome → (S.lab i).isSome ∨ w.heap.size ≤ i
  only : Only (fun i => i = tb ∨ (S.lab i).isSome) w w'
  tx : Blk w' tb (txCs p b k n t tries (.pointer (some ⟨x, 0, none⟩)) (fnV next)) 77
  tr : TryAt w' F x p b k n t at' (looksP k n N x) past N text is
  ftb : F tb
  fp : ∀ i, F i → (i = tb ∨ w.heap.size ≤ i) ∧ i < w'.heap.size ∧ ¬ (S'.lab i).isSome

set_option maxHeartbeats 3200000 in
set_option maxRecDepth 20000 in
theorem begin1_any {B p m : Nat} {w0 w : World} {S : St} {s : Sto} (O : OwnP B p w0 w S s m) (hm : m ≤ 100) (tb b : Nat) (k : Int) (n t : E.Bs) (hk : k = 1 ∨ k = 2 ∨ k = 3) (tries : Int) (htr : 0 ≤ tries ∧ tries ≤ 100) (Tb : Blk w tb (txCs p b k n t tries (.pointer none) (fnV 25)) 77) (hB : B ≤ tb) (hnl : ¬ (S.lab tb).isSome) (hv : (readP s ⟨#[100]⟩ s.stamp).1.size ≤ 1000000) :
    Calls Tryz.prog 25 #[.pointer (some ⟨tb, 0, none⟩)] w fun e w' => e = .returned (.tuple #[.agg doneZ, .bool false]) ∧ ∃ S' F x, After B p (m + 1) w0 w w' S (pinP s) tb b k n t (tries + 1) (if (1 : Int) = (looksP k n (namesP s s.stamp) x).length then 43 else 35) s.stamp 1 (namesP s s.stamp) [] false S.tot S' F x := by
  have htl := Tb.lt
  have hbn := E.below_new w (.cells doneZ 44)
  have RB := hid_of (Blk.new w doneZ 44)
  have TA := Tb.of_block (w' := w.alloc (.cells doneZ 44)) (hbn.block _ htl)
  have hszA : Hid ((w.alloc (.cells doneZ 44)).heap.size = w.heap.size + 1) := by show _ = _; simp
  have OA := hid_of (O.later hbn)
  have c0 : (w.alloc (.cells doneZ 44)).cell? ⟨tb, 0, none⟩ = some (.pointer (some ⟨p, 0, none⟩)) := TA.cell rfl
  have c1 : (w.alloc (.cells doneZ 44)).cell? ⟨tb, 1, none⟩ = some (.pointer (some ⟨b, 0, none⟩)) := TA.cell rfl
  have c2 : (w.alloc (.cells doneZ 44)).cell? ⟨tb, 2, none⟩ = some (.int .i64 k) := TA.cell rfl
  have c3 : (w.alloc (.cells doneZ 44)).cell? ⟨tb, 3, none⟩ = some (.string (E.bs n)) := TA.cell rfl
  have c4 : (w.alloc (.cells doneZ 44)).cell? ⟨tb, 4, none⟩ = some (.string (E.bs t)) := TA.cell rfl
  have c5 : (w.alloc (.cells doneZ 44)).cell? ⟨tb, 5, none⟩ = some (.int .i64 0) := TA.cell rfl
  have c6 : (w.alloc (.cells doneZ 44)).cell? ⟨tb, 6, none⟩ = some (.int .i64 tries) := TA.cell rfl
  have f6 := TA.thawed 6
  have hlA := TA.lt
  have hRn := hid_of (show ¬ (S.lab w.heap.size).isSome from fun e => by have := O.own.store.lt _ e; omega)
  replace hbn := hid_of hbn
  replace TA := hid_of TA
  unfold doneZ at *
  generalize hwA : w.alloc (.cells #[.int .i64 0, .string ⟨#[]⟩, .slice none 0 0, .slice none 0 0, .int .i64 0, .bool false] 44) = wA at *
  go_enter Tryz.func25, Tryz.ntmps25
  go_wp2_with fail
  have O2 := Only.setR wA tb 6 (.int .i64 (tries + 1))
  have OO := hid_of (OA.out.frame O2 (fun i _ h => by subst h; exact ⟨hB, hnl⟩))
  have T2 := hid_of (TA.out.set 6 (.int .i64 (tries + 1)))
  have R2 := hid_of (RB.out.of_block (O2.block w.heap.size RB.out.lt (by omega)))
  have hs2 : (wA.setCell ⟨tb, 6, none⟩ (.int .i64 (tries + 1))).heap.size = wA.heap.size := by simp [World.setCell]
  have OW := hid_of ((Only.of_below' hbn.out (fun i => i = tb ∨ (S.lab i).isSome)).trans O2 (fun i _ h => .inl h))
  replace hs2 := hid_of hs2
  replace hv := hid_of hv
  clear c0 c1 c2 c3 c4 c5 c6 f6 hwA O Tb O2 OA TA RB hbn
  generalize wA.setCell ⟨tb, 6, none⟩ (.int .i64 (tries + 1)) = w2 at *
  refine (newTry_any b k n t hk OO.out hm).mono ?_
  rintro e w3 ⟨x, g, c, S', rfl, O3, ht3, T3, X3, hr3, hx3, hg3, hxl3, hgl3⟩
  have htn : tb < w2.heap.size := T2.out.lt
  have TT := T2.out.of_block (T3.only.block tb htn hnl)
  have RR := R2.out.of_block (T3.only.block w.heap.size R2.out.lt hRn.out)
  have d7 : w3.cell? ⟨tb, 7, none⟩ = some (.pointer none) := TT.cell rfl
  have d8 : w3.cell? ⟨tb, 8, none⟩ = some (.func (.func 25) #[] #[]) := TT.cell rfl
  have f7 := TT.thawed 7
  have f8 := TT.thawed 8
  have ht3l := TT.lt
  replace O3 := hid_of O3
  replace T3 := hid_of T3
  replace X3 := hid_of X3
  replace hr3 := hid_of hr3
  replace TT := hid_of TT
  replace RR := hid_of RR
  clear OO T2 R2
  go_wp2_with fail
  have hxt : x ≠ tb := by omega
  have hgt : g ≠ tb := by omega
  have O34 : Only (fun i => i = tb) w3 ((w3.setCell ⟨tb, 7, none⟩ (.pointer (some ⟨x, 0, none⟩))).setCell ⟨tb, 8, none⟩ (.func (.func 35) #[] #[])) := (Only.setR w3 tb 7 _).trans (Only.setR _ tb 8 _) (fun _ _ h => h)
  have hxl4 := X3.out.lt
  have hgl4 : g < w3.heap.size := (hr3.out.lt g rfl).2
  have T4 : Blk ((w3.setCell ⟨tb, 7, none⟩ (.pointer (some ⟨x, 0, none⟩))).setCell ⟨tb, 8, none⟩ (.func (.func 35) #[] #[])) tb (txCs p b k n t (tries + 1) (.pointer (some ⟨x, 0, none⟩)) (fnV 35)) 77 := (TT.out.set 7 _).set 8 _
  have X4 := X3.out.of_block (O34.block x hxl4 hxt)
  have hr4 := row_thru hr3.out (fun g' hg' => by cases hg'; exact O34.block g hgl4 hgt)
  have R4 := hid_of (RR.out.of_block (O34.block w.heap.size RR.out.lt (by omega)))
  have hnl' : ¬ (S'.lab tb).isSome := fun e => by rcases T3.out.lab tb e with h | h; exact hnl h; omega
  have O4 := O3.out.frame O34 (fun i _ h => by subst h; exact ⟨hB, hnl'⟩)
  have hs4 := O34.size
  have hBx : B ≤ x := by have := OW.out.size; omega
  have hRl := RR.out.lt
  have hSx : Hid (∀ i, (S'.lab i).isSome → i < w3.heap.size) := O3.out.own.store.lt
  have O34 := hid_of O34
  clear d7 d8 f7 f8 TT RR X3 hr3 O3
  generalize (w3.setCell ⟨tb, 7, none⟩ (.pointer (some ⟨x, 0, none⟩))).setCell ⟨tb, 8, none⟩ (.func (.func 35) #[] #[]) = w4 at *
  have hbB := E.below_new w4 (.cells doneZ 44)
  have FR := firstRead_any (O4.later hbB) x b k n t s.stamp g c (X4.of_block (hbB.block x X4.lt)) (row_thru hr4 (fun g' hg' => by cases hg'; exact hbB.block g (hr4.lt g rfl).2)) hBx hxl3 hv.out tb
  have hszB : (w4.alloc (.cells doneZ 44)).heap.size = w4.heap.size + 1 := by simp
  have TR := txRead_any tb x p b k n t (tries + 1) w4 T4 _ 1 (looksP k n (namesP (pinP s) s.stamp) x).length (fun i => i = x ∨ i = g) X4.lt (fun h => h.elim (fun h => hxt h.symm) (fun h => hgt h.symm)) (fun h => by have := X4.lt; have := (hr4.lt g rfl).2; omega) FR
    (fun w' h => by
      obtain ⟨g1, c1, a, c2, h1, h2, h3, h4, h5⟩ := h
      exact ⟨h5, h1.cell rfl, _, _, h1.cell rfl⟩)
  clear FR
  replace O4 := hid_of O4
  replace X4 := hid_of X4
  replace hr4 := hid_of hr4
  replace T4 := hid_of T4
  replace hbB := hid_of hbB
  replace hszB := hid_of hszB
  replace TR := TR.mono (fun e w' h => (show e = .returned (.tuple #[.agg doneZ, .bool false]) ∧ Hid _ from h))
  unfold doneZ at TR
  unfold fnV at TR
  refine TR.mono ?_
  rintro e w6 ⟨rfl, H⟩
  clear TR
  have hwB := hid_of hbB.out.size
  have R6 : Blk w6 w.heap.size #[.int .i64 0, .string ⟨#[]⟩, .slice none 0 0, .slice none 0 0, .int .i64 0, .bool false] 44 := by
    obtain ⟨w5, ⟨g1, c1, a, c2, X5, hL5, hN5, hg1, O45⟩, T6, O56⟩ := H.out
    have e1 := hszB.out
    have e2 := hszA.out
    have e3 := hs2.out
    have q5 := (R4.out.of_block (hbB.out.block w.heap.size (by omega))).of_block (O45.block w.heap.size (Nat.lt_of_lt_of_le (by omega) hwB.out) (by omega))
    exact q5.of_block (O56.block w.heap.size q5.lt (by omega))
  have y0 : w6.cell? ⟨w.heap.size, 0, none⟩ = some (.int .i64 0) := R6.cell rfl
  have y1 : w6.cell? ⟨w.heap.size, 1, none⟩ = some (.string ⟨#[]⟩) := R6.cell rfl
  have y2 : w6.cell? ⟨w.heap.size, 2, none⟩ = some (.slice none 0 0) := R6.cell rfl
  have y3 : w6.cell? ⟨w.heap.size, 3, none⟩ = some (.slice none 0 0) := R6.cell rfl
  have y4 : w6.cell? ⟨w.heap.size, 4, none⟩ = some (.int .i64 0) := R6.cell rfl
  have y5 : w6.cell? ⟨w.heap.size, 5, none⟩ = some (.bool false) := R6.cell rfl
  have z0 := R6.thawed 0
  have z1 := R6.thawed 1
  have z2 := R6.thawed 2
  have z3 := R6.thawed 3
  have z4 := R6.thawed 4
  have z5 := R6.thawed 5
  have hR6 := R6.lt
  replace R6 := hid_of R6
  go_wp2_with fail
  have Z := put6_blk R6.out (.int .i64 0) (.string ⟨#[]⟩) (.slice none 0 0) (.slice none 0 0) (.int .i64 0) (.bool false)
  have u0 := Z.cell (i := 0) rfl
  have u1 := Z.cell (i := 1) rfl
  have u2 := Z.cell (i := 2) rfl
  have u3 := Z.cell (i := 3) rfl
  have u4 := Z.cell (i := 4) rfl
  have u5 := Z.cell (i := 5) rfl
  unfold put6 at u0 u1 u2 u3 u4 u5
  simp at u0 u1 u2 u3 u4 u5
  have P := put6_only w6 w.heap.size (.int .i64 0) (.string ⟨#[]⟩) (.slice none 0 0) (.slice none 0 0) (.int .i64 0) (.bool false)
  obtain ⟨w5, ⟨g1, c1, a, c2, X5, hL5, hN5, hg1, O45⟩, T6, O56⟩ := H.out
  refine bodyPost_ret (v := .tuple #[.agg #[.int .i64 0, .string ⟨#[]⟩, .slice none 0 0, .slice none 0 0, .int .i64 0, .bool false], .bool false]) (by simp [results, Tryz.results25, go_sem, u0, u1, u2, u3, u4, u5]) rfl ⟨rfl, S', (fun i => i = tb ∨ i = x ∨ i = g1 ∨ (Value.slice a (namesP (pinP s) s.stamp).length c2).ownBlock = some i), x, ?_⟩
  have e1 : w4.heap.size + 1 ≤ w5.heap.size := Nat.le_trans (Nat.le_of_eq hszB.out.symm) O45.size
  have e2 := hszA.out
  have e3 := hs2.out
  have e5 := O56.size
  have e6 := P.size
  have hT6 := T6.lt
  have hx4l := X4.out.lt
  have hg4l : g < w4.heap.size := (hr4.out.lt g rfl).2
  have hwBs := hszB.out
  have hRS : ¬ (S'.lab w.heap.size).isSome := fun e => by rcases T3.out.lab _ e with h | h; exact hRn.out h; omega
  have hbb : Only (fun i => i = x ∨ i = g ∨ i = tb ∨ i = w4.heap.size ∨ i = w.heap.size) w4 (w4.alloc (.cells doneZ 44)) := Only.of_below' hbB.out _
  have OD := ((hbb.trans O45 (fun i _ h => by rcases h with h | h; exact .inl h; exact .inr (.inl h))).trans O56 (fun i _ h => by rcases h with h | h; exact .inr (.inr (.inl h)); exact .inr (.inr (.inr (.inl h))))).trans P (fun i _ h => .inr (.inr (.inr (.inr h))))
  have hgg : g1 ≠ tb ∧ g1 ≠ w4.heap.size ∧ g1 ≠ w.heap.size ∧ w.heap.size ≤ g1 ∧ ¬ (S'.lab g1).isSome := by
    rcases hg1 with h | h
    · rw [h]; exact ⟨hgt, by omega, by omega, by omega, hgl3⟩
    · replace h : w4.heap.size + 1 ≤ g1 := Nat.le_trans (Nat.le_of_eq hwBs.symm) h
      exact ⟨by omega, by omega, by omega, by omega, fun e => by have := hSx.out _ e; omega⟩
  have hnb : ∀ i, (Value.slice a (namesP (pinP s) s.stamp).length c2).ownBlock = some i → i ≠ tb ∧ i ≠ w4.heap.size ∧ i ≠ w.heap.size ∧ w.heap.size ≤ i ∧ i < w5.heap.size ∧ ¬ (S'.lab i).isSome := fun i hi => by
    have h := hN5.lt i hi
    have h1 : w4.heap.size + 1 ≤ i := Nat.le_trans (Nat.le_of_eq hwBs.symm) h.1
    exact ⟨by omega, by omega, by omega, by omega, h.2, fun e => by have := hSx.out _ e; omega⟩
  have hg5 : g1 < w5.heap.size := (hL5.lt g1 rfl).2
  have hx5 := X5.lt
  have blk7 : ∀ i, i < w5.heap.size → i ≠ tb → i ≠ w4.heap.size → i ≠ w.heap.size → (put6 w6 w.heap.size (.int .i64 0) (.string ⟨#[]⟩) (.slice none 0 0) (.slice none 0 0) (.int .i64 0) (.bool false)).heap[i]? = w5.heap[i]? := fun i h0 h1 h2 h3 => by
    rw [P.block i (by omega) h3]
    exact O56.block i h0 (fun h => h.elim h1 h2)
  have key : After B p (m + 1) w0 w (put6 w6 w.heap.size (.int .i64 0) (.string ⟨#[]⟩) (.slice none 0 0) (.slice none 0 0) (.int .i64 0) (.bool false)) S (pinP s) tb b k n t (tries + 1) (if (1 : Int) = (looksP k n (namesP (pinP s) s.stamp) x).length then 43 else 35) s.stamp 1 (namesP (pinP s) s.stamp) [] false S.tot S' (fun i => i = tb ∨ i = x ∨ i = g1 ∨ (Value.slice a (namesP (pinP s) s.stamp).length c2).ownBlock = some i) x := by
    refine ⟨O4.out.frame OD (fun i hi h => ?_), ht3, fun i e => ?_, ?_, T6.of_block (P.block tb hT6 (by omega)), ⟨g1, c1, a, c2, X5.of_block (blk7 x hx5 hxt (by omega) (by omega)), row_thru hL5 (fun g' hg' => by cases hg'; exact blk7 g1 hg5 hgg.1 hgg.2.1 hgg.2.2.1), row_base (E.owns_of_block' hN5 (fun g' hg' => by have q := hnb g' hg'; exact blk7 g' q.2.2.2.2.1 q.1 q.2.1 q.2.2.1)) (Nat.zero_le _), .inr (.inl rfl), .inr (.inr (.inl rfl)), fun h hh => .inr (.inr (.inr hh))⟩, .inl rfl, fun i hi => ?_⟩
    · rcases h with rfl | rfl | rfl | rfl | rfl
      · exact ⟨hBx, hxl3⟩
      · exact ⟨by omega, hgl3⟩
      · exact ⟨hB, hnl'⟩
      · omega
      · exact ⟨by omega, hRS⟩
    · rcases T3.out.lab i e with h | h
      · exact .inl h
      · right; omega
    · exact ((OW.out.trans (G := fun i => (S.lab i).isSome) T3.out.only (fun i _ h => .inr h)).trans (G := fun i => i = tb) O34.out (fun i _ h => .inl h)).trans OD (fun i hi h => by
        rcases h with rfl | rfl | rfl | rfl | rfl
        · omega
        · omega
        · exact .inl rfl
        · omega
        · omega)
    · rcases hi with rfl | rfl | rfl | hi
      · exact ⟨.inl rfl, by omega, hnl'⟩
      · exact ⟨.inr (by omega), by omega, hxl3⟩
      · exact ⟨.inr hgg.2.2.2.1, by omega, hgg.2.2.2.2⟩
      · have q := hnb i hi
        exact ⟨.inr q.2.2.2.1, by have := q.2.2.2.2.1; omega, q.2.2.2.2.2⟩
  exact key
end Go.Proofs.YtlncljfljjaacaaGreatDoor
