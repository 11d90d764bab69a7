/- The last Step of a request. -/
import Derived.Test.YtlncljfljjaacaaGreatDoorTxO
namespace Go.Proofs.YtlncljfljjaacaaGreatDoor
open Go.ChangeShapes Go.WideShapes Go.ChangeAt Go.RowKit
set_option linter.unusedVariables false
set_option linter.unusedSimpArgs false

/-- What a try that is settled leaves. -/
structure Settled (B p m : Nat) (w0 w2 : World) (s2 : Sto) (tb x b : Nat) (k : Int) (n t : E.Bs) (tries at' : Int) (next : Value) (w : World) (G : Nat → Prop) (S2 : St) (cs : Array Value) : Prop where
  own : OwnP B p w0 w2 S2 s2 m
  tx : Blk w2 tb (txCs p b k n t tries (.pointer (some ⟨x, 0, none⟩)) next) 77
  tr : Blk w2 x cs 96
  h11 : cs[11]? = some (.int .i64 at')
  res : Blk w2 w.heap.size doneZ 44
  ntb : ¬ (S2.lab tb).isSome
  nx : ¬ (S2.lab x).isSome
  nR : ¬ (S2.lab w.heap.size).isSome
  btb : B ≤ tb
  bR : B ≤ w.heap.size
  only : Only G w w2
  lab : ∀ i, (S2.lab i).isSome → G i ∨ w.heap.size ≤ i

theorem Step.kept {w w' : World} {S S' : St} {b : Nat} {cs : Array Value} {t : TypeId} (T : Step w w' S S') (X : Blk w b cs t) (h : ¬ (S.lab b).isSome) : Blk w' b cs t ∧ ¬ (S'.lab b).isSome :=
  ⟨X.of_block (T.only.block _ X.lt h), fun e => by
    rcases T.lab b e with h2 | h2
    · exact h h2
    · have := X.lt; omega⟩

set_option maxHeartbeats 3200000 in
set_option maxRecDepth 20000 in
/-- t.end, where the try's end, and how it is settled, are known. -/
theorem txEnd_any {B p m : Nat} {w0 : World} (hm : m ≤ 1000) (s2 : Sto) (tb x b : Nat) (k : Int) (n t : E.Bs) (tries at' : Int) (next : Value) (w : World) (Tb : Blk w tb (txCs p b k n t tries (.pointer (some ⟨x, 0, none⟩)) next) 77)
    (E0 E1 st : Int) (wr : Bool) (gl : Nat) (Q1 : Option Addr → Nat → World → Prop) (Q2 : World → Prop)
    (hE : Calls Tryz.prog 63 #[.pointer (some ⟨x, 0, none⟩)] (w.alloc (.cells doneZ 44)) fun e w' => ∃ ga gc, e = .returned (.tuple #[.agg (respV E0), .slice ga gl gc]) ∧ Q1 ga gc w')
    (hS : ∀ ga gc w1, Q1 ga gc w1 → Calls Tryz.prog 62 #[.pointer (some ⟨tb, 0, none⟩), .agg (respV E0), .slice ga gl gc] w1 fun e w' => e = .returned (.tuple #[.agg #[.int .i64 E1, .string ⟨#[]⟩, .slice none 0 0, .slice none 0 0, .int .i64 st, .bool wr], .bool true]) ∧ Q2 w')
    (G : Nat → Prop) (hGt : G tb) (hQ : ∀ w2, Q2 w2 → ∃ S2 cs, Settled B p m w0 w2 s2 tb x b k n t tries at' next w G S2 cs) :
    Calls Tryz.prog 43 #[.pointer (some ⟨tb, 0, none⟩)] w fun e w' => e = .returned (.tuple #[.agg #[.int .i64 E1, .string ⟨#[]⟩, .slice none 0 0, .slice none 0 0, .int .i64 st, .bool wr], .bool true]) ∧ ∃ S3, OwnP B p w0 w' S3 (cleanP (unpinP s2 at')).1 m ∧ Blk w' tb (offCs tries) 77 ∧ Only G w w' ∧ ∀ i, (S3.lab i).isSome → G i ∨ w.heap.size ≤ i := by
  have htl := Tb.lt
  have c7 : w.cell? ⟨tb, 7, none⟩ = some (.pointer (some ⟨x, 0, none⟩)) := Tb.cell rfl
  have hS := hid_of hS
  have hQ := hid_of hQ
  replace hE := hE.mono (fun e w' h => (show ∃ ga gc, e = .returned (.tuple #[.agg (respV E0), .slice ga gl gc]) ∧ Hid (Q1 ga gc w') from h))
  unfold doneZ respV at hE
  clear Tb
  go_enter Tryz.func43, Tryz.ntmps43
  go_wp2_with fail
  refine hE.mono ?_
  rintro e w1 ⟨ga, gc, rfl, hq1⟩
  have ST := hS.out ga gc w1 hq1.out
  unfold respV at ST
  replace ST := ST.mono (fun e w' h => (show e = .returned (.tuple #[.agg #[.int .i64 E1, .string ⟨#[]⟩, .slice none 0 0, .slice none 0 0, .int .i64 st, .bool wr], .bool true]) ∧ Hid (Q2 w') from h))
  clear hE
  go_wp2_with fail
  refine ST.mono ?_
  rintro e w2 ⟨rfl, hq2⟩
  clear ST
  obtain ⟨S2, cs, H2⟩ := hQ.out w2 hq2.out
  clear hQ hS
  have hb3 := E.below_new w2 (.cells #[.int .i64 E1, .string ⟨#[]⟩, .slice none 0 0, .slice none 0 0, .int .i64 st, .bool wr] 44)
  have D3 := Blk.new w2 #[.int .i64 E1, .string ⟨#[]⟩, .slice none 0 0, .slice none 0 0, .int .i64 st, .bool wr] 44
  have hDn : ¬ (S2.lab w2.heap.size).isSome := fun e => by have := H2.own.own.store.lt _ e; omega
  have O3 := hid_of (H2.own.later hb3.drew)
  have T3 := (H2.tx.of_block (hb3.block tb H2.tx.lt))
  have X3 := (H2.tr.of_block (hb3.block x H2.tr.lt))
  have R3 := (H2.res.of_block (hb3.block _ H2.res.lt))
  go_wp2_with fail
  generalize w2.alloc (.cells #[.int .i64 E1, .string ⟨#[]⟩, .slice none 0 0, .slice none 0 0, .int .i64 st, .bool wr] 44) = w3 at *
  have d0 : w3.drew.cell? ⟨tb, 0, none⟩ = some (.pointer (some ⟨p, 0, none⟩)) := T3.cell rfl
  have d7 : w3.drew.cell? ⟨tb, 7, none⟩ = some (.pointer (some ⟨x, 0, none⟩)) := T3.cell rfl
  have d11 : w3.drew.cell? ⟨x, 11, none⟩ = some (.int .i64 at') := X3.cell H2.h11
  have ht3 : tb < w3.drew.heap.size := T3.lt
  have hx3 : x < w3.drew.heap.size := X3.lt
  have UP := unpin_own O3.out hm at'
  replace UP := UP.mono (fun e w' h => by
    obtain ⟨h1, S4, h2, h3, h4⟩ := h
    exact (⟨h1, S4, h2, h3⟩ : e = .returned (.tuple #[]) ∧ Hid (∃ S4, OwnP B p w0 w' S4 (unpinP s2 at') m ∧ Step w3.drew w' S2 S4)))
  have W3 : Hid (Only G w w3.drew) := (H2.only.trans (Only.of_below' hb3 G) (fun _ _ h => h)).drew
  have H2 := hid_of H2
  have D3 : Hid (Blk w3.drew w2.heap.size _ 44) := D3.drew'
  have T3 : Hid (Blk w3.drew tb _ 77) := T3.drew'
  have R3 : Hid (Blk w3.drew w.heap.size _ 44) := R3.drew'
  clear O3 X3 hb3
  go_region_with (go_at_call 64; refine UP.mono ?_; rintro e w4 ⟨rfl, H4⟩)
  all_goals
    obtain ⟨S4, O4, T4⟩ := H4.out
    obtain ⟨tb4, ntb4⟩ := T4.kept T3.out H2.out.ntb
    obtain ⟨D4, nD4⟩ := T4.kept D3.out hDn
    obtain ⟨R4, nR4⟩ := T4.kept R3.out H2.out.nR
    have c0 : w4.cell? ⟨tb, 0, none⟩ = some (.pointer (some ⟨p, 0, none⟩)) := tb4.cell rfl
    have ht4 : tb < w4.heap.size := tb4.lt
    have CL := clean_own O4
    replace CL := CL.mono (fun e w' h => by
      obtain ⟨S5, h1, h2, h3, h4⟩ := h
      exact (⟨h1, S5, h2, h3⟩ : e = .returned (.int .i64 (cleanP (unpinP s2 at')).2) ∧ Hid (∃ S5, OwnP B p w0 w' S5 (cleanP (unpinP s2 at')).1 m ∧ Step w4 w' S4 S5)))
    replace tb4 := hid_of tb4
    replace D4 := hid_of D4
    replace R4 := hid_of R4
    have W4 : Hid (Only G w w4) := W3.out.trans T4.only (fun i hi e => (H2.out.lab i e).resolve_right (by omega))
    have lab4 : Hid (∀ i, (S4.lab i).isSome → G i ∨ w.heap.size ≤ i) := fun i e => by
      rcases T4.lab i e with h | h
      · exact H2.out.lab i h
      · have := W3.out.size
        right; omega
    clear O4 T4 H4 T3 D3 R3 UP
    go_wp2_with fail
    refine CL.mono ?_
    rintro e w5 ⟨rfl, H5⟩
    obtain ⟨S5, O5, T5⟩ := H5.out
    obtain ⟨tb5, ntb5⟩ := T5.kept tb4.out ntb4
    obtain ⟨D5, nD5⟩ := T5.kept D4.out nD4
    obtain ⟨R5, nR5⟩ := T5.kept R4.out nR4
    have SP := stop_any tb p b k n t tries (.pointer (some ⟨x, 0, none⟩)) next w5 tb5
    replace SP := SP.mono (fun e w' h => (show e = .returned (.tuple #[]) ∧ Hid _ from h))
    replace O5 := hid_of O5
    replace D5 := hid_of D5
    replace R5 := hid_of R5
    have W5 : Hid (Only G w w5) := W4.out.trans T5.only (fun i hi e => (lab4.out i e).resolve_right (by omega))
    have lab5 : Hid (∀ i, (S5.lab i).isSome → G i ∨ w.heap.size ≤ i) := fun i e => by
      rcases T5.lab i e with h | h
      · exact lab4.out i h
      · have := W4.out.size
        right; omega
    clear T5 H5 CL tb4 D4 R4 tb5
    go_wp2_with fail
    refine SP.mono ?_
    rintro e w6 ⟨rfl, H6⟩
    have hDtb : w2.heap.size ≠ tb := fun e => by have := H2.out.tx.lt; omega
    have hRtb : w.heap.size ≠ tb := fun e => by omega
    have D6 := D5.out.of_block (H6.out.2.block _ D5.out.lt hDtb)
    have R6 := R5.out.of_block (H6.out.2.block _ R5.out.lt hRtb)
    unfold doneZ at R6
    have q0 : w6.cell? ⟨w2.heap.size, 0, none⟩ = some (.int .i64 E1) := D6.cell rfl
    have q1 : w6.cell? ⟨w2.heap.size, 1, none⟩ = some (.string ⟨#[]⟩) := D6.cell rfl
    have q2 : w6.cell? ⟨w2.heap.size, 2, none⟩ = some (.slice none 0 0) := D6.cell rfl
    have q3 : w6.cell? ⟨w2.heap.size, 3, none⟩ = some (.slice none 0 0) := D6.cell rfl
    have q4 : w6.cell? ⟨w2.heap.size, 4, none⟩ = some (.int .i64 st) := D6.cell rfl
    have q5 : w6.cell? ⟨w2.heap.size, 5, none⟩ = some (.bool wr) := D6.cell rfl
    have y0 : w6.cell? ⟨w.heap.size, 0, none⟩ = some (.int .i64 0) := R6.cell rfl
    have y1 : w6.cell? ⟨w.heap.size, 1, none⟩ = some (.string ⟨#[]⟩) := R6.cell rfl
    have y2 : w6.cell? ⟨w.heap.size, 2, none⟩ = some (.slice none 0 0) := R6.cell rfl
    have y3 : w6.cell? ⟨w.heap.size, 3, none⟩ = some (.slice none 0 0) := R6.cell rfl
    have y4 : w6.cell? ⟨w.heap.size, 4, none⟩ = some (.int .i64 0) := R6.cell rfl
    have y5 : w6.cell? ⟨w.heap.size, 5, none⟩ = some (.bool false) := R6.cell rfl
    have z0 := R6.thawed 0
    have z1 := R6.thawed 1
    have z2 := R6.thawed 2
    have z3 := R6.thawed 3
    have z4 := R6.thawed 4
    have z5 := R6.thawed 5
    have hD6 := D6.lt
    have hR6 := R6.lt
    replace R6 := hid_of R6
    clear D6 D5 R5 SP
    go_wp2_with fail
    have Z := put6_blk R6.out (.int .i64 E1) (.string ⟨#[]⟩) (.slice none 0 0) (.slice none 0 0) (.int .i64 st) (.bool wr)
    have u0 := Z.cell (i := 0) rfl
    have u1 := Z.cell (i := 1) rfl
    have u2 := Z.cell (i := 2) rfl
    have u3 := Z.cell (i := 3) rfl
    have u4 := Z.cell (i := 4) rfl
    have u5 := Z.cell (i := 5) rfl
    unfold put6 at u0 u1 u2 u3 u4 u5
    simp at u0 u1 u2 u3 u4 u5
    have P := put6_only w6 w.heap.size (.int .i64 E1) (.string ⟨#[]⟩) (.slice none 0 0) (.slice none 0 0) (.int .i64 st) (.bool wr)
    have key : ∃ S3, OwnP B p w0 (put6 w6 w.heap.size (.int .i64 E1) (.string ⟨#[]⟩) (.slice none 0 0) (.slice none 0 0) (.int .i64 st) (.bool wr)) S3 (cleanP (unpinP s2 at')).1 m ∧ Blk (put6 w6 w.heap.size (.int .i64 E1) (.string ⟨#[]⟩) (.slice none 0 0) (.slice none 0 0) (.int .i64 st) (.bool wr)) tb (offCs tries) 77 ∧ Only G w (put6 w6 w.heap.size (.int .i64 E1) (.string ⟨#[]⟩) (.slice none 0 0) (.slice none 0 0) (.int .i64 st) (.bool wr)) ∧ ∀ i, (S3.lab i).isSome → G i ∨ w.heap.size ≤ i := by
      obtain ⟨h1, h2⟩ := H6.out
      refine ⟨S5, (O5.out.frame h2 (fun i _ h => ?_)).frame P (fun i _ h => ?_), h1.of_block (P.block _ h1.lt hRtb.symm), (W5.out.trans h2 (fun i _ e => by rw [e]; exact hGt)).trans P (fun i hi e => by omega), lab5.out⟩
      · subst h
        exact ⟨H2.out.btb, ntb5⟩
      · subst h
        exact ⟨H2.out.bR, nR5⟩
    exact bodyPost_ret (v := .tuple #[.agg #[.int .i64 E1, .string ⟨#[]⟩, .slice none 0 0, .slice none 0 0, .int .i64 st, .bool wr], .bool true]) (by simp [results, Tryz.results43, go_sem, u0, u1, u2, u3, u4, u5]) rfl ⟨rfl, key⟩
end Go.Proofs.YtlncljfljjaacaaGreatDoor
