/- What the law knows. -/
import Derived.Test.YtlncljfljjaacaaGreatDoorTxR
namespace Go.Proofs.YtlncljfljjaacaaGreatDoor
open Go.ChangeShapes Go.WideShapes Go.ChangeAt Go.RowKit
set_option linter.unusedVariables false
set_option linter.unusedSimpArgs false

theorem TryAt.only {w w' : World} {F G : Nat → Prop} {x p b : Nat} {k : Int} {n t : E.Bs} {at' : Int} {L : List Lk} {past : Int} {N : List E.Bs} {text : E.Bs} {is : Bool} (h : TryAt w F x p b k n t at' L past N text is) (o : Only G w w') (hF : ∀ i, F i → ¬ G i ∧ i < w.heap.size) : TryAt w' F x p b k n t at' L past N text is := by
  obtain ⟨g, c, a, c2, X, LR, NR, fx, fg, fn⟩ := h
  refine ⟨g, c, a, c2, X.of_block (o.block x (hF x fx).2 (hF x fx).1), row_thruA LR (fun i hi => ?_), row_thruA NR (fun i hi => o.block i (hF i (fn i hi)).2 (hF i (fn i hi)).1), fx, fg, fn⟩
  cases hi
  exact o.block g (hF g fg).2 (hF g fg).1

/-- A request on its way that the store knows, and blocks besides that are let be. -/
structure Under (B p m : Nat) (w0 w : World) (S : St) (s : Sto) (tb b : Nat) (t : E.Bs) (next : Nat) (at' past : Int) (text : E.Bs) (is : Bool) (F : Nat → Prop) (x : Nat) : Prop where
  own : OwnP B p w0 w S s m
  tot : S.tot = 0
  tx : Blk w tb (txCs p b 1 [109] t 1 (.pointer (some ⟨x, 0, none⟩)) (fnV next)) 77
  tr : TryAt w F x p b 1 [109] t at' [look0 1 x] past [] text is
  ftb : F tb
  fp : ∀ i, F i → B ≤ i ∧ i < w.heap.size ∧ ¬ (S.lab i).isSome

def KS : Sto := ⟨100, 0, [], []⟩

theorem Under.later {B p m : Nat} {w0 w w' : World} {S : St} {s : Sto} {tb b : Nat} {t : E.Bs} {next : Nat} {at' past : Int} {text : E.Bs} {is : Bool} {F : Nat → Prop} {x : Nat} (U : Under B p m w0 w S s tb b t next at' past text is F x) {G : Nat → Prop} (o : Only G w w') (hG : ∀ i, i < w.heap.size → G i → B ≤ i ∧ ¬ F i ∧ ¬ (S.lab i).isSome) : Under B p m w0 w' S s tb b t next at' past text is F x :=
  ⟨U.own.frame o (fun i hi h => ⟨(hG i hi h).1, (hG i hi h).2.2⟩), U.tot, U.tx.of_block (o.block tb U.tx.lt (fun h => (hG tb U.tx.lt h).2.1 U.ftb)), U.tr.only o (fun i h => ⟨fun h2 => (hG i (U.fp i h).2.1 h2).2.1 h, (U.fp i h).2.1⟩), U.ftb, fun i h => ⟨(U.fp i h).1, Nat.lt_of_lt_of_le (U.fp i h).2.1 o.size, (U.fp i h).2.2⟩⟩

set_option maxHeartbeats 800000 in
/-- The first Step of a Put into an empty store. -/
theorem step1_any {B p : Nat} {w0 w : World} {S : St} (O : OwnP B p w0 w S KS 0) (htot : S.tot = 0) (tb b : Nat) (t : E.Bs) (Tb : Blk w tb (txCs p b 1 [109] t 0 (.pointer none) (fnV 25)) 77) (hB : B ≤ tb) (hnl : ¬ (S.lab tb).isSome) :
    Calls Tryz.prog 14 #[.pointer (some ⟨tb, 0, none⟩)] w fun e w' => e = .returned (.tuple #[.agg #[.int .i64 0, .string ⟨#[]⟩, .slice none 0 0, .slice none 0 0, .int .i64 0, .bool false], .bool false]) ∧ ∃ S' F x, Under B p 1 w0 w' S' (pinP KS) tb b t 43 0 1 [] false F x ∧ Only (fun i => i = tb ∨ (S.lab i).isSome) w w' ∧ (∀ i, F i → i = tb ∨ w.heap.size ≤ i) ∧ ∀ i, (S'.lab i).isSome → (S.lab i).isSome ∨ w.heap.size ≤ i := by
  have hb1 := E.below_new w (.cells doneZ 44)
  have hz1 : (w.alloc (.cells doneZ 44)).heap.size = w.heap.size + 1 := by simp
  have htl := Tb.lt
  have hlt : ∀ i, (S.lab i).isSome → i < w.heap.size := fun i e => O.own.store.lt i e
  have BE := begin1_any (O.later hb1) (by decide) tb b 1 [109] t (.inl rfl) 0 (by decide) (Tb.of_block (hb1.block _ htl)) hB hnl (by show (readP KS ⟨#[100]⟩ 0).1.size ≤ 1000000; rw [show (readP KS ⟨#[100]⟩ 0).1.size = 0 from new0]; decide)
  have e1 : namesP KS KS.stamp = [] := names0
  rw [e1] at BE
  have ST := step_any tb p b 1 [109] t 0 (.pointer none) 25 w Tb beginF_enters 0 0 false false _ (fun i => i = tb ∨ (S.lab i).isSome) (fun h => h.elim (fun h => by omega) (fun h => by have := hlt _ h; omega)) BE (fun w' h => by
    obtain ⟨S', F, x, A⟩ := h
    exact A.only)
  refine ST.mono ?_
  rintro e w' ⟨rfl, w1, ⟨S', F, x, A⟩, o⟩
  refine ⟨rfl, S', F, x, ?_, ?_, fun i h => ?_, fun i h => ?_⟩
  · have hfp : ∀ i, F i → B ≤ i ∧ i < w1.heap.size ∧ ¬ (S'.lab i).isSome ∧ i ≠ w.heap.size := fun i h => by
      have := (A.fp i h).1
      have hbs := O.own.size
      refine ⟨by omega, (A.fp i h).2.1, (A.fp i h).2.2, by omega⟩
    have hl1 : ¬ (S'.lab w.heap.size).isSome := fun h => by
      rcases A.lab _ h with h | h
      · have := hlt _ h; omega
      · omega
    have U : Under B p 1 w0 w1 S' (pinP KS) tb b t 43 0 1 [] false F x := ⟨A.own, A.tot.trans htot, A.tx, A.tr, A.ftb, fun i h => ⟨(hfp i h).1, (hfp i h).2.1, (hfp i h).2.2.1⟩⟩
    exact U.later o (fun i hi h => by rw [h]; exact ⟨O.own.size, fun h2 => (hfp _ h2).2.2.2 rfl, hl1⟩)
  · exact ((Only.of_below' hb1 _).trans A.only (fun i _ h => h)).trans o (fun i hi h => by omega)
  · have := (A.fp i h).1
    omega
  · rcases A.lab i h with h | h
    · exact .inl h
    · right; omega

set_option maxHeartbeats 800000 in
/-- The last Step. -/
theorem step2_any {B p : Nat} {w0 w : World} {S : St} {tb b x : Nat} {F : Nat → Prop} (U : Under B p 1 w0 w S (pinP KS) tb b [120] 43 0 1 [] false F x) :
    Calls Tryz.prog 14 #[.pointer (some ⟨tb, 0, none⟩)] w fun e w' => e = .returned (.tuple #[.agg #[.int .i64 0, .string ⟨#[]⟩, .slice none 0 0, .slice none 0 0, .int .i64 1, .bool true], .bool true]) ∧ ∃ S3, OwnP B p w0 w' S3 (cleanP (unpinP (commitP (pinP KS) (put2 [109] [120])).1 0)).1 1 ∧ Blk w' tb (offCs 1) 77 ∧ Only (fun i => F i ∨ (S.lab i).isSome) w w' ∧ ∀ i, (S3.lab i).isSome → (F i ∨ (S.lab i).isSome) ∨ w.heap.size ≤ i := by
  have hb1 := E.below_new w (.cells doneZ 44)
  have hz1 : (w.alloc (.cells doneZ 44)).heap.size = w.heap.size + 1 := by simp
  have hlt : ∀ i, (S.lab i).isSome → i < w.heap.size := fun i e => U.own.own.store.lt i e
  have UA := U.later (Only.of_below' hb1 (fun _ => False)) (fun i _ h => h.elim)
  have ec : (commitP (pinP KS) (put2 [109] [120])).2 = (1, 0) := put2_known
  have EN := endPut0_any UA.own (by decide) tb b x [109] [120] 1 0 _ 1 [] false F UA.tx UA.tr UA.ftb UA.fp (by decide) (by decide) (by rw [join_known]; decide) (stale_known x) (by rw [ec]) (by rw [UA.tot]; decide) (by decide)
  rw [show (commitP (pinP KS) (put2 [109] [120])).2.1 = 1 by rw [ec]] at EN
  have ST := step_any tb p b 1 [109] [120] 1 _ 43 w U.tx endF_enters 0 1 true true _ (fun i => F i ∨ (S.lab i).isSome) (fun h => h.elim (fun h => by have := (U.fp _ h).2.1; omega) (fun h => by have := hlt _ h; omega)) EN (fun w' h => by
    obtain ⟨S', h1, h2, h3, h4⟩ := h
    exact h3)
  refine ST.mono ?_
  rintro e w' ⟨rfl, w1, ⟨S3, h1, h2, h3, h4⟩, o⟩
  have hl1 : ¬ (S3.lab w.heap.size).isSome := fun h => by
    rcases h4 _ h with (h | h) | h
    · have := (U.fp _ h).2.1; omega
    · have := hlt _ h; omega
    · omega
  refine ⟨rfl, S3, h1.frame o (fun i hi h => by rw [h]; exact ⟨U.own.own.size, hl1⟩), h2.of_block (o.block tb h2.lt (fun h => by have := U.tx.lt; omega)), ((Only.of_below' hb1 _).trans h3 (fun i _ h => h)).trans o (fun i hi h => by omega), fun i h => ?_⟩
  rcases h4 i h with h | h
  · exact .inl h
  · right; omega
end Go.Proofs.YtlncljfljjaacaaGreatDoor
