/- A try begins; a key is read. -/
import Derived.Test.YtlncljfljjaacaaGreatDoorTxC
namespace Go.Proofs.YtlncljfljjaacaaGreatDoor
open Go.ChangeShapes Go.WideShapes Go.ChangeAt Go.RowKit
set_option linter.unusedVariables false
set_option linter.unusedSimpArgs false

theorem Own.frame {B p : Nat} {w0 w w' : World} {S : St} {s : Sto} {F : Nat → Prop} (O : Own B p w0 w S s) (h : Only F w w') (hF : ∀ i, i < w.heap.size → F i → B ≤ i ∧ ¬ (S.lab i).isSome) : Own B p w0 w' S s :=
  ⟨O.ptr, O.below.trans ⟨h.os, h.tape, h.output, h.size, fun k hk => h.block k (Nat.lt_of_lt_of_le hk O.size) (fun hf => by have := (hF k (Nat.lt_of_lt_of_le hk O.size) hf).1; omega)⟩, Nat.le_trans O.size h.size, O.store.frame h.size (fun b e => h.block b (O.store.lt b e) (fun hf => (hF b (O.store.lt b e) hf).2 e)), O.good, O.abs, O.ge⟩
theorem OwnP.frame {B p m : Nat} {w0 w w' : World} {S : St} {s : Sto} {F : Nat → Prop} (O : OwnP B p w0 w S s m) (h : Only F w w') (hF : ∀ i, i < w.heap.size → F i → B ≤ i ∧ ¬ (S.lab i).isSome) : OwnP B p w0 w' S s m :=
  ⟨O.own.frame h hF, O.pin, O.few⟩

theorem hid_of {p : Prop} (h : p) : Hid p := h

/-- The key of names is looked for. -/
def takeF (k : Int) : Nat := if k = 3 then 80 else 71
def look0 (k : Int) (x : Nat) : Lk := ⟨[100], [], bndV (takeF k) x⟩

theorem startF_enters (k : Int) (args : Array Value) (w : World) : (callFunc (startF k) args).run Tryz.prog w = .ok (.enter (startF k) args) w := by
  unfold startF
  split
  · exact enters_of Tryz.func53 (by kernel_rfl) rfl args w
  · exact enters_of Tryz.func50 (by kernel_rfl) rfl args w

set_option maxHeartbeats 3200000 in
set_option maxRecDepth 20000 in
theorem newTry_any {B p m : Nat} {w0 w : World} {S : St} {s : Sto} (b : Nat) (k : Int) (n t : E.Bs) (hk : k = 1 ∨ k = 2 ∨ k = 3) (O : OwnP B p w0 w S s m) (hm : m ≤ 100) :
    Calls Tryz.prog 34 #[.agg #[.pointer (some ⟨p, 0, none⟩), .pointer (some ⟨b, 0, none⟩), .int .i64 k, .string (E.bs n), .string (E.bs t), .int .i64 0]] w fun e w' => ∃ x g c S', e = .returned (.pointer (some ⟨x, 0, none⟩)) ∧ OwnP B p w0 w' S' (pinP s) (m + 1) ∧ S'.tot = S.tot ∧ Step w w' S S'
      ∧ Blk w' x (tryCs p b k n t (startF k) (finF k) s.stamp (.slice (some ⟨g, 0, none⟩) 1 c) 0 (.slice none 0 0) [] false) 96 ∧ w'.ownsRow 0 113 3 (.slice (some ⟨g, 0, none⟩) 1 c) 1 (lkCells [look0 k x]) ∧ w.heap.size ≤ x ∧ w.heap.size ≤ g ∧ ¬ (S'.lab x).isSome ∧ ¬ (S'.lab g).isSome := by
  obtain ⟨JC, hJC⟩ : ∃ JC : Array Value, JC = #[.pointer (some ⟨p, 0, none⟩), .pointer (some ⟨b, 0, none⟩), .int .i64 k, .string (E.bs n), .string (E.bs t), .int .i64 0] := ⟨_, rfl⟩
  have hbJ := E.below_new w (.cells JC 74)
  have BJ := Blk.new w JC 74
  have hJn : ¬ (S.lab w.heap.size).isSome := fun e => by have := O.own.store.lt _ e; omega
  rw [← hJC]
  replace hJC : Hid (JC = _) := hJC
  go_enter Tryz.func34, Tryz.ntmps34
  go_wp2_with fail
  generalize w.alloc (.cells JC 74) = wJ at *
  have BJ : Blk wJ.drew w.heap.size JC 74 := BJ.of_block rfl
  have hb1 := hbJ.drew
  replace O := O.later hb1
  replace BJ : Hid (Blk wJ.drew w.heap.size JC 74) := BJ
  have hJl : w.heap.size < wJ.drew.heap.size := BJ.out.lt
  obtain rfl := hJC.out
  have c0 := BJ.out.cell (i := 0) rfl
  have c1 := BJ.out.cell (i := 1) rfl
  have c2 := BJ.out.cell (i := 2) rfl
  have c3 := BJ.out.cell (i := 3) rfl
  have c4 := BJ.out.cell (i := 4) rfl
  have c5 := BJ.out.cell (i := 5) rfl
  have W := wayOf_any k hk
  replace O : Hid (OwnP B p w0 wJ.drew S s m) := O
  clear hbJ
  go_region_with (first
    | (go_at_call 39; refine (W _).mono ?_; rintro e w2 ⟨rfl, hb2⟩; replace O := hid_of (O.out.later hb2); replace hb1 := hb1.trans (hb2.mono hb1.size); replace BJ := hid_of (BJ.out.of_block (hb2.block _ hJl)); replace hJl := BJ.out.lt; replace c0 := BJ.out.cell (i := 0) rfl; replace c1 := BJ.out.cell (i := 1) rfl; replace c2 := BJ.out.cell (i := 2) rfl; replace c3 := BJ.out.cell (i := 3) rfl; replace c4 := BJ.out.cell (i := 4) rfl; replace c5 := BJ.out.cell (i := 5) rfl; clear hb2)
    | (go_at_call 40; refine (pin_own O.out (by omega)).mono ?_; rintro e w3 ⟨S', rfl, O3, T3, ht3⟩; replace BJ := hid_of (BJ.out.of_block (T3.only.block _ hJl hJn)); replace hJl := BJ.out.lt; replace c0 := BJ.out.cell (i := 0) rfl; replace c1 := BJ.out.cell (i := 1) rfl; replace c2 := BJ.out.cell (i := 2) rfl; replace c3 := BJ.out.cell (i := 3) rfl; replace c4 := BJ.out.cell (i := 4) rfl; replace c5 := BJ.out.cell (i := 5) rfl; have T4 := (Step.of_below hb1 S).trans T3; have hsz3 := T4.only.size; replace O3 := hid_of O3; clear O T3 hb1))
  all_goals
    have X := Blk.new w3 (tryCs p b k n t (startF k) (finF k) s.stamp (.slice none 0 0) 0 (.slice none 0 0) [] false) 96
    have hbn := E.below_new w3 (.cells (tryCs p b k n t (startF k) (finF k) s.stamp (.slice none 0 0) 0 (.slice none 0 0) [] false) 96)
    have hsN : (w3.alloc (.cells (tryCs p b k n t (startF k) (finF k) s.stamp (.slice none 0 0) 0 (.slice none 0 0) [] false) 96)).heap.size = w3.heap.size + 1 := by simp
    have L := lookNames_any w3.heap.size _ _ X rfl rfl k
    have L := L.mono (fun e w' h => (show e = .returned (.tuple #[]) ∧ Hid _ from h))
    have O5 := hid_of (O3.out.later hbn)
    have XX := hid_of X
    have hlt3 := hid_of O3.out.own.store.lt
    have hB3 := hid_of O3.out.own.size
    replace hsN := hid_of hsN
    replace hbn := hid_of hbn
    have eg := startF_enters k
    clear BJ c0 c1 c2 c3 c4 c5 W X O3
    unfold tryCs at L
    unfold fnV at *
    go_wp2_with fail
    refine L.mono ?_
    rintro e w4 ⟨rfl, H⟩
    clear L
    go_wp2_with fail
    go_ret
    obtain ⟨g, c, X4, hr4, hg4, O4⟩ := H.out
    have hs5 : w3.heap.size + 1 ≤ g := Nat.le_trans (Nat.le_of_eq hsN.out.symm) hg4
    have F5 : Step w3 w4 S' S' := ⟨(Only.of_below' hbn.out _).trans (G := fun i => i = w3.heap.size) O4 (fun i hi h => by omega), fun _ h => .inl h, rfl⟩
    refine ⟨w3.heap.size, g, c, S', rfl, O5.out.frame O4 (fun i hi h => ?_), ht3, T4.trans F5, X4, hr4, hsz3, by omega, fun e => ?_, fun e => ?_⟩
    · subst h; exact ⟨hB3.out, fun e => by have := hlt3.out _ e; omega⟩
    · have := hlt3.out _ e; omega
    · have := hlt3.out _ e; omega
end Go.Proofs.YtlncljfljjaacaaGreatDoor
