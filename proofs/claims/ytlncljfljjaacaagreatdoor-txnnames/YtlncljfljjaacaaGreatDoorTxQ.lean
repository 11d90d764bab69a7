/- The end of a Put, where there were no names. -/
import Derived.Test.YtlncljfljjaacaaGreatDoorTxP
namespace Go.Proofs.YtlncljfljjaacaaGreatDoor
open Go.ChangeShapes Go.WideShapes Go.ChangeAt Go.RowKit
set_option linter.unusedVariables false
set_option linter.unusedSimpArgs false

def wrsCellsB (l : List Wr) : List Value := l.flatMap fun y => [.string y.key, .string y.val, .bool y.gone]

theorem wrs_getB : ∀ (l : List Wr) (j : Nat) (x : Wr), l[j]? = some x → (wrsCellsB l)[j * 3]? = some (.string x.key) ∧ (wrsCellsB l)[j * 3 + 1]? = some (.string x.val) ∧ (wrsCellsB l)[j * 3 + 2]? = some (.bool x.gone)
  | [], j, x, h => by simp at h
  | y :: l, 0, x, h => by
    simp at h; subst h
    simp [wrsCellsB]
  | y :: l, j + 1, x, h => by
    have := wrs_getB l j x (by simpa using h)
    have e : wrsCellsB (y :: l) = [.string y.key, .string y.val, .bool y.gone] ++ wrsCellsB l := by unfold wrsCellsB; rw [List.flatMap_cons]
    rw [e, show (j + 1) * 3 = j * 3 + 3 by omega, show j * 3 + 3 + 1 = j * 3 + 1 + 3 by omega, show j * 3 + 3 + 2 = j * 3 + 2 + 3 by omega]
    simpa using this

theorem ws_ownB {w : World} {base : Nat} {v : Value} {l : List Wr} (h : w.ownsRow base 128 3 v l.length (wrsCellsB l)) (h0 : 0 < l.length) : ∃ g c, v = .slice (some ⟨g, 0, none⟩) l.length c ∧ base ≤ g ∧ g < w.heap.size ∧ WsAt w (some ⟨g, 0, none⟩) l := by
  obtain ⟨g, c, rfl, hg1, hg2⟩ := h.form h0
  refine ⟨g, c, rfl, hg1, hg2, ⟨fun _ => ⟨g, 0, rfl, hg2, fun j x hx => ?_⟩⟩⟩
  obtain ⟨a1, a2, a3⟩ := wrs_getB l j x hx
  have b1 := h.cells (g := g) rfl _ _ a1
  have b2 := h.cells (g := g) rfl _ _ a2
  have b3 := h.cells (g := g) rfl _ _ a3
  rw [cell_add] at b1 b2 b3
  exact ⟨b1, by rw [Nat.add_assoc]; exact b2, by rw [Nat.add_assoc]; exact b3⟩

theorem blk_ne {w : World} {a b : Nat} {cs ds : Array Value} {t u : TypeId} (X : Blk w a cs t) (Y : Blk w b ds u) (h : t ≠ u) : a ≠ b := by
  rintro rfl
  unfold Blk at X Y
  rw [X] at Y
  injection Y with h3
  injection h3 with _ h4
  exact h h4

/-- A row's block: none, or one of its type. -/
theorem row_own {w : World} {base : Nat} {e : TypeId} {size n c : Nat} {a : Option Addr} {xs : List Value} (hr : w.ownsRow base e size (.slice a n c) n xs) (g : Nat) (h : a.map Addr.block = some g) : ∃ cs, Blk w g cs e := by
  rcases hr.2 with ⟨h1, _⟩ | ⟨g', cap, cur, h1, _, h3, _⟩
  · cases h1; cases h
  · cases h1; cases h; exact ⟨_, h3⟩

theorem putF_enters (args : Array Value) (w : World) : (callFunc 51 args).run Tryz.prog w = .ok (.enter 51 args) w := by
  exact enters_of Tryz.func51 (by kernel_rfl) rfl args w

def put2 (n t : E.Bs) : List Wr := [txWr (102 :: n) t false, txWr [100] (E.joinP [n]) false]

set_option maxHeartbeats 3200000 in
set_option maxRecDepth 20000 in
/-- The last Step of a Put, where there were no names. -/
theorem endPut0_any {B p m : Nat} {w0 w : World} {S : St} {s : Sto} (O : OwnP B p w0 w S s m) (hm : m ≤ 100) (tb b x : Nat) (n t : E.Bs) (tries at' : Int) (next : Value) (past : Int) (text : E.Bs) (is : Bool) (F : Nat → Prop)
    (Tb : Blk w tb (txCs p b 1 n t tries (.pointer (some ⟨x, 0, none⟩)) next) 77) (TR : TryAt w F x p b 1 n t at' [look0 1 x] past [] text is) (ftb : F tb) (fp : ∀ i, F i → B ≤ i ∧ i < w.heap.size ∧ ¬ (S.lab i).isSome)
    (hn : n.length ≤ 1000) (ht : t.length ≤ 1000000) (hj : (E.joinP [n]).length ≤ 1000000) (hst : staleP s at' [look0 1 x] = false) (hok : (commitP s (put2 n t)).2.2 = 0) (htot : S.tot ≤ 800000) (hss : s.stamp ≤ 1000000) :
    Calls Tryz.prog 43 #[.pointer (some ⟨tb, 0, none⟩)] w fun e w' => e = .returned (.tuple #[.agg #[.int .i64 0, .string ⟨#[]⟩, .slice none 0 0, .slice none 0 0, .int .i64 (commitP s (put2 n t)).2.1, .bool true], .bool true]) ∧ ∃ S3, OwnP B p w0 w' S3 (cleanP (unpinP (commitP s (put2 n t)).1 at')).1 m ∧ Blk w' tb (offCs tries) 77 ∧ Only (fun i => F i ∨ (S.lab i).isSome) w w' ∧ ∀ i, (S3.lab i).isSome → (F i ∨ (S.lab i).isSome) ∨ w.heap.size ≤ i := by
  obtain ⟨gl, cl, na, nc, X, LR, NR, fx, fg, fn⟩ := TR
  have hb1 := E.below_new w (.cells doneZ 44)
  have hz1 : (w.alloc (.cells doneZ 44)).heap.size = w.heap.size + 1 := by simp
  have RD := Blk.new w doneZ 44
  generalize hwA : w.alloc (.cells doneZ 44) = wA at *
  have hb2 := E.below_new wA (.cells (respV 0) 42)
  have hz2 : (wA.alloc (.cells (respV 0) 42)).heap.size = wA.heap.size + 1 := by simp
  have XA := X.of_block (hb1.block _ X.lt)
  have hb12 := hb1.trans (hb2.mono hb1.size)
  have XB := X.of_block (hb12.block _ X.lt)
  have hnb : ∀ i, na.map Addr.block = some i → F i := by
    intro i hi
    refine fn i ?_
    cases na with
    | none => cases hi
    | some a => exact hi
  have NRB : (wA.alloc (.cells (respV 0) 42)).ownsRow 0 9 1 (.slice na 0 nc) 0 [] := row_thruA NR (fun g hg => hb12.block g ((fp g (fn g hg)).2.1))
  have LRB : (wA.alloc (.cells (respV 0) 42)).ownsRow 0 113 3 (.slice (some ⟨gl, 0, none⟩) 1 cl) 1 (lkCells [look0 1 x]) := row_thruA LR (fun g hg => hb12.block g ((fp g (by cases hg; exact fg)).2.1))
  have PUT := tputB_any x _ 1 n t na nc _ XB rfl (by decide) rfl rfl rfl rfl rfl rfl NRB hn
  have OB := O.later hb12
  have TbB := Tb.of_block (hb12.block _ Tb.lt)
  have RDB := RD.of_block (hb2.block _ RD.lt)
  generalize hwB : wA.alloc (.cells (respV 0) 42) = wB at *
  have hxl := X.lt
  have htl := Tb.lt
  have hlt : ∀ i, (S.lab i).isSome → i < w.heap.size := fun i e => O.own.store.lt i e
  have hBw := O.own.size
  have hwx : w.heap.size ≠ x := by omega
  have hG : ¬ (wA.heap.size = x ∨ na.map Addr.block = some wA.heap.size) := by
    rintro (e | e)
    · omega
    · have := (fp _ (hnb _ e)).2.1
      omega
  have htx : tb ≠ x := blk_ne Tb X (by decide)
  have htn : na.map Addr.block ≠ some tb := fun e => by
    obtain ⟨ds, h⟩ := row_own NR tb e
    exact blk_ne Tb h (by decide) rfl
  have hgx : gl ≠ x := row_ne LR X (by decide)
  have hgn : na.map Addr.block ≠ some gl := fun e => by
    obtain ⟨ds, h⟩ := row_own NR gl e
    exact row_ne LR h (by decide) rfl
  let QP : Option Addr → Nat → World → Prop := fun ga gc w' => ∃ g, ga = some ⟨g, 0, none⟩ ∧ Only (fun i => i = x ∨ na.map Addr.block = some i) wB w' ∧ (∃ v, Blk w' x ((tryCs p b 1 n t (startF 1) (finF 1) at' (.slice (some ⟨gl, 0, none⟩) [look0 1 x].length cl) past (.slice na ([] : List E.Bs).length nc) text is).setIfInBounds 14 v) 96) ∧ w'.ownsRow wB.heap.size 128 3 (.slice ga 2 gc) 2 (wrsCellsB (put2 n t))
  have TE := tryEnd_any x 51 _ wA XA rfl putF_enters 0 2 QP (fun i => i = x ∨ na.map Addr.block = some i) hG (by
    rw [hwB]
    refine PUT.mono ?_
    rintro e w' ⟨g, c, v, rfl, h1, h2, h3⟩
    exact ⟨_, _, rfl, g, rfl, h1, ⟨v, h2⟩, h3⟩) (fun ga gc w' h => by
    obtain ⟨g, _, h1, _⟩ := h
    rw [hwB]
    exact h1)
  let Q1 : Option Addr → Nat → World → Prop := fun ga gc w1 => ∃ w1', QP ga gc w1' ∧ Only (fun i => i = wA.heap.size) w1' w1
  have facts : ∀ ga gc w1, Q1 ga gc w1 → OwnP B p w0 w1 S s m ∧ Blk w1 tb (txCs p b 1 n t tries (.pointer (some ⟨x, 0, none⟩)) next) 77
      ∧ (∃ v, Blk w1 x ((tryCs p b 1 n t (startF 1) (finF 1) at' (.slice (some ⟨gl, 0, none⟩) [look0 1 x].length cl) past (.slice na ([] : List E.Bs).length nc) text is).setIfInBounds 14 v) 96)
      ∧ w1.ownsRow 0 113 3 (.slice (some ⟨gl, 0, none⟩) 1 cl) 1 (lkCells [look0 1 x]) ∧ Blk w1 w.heap.size doneZ 44 ∧ Only (fun i => F i ∨ (S.lab i).isSome) w w1 ∧ ∃ g, ga = some ⟨g, 0, none⟩ ∧ g < w1.heap.size ∧ w.heap.size ≤ g ∧ WsAt w1 (some ⟨g, 0, none⟩) (put2 n t) := by
    rintro ga gc w1 ⟨w1', ⟨g, rfl, h1, ⟨v, h2⟩, h3⟩, h4⟩
    have OW : Only (fun i => i = x ∨ na.map Addr.block = some i ∨ i = wA.heap.size) wB w1 := (h1.mono (fun i _ e => by rcases e with e | e; exact .inl e; exact .inr (.inl e))).trans h4 (fun i _ e => .inr (.inr e))
    have hs1 := h1.size
    refine ⟨OB.frame OW (fun i hi e => ?_), TbB.of_block (OW.block tb TbB.lt ?_), ⟨v, h2.of_block (h4.block x h2.lt (by omega))⟩, row_thruA LRB (fun i hi => ?_), RDB.of_block (OW.block _ RDB.lt ?_), (Only.of_below' hb12 _).trans OW (fun i hi e => ?_), ?_⟩
    · rcases e with e | e | e
      · rw [e]; exact ⟨(fp x fx).1, (fp x fx).2.2⟩
      · exact ⟨(fp i (hnb i e)).1, (fp i (hnb i e)).2.2⟩
      · refine ⟨by omega, fun h => ?_⟩
        have := hlt i h
        omega
    · rintro (e | e | e)
      · exact htx e
      · exact htn e
      · omega
    · cases hi
      have hgl := (fp gl fg).2.1
      refine OW.block gl (by omega) ?_
      rintro (e | e | e)
      · exact hgx e
      · exact hgn e
      · omega
    · rintro (e | e | e)
      · exact hwx e
      · have := (fp _ (hnb _ e)).2.1
        omega
      · omega
    · rcases e with e | e | e
      · exact .inl (by rw [e]; exact fx)
      · exact .inl (hnb i e)
      · omega
    · obtain ⟨g', c', e, hg1, hg2, _⟩ := ws_ownB (l := put2 n t) h3 (Nat.succ_pos _)
      cases e
      have h5 : w1.ownsRow wB.heap.size 128 3 (.slice (some ⟨g, 0, none⟩) (put2 n t).length gc) (put2 n t).length (wrsCellsB (put2 n t)) := row_thruA h3 (fun i hi => by
        cases hi
        exact h4.block g hg2 (by omega))
      obtain ⟨g', c', e, hg3, hg4, W⟩ := ws_ownB h5 (Nat.succ_pos _)
      cases e
      exact ⟨g, rfl, hg4, by omega, W⟩
  have ntb := (fp tb ftb).2.2
  have nx := (fp x fx).2.2
  have nR : ¬ (S.lab w.heap.size).isSome := fun e => by have := hlt _ e; omega
  let Q2 : World → Prop := fun w2 => ∃ w1 S', Blk w1 tb (txCs p b 1 n t tries (.pointer (some ⟨x, 0, none⟩)) next) 77
      ∧ (∃ v, Blk w1 x ((tryCs p b 1 n t (startF 1) (finF 1) at' (.slice (some ⟨gl, 0, none⟩) [look0 1 x].length cl) past (.slice na ([] : List E.Bs).length nc) text is).setIfInBounds 14 v) 96)
      ∧ Blk w1 w.heap.size doneZ 44 ∧ Only (fun i => F i ∨ (S.lab i).isSome) w w1 ∧ OwnP B p w0 w2 S' (commitP s (put2 n t)).1 m ∧ Step w1 w2 S S'
  refine txEnd_any (by omega) (commitP s (put2 n t)).1 tb x b 1 n t tries at' next w Tb 0 0 (commitP s (put2 n t)).2.1 true 2 Q1 Q2 (by rw [hwA]; exact TE) (fun ga gc w1 h => ?_) (fun i => F i ∨ (S.lab i).isSome) (.inl ftb) (fun w2 h => ?_)
  · obtain ⟨O1, T1, ⟨v, X1⟩, L1, R1, oo, g, rfl, hg1, hg2, W⟩ := facts ga gc w1 h
    have SE := settleOk_any O1 tb x b 1 n t tries next T1 ntb _ at' gl cl [look0 1 x] ⟨by simp, fun l hl => by
      simp at hl; subst hl
      exact ⟨⟨_, _, rfl⟩, by simp [look0]⟩⟩ X1 rfl rfl rfl L1 g (put2 n t) gc (Nat.succ_pos _) hg1 W (fun e => by have := hlt _ e; omega) (fun y hy => by
      simp [put2] at hy
      rcases hy with rfl | rfl
      · simp [txWr, E.bs, ByteArray.size]; omega
      · simp [txWr, E.bs, ByteArray.size] at hj ⊢; omega) (by simp [put2]; omega) hss (by simp [put2]) hst hok
    refine SE.mono ?_
    rintro e w' ⟨rfl, S', h1, h2, h3⟩
    exact ⟨rfl, w1, S', T1, ⟨v, X1⟩, R1, oo, h1, h2⟩
  · obtain ⟨w1, S', T1, ⟨v, X1⟩, R1, oo, O2, T2⟩ := h
    refine ⟨S', _, ⟨O2, (T2.kept T1 ntb).1, (T2.kept X1 nx).1, rfl, (T2.kept R1 nR).1, (T2.kept T1 ntb).2, (T2.kept X1 nx).2, (T2.kept R1 nR).2, (fp tb ftb).1, hBw, oo.trans T2.only (fun i _ e => .inr e), fun i e => ?_⟩⟩
    rcases T2.lab i e with h | h
    · exact .inl (.inr h)
    · have := oo.size
      right; omega
end Go.Proofs.YtlncljfljjaacaaGreatDoor
