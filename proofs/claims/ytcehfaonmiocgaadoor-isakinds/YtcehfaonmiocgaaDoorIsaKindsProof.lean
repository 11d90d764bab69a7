/- IsaKinds at commit b60feb1: any instruction that is made of numbers has an operand for each of its kinds and may be; with one operand more, or without its first, it may not. -/
import Derived.Test.YtcehfaonmiocgaaDoorRows
import Derived.WalkKit
import Derived.ProofKit
import Derived.OpenShut
import Derived.LaidMore
import Derived.Stop.Joined
import Derived.SevenTiedAt
import Derived.Laws.BytesArg
import Derived.BigQuiet
import Derived.Test.YtcehfaonmiocgaaDoorTie
import Derived.Test.YtcehfaonmiocgaaDoorCards
import Derived.Test.YtcehfaonmiocgaaDoorDoor
import Derived.Test.YtcehfaonmiocgaaDoorConv
import Derived.Test.YtcehfaonmiocgaaDoorEncodeAt
import Derived.Test.YtcehfaonmiocgaaDoorCopy
namespace Go.Proofs.YtcehfaonmiocgaaDoor.isaKinds
open Plain
open Go.ChangeShapes Go.WideShapes Go.ChangeAt Go.RowKit
open Go.ChangeMaps (open_string shut_string)
set_option linter.unusedVariables false
set_option linter.unusedSimpArgs false

theorem own : ownKnob Tryd.prog.godebug = none := by kernel_rfl

open Go.Proofs.YtcehfaonmiocgaaDoor.Orders

/-- What holds of what is listed so far of a copy with one more. -/
def KI (W : World) (X : Nat) (ox : Int) (px : Option Addr) (n cx : Nat) (fv : List Value) (L : Nat → Bool) (u : Nat → Value) (w : World) : Prop :=
  Below W.heap.size W w ∧
  (L 0 = true → u 0 = .pointer (some ⟨X, 0, none⟩)) ∧
  (L 1 = true → u 1 = .int .i64 ox) ∧
  (L 2 = true → L 5 = false → ∃ g, u 2 = .slice (some ⟨g, 0, none⟩) 0 0 ∧ W.heap.size ≤ g ∧ w.heap[g]? = some (.cells #[] 3 (0, 0))) ∧
  (L 3 = true → u 3 = .pointer (some ⟨X, 1, none⟩)) ∧
  (L 4 = true → u 4 = .slice px n cx) ∧
  (L 5 = true → L 7 = false → w.ownsRow W.heap.size 3 1 (u 5) fv.length fv) ∧
  (L 6 = true → L 7 = false → ∃ g, u 6 = .slice (some ⟨g, 0, none⟩) 1 1 ∧ W.heap.size ≤ g ∧ w.heap[g]? = some (.cells #[.int .i64 0] 3 (0, 0))) ∧
  (L 7 = true → L 5 = true ∧ w.ownsRow W.heap.size 3 1 (u 7) (fv ++ [Value.int .i64 0]).length (fv ++ [Value.int .i64 0])) ∧
  (L 8 = true → L 7 = true ∧ u 8 = .agg #[.int .i64 ox, u 7]) ∧
  (L 9 = true → ∃ g, u 9 = .pointer (some ⟨g, 0, none⟩) ∧ W.heap.size ≤ g ∧ ((L 10 = false ∧ w.heap[g]? = some (.cells #[.int .i64 0, .slice none 0 0] 26 (0, 0))) ∨ (L 10 = true ∧ L 7 = true ∧ w.heap[g]? = some (.cells #[.int .i64 ox, u 7] 26 (0, 0))))) ∧
  (L 10 = true → L 9 = true)

/-! ### The walk -/
set_option maxHeartbeats 8000000 in
set_option maxRecDepth 20000 in
theorem walk (a0 : Int) (w0 : (Lit.int .i64 a0).wf = true) (v1 : Value) (a1 : List Int) (w1 : InRange a1) (l1 : a1.length ≤ maxLen) (w : World) (T : Tab w) (s1 : SliceIs w v1 a1) :
    Calls Tryd.prog 7 #[.int .i64 a0, v1] w fun e w' => e = .returned (.bool true) ∧ Below w.heap.size w w' := by
  have K0 := known_true w T
  go_enter Tryd.func7, Tryd.ntmps7
  go_wp2_with (go_at_call 9; refine K0.mono ?_; rintro e w1 ⟨rfl, hb1⟩)
  clear K0
  refine (make_cap a0 v1 a1 w1 (s1.later hb1)).mono ?_
  rintro e w2 ⟨x, rfl, hx, hb2, kx⟩
  replace hb2 := hb1.trans (hb2.mono hb1.size)
  replace hx := hx.is
  obtain ⟨px, cx, rfl, hj⟩ := id hx
  clear hj
  have rx := made_right a0 a1
  have gx := made_range a0 a1
  have ix := isP_mod a0
  have ln : Hid ((makeF a0 a1).length = (rowP (a0 % 66)).ks.length) := made_length a0 a1
  have l3 := (rows_fields _ (rowP_mem (a0 % 66))).2.2.2.1
  have lk := (rows_fields _ (rowP_mem (a0 % 66))).2.2.1
  have wd : Hid (wordsP (rowP (a0 % 66)).kinds = (rowP (a0 % 66)).ks.map K.name) := rows_words _ (rowP_mem (a0 % 66))
  generalize makeF a0 a1 = fx at *
  generalize a0 % 66 = ox at *
  have hb3 : Below w2.heap.size w2 (w2.alloc (.cells #[.int .i64 ox, .slice px fx.length cx] 26)) := (Below.refl _ _).alloc (Nat.le_refl _) _
  have a1 := new_cell (w := w2) (t := 26) #[.int .i64 ox, .slice px fx.length cx] 0 (.int .i64 ox) rfl
  have a2 := new_cell (w := w2) (t := 26) #[.int .i64 ox, .slice px fx.length cx] 1 (.slice px fx.length cx) rfl
  go_wp2_with fail
  replace hx := hx.later hb3
  replace hb3 := hb2.trans (hb3.mono hb2.size)
  generalize w2.alloc (.cells #[.int .i64 ox, .slice px fx.length cx] 26) = w3 at *
  refine (kinds_any ox w3 (T.later hb3)).mono ?_
  rintro e w4 ⟨rfl, hb4⟩
  replace hx := hx.later hb4
  replace a1 := kept_cell hb4 a1
  replace a2 := kept_cell hb4 a2
  replace hb4 := hb3.trans (hb4.mono hb3.size)
  go_wp2_with fail
  have Wd := words_any (rowP ox).kinds (by omega) w4
  rw [wd.out] at Wd
  refine Wd.mono ?_
  rintro e w5 ⟨tv, rfl, hT, hb5⟩
  obtain ⟨tp, tcap, rfl, hj⟩ := texts_form hT
  clear hj
  rw [← ln.out]
  replace hx := hx.later hb5
  replace a1 := kept_cell hb5 a1
  replace a2 := kept_cell hb5 a2
  replace hb5 := hb4.trans (hb5.mono hb4.size)
  clear Wd hT
  have R0 := right_any ox _ fx w5 (T.later hb5) hx gx
  rw [rx] at R0
  go_wp2_with (go_at_call 13; refine R0.mono ?_; rintro e w6 ⟨rfl, hb6⟩)
  replace hx := hx.later hb6
  have b1 := kept_cell hb6 a1
  have b2 := kept_cell hb6 a2
  clear a1 a2 R0
  replace hb6 := hb5.trans (hb6.mono hb5.size)
  have hn3 : fx.length ≤ 3 := by rw [ln.out]; exact l3
  refine region_inv (by kernel_rfl) (fun u => { tmps := #[Value.int IntKind.i64 a0, v1, undef, undef, Value.bool false, Value.pointer (some { block := w2.heap.size, off := 0 }), Value.slice tp fx.length tcap, u 9, Value.bool true, Value.bool false, Value.int IntKind.i64 a0, v1, Value.agg #[Value.int IntKind.i64 ox, Value.slice px fx.length cx], Value.pointer (some { block := w2.heap.size, off := 0 }), Value.int IntKind.i64 ox, Value.string { data := (rowP ox).kinds.toArray }, Value.slice tp fx.length tcap, Value.slice tp fx.length tcap, Value.int IntKind.i64 ↑fx.length, Value.pointer (some { block := w2.heap.size, off := 1 }), Value.slice px fx.length cx, Value.int IntKind.i64 ↑fx.length, Value.bool false, Value.bool false, Value.agg #[Value.int IntKind.i64 ox, Value.slice px fx.length cx], Value.bool true, Value.bool false, Value.bool false, u 0, u 1, u 2, u 3, u 4, u 5, u 6, u 7, u 8, undef, undef, undef, undef, undef, undef, undef, undef, undef, undef, undef, undef, undef, undef, undef, undef], defers := [] }) (KI w6 w2.heap.size ox px fx.length cx (fx.map fun x => Value.int .i64 x)) (by kernel_rfl) (fun _ => undef) ?_ ?_ ?_
  · exact ⟨⟨rfl, rfl, rfl, Nat.le_refl _, fun _ _ => rfl⟩, nofun, nofun, nofun, nofun, nofun, nofun, nofun, nofun, nofun, nofun, nofun⟩
  · intro i o L u v ho hL hp hI
    obtain ⟨hB, h0, h1, h2, h3, h4, h5, h6, h7, h8, h9, h10⟩ := hI
    have hi : i < 11 := by
      by_cases hi : i < 11
      · exact hi
      · rw [Array.getElem?_eq_none (by simp; omega)] at ho; cases ho
    have hBs : w6.heap.size ≤ v.heap.size := hB.size
    replace b1 := kept_cell hB b1
    replace b2 := kept_cell hB b2
    replace hx := hx.later hB
    match i, hi with
    | 0, _ =>
      cases ho
      exact step_value rfl rfl (run_field0 _ _ _ _ w2.heap.size rfl rfl) ⟨_, rfl, hB, fun _ => rfl, h1, h2, h3, h4, h5, h6, h7, h8, h9, h10⟩
    | 1, _ =>
      cases ho
      have p0 : L 0 = true := hp ⟨0, Ground.data⟩ (by simp) rfl
      exact step_value rfl rfl (run_loadInt _ _ _ _ _ ox rfl (h0 p0) b1) ⟨_, rfl, hB, h0, fun _ => rfl, h2, h3, h4, h5, h6, h7, h8, h9, h10⟩
    | 2, _ =>
      cases ho
      refine step_value rfl rfl (run_build0 _ _ _ rfl) ⟨_, rfl, hB.alloc hBs _, h0, h1, fun _ _ => ⟨_, rfl, hBs, new_block _ _ _⟩, h3, h4, fun a b => (h5 a b).alloc _, ?_, fun a => ⟨(h7 a).1, (h7 a).2.alloc _⟩, h8, ?_, h10⟩
      · intro a b
        obtain ⟨g, e, q1, q2⟩ := h6 a b
        exact ⟨g, e, q1, blk_alloc q2⟩
      · intro a
        obtain ⟨g, e, q1, q2⟩ := h9 a
        exact ⟨g, e, q1, q2.imp (fun q => ⟨q.1, blk_alloc q.2⟩) (fun q => ⟨q.1, q.2.1, blk_alloc q.2.2⟩)⟩
    | 3, _ =>
      cases ho
      exact step_value rfl rfl (run_field1 _ _ _ _ w2.heap.size rfl rfl) ⟨_, rfl, hB, h0, h1, h2, fun _ => rfl, h4, h5, h6, h7, h8, h9, h10⟩
    | 4, _ =>
      cases ho
      have p3 : L 3 = true := hp ⟨3, Ground.data⟩ (by simp) rfl
      exact step_value rfl rfl (run_loadInts _ _ _ _ _ px fx.length cx rfl (h3 p3) b2) ⟨_, rfl, hB, h0, h1, h2, h3, fun _ => rfl, h5, h6, h7, h8, h9, h10⟩
    | 5, _ =>
      cases ho
      have p2 : L 2 = true := hp ⟨2, Ground.data⟩ (by simp) rfl
      have p4 : L 4 = true := hp ⟨4, Ground.data⟩ (by simp) rfl
      obtain ⟨g, e2, q1, q2⟩ := h2 p2 hL
      refine step_app rfl rfl (.tmp 30) (.tmp 32) 22 rfl 3 (.int .i64 0) 8 Tryd.underlying22 info_int rfl w6.heap.size _ [] e2 (row_nil q1 q2) _ (fx.map fun x => Value.int .i64 x) (h4 p4) (holds_ints hx) (by simp [Value.oneCell']) (by simp; unfold maxLen; omega) (by simp; omega) hBs ?_
      intro v' w' hown hg
      rw [List.nil_append] at hown
      have n7 : ¬ L 7 = true := fun a => by have := (h7 a).1; rw [hL] at this; cases this
      refine ⟨v', rfl, below_grown hB hBs hg (by simp [Value.ownBlock]; omega), h0, h1, fun _ b => by simp [updL] at b, h3, h4, fun _ _ => hown, ?_, fun a => absurd a n7, fun a => absurd (h8 a).1 n7, ?_, h10⟩
      · intro a b
        obtain ⟨g6, e6, r1, r2⟩ := h6 a b
        refine ⟨g6, e6, r1, blk_kept r2 hg ?_⟩
        simp only [Value.ownBlock, ne_eq, Option.some.injEq]
        rintro rfl
        rw [q2] at r2
        simp at r2
      · intro a
        obtain ⟨g9, e9, r1, r2⟩ := h9 a
        refine ⟨g9, e9, r1, ?_⟩
        rcases r2 with r2 | r2
        · refine .inl ⟨r2.1, blk_kept r2.2 hg ?_⟩
          simp only [Value.ownBlock, ne_eq, Option.some.injEq]
          rintro rfl
          have r2 := r2.2
          rw [q2] at r2
          simp at r2
        · exact absurd r2.2.1 n7
    | 6, _ =>
      cases ho
      refine step_value rfl rfl (run_build1 _ _ _ 0 rfl) ⟨_, rfl, hB.alloc hBs _, h0, h1, ?_, h3, h4, fun a b => (h5 a b).alloc _, fun _ _ => ⟨_, rfl, hBs, new_block _ _ _⟩, fun a => ⟨(h7 a).1, (h7 a).2.alloc _⟩, h8, ?_, h10⟩
      · intro a b
        obtain ⟨g, e, q1, q2⟩ := h2 a b
        exact ⟨g, e, q1, blk_alloc q2⟩
      · intro a
        obtain ⟨g, e, q1, q2⟩ := h9 a
        exact ⟨g, e, q1, q2.imp (fun q => ⟨q.1, blk_alloc q.2⟩) (fun q => ⟨q.1, q.2.1, blk_alloc q.2.2⟩)⟩
    | 7, _ =>
      cases ho
      have p5 : L 5 = true := hp ⟨5, Ground.data⟩ (by simp) rfl
      have p6 : L 6 = true := hp ⟨6, Ground.data⟩ (by simp) rfl
      obtain ⟨g, e6, q1, q2⟩ := h6 p6 hL
      have own5 := h5 p5 hL
      refine step_app rfl rfl (.tmp 33) (.tmp 34) 22 rfl 3 (.int .i64 0) 8 Tryd.underlying22 info_int rfl w6.heap.size _ (fx.map fun x => Value.int .i64 x) rfl own5 _ [Value.int .i64 0] e6 ⟨_, _, rfl, fun _ => ⟨g, 0, rfl, fun i u hu => by rw [Nat.zero_add]; simp [World.cell?, q2, hu]⟩⟩ (by simp [Value.oneCell']) (by simp; unfold maxLen; omega) (by simp; omega) hBs ?_
      intro v' w' hown hg
      refine ⟨v', rfl, below_grown hB hBs hg (fun j hj => (own5.lt j hj).1), h0, h1, fun _ b => (no_ft p5 b).elim, h3, h4, fun _ b => by simp [updL] at b, fun _ b => by simp [updL] at b, fun _ => ⟨p5, hown⟩, fun a => ?_, ?_, h10⟩
      · have := (h8 a).1
        rw [hL] at this; cases this
      · intro a
        obtain ⟨g9, e9, r1, r2⟩ := h9 a
        refine ⟨g9, e9, r1, ?_⟩
        rcases r2 with r2 | r2
        · exact .inl ⟨r2.1, blk_kept r2.2 hg (own_ne own5 r2.2 (by decide))⟩
        · have := r2.2.1
          rw [hL] at this; cases this
    | 8, _ =>
      cases ho
      have p1 : L 1 = true := hp ⟨1, Ground.data⟩ (by simp) rfl
      have p7 : L 7 = true := hp ⟨7, Ground.data⟩ (by simp) rfl
      obtain ⟨q, c, e7, _⟩ := row_form (h7 p7).2
      refine step_value rfl rfl (run_buildInst _ _ _ _ _ ox q _ c rfl (h1 p1) e7) ⟨_, rfl, hB, h0, h1, h2, h3, h4, h5, h6, h7, fun _ => ⟨p7, ?_⟩, h9, h10⟩
      show Value.agg _ = Value.agg #[_, u 7]
      rw [e7]
    | 9, _ =>
      cases ho
      refine step_value rfl rfl (run_allocInst _ _ _ rfl) ⟨_, rfl, hB.alloc hBs _, h0, h1, ?_, h3, h4, fun a b => (h5 a b).alloc _, ?_, fun a => ⟨(h7 a).1, (h7 a).2.alloc _⟩, h8, fun _ => ⟨_, rfl, hBs, .inl ⟨?_, new_block _ _ _⟩⟩, fun _ => rfl⟩
      · intro a b
        obtain ⟨g, e, q1, q2⟩ := h2 a b
        exact ⟨g, e, q1, blk_alloc q2⟩
      · intro a b
        obtain ⟨g, e, q1, q2⟩ := h6 a b
        exact ⟨g, e, q1, blk_alloc q2⟩
      · cases h : L 10 with
        | false => exact h
        | true => exact (no_ft (h10 h) hL).elim
    | 10, _ =>
      cases ho
      have p9 : L 9 = true := hp ⟨9, Ground.data⟩ (by simp) rfl
      have p8 : L 8 = true := hp ⟨8, Ground.data⟩ (by simp) rfl
      have p7 := (h8 p8).1
      obtain ⟨g, e9, q1, q2⟩ := h9 p9
      obtain ⟨q, c, e7, _⟩ := row_form (h7 p7).2
      have own7 := (h7 p7).2
      rcases q2 with q2 | q2
      · have e8 : u 8 = .agg #[.int .i64 ox, .slice q ((fx.map fun x => Value.int .i64 x) ++ [Value.int .i64 0]).length c] := by rw [(h8 p8).2, e7]
        refine step_storeInst rfl rfl (.tmp 7) (.tmp 36) rfl g _ _ ox q _ c e9 e8 q2.2 ?_
        intro w' hg hb
        refine ⟨undef, rfl, below_grown hB hBs hg (by simp; omega), h0, h1, ?_, h3, h4, fun _ b => (no_ft p7 b).elim, fun _ b => (no_ft p7 b).elim, fun _ => ⟨(h7 p7).1, own7.kept hg ?_⟩, h8, fun _ => ⟨g, e9, q1, .inr ⟨rfl, p7, ?_⟩⟩, fun _ => p9⟩
        · intro _ b
          have b : L 5 = false := b
          rw [(h7 p7).1] at b; cases b
        · exact .inr (Ne.symm (own_ne own7 q2.2 (by decide)))
        · show w'.heap[g]? = some (.cells #[_, u 7] _ _)
          rw [hb, e7]
      · have := q2.1
        rw [hL] at this; cases this
  · intro L u v hL hI
    obtain ⟨hB, h0, h1, h2, h3, h4, h5, h6, h7, h8, h9, h10⟩ := hI
    obtain ⟨g, e9, q1, q2⟩ := h9 (hL 9 (by decide))
    obtain ⟨_, own⟩ := h7 (hL 7 (by decide))
    rcases q2 with q2 | q2
    · have := q2.1
      rw [hL 10 (by decide)] at this; cases this
    · replace q2 := q2.2.2
      have sy : SliceIs v (u 7) (fx ++ [0]) := slice_of_row (by
        have e : ((fx ++ [0]).map fun x => Value.int .i64 x) = (fx.map fun x => Value.int .i64 x) ++ [Value.int .i64 0] := by simp
        rw [e]
        have e2 : (fx ++ [0]).length = ((fx.map fun x => Value.int .i64 x) ++ [Value.int .i64 0]).length := by simp
        rw [e2]
        exact own)
      obtain ⟨q, c, e7, _⟩ := row_form own
      rw [show ((fx.map fun x => Value.int .i64 x) ++ [Value.int .i64 0]).length = fx.length + 1 by simp] at e7
      rw [e7] at q2 sy
      have y0 : v.cell? ⟨g, 0, none⟩ = some (.int .i64 ox) := by simp [World.cell?, q2]
      have y1 : v.cell? ⟨g, 1, none⟩ = some (.slice q (fx.length + 1) c) := by simp [World.cell?, q2]
      replace hx := hx.later hB
      replace b1 := kept_cell hB b1
      replace b2 := kept_cell hB b2
      have hb7 := hb6.trans (hB.mono hb6.size)
      have gy : InRange (fx ++ [0]) := by
        intro x hx
        rcases List.mem_append.1 hx with h | h
        · exact gx x h
        · simp at h; omega
      have Ry := right_any ox _ (fx ++ [0]) v (T.later hb7) sy gy
      rw [coded_other (by rw [List.length_append, ln.out]; simp)] at Ry
      have tl : fx ≠ [] → ∀ W, Below w.heap.size w W → ∀ p c, SliceIs W (.slice p fx.tail.length c) fx.tail → Calls Tryd.prog 13 #[.agg #[.int .i64 ox, .slice p fx.tail.length c]] W fun e w' => e = .returned (.bool false) ∧ Below W.heap.size W w' := by
        intro hn W hW p c hs
        have R := right_any ox _ fx.tail W (T.later hW) hs (fun x hx => gx x (List.mem_of_mem_tail hx))
        rw [coded_other (by rw [List.length_tail, ← ln.out]; have : fx.length ≠ 0 := fun e => hn (List.length_eq_zero_iff.1 e); omega)] at R
        exact R
      dsimp only
      rw [e9]
      clear h0 h1 h2 h3 h4 h5 h6 h7 h8 h9 h10 own e7 q2
      generalize u 0 = u0
      generalize u 1 = u1
      generalize u 2 = u2
      generalize u 3 = u3
      generalize u 4 = u4
      generalize u 5 = u5
      generalize u 6 = u6
      generalize u 7 = u7
      generalize u 8 = u8
      go_wp2_with (go_at_call 13; refine Ry.mono ?_; rintro e w7 ⟨rfl, hb8⟩)
      replace hx := hx.later hb8
      replace b1 := kept_cell hb8 b1
      replace b2 := kept_cell hb8 b2
      replace hb8 := hb7.trans (hb8.mono hb7.size)
      clear hb1 hb2 hb3 hb4 hb5 hb6 hb7 hB s1 T gx gy rx ix l3 lk wd
      have r1 := cell_regrown b1
      have r2 := cell_regrown b2
      clear Ry sy y0 y1 hL
      cases fx with
      | nil =>
        have r1' : w7.cell? ⟨w2.heap.size, 0, none⟩ = some (.int .i64 ox) := b1
        have r2' : w7.cell? ⟨w2.heap.size, 1, none⟩ = some (.slice px 0 cx) := b2
        clear tl hx ln r1 r2 b1 b2 kx hn3
        go_quiet (fail)
        go_wp2
        go_ret
        exact ⟨rfl, hb8.trans ((below_drewN _ _).mono hb8.size)⟩
      | cons f fs =>
        clear b1 b2
        obtain ⟨p', c', e', hc⟩ := hx
        cases e'
        obtain ⟨b, o, rfl, hcc⟩ := hc (by simp)
        clear hc
        have hcx := kx _ _ _ rfl
        rw [List.length_cons] at hcx
        have k0 : ((fs.length : Int) + 1 == 0) = false := by simp; omega
        have hW : ∀ d os, Below w.heap.size w (Go.Sort.grow (redrawn w7 d) os) := fun d os => reg_below hb8 d os
        by_cases h1 : cx = 1
        · subst h1
          have hf : fs = [] := List.length_eq_zero_iff.1 (by omega)
          subst hf
          have Rt : ∀ d os, Calls Tryd.prog 13 #[.agg #[.int .i64 ox, .slice (some ⟨b, o, none⟩) 0 0]] (Go.Sort.grow (redrawn w7 d) os) fun e w'' => e = .returned (.bool false) ∧ ∃ p : Regrown, w'' = Go.Sort.grow (redrawn w7 p.d) p.os := fun d os =>
            Calls.regrown_of (tl (by simp) _ (hW d os) _ 0 ⟨_, _, rfl, fun h => absurd rfl h⟩)
          clear tl hW hcc
          refine wp_region_quiet_below (by kernel_rfl) (by kernel_rfl) ?_
          repeat (quiet_step (with_reducible exact Rt _ _))
          refine wpQuiet_nil ?_
          intro _ hw'
          obtain ⟨⟨dq, osq⟩, hw''⟩ := hw'
          subst hw''
          go_wp2
          go_ret
          exact ⟨rfl, reg_below hb8 _ _⟩
        · have Rt : ∀ d os, Calls Tryd.prog 13 #[.agg #[.int .i64 ox, .slice (some ⟨b, o + 1, none⟩) fs.length (cx - 1)]] (Go.Sort.grow (redrawn w7 d) os) fun e w'' => e = .returned (.bool false) ∧ ∃ p : Regrown, w'' = Go.Sort.grow (redrawn w7 p.d) p.os := fun d os =>
            Calls.regrown_of (tl (by simp) _ (hW d os) _ (cx - 1) ⟨_, _, rfl, fun _ => ⟨b, o + 1, rfl, fun i x hx => by
              have := hcc (i + 1) x (by simpa using hx)
              rw [show o + 1 + i = o + (i + 1) by omega]
              exact kept_cell (below_regrown w7 d os) this⟩⟩)
          have k1 : (1 : Int) ≤ (fs.length : Int) + 1 := by omega
          have k3 : ¬ ((fs.length : Int) + 1 < 1) := by omega
          clear tl hW hcc
          refine wp_region_quiet_below (by kernel_rfl) (by kernel_rfl) ?_
          repeat (quiet_step (with_reducible exact Rt _ _))
          refine wpQuiet_nil ?_
          intro _ hw'
          obtain ⟨⟨dq, osq⟩, hw''⟩ := hw'
          subst hw''
          go_wp2
          go_ret
          exact ⟨rfl, reg_below hb8 _ _⟩

/-! ### The row's step -/
set_option maxRecDepth 100000 in
theorem lifted (os : Os) (started : os.Started) (H : Type) (enc : TypeId × Value → H) :
    ReturnsInHanded {} Tryd.checked os 7 .any (fun w args => (Rows.isaKindsSpec.pre enc Tryd.prog Tryd.f7 [] false w args ∧ laidMetH Tryd.prog laid4 w) ∧ sizedMet enc Tryd.prog Tryd.f7 (OpenSpec.ofChange Rows.isaKindsSpec) false w args)
      (Rows.isaKindsSpec.post enc Tryd.prog Tryd.f7 false true false false) := by
  refine returnsInHanded_of_change_and (C := Tryd.checked) (X := fun w _ => laidMetH Tryd.prog laid4 w) (fun _ _ _ hh h => h.of_heap hh) own started (by kernel_rfl) Tryd.func7
    (ChangeSpec.witness_shaped (enc := enc) (C := Tryd.checked) (os := os) (X := fun w _ => laidMetH Tryd.prog laid4 w) false (World.doorLaid Tryd.prog 400 os) #[.int .i64 0, .slice none 0 0] 8 rfl (World.shaped_of_RefB (by kernel_rfl) (by kernel_rfl)) (by kernel_rfl) (by kernel_rfl) (by kernel_rfl) (door_met os _)) ?_
  intro W base args ds gs before hval0 hW _ _ hL _
  have hval : ∀ (j : Nat) t v, Tryd.f7.params[j]? = some t → args[j]? = some v → Value.okWide Tryd.prog W .any base t v := hval0
  have hW' := hW
  obtain ⟨p, q, hA0, hV, rfl, hfz, hnd⟩ := hW
  have hA : DataW.TrodAll enc Tryd.prog W 0 (fun _ => true) true Tryd.f7.params.toList args.toList ds p := hA0
  rw [Tryd.params7] at hA hval
  obtain ⟨v0, vs0, d0, ds0, p0, q0, hargs, rfl, rfl, h0, r0⟩ := trodAll_cons hA
  obtain ⟨v1, vs1, d1, ds1, p1, q1, rfl, rfl, rfl, h1, r1⟩ := trodAll_cons r0
  obtain ⟨rfl, rfl, rfl⟩ := trodAll_nil r1
  obtain rfl : args = #[v0, v1] := by cases args; simp_all
  obtain ⟨rfl, rfl⟩ := trodVars_none hV
  obtain ⟨a0, rfl, rfl, rfl, w0⟩ := open_int Tryd.underlying3 (hval 0 3 v0 rfl rfl) h0
  have k1 := h1
  obtain ⟨a1, s1, w1, l1⟩ := open_ints' (hval 1 22 v1 rfl rfl) h1
  clear hA0 hval0
  simp only [List.append_nil, List.nil_append] at hW'
  have hlt : ∀ x ∈ p1, x.block < W.heap.size := fun x hx => by simpa using hW'.lt x (by simpa [or_assoc] using hx)
  refine (walk a0 w0 v1 a1 w1 l1 W (tab_of_laid hL) s1).mono fun e W' ⟨he, hg⟩ => ?_
  subst he
  exact ⟨_, rfl, _, _, _, [], _, [], hW', (trodAll_cons_mk (shut_bool Tryd.underlying4 _) trodAll_mk0), (trodAll_cons_mk (shut_int Tryd.underlying3 w0) (trodAll_cons_mk (Below.trod laidOut (by kernel_rfl) (of_decide_eq_true (by kernel_rfl)) k1 hg (fun x hx => hlt x (by simp [hx]))) trodAll_mk0)), rfl, hg.frame _, fun h => by cases h⟩

theorem row : Rows.IsaKindsSaid :=
  OpenClaim.holds_of_wide 7 Tryd.f7 rfl rfl rfl rfl rfl rfl rfl ⟨rfl, rfl, rfl, rfl, rfl⟩ rfl rfl rfl rfl rfl (by kernel_rfl) Tryd.func7 (by kernel_rfl)
    (of_decide_eq_true (by kernel_rfl)) (by unfold Func.isWrapper; first | (rw [if_pos (by decide +kernel)]; kernel_rfl) | (rw [if_neg (by decide +kernel)]; exact ⟨rfl, rfl⟩))
    (fun os started H enc _ => lifted os started H enc)

/-- The statement. -/
theorem proved : Rows.IsaKindsCardSaid :=
  Claim7.holds_tied_plain_at .later [] [.listed, .data, .data, .data] true (true, "445fb9fe314dc75a4bf0a050ff9a5be1ca2ccd5893ae215d4f1456f749247838") false
    row (fun _ h => by cases h) (by kernel_rfl) (fun _ h => by cases h) isaKinds_row_tie rfl ⟨rfl, rfl⟩ (by kernel_rfl) rfl
    (fun f fn hf hfn => by
      obtain rfl : f = 7 := Option.some.inj ((show Tryd.prog.funcNamed "letterpress/letterpresslaw2.IsaKinds" = some 7 by kernel_rfl).symm.trans hf) |>.symm
      obtain rfl : fn = Tryd.f7 := (Option.some.inj (Tryd.func7.symm.trans hfn)).symm
      exact ⟨by kernel_rfl, fun j t ht => by
        rw [Tryd.params7] at ht
        have hm : t ∈ [3, 22] := by simpa using Array.mem_of_getElem? ht
        have hall : ([3, 22].all fun u => !Tryd.prog.wantsStandIn u) = true := by kernel_rfl
        exact (show Tryd.prog.wantsStandIn t = false by simpa using List.all_eq_true.1 hall t hm)⟩)
    (by kernel_rfl)
#print axioms proved
end Go.Proofs.YtcehfaonmiocgaaDoor.isaKinds
