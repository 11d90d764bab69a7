/- IsaBits at commit b60feb1: of any instruction that is made of numbers, with one operand of another value, the bytes are as many and are decoded as that; they are the same just where the operand is. -/
import Derived.Test.YtcehfaonmiocgaaDoorRows
import Derived.WalkKit
import Derived.ProofKit
import Derived.OpenShut
import Derived.LaidMore
import Derived.Stop.Joined
import Derived.SevenTiedAt
import Derived.Laws.BytesArg
import Derived.BigQuiet
import Derived.Test.YtcehfaonmiocgaaDoorTie
import Derived.Test.YtcehfaonmiocgaaDoorCards
import Derived.Test.YtcehfaonmiocgaaDoorDoor
import Derived.Test.YtcehfaonmiocgaaDoorConv
import Derived.Test.YtcehfaonmiocgaaDoorEncodeAt
import Derived.Test.YtcehfaonmiocgaaDoorCopy
import Derived.Test.YtcehfaonmiocgaaDoorCopy2
import Derived.Test.YtcehfaonmiocgaaDoorBits2
namespace Go.Proofs.YtcehfaonmiocgaaDoor.isaBits
open Plain
open Go.ChangeShapes Go.WideShapes Go.ChangeAt Go.RowKit
open Go.ChangeMaps (open_string shut_string)
set_option linter.unusedVariables false
set_option linter.unusedSimpArgs false

theorem own : ownKnob Tryd.prog.godebug = none := by kernel_rfl

open Go.Proofs.YtcehfaonmiocgaaDoor.Orders

/-- What holds of what is listed so far of a copy. -/
def KB (W : World) (X : Nat) (ox : Int) (px : Option Addr) (n cx : Nat) (fv : List Value) (L : Nat → Bool) (u : Nat → Value) (w : World) : Prop :=
  Below W.heap.size W w ∧
  (L 0 = true → u 0 = .pointer (some ⟨X, 0, none⟩)) ∧
  (L 1 = true → u 1 = .int .i64 ox) ∧
  (L 2 = true → L 5 = false → ∃ g, u 2 = .slice (some ⟨g, 0, none⟩) 0 0 ∧ W.heap.size ≤ g ∧ w.heap[g]? = some (.cells #[] 3 (0, 0))) ∧
  (L 3 = true → u 3 = .pointer (some ⟨X, 1, none⟩)) ∧
  (L 4 = true → u 4 = .slice px n cx) ∧
  (L 5 = true → w.ownsRow W.heap.size 3 1 (u 5) fv.length fv) ∧
  (L 6 = true → L 5 = true ∧ u 6 = .agg #[.int .i64 ox, u 5]) ∧
  (L 7 = true → ∃ g, u 7 = .pointer (some ⟨g, 0, none⟩) ∧ W.heap.size ≤ g ∧ ((L 8 = false ∧ w.heap[g]? = some (.cells #[.int .i64 0, .slice none 0 0] 26 (0, 0))) ∨ (L 8 = true ∧ L 5 = true ∧ w.heap[g]? = some (.cells #[.int .i64 ox, u 5] 26 (0, 0))))) ∧
  (L 8 = true → L 7 = true)

/-- A slice of texts whose j-th one is a kind's name. -/
def HasText (w : World) (v : Value) (n j : Nat) (k : K) : Prop := ∃ gt tc, v = .slice (some ⟨gt, 0, none⟩) n tc ∧ w.cell? ⟨gt, j, none⟩ = some (.string (bs k.name))
theorem HasText.later {w w' : World} {v : Value} {n j : Nat} {k : K} (h : HasText w v n j k) (hb : Below w.heap.size w w') : HasText w' v n j k := by
  obtain ⟨gt, tc, e, h⟩ := h
  exact ⟨gt, tc, e, kept_cell hb h⟩
def AtText (w : World) (v : Value) (j : Nat) (k : K) : Prop := ∃ gt, v = .pointer (some ⟨gt, j, none⟩) ∧ w.cell? ⟨gt, j, none⟩ = some (.string (bs k.name))
theorem AtText.later {w w' : World} {v : Value} {j : Nat} {k : K} (h : AtText w v j k) (hb : Below w.heap.size w w') : AtText w' v j k := by
  obtain ⟨gt, e, h⟩ := h
  exact ⟨gt, e, kept_cell hb h⟩

/-- What holds of what is listed so far of the other operand's making. -/
def KD (V : World) (g gq X j : Nat) (ox a3 : Int) (k : K) (n c : Nat) (yv : Value) (L : Nat → Bool) (u : Nat → Value) (w : World) : Prop :=
  (L 13 = false ∧ Below V.heap.size V w ∧
    (L 0 = true → u 0 = .pointer (some ⟨g, 1, none⟩)) ∧
    (L 1 = true → u 1 = yv) ∧
    (L 2 = true → u 2 = .int .i64 (j : Int)) ∧
    (L 3 = true → u 3 = .pointer (some ⟨X, 0, none⟩)) ∧
    (L 4 = true → u 4 = .int .i64 ox) ∧
    (L 5 = true → u 5 = .string (bs (rowP ox).kinds)) ∧
    (L 6 = true → HasText w (u 6) n j k) ∧
    (L 7 = true → u 7 = .int .i64 (j : Int)) ∧
    (L 8 = true → AtText w (u 8) j k) ∧
    (L 9 = true → u 9 = .string (bs k.name)) ∧
    (L 10 = true → u 10 = .int .i64 a3) ∧
    (L 11 = true → u 11 = .int .i64 (k.opd a3)) ∧
    (L 12 = true → u 12 = .pointer (some ⟨gq, j, none⟩))) ∨
  ((∀ i, i < 14 → L i = true) ∧ ∃ W0, Below V.heap.size V W0 ∧ w = W0.setCell ⟨gq, j, none⟩ (.int .i64 (k.opd a3)))

/-! ### The walk -/
set_option maxHeartbeats 8000000 in
set_option maxRecDepth 20000 in
theorem walk (a0 : Int) (w0 : (Lit.int .i64 a0).wf = true) (v1 : Value) (a1 : List Int) (w1 : InRange a1) (l1 : a1.length ≤ maxLen) (a2 : Int) (w2 : (Lit.int .i64 a2).wf = true) (a3 : Int) (w3 : (Lit.int .i64 a3).wf = true) (w : World) (T : Tab w) (s1 : SliceIs w v1 a1) :
    Calls Tryd.prog 8 #[.int .i64 a0, v1, .int .i64 a2, .int .i64 a3] w fun e w' => e = .returned (.bool true) ∧ Below w.heap.size w w' := by
  have K0 := known_true w T
  go_enter Tryd.func8, Tryd.ntmps8
  go_wp2_with (go_at_call 9; refine K0.mono ?_; rintro e w1 ⟨rfl, hb1⟩)
  clear K0
  refine (make_cap a0 v1 a1 w1 (s1.later hb1)).mono ?_
  rintro e w2 ⟨x, rfl, hx, hb2, kx⟩
  replace hb2 := hb1.trans (hb2.mono hb1.size)
  replace hx := hx.is
  obtain ⟨px, cx, rfl, hj⟩ := id hx
  clear hj
  have rx := made_right a0 a1
  have gx := made_range a0 a1
  have ix := isP_mod a0
  have ln : Hid ((makeF a0 a1).length = (rowP (a0 % 66)).ks.length) := made_length a0 a1
  have l3 := (rows_fields _ (rowP_mem (a0 % 66))).2.2.2.1
  have lk := (rows_fields _ (rowP_mem (a0 % 66))).2.2.1
  have wd : Hid (wordsP (rowP (a0 % 66)).kinds = (rowP (a0 % 66)).ks.map K.name) := rows_words _ (rowP_mem (a0 % 66))
  generalize makeF a0 a1 = fx at *
  generalize a0 % 66 = ox at *
  have hn3 : fx.length ≤ 3 := by rw [ln.out]; exact l3
  have hlm : fx.length ≤ maxLen := by unfold maxLen; omega
  have hb3 : Below w2.heap.size w2 (w2.alloc (.cells #[.int .i64 ox, .slice px fx.length cx] 26)) := (Below.refl _ _).alloc (Nat.le_refl _) _
  have b1 := new_cell (w := w2) (t := 26) #[.int .i64 ox, .slice px fx.length cx] 0 (.int .i64 ox) rfl
  have b2 := new_cell (w := w2) (t := 26) #[.int .i64 ox, .slice px fx.length cx] 1 (.slice px fx.length cx) rfl
  by_cases h0 : fx.length = 0
  · have hbe := hb2.trans (hb3.mono hb2.size)
    clear hb1 hb2 hb3 hx kx gx rx ln wd hn3 hlm
    rw [h0] at b1 b2 hbe ⊢
    go_wp2_with fail
    go_ret
    exact ⟨rfl, hbe⟩
  have h0' : ¬ (fx.length : Int) = 0 := by omega
  have Wi := fun W => within_any a2 fx.length (by omega) (by omega) W
  go_wp2_with fail
  have hz : w2.heap.size < (w2.alloc (.cells #[.int .i64 ox, .slice px fx.length cx] 26)).heap.size := by simp
  replace hx := hx.later hb3
  replace hb3 := hb2.trans (hb3.mono hb2.size)
  have hw03 := hb3.size
  generalize w2.alloc (.cells #[.int .i64 ox, .slice px fx.length cx] 26) = w3 at *
  refine (Wi _).mono ?_
  rintro e w' ⟨rfl, rfl⟩
  have hk : 0 ≤ a2 % (fx.length : Int) ∧ a2 % (fx.length : Int) < fx.length := ⟨Int.emod_nonneg _ (by omega), Int.emod_lt_of_pos _ (by omega)⟩
  obtain ⟨j, hj⟩ : ∃ j : Nat, a2 % (fx.length : Int) = (j : Int) := ⟨(a2 % (fx.length : Int)).toNat, by omega⟩
  rw [hj] at hk ⊢
  have hjn : j < fx.length := by omega
  clear hj Wi
  obtain ⟨bx, obx, hpx, hbx⟩ : ∃ b o, px = some ⟨b, o, none⟩ ∧ b < w3.heap.size := by
    obtain ⟨p', c', e', hc⟩ := hx
    cases e'
    obtain ⟨b, o, e, h⟩ := hc (by rintro rfl; simp at hjn)
    exact ⟨b, o, e, block_lt_of_cell (h j _ (List.getElem?_eq_getElem hjn))⟩
  subst hpx
  go_wp2_with fail
  refine region_inv (by kernel_rfl) (fun u => { tmps := #[Value.int IntKind.i64 a0, v1, Value.int IntKind.i64 a2, Value.int IntKind.i64 a3, undef, undef, undef, undef, Value.bool false, Value.pointer (some { block := w2.heap.size, off := 0 }), Value.int IntKind.i64 ↑j, u 7, undef, undef, undef, undef, undef, undef, undef, Value.bool true, Value.bool false, Value.int IntKind.i64 a0, v1, Value.agg #[Value.int IntKind.i64 ox, Value.slice (some { block := bx, off := obx }) fx.length cx], Value.pointer (some { block := w2.heap.size, off := 1 }), Value.slice (some { block := bx, off := obx }) fx.length cx, Value.int IntKind.i64 ↑fx.length, Value.bool false, Value.int IntKind.i64 a2, Value.pointer (some { block := w2.heap.size, off := 1 }), Value.slice (some { block := bx, off := obx }) fx.length cx, Value.int IntKind.i64 ↑fx.length, Value.int IntKind.i64 ↑j, u 0, u 1, u 2, u 3, u 4, u 5, u 6, undef, undef, undef, undef, undef, undef, undef, undef, undef, undef, undef, undef, undef, undef, undef, undef, undef, undef, undef, undef, undef, undef, undef, undef, undef, undef, undef, undef, undef, undef, undef, undef, undef, undef, undef, undef, undef, undef, undef, undef, undef, undef, undef, undef, undef, undef, undef, undef, undef, undef, undef, undef, undef, undef, undef, undef, undef, undef, undef, undef, undef, undef, undef, undef, undef, undef, undef], defers := [] }) (KB w3 w2.heap.size ox (some ⟨bx, obx, none⟩) fx.length cx (fx.map fun x => Value.int .i64 x)) (by kernel_rfl) (fun _ => undef) ?_ ?_ ?_
  · exact ⟨⟨rfl, rfl, rfl, Nat.le_refl _, fun _ _ => rfl⟩, nofun, nofun, nofun, nofun, nofun, nofun, nofun, nofun, nofun⟩
  · intro i o L u v ho hL hp hI
    obtain ⟨hB, h0, h1, h2, h3, h4, h5, h6, h7, h8⟩ := hI
    have hi : i < 9 := by
      by_cases hi : i < 9
      · exact hi
      · rw [Array.getElem?_eq_none (by simp; omega)] at ho; cases ho
    have hBs : w3.heap.size ≤ v.heap.size := hB.size
    replace b1 := kept_cell hB b1
    replace b2 := kept_cell hB b2
    replace hx := hx.later hB
    match i, hi with
    | 0, _ =>
      cases ho
      exact step_value rfl rfl (run_field0 _ _ _ _ w2.heap.size rfl rfl) ⟨_, rfl, hB, fun _ => rfl, h1, h2, h3, h4, h5, h6, h7, h8⟩
    | 1, _ =>
      cases ho
      have p0 : L 0 = true := hp ⟨0, Ground.data⟩ (by simp) rfl
      exact step_value rfl rfl (run_loadInt _ _ _ _ _ ox rfl (h0 p0) b1) ⟨_, rfl, hB, h0, fun _ => rfl, h2, h3, h4, h5, h6, h7, h8⟩
    | 2, _ =>
      cases ho
      refine step_value rfl rfl (run_build0 _ _ _ rfl) ⟨_, rfl, hB.alloc hBs _, h0, h1, fun _ _ => ⟨_, rfl, hBs, new_block _ _ _⟩, h3, h4, fun a => (h5 a).alloc _, h6, ?_, h8⟩
      intro a
      obtain ⟨g, e, q1, q2⟩ := h7 a
      exact ⟨g, e, q1, q2.imp (fun q => ⟨q.1, blk_alloc q.2⟩) (fun q => ⟨q.1, q.2.1, blk_alloc q.2.2⟩)⟩
    | 3, _ =>
      cases ho
      exact step_value rfl rfl (run_field1 _ _ _ _ w2.heap.size rfl rfl) ⟨_, rfl, hB, h0, h1, h2, fun _ => rfl, h4, h5, h6, h7, h8⟩
    | 4, _ =>
      cases ho
      have p3 : L 3 = true := hp ⟨3, Ground.data⟩ (by simp) rfl
      exact step_value rfl rfl (run_loadInts _ _ _ _ _ (some ⟨bx, obx, none⟩) fx.length cx rfl (h3 p3) b2) ⟨_, rfl, hB, h0, h1, h2, h3, fun _ => rfl, h5, h6, h7, h8⟩
    | 5, _ =>
      cases ho
      have p2 : L 2 = true := hp ⟨2, Ground.data⟩ (by simp) rfl
      have p4 : L 4 = true := hp ⟨4, Ground.data⟩ (by simp) rfl
      obtain ⟨g, e2, q1, q2⟩ := h2 p2 hL
      refine step_app rfl rfl (.tmp 35) (.tmp 37) 22 rfl 3 (.int .i64 0) 8 Tryd.underlying22 info_int rfl w3.heap.size _ [] e2 (row_nil q1 q2) _ (fx.map fun x => Value.int .i64 x) (h4 p4) (holds_ints hx) (by simp [Value.oneCell']) (by simp; unfold maxLen; omega) (by simp; omega) hBs ?_
      intro v' w' hown hg
      rw [List.nil_append] at hown
      refine ⟨v', rfl, below_grown hB hBs hg (by simp [Value.ownBlock]; omega), h0, h1, fun _ b => by simp [updL] at b, h3, h4, fun _ => hown, fun a => (no_ft (h6 a).1 hL).elim, ?_, h8⟩
      intro a
      obtain ⟨g9, e9, r1, r2⟩ := h7 a
      refine ⟨g9, e9, r1, ?_⟩
      rcases r2 with r2 | r2
      · refine .inl ⟨r2.1, blk_kept r2.2 hg ?_⟩
        simp only [Value.ownBlock, ne_eq, Option.some.injEq]
        rintro rfl
        have r2 := r2.2
        rw [q2] at r2
        simp at r2
      · exact (no_ft r2.2.1 hL).elim
    | 6, _ =>
      cases ho
      have p1 : L 1 = true := hp ⟨1, Ground.data⟩ (by simp) rfl
      have p5 : L 5 = true := hp ⟨5, Ground.data⟩ (by simp) rfl
      obtain ⟨q, c, e5, _⟩ := row_form (h5 p5)
      refine step_value rfl rfl (run_buildInst _ _ _ _ _ ox q _ c rfl (h1 p1) e5) ⟨_, rfl, hB, h0, h1, h2, h3, h4, h5, fun _ => ⟨p5, ?_⟩, h7, h8⟩
      show Value.agg _ = Value.agg #[_, u 5]
      rw [e5]
    | 7, _ =>
      cases ho
      refine step_value rfl rfl (run_allocInst _ _ _ rfl) ⟨_, rfl, hB.alloc hBs _, h0, h1, ?_, h3, h4, fun a => (h5 a).alloc _, h6, fun _ => ⟨_, rfl, hBs, .inl ⟨?_, new_block _ _ _⟩⟩, fun _ => rfl⟩
      · intro a b
        obtain ⟨g, e, q1, q2⟩ := h2 a b
        exact ⟨g, e, q1, blk_alloc q2⟩
      · cases h : L 8 with
        | false => exact h
        | true => exact (no_ft (h8 h) hL).elim
    | 8, _ =>
      cases ho
      have p7 : L 7 = true := hp ⟨7, Ground.data⟩ (by simp) rfl
      have p6 : L 6 = true := hp ⟨6, Ground.data⟩ (by simp) rfl
      have p5 := (h6 p6).1
      obtain ⟨g, e7, q1, q2⟩ := h7 p7
      obtain ⟨q, c, e5, _⟩ := row_form (h5 p5)
      have own5 := h5 p5
      rcases q2 with q2 | q2
      · have e6 : u 6 = .agg #[.int .i64 ox, .slice q (fx.map fun x => Value.int .i64 x).length c] := by rw [(h6 p6).2, e5]
        refine step_storeInst rfl rfl (.tmp 11) (.tmp 39) rfl g _ _ ox q _ c e7 e6 q2.2 ?_
        intro w' hg hb
        refine ⟨undef, rfl, below_grown hB hBs hg (by simp; omega), h0, h1, ?_, h3, h4, fun _ => own5.kept hg ?_, h6, fun _ => ⟨g, e7, q1, .inr ⟨rfl, p5, ?_⟩⟩, fun _ => p7⟩
        · intro _ b
          exact (no_ft p5 b).elim
        · exact .inr (Ne.symm (own_ne own5 q2.2 (by decide)))
        · show w'.heap[g]? = some (.cells #[_, u 5] _ _)
          rw [hb, e5]
      · exact (no_ft q2.1 hL).elim
  · intro L u v hL hI
    obtain ⟨hB, h0, h1, h2, h3, h4, h5, h6, h7, h8⟩ := hI
    obtain ⟨g, e7, q1, q2⟩ := h7 (hL 7 (by decide))
    have own := h5 (hL 5 (by decide))
    rcases q2 with q2 | q2
    · exact (no_ft (hL 8 (by decide)) q2.1).elim
    · replace q2 := q2.2.2
      obtain ⟨q, c, e5, kc⟩ := row_form own
      rw [List.length_map] at e5 kc
      rw [e5] at q2 own
      have y0 : v.cell? ⟨g, 0, none⟩ = some (.int .i64 ox) := by simp [World.cell?, q2]
      have y1 : v.cell? ⟨g, 1, none⟩ = some (.slice q fx.length c) := by simp [World.cell?, q2]
      replace hx := hx.later hB
      replace b1 := kept_cell hB b1
      replace b2 := kept_cell hB b2
      have hb4 := hb3.trans (hB.mono hb3.size)
      have hsz := hB.size
      have gv : g < v.heap.size := block_lt_of_cell y0
      dsimp only
      rw [e7]
      clear h0 h1 h2 h3 h4 h5 h6 h7 h8 e5 hb1 hb2 hb3 hB hL e7
      generalize u 0 = u0
      generalize u 1 = u1
      generalize u 2 = u2
      generalize u 3 = u3
      generalize u 4 = u4
      generalize u 5 = u5
      generalize u 6 = u6
      go_wp2_with fail
      -- the room of y's operands
      obtain ⟨gq, cur, eq, q3, q4, q5, q6, q7, q8⟩ : ∃ gq cur, q = some ⟨gq, 0, none⟩ ∧ w3.heap.size ≤ gq ∧ v.heap[gq]? = some (.cells cur 3 (0, 0)) ∧ fx.length ≤ c ∧ c ≤ maxLen ∧ cur.size = c * 1 ∧ cur.toList.take (fx.length * 1) = fx.map fun x => Value.int .i64 x := by
        have ow := own.2
        rw [List.length_map] at ow
        rcases ow with ⟨e, _⟩ | ⟨gq, cap, cur, e, r1, r2, r3, r4, r5, r6⟩
        · injection e with _ e _; omega
        · cases e; exact ⟨gq, cur, rfl, r1, r2, r3, r4, r5, r6⟩
      subst eq
      have sy : SliceIs v (.slice (some ⟨gq, 0, none⟩) fx.length c) fx := by
        have ow := own
        rw [List.length_map] at ow
        exact slice_of_row ow
      have hgg : g ≠ gq := by
        rintro rfl
        rw [q2] at q4
        simp at q4
      have hlt : gq < v.heap.size := by
        by_cases hl : gq < v.heap.size
        · exact hl
        · rw [Array.getElem?_eq_none (by omega)] at q4; cases q4
      have kj : ∃ k, (rowP ox).ks[j]? = some k := ⟨_, List.getElem?_eq_getElem (by rw [← ln.out]; exact hjn)⟩
      obtain ⟨k, hkk⟩ := kj
      have cj : ∃ old, v.cell? ⟨gq, j, none⟩ = some old := by
        obtain ⟨p', c', e', hc⟩ := sy
        cases e'
        obtain ⟨b, o, e, hcc⟩ := hc (by rintro rfl; simp at hjn)
        cases e
        have := hcc j _ (List.getElem?_eq_getElem hjn)
        rw [Nat.zero_add] at this
        exact ⟨_, this⟩
      obtain ⟨old, cj⟩ := cj
      have fj : v.frozen? ⟨gq, j, none⟩ = false := by simp [World.frozen?, q4]
      have wdk := wd.out
      clear own q5 q6 q7 q8 h0' hk kx
      refine region_inv (by kernel_rfl) (fun u => { tmps := #[Value.int IntKind.i64 a0, v1, Value.int IntKind.i64 a2, Value.int IntKind.i64 a3, undef, undef, undef, undef, Value.bool false, Value.pointer (some { block := w2.heap.size, off := 0 }), Value.int IntKind.i64 ↑j, Value.pointer (some { block := g, off := 0 }), undef, undef, undef, undef, undef, undef, undef, Value.bool true, Value.bool false, Value.int IntKind.i64 a0, v1, Value.agg #[Value.int IntKind.i64 ox, Value.slice (some { block := bx, off := obx }) fx.length cx], Value.pointer (some { block := w2.heap.size, off := 1 }), Value.slice (some { block := bx, off := obx }) fx.length cx, Value.int IntKind.i64 ↑fx.length, Value.bool false, Value.int IntKind.i64 a2, Value.pointer (some { block := w2.heap.size, off := 1 }), Value.slice (some { block := bx, off := obx }) fx.length cx, Value.int IntKind.i64 ↑fx.length, Value.int IntKind.i64 ↑j, u0, u1, u2, u3, u4, u5, u6, u 0, u 1, u 2, u 3, u 4, u 5, u 6, u 7, u 8, u 9, u 10, u 11, u 12, undef, undef, undef, undef, undef, undef, undef, undef, undef, undef, undef, undef, undef, undef, undef, undef, undef, undef, undef, undef, undef, undef, undef, undef, undef, undef, undef, undef, undef, undef, undef, undef, undef, undef, undef, undef, undef, undef, undef, undef, undef, undef, undef, undef, undef, undef, undef, undef, undef, undef, undef, undef, undef, undef], defers := [] }) (KD v g gq w2.heap.size j ox a3 k fx.length c (.slice (some ⟨gq, 0, none⟩) fx.length c)) (by kernel_rfl) (fun _ => undef) ?_ ?_ ?_
      · exact .inl ⟨rfl, ⟨rfl, rfl, rfl, Nat.le_refl _, fun _ _ => rfl⟩, nofun, nofun, nofun, nofun, nofun, nofun, nofun, nofun, nofun, nofun, nofun, nofun, nofun⟩
      · intro i o L u W ho hL hp hI
        have hi : i < 14 := by
          by_cases hi : i < 14
          · exact hi
          · rw [Array.getElem?_eq_none (by simp; omega)] at ho; cases ho
        rcases hI with ⟨n13, hB, h0, h1, h2, h3, h4, h5, h6, h7, h8, h9, h10, h11, h12⟩ | ⟨hall, _⟩
        · have hBs : v.heap.size ≤ W.heap.size := hB.size
          replace b1 := kept_cell hB b1
          replace y1 := kept_cell hB y1
          have n13' : ∀ i, i ≠ 13 → updL L i 13 = false := fun i hi => by simp [updL, Ne.symm hi, n13]
          match i, hi with
          | 0, _ =>
            cases ho
            exact step_value rfl rfl (run_field1 _ _ _ _ g rfl rfl) ⟨_, rfl, .inl ⟨n13' _ (by decide), hB, fun _ => rfl, h1, h2, h3, h4, h5, h6, h7, h8, h9, h10, h11, h12⟩⟩
          | 1, _ =>
            cases ho
            have p0 : L 0 = true := hp ⟨0, Ground.data⟩ (by simp) rfl
            exact step_value rfl rfl (run_loadInts _ _ _ _ _ _ _ _ rfl (h0 p0) y1) ⟨_, rfl, .inl ⟨n13' _ (by decide), hB, h0, fun _ => rfl, h2, h3, h4, h5, h6, h7, h8, h9, h10, h11, h12⟩⟩
          | 2, _ =>
            cases ho
            exact step_value rfl rfl (run_move _ _ _ _ (.int .i64 (j : Int)) rfl rfl) ⟨_, rfl, .inl ⟨n13' _ (by decide), hB, h0, h1, fun _ => rfl, h3, h4, h5, h6, h7, h8, h9, h10, h11, h12⟩⟩
          | 3, _ =>
            cases ho
            exact step_value rfl rfl (run_field0 _ _ _ _ w2.heap.size rfl rfl) ⟨_, rfl, .inl ⟨n13' _ (by decide), hB, h0, h1, h2, fun _ => rfl, h4, h5, h6, h7, h8, h9, h10, h11, h12⟩⟩
          | 4, _ =>
            cases ho
            have p3 : L 3 = true := hp ⟨3, Ground.data⟩ (by simp) rfl
            exact step_value rfl rfl (run_loadInt _ _ _ _ _ ox rfl (h3 p3) b1) ⟨_, rfl, .inl ⟨n13' _ (by decide), hB, h0, h1, h2, h3, fun _ => rfl, h5, h6, h7, h8, h9, h10, h11, h12⟩⟩
          | 5, _ =>
            cases ho
            have p4 : L 4 = true := hp ⟨4, Ground.data⟩ (by simp) rfl
            refine step_called (R := fun v' w' => v' = .string (bs (rowP ox).kinds) ∧ Below W.heap.size W w') rfl rfl (run_callKinds _ _ _ _ _ _ rfl (h4 p4)) ((refKinds_any ox W).mono fun e w' h => ⟨_, h.1, rfl, h.2⟩) ?_
            rintro _ w' ⟨rfl, hb⟩
            exact ⟨_, rfl, .inl ⟨n13' _ (by decide), hB.trans (hb.mono hBs), h0, h1, h2, h3, h4, fun _ => rfl, fun a => HasText.later (h6 a) hb, h7, fun a => AtText.later (h8 a) hb, h9, h10, h11, h12⟩⟩
          | 6, _ =>
            cases ho
            have p5 : L 5 = true := hp ⟨5, Ground.data⟩ (by simp) rfl
            refine step_called (R := fun v' w' => HasText w' v' fx.length j k ∧ Below W.heap.size W w') rfl rfl (run_callWords _ _ _ _ _ _ rfl (h5 p5)) ((words_any (rowP ox).kinds (by omega) W).mono fun e w' ⟨tv, e1, h1, h2⟩ => ⟨tv, e1, ?_, h2⟩) ?_
            · rw [wdk] at h1
              obtain ⟨tp, tcap, e2, h3⟩ := texts_form h1
              obtain ⟨gt, e3, _, h5⟩ := h3 j k hkk
              exact ⟨gt, tcap, by rw [e2, e3, ln.out], h5⟩
            rintro _ w' ⟨ht, hb⟩
            exact ⟨_, rfl, .inl ⟨n13' _ (by decide), hB.trans (hb.mono hBs), h0, h1, h2, h3, h4, h5, fun _ => ht, h7, fun a => AtText.later (h8 a) hb, h9, h10, h11, h12⟩⟩
          | 7, _ =>
            cases ho
            exact step_value rfl rfl (run_move _ _ _ _ (.int .i64 (j : Int)) rfl rfl) ⟨_, rfl, .inl ⟨n13' _ (by decide), hB, h0, h1, h2, h3, h4, h5, h6, fun _ => rfl, h8, h9, h10, h11, h12⟩⟩
          | 8, _ =>
            cases ho
            have p6 : L 6 = true := hp ⟨6, Ground.data⟩ (by simp) rfl
            have p7 : L 7 = true := hp ⟨7, Ground.data⟩ (by simp) rfl
            obtain ⟨gt, tc, e6, hc6⟩ := h6 p6
            exact step_value rfl rfl (run_indexTexts _ _ _ _ _ gt fx.length tc j rfl e6 (h7 p7) hjn) ⟨_, rfl, .inl ⟨n13' _ (by decide), hB, h0, h1, h2, h3, h4, h5, h6, h7, fun _ => ⟨gt, rfl, hc6⟩, h9, h10, h11, h12⟩⟩
          | 9, _ =>
            cases ho
            have p8 : L 8 = true := hp ⟨8, Ground.data⟩ (by simp) rfl
            obtain ⟨gt, e8, hc8⟩ := h8 p8
            exact step_value rfl rfl (run_loadText _ _ _ _ _ _ rfl e8 hc8) ⟨_, rfl, .inl ⟨n13' _ (by decide), hB, h0, h1, h2, h3, h4, h5, h6, h7, h8, fun _ => rfl, h10, h11, h12⟩⟩
          | 10, _ =>
            cases ho
            exact step_value rfl rfl (run_move _ _ _ _ (.int .i64 a3) rfl rfl) ⟨_, rfl, .inl ⟨n13' _ (by decide), hB, h0, h1, h2, h3, h4, h5, h6, h7, h8, h9, fun _ => rfl, h11, h12⟩⟩
          | 11, _ =>
            cases ho
            have p9 : L 9 = true := hp ⟨9, Ground.data⟩ (by simp) rfl
            have p10 : L 10 = true := hp ⟨10, Ground.data⟩ (by simp) rfl
            refine step_called (R := fun v' w' => v' = .int .i64 (k.opd a3) ∧ Below W.heap.size W w') rfl rfl (run_callOperand _ _ _ _ _ _ _ _ rfl (h9 p9) (h10 p10)) ((operand_any k a3 W).mono fun e w' h => ⟨_, h.1, rfl, h.2⟩) ?_
            rintro _ w' ⟨rfl, hb⟩
            exact ⟨_, rfl, .inl ⟨n13' _ (by decide), hB.trans (hb.mono hBs), h0, h1, h2, h3, h4, h5, fun a => HasText.later (h6 a) hb, h7, fun a => AtText.later (h8 a) hb, h9, h10, fun _ => rfl, h12⟩⟩
          | 12, _ =>
            cases ho
            have p1 : L 1 = true := hp ⟨1, Ground.data⟩ (by simp) rfl
            have p2 : L 2 = true := hp ⟨2, Ground.data⟩ (by simp) rfl
            exact step_value rfl rfl (run_indexInts _ _ _ _ _ gq fx.length c j rfl (h1 p1) (h2 p2) hjn) ⟨_, rfl, .inl ⟨n13' _ (by decide), hB, h0, h1, h2, h3, h4, h5, h6, h7, h8, h9, h10, h11, fun _ => rfl⟩⟩
          | 13, _ =>
            cases ho
            have p12 : L 12 = true := hp ⟨12, Ground.data⟩ (by simp) rfl
            have p11 : L 11 = true := hp ⟨11, Ground.data⟩ (by simp) rfl
            have pa : ∀ i, i < 12 → L i = true := by
              intro i hi
              match i, hi with
              | 0, _ => exact hp ⟨0, Ground.phase⟩ (by simp) rfl
              | 1, _ => exact hp ⟨1, Ground.phase⟩ (by simp) rfl
              | 2, _ => exact hp ⟨2, Ground.phase⟩ (by simp) rfl
              | 3, _ => exact hp ⟨3, Ground.phase⟩ (by simp) rfl
              | 4, _ => exact hp ⟨4, Ground.phase⟩ (by simp) rfl
              | 5, _ => exact hp ⟨5, Ground.phase⟩ (by simp) rfl
              | 6, _ => exact hp ⟨6, Ground.phase⟩ (by simp) rfl
              | 7, _ => exact hp ⟨7, Ground.phase⟩ (by simp) rfl
              | 8, _ => exact hp ⟨8, Ground.phase⟩ (by simp) rfl
              | 9, _ => exact hp ⟨9, Ground.phase⟩ (by simp) rfl
              | 10, _ => exact hp ⟨10, Ground.phase⟩ (by simp) rfl
              | 11, _ => exact p11
            refine step_skip rfl rfl (run_storeInt _ _ _ _ _ _ (k.opd a3) old rfl (h12 p12) (h11 p11) (kept_cell hB cj) (kept_thawed hB hlt fj)) ⟨undef, rfl, .inr ⟨?_, W, hB, rfl⟩⟩
            intro i hi
            by_cases h13 : i = 13
            · subst h13; exact updL_same _ _
            · rw [updL_other _ _ _ h13]
              by_cases h12' : i = 12
              · subst h12'; exact p12
              · exact pa i (by omega)
        · exact (no_ft (hall i hi) hL).elim
      · intro L u W hL hI
        rcases hI with ⟨n13, _⟩ | ⟨_, W0, hB, rfl⟩
        · exact (no_ft (hL 13 (by decide)) n13).elim
        · have hz3 : w3.heap.size ≤ W0.heap.size := Nat.le_trans hsz hB.size
          have hw3 : w.heap.size ≤ w3.heap.size := hw03
          have hb5 : Below w.heap.size w (W0.setCell ⟨gq, j, none⟩ (.int .i64 (k.opd a3))) := (hb4.trans (hB.mono hb4.size)).setCell (Nat.le_trans hw3 q3) _
          replace b1 := cell_far (j := j) (u := .int .i64 (k.opd a3)) (show w2.heap.size ≠ gq by omega) (kept_cell hB b1)
          replace b2 := cell_far (j := j) (u := .int .i64 (k.opd a3)) (show w2.heap.size ≠ gq by omega) (kept_cell hB b2)
          replace y0 := cell_far (j := j) (u := .int .i64 (k.opd a3)) hgg (kept_cell hB y0)
          replace y1 := cell_far (j := j) (u := .int .i64 (k.opd a3)) hgg (kept_cell hB y1)
          replace hx := slice_far (g := gq) (j := j) (u := .int .i64 (k.opd a3)) (show bx ≠ gq by omega) (hx.later hB)
          replace sy := slice_set (v := k.opd a3) hjn rfl (sy.later hB)
          have ry := coded_set rx hkk (opd_right k a3)
          have gy := set_range (j := j) gx (opd_range64 k a3)
          obtain ⟨xj, hxj⟩ : ∃ xj, fx[j]? = some xj := ⟨_, List.getElem?_eq_getElem hjn⟩
          have BF := bits_fact rx ry hxj
          have yj : (fx.set j (k.opd a3))[j]? = some (k.opd a3) := by rw [List.getElem?_set]; simp [hjn]
          have ly : (fx.set j (k.opd a3)).length = fx.length := List.length_set
          have DF := decode_of (Prod.ext rfl ry : codedP ox (fx.set j (k.opd a3)) = ((codedP ox (fx.set j (k.opd a3))).1, true)) []
          rw [List.append_nil] at DF
          clear hb4 hB q2 q4 cj fj wdk wd hkk lk l3 ln hn3
          generalize W0.setCell ⟨gq, j, none⟩ (.int .i64 (k.opd a3)) = w4 at *
          generalize fx.set j (k.opd a3) = fy at *
          generalize k.opd a3 = yk at *
          dsimp only
          generalize u 0 = t0
          generalize u 1 = t1
          generalize u 2 = t2
          generalize u 3 = t3
          generalize u 4 = t4
          generalize u 5 = t5
          generalize u 6 = t6
          generalize u 7 = t7
          generalize u 8 = t8
          generalize u 9 = t9
          generalize u 10 = t10
          generalize u 11 = t11
          generalize u 12 = t12
          go_wp2_with fail
          refine (encode_at ox _ fx w4 (T.later hb5) hx gx rx).mono ?_
          rintro e w5 ⟨p, rfl, hb6, hp⟩
          replace hx := hx.later hb6
          replace sy := sy.later hb6
          replace b1 := kept_cell hb6 b1
          replace b2 := kept_cell hb6 b2
          replace y0 := kept_cell hb6 y0
          replace y1 := kept_cell hb6 y1
          replace hb6 := hb5.trans (hb6.mono hb5.size)
          have zs := sizeP_is ix
          have lp := bytesP_length ix (codedP ox fx).1
          have lq := bytesP_length ix (codedP ox fy).1
          have np : bytesP (sizeP ox) (codedP ox fx).1 ≠ [] := by intro h; rw [h] at lp; simp at lp; omega
          have nq : bytesP (sizeP ox) (codedP ox fy).1 ≠ [] := by intro h; rw [h] at lq; simp at lq; omega
          obtain ⟨pp, cp, rfl, kp, hpp⟩ := hp
          obtain ⟨bp, op, rfl, hpc⟩ := hpp np
          clear hpp np
          go_wp2_with fail
          refine (encode_at ox _ fy w5 (T.later hb6) sy gy ry).mono ?_
          rintro e w6 ⟨q, rfl, hb7, hq⟩
          replace hx := hx.later hb7
          replace sy := sy.later hb7
          replace b1 := kept_cell hb7 b1
          replace b2 := kept_cell hb7 b2
          replace y0 := kept_cell hb7 y0
          replace y1 := kept_cell hb7 y1
          replace hpc := fun i x hx => kept_cell hb7 (hpc i x hx)
          replace hb7 := hb6.trans (hb7.mono hb6.size)
          have D := decode_any q _ w6 (T.later hb7) hq (bytesP_bytes _ _)
          rw [DF] at D
          obtain ⟨qq, cq, rfl, kq, hqq⟩ := hq
          obtain ⟨bq, oq, rfl, hqc⟩ := hqq nq
          clear hqq nq DF
          go_wp2_with fail
          refine D.mono ?_
          rintro e w7 ⟨hb8, hD⟩
          obtain ⟨vc, rfl, hvc⟩ := hD
          replace hx := hx.later hb8
          replace sy := sy.later hb8
          replace hvc := hvc.is
          replace b1 := kept_cell hb8 b1
          replace b2 := kept_cell hb8 b2
          replace y0 := kept_cell hb8 y0
          replace y1 := kept_cell hb8 y1
          replace hpc := fun i x hx => kept_cell hb8 (hpc i x hx)
          replace hqc := fun i x hx => kept_cell hb8 (hqc i x hx)
          replace hb8 := hb7.trans (hb8.mono hb7.size)
          obtain ⟨pc, cc, rfl, hjunk⟩ := id hvc
          rw [ly] at hvc
          clear hjunk D hb5 hb6 hb7 T
          go_wp2_with fail
          have ha := (Below.refl w7.heap.size w7).alloc (Nat.le_refl _) (.cells #[.int .i64 ox, .slice pc fx.length cc] 26)
          have c0 := new_cell (w := w7) (t := 26) #[.int .i64 ox, .slice pc fx.length cc] 0 (.int .i64 ox) rfl
          have c1 := new_cell (w := w7) (t := 26) #[.int .i64 ox, .slice pc fx.length cc] 1 (.slice pc fx.length cc) rfl
          have lfx : fx.length ≤ maxLen := hlm
          have lfy : fy.length ≤ maxLen := by rw [ly]; exact hlm
          have xc : w7.cell? ⟨bx, obx + j, none⟩ = some (.int .i64 xj) := by
            obtain ⟨p', c', e', hc⟩ := hx
            cases e'
            obtain ⟨b', o', e', hcc⟩ := hc (by rintro rfl; simp at hxj)
            cases e'
            exact hcc j xj hxj
          have yc : w7.cell? ⟨gq, j, none⟩ = some (.int .i64 yk) := by
            obtain ⟨p', c', e', hc⟩ := sy
            rw [ly] at e'
            cases e'
            obtain ⟨b', o', e', hcc⟩ := hc (by rintro rfl; simp at yj)
            cases e'
            have := hcc j yk yj
            rw [Nat.zero_add] at this
            exact this
          replace hx := hx.later ha
          replace sy := sy.later ha
          replace hvc := hvc.later ha
          replace b2 := kept_cell ha b2
          replace y0 := kept_cell ha y0
          replace y1 := kept_cell ha y1
          replace xc := kept_cell ha xc
          replace yc := kept_cell ha yc
          replace hpc := fun i x hx => kept_cell ha (hpc i x hx)
          replace hqc := fun i x hx => kept_cell ha (hqc i x hx)
          have hb9 := hb8.trans (ha.mono hb8.size)
          generalize w7.alloc (.cells #[.int .i64 ox, .slice pc fx.length cc] 26) = w8 at *
          have Sm : ∀ d os, Calls Tryd.prog 16 #[.agg #[.int .i64 ox, .slice pc fx.length cc], .agg #[.int .i64 ox, .slice (some ⟨gq, 0, none⟩) fx.length c]] (Go.Sort.grow (redrawn w8 d) os) fun e w'' => e = .returned (.bool true) ∧ ∃ p : Regrown, w'' = Go.Sort.grow (redrawn w8 p.d) p.os := fun d os =>
            Calls.regrown_of (by
              have S := same_any ox ox _ _ fy fy _ (hvc.later (below_regrown w8 d os)) (sy.later (below_regrown w8 d os)) lfy
              rw [decide_eq_true (⟨rfl, rfl⟩ : ox = ox ∧ fy = fy)] at S
              exact S)
          have r2 := cell_regrown b2
          have r3 := cell_regrown y0
          have r4 := cell_regrown y1
          have r5 := cell_regrown c0
          have r6 := cell_regrown c1
          have r7 := cell_regrown xc
          have r8 := cell_regrown yc
          have TS := text_same (bytesP_bytes (sizeP ox) (codedP ox fx).1) (bytesP_bytes (sizeP ox) (codedP ox fy).1)
          rw [BF] at TS
          have V1 := fun d os => conv_grown (W := w8) bp op _ cp _ (Nat.le_refl _) hpc d os
          have V2 := fun d os => conv_grown (W := w8) bq oq _ cq _ (Nat.le_refl _) hqc d os
          rw [List.take_length] at V1 V2
          have hjI : (j : Int) < (fx.length : Int) := by omega
          clear BF hpc hqc hx sy hvc b1 b2 y0 y1 c0 c1 xc yc hb8 ha rx ry gx gy ix hxj yj lfx lfy hlm ly hbx hz hz3 hw3 hw03 hsz gv hgg hlt q1 q3 kc kp kq h0
          obtain ⟨n1, hn1⟩ : ∃ n1, (bytesP (sizeP ox) (codedP ox fx).1).length = n1 := ⟨_, rfl⟩
          obtain ⟨n2, hn2⟩ : ∃ n2, (bytesP (sizeP ox) (codedP ox fy).1).length = n2 := ⟨_, rfl⟩
          rw [hn1] at lp V1 ⊢
          rw [hn2] at lq V2 ⊢
          clear hn1 hn2
          generalize bytesP (sizeP ox) (codedP ox fx).1 = B1 at *
          generalize bytesP (sizeP ox) (codedP ox fy).1 = B2 at *
          generalize sizeP ox = sz at *
          rcases zs with rfl | rfl
          · obtain rfl : n1 = 2 := by omega
            obtain rfl : n2 = 2 := by omega
            clear lp lq
            refine wp_region_quiet_below (by kernel_rfl) (by kernel_rfl) ?_
            repeat (quiet_step (with_reducible exact Sm _ _))
            refine wpQuiet_nil ?_
            intro _ hw'
            obtain ⟨⟨dq, osq⟩, hw''⟩ := hw'
            subst hw''
            go_wp2
            go_ret
            exact ⟨by simp [TS], reg_below hb9 _ _⟩
          · obtain rfl : n1 = 4 := by omega
            obtain rfl : n2 = 4 := by omega
            clear lp lq
            refine wp_region_quiet_below (by kernel_rfl) (by kernel_rfl) ?_
            repeat (quiet_step (with_reducible exact Sm _ _))
            refine wpQuiet_nil ?_
            intro _ hw'
            obtain ⟨⟨dq, osq⟩, hw''⟩ := hw'
            subst hw''
            go_wp2
            go_ret
            exact ⟨by simp [TS], reg_below hb9 _ _⟩

/-! ### The row's step -/
set_option maxRecDepth 100000 in
theorem lifted (os : Os) (started : os.Started) (H : Type) (enc : TypeId × Value → H) :
    ReturnsInHanded {} Tryd.checked os 8 .any (fun w args => (Rows.isaBitsSpec.pre enc Tryd.prog Tryd.f8 [] false w args ∧ laidMetH Tryd.prog laid4 w) ∧ sizedMet enc Tryd.prog Tryd.f8 (OpenSpec.ofChange Rows.isaBitsSpec) false w args)
      (Rows.isaBitsSpec.post enc Tryd.prog Tryd.f8 false true false false) := by
  refine returnsInHanded_of_change_and (C := Tryd.checked) (X := fun w _ => laidMetH Tryd.prog laid4 w) (fun _ _ _ hh h => h.of_heap hh) own started (by kernel_rfl) Tryd.func8
    (ChangeSpec.witness_shaped (enc := enc) (C := Tryd.checked) (os := os) (X := fun w _ => laidMetH Tryd.prog laid4 w) false (World.doorLaid Tryd.prog 400 os) #[.int .i64 0, .slice none 0 0, .int .i64 0, .int .i64 0] 8 rfl (World.shaped_of_RefB (by kernel_rfl) (by kernel_rfl)) (by kernel_rfl) (by kernel_rfl) (by kernel_rfl) (door_met os _)) ?_
  intro W base args ds gs before hval0 hW _ _ hL _
  have hval : ∀ (j : Nat) t v, Tryd.f8.params[j]? = some t → args[j]? = some v → Value.okWide Tryd.prog W .any base t v := hval0
  have hW' := hW
  obtain ⟨p, q, hA0, hV, rfl, hfz, hnd⟩ := hW
  have hA : DataW.TrodAll enc Tryd.prog W 0 (fun _ => true) true Tryd.f8.params.toList args.toList ds p := hA0
  rw [Tryd.params8] at hA hval
  obtain ⟨v0, vs0, d0, ds0, p0, q0, hargs, rfl, rfl, h0, r0⟩ := trodAll_cons hA
  obtain ⟨v1, vs1, d1, ds1, p1, q1, rfl, rfl, rfl, h1, r1⟩ := trodAll_cons r0
  obtain ⟨v2, vs2, d2, ds2, p2, q2, rfl, rfl, rfl, h2, r2⟩ := trodAll_cons r1
  obtain ⟨v3, vs3, d3, ds3, p3, q3, rfl, rfl, rfl, h3, r3⟩ := trodAll_cons r2
  obtain ⟨rfl, rfl, rfl⟩ := trodAll_nil r3
  obtain rfl : args = #[v0, v1, v2, v3] := by cases args; simp_all
  obtain ⟨rfl, rfl⟩ := trodVars_none hV
  obtain ⟨a0, rfl, rfl, rfl, w0⟩ := open_int Tryd.underlying3 (hval 0 3 v0 rfl rfl) h0
  have k1 := h1
  obtain ⟨a1, s1, w1, l1⟩ := open_ints' (hval 1 22 v1 rfl rfl) h1
  obtain ⟨a2, rfl, rfl, rfl, w2⟩ := open_int Tryd.underlying3 (hval 2 3 v2 rfl rfl) h2
  obtain ⟨a3, rfl, rfl, rfl, w3⟩ := open_int Tryd.underlying3 (hval 3 3 v3 rfl rfl) h3
  clear hA0 hval0
  simp only [List.append_nil, List.nil_append] at hW'
  have hlt : ∀ x ∈ p1, x.block < W.heap.size := fun x hx => by simpa using hW'.lt x (by simpa [or_assoc] using hx)
  refine (walk a0 w0 v1 a1 w1 l1 a2 w2 a3 w3 W (tab_of_laid hL) s1).mono fun e W' ⟨he, hg⟩ => ?_
  subst he
  exact ⟨_, rfl, _, _, _, [], _, [], hW', (trodAll_cons_mk (shut_bool Tryd.underlying4 _) trodAll_mk0), (trodAll_cons_mk (shut_int Tryd.underlying3 w0) (trodAll_cons_mk (Below.trod laidOut (by kernel_rfl) (of_decide_eq_true (by kernel_rfl)) k1 hg (fun x hx => hlt x (by simp [hx]))) (trodAll_cons_mk (shut_int Tryd.underlying3 w2) (trodAll_cons_mk (shut_int Tryd.underlying3 w3) trodAll_mk0)))), rfl, hg.frame _, fun h => by cases h⟩

theorem row : Rows.IsaBitsSaid :=
  OpenClaim.holds_of_wide 8 Tryd.f8 rfl rfl rfl rfl rfl rfl rfl ⟨rfl, rfl, rfl, rfl, rfl⟩ rfl rfl rfl rfl rfl (by kernel_rfl) Tryd.func8 (by kernel_rfl)
    (of_decide_eq_true (by kernel_rfl)) (by unfold Func.isWrapper; first | (rw [if_pos (by decide +kernel)]; kernel_rfl) | (rw [if_neg (by decide +kernel)]; exact ⟨rfl, rfl⟩))
    (fun os started H enc _ => lifted os started H enc)

/-- The statement. -/
theorem proved : Rows.IsaBitsCardSaid :=
  Claim7.holds_tied_plain_at .later [] [.listed, .data, .data, .data] true (true, "445fb9fe314dc75a4bf0a050ff9a5be1ca2ccd5893ae215d4f1456f749247838") false
    row (fun _ h => by cases h) (by kernel_rfl) (fun _ h => by cases h) isaBits_row_tie rfl ⟨rfl, rfl⟩ (by kernel_rfl) rfl
    (fun f fn hf hfn => by
      obtain rfl : f = 8 := Option.some.inj ((show Tryd.prog.funcNamed "letterpress/letterpresslaw2.IsaBits" = some 8 by kernel_rfl).symm.trans hf) |>.symm
      obtain rfl : fn = Tryd.f8 := (Option.some.inj (Tryd.func8.symm.trans hfn)).symm
      exact ⟨by kernel_rfl, fun j t ht => by
        rw [Tryd.params8] at ht
        have hm : t ∈ [3, 22, 3, 3] := by simpa using Array.mem_of_getElem? ht
        have hall : ([3, 22, 3, 3].all fun u => !Tryd.prog.wantsStandIn u) = true := by kernel_rfl
        exact (show Tryd.prog.wantsStandIn t = false by simpa using List.all_eq_true.1 hall t hm)⟩)
    (by kernel_rfl)
#print axioms proved
end Go.Proofs.YtcehfaonmiocgaaDoor.isaBits
