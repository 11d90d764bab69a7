/- IsaRight at commit b60feb1: whether any instruction may be, and its bytes, are the same by the program and by the document said a second time: of any instruction with up to twenty operands, of one that is made of numbers with one operand turned, of that with one more, and of a number alone. -/
import Derived.Test.YtcehfaonmiocgaaDoorRows
import Derived.WalkKit
import Derived.ProofKit
import Derived.OpenShut
import Derived.LaidMore
import Derived.Stop.Joined
import Derived.SevenTiedAt
import Derived.Laws.BytesArg
import Derived.BigQuiet
import Derived.Test.YtcehfaonmiocgaaDoorTie
import Derived.Test.YtcehfaonmiocgaaDoorCards
import Derived.Test.YtcehfaonmiocgaaDoorDoor
import Derived.Test.YtcehfaonmiocgaaDoorConv
import Derived.Test.YtcehfaonmiocgaaDoorEncodeAt
import Derived.Test.YtcehfaonmiocgaaDoorCopy
import Derived.Test.YtcehfaonmiocgaaDoorCopy2
import Derived.Test.YtcehfaonmiocgaaDoorBits2
import Derived.Test.YtcehfaonmiocgaaDoorRefEncode
import Derived.Test.YtcehfaonmiocgaaDoorApp
import Derived.Test.YtcehfaonmiocgaaDoorArgs2
import Derived.Test.YtcehfaonmiocgaaDoorRight2
namespace Go.Proofs.YtcehfaonmiocgaaDoor.isaRight
open Plain
open Go.ChangeShapes Go.WideShapes Go.ChangeAt Go.RowKit
open Go.ChangeMaps (open_string shut_string)
set_option linter.unusedVariables false
set_option linter.unusedSimpArgs false

theorem own : ownKnob Tryd.prog.godebug = none := by kernel_rfl

open Go.Proofs.YtcehfaonmiocgaaDoor.Orders

/-- A slice of the twenty-one numbers. -/
def Has21 (w : World) (v : Value) (y : Int) : Prop := ∃ g, v = .slice (some ⟨g, 0, none⟩) 21 21 ∧ ∀ i x, (lit21 y)[i]? = some x → w.cell? ⟨g, i, none⟩ = some (.int .i64 x)
theorem Has21.later {w w' : World} {v : Value} {y : Int} (h : Has21 w v y) (hb : Below w.heap.size w w') : Has21 w' v y := by
  obtain ⟨g, e, h⟩ := h
  exact ⟨g, e, fun i x hx => kept_cell hb (h i x hx)⟩
def AtNum (w : World) (v : Value) (m : Nat) (x : Int) : Prop := ∃ g, v = .pointer (some ⟨g, m, none⟩) ∧ w.cell? ⟨g, m, none⟩ = some (.int .i64 x)
theorem AtNum.later {w w' : World} {v : Value} {m : Nat} {x : Int} (h : AtNum w v m x) (hb : Below w.heap.size w w') : AtNum w' v m x := by
  obtain ⟨g, e, h⟩ := h
  exact ⟨g, e, kept_cell hb h⟩

/-- What holds of what is listed so far of the other operand's laying. -/
def KE (V : World) (gx X j m : Nat) (a4 a5 val : Int) (xv : Value) (L : Nat → Bool) (u : Nat → Value) (w : World) : Prop :=
  (L 10 = false ∧ Below V.heap.size V w ∧
    (L 0 = true → u 0 = .pointer (some ⟨X, 1, none⟩)) ∧
    (L 1 = true → u 1 = xv) ∧
    (L 2 = true → u 2 = .int .i64 (j : Int)) ∧
    (L 3 = true → u 3 = .int .i64 a5) ∧
    (L 4 = true → Has21 w (u 4) a5) ∧
    (L 5 = true → u 5 = .int .i64 a4) ∧
    (L 6 = true → u 6 = .int .i64 (m : Int)) ∧
    (L 7 = true → AtNum w (u 7) m val) ∧
    (L 8 = true → u 8 = .int .i64 val) ∧
    (L 9 = true → u 9 = .pointer (some ⟨gx, j, none⟩))) ∨
  ((∀ i, i < 11 → L i = true) ∧ ∃ W0, Below V.heap.size V W0 ∧ w = W0.setCell ⟨gx, j, none⟩ (.int .i64 val))

/-- What holds of what is listed so far of the four instructions. -/
def KL (W : World) (R X : Nat) (o0 ox a5 : Int) (pr px : Option Addr) (nr cr n cx : Nat) (fv : List Value) (L : Nat → Bool) (u : Nat → Value) (w : World) : Prop :=
  Below W.heap.size W w ∧
  (L 0 = true → u 0 = .agg #[.int .i64 o0, .slice pr nr cr]) ∧
  (L 1 = true → u 1 = .agg #[.int .i64 ox, .slice px n cx]) ∧
  (L 2 = true → u 2 = .pointer (some ⟨X, 0, none⟩)) ∧
  (L 3 = true → u 3 = .int .i64 ox) ∧
  (L 4 = true → L 7 = false → ∃ g, u 4 = .slice (some ⟨g, 0, none⟩) 0 0 ∧ W.heap.size ≤ g ∧ w.heap[g]? = some (.cells #[] 3 (0, 0))) ∧
  (L 5 = true → u 5 = .pointer (some ⟨X, 1, none⟩)) ∧
  (L 6 = true → u 6 = .slice px n cx) ∧
  (L 7 = true → L 9 = false → w.ownsRow W.heap.size 3 1 (u 7) fv.length fv) ∧
  (L 8 = true → L 9 = false → ∃ g, u 8 = .slice (some ⟨g, 0, none⟩) 1 1 ∧ W.heap.size ≤ g ∧ w.heap[g]? = some (.cells #[.int .i64 0] 3 (0, 0))) ∧
  (L 9 = true → L 7 = true ∧ w.ownsRow W.heap.size 3 1 (u 9) (fv ++ [Value.int .i64 0]).length (fv ++ [Value.int .i64 0])) ∧
  (L 10 = true → L 9 = true ∧ u 10 = .agg #[.int .i64 ox, u 9]) ∧
  (L 11 = true → u 11 = .int .i64 a5) ∧
  (L 12 = true → u 12 = .agg #[.int .i64 a5, .slice none 0 0]) ∧
  (L 13 = true → L 9 = true ∧ ∃ g, u 13 = .slice (some ⟨g, 0, none⟩) 4 4 ∧ W.heap.size ≤ g ∧ w.heap[g]? = some (.cells #[.int .i64 o0, .slice pr nr cr, .int .i64 ox, .slice px n cx, .int .i64 ox, u 9, .int .i64 a5, .slice none 0 0] 26 (0, 0))) ∧
  (L 14 = true → L 13 = true ∧ u 14 = u 13)

/-! ### The walk -/
set_option maxHeartbeats 30000000 in
set_option maxRecDepth 20000 in
theorem walk (v0 : Value) (o0 : Int) (u0 : Value) (a0 : List Int) (e0 : v0 = .agg #[.int .i64 o0, u0]) (b0 : (Lit.int .i64 o0).wf = true) (w0 : InRange a0) (l0 : a0.length ≤ maxLen) (a1 : Int) (w1 : (Lit.int .i64 a1).wf = true) (v2 : Value) (a2 : List Int) (w2 : InRange a2) (l2 : a2.length ≤ maxLen) (a3 : Int) (w3 : (Lit.int .i64 a3).wf = true) (a4 : Int) (w4 : (Lit.int .i64 a4).wf = true) (a5 : Int) (w5 : (Lit.int .i64 a5).wf = true) (w : World) (T : Tab w) (s0 : SliceIs w u0 a0) (s2 : SliceIs w v2 a2) :
    Calls Tryd.prog 4 #[v0, .int .i64 a1, v2, .int .i64 a3, .int .i64 a4, .int .i64 a5] w fun e w' => e = .returned (.bool true) ∧ Below w.heap.size w w' := by
  have K0 := fun W (h : Below w.heap.size w W) => known_true W (T.later h)
  obtain ⟨pr, cr, rfl, hj⟩ := id s0
  clear hj
  subst e0
  have hb0 : Below w.heap.size w (w.alloc (.cells #[.int .i64 o0, .slice pr a0.length cr] 26)) := (Below.refl _ _).alloc (Nat.le_refl _) _
  have r0 := new_cell (w := w) (t := 26) #[.int .i64 o0, .slice pr a0.length cr] 0 (.int .i64 o0) rfl
  have r1 := new_cell (w := w) (t := 26) #[.int .i64 o0, .slice pr a0.length cr] 1 (.slice pr a0.length cr) rfl
  have sr := s0.later hb0
  have sn := s2.later hb0
  go_enter Tryd.func4, Tryd.ntmps4
  go_wp2_with fail
  refine (K0 _ hb0).mono ?_
  rintro e w1 ⟨rfl, hb1⟩
  replace r0 := kept_cell hb1 r0
  replace r1 := kept_cell hb1 r1
  replace sr := sr.later hb1
  replace sn := sn.later hb1
  replace hb1 := hb0.trans (hb1.mono hb0.size)
  clear K0 hb0
  by_cases hlen : 20 < a0.length
  · have hl' : (20 : Int) < (a0.length : Int) := by omega
    go_wp2_with fail
    go_ret
    exact ⟨rfl, hb1⟩
  have hl' : ¬ (20 : Int) < (a0.length : Int) := by omega
  go_wp2_with fail
  refine (make_own a1 v2 a2 w1 sn).mono ?_
  rintro e w2 ⟨x, rfl, hx, hb2, kx, ow⟩
  obtain ⟨px, cx, rfl, hxc⟩ := id hx
  replace hx := hx.is
  have gx' := made_range a1 a2
  have l3 : (makeF a1 a2).length ≤ 3 := by
    have := (rows_fields _ (rowP_mem (a1 % 66))).2.2.2.1
    rw [made_length]; exact this
  generalize makeF a1 a2 = fx at *
  generalize a1 % 66 = ox at *
  have hb3 : Below w2.heap.size w2 (w2.alloc (.cells #[.int .i64 ox, .slice px fx.length cx] 26)) := (Below.refl _ _).alloc (Nat.le_refl _) _
  have x0 := new_cell (w := w2) (t := 26) #[.int .i64 ox, .slice px fx.length cx] 0 (.int .i64 ox) rfl
  have x1 := new_cell (w := w2) (t := 26) #[.int .i64 ox, .slice px fx.length cx] 1 (.slice px fx.length cx) rfl
  by_cases h0 : fx.length = 0
  · have h0' : ¬ 0 < fx.length := by omega
    have h0I : ¬ (0 : Int) < (fx.length : Int) := by omega
    have Wi2 := fun W => within_any a4 2 (by omega) (by omega) W
    have hf : fx = [] := List.length_eq_zero_iff.1 h0
    subst hf
    have hw01 : w.heap.size < w1.heap.size := block_lt_of_cell r0
    obtain ⟨ba, hba, own⟩ := ow
    have own := row_le hba own
    simp only [List.length_nil, List.map_nil] at own hx x0 x1 hb3 ⊢
    by_cases hp2 : a4 % 2 = 0
    · rw [hp2] at Wi2
      have ha4 := (Below.refl (w2.alloc (.cells #[.int .i64 ox, .slice px 0 cx] 26)).heap.size (w2.alloc (.cells #[.int .i64 ox, .slice px 0 cx] 26))).alloc (Nat.le_refl _) (.cells #[.int .i64 a5] 3)
      have f1 := kept_thawed ha4 (a := ⟨w2.heap.size, 1, none⟩) (by simp) (new_thawed (w := w2) (t := 26) #[.int .i64 ox, .slice px 0 cx] 1)
      have hs1 : (w2.alloc (.cells #[.int .i64 ox, .slice px 0 cx] 26)).heap.size = w2.heap.size + 1 := by simp
      have y0 := kept_cell ha4 x0
      have y1 := kept_cell ha4 x1
      have one := new_cell (w := w2.alloc (.cells #[.int .i64 ox, .slice px 0 cx] 26)) (t := 3) #[.int .i64 a5] 0 (.int .i64 a5) rfl
      rw [hs1] at one
      have own4 := (own.alloc (.cells #[.int .i64 ox, .slice px 0 cx] 26)).alloc (.cells #[.int .i64 a5] 3)
      have nX : ∀ b, (Value.slice px 0 cx).ownBlock = some b → w1.heap.size ≤ b ∧ b < w2.heap.size := own.lt
      have hz2 := hb2.size
      have nXX : some w2.heap.size ≠ (Value.slice px 0 cx).ownBlock := fun e => by have := nX _ e.symm; omega
      have hbs : w1.heap.size ≤ ((w2.alloc (.cells #[.int .i64 ox, .slice px 0 cx] 26)).alloc (.cells #[.int .i64 a5] 3)).heap.size := by simp; omega
      have hlx : w2.heap.size < ((w2.alloc (.cells #[.int .i64 ox, .slice px 0 cx] 26)).alloc (.cells #[.int .i64 a5] 3)).heap.size := by simp; omega
      have hone : Holds ((w2.alloc (.cells #[.int .i64 ox, .slice px 0 cx] 26)).alloc (.cells #[.int .i64 a5] 3)) (.slice (some ⟨w2.heap.size + 1, 0, none⟩) 1 1) [Value.int .i64 a5] := ⟨_, _, rfl, fun _ => ⟨w2.heap.size + 1, 0, rfl, fun i u hu => by
        match i, hu with
        | 0, hu => simp at hu; subst hu; exact one⟩⟩
      have hml : ([] : List Value).length + [Value.int .i64 a5].length ≤ maxLen := by show 0 + 1 ≤ maxLen; unfold maxLen; omega
      go_wp2_with (first | (go_at_call 17; refine (Wi2 _).mono ?_; rintro e w' ⟨rfl, rfl⟩) | (at_builtin; refine wpList_app rfl (.tmp 53) (.tmp 55) 22 rfl 3 (.int .i64 0) 8 Tryd.underlying22 info_int rfl w1.heap.size (.slice px 0 cx) [] rfl own4 (.slice (some ⟨w2.heap.size + 1, 0, none⟩) 1 1) [Value.int .i64 a5] rfl hone (by simp [Value.oneCell']) hml (by simp) hbs 1 rfl ?_; intro pz cz w8 own8 hg8; have z0 := hg8.cell y0 nXX; have z1 := hg8.cell y1 nXX; have f8 := (hg8.frozen_far ⟨w2.heap.size, 1, none⟩ hlx nXX).trans f1))
      have hb3' := hb1.trans ((hb2.trans (hb3.mono hb2.size)).mono hb1.size)
      have hb4' := hb3'.trans (ha4.mono hb3'.size)
      have hb8 : Below w.heap.size w w8 := below_grown hb4' hb4'.size hg8 (fun j hj => by have := nX j hj; omega)
      have hV : Below w.heap.size w (w8.setCell ⟨w2.heap.size, 1, none⟩ (.slice pz 1 cz)) := hb8.setCell (show w.heap.size ≤ w2.heap.size by omega) _
      have nR : some w.heap.size ≠ (Value.slice px 0 cx).ownBlock := fun e => by have := nX _ e.symm; omega
      have hwX : w.heap.size ≠ w2.heap.size := by omega
      replace r0 := cell_far (j := 1) (u := .slice pz 1 cz) hwX (hg8.cell (kept_cell ha4 (kept_cell hb3 (kept_cell hb2 r0))) nR)
      replace r1 := cell_far (j := 1) (u := .slice pz 1 cz) hwX (hg8.cell (kept_cell ha4 (kept_cell hb3 (kept_cell hb2 r1))) nR)
      have x0' := set_far (v := .slice pz 1 cz) z0
      have x1' := set_same (v := .slice pz 1 cz) z1
      replace sr := slice_set_far (u := .slice pz 1 cz) (g := w2.heap.size) (j := 1) s0 hb8 (by omega)
      have bX : w8.heap[w2.heap.size]? = some (.cells #[.int .i64 ox, .slice px 0 cx] 26 (0, 0)) := blk_kept (blk_alloc (new_block w2 _ _)) hg8 nXX
      have own9 := own8.kept (grown_set w8 ⟨w2.heap.size, 1, none⟩ (.slice pz 1 cz)) (.inr (Ne.symm (own_ne own8 bX (by decide))))
      have hx' : SliceIs (w8.setCell ⟨w2.heap.size, 1, none⟩ (.slice pz 1 cz)) (.slice pz 1 cz) [a5] := slice_of_row own9
      have gy : InRange [a5] := fun x hx => by
        simp at hx
        have := bounds_i64 w5
        omega
      have ly3 : Hid ([a5].length ≤ 3) := by show _ ≤ _; simp
      replace hx := hx'
      replace x0 := x0'
      replace x1 := x1'
      clear hb3' hb4' hb8 hb1 hb2 hb3 s0 sn Wi2 own own8 own9 own4 hg8 z0 z1 f8 f1 y0 y1 one hone ha4 hs1 nX nXX nR hbs hlx hml hz2 bX hp2 hx' x0' x1' hwX
      generalize w8.setCell ⟨w2.heap.size, 1, none⟩ (.slice pz 1 cz) = V at *
      generalize [a5] = fy at *
      refine region_inv (by kernel_rfl) (fun u => { tmps := #[Value.agg #[Value.int IntKind.i64 o0, Value.slice pr a0.length cr], Value.int IntKind.i64 a1, v2, Value.int IntKind.i64 a3, Value.int IntKind.i64 a4, Value.int IntKind.i64 a5, Value.pointer (some { block := w.heap.size, off := 0 }), undef, undef, undef, undef, undef, Value.bool false, Value.pointer (some { block := w2.heap.size, off := 0 }), undef, u 14, undef, undef, undef, undef, undef, Value.bool true, Value.bool false, Value.pointer (some { block := w.heap.size, off := 1 }), Value.slice pr a0.length cr, Value.int IntKind.i64 ↑a0.length, Value.bool (decide ((20 : Int) < ↑a0.length)), Value.int IntKind.i64 a1, v2, Value.agg #[Value.int IntKind.i64 ox, Value.slice px 0 cx], Value.pointer (some { block := w2.heap.size, off := 1 }), Value.slice px 0 cx, Value.int IntKind.i64 0, Value.bool false, undef, undef, undef, undef, undef, undef, undef, undef, undef, undef, undef, undef, undef, undef, undef, Value.int IntKind.i64 a4, Value.int IntKind.i64 0, Value.bool true, Value.pointer (some { block := w2.heap.size, off := 1 }), Value.slice px 0 cx, Value.int IntKind.i64 a5, Value.slice (some { block := w2.heap.size + 1, off := 0 }) 1 1, Value.slice pz 1 cz, Value.pointer (some { block := w2.heap.size, off := 1 }), u 0, u 1, u 2, u 3, u 4, u 5, u 6, u 7, u 8, u 9, u 10, u 11, u 12, u 13, undef, undef, undef, undef, undef, undef, undef, undef, undef, undef, undef, undef, undef, undef, undef, undef, undef, undef, undef, undef, undef, undef, undef, undef, undef, undef, undef, undef, undef, undef, undef, undef, undef, undef, undef, undef, undef, undef, undef, undef, undef, undef, undef, undef, undef, undef, undef, undef, undef, undef, undef, undef, undef, undef], defers := [] }) (KL V w.heap.size w2.heap.size o0 ox a5 pr pz a0.length cr 1 cz (fy.map fun x => Value.int .i64 x)) (by kernel_rfl) (fun _ => undef) ?_ ?_ ?_
      · exact ⟨⟨rfl, rfl, rfl, Nat.le_refl _, fun _ _ => rfl⟩, nofun, nofun, nofun, nofun, nofun, nofun, nofun, nofun, nofun, nofun, nofun, nofun, nofun, nofun, nofun⟩
      · intro i o L u W ho hL hp hI
        obtain ⟨hB, h0, h1, h2, h3, h4, h5, h6, h7, h8, h9, h10, h11, h12, h13, h14⟩ := hI
        have hi : i < 15 := by
          by_cases hi : i < 15
          · exact hi
          · rw [Array.getElem?_eq_none (by simp; omega)] at ho; cases ho
        have hBs : V.heap.size ≤ W.heap.size := hB.size
        replace r0 := kept_cell hB r0
        replace r1 := kept_cell hB r1
        replace x0 := kept_cell hB x0
        replace x1 := kept_cell hB x1
        replace hx := hx.later hB
        match i, hi with
        | 0, _ =>
          cases ho
          exact step_value rfl rfl (run_loadInst _ _ _ _ w.heap.size o0 pr a0.length cr rfl rfl r0 r1) ⟨_, rfl, hB, fun _ => rfl, h1, h2, h3, h4, h5, h6, h7, h8, h9, h10, h11, h12, h13, h14⟩
        | 1, _ =>
          cases ho
          exact step_value rfl rfl (run_loadInst _ _ _ _ w2.heap.size ox pz 1 cz rfl rfl x0 x1) ⟨_, rfl, hB, h0, fun _ => rfl, h2, h3, h4, h5, h6, h7, h8, h9, h10, h11, h12, h13, h14⟩
        | 2, _ =>
          cases ho
          exact step_value rfl rfl (run_field0 _ _ _ _ w2.heap.size rfl rfl) ⟨_, rfl, hB, h0, h1, fun _ => rfl, h3, h4, h5, h6, h7, h8, h9, h10, h11, h12, h13, h14⟩
        | 3, _ =>
          cases ho
          have p2 : L 2 = true := hp ⟨2, Ground.data⟩ (by simp) rfl
          exact step_value rfl rfl (run_loadInt _ _ _ _ _ ox rfl (h2 p2) x0) ⟨_, rfl, hB, h0, h1, h2, fun _ => rfl, h4, h5, h6, h7, h8, h9, h10, h11, h12, h13, h14⟩
        | 4, _ =>
          cases ho
          refine step_value rfl rfl (run_build0 _ _ _ rfl) ⟨_, rfl, hB.alloc hBs _, h0, h1, h2, h3, fun _ _ => ⟨_, rfl, hBs, new_block _ _ _⟩, h5, h6, fun a b => (h7 a b).alloc _, fun a b => blkOne (h8 a b), fun a => ⟨(h9 a).1, (h9 a).2.alloc _⟩, h10, h11, h12, fun a => ⟨(h13 a).1, blkIn (h13 a).2⟩, h14⟩
        | 5, _ =>
          cases ho
          exact step_value rfl rfl (run_field1 _ _ _ _ w2.heap.size rfl rfl) ⟨_, rfl, hB, h0, h1, h2, h3, h4, fun _ => rfl, h6, h7, h8, h9, h10, h11, h12, h13, h14⟩
        | 6, _ =>
          cases ho
          have p5 : L 5 = true := hp ⟨5, Ground.data⟩ (by simp) rfl
          exact step_value rfl rfl (run_loadInts _ _ _ _ _ pz 1 cz rfl (h5 p5) x1) ⟨_, rfl, hB, h0, h1, h2, h3, h4, h5, fun _ => rfl, h7, h8, h9, h10, h11, h12, h13, h14⟩
        | 7, _ =>
          cases ho
          have p4 : L 4 = true := hp ⟨4, Ground.data⟩ (by simp) rfl
          have p6 : L 6 = true := hp ⟨6, Ground.data⟩ (by simp) rfl
          obtain ⟨g, e4, q1, q2⟩ := h4 p4 hL
          refine step_app rfl rfl (.tmp 62) (.tmp 64) 22 rfl 3 (.int .i64 0) 8 Tryd.underlying22 info_int rfl V.heap.size _ [] e4 (row_nil q1 q2) _ (fy.map fun x => Value.int .i64 x) (h6 p6) (holds_ints hx) (by simp [Value.oneCell']) (by have := ly3.out; simp; unfold maxLen; omega) (by have := ly3.out; simp; omega) hBs ?_
          intro v' w' hown hg
          rw [List.nil_append] at hown
          have n9 : ¬ L 9 = true := fun a => no_ft (h9 a).1 hL
          refine ⟨v', rfl, below_grown hB hBs hg (by simp [Value.ownBlock]; omega), h0, h1, h2, h3, fun _ b => by simp [updL] at b, h5, h6, fun _ _ => hown, ?_, fun a => absurd a n9, fun a => absurd (h10 a).1 n9, h11, h12, fun a => absurd (h13 a).1 n9, h14⟩
          intro a b
          obtain ⟨g8, e8, r1', r2'⟩ := h8 a b
          refine ⟨g8, e8, r1', blk_kept r2' hg ?_⟩
          simp only [Value.ownBlock, ne_eq, Option.some.injEq]
          rintro rfl
          rw [q2] at r2'
          simp at r2'
        | 8, _ =>
          cases ho
          exact step_value rfl rfl (run_build1 _ _ _ 0 rfl) ⟨_, rfl, hB.alloc hBs _, h0, h1, h2, h3, fun a b => blkNil (h4 a b), h5, h6, fun a b => (h7 a b).alloc _, fun _ _ => ⟨_, rfl, hBs, new_block _ _ _⟩, fun a => ⟨(h9 a).1, (h9 a).2.alloc _⟩, h10, h11, h12, fun a => ⟨(h13 a).1, blkIn (h13 a).2⟩, h14⟩
        | 9, _ =>
          cases ho
          have p7 : L 7 = true := hp ⟨7, Ground.data⟩ (by simp) rfl
          have p8 : L 8 = true := hp ⟨8, Ground.data⟩ (by simp) rfl
          obtain ⟨g, e8, q1, q2⟩ := h8 p8 hL
          have own7 := h7 p7 hL
          refine step_app rfl rfl (.tmp 65) (.tmp 66) 22 rfl 3 (.int .i64 0) 8 Tryd.underlying22 info_int rfl V.heap.size _ (fy.map fun x => Value.int .i64 x) rfl own7 _ [Value.int .i64 0] e8 ⟨_, _, rfl, fun _ => ⟨g, 0, rfl, fun i u hu => by rw [Nat.zero_add]; simp [World.cell?, q2, hu]⟩⟩ (by simp [Value.oneCell']) (by have := ly3.out; simp; unfold maxLen; omega) (by have := ly3.out; simp; omega) hBs ?_
          intro v' w' hown hg
          refine ⟨v', rfl, below_grown hB hBs hg (fun j hj => (own7.lt j hj).1), h0, h1, h2, h3, fun _ b => (no_ft p7 b).elim, h5, h6, fun _ b => by simp [updL] at b, fun _ b => by simp [updL] at b, fun _ => ⟨p7, hown⟩, fun a => (no_ft (h10 a).1 hL).elim, h11, h12, fun a => (no_ft (h13 a).1 hL).elim, h14⟩
        | 10, _ =>
          cases ho
          have p3 : L 3 = true := hp ⟨3, Ground.data⟩ (by simp) rfl
          have p9 : L 9 = true := hp ⟨9, Ground.data⟩ (by simp) rfl
          obtain ⟨q, c, e9, _⟩ := row_form (h9 p9).2
          refine step_value rfl rfl (run_buildInst _ _ _ _ _ ox q _ c rfl (h3 p3) e9) ⟨_, rfl, hB, h0, h1, h2, h3, h4, h5, h6, h7, h8, h9, fun _ => ⟨p9, ?_⟩, h11, h12, h13, h14⟩
          show Value.agg _ = Value.agg #[_, u 9]
          rw [e9]
        | 11, _ =>
          cases ho
          exact step_value rfl rfl (run_move _ _ _ _ (.int .i64 a5) rfl rfl) ⟨_, rfl, hB, h0, h1, h2, h3, h4, h5, h6, h7, h8, h9, h10, fun _ => rfl, h12, h13, h14⟩
        | 12, _ =>
          cases ho
          have p11 : L 11 = true := hp ⟨11, Ground.data⟩ (by simp) rfl
          exact step_value rfl rfl (run_buildInst1 _ _ _ _ a5 rfl (h11 p11)) ⟨_, rfl, hB, h0, h1, h2, h3, h4, h5, h6, h7, h8, h9, h10, h11, fun _ => rfl, h13, h14⟩
        | 13, _ =>
          cases ho
          have p0 : L 0 = true := hp ⟨0, Ground.data⟩ (by simp) rfl
          have p1 : L 1 = true := hp ⟨1, Ground.data⟩ (by simp) rfl
          have p10 : L 10 = true := hp ⟨10, Ground.data⟩ (by simp) rfl
          have p12 : L 12 = true := hp ⟨12, Ground.data⟩ (by simp) rfl
          have p9 := (h10 p10).1
          obtain ⟨q, c, e9, _⟩ := row_form (h9 p9).2
          have e10 : u 10 = .agg #[.int .i64 ox, .slice q ((fy.map fun x => Value.int .i64 x) ++ [Value.int .i64 0]).length c] := by rw [(h10 p10).2, e9]
          refine step_value rfl rfl (run_buildInsts _ _ _ _ _ _ _ o0 ox ox a5 pr pz q none a0.length 1 _ 0 cr cz c 0 rfl (h0 p0) (h1 p1) e10 (h12 p12)) ⟨_, rfl, hB.alloc hBs _, h0, h1, h2, h3, fun a b => blkNil (h4 a b), h5, h6, fun a b => (h7 a b).alloc _, fun a b => blkOne (h8 a b), fun a => ⟨(h9 a).1, (h9 a).2.alloc _⟩, h10, h11, h12, fun _ => ⟨p9, _, rfl, hBs, ?_⟩, ?_⟩
          · show (World.alloc _ _).heap[_]? = some (Obj.cells #[_, _, _, _, _, u 9, _, _] _ _)
            rw [e9]
            exact new_block _ _ _
          · intro a
            exact (no_ft (h14 a).1 hL).elim
        | 14, _ =>
          cases ho
          have p13 : L 13 = true := hp ⟨13, Ground.data⟩ (by simp) rfl
          obtain ⟨_, g, e13, _⟩ := h13 p13
          refine step_value rfl rfl (run_assign _ _ _ _ _ rfl e13) ⟨_, rfl, hB, h0, h1, h2, h3, h4, h5, h6, h7, h8, h9, h10, h11, h12, h13, fun _ => ⟨p13, ?_⟩⟩
          exact e13.symm
      · intro L u W hL hI
        obtain ⟨hB, h0, h1, h2, h3, h4, h5, h6, h7, h8, h9, h10, h11, h12, h13, h14⟩ := hI
        obtain ⟨_, g, e13, q1, q2⟩ := h13 (hL 13 (by decide))
        have e14 := (h14 (hL 14 (by decide))).2
        have own := (h9 (hL 9 (by decide))).2
        have sy : SliceIs W (u 9) (fy ++ [0]) := slice_of_row (by
          have e : ((fy ++ [0]).map fun x => Value.int .i64 x) = (fy.map fun x => Value.int .i64 x) ++ [Value.int .i64 0] := by simp
          rw [e]
          have e2 : (fy ++ [0]).length = ((fy.map fun x => Value.int .i64 x) ++ [Value.int .i64 0]).length := by simp
          rw [e2]
          exact own)
        obtain ⟨q, c, e9, _⟩ := row_form own
        rw [e9] at q2 sy
        have EL : Insts W g := insts_of q2 (sr.later hB) w0 l0 (hx.later hB) gy (by have := ly3.out; unfold maxLen; omega) sy (by
          intro x hx
          rcases List.mem_append.1 hx with h | h
          · exact gy x h
          · simp at h; omega) (by have := ly3.out; simp; unfold maxLen; omega)
        have hW := hV.trans (hB.mono hV.size)
        rw [e13] at e14
        dsimp only
        rw [e13, e14]
        clear h0 h1 h2 h3 h4 h5 h6 h7 h8 h9 h10 h11 h12 h13 h14 own e9 q2 sy e13 e14 hL r0 r1 x0 x1 hx sr gy ly3 hV hB q1 hlen hl' h0I h0' hw01 kx hba
        generalize u 0 = s0
        generalize u 1 = s1
        generalize u 2 = s2
        generalize u 3 = s3
        generalize u 4 = s4
        generalize u 5 = s5
        generalize u 6 = s6
        generalize u 7 = s7
        generalize u 8 = s8
        generalize u 9 = s9
        generalize u 10 = s10
        generalize u 11 = s11
        generalize u 12 = s12
        go_wp2_with fail
        go_loopw [16] (fun i wr => ∃ j : Nat, j ≤ 4 ∧ i = .int .i64 j ∧ Below W.heap.size W wr) (fun i _ => 4 - (intOf i).toNat)
        case atStart => exact ⟨0, by omega, rfl, Below.refl _ _⟩
        case round =>
          obtain ⟨j', hj', rfl, hbr⟩ := hrel
          have hWr : Below w.heap.size w wr := hW.trans (hbr.mono hW.size)
          by_cases hjn : j' < 4
          · obtain ⟨op, q', n', c', fs, d0, d1, sf, rf, lf⟩ := (EL.later hbr) j' hjn
            have hjI : (j' : Int) < 4 := by omega
            cases hc : (codedP op fs).2 with
            | true =>
              have E1 := encode_at op _ fs wr (T.later hWr) sf rf hc
              go_wp2_with fail
              refine E1.mono ?_
              rintro e u1 ⟨p, rfl, hb5, hp⟩
              replace d0 := kept_cell hb5 d0
              replace d1 := kept_cell hb5 d1
              replace sf := sf.later hb5
              have hb5' := hWr.trans (hb5.mono hWr.size)
              have hbr' := hbr.trans (hb5.mono hbr.size)
              have ix := coded_size hc
              have zs := sizeP_is ix
              have lp := bytesP_length ix (codedP op fs).1
              have np : bytesP (sizeP op) (codedP op fs).1 ≠ [] := by intro h; rw [h] at lp; simp at lp; omega
              obtain ⟨pp, cp, rfl, kp, hpp⟩ := hp
              obtain ⟨bp, obp, rfl, hpc⟩ := hpp np
              clear hpp E1 hb5
              go_wp2_with fail
              refine (refEncode_yes op _ fs u1 sf rf lf hc).mono ?_
              rintro e u2 ⟨q, rfl, hb6, hq⟩
              replace d0 := kept_cell hb6 d0
              replace d1 := kept_cell hb6 d1
              replace sf := sf.later hb6
              replace hpc := fun i x hx => kept_cell hb6 (hpc i x hx)
              have hb6' := hb5'.trans (hb6.mono hb5'.size)
              have hbr2 := hbr'.trans (hb6.mono hbr'.size)
              obtain ⟨qq, cq, rfl, kq, hqq⟩ := hq
              obtain ⟨bq, obq, rfl, hqc⟩ := hqq np
              clear hqq np hb6 hb5' hbr' hWr
              have Rt : ∀ d os, Calls Tryd.prog 13 #[.agg #[.int .i64 op, .slice q' n' c']] (Go.Sort.grow (redrawn u2 d) os) fun e w'' => e = .returned (.bool true) ∧ ∃ p : Regrown, w'' = Go.Sort.grow (redrawn u2 p.d) p.os := fun d os =>
                Calls.regrown_of (by
                  have R := right_any op _ fs (Go.Sort.grow (redrawn u2 d) os) (T.later (reg_below hb6' d os)) (sf.later (below_regrown u2 d os)) rf
                  rw [hc] at R
                  exact R)
              have Rr : ∀ d os, Calls Tryd.prog 18 #[.agg #[.int .i64 op, .slice q' n' c']] (Go.Sort.grow (redrawn u2 d) os) fun e w'' => e = .returned (.bool true) ∧ ∃ p : Regrown, w'' = Go.Sort.grow (redrawn u2 p.d) p.os := fun d os =>
                Calls.regrown_of (by
                  have R := refRight_any op _ fs (Go.Sort.grow (redrawn u2 d) os) (sf.later (below_regrown u2 d os)) rf lf
                  rw [hc] at R
                  exact R)
              have g0 := cell_regrown d0
              have g1 := cell_regrown d1
              have V1 := fun d os => conv_grown (W := u2) bp obp _ cp _ (Nat.le_refl _) hpc d os
              have V2 := fun d os => conv_grown (W := u2) bq obq _ cq _ (Nat.le_refl _) hqc d os
              rw [List.take_length] at V1 V2
              generalize bytesP (sizeP op) (codedP op fs).1 = B at *
              clear hpc hqc kp kq lp zs ix sf rf lf d0 d1 EL hW hbr
              go_wp2_with fail
              refine wp_region_quiet_below (by kernel_rfl) (by kernel_rfl) ?_
              repeat (quiet_step (first | with_reducible exact Rt _ _ | with_reducible exact Rr _ _))
              refine wpQuiet_nil ?_
              intro _ hw'
              obtain ⟨⟨dq, osq⟩, hw''⟩ := hw'
              subst hw''
              go_wp2
              go_roundw
              case rel => exact ⟨j' + 1, by omega, by go_num, hbr2.trans ((below_regrown u2 dq osq).mono hbr2.size)⟩
              case measure => simp [intOf]; omega
            | false =>
              have E1 := encode_no op _ fs wr (T.later hWr) sf rf hc
              go_wp2_with fail
              refine E1.mono ?_
              rintro e u1 ⟨rfl, hb5⟩
              replace d0 := kept_cell hb5 d0
              replace d1 := kept_cell hb5 d1
              replace sf := sf.later hb5
              have hb5' := hWr.trans (hb5.mono hWr.size)
              have hbr' := hbr.trans (hb5.mono hbr.size)
              clear E1 hb5
              go_wp2_with fail
              refine (refEncode_no op _ fs u1 sf rf lf hc).mono ?_
              rintro e u2 ⟨rfl, hb6⟩
              replace d0 := kept_cell hb6 d0
              replace d1 := kept_cell hb6 d1
              replace sf := sf.later hb6
              have hb6' := hb5'.trans (hb6.mono hb5'.size)
              have hbr2 := hbr'.trans (hb6.mono hbr'.size)
              clear hb6 hb5' hbr' hWr
              have Rt : ∀ d os, Calls Tryd.prog 13 #[.agg #[.int .i64 op, .slice q' n' c']] (Go.Sort.grow (redrawn u2 d) os) fun e w'' => e = .returned (.bool false) ∧ ∃ p : Regrown, w'' = Go.Sort.grow (redrawn u2 p.d) p.os := fun d os =>
                Calls.regrown_of (by
                  have R := right_any op _ fs (Go.Sort.grow (redrawn u2 d) os) (T.later (reg_below hb6' d os)) (sf.later (below_regrown u2 d os)) rf
                  rw [hc] at R
                  exact R)
              have Rr : ∀ d os, Calls Tryd.prog 18 #[.agg #[.int .i64 op, .slice q' n' c']] (Go.Sort.grow (redrawn u2 d) os) fun e w'' => e = .returned (.bool false) ∧ ∃ p : Regrown, w'' = Go.Sort.grow (redrawn u2 p.d) p.os := fun d os =>
                Calls.regrown_of (by
                  have R := refRight_any op _ fs (Go.Sort.grow (redrawn u2 d) os) (sf.later (below_regrown u2 d os)) rf lf
                  rw [hc] at R
                  exact R)
              have g0 := cell_regrown d0
              have g1 := cell_regrown d1
              have Vn := conv_nil
              clear sf rf lf d0 d1 EL hW hbr
              go_wp2_with fail
              refine wp_region_quiet_below (by kernel_rfl) (by kernel_rfl) ?_
              repeat (quiet_step (first | with_reducible exact Rt _ _ | with_reducible exact Rr _ _))
              refine wpQuiet_nil ?_
              intro _ hw'
              obtain ⟨⟨dq, osq⟩, hw''⟩ := hw'
              subst hw''
              go_wp2
              go_roundw
              case rel => exact ⟨j' + 1, by omega, by go_num, hbr2.trans ((below_regrown u2 dq osq).mono hbr2.size)⟩
              case measure => simp [intOf]; omega
          · have hjn : j' = 4 := by omega
            subst hjn
            go_wp2
            go_ret
            exact ⟨rfl, hWr⟩
    · have hp3 : ((a4 % 2 : Int) == 0) = false := by simpa using hp2
      go_wp2_with (go_at_call 17; refine (Wi2 _).mono ?_; rintro e w' ⟨rfl, rfl⟩)
      have hb3' := hb1.trans ((hb2.trans (hb3.mono hb2.size)).mono hb1.size)
      replace r0 := kept_cell hb3 (kept_cell hb2 r0)
      replace r1 := kept_cell hb3 (kept_cell hb2 r1)
      replace sr := (sr.later hb2).later hb3
      replace hx := hx.later hb3
      have hV := hb3'
      have gy : InRange ([] : List Int) := fun x hx => by simp at hx
      have ly3 : Hid (([] : List Int).length ≤ 3) := by show _ ≤ _; simp
      clear hb3' hb1 hb2 hb3 s0 sn Wi2 own hp3 hp2
      generalize w2.alloc (.cells #[.int .i64 ox, .slice px 0 cx] 26) = V at *
      generalize ([] : List Int) = fy at *
      refine region_inv (by kernel_rfl) (fun u => { tmps := #[Value.agg #[Value.int IntKind.i64 o0, Value.slice pr a0.length cr], Value.int IntKind.i64 a1, v2, Value.int IntKind.i64 a3, Value.int IntKind.i64 a4, Value.int IntKind.i64 a5, Value.pointer (some { block := w.heap.size, off := 0 }), undef, undef, undef, undef, undef, Value.bool false, Value.pointer (some { block := w2.heap.size, off := 0 }), undef, u 14, undef, undef, undef, undef, undef, Value.bool true, Value.bool false, Value.pointer (some { block := w.heap.size, off := 1 }), Value.slice pr a0.length cr, Value.int IntKind.i64 ↑a0.length, Value.bool (decide ((20 : Int) < ↑a0.length)), Value.int IntKind.i64 a1, v2, Value.agg #[Value.int IntKind.i64 ox, Value.slice px 0 cx], Value.pointer (some { block := w2.heap.size, off := 1 }), Value.slice px 0 cx, Value.int IntKind.i64 0, Value.bool false, undef, undef, undef, undef, undef, undef, undef, undef, undef, undef, undef, undef, undef, undef, undef, Value.int IntKind.i64 a4, Value.int IntKind.i64 (a4 % 2), Value.bool false, undef, undef, undef, undef, undef, undef, u 0, u 1, u 2, u 3, u 4, u 5, u 6, u 7, u 8, u 9, u 10, u 11, u 12, u 13, undef, undef, undef, undef, undef, undef, undef, undef, undef, undef, undef, undef, undef, undef, undef, undef, undef, undef, undef, undef, undef, undef, undef, undef, undef, undef, undef, undef, undef, undef, undef, undef, undef, undef, undef, undef, undef, undef, undef, undef, undef, undef, undef, undef, undef, undef, undef, undef, undef, undef, undef, undef, undef, undef], defers := [] }) (KL V w.heap.size w2.heap.size o0 ox a5 pr px a0.length cr 0 cx (fy.map fun x => Value.int .i64 x)) (by kernel_rfl) (fun _ => undef) ?_ ?_ ?_
      · exact ⟨⟨rfl, rfl, rfl, Nat.le_refl _, fun _ _ => rfl⟩, nofun, nofun, nofun, nofun, nofun, nofun, nofun, nofun, nofun, nofun, nofun, nofun, nofun, nofun, nofun⟩
      · intro i o L u W ho hL hp hI
        obtain ⟨hB, h0, h1, h2, h3, h4, h5, h6, h7, h8, h9, h10, h11, h12, h13, h14⟩ := hI
        have hi : i < 15 := by
          by_cases hi : i < 15
          · exact hi
          · rw [Array.getElem?_eq_none (by simp; omega)] at ho; cases ho
        have hBs : V.heap.size ≤ W.heap.size := hB.size
        replace r0 := kept_cell hB r0
        replace r1 := kept_cell hB r1
        replace x0 := kept_cell hB x0
        replace x1 := kept_cell hB x1
        replace hx := hx.later hB
        match i, hi with
        | 0, _ =>
          cases ho
          exact step_value rfl rfl (run_loadInst _ _ _ _ w.heap.size o0 pr a0.length cr rfl rfl r0 r1) ⟨_, rfl, hB, fun _ => rfl, h1, h2, h3, h4, h5, h6, h7, h8, h9, h10, h11, h12, h13, h14⟩
        | 1, _ =>
          cases ho
          exact step_value rfl rfl (run_loadInst _ _ _ _ w2.heap.size ox px 0 cx rfl rfl x0 x1) ⟨_, rfl, hB, h0, fun _ => rfl, h2, h3, h4, h5, h6, h7, h8, h9, h10, h11, h12, h13, h14⟩
        | 2, _ =>
          cases ho
          exact step_value rfl rfl (run_field0 _ _ _ _ w2.heap.size rfl rfl) ⟨_, rfl, hB, h0, h1, fun _ => rfl, h3, h4, h5, h6, h7, h8, h9, h10, h11, h12, h13, h14⟩
        | 3, _ =>
          cases ho
          have p2 : L 2 = true := hp ⟨2, Ground.data⟩ (by simp) rfl
          exact step_value rfl rfl (run_loadInt _ _ _ _ _ ox rfl (h2 p2) x0) ⟨_, rfl, hB, h0, h1, h2, fun _ => rfl, h4, h5, h6, h7, h8, h9, h10, h11, h12, h13, h14⟩
        | 4, _ =>
          cases ho
          refine step_value rfl rfl (run_build0 _ _ _ rfl) ⟨_, rfl, hB.alloc hBs _, h0, h1, h2, h3, fun _ _ => ⟨_, rfl, hBs, new_block _ _ _⟩, h5, h6, fun a b => (h7 a b).alloc _, fun a b => blkOne (h8 a b), fun a => ⟨(h9 a).1, (h9 a).2.alloc _⟩, h10, h11, h12, fun a => ⟨(h13 a).1, blkIn (h13 a).2⟩, h14⟩
        | 5, _ =>
          cases ho
          exact step_value rfl rfl (run_field1 _ _ _ _ w2.heap.size rfl rfl) ⟨_, rfl, hB, h0, h1, h2, h3, h4, fun _ => rfl, h6, h7, h8, h9, h10, h11, h12, h13, h14⟩
        | 6, _ =>
          cases ho
          have p5 : L 5 = true := hp ⟨5, Ground.data⟩ (by simp) rfl
          exact step_value rfl rfl (run_loadInts _ _ _ _ _ px 0 cx rfl (h5 p5) x1) ⟨_, rfl, hB, h0, h1, h2, h3, h4, h5, fun _ => rfl, h7, h8, h9, h10, h11, h12, h13, h14⟩
        | 7, _ =>
          cases ho
          have p4 : L 4 = true := hp ⟨4, Ground.data⟩ (by simp) rfl
          have p6 : L 6 = true := hp ⟨6, Ground.data⟩ (by simp) rfl
          obtain ⟨g, e4, q1, q2⟩ := h4 p4 hL
          refine step_app rfl rfl (.tmp 62) (.tmp 64) 22 rfl 3 (.int .i64 0) 8 Tryd.underlying22 info_int rfl V.heap.size _ [] e4 (row_nil q1 q2) _ (fy.map fun x => Value.int .i64 x) (h6 p6) (holds_ints hx) (by simp [Value.oneCell']) (by have := ly3.out; simp; unfold maxLen; omega) (by have := ly3.out; simp; omega) hBs ?_
          intro v' w' hown hg
          rw [List.nil_append] at hown
          have n9 : ¬ L 9 = true := fun a => no_ft (h9 a).1 hL
          refine ⟨v', rfl, below_grown hB hBs hg (by simp [Value.ownBlock]; omega), h0, h1, h2, h3, fun _ b => by simp [updL] at b, h5, h6, fun _ _ => hown, ?_, fun a => absurd a n9, fun a => absurd (h10 a).1 n9, h11, h12, fun a => absurd (h13 a).1 n9, h14⟩
          intro a b
          obtain ⟨g8, e8, r1', r2'⟩ := h8 a b
          refine ⟨g8, e8, r1', blk_kept r2' hg ?_⟩
          simp only [Value.ownBlock, ne_eq, Option.some.injEq]
          rintro rfl
          rw [q2] at r2'
          simp at r2'
        | 8, _ =>
          cases ho
          exact step_value rfl rfl (run_build1 _ _ _ 0 rfl) ⟨_, rfl, hB.alloc hBs _, h0, h1, h2, h3, fun a b => blkNil (h4 a b), h5, h6, fun a b => (h7 a b).alloc _, fun _ _ => ⟨_, rfl, hBs, new_block _ _ _⟩, fun a => ⟨(h9 a).1, (h9 a).2.alloc _⟩, h10, h11, h12, fun a => ⟨(h13 a).1, blkIn (h13 a).2⟩, h14⟩
        | 9, _ =>
          cases ho
          have p7 : L 7 = true := hp ⟨7, Ground.data⟩ (by simp) rfl
          have p8 : L 8 = true := hp ⟨8, Ground.data⟩ (by simp) rfl
          obtain ⟨g, e8, q1, q2⟩ := h8 p8 hL
          have own7 := h7 p7 hL
          refine step_app rfl rfl (.tmp 65) (.tmp 66) 22 rfl 3 (.int .i64 0) 8 Tryd.underlying22 info_int rfl V.heap.size _ (fy.map fun x => Value.int .i64 x) rfl own7 _ [Value.int .i64 0] e8 ⟨_, _, rfl, fun _ => ⟨g, 0, rfl, fun i u hu => by rw [Nat.zero_add]; simp [World.cell?, q2, hu]⟩⟩ (by simp [Value.oneCell']) (by have := ly3.out; simp; unfold maxLen; omega) (by have := ly3.out; simp; omega) hBs ?_
          intro v' w' hown hg
          refine ⟨v', rfl, below_grown hB hBs hg (fun j hj => (own7.lt j hj).1), h0, h1, h2, h3, fun _ b => (no_ft p7 b).elim, h5, h6, fun _ b => by simp [updL] at b, fun _ b => by simp [updL] at b, fun _ => ⟨p7, hown⟩, fun a => (no_ft (h10 a).1 hL).elim, h11, h12, fun a => (no_ft (h13 a).1 hL).elim, h14⟩
        | 10, _ =>
          cases ho
          have p3 : L 3 = true := hp ⟨3, Ground.data⟩ (by simp) rfl
          have p9 : L 9 = true := hp ⟨9, Ground.data⟩ (by simp) rfl
          obtain ⟨q, c, e9, _⟩ := row_form (h9 p9).2
          refine step_value rfl rfl (run_buildInst _ _ _ _ _ ox q _ c rfl (h3 p3) e9) ⟨_, rfl, hB, h0, h1, h2, h3, h4, h5, h6, h7, h8, h9, fun _ => ⟨p9, ?_⟩, h11, h12, h13, h14⟩
          show Value.agg _ = Value.agg #[_, u 9]
          rw [e9]
        | 11, _ =>
          cases ho
          exact step_value rfl rfl (run_move _ _ _ _ (.int .i64 a5) rfl rfl) ⟨_, rfl, hB, h0, h1, h2, h3, h4, h5, h6, h7, h8, h9, h10, fun _ => rfl, h12, h13, h14⟩
        | 12, _ =>
          cases ho
          have p11 : L 11 = true := hp ⟨11, Ground.data⟩ (by simp) rfl
          exact step_value rfl rfl (run_buildInst1 _ _ _ _ a5 rfl (h11 p11)) ⟨_, rfl, hB, h0, h1, h2, h3, h4, h5, h6, h7, h8, h9, h10, h11, fun _ => rfl, h13, h14⟩
        | 13, _ =>
          cases ho
          have p0 : L 0 = true := hp ⟨0, Ground.data⟩ (by simp) rfl
          have p1 : L 1 = true := hp ⟨1, Ground.data⟩ (by simp) rfl
          have p10 : L 10 = true := hp ⟨10, Ground.data⟩ (by simp) rfl
          have p12 : L 12 = true := hp ⟨12, Ground.data⟩ (by simp) rfl
          have p9 := (h10 p10).1
          obtain ⟨q, c, e9, _⟩ := row_form (h9 p9).2
          have e10 : u 10 = .agg #[.int .i64 ox, .slice q ((fy.map fun x => Value.int .i64 x) ++ [Value.int .i64 0]).length c] := by rw [(h10 p10).2, e9]
          refine step_value rfl rfl (run_buildInsts _ _ _ _ _ _ _ o0 ox ox a5 pr px q none a0.length 0 _ 0 cr cx c 0 rfl (h0 p0) (h1 p1) e10 (h12 p12)) ⟨_, rfl, hB.alloc hBs _, h0, h1, h2, h3, fun a b => blkNil (h4 a b), h5, h6, fun a b => (h7 a b).alloc _, fun a b => blkOne (h8 a b), fun a => ⟨(h9 a).1, (h9 a).2.alloc _⟩, h10, h11, h12, fun _ => ⟨p9, _, rfl, hBs, ?_⟩, ?_⟩
          · show (World.alloc _ _).heap[_]? = some (Obj.cells #[_, _, _, _, _, u 9, _, _] _ _)
            rw [e9]
            exact new_block _ _ _
          · intro a
            exact (no_ft (h14 a).1 hL).elim
        | 14, _ =>
          cases ho
          have p13 : L 13 = true := hp ⟨13, Ground.data⟩ (by simp) rfl
          obtain ⟨_, g, e13, _⟩ := h13 p13
          refine step_value rfl rfl (run_assign _ _ _ _ _ rfl e13) ⟨_, rfl, hB, h0, h1, h2, h3, h4, h5, h6, h7, h8, h9, h10, h11, h12, h13, fun _ => ⟨p13, ?_⟩⟩
          exact e13.symm
      · intro L u W hL hI
        obtain ⟨hB, h0, h1, h2, h3, h4, h5, h6, h7, h8, h9, h10, h11, h12, h13, h14⟩ := hI
        obtain ⟨_, g, e13, q1, q2⟩ := h13 (hL 13 (by decide))
        have e14 := (h14 (hL 14 (by decide))).2
        have own := (h9 (hL 9 (by decide))).2
        have sy : SliceIs W (u 9) (fy ++ [0]) := slice_of_row (by
          have e : ((fy ++ [0]).map fun x => Value.int .i64 x) = (fy.map fun x => Value.int .i64 x) ++ [Value.int .i64 0] := by simp
          rw [e]
          have e2 : (fy ++ [0]).length = ((fy.map fun x => Value.int .i64 x) ++ [Value.int .i64 0]).length := by simp
          rw [e2]
          exact own)
        obtain ⟨q, c, e9, _⟩ := row_form own
        rw [e9] at q2 sy
        have EL : Insts W g := insts_of q2 (sr.later hB) w0 l0 (hx.later hB) gy (by have := ly3.out; unfold maxLen; omega) sy (by
          intro x hx
          rcases List.mem_append.1 hx with h | h
          · exact gy x h
          · simp at h; omega) (by have := ly3.out; simp; unfold maxLen; omega)
        have hW := hV.trans (hB.mono hV.size)
        rw [e13] at e14
        dsimp only
        rw [e13, e14]
        clear h0 h1 h2 h3 h4 h5 h6 h7 h8 h9 h10 h11 h12 h13 h14 own e9 q2 sy e13 e14 hL r0 r1 x0 x1 hx sr gy ly3 hV hB q1 hlen hl' h0I h0' hw01 kx hba
        generalize u 0 = s0
        generalize u 1 = s1
        generalize u 2 = s2
        generalize u 3 = s3
        generalize u 4 = s4
        generalize u 5 = s5
        generalize u 6 = s6
        generalize u 7 = s7
        generalize u 8 = s8
        generalize u 9 = s9
        generalize u 10 = s10
        generalize u 11 = s11
        generalize u 12 = s12
        go_wp2_with fail
        go_loopw [16] (fun i wr => ∃ j : Nat, j ≤ 4 ∧ i = .int .i64 j ∧ Below W.heap.size W wr) (fun i _ => 4 - (intOf i).toNat)
        case atStart => exact ⟨0, by omega, rfl, Below.refl _ _⟩
        case round =>
          obtain ⟨j', hj', rfl, hbr⟩ := hrel
          have hWr : Below w.heap.size w wr := hW.trans (hbr.mono hW.size)
          by_cases hjn : j' < 4
          · obtain ⟨op, q', n', c', fs, d0, d1, sf, rf, lf⟩ := (EL.later hbr) j' hjn
            have hjI : (j' : Int) < 4 := by omega
            cases hc : (codedP op fs).2 with
            | true =>
              have E1 := encode_at op _ fs wr (T.later hWr) sf rf hc
              go_wp2_with fail
              refine E1.mono ?_
              rintro e u1 ⟨p, rfl, hb5, hp⟩
              replace d0 := kept_cell hb5 d0
              replace d1 := kept_cell hb5 d1
              replace sf := sf.later hb5
              have hb5' := hWr.trans (hb5.mono hWr.size)
              have hbr' := hbr.trans (hb5.mono hbr.size)
              have ix := coded_size hc
              have zs := sizeP_is ix
              have lp := bytesP_length ix (codedP op fs).1
              have np : bytesP (sizeP op) (codedP op fs).1 ≠ [] := by intro h; rw [h] at lp; simp at lp; omega
              obtain ⟨pp, cp, rfl, kp, hpp⟩ := hp
              obtain ⟨bp, obp, rfl, hpc⟩ := hpp np
              clear hpp E1 hb5
              go_wp2_with fail
              refine (refEncode_yes op _ fs u1 sf rf lf hc).mono ?_
              rintro e u2 ⟨q, rfl, hb6, hq⟩
              replace d0 := kept_cell hb6 d0
              replace d1 := kept_cell hb6 d1
              replace sf := sf.later hb6
              replace hpc := fun i x hx => kept_cell hb6 (hpc i x hx)
              have hb6' := hb5'.trans (hb6.mono hb5'.size)
              have hbr2 := hbr'.trans (hb6.mono hbr'.size)
              obtain ⟨qq, cq, rfl, kq, hqq⟩ := hq
              obtain ⟨bq, obq, rfl, hqc⟩ := hqq np
              clear hqq np hb6 hb5' hbr' hWr
              have Rt : ∀ d os, Calls Tryd.prog 13 #[.agg #[.int .i64 op, .slice q' n' c']] (Go.Sort.grow (redrawn u2 d) os) fun e w'' => e = .returned (.bool true) ∧ ∃ p : Regrown, w'' = Go.Sort.grow (redrawn u2 p.d) p.os := fun d os =>
                Calls.regrown_of (by
                  have R := right_any op _ fs (Go.Sort.grow (redrawn u2 d) os) (T.later (reg_below hb6' d os)) (sf.later (below_regrown u2 d os)) rf
                  rw [hc] at R
                  exact R)
              have Rr : ∀ d os, Calls Tryd.prog 18 #[.agg #[.int .i64 op, .slice q' n' c']] (Go.Sort.grow (redrawn u2 d) os) fun e w'' => e = .returned (.bool true) ∧ ∃ p : Regrown, w'' = Go.Sort.grow (redrawn u2 p.d) p.os := fun d os =>
                Calls.regrown_of (by
                  have R := refRight_any op _ fs (Go.Sort.grow (redrawn u2 d) os) (sf.later (below_regrown u2 d os)) rf lf
                  rw [hc] at R
                  exact R)
              have g0 := cell_regrown d0
              have g1 := cell_regrown d1
              have V1 := fun d os => conv_grown (W := u2) bp obp _ cp _ (Nat.le_refl _) hpc d os
              have V2 := fun d os => conv_grown (W := u2) bq obq _ cq _ (Nat.le_refl _) hqc d os
              rw [List.take_length] at V1 V2
              generalize bytesP (sizeP op) (codedP op fs).1 = B at *
              clear hpc hqc kp kq lp zs ix sf rf lf d0 d1 EL hW hbr
              go_wp2_with fail
              refine wp_region_quiet_below (by kernel_rfl) (by kernel_rfl) ?_
              repeat (quiet_step (first | with_reducible exact Rt _ _ | with_reducible exact Rr _ _))
              refine wpQuiet_nil ?_
              intro _ hw'
              obtain ⟨⟨dq, osq⟩, hw''⟩ := hw'
              subst hw''
              go_wp2
              go_roundw
              case rel => exact ⟨j' + 1, by omega, by go_num, hbr2.trans ((below_regrown u2 dq osq).mono hbr2.size)⟩
              case measure => simp [intOf]; omega
            | false =>
              have E1 := encode_no op _ fs wr (T.later hWr) sf rf hc
              go_wp2_with fail
              refine E1.mono ?_
              rintro e u1 ⟨rfl, hb5⟩
              replace d0 := kept_cell hb5 d0
              replace d1 := kept_cell hb5 d1
              replace sf := sf.later hb5
              have hb5' := hWr.trans (hb5.mono hWr.size)
              have hbr' := hbr.trans (hb5.mono hbr.size)
              clear E1 hb5
              go_wp2_with fail
              refine (refEncode_no op _ fs u1 sf rf lf hc).mono ?_
              rintro e u2 ⟨rfl, hb6⟩
              replace d0 := kept_cell hb6 d0
              replace d1 := kept_cell hb6 d1
              replace sf := sf.later hb6
              have hb6' := hb5'.trans (hb6.mono hb5'.size)
              have hbr2 := hbr'.trans (hb6.mono hbr'.size)
              clear hb6 hb5' hbr' hWr
              have Rt : ∀ d os, Calls Tryd.prog 13 #[.agg #[.int .i64 op, .slice q' n' c']] (Go.Sort.grow (redrawn u2 d) os) fun e w'' => e = .returned (.bool false) ∧ ∃ p : Regrown, w'' = Go.Sort.grow (redrawn u2 p.d) p.os := fun d os =>
                Calls.regrown_of (by
                  have R := right_any op _ fs (Go.Sort.grow (redrawn u2 d) os) (T.later (reg_below hb6' d os)) (sf.later (below_regrown u2 d os)) rf
                  rw [hc] at R
                  exact R)
              have Rr : ∀ d os, Calls Tryd.prog 18 #[.agg #[.int .i64 op, .slice q' n' c']] (Go.Sort.grow (redrawn u2 d) os) fun e w'' => e = .returned (.bool false) ∧ ∃ p : Regrown, w'' = Go.Sort.grow (redrawn u2 p.d) p.os := fun d os =>
                Calls.regrown_of (by
                  have R := refRight_any op _ fs (Go.Sort.grow (redrawn u2 d) os) (sf.later (below_regrown u2 d os)) rf lf
                  rw [hc] at R
                  exact R)
              have g0 := cell_regrown d0
              have g1 := cell_regrown d1
              have Vn := conv_nil
              clear sf rf lf d0 d1 EL hW hbr
              go_wp2_with fail
              refine wp_region_quiet_below (by kernel_rfl) (by kernel_rfl) ?_
              repeat (quiet_step (first | with_reducible exact Rt _ _ | with_reducible exact Rr _ _))
              refine wpQuiet_nil ?_
              intro _ hw'
              obtain ⟨⟨dq, osq⟩, hw''⟩ := hw'
              subst hw''
              go_wp2
              go_roundw
              case rel => exact ⟨j' + 1, by omega, by go_num, hbr2.trans ((below_regrown u2 dq osq).mono hbr2.size)⟩
              case measure => simp [intOf]; omega
          · have hjn : j' = 4 := by omega
            subst hjn
            go_wp2
            go_ret
            exact ⟨rfl, hWr⟩
  have h0' : 0 < fx.length := by omega
  have h0I : (0 : Int) < (fx.length : Int) := by omega
  have Wi := fun W => within_any a3 fx.length (by omega) (by omega) W
  have hk : 0 ≤ a3 % (fx.length : Int) ∧ a3 % (fx.length : Int) < fx.length := ⟨Int.emod_nonneg _ (by omega), Int.emod_lt_of_pos _ (by omega)⟩
  obtain ⟨j, hjj⟩ : ∃ j : Nat, a3 % (fx.length : Int) = (j : Int) := ⟨(a3 % (fx.length : Int)).toNat, by omega⟩
  rw [hjj] at Wi hk
  have hjn : j < fx.length := by omega
  obtain ⟨m, hm21⟩ : ∃ m : Nat, a4 % 21 = (m : Int) := ⟨(a4 % 21).toNat, by omega⟩
  have hm : m < 21 := by omega
  obtain ⟨val, hval⟩ : ∃ val, (lit21 a5)[m]? = some val := ⟨_, List.getElem?_eq_getElem (by show m < 21; exact hm)⟩
  obtain ⟨ba, hba, own⟩ := ow
  obtain ⟨gx, cur, eq, q3, q4⟩ : ∃ gx cur, px = some ⟨gx, 0, none⟩ ∧ ba ≤ gx ∧ w2.heap[gx]? = some (.cells cur 3 (0, 0)) := by
    rcases own.2 with ⟨e, _⟩ | ⟨gx, cap, cur, e, r1, r2, _⟩
    · injection e with _ e _; omega
    · cases e; exact ⟨gx, cur, rfl, r1, r2⟩
  subst eq
  have hgx : gx < (w2.alloc (.cells #[.int .i64 ox, .slice (some ⟨gx, 0, none⟩) fx.length cx] 26)).heap.size := by
    have : gx < w2.heap.size := by
      by_cases hl : gx < w2.heap.size
      · exact hl
      · rw [Array.getElem?_eq_none (by omega)] at q4; cases q4
    simp; omega
  have q5 : (w2.alloc (.cells #[.int .i64 ox, .slice (some ⟨gx, 0, none⟩) fx.length cx] 26)).heap[gx]? = some (.cells cur 3 (0, 0)) := blk_alloc q4
  have fj : (w2.alloc (.cells #[.int .i64 ox, .slice (some ⟨gx, 0, none⟩) fx.length cx] 26)).frozen? ⟨gx, j, none⟩ = false := by simp [World.frozen?, q5]
  replace hx := hx.later hb3
  obtain ⟨old, cj⟩ : ∃ old, (w2.alloc (.cells #[.int .i64 ox, .slice (some ⟨gx, 0, none⟩) fx.length cx] 26)).cell? ⟨gx, j, none⟩ = some old := by
    obtain ⟨p', c', e', hc⟩ := hx
    cases e'
    obtain ⟨b, o, e, hcc⟩ := hc (by rintro rfl; simp at hjn)
    cases e
    have := hcc j _ (List.getElem?_eq_getElem hjn)
    rw [Nat.zero_add] at this
    exact ⟨_, this⟩
  have hX : gx ≠ w2.heap.size := by
    have : gx < w2.heap.size := by
      by_cases hl : gx < w2.heap.size
      · exact hl
      · rw [Array.getElem?_eq_none (by omega)] at q4; cases q4
    omega
  clear hxc own q4 hjj hk
  go_wp2_with (go_at_call 17; refine (Wi _).mono ?_; rintro e w' ⟨rfl, rfl⟩)
  generalize w2.alloc (.cells #[.int .i64 ox, .slice (some ⟨gx, 0, none⟩) fx.length cx] 26) = w3 at *
  refine region_inv (by kernel_rfl) (fun u => { tmps := #[Value.agg #[Value.int IntKind.i64 o0, Value.slice pr a0.length cr], Value.int IntKind.i64 a1, v2, Value.int IntKind.i64 a3, Value.int IntKind.i64 a4, Value.int IntKind.i64 a5, Value.pointer (some { block := w.heap.size, off := 0 }), undef, undef, undef, undef, undef, Value.bool false, Value.pointer (some { block := w2.heap.size, off := 0 }), Value.int IntKind.i64 ↑j, undef, undef, undef, undef, undef, undef, Value.bool true, Value.bool false, Value.pointer (some { block := w.heap.size, off := 1 }), Value.slice pr a0.length cr, Value.int IntKind.i64 ↑a0.length, Value.bool (decide ((20 : Int) < ↑a0.length)), Value.int IntKind.i64 a1, v2, Value.agg #[Value.int IntKind.i64 ox, Value.slice (some { block := gx, off := 0 }) fx.length cx], Value.pointer (some { block := w2.heap.size, off := 1 }), Value.slice (some { block := gx, off := 0 }) fx.length cx, Value.int IntKind.i64 ↑fx.length, Value.bool true, Value.int IntKind.i64 a3, Value.pointer (some { block := w2.heap.size, off := 1 }), Value.slice (some { block := gx, off := 0 }) fx.length cx, Value.int IntKind.i64 ↑fx.length, Value.int IntKind.i64 ↑j, u 0, u 1, u 2, u 3, u 4, u 5, u 6, u 7, u 8, u 9, undef, undef, undef, undef, undef, undef, undef, undef, undef, undef, undef, undef, undef, undef, undef, undef, undef, undef, undef, undef, undef, undef, undef, undef, undef, undef, undef, undef, undef, undef, undef, undef, undef, undef, undef, undef, undef, undef, undef, undef, undef, undef, undef, undef, undef, undef, undef, undef, undef, undef, undef, undef, undef, undef, undef, undef, undef, undef, undef, undef, undef, undef, undef, undef, undef, undef, undef, undef, undef, undef, undef, undef, undef, undef, undef, undef, undef], defers := [] }) (KE w3 gx w2.heap.size j m a4 a5 val (.slice (some ⟨gx, 0, none⟩) fx.length cx)) (by kernel_rfl) (fun _ => undef) ?_ ?_ ?_
  · exact .inl ⟨rfl, ⟨rfl, rfl, rfl, Nat.le_refl _, fun _ _ => rfl⟩, nofun, nofun, nofun, nofun, nofun, nofun, nofun, nofun, nofun, nofun⟩
  · intro i o L u W ho hL hp hI
    have hi : i < 11 := by
      by_cases hi : i < 11
      · exact hi
      · rw [Array.getElem?_eq_none (by simp; omega)] at ho; cases ho
    rcases hI with ⟨n10, hB, h0, h1, h2, h3, h4, h5, h6, h7, h8, h9⟩ | ⟨hall, _⟩
    · have hBs : w3.heap.size ≤ W.heap.size := hB.size
      replace x1 := kept_cell hB x1
      have n10' : ∀ i, i ≠ 10 → updL L i 10 = false := fun i hi => by simp [updL, Ne.symm hi, n10]
      match i, hi with
      | 0, _ =>
        cases ho
        exact step_value rfl rfl (run_field1 _ _ _ _ w2.heap.size rfl rfl) ⟨_, rfl, .inl ⟨n10' _ (by decide), hB, fun _ => rfl, h1, h2, h3, h4, h5, h6, h7, h8, h9⟩⟩
      | 1, _ =>
        cases ho
        have p0 : L 0 = true := hp ⟨0, Ground.data⟩ (by simp) rfl
        exact step_value rfl rfl (run_loadInts _ _ _ _ _ _ _ _ rfl (h0 p0) x1) ⟨_, rfl, .inl ⟨n10' _ (by decide), hB, h0, fun _ => rfl, h2, h3, h4, h5, h6, h7, h8, h9⟩⟩
      | 2, _ =>
        cases ho
        exact step_value rfl rfl (run_move _ _ _ _ (.int .i64 (j : Int)) rfl rfl) ⟨_, rfl, .inl ⟨n10' _ (by decide), hB, h0, h1, fun _ => rfl, h3, h4, h5, h6, h7, h8, h9⟩⟩
      | 3, _ =>
        cases ho
        exact step_value rfl rfl (run_move _ _ _ _ (.int .i64 a5) rfl rfl) ⟨_, rfl, .inl ⟨n10' _ (by decide), hB, h0, h1, h2, fun _ => rfl, h4, h5, h6, h7, h8, h9⟩⟩
      | 4, _ =>
        cases ho
        have p3 : L 3 = true := hp ⟨3, Ground.data⟩ (by simp) rfl
        have hal := (Below.refl W.heap.size W).alloc (Nat.le_refl _) (.cells ((lit21 a5).map fun y => Value.int .i64 y).toArray 3)
        exact step_value rfl rfl (run_build21 _ _ _ _ a5 rfl (h3 p3)) ⟨_, rfl, .inl ⟨n10' _ (by decide), hB.alloc hBs _, h0, h1, h2, h3, fun _ => ⟨_, rfl, fun i x hx => new_cell _ i _ (by simp [hx])⟩, h5, h6, fun a => AtNum.later (h7 a) hal, h8, h9⟩⟩
      | 5, _ =>
        cases ho
        exact step_value rfl rfl (run_move _ _ _ _ (.int .i64 a4) rfl rfl) ⟨_, rfl, .inl ⟨n10' _ (by decide), hB, h0, h1, h2, h3, h4, fun _ => rfl, h6, h7, h8, h9⟩⟩
      | 6, _ =>
        cases ho
        have p5 : L 5 = true := hp ⟨5, Ground.data⟩ (by simp) rfl
        refine step_called (R := fun v' w' => v' = .int .i64 (m : Int) ∧ w' = W) rfl rfl (run_callWithin _ _ _ _ a4 21 _ rfl (h5 p5)) ((within_any a4 21 (by omega) (by omega) W).mono fun e w' h => ⟨_, h.2, by rw [hm21], h.1.symm⟩) ?_
        rintro _ w' ⟨rfl, rfl⟩
        exact ⟨_, rfl, .inl ⟨n10' _ (by decide), hB, h0, h1, h2, h3, h4, h5, fun _ => rfl, h7, h8, h9⟩⟩
      | 7, _ =>
        cases ho
        have p4 : L 4 = true := hp ⟨4, Ground.data⟩ (by simp) rfl
        have p6 : L 6 = true := hp ⟨6, Ground.data⟩ (by simp) rfl
        obtain ⟨g, e4, hc4⟩ := h4 p4
        exact step_value rfl rfl (run_indexInts _ _ _ _ _ g 21 21 m rfl e4 (h6 p6) hm) ⟨_, rfl, .inl ⟨n10' _ (by decide), hB, h0, h1, h2, h3, h4, h5, h6, fun _ => ⟨g, rfl, hc4 m val hval⟩, h8, h9⟩⟩
      | 8, _ =>
        cases ho
        have p7 : L 7 = true := hp ⟨7, Ground.data⟩ (by simp) rfl
        obtain ⟨g, e7, hc7⟩ := h7 p7
        exact step_value rfl rfl (run_loadInt _ _ _ _ _ val rfl e7 hc7) ⟨_, rfl, .inl ⟨n10' _ (by decide), hB, h0, h1, h2, h3, h4, h5, h6, h7, fun _ => rfl, h9⟩⟩
      | 9, _ =>
        cases ho
        have p1 : L 1 = true := hp ⟨1, Ground.data⟩ (by simp) rfl
        have p2 : L 2 = true := hp ⟨2, Ground.data⟩ (by simp) rfl
        exact step_value rfl rfl (run_indexInts _ _ _ _ _ gx fx.length cx j rfl (h1 p1) (h2 p2) hjn) ⟨_, rfl, .inl ⟨n10' _ (by decide), hB, h0, h1, h2, h3, h4, h5, h6, h7, h8, fun _ => rfl⟩⟩
      | 10, _ =>
        cases ho
        have p9 : L 9 = true := hp ⟨9, Ground.data⟩ (by simp) rfl
        have p8 : L 8 = true := hp ⟨8, Ground.data⟩ (by simp) rfl
        have pa : ∀ i, i < 9 → L i = true := by
          intro i hi
          match i, hi with
          | 0, _ => exact hp ⟨0, Ground.phase⟩ (by simp) rfl
          | 1, _ => exact hp ⟨1, Ground.phase⟩ (by simp) rfl
          | 2, _ => exact hp ⟨2, Ground.phase⟩ (by simp) rfl
          | 3, _ => exact hp ⟨3, Ground.phase⟩ (by simp) rfl
          | 4, _ => exact hp ⟨4, Ground.phase⟩ (by simp) rfl
          | 5, _ => exact hp ⟨5, Ground.phase⟩ (by simp) rfl
          | 6, _ => exact hp ⟨6, Ground.phase⟩ (by simp) rfl
          | 7, _ => exact hp ⟨7, Ground.phase⟩ (by simp) rfl
          | 8, _ => exact p8
        refine step_skip rfl rfl (run_storeInt _ _ _ _ _ _ val old rfl (h9 p9) (h8 p8) (kept_cell hB cj) (kept_thawed hB hgx fj)) ⟨undef, rfl, .inr ⟨?_, W, hB, rfl⟩⟩
        intro i hi
        by_cases h10 : i = 10
        · subst h10; exact updL_same _ _
        · rw [updL_other _ _ _ h10]
          by_cases h9' : i = 9
          · subst h9'; exact p9
          · exact pa i (by omega)
    · exact (no_ft (hall i hi) hL).elim
  · intro L u W hL hI
    rcases hI with ⟨n10, _⟩ | ⟨_, W0, hB, rfl⟩
    · exact (no_ft (hL 10 (by decide)) n10).elim
    · have hw01 : w.heap.size < w1.heap.size := block_lt_of_cell r0
      have hg1 : w1.heap.size ≤ gx := Nat.le_trans hba q3
      have hb3' := hb1.trans ((hb2.trans (hb3.mono hb2.size)).mono hb1.size)
      have hV : Below w.heap.size w (W0.setCell ⟨gx, j, none⟩ (.int .i64 val)) := (hb3'.trans (hB.mono hb3'.size)).setCell (show w.heap.size ≤ gx by omega) _
      replace r0 := cell_far (j := j) (u := .int .i64 val) (show w.heap.size ≠ gx by omega) (kept_cell hB (kept_cell hb3 (kept_cell hb2 r0)))
      replace r1 := cell_far (j := j) (u := .int .i64 val) (show w.heap.size ≠ gx by omega) (kept_cell hB (kept_cell hb3 (kept_cell hb2 r1)))
      replace x0 := cell_far (j := j) (u := .int .i64 val) (Ne.symm hX) (kept_cell hB x0)
      replace x1 := cell_far (j := j) (u := .int .i64 val) (Ne.symm hX) (kept_cell hB x1)
      replace sr := slice_set_far (u := .int .i64 val) (g := gx) (j := j) s0 (hb3'.trans (hB.mono hb3'.size)) (by omega)
      replace hx := slice_set (v := val) hjn rfl (hx.later hB)
      have gy := set_range (j := j) gx' (lit21_range a5 (bounds_i64 w5).1 (bounds_i64 w5).2 val (List.mem_of_getElem? hval))
      have ly : Hid ((fx.set j val).length = fx.length) := List.length_set
      have ly3 : Hid ((fx.set j val).length ≤ 3) := by show _ ≤ _; rw [List.length_set]; exact l3
      clear hB hb3' hb1 hb2 hb3 q5 fj cj s0 sn hval hm21 Wi
      generalize W0.setCell ⟨gx, j, none⟩ (.int .i64 val) = V at *
      generalize fx.set j val = fy at *
      dsimp only
      generalize u 0 = t0
      generalize u 1 = t1
      generalize u 2 = t2
      generalize u 3 = t3
      generalize u 4 = t4
      generalize u 5 = t5
      generalize u 6 = t6
      generalize u 7 = t7
      generalize u 8 = t8
      generalize u 9 = t9
      go_wp2_with fail
      refine region_inv (by kernel_rfl) (fun u => { tmps := #[Value.agg #[Value.int IntKind.i64 o0, Value.slice pr a0.length cr], Value.int IntKind.i64 a1, v2, Value.int IntKind.i64 a3, Value.int IntKind.i64 a4, Value.int IntKind.i64 a5, Value.pointer (some { block := w.heap.size, off := 0 }), undef, undef, undef, undef, undef, Value.bool false, Value.pointer (some { block := w2.heap.size, off := 0 }), Value.int IntKind.i64 ↑j, u 14, undef, undef, undef, undef, undef, Value.bool true, Value.bool false, Value.pointer (some { block := w.heap.size, off := 1 }), Value.slice pr a0.length cr, Value.int IntKind.i64 ↑a0.length, Value.bool (decide ((20 : Int) < ↑a0.length)), Value.int IntKind.i64 a1, v2, Value.agg #[Value.int IntKind.i64 ox, Value.slice (some { block := gx, off := 0 }) fx.length cx], Value.pointer (some { block := w2.heap.size, off := 1 }), Value.slice (some { block := gx, off := 0 }) fx.length cx, Value.int IntKind.i64 ↑fx.length, Value.bool true, Value.int IntKind.i64 a3, Value.pointer (some { block := w2.heap.size, off := 1 }), Value.slice (some { block := gx, off := 0 }) fx.length cx, Value.int IntKind.i64 ↑fx.length, Value.int IntKind.i64 ↑j, t0, t1, t2, t3, t4, t5, t6, t7, t8, t9, undef, undef, undef, undef, undef, undef, undef, undef, undef, u 0, u 1, u 2, u 3, u 4, u 5, u 6, u 7, u 8, u 9, u 10, u 11, u 12, u 13, undef, undef, undef, undef, undef, undef, undef, undef, undef, undef, undef, undef, undef, undef, undef, undef, undef, undef, undef, undef, undef, undef, undef, undef, undef, undef, undef, undef, undef, undef, undef, undef, undef, undef, undef, undef, undef, undef, undef, undef, undef, undef, undef, undef, undef, undef, undef, undef, undef, undef, undef, undef, undef, undef], defers := [] }) (KL V w.heap.size w2.heap.size o0 ox a5 pr (some ⟨gx, 0, none⟩) a0.length cr fx.length cx (fy.map fun x => Value.int .i64 x)) (by kernel_rfl) (fun _ => undef) ?_ ?_ ?_
      · exact ⟨⟨rfl, rfl, rfl, Nat.le_refl _, fun _ _ => rfl⟩, nofun, nofun, nofun, nofun, nofun, nofun, nofun, nofun, nofun, nofun, nofun, nofun, nofun, nofun, nofun⟩
      · intro i o L u W ho hL hp hI
        obtain ⟨hB, h0, h1, h2, h3, h4, h5, h6, h7, h8, h9, h10, h11, h12, h13, h14⟩ := hI
        have hi : i < 15 := by
          by_cases hi : i < 15
          · exact hi
          · rw [Array.getElem?_eq_none (by simp; omega)] at ho; cases ho
        have hBs : V.heap.size ≤ W.heap.size := hB.size
        replace r0 := kept_cell hB r0
        replace r1 := kept_cell hB r1
        replace x0 := kept_cell hB x0
        replace x1 := kept_cell hB x1
        replace hx := hx.later hB
        match i, hi with
        | 0, _ =>
          cases ho
          exact step_value rfl rfl (run_loadInst _ _ _ _ w.heap.size o0 pr a0.length cr rfl rfl r0 r1) ⟨_, rfl, hB, fun _ => rfl, h1, h2, h3, h4, h5, h6, h7, h8, h9, h10, h11, h12, h13, h14⟩
        | 1, _ =>
          cases ho
          exact step_value rfl rfl (run_loadInst _ _ _ _ w2.heap.size ox (some ⟨gx, 0, none⟩) fx.length cx rfl rfl x0 x1) ⟨_, rfl, hB, h0, fun _ => rfl, h2, h3, h4, h5, h6, h7, h8, h9, h10, h11, h12, h13, h14⟩
        | 2, _ =>
          cases ho
          exact step_value rfl rfl (run_field0 _ _ _ _ w2.heap.size rfl rfl) ⟨_, rfl, hB, h0, h1, fun _ => rfl, h3, h4, h5, h6, h7, h8, h9, h10, h11, h12, h13, h14⟩
        | 3, _ =>
          cases ho
          have p2 : L 2 = true := hp ⟨2, Ground.data⟩ (by simp) rfl
          exact step_value rfl rfl (run_loadInt _ _ _ _ _ ox rfl (h2 p2) x0) ⟨_, rfl, hB, h0, h1, h2, fun _ => rfl, h4, h5, h6, h7, h8, h9, h10, h11, h12, h13, h14⟩
        | 4, _ =>
          cases ho
          refine step_value rfl rfl (run_build0 _ _ _ rfl) ⟨_, rfl, hB.alloc hBs _, h0, h1, h2, h3, fun _ _ => ⟨_, rfl, hBs, new_block _ _ _⟩, h5, h6, fun a b => (h7 a b).alloc _, fun a b => blkOne (h8 a b), fun a => ⟨(h9 a).1, (h9 a).2.alloc _⟩, h10, h11, h12, fun a => ⟨(h13 a).1, blkIn (h13 a).2⟩, h14⟩
        | 5, _ =>
          cases ho
          exact step_value rfl rfl (run_field1 _ _ _ _ w2.heap.size rfl rfl) ⟨_, rfl, hB, h0, h1, h2, h3, h4, fun _ => rfl, h6, h7, h8, h9, h10, h11, h12, h13, h14⟩
        | 6, _ =>
          cases ho
          have p5 : L 5 = true := hp ⟨5, Ground.data⟩ (by simp) rfl
          exact step_value rfl rfl (run_loadInts _ _ _ _ _ (some ⟨gx, 0, none⟩) fx.length cx rfl (h5 p5) x1) ⟨_, rfl, hB, h0, h1, h2, h3, h4, h5, fun _ => rfl, h7, h8, h9, h10, h11, h12, h13, h14⟩
        | 7, _ =>
          cases ho
          have p4 : L 4 = true := hp ⟨4, Ground.data⟩ (by simp) rfl
          have p6 : L 6 = true := hp ⟨6, Ground.data⟩ (by simp) rfl
          obtain ⟨g, e4, q1, q2⟩ := h4 p4 hL
          refine step_app rfl rfl (.tmp 62) (.tmp 64) 22 rfl 3 (.int .i64 0) 8 Tryd.underlying22 info_int rfl V.heap.size _ [] e4 (row_nil q1 q2) _ (fy.map fun x => Value.int .i64 x) (h6 p6) (holds_ints hx) (by simp [Value.oneCell']) (by have := ly3.out; simp; unfold maxLen; omega) (by have := ly3.out; simp; omega) hBs ?_
          intro v' w' hown hg
          rw [List.nil_append] at hown
          have n9 : ¬ L 9 = true := fun a => no_ft (h9 a).1 hL
          refine ⟨v', rfl, below_grown hB hBs hg (by simp [Value.ownBlock]; omega), h0, h1, h2, h3, fun _ b => by simp [updL] at b, h5, h6, fun _ _ => hown, ?_, fun a => absurd a n9, fun a => absurd (h10 a).1 n9, h11, h12, fun a => absurd (h13 a).1 n9, h14⟩
          intro a b
          obtain ⟨g8, e8, r1', r2'⟩ := h8 a b
          refine ⟨g8, e8, r1', blk_kept r2' hg ?_⟩
          simp only [Value.ownBlock, ne_eq, Option.some.injEq]
          rintro rfl
          rw [q2] at r2'
          simp at r2'
        | 8, _ =>
          cases ho
          exact step_value rfl rfl (run_build1 _ _ _ 0 rfl) ⟨_, rfl, hB.alloc hBs _, h0, h1, h2, h3, fun a b => blkNil (h4 a b), h5, h6, fun a b => (h7 a b).alloc _, fun _ _ => ⟨_, rfl, hBs, new_block _ _ _⟩, fun a => ⟨(h9 a).1, (h9 a).2.alloc _⟩, h10, h11, h12, fun a => ⟨(h13 a).1, blkIn (h13 a).2⟩, h14⟩
        | 9, _ =>
          cases ho
          have p7 : L 7 = true := hp ⟨7, Ground.data⟩ (by simp) rfl
          have p8 : L 8 = true := hp ⟨8, Ground.data⟩ (by simp) rfl
          obtain ⟨g, e8, q1, q2⟩ := h8 p8 hL
          have own7 := h7 p7 hL
          refine step_app rfl rfl (.tmp 65) (.tmp 66) 22 rfl 3 (.int .i64 0) 8 Tryd.underlying22 info_int rfl V.heap.size _ (fy.map fun x => Value.int .i64 x) rfl own7 _ [Value.int .i64 0] e8 ⟨_, _, rfl, fun _ => ⟨g, 0, rfl, fun i u hu => by rw [Nat.zero_add]; simp [World.cell?, q2, hu]⟩⟩ (by simp [Value.oneCell']) (by have := ly3.out; simp; unfold maxLen; omega) (by have := ly3.out; simp; omega) hBs ?_
          intro v' w' hown hg
          refine ⟨v', rfl, below_grown hB hBs hg (fun j hj => (own7.lt j hj).1), h0, h1, h2, h3, fun _ b => (no_ft p7 b).elim, h5, h6, fun _ b => by simp [updL] at b, fun _ b => by simp [updL] at b, fun _ => ⟨p7, hown⟩, fun a => (no_ft (h10 a).1 hL).elim, h11, h12, fun a => (no_ft (h13 a).1 hL).elim, h14⟩
        | 10, _ =>
          cases ho
          have p3 : L 3 = true := hp ⟨3, Ground.data⟩ (by simp) rfl
          have p9 : L 9 = true := hp ⟨9, Ground.data⟩ (by simp) rfl
          obtain ⟨q, c, e9, _⟩ := row_form (h9 p9).2
          refine step_value rfl rfl (run_buildInst _ _ _ _ _ ox q _ c rfl (h3 p3) e9) ⟨_, rfl, hB, h0, h1, h2, h3, h4, h5, h6, h7, h8, h9, fun _ => ⟨p9, ?_⟩, h11, h12, h13, h14⟩
          show Value.agg _ = Value.agg #[_, u 9]
          rw [e9]
        | 11, _ =>
          cases ho
          exact step_value rfl rfl (run_move _ _ _ _ (.int .i64 a5) rfl rfl) ⟨_, rfl, hB, h0, h1, h2, h3, h4, h5, h6, h7, h8, h9, h10, fun _ => rfl, h12, h13, h14⟩
        | 12, _ =>
          cases ho
          have p11 : L 11 = true := hp ⟨11, Ground.data⟩ (by simp) rfl
          exact step_value rfl rfl (run_buildInst1 _ _ _ _ a5 rfl (h11 p11)) ⟨_, rfl, hB, h0, h1, h2, h3, h4, h5, h6, h7, h8, h9, h10, h11, fun _ => rfl, h13, h14⟩
        | 13, _ =>
          cases ho
          have p0 : L 0 = true := hp ⟨0, Ground.data⟩ (by simp) rfl
          have p1 : L 1 = true := hp ⟨1, Ground.data⟩ (by simp) rfl
          have p10 : L 10 = true := hp ⟨10, Ground.data⟩ (by simp) rfl
          have p12 : L 12 = true := hp ⟨12, Ground.data⟩ (by simp) rfl
          have p9 := (h10 p10).1
          obtain ⟨q, c, e9, _⟩ := row_form (h9 p9).2
          have e10 : u 10 = .agg #[.int .i64 ox, .slice q ((fy.map fun x => Value.int .i64 x) ++ [Value.int .i64 0]).length c] := by rw [(h10 p10).2, e9]
          refine step_value rfl rfl (run_buildInsts _ _ _ _ _ _ _ o0 ox ox a5 pr (some ⟨gx, 0, none⟩) q none a0.length fx.length _ 0 cr cx c 0 rfl (h0 p0) (h1 p1) e10 (h12 p12)) ⟨_, rfl, hB.alloc hBs _, h0, h1, h2, h3, fun a b => blkNil (h4 a b), h5, h6, fun a b => (h7 a b).alloc _, fun a b => blkOne (h8 a b), fun a => ⟨(h9 a).1, (h9 a).2.alloc _⟩, h10, h11, h12, fun _ => ⟨p9, _, rfl, hBs, ?_⟩, ?_⟩
          · show (World.alloc _ _).heap[_]? = some (Obj.cells #[_, _, _, _, _, u 9, _, _] _ _)
            rw [e9]
            exact new_block _ _ _
          · intro a
            exact (no_ft (h14 a).1 hL).elim
        | 14, _ =>
          cases ho
          have p13 : L 13 = true := hp ⟨13, Ground.data⟩ (by simp) rfl
          obtain ⟨_, g, e13, _⟩ := h13 p13
          refine step_value rfl rfl (run_assign _ _ _ _ _ rfl e13) ⟨_, rfl, hB, h0, h1, h2, h3, h4, h5, h6, h7, h8, h9, h10, h11, h12, h13, fun _ => ⟨p13, ?_⟩⟩
          exact e13.symm
      · intro L u W hL hI
        obtain ⟨hB, h0, h1, h2, h3, h4, h5, h6, h7, h8, h9, h10, h11, h12, h13, h14⟩ := hI
        obtain ⟨_, g, e13, q1, q2⟩ := h13 (hL 13 (by decide))
        have e14 := (h14 (hL 14 (by decide))).2
        have own := (h9 (hL 9 (by decide))).2
        have sy : SliceIs W (u 9) (fy ++ [0]) := slice_of_row (by
          have e : ((fy ++ [0]).map fun x => Value.int .i64 x) = (fy.map fun x => Value.int .i64 x) ++ [Value.int .i64 0] := by simp
          rw [e]
          have e2 : (fy ++ [0]).length = ((fy.map fun x => Value.int .i64 x) ++ [Value.int .i64 0]).length := by simp
          rw [e2]
          exact own)
        obtain ⟨q, c, e9, _⟩ := row_form own
        rw [e9] at q2 sy
        have EL : Insts W g := insts_of q2 (sr.later hB) w0 l0 (hx.later hB) gy (by have := ly3.out; unfold maxLen; omega) sy (by
          intro x hx
          rcases List.mem_append.1 hx with h | h
          · exact gy x h
          · simp at h; omega) (by have := ly3.out; simp; unfold maxLen; omega)
        have hW := hV.trans (hB.mono hV.size)
        rw [e13] at e14
        dsimp only
        rw [e13, e14]
        clear h0 h1 h2 h3 h4 h5 h6 h7 h8 h9 h10 h11 h12 h13 h14 own e9 q2 sy e13 e14 hL r0 r1 x0 x1 hx sr gy ly ly3 hV hB q1 q3 hg1 hw01 hX hgx hjn hm hba hl' hlen h0I h0' gx' kx
        generalize u 0 = s0
        generalize u 1 = s1
        generalize u 2 = s2
        generalize u 3 = s3
        generalize u 4 = s4
        generalize u 5 = s5
        generalize u 6 = s6
        generalize u 7 = s7
        generalize u 8 = s8
        generalize u 9 = s9
        generalize u 10 = s10
        generalize u 11 = s11
        generalize u 12 = s12
        go_wp2_with fail
        go_loopw [16] (fun i wr => ∃ j : Nat, j ≤ 4 ∧ i = .int .i64 j ∧ Below W.heap.size W wr) (fun i _ => 4 - (intOf i).toNat)
        case atStart => exact ⟨0, by omega, rfl, Below.refl _ _⟩
        case round =>
          obtain ⟨j', hj', rfl, hbr⟩ := hrel
          have hWr : Below w.heap.size w wr := hW.trans (hbr.mono hW.size)
          by_cases hjn : j' < 4
          · obtain ⟨op, q', n', c', fs, d0, d1, sf, rf, lf⟩ := (EL.later hbr) j' hjn
            have hjI : (j' : Int) < 4 := by omega
            cases hc : (codedP op fs).2 with
            | true =>
              have E1 := encode_at op _ fs wr (T.later hWr) sf rf hc
              go_wp2_with fail
              refine E1.mono ?_
              rintro e u1 ⟨p, rfl, hb5, hp⟩
              replace d0 := kept_cell hb5 d0
              replace d1 := kept_cell hb5 d1
              replace sf := sf.later hb5
              have hb5' := hWr.trans (hb5.mono hWr.size)
              have hbr' := hbr.trans (hb5.mono hbr.size)
              have ix := coded_size hc
              have zs := sizeP_is ix
              have lp := bytesP_length ix (codedP op fs).1
              have np : bytesP (sizeP op) (codedP op fs).1 ≠ [] := by intro h; rw [h] at lp; simp at lp; omega
              obtain ⟨pp, cp, rfl, kp, hpp⟩ := hp
              obtain ⟨bp, obp, rfl, hpc⟩ := hpp np
              clear hpp E1 hb5
              go_wp2_with fail
              refine (refEncode_yes op _ fs u1 sf rf lf hc).mono ?_
              rintro e u2 ⟨q, rfl, hb6, hq⟩
              replace d0 := kept_cell hb6 d0
              replace d1 := kept_cell hb6 d1
              replace sf := sf.later hb6
              replace hpc := fun i x hx => kept_cell hb6 (hpc i x hx)
              have hb6' := hb5'.trans (hb6.mono hb5'.size)
              have hbr2 := hbr'.trans (hb6.mono hbr'.size)
              obtain ⟨qq, cq, rfl, kq, hqq⟩ := hq
              obtain ⟨bq, obq, rfl, hqc⟩ := hqq np
              clear hqq np hb6 hb5' hbr' hWr
              have Rt : ∀ d os, Calls Tryd.prog 13 #[.agg #[.int .i64 op, .slice q' n' c']] (Go.Sort.grow (redrawn u2 d) os) fun e w'' => e = .returned (.bool true) ∧ ∃ p : Regrown, w'' = Go.Sort.grow (redrawn u2 p.d) p.os := fun d os =>
                Calls.regrown_of (by
                  have R := right_any op _ fs (Go.Sort.grow (redrawn u2 d) os) (T.later (reg_below hb6' d os)) (sf.later (below_regrown u2 d os)) rf
                  rw [hc] at R
                  exact R)
              have Rr : ∀ d os, Calls Tryd.prog 18 #[.agg #[.int .i64 op, .slice q' n' c']] (Go.Sort.grow (redrawn u2 d) os) fun e w'' => e = .returned (.bool true) ∧ ∃ p : Regrown, w'' = Go.Sort.grow (redrawn u2 p.d) p.os := fun d os =>
                Calls.regrown_of (by
                  have R := refRight_any op _ fs (Go.Sort.grow (redrawn u2 d) os) (sf.later (below_regrown u2 d os)) rf lf
                  rw [hc] at R
                  exact R)
              have g0 := cell_regrown d0
              have g1 := cell_regrown d1
              have V1 := fun d os => conv_grown (W := u2) bp obp _ cp _ (Nat.le_refl _) hpc d os
              have V2 := fun d os => conv_grown (W := u2) bq obq _ cq _ (Nat.le_refl _) hqc d os
              rw [List.take_length] at V1 V2
              generalize bytesP (sizeP op) (codedP op fs).1 = B at *
              clear hpc hqc kp kq lp zs ix sf rf lf d0 d1 EL hW hbr
              go_wp2_with fail
              refine wp_region_quiet_below (by kernel_rfl) (by kernel_rfl) ?_
              repeat (quiet_step (first | with_reducible exact Rt _ _ | with_reducible exact Rr _ _))
              refine wpQuiet_nil ?_
              intro _ hw'
              obtain ⟨⟨dq, osq⟩, hw''⟩ := hw'
              subst hw''
              go_wp2
              go_roundw
              case rel => exact ⟨j' + 1, by omega, by go_num, hbr2.trans ((below_regrown u2 dq osq).mono hbr2.size)⟩
              case measure => simp [intOf]; omega
            | false =>
              have E1 := encode_no op _ fs wr (T.later hWr) sf rf hc
              go_wp2_with fail
              refine E1.mono ?_
              rintro e u1 ⟨rfl, hb5⟩
              replace d0 := kept_cell hb5 d0
              replace d1 := kept_cell hb5 d1
              replace sf := sf.later hb5
              have hb5' := hWr.trans (hb5.mono hWr.size)
              have hbr' := hbr.trans (hb5.mono hbr.size)
              clear E1 hb5
              go_wp2_with fail
              refine (refEncode_no op _ fs u1 sf rf lf hc).mono ?_
              rintro e u2 ⟨rfl, hb6⟩
              replace d0 := kept_cell hb6 d0
              replace d1 := kept_cell hb6 d1
              replace sf := sf.later hb6
              have hb6' := hb5'.trans (hb6.mono hb5'.size)
              have hbr2 := hbr'.trans (hb6.mono hbr'.size)
              clear hb6 hb5' hbr' hWr
              have Rt : ∀ d os, Calls Tryd.prog 13 #[.agg #[.int .i64 op, .slice q' n' c']] (Go.Sort.grow (redrawn u2 d) os) fun e w'' => e = .returned (.bool false) ∧ ∃ p : Regrown, w'' = Go.Sort.grow (redrawn u2 p.d) p.os := fun d os =>
                Calls.regrown_of (by
                  have R := right_any op _ fs (Go.Sort.grow (redrawn u2 d) os) (T.later (reg_below hb6' d os)) (sf.later (below_regrown u2 d os)) rf
                  rw [hc] at R
                  exact R)
              have Rr : ∀ d os, Calls Tryd.prog 18 #[.agg #[.int .i64 op, .slice q' n' c']] (Go.Sort.grow (redrawn u2 d) os) fun e w'' => e = .returned (.bool false) ∧ ∃ p : Regrown, w'' = Go.Sort.grow (redrawn u2 p.d) p.os := fun d os =>
                Calls.regrown_of (by
                  have R := refRight_any op _ fs (Go.Sort.grow (redrawn u2 d) os) (sf.later (below_regrown u2 d os)) rf lf
                  rw [hc] at R
                  exact R)
              have g0 := cell_regrown d0
              have g1 := cell_regrown d1
              have Vn := conv_nil
              clear sf rf lf d0 d1 EL hW hbr
              go_wp2_with fail
              refine wp_region_quiet_below (by kernel_rfl) (by kernel_rfl) ?_
              repeat (quiet_step (first | with_reducible exact Rt _ _ | with_reducible exact Rr _ _))
              refine wpQuiet_nil ?_
              intro _ hw'
              obtain ⟨⟨dq, osq⟩, hw''⟩ := hw'
              subst hw''
              go_wp2
              go_roundw
              case rel => exact ⟨j' + 1, by omega, by go_num, hbr2.trans ((below_regrown u2 dq osq).mono hbr2.size)⟩
              case measure => simp [intOf]; omega
          · have hjn : j' = 4 := by omega
            subst hjn
            go_wp2
            go_ret
            exact ⟨rfl, hWr⟩

/-! ### The row's step -/
set_option maxRecDepth 100000 in
theorem lifted (os : Os) (started : os.Started) (H : Type) (enc : TypeId × Value → H) :
    ReturnsInHanded {} Tryd.checked os 4 .any (fun w args => (Rows.isaRightSpec.pre enc Tryd.prog Tryd.f4 [] false w args ∧ laidMetH Tryd.prog laid4 w) ∧ sizedMet enc Tryd.prog Tryd.f4 (OpenSpec.ofChange Rows.isaRightSpec) false w args)
      (Rows.isaRightSpec.post enc Tryd.prog Tryd.f4 false true false false) := by
  refine returnsInHanded_of_change_and (C := Tryd.checked) (X := fun w _ => laidMetH Tryd.prog laid4 w) (fun _ _ _ hh h => h.of_heap hh) own started (by kernel_rfl) Tryd.func4
    (ChangeSpec.witness_shaped (enc := enc) (C := Tryd.checked) (os := os) (X := fun w _ => laidMetH Tryd.prog laid4 w) false (World.doorLaid Tryd.prog 400 os) #[.agg #[.int .i64 0, .slice none 0 0], .int .i64 0, .slice none 0 0, .int .i64 0, .int .i64 0, .int .i64 0] 8 rfl (World.shaped_of_RefB (by kernel_rfl) (by kernel_rfl)) (by kernel_rfl) (by kernel_rfl) (by kernel_rfl) (door_met os _)) ?_
  intro W base args ds gs before hval0 hW _ _ hL _
  have hval : ∀ (j : Nat) t v, Tryd.f4.params[j]? = some t → args[j]? = some v → Value.okWide Tryd.prog W .any base t v := hval0
  have hW' := hW
  obtain ⟨p, q, hA0, hV, rfl, hfz, hnd⟩ := hW
  have hA : DataW.TrodAll enc Tryd.prog W 0 (fun _ => true) true Tryd.f4.params.toList args.toList ds p := hA0
  rw [Tryd.params4] at hA hval
  obtain ⟨v0, vs0, d0, ds0, p0, q0, hargs, rfl, rfl, h0, r0⟩ := trodAll_cons hA
  obtain ⟨v1, vs1, d1, ds1, p1, q1, rfl, rfl, rfl, h1, r1⟩ := trodAll_cons r0
  obtain ⟨v2, vs2, d2, ds2, p2, q2, rfl, rfl, rfl, h2, r2⟩ := trodAll_cons r1
  obtain ⟨v3, vs3, d3, ds3, p3, q3, rfl, rfl, rfl, h3, r3⟩ := trodAll_cons r2
  obtain ⟨v4, vs4, d4, ds4, p4, q4, rfl, rfl, rfl, h4, r4⟩ := trodAll_cons r3
  obtain ⟨v5, vs5, d5, ds5, p5, q5, rfl, rfl, rfl, h5, r5⟩ := trodAll_cons r4
  obtain ⟨rfl, rfl, rfl⟩ := trodAll_nil r5
  obtain rfl : args = #[v0, v1, v2, v3, v4, v5] := by cases args; simp_all
  obtain ⟨rfl, rfl⟩ := trodVars_none hV
  have k0 := h0
  obtain ⟨o0, u0, a0, e0, b0, s0, w0, l0⟩ := open_inst (hval 0 26 v0 rfl rfl) h0
  obtain ⟨a1, rfl, rfl, rfl, w1⟩ := open_int Tryd.underlying3 (hval 1 3 v1 rfl rfl) h1
  have k2 := h2
  obtain ⟨a2, s2, w2, l2⟩ := open_ints' (hval 2 22 v2 rfl rfl) h2
  obtain ⟨a3, rfl, rfl, rfl, w3⟩ := open_int Tryd.underlying3 (hval 3 3 v3 rfl rfl) h3
  obtain ⟨a4, rfl, rfl, rfl, w4⟩ := open_int Tryd.underlying3 (hval 4 3 v4 rfl rfl) h4
  obtain ⟨a5, rfl, rfl, rfl, w5⟩ := open_int Tryd.underlying3 (hval 5 3 v5 rfl rfl) h5
  clear hA0 hval0
  simp only [List.append_nil, List.nil_append] at hW'
  have hlt : ∀ x ∈ p0 ++ p2, x.block < W.heap.size := fun x hx => by simpa using hW'.lt x (by simpa [or_assoc] using hx)
  refine (walk v0 o0 u0 a0 e0 b0 w0 l0 a1 w1 v2 a2 w2 l2 a3 w3 a4 w4 a5 w5 W (tab_of_laid hL) s0 s2).mono fun e W' ⟨he, hg⟩ => ?_
  subst he
  exact ⟨_, rfl, _, _, _, [], _, [], hW', (trodAll_cons_mk (shut_bool Tryd.underlying4 _) trodAll_mk0), (trodAll_cons_mk (Below.trod laidOut (by kernel_rfl) (of_decide_eq_true (by kernel_rfl)) k0 hg (fun x hx => hlt x (by simp [hx]))) (trodAll_cons_mk (shut_int Tryd.underlying3 w1) (trodAll_cons_mk (Below.trod laidOut (by kernel_rfl) (of_decide_eq_true (by kernel_rfl)) k2 hg (fun x hx => hlt x (by simp [hx]))) (trodAll_cons_mk (shut_int Tryd.underlying3 w3) (trodAll_cons_mk (shut_int Tryd.underlying3 w4) (trodAll_cons_mk (shut_int Tryd.underlying3 w5) trodAll_mk0)))))), rfl, hg.frame _, fun h => by cases h⟩

theorem row : Rows.IsaRightSaid :=
  OpenClaim.holds_of_wide 4 Tryd.f4 rfl rfl rfl rfl rfl rfl rfl ⟨rfl, rfl, rfl, rfl, rfl⟩ rfl rfl rfl rfl rfl (by kernel_rfl) Tryd.func4 (by kernel_rfl)
    (of_decide_eq_true (by kernel_rfl)) (by unfold Func.isWrapper; first | (rw [if_pos (by decide +kernel)]; kernel_rfl) | (rw [if_neg (by decide +kernel)]; exact ⟨rfl, rfl⟩))
    (fun os started H enc _ => lifted os started H enc)

/-- The statement. -/
theorem proved : Rows.IsaRightCardSaid :=
  Claim7.holds_tied_plain_at .later [] [.listed, .data, .data, .data] true (true, "445fb9fe314dc75a4bf0a050ff9a5be1ca2ccd5893ae215d4f1456f749247838") false
    row (fun _ h => by cases h) (by kernel_rfl) (fun _ h => by cases h) isaRight_row_tie rfl ⟨rfl, rfl⟩ (by kernel_rfl) rfl
    (fun f fn hf hfn => by
      obtain rfl : f = 4 := Option.some.inj ((show Tryd.prog.funcNamed "letterpress/letterpresslaw2.IsaRight" = some 4 by kernel_rfl).symm.trans hf) |>.symm
      obtain rfl : fn = Tryd.f4 := (Option.some.inj (Tryd.func4.symm.trans hfn)).symm
      exact ⟨by kernel_rfl, fun j t ht => by
        rw [Tryd.params4] at ht
        have hm : t ∈ [26, 3, 22, 3, 3, 3] := by simpa using Array.mem_of_getElem? ht
        have hall : ([26, 3, 22, 3, 3, 3].all fun u => !Tryd.prog.wantsStandIn u) = true := by kernel_rfl
        exact (show Tryd.prog.wantsStandIn t = false by simpa using List.all_eq_true.1 hall t hm)⟩)
    (by kernel_rfl)
#print axioms proved
end Go.Proofs.YtcehfaonmiocgaaDoor.isaRight
