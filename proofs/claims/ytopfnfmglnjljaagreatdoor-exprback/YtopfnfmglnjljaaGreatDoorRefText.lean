/- The reference's Text: an expression's, as the document writes it. -/
import Derived.Test.YtopfnfmglnjljaaGreatDoorKids
import Derived.Test.YtopfnfmglnjljaaGreatDoorDigits
import Derived.Test.YtopfnfmglnjljaaGreatDoorRefEval2
namespace Go.Proofs.YtopfnfmglnjljaaGreatDoor
open Go.ChangeShapes Go.WideShapes Go.ChangeAt Go.RowKit
open Go.Sort (grow)
set_option linter.unusedVariables false
set_option linter.unusedSimpArgs false

theorem rsign_any (k : Nat) (h5 : 5 ≤ k) (h11 : k ≤ 11) (w : World) : Calls Tryz.prog 34 #[.int .i64 k] w fun e w' => w' = w ∧ ∃ l : Int, e = .returned (.tuple #[.string (bs (signOf k)), .int .i64 l]) := by
  obtain rfl | rfl | rfl | rfl | rfl | rfl | rfl : k = 5 ∨ k = 6 ∨ k = 7 ∨ k = 8 ∨ k = 9 ∨ k = 10 ∨ k = 11 := by omega
  all_goals
    go_enter Tryz.func34, Tryz.ntmps34
    go_wp2_with fail
    go_ret2
    exact ⟨rfl, _, rfl⟩

/-- What Text must tell of x. -/
def TextOk (P : Nat → Prop) (x : Ex) : Prop := ∀ (v : Value) (w : World), ExAt P w v x → Calls Tryz.prog 15 #[v] w fun e w' => e = .returned (.string (bs (textP x))) ∧ Below w.heap.size w w'

theorem isTwo_kids (x : Ex) : isTwo x = (x.kids.length == 2) := by cases x <;> rfl

set_option maxRecDepth 20000 in
theorem bracketed_any (P : Nat → Prop) (x : Ex) (ih : TextOk P x) (hl : (textP x).length ≤ 1000000) (v : Value) (w : World) (hx : ExAt P w v x) :
    Calls Tryz.prog 33 #[v] w fun e w' => e = .returned (.string (bs (childP x (textP x)))) ∧ Below w.heap.size w w' := by
  obtain ⟨p, rfl, hk⟩ := hx.opened
  have n0 := below_new w (.cells #[.int .i64 x.kind, .int .i64 x.numb, .string (bs x.text), .slice p x.kids.length x.kids.length] 27)
  have X0 := Blk.new w 27 (.int .i64 x.kind) (.int .i64 x.numb) (.string (bs x.text)) (.slice p x.kids.length x.kids.length)
  have I := ih _ _ (hx.below n0)
  have e2 := isTwo_kids x
  unfold childP
  generalize textP x = t at *
  clear ih hx hk
  by_cases h2 : x.kids.length = 2
  · have h2b : ((x.kids.length : Int) == 2) = true := by simp; omega
    rw [e2, if_pos (by simp [h2])]
    have A1 := fun W => run_string_add_sum (P := Tryz.prog) W ⟨#[40]⟩ (bs t) (by rw [dec_size]; simp [ByteArray.size]; omega)
    have A2 := fun W => run_string_add_sum (P := Tryz.prog) W (⟨#[40]⟩ ++ bs t) ⟨#[41]⟩ (by rw [show (⟨#[40]⟩ : ByteArray) = bs [40] from rfl, dec_app, dec_size]; simp [ByteArray.size]; omega)
    rw [show (⟨#[40]⟩ : ByteArray) ++ bs t = bs (40 :: t) from dec_app [40] t] at A1 A2
    rw [show bs (40 :: t) ++ (⟨#[41]⟩ : ByteArray) = bs (40 :: (t ++ [41])) from dec_app (40 :: t) [41]] at A2
    clear h2 e2
    generalize x.kids.length = n at *
    go_enter Tryz.func33, Tryz.ntmps33
    go_wp2_with fail
    generalize w.alloc (.cells #[.int .i64 x.kind, .int .i64 x.numb, .string (bs x.text), .slice p n n] 27) = W0 at *
    refine I.mono ?_
    rintro e w2 ⟨rfl, hb2⟩
    have B2 := n0.trans (hb2.mono n0.size)
    have A1 := A1 w2
    have A2 := A2 w2
    clear I X0
    go_wp2_with fail
    go_ret
    exact ⟨rfl, B2⟩
  · have h2b : ((x.kids.length : Int) == 2) = false := by simp; omega
    rw [e2, if_neg (by simp [h2])]
    clear h2 e2
    generalize x.kids.length = n at *
    go_enter Tryz.func33, Tryz.ntmps33
    go_wp2_with fail
    generalize w.alloc (.cells #[.int .i64 x.kind, .int .i64 x.numb, .string (bs x.text), .slice p n n] 27) = W0 at *
    refine I.mono ?_
    rintro e w2 ⟨rfl, hb2⟩
    have B2 := n0.trans (hb2.mono n0.size)
    clear I X0
    go_wp2_with fail
    go_ret
    exact ⟨rfl, B2⟩

theorem text_child (x : Ex) : (childP x (textP x)).length ≤ (textP x).length + 2 := by
  unfold childP; split <;> simp

set_option maxHeartbeats 1600000 in
set_option maxRecDepth 20000 in
theorem rtext_any (P : Nat → Prop) : ∀ (x : Ex), Small x → Whole x → (textP x).length ≤ 1000000 → TextOk P x := by
  intro x
  induction x with
  | zero => intro _ h; exact absurd h id
  | num n =>
    intro hsm _ hl v w hx
    simp only [ExAt] at hx
    subst hx
    have hn : n ≤ 4294967295 := hsm
    have n0 := below_new w (.cells #[.int .i64 1, .int .i64 n, .string (bs []), .slice none 0 0] 27)
    have D := digits_any n (by omega) (w.alloc (.cells #[.int .i64 1, .int .i64 n, .string (bs []), .slice none 0 0] 27))
    rw [show textP (.num n) = Go.Lib.itoa n from rfl, show Go.Lib.itoa (n : Int) = Go.Lib.decDigits n by simp [Go.Lib.itoa]]
    clear hl hsm hn
    generalize Go.Lib.decDigits n = t at *
    go_enter Tryz.func15, Tryz.ntmps15
    go_wp2_with fail
    generalize w.alloc (.cells #[.int .i64 1, .int .i64 n, .string (bs []), .slice none 0 0] 27) = W0 at *
    refine D.mono ?_
    rintro e w2 ⟨rfl, hb2⟩
    have B2 := n0.trans (hb2.mono n0.size)
    go_wp2_with fail
    go_ret
    exact ⟨rfl, B2⟩
  | name s =>
    intro hsm _ hl v w hx
    simp only [ExAt] at hx
    subst hx
    have n0 := below_new w (.cells #[.int .i64 2, .int .i64 0, .string (bs s), .slice none 0 0] 27)
    go_enter Tryz.func15, Tryz.ntmps15
    go_wp2_with fail
    go_ret
    exact ⟨rfl, n0⟩
  | here =>
    intro hsm _ hl v w hx
    simp only [ExAt] at hx
    subst hx
    have n0 := below_new w (.cells #[.int .i64 3, .int .i64 0, .string (bs []), .slice none 0 0] 27)
    go_enter Tryz.func15, Tryz.ntmps15
    go_wp2_with fail
    go_ret
    exact ⟨rfl, n0⟩
  | neg x ih =>
    intro hsm hwh hl v w hx
    obtain ⟨k, c0, c1, c2, c3, rfl, hP, z0, z1, z2, z3, hx⟩ := hx
    have hlx : (childP x (textP x)).length ≤ 999999 := by simp [textP] at hl; omega
    have hl0 : (textP x).length ≤ 1000000 := by have : (textP x).length ≤ (childP x (textP x)).length := by unfold childP; split <;> simp <;> omega
                                                omega
    have n0 := below_new w (.cells #[.int .i64 4, .int .i64 0, .string (bs []), .slice (some ⟨k, 0, none⟩) 1 1] 27)
    have Br := bracketed_any P x (ih hsm hwh hl0) hl0 (.agg #[c0, c1, c2, c3]) _ (hx.below n0)
    obtain ⟨ka, na, ta, qa, la, ma, hfx⟩ := hx.form
    simp only [Value.agg.injEq, Array.mk.injEq, List.cons.injEq, and_true] at hfx
    obtain ⟨rfl, rfl, rfl, rfl⟩ := hfx
    replace z0 := kept_cell n0 z0
    replace z1 := kept_cell n0 z1
    replace z2 := kept_cell n0 z2
    replace z3 := kept_cell n0 z3
    rw [show textP (.neg x) = 45 :: childP x (textP x) from rfl]
    generalize childP x (textP x) = t at *
    have A1 := fun W => run_string_add_sum (P := Tryz.prog) W ⟨#[45]⟩ (bs t) (by rw [dec_size]; simp [ByteArray.size]; omega)
    rw [show (⟨#[45]⟩ : ByteArray) ++ bs t = bs (45 :: t) from dec_app [45] t] at A1
    clear ih hl hlx hl0 hx
    go_enter Tryz.func15, Tryz.ntmps15
    go_wp2_with fail
    generalize w.alloc (.cells #[.int .i64 4, .int .i64 0, .string (bs []), .slice (some ⟨k, 0, none⟩) 1 1] 27) = W0 at *
    refine Br.mono ?_
    rintro e w2 ⟨rfl, hb2⟩
    have B2 := n0.trans (hb2.mono n0.size)
    have A1 := A1 w2
    clear Br z0 z1 z2 z3
    go_wp2_with fail
    go_ret
    exact ⟨rfl, B2⟩
  | two op x y ihx ihy =>
    intro hsm hwh hl v w hx
    obtain ⟨k, c0, c1, c2, c3, d0, d1, d2, d3, rfl, hP, z0, z1, z2, z3, y0, y1, y2, y3, hx, hy⟩ := hx
    obtain ⟨h5, h11, hsx, hsy⟩ := hsm
    have n0 := below_new w (.cells #[.int .i64 op, .int .i64 0, .string (bs []), .slice (some ⟨k, 0, none⟩) 2 2] 27)
    have X0 := Blk.new w 27 (.int .i64 op) (.int .i64 0) (.string (bs [])) (.slice (some ⟨k, 0, none⟩) 2 2)
    have hll : (childP x (textP x)).length + (signOf op).length + 2 + (childP y (textP y)).length ≤ 1000000 := by simp [textP] at hl; omega
    have cx : (textP x).length ≤ (childP x (textP x)).length := by unfold childP; split <;> simp <;> omega
    have cy : (textP y).length ≤ (childP y (textP y)).length := by unfold childP; split <;> simp <;> omega
    have Sg := fun W => rsign_any op h5 h11 W
    have Bx := bracketed_any P x (ihx hsx hwh.1 (by omega)) (by omega) (.agg #[c0, c1, c2, c3])
    have By := bracketed_any P y (ihy hsy hwh.2 (by omega)) (by omega) (.agg #[d0, d1, d2, d3])
    obtain ⟨ka, na, ta, qa, la, ma, hfx⟩ := hx.form
    simp only [Value.agg.injEq, Array.mk.injEq, List.cons.injEq, and_true] at hfx
    obtain ⟨rfl, rfl, rfl, rfl⟩ := hfx
    obtain ⟨kb, nb, tb, qb, lb, mb, hfy⟩ := hy.form
    simp only [Value.agg.injEq, Array.mk.injEq, List.cons.injEq, and_true] at hfy
    obtain ⟨rfl, rfl, rfl, rfl⟩ := hfy
    have o4 : ((op : Int) == 4) = false := by simp; omega
    have o1 : ((op : Int) == 1) = false := by simp; omega
    have o2 : ((op : Int) == 2) = false := by simp; omega
    have o3 : ((op : Int) == 3) = false := by simp; omega
    rw [show textP (.two op x y) = childP x (textP x) ++ ([32] ++ signOf op ++ [32]) ++ childP y (textP y) from rfl]
    generalize childP x (textP x) = t at *
    generalize childP y (textP y) = u at *
    generalize signOf op = sg at *
    obtain ⟨t1, e1⟩ : ∃ t1, t1 = t ++ [32] := ⟨_, rfl⟩
    obtain ⟨t2, e2⟩ : ∃ t2, t2 = t1 ++ sg := ⟨_, rfl⟩
    obtain ⟨t3, e3⟩ : ∃ t3, t3 = t2 ++ [32] := ⟨_, rfl⟩
    obtain ⟨t4, e4⟩ : ∃ t4, t4 = t3 ++ u := ⟨_, rfl⟩
    have l1 : t1.length = t.length + 1 := by rw [e1]; simp
    have l2 : t2.length = t1.length + sg.length := by rw [e2]; simp
    have l3 : t3.length = t2.length + 1 := by rw [e3]; simp
    have A1 := fun W => run_string_add_sum (P := Tryz.prog) W (bs t) ⟨#[32]⟩ (by rw [dec_size]; simp [ByteArray.size]; omega)
    rw [show bs t ++ (⟨#[32]⟩ : ByteArray) = bs t1 by rw [e1]; exact dec_app t [32]] at A1
    have A2 := fun W => run_string_add_sum (P := Tryz.prog) W (bs t1) (bs sg) (by rw [dec_size, dec_size]; omega)
    rw [dec_app, ← e2] at A2
    have A3 := fun W => run_string_add_sum (P := Tryz.prog) W (bs t2) ⟨#[32]⟩ (by rw [dec_size]; simp [ByteArray.size]; omega)
    rw [show bs t2 ++ (⟨#[32]⟩ : ByteArray) = bs t3 by rw [e3]; exact dec_app t2 [32]] at A3
    have A4 := fun W => run_string_add_sum (P := Tryz.prog) W (bs t3) (bs u) (by rw [dec_size, dec_size]; omega)
    rw [dec_app, ← e4] at A4
    rw [show t ++ ([32] ++ sg ++ [32]) ++ u = t4 by rw [e4, e3, e2, e1]; simp]
    clear e1 e2 e3 e4 l1 l2 l3
    replace z0 := kept_cell n0 z0
    replace z1 := kept_cell n0 z1
    replace z2 := kept_cell n0 z2
    replace z3 := kept_cell n0 z3
    clear ihx ihy hl hll cx cy
    go_enter Tryz.func15, Tryz.ntmps15
    go_wp2_with fail
    generalize w.alloc (.cells #[.int .i64 op, .int .i64 0, .string (bs []), .slice (some ⟨k, 0, none⟩) 2 2] 27) = W0 at *
    refine (Sg _).mono ?_
    rintro e w' ⟨rfl, lv, rfl⟩
    replace y0 := kept_cell n0 y0
    replace y1 := kept_cell n0 y1
    replace y2 := kept_cell n0 y2
    replace y3 := kept_cell n0 y3
    have hx0 := hx.below n0
    have hy0 := hy.below n0
    obtain ⟨x0, x1, x2, x3, _, _, _, _⟩ := id X0
    have e2 := cell_regrown x3
    have e4 := cell_regrown z0
    have e5 := cell_regrown z1
    have e6 := cell_regrown z2
    have e7 := cell_regrown z3
    have e8 := cell_regrown y0
    have e9 := cell_regrown y1
    have e10 := cell_regrown y2
    have e11 := cell_regrown y3
    have Q0 := fun dd os => Calls.regrown_of (Bx (grow (redrawn w' dd) os) (hx0.below (below_regrown w' dd os)))
    have Q1 := fun dd os => Calls.regrown_of (By (grow (redrawn w' dd) os) (hy0.below (below_regrown w' dd os)))
    clear Sg Bx By hx hy
    go_wp2_with fail
    refine wp_region_quiet_below (by kernel_rfl) (by kernel_rfl) ?_
    repeat (quiet_step (first | with_reducible exact Q0 _ _ | with_reducible exact Q1 _ _))
    refine wpQuiet_nil ?_
    intro _ hw'
    obtain ⟨⟨dq, osq⟩, hw''⟩ := hw'
    subst hw''
    have hb3 := below_regrown w' dq osq
    clear Q0 Q1 e2 e4 e5 e6 e7 e8 e9 e10 e11
    generalize grow (redrawn w' dq) osq = w3 at *
    go_wp2_with fail
    go_ret
    exact ⟨rfl, n0.trans (hb3.mono n0.size)⟩
end Go.Proofs.YtopfnfmglnjljaaGreatDoor
