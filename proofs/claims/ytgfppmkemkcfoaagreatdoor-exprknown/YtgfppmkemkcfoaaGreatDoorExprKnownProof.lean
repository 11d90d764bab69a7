/- ExprKnown: these texts come to just these numbers, or errors, or are none: by the contracts of Parse and Eval, and the kernel reckons each of the twenty-six. -/
import Derived.Test.YtgfppmkemkcfoaaGreatDoorRows
import Derived.WalkKit
import Derived.ProofKit
import Derived.OpenShut
import Derived.LaidMore
import Derived.Stop.Joined
import Derived.SevenTiedAt
import Derived.Laws.BytesArg
import Derived.BigQuiet
import Derived.Lay
import Derived.MakeChecks
import Derived.Test.YtgfppmkemkcfoaaGreatDoorTie
import Derived.Test.YtgfppmkemkcfoaaGreatDoorCards
import Derived.Test.YtgfppmkemkcfoaaGreatDoorLaid
import Derived.Test.YtgfppmkemkcfoaaGreatDoorKnown
import Derived.Test.YtgfppmkemkcfoaaGreatDoorWithin
namespace Go.Proofs.YtgfppmkemkcfoaaGreatDoor.exprKnown
open Go.ChangeShapes Go.WideShapes Go.ChangeAt Go.RowKit
open Go.ChangeMaps (open_string shut_string)
set_option linter.unusedVariables false
set_option linter.unusedSimpArgs false

theorem own : ownKnob Tryz.prog.godebug = none := by kernel_rfl

theorem cells_of {α : Type} (f : α → Value) (l : List α) (d : α) (i : Nat) (hi : i < l.length) : (l.map f).toArray[i]? = some (f (l.getD i d)) := by simp [List.getD, hi]
def texts : List Bs := [[49, 43, 50, 42, 51], [40, 49, 43, 50, 41, 42, 51], [49, 32, 60, 60, 32, 52, 32, 43, 32, 49], [48, 120, 102, 102, 32, 38, 32, 48, 120, 48, 102, 32, 124, 32, 48, 120, 51, 48], [45, 51, 32, 45, 32, 45, 52], [46, 32, 43, 32, 52], [120], [121], [52, 50, 57, 52, 57, 54, 55, 50, 57, 53, 32, 42, 32, 50, 53, 54], [52, 50, 57, 52, 57, 54, 55, 50, 57, 53, 32, 42, 32, 50, 53, 55], [49, 32, 60, 60, 32, 52, 48], [49, 32, 60, 60, 32, 52, 49], [49, 32, 62, 62, 32, 45, 49], [45, 49, 32, 62, 62, 32, 49], [45, 56, 32, 62, 62, 32, 49], [52, 50, 57, 52, 57, 54, 55, 50, 57, 54], [48, 120], [49, 32, 50], [114, 53], [48, 48, 55], [48, 120, 70, 70], [40, 41], [49, 32, 43], [97, 45, 98], [45, 32, 45, 32, 53], [120, 46, 121]]
def wants : List Int := [7, 9, 32, 63, 1, 104, 9, -1, 1099511627520, -2, 1099511627776, -2, -2, -1, -4, -3, -3, -3, -3, 7, -3, -3, -3, 0, 5, -3]
def errs : List Int := [0, 0, 0, 0, 0, 0, 0, 4, 0, 6, 0, 6, 6, 0, 0, 0, 0, 0, 0, 0, 0, 0, 0, 4, 0, 0]
def smallB : Ex → Bool
  | .num n => decide (n ≤ 4294967295)
  | .neg x => smallB x
  | .two k x y => decide (5 ≤ k) && decide (k ≤ 11) && smallB x && smallB y
  | _ => true
theorem small_of : ∀ x, smallB x = true → Small x
  | .zero, _ => trivial
  | .num n, h => by simpa [smallB, Small] using h
  | .name _, _ => trivial
  | .here, _ => trivial
  | .neg x, h => small_of x h
  | .two k x y, h => by
    simp only [smallB, Bool.and_eq_true, decide_eq_true_eq] at h
    exact ⟨h.1.1.1, h.1.1.2, small_of x h.1.2, small_of y h.2⟩
def right (s : Bs) (z er : Int) : Bool := decide (s.length ≤ 100) && match parseP s with
  | none => z == -3
  | some x => !(z == -3) && smallB x && ((evalP 100 [([120], 9)] x == (z, 0) && er == 0) || (evalP 100 [([120], 9)] x == (0, er) && !(er == 0)))
theorem all_right : ((List.range 26).all fun i => right (texts.getD i []) (wants.getD i 0) (errs.getD i 0)) = true := by kernel_rfl
theorem said (i : Nat) (hi : i < 26) : (texts.getD i []).length ≤ 100 ∧ ((parseP (texts.getD i []) = none ∧ wants.getD i 0 = -3) ∨
    ∃ x, parseP (texts.getD i []) = some x ∧ wants.getD i 0 ≠ -3 ∧ Small x ∧ ((evalP 100 [([120], 9)] x = (wants.getD i 0, 0) ∧ errs.getD i 0 = 0) ∨ (evalP 100 [([120], 9)] x = (0, errs.getD i 0) ∧ errs.getD i 0 ≠ 0))) := by
  have h := List.all_eq_true.1 all_right i (List.mem_range.2 hi)
  unfold right at h
  rw [Bool.and_eq_true] at h
  refine ⟨by simpa using h.1, ?_⟩
  replace h := h.2
  split at h
  · rename_i hx
    exact .inl ⟨hx, by simpa using h⟩
  · rename_i x hx
    simp only [Bool.and_eq_true, Bool.or_eq_true, Bool.not_eq_true', beq_eq_false_iff_ne, beq_iff_eq] at h
    exact .inr ⟨x, hx, h.1.1, small_of x h.1.2, h.2⟩

/-! ### The walk -/
set_option maxHeartbeats 8000000 in
set_option maxRecDepth 20000 in
theorem walk (a0 : Int) (w0 : (Lit.int .i64 a0).wf = true) (w : World) (T : Tab w) :
    Calls Tryz.prog 6 #[.int .i64 a0] w fun e w' => e = .returned (.bool true) ∧ Below w.heap.size w w' := by
  have K := known_any w T
  go_enter Tryz.func6, Tryz.ntmps6
  go_wp2_with fail
  refine K.mono ?_
  rintro e w1 ⟨rfl, hb1⟩
  have T1 := T.later hb1
  clear K
  go_wp2_with fail
  have n1 := below_new w1 (.cells #[.string ⟨#[49, 43, 50, 42, 51]⟩, .string ⟨#[40, 49, 43, 50, 41, 42, 51]⟩, .string ⟨#[49, 32, 60, 60, 32, 52, 32, 43, 32, 49]⟩, .string ⟨#[48, 120, 102, 102, 32, 38, 32, 48, 120, 48, 102, 32, 124, 32, 48, 120, 51, 48]⟩, .string ⟨#[45, 51, 32, 45, 32, 45, 52]⟩, .string ⟨#[46, 32, 43, 32, 52]⟩, .string ⟨#[120]⟩, .string ⟨#[121]⟩, .string ⟨#[52, 50, 57, 52, 57, 54, 55, 50, 57, 53, 32, 42, 32, 50, 53, 54]⟩, .string ⟨#[52, 50, 57, 52, 57, 54, 55, 50, 57, 53, 32, 42, 32, 50, 53, 55]⟩, .string ⟨#[49, 32, 60, 60, 32, 52, 48]⟩, .string ⟨#[49, 32, 60, 60, 32, 52, 49]⟩, .string ⟨#[49, 32, 62, 62, 32, 45, 49]⟩, .string ⟨#[45, 49, 32, 62, 62, 32, 49]⟩, .string ⟨#[45, 56, 32, 62, 62, 32, 49]⟩, .string ⟨#[52, 50, 57, 52, 57, 54, 55, 50, 57, 54]⟩, .string ⟨#[48, 120]⟩, .string ⟨#[49, 32, 50]⟩, .string ⟨#[114, 53]⟩, .string ⟨#[48, 48, 55]⟩, .string ⟨#[48, 120, 70, 70]⟩, .string ⟨#[40, 41]⟩, .string ⟨#[49, 32, 43]⟩, .string ⟨#[97, 45, 98]⟩, .string ⟨#[45, 32, 45, 32, 53]⟩, .string ⟨#[120, 46, 121]⟩] 9)
  have c1 : ∀ i : Nat, i < 26 → (w1.alloc (.cells #[.string ⟨#[49, 43, 50, 42, 51]⟩, .string ⟨#[40, 49, 43, 50, 41, 42, 51]⟩, .string ⟨#[49, 32, 60, 60, 32, 52, 32, 43, 32, 49]⟩, .string ⟨#[48, 120, 102, 102, 32, 38, 32, 48, 120, 48, 102, 32, 124, 32, 48, 120, 51, 48]⟩, .string ⟨#[45, 51, 32, 45, 32, 45, 52]⟩, .string ⟨#[46, 32, 43, 32, 52]⟩, .string ⟨#[120]⟩, .string ⟨#[121]⟩, .string ⟨#[52, 50, 57, 52, 57, 54, 55, 50, 57, 53, 32, 42, 32, 50, 53, 54]⟩, .string ⟨#[52, 50, 57, 52, 57, 54, 55, 50, 57, 53, 32, 42, 32, 50, 53, 55]⟩, .string ⟨#[49, 32, 60, 60, 32, 52, 48]⟩, .string ⟨#[49, 32, 60, 60, 32, 52, 49]⟩, .string ⟨#[49, 32, 62, 62, 32, 45, 49]⟩, .string ⟨#[45, 49, 32, 62, 62, 32, 49]⟩, .string ⟨#[45, 56, 32, 62, 62, 32, 49]⟩, .string ⟨#[52, 50, 57, 52, 57, 54, 55, 50, 57, 54]⟩, .string ⟨#[48, 120]⟩, .string ⟨#[49, 32, 50]⟩, .string ⟨#[114, 53]⟩, .string ⟨#[48, 48, 55]⟩, .string ⟨#[48, 120, 70, 70]⟩, .string ⟨#[40, 41]⟩, .string ⟨#[49, 32, 43]⟩, .string ⟨#[97, 45, 98]⟩, .string ⟨#[45, 32, 45, 32, 53]⟩, .string ⟨#[120, 46, 121]⟩] 9)).cell? ⟨w1.heap.size, i, none⟩ = some (.string (bs (texts.getD i []))) := by
    intro i hi
    exact new_cell _ i _ (cells_of (fun s => Value.string (bs s)) texts [] i hi)
  generalize hA : w1.alloc (.cells #[.string ⟨#[49, 43, 50, 42, 51]⟩, .string ⟨#[40, 49, 43, 50, 41, 42, 51]⟩, .string ⟨#[49, 32, 60, 60, 32, 52, 32, 43, 32, 49]⟩, .string ⟨#[48, 120, 102, 102, 32, 38, 32, 48, 120, 48, 102, 32, 124, 32, 48, 120, 51, 48]⟩, .string ⟨#[45, 51, 32, 45, 32, 45, 52]⟩, .string ⟨#[46, 32, 43, 32, 52]⟩, .string ⟨#[120]⟩, .string ⟨#[121]⟩, .string ⟨#[52, 50, 57, 52, 57, 54, 55, 50, 57, 53, 32, 42, 32, 50, 53, 54]⟩, .string ⟨#[52, 50, 57, 52, 57, 54, 55, 50, 57, 53, 32, 42, 32, 50, 53, 55]⟩, .string ⟨#[49, 32, 60, 60, 32, 52, 48]⟩, .string ⟨#[49, 32, 60, 60, 32, 52, 49]⟩, .string ⟨#[49, 32, 62, 62, 32, 45, 49]⟩, .string ⟨#[45, 49, 32, 62, 62, 32, 49]⟩, .string ⟨#[45, 56, 32, 62, 62, 32, 49]⟩, .string ⟨#[52, 50, 57, 52, 57, 54, 55, 50, 57, 54]⟩, .string ⟨#[48, 120]⟩, .string ⟨#[49, 32, 50]⟩, .string ⟨#[114, 53]⟩, .string ⟨#[48, 48, 55]⟩, .string ⟨#[48, 120, 70, 70]⟩, .string ⟨#[40, 41]⟩, .string ⟨#[49, 32, 43]⟩, .string ⟨#[97, 45, 98]⟩, .string ⟨#[45, 32, 45, 32, 53]⟩, .string ⟨#[120, 46, 121]⟩] 9) = wA at *
  have hAs : wA.heap.size = w1.heap.size + 1 := by rw [← hA]; simp
  clear hA
  have n2 := below_new wA (.cells #[.int .i64 7, .int .i64 9, .int .i64 32, .int .i64 63, .int .i64 1, .int .i64 104, .int .i64 9, .int .i64 (-1), .int .i64 1099511627520, .int .i64 (-2), .int .i64 1099511627776, .int .i64 (-2), .int .i64 (-2), .int .i64 (-1), .int .i64 (-4), .int .i64 (-3), .int .i64 (-3), .int .i64 (-3), .int .i64 (-3), .int .i64 7, .int .i64 (-3), .int .i64 (-3), .int .i64 (-3), .int .i64 0, .int .i64 5, .int .i64 (-3)] 3)
  have c2 : ∀ i : Nat, i < 26 → (wA.alloc (.cells #[.int .i64 7, .int .i64 9, .int .i64 32, .int .i64 63, .int .i64 1, .int .i64 104, .int .i64 9, .int .i64 (-1), .int .i64 1099511627520, .int .i64 (-2), .int .i64 1099511627776, .int .i64 (-2), .int .i64 (-2), .int .i64 (-1), .int .i64 (-4), .int .i64 (-3), .int .i64 (-3), .int .i64 (-3), .int .i64 (-3), .int .i64 7, .int .i64 (-3), .int .i64 (-3), .int .i64 (-3), .int .i64 0, .int .i64 5, .int .i64 (-3)] 3)).cell? ⟨w1.heap.size + 1, i, none⟩ = some (.int .i64 (wants.getD i 0)) := by
    intro i hi
    rw [← hAs]
    exact new_cell _ i _ (cells_of (fun z => Value.int .i64 z) wants 0 i hi)
  generalize hB : wA.alloc (.cells #[.int .i64 7, .int .i64 9, .int .i64 32, .int .i64 63, .int .i64 1, .int .i64 104, .int .i64 9, .int .i64 (-1), .int .i64 1099511627520, .int .i64 (-2), .int .i64 1099511627776, .int .i64 (-2), .int .i64 (-2), .int .i64 (-1), .int .i64 (-4), .int .i64 (-3), .int .i64 (-3), .int .i64 (-3), .int .i64 (-3), .int .i64 7, .int .i64 (-3), .int .i64 (-3), .int .i64 (-3), .int .i64 0, .int .i64 5, .int .i64 (-3)] 3) = wB at *
  have hBs : wB.heap.size = w1.heap.size + 2 := by rw [← hB]; simp [hAs]
  clear hB
  have n3 := below_new wB (.cells #[.int .i64 0, .int .i64 0, .int .i64 0, .int .i64 0, .int .i64 0, .int .i64 0, .int .i64 0, .int .i64 4, .int .i64 0, .int .i64 6, .int .i64 0, .int .i64 6, .int .i64 6, .int .i64 0, .int .i64 0, .int .i64 0, .int .i64 0, .int .i64 0, .int .i64 0, .int .i64 0, .int .i64 0, .int .i64 0, .int .i64 0, .int .i64 4, .int .i64 0, .int .i64 0] 41)
  have c3 : ∀ i : Nat, i < 26 → (wB.alloc (.cells #[.int .i64 0, .int .i64 0, .int .i64 0, .int .i64 0, .int .i64 0, .int .i64 0, .int .i64 0, .int .i64 4, .int .i64 0, .int .i64 6, .int .i64 0, .int .i64 6, .int .i64 6, .int .i64 0, .int .i64 0, .int .i64 0, .int .i64 0, .int .i64 0, .int .i64 0, .int .i64 0, .int .i64 0, .int .i64 0, .int .i64 0, .int .i64 4, .int .i64 0, .int .i64 0] 41)).cell? ⟨w1.heap.size + 2, i, none⟩ = some (.int .i64 (errs.getD i 0)) := by
    intro i hi
    rw [← hBs]
    exact new_cell _ i _ (cells_of (fun z => Value.int .i64 z) errs 0 i hi)
  generalize wB.alloc (.cells #[.int .i64 0, .int .i64 0, .int .i64 0, .int .i64 0, .int .i64 0, .int .i64 0, .int .i64 0, .int .i64 4, .int .i64 0, .int .i64 6, .int .i64 0, .int .i64 6, .int .i64 6, .int .i64 0, .int .i64 0, .int .i64 0, .int .i64 0, .int .i64 0, .int .i64 0, .int .i64 0, .int .i64 0, .int .i64 0, .int .i64 0, .int .i64 4, .int .i64 0, .int .i64 0] 41) = wC at *
  have hb2 := hb1.trans (n1.mono hb1.size)
  replace hb2 := hb2.trans (n2.mono hb2.size)
  replace hb2 := hb2.trans (n3.mono hb2.size)
  have TC := ((T1.later n1).later n2).later n3
  have I := within_any a0 26 (by omega) (by omega) wC
  refine I.mono ?_
  rintro e w' ⟨rfl, rfl⟩
  have r1 := Int.emod_nonneg a0 (show (26 : Int) ≠ 0 by omega)
  have r2 := Int.emod_lt_of_pos a0 (show (0 : Int) < 26 by omega)
  generalize a0 % 26 = r at *
  obtain ⟨i, rfl⟩ : ∃ i : Nat, r = i := ⟨r.toNat, by omega⟩
  have hi : i < 26 := by omega
  obtain ⟨hl, hsaid⟩ := said i hi
  have k1 := kept_cell n3 (kept_cell n2 (c1 i hi))
  have k2 := kept_cell n3 (c2 i hi)
  have k3 := c3 i hi
  generalize texts.getD i [] = tx at *
  generalize wants.getD i 0 = wt at *
  generalize errs.getD i 0 = er at *
  clear I c1 c2 c3 n1 n2 n3 hAs hBs T1 hb1
  obtain ⟨hp, rfl⟩ | ⟨x, hp, hne, hs, hev⟩ := hsaid
  · have P : Calls Tryz.prog 12 #[.string (bs tx)] wC fun e w' => Below wC.heap.size wC w' ∧ e = .returned (.tuple #[.agg #[.int .i64 0, .int .i64 0, .string ⟨#[]⟩, .slice none 0 0], .bool false]) := by
      have P := parse_any tx (by omega) wC TC
      rw [hp] at P
      exact P
    go_wp2_with fail
    refine P.mono ?_
    rintro e w2 ⟨hb3, rfl⟩
    have k4 := kept_cell hb3 k2
    have hbw2 := hb2.trans (hb3.mono hb2.size)
    have n4 := below_new w2 (.cells #[.int .i64 0, .int .i64 0, .string ⟨#[]⟩, .slice none 0 0] 27)
    have k5 := kept_cell n4 k4
    have hbw3 := hbw2.trans (n4.mono hbw2.size)
    clear P hb3 TC hb2 k1 k2 k3 n4 hbw2
    go_wp2_with fail
    go_ret
    exact ⟨rfl, hbw3⟩
  · have P := parse1 (t := bs tx) tx wC TC rfl (by omega) hp
    go_wp2_with fail
    refine P.mono ?_
    rintro e w2 ⟨hb3, k, n, t, q, l, m, rfl, hx⟩
    have k4 := kept_cell hb3 k2
    have k5 := kept_cell hb3 k3
    have hbw2 := hb2.trans (hb3.mono hb2.size)
    clear P hb3 TC hb2 k1 k2 k3
    have n2 := below_new w2 (.cells #[.int .i64 k, .int .i64 n, .string t, .slice q l m] 27)
    have X2 := Blk.new w2 27 (.int .i64 k) (.int .i64 n) (.string t) (.slice q l m)
    have hx2 := hx.below n2
    have k6 := kept_cell n2 k4
    have k7 := kept_cell n2 k5
    obtain ⟨x0, x1, x2, x3, _, _, _, _⟩ := id X2
    go_wp2_with fail
    have n3 := below_new (w2.alloc (.cells #[.int .i64 k, .int .i64 n, .string t, .slice q l m] 27)) (.cells #[.string ⟨#[120]⟩, .int .i64 9] 49)
    have S := syms1 (w2.alloc (.cells #[.int .i64 k, .int .i64 n, .string t, .slice q l m] 27)) 49 [120] 9
    rw [show (w2.alloc (.cells #[.int .i64 k, .int .i64 n, .string t, .slice q l m] 27)).heap.size = w2.heap.size + 1 by simp] at S
    have hx3 := hx2.below n3
    have k8 := kept_cell n3 k6
    have k9 := kept_cell n3 k7
    have hb3 := (hbw2.trans (n2.mono hbw2.size))
    replace hb3 := hb3.trans (n3.mono hb3.size)
    have V : Calls Tryz.prog 20 #[.agg #[.int .i64 k, .int .i64 n, .string t, .slice q l m], .int .i64 100, .slice (some ⟨w2.heap.size + 1, 0, none⟩) 1 1] ((w2.alloc (.cells #[.int .i64 k, .int .i64 n, .string t, .slice q l m] 27)).alloc (.cells #[.string ⟨#[120]⟩, .int .i64 9] 49)) _ := eval_any 100 [([120], 9)] _ x hs _ _ _ hx3 S
    unfold pair at V
    clear S n2 n3 hx hx2 hx3 X2 x0 x1 x2 x3 hbw2 k4 k5 k6 k7
    generalize ((w2.alloc (.cells #[.int .i64 k, .int .i64 n, .string t, .slice q l m] 27)).alloc (.cells #[.string ⟨#[120]⟩, .int .i64 9] 49)) = w3 at *
    refine V.mono ?_
    rintro e w4 ⟨rfl, hb4⟩
    have k10 := kept_cell hb4 k8
    have k11 := kept_cell hb4 k9
    have hbw4 := hb3.trans (hb4.mono hb3.size)
    clear V hb4 hb3 k8 k9
    obtain ⟨he, rfl⟩ | ⟨he, hr⟩ := hev
    · rw [he]
      go_wp2_with fail
      go_ret
      exact ⟨rfl, hbw4⟩
    · rw [he]
      go_wp2_with fail
      go_ret
      exact ⟨rfl, hbw4⟩

/-! ### The row's step -/
set_option maxRecDepth 100000 in
theorem lifted (os : Os) (started : os.Started) (H : Type) (enc : TypeId × Value → H) :
    ReturnsInHanded {} Tryz.checked os 6 .any (fun w args => (Rows.exprKnownSpec.pre enc Tryz.prog Tryz.f6 [] false w args ∧ laidMetH Tryz.prog laid8 w) ∧ sizedMet enc Tryz.prog Tryz.f6 (OpenSpec.ofChange Rows.exprKnownSpec) false w args)
      (Rows.exprKnownSpec.post enc Tryz.prog Tryz.f6 false true false false) := by
  refine returnsInHanded_of_change_and (C := Tryz.checked) (X := fun w _ => laidMetH Tryz.prog laid8 w) (fun _ _ _ hh h => h.of_heap hh) own started (by kernel_rfl) Tryz.func6
    (ChangeSpec.witness_shaped (enc := enc) (C := Tryz.checked) (os := os) (X := fun w _ => laidMetH Tryz.prog laid8 w) false (World.laidAll Tryz.prog os laid8) #[.int .i64 0] 8 (World.laidAll_os _ _ _) (World.shaped_of_ZipB (by kernel_rfl) (by kernel_rfl)) (by kernel_rfl) (by kernel_rfl) (by kernel_rfl) (by rw [MakeChecks.laidMetH_plain _ _ _ (by kernel_rfl)]; exact laidMet_laidAll _ (by kernel_rfl) (by kernel_rfl))) ?_
  intro W base args ds gs before hval0 hW _ _ hL _
  have hval : ∀ (j : Nat) t v, Tryz.f6.params[j]? = some t → args[j]? = some v → Value.okWide Tryz.prog W .any base t v := hval0
  have hW' := hW
  obtain ⟨p, q, hA0, hV, rfl, hfz, hnd⟩ := hW
  have hA : DataW.TrodAll enc Tryz.prog W 0 (fun _ => true) true Tryz.f6.params.toList args.toList ds p := hA0
  rw [Tryz.params6] at hA hval
  obtain ⟨v0, vs0, d0, ds0, p0, q0, hargs, rfl, rfl, h0, r0⟩ := trodAll_cons hA
  obtain ⟨rfl, rfl, rfl⟩ := trodAll_nil r0
  obtain rfl : args = #[v0] := by cases args; simp_all
  obtain ⟨rfl, rfl⟩ := trodVars_none hV
  obtain ⟨a0, rfl, rfl, rfl, w0⟩ := open_int Tryz.underlying3 (hval 0 3 v0 rfl rfl) h0
  clear hA0 hval0
  simp only [List.append_nil, List.nil_append] at hW'
  refine (walk a0 w0 W (tab_of_laid hL)).mono fun e W' ⟨he, hg⟩ => ?_
  subst he
  exact ⟨_, rfl, _, _, _, [], _, [], hW', (trodAll_cons_mk (shut_bool Tryz.underlying4 _) trodAll_mk0), (trodAll_cons_mk (shut_int Tryz.underlying3 w0) trodAll_mk0), rfl, hg.frame _, fun h => by cases h⟩

theorem row : Rows.ExprKnownSaid :=
  OpenClaim.holds_of_wide 6 Tryz.f6 rfl rfl rfl rfl rfl rfl rfl ⟨rfl, rfl, rfl, rfl, rfl⟩ rfl rfl rfl rfl rfl (by kernel_rfl) Tryz.func6 (by kernel_rfl)
    (of_decide_eq_true (by kernel_rfl)) (by unfold Func.isWrapper; first | (rw [if_pos (by decide +kernel)]; kernel_rfl) | (rw [if_neg (by decide +kernel)]; exact ⟨rfl, rfl⟩))
    (fun os started H enc _ => lifted os started H enc)

/-- The statement. -/
theorem proved : Rows.ExprKnownCardSaid :=
  Claim7.holds_tied_plain_at .later [] [.data, .data, .data, .data, .sentinel, .sentinel, .data, .pinned] true (true, "acf91c5da21a79b6f721d9c5afdcc26e3276ce75a2eadbf0fd4669e07277e7e4") true
    row (fun _ h => by cases h) (by kernel_rfl) (fun _ h => by cases h) exprKnown_row_tie rfl ⟨rfl, rfl⟩ (by kernel_rfl) rfl
    (fun f fn hf hfn => by
      obtain rfl : f = 6 := Option.some.inj ((show Tryz.prog.funcNamed "letterpress/letterpresslaw3.ExprKnown" = some 6 by kernel_rfl).symm.trans hf) |>.symm
      obtain rfl : fn = Tryz.f6 := (Option.some.inj (Tryz.func6.symm.trans hfn)).symm
      exact ⟨by kernel_rfl, fun j t ht => by
        rw [Tryz.params6] at ht
        have hm : t ∈ [3] := by simpa using Array.mem_of_getElem? ht
        have hall : ([3].all fun u => !Tryz.prog.wantsStandIn u) = true := by kernel_rfl
        exact (show Tryz.prog.wantsStandIn t = false by simpa using List.all_eq_true.1 hall t hm)⟩)
    (by kernel_rfl)
#print axioms proved
end Go.Proofs.YtgfppmkemkcfoaaGreatDoor.exprKnown
