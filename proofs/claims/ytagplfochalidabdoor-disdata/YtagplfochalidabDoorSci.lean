/- Contracts of Sci8, of the program and of the reference. -/
import Derived.Test.YtagplfochalidabDoorBack
namespace Go.Proofs.YtagplfochalidabDoor
open Go.ChangeShapes Go.WideShapes Go.ChangeAt Go.RowKit
open Plain
set_option linter.unusedVariables false
set_option linter.unusedSimpArgs false

/-- Byte number s of v. -/
def byteP (v s : Int) : Int := v / 2 ^ (8 * s).toNat % 256

/-- Whether f and scale s give v, by the one byte that can be. -/
def hit (v f s : Int) : Bool := decide (backP f s (byteP v s) = v)

/-- The first f and scale that give v (tried as a number w of 32 bits), with the byte; false: none does. -/
def sciBy (t : Int → Int → Prop) [∀ a b, Decidable (t a b)] (b : Int → Int) : Int × Int × Int × Bool :=
  if t 0 0 then (0, 0, b 0, true) else if t 0 1 then (0, 1, b 1, true) else if t 0 2 then (0, 2, b 2, true) else if t 0 3 then (0, 3, b 3, true) else if t 1 0 then (1, 0, b 0, true) else if t 1 1 then (1, 1, b 1, true) else if t 1 2 then (1, 2, b 2, true) else if t 1 3 then (1, 3, b 3, true) else (0, 0, 0, false)

/-- Four numbers as Go's four results. -/
def four (r : Int × Int × Int × Bool) : Value := .tuple #[.int .i64 r.1, .int .i64 r.2.1, .int .i64 r.2.2.1, .bool r.2.2.2]

theorem results_tmp4 {fn : Func} {t u v x : Tmp} (h : fn.results = #[.tmp t, .tmp u, .tmp v, .tmp x]) (tmps : Array Value) (P : Program) (w : World) :
    (results fn tmps).run P w = .ok (.tuple #[tmps.getD t undef, tmps.getD u undef, tmps.getD v undef, tmps.getD x undef]) w := by
  simp [results, h]

/-- What Sci8 tells of v. -/
def sciP (v : Int) : Int × Int × Int × Bool := if fitsP v 32 then sciBy (fun f s => backP f s (byteP v s) = v) (byteP v) else (0, 0, 0, false)

theorem fits32 (v : Int) : fitsP v 32 = true ↔ wrap32 (v % 4294967296) = v := by
  have p : (2 : Int) ^ (32 - 1) = 2147483648 := by decide
  unfold fitsP wrap32
  rw [p]
  simp only [Bool.and_eq_true, decide_eq_true_eq]
  omega

theorem byte_mod (v s : Int) (s0 : 0 ≤ s) (s1 : s ≤ 3) : byteP (v % 4294967296) s = byteP v s := by
  have hs : s = 0 ∨ s = 1 ∨ s = 2 ∨ s = 3 := by omega
  have q0 : (2 : Int) ^ (8 * (0 : Int)).toNat = 1 := by decide
  have q1 : (2 : Int) ^ (8 * (1 : Int)).toNat = 256 := by decide
  have q2 : (2 : Int) ^ (8 * (2 : Int)).toNat = 65536 := by decide
  have q3 : (2 : Int) ^ (8 * (3 : Int)).toNat = 16777216 := by decide
  unfold byteP
  rcases hs with rfl | rfl | rfl | rfl
  · rw [q0]; omega
  · rw [q1]; omega
  · rw [q2]; omega
  · rw [q3]; omega

theorem sci_mod (v : Int) (h : wrap32 (v % 4294967296) = v) :
    sciBy (fun f s => backP f s (byteP (v % 4294967296) s) = wrap32 (v % 4294967296)) (byteP (v % 4294967296)) = sciBy (fun f s => backP f s (byteP v s) = v) (byteP v) := by
  unfold sciBy
  simp only [byte_mod v 0 (by omega) (by omega), byte_mod v 1 (by omega) (by omega), byte_mod v 2 (by omega) (by omega), byte_mod v 3 (by omega) (by omega), h]

theorem reads_any (x f s : Int) (h0 : 0 ≤ x) (h1 : x < 4294967296) (f0 : 0 ≤ f) (f1 : f ≤ 1) (s0 : 0 ≤ s) (s1 : s ≤ 3) (w : World) :
    Calls Tryd.prog 79 #[.int .u32 x, .int .i64 f, .int .i64 s] w fun e w' =>
      e = .returned (.tuple #[.int .i64 (if backP f s (byteP x s) = wrap32 x then byteP x s else 0), .bool (decide (backP f s (byteP x s) = wrap32 x))]) ∧ ∃ n, w' = w.drewN n := by
  have hb : x / 2 ^ (8 * s).toNat % 2 ^ (8 : Int).toNat = byteP x s := by simp [byteP]
  have b0 : 0 ≤ byteP x s := by unfold byteP; omega
  have b1 : byteP x s ≤ 255 := by unfold byteP; omega
  go_enter Tryd.func79, Tryd.ntmps79
  go_wp2_with fail
  refine (part_any _ _ _ h0 h1 (by omega) (by omega) (by omega) (by omega) _).mono ?_
  rintro e w' ⟨rfl, n1, rfl⟩
  rw [hb]
  go_wp2_with fail
  refine (immBack_any _ _ _ f0 f1 s0 s1 b0 b1 _).mono ?_
  rintro e w' ⟨rfl, n2, rfl⟩
  go_wp2_with fail
  refine (signed_any _ _).mono ?_
  rintro e w' ⟨rfl, rfl⟩
  by_cases c : backP f s (byteP x s) = wrap32 x
  · have c1 : (backP f s (byteP x s) != wrap32 x) = false := by simp [c]
    go_wp2
    go_ret2
    simp [c]
    exact ⟨_, rfl⟩
  · have c1 : (backP f s (byteP x s) != wrap32 x) = true := by simp [c]
    go_wp2
    go_ret2
    simp [c]
    exact ⟨_, rfl⟩

set_option maxHeartbeats 4000000 in
theorem first_any (x : Int) (h0 : 0 ≤ x) (h1 : x < 4294967296) (w : World) :
    Calls Tryd.prog 78 #[.func (.func 79) #[.int .u32 x] #[]] w fun e w' =>
      e = .returned (four (sciBy (fun f s => backP f s (byteP x s) = wrap32 x) (byteP x))) ∧ ∃ n, w' = w.drewN n := by
  go_enter Tryd.func78, Tryd.ntmps78
  go_wp2_with fail
  refine wp_loop_rounds 3 ?_
  rw [rounds_succ]
  go_wp2_with fail
  refine wp_loop_rounds 5 ?_
  rw [rounds_succ]
  go_wp2_with fail
  refine (reads_any x 0 0 h0 h1 (by omega) (by omega) (by omega) (by omega) _).mono ?_
  rintro e w' ⟨rfl, n00, rfl⟩
  by_cases c00 : backP 0 0 (byteP x 0) = wrap32 x
  · simp only [if_pos c00, decide_eq_true c00]
    go_wp2_with fail
    (try simp only [Exit.inBlock, Exit.then])
    refine bodyPost_ret (results_tmp4 rfl _ _ _) rfl ?_
    refine ⟨?_, _, rfl⟩
    simp [four, sciBy, c00]
  simp only [if_neg c00, decide_eq_false c00]
  go_wp2_with fail
  rw [rounds_succ]
  go_wp2_with fail
  refine (reads_any x 0 1 h0 h1 (by omega) (by omega) (by omega) (by omega) _).mono ?_
  rintro e w' ⟨rfl, n01, rfl⟩
  by_cases c01 : backP 0 1 (byteP x 1) = wrap32 x
  · simp only [if_pos c01, decide_eq_true c01]
    go_wp2_with fail
    (try simp only [Exit.inBlock, Exit.then])
    refine bodyPost_ret (results_tmp4 rfl _ _ _) rfl ?_
    refine ⟨?_, _, rfl⟩
    simp [four, sciBy, c00, c01]
  simp only [if_neg c01, decide_eq_false c01]
  go_wp2_with fail
  rw [rounds_succ]
  go_wp2_with fail
  refine (reads_any x 0 2 h0 h1 (by omega) (by omega) (by omega) (by omega) _).mono ?_
  rintro e w' ⟨rfl, n02, rfl⟩
  by_cases c02 : backP 0 2 (byteP x 2) = wrap32 x
  · simp only [if_pos c02, decide_eq_true c02]
    go_wp2_with fail
    (try simp only [Exit.inBlock, Exit.then])
    refine bodyPost_ret (results_tmp4 rfl _ _ _) rfl ?_
    refine ⟨?_, _, rfl⟩
    simp [four, sciBy, c00, c01, c02]
  simp only [if_neg c02, decide_eq_false c02]
  go_wp2_with fail
  rw [rounds_succ]
  go_wp2_with fail
  refine (reads_any x 0 3 h0 h1 (by omega) (by omega) (by omega) (by omega) _).mono ?_
  rintro e w' ⟨rfl, n03, rfl⟩
  by_cases c03 : backP 0 3 (byteP x 3) = wrap32 x
  · simp only [if_pos c03, decide_eq_true c03]
    go_wp2_with fail
    (try simp only [Exit.inBlock, Exit.then])
    refine bodyPost_ret (results_tmp4 rfl _ _ _) rfl ?_
    refine ⟨?_, _, rfl⟩
    simp [four, sciBy, c00, c01, c02, c03]
  simp only [if_neg c03, decide_eq_false c03]
  go_wp2_with fail
  rw [rounds_succ]
  go_wp2_with fail
  rw [rounds_succ]
  go_wp2_with fail
  refine wp_loop_rounds 5 ?_
  rw [rounds_succ]
  go_wp2_with fail
  refine (reads_any x 1 0 h0 h1 (by omega) (by omega) (by omega) (by omega) _).mono ?_
  rintro e w' ⟨rfl, n10, rfl⟩
  by_cases c10 : backP 1 0 (byteP x 0) = wrap32 x
  · simp only [if_pos c10, decide_eq_true c10]
    go_wp2_with fail
    (try simp only [Exit.inBlock, Exit.then])
    refine bodyPost_ret (results_tmp4 rfl _ _ _) rfl ?_
    refine ⟨?_, _, rfl⟩
    simp [four, sciBy, c00, c01, c02, c03, c10]
  simp only [if_neg c10, decide_eq_false c10]
  go_wp2_with fail
  rw [rounds_succ]
  go_wp2_with fail
  refine (reads_any x 1 1 h0 h1 (by omega) (by omega) (by omega) (by omega) _).mono ?_
  rintro e w' ⟨rfl, n11, rfl⟩
  by_cases c11 : backP 1 1 (byteP x 1) = wrap32 x
  · simp only [if_pos c11, decide_eq_true c11]
    go_wp2_with fail
    (try simp only [Exit.inBlock, Exit.then])
    refine bodyPost_ret (results_tmp4 rfl _ _ _) rfl ?_
    refine ⟨?_, _, rfl⟩
    simp [four, sciBy, c00, c01, c02, c03, c10, c11]
  simp only [if_neg c11, decide_eq_false c11]
  go_wp2_with fail
  rw [rounds_succ]
  go_wp2_with fail
  refine (reads_any x 1 2 h0 h1 (by omega) (by omega) (by omega) (by omega) _).mono ?_
  rintro e w' ⟨rfl, n12, rfl⟩
  by_cases c12 : backP 1 2 (byteP x 2) = wrap32 x
  · simp only [if_pos c12, decide_eq_true c12]
    go_wp2_with fail
    (try simp only [Exit.inBlock, Exit.then])
    refine bodyPost_ret (results_tmp4 rfl _ _ _) rfl ?_
    refine ⟨?_, _, rfl⟩
    simp [four, sciBy, c00, c01, c02, c03, c10, c11, c12]
  simp only [if_neg c12, decide_eq_false c12]
  go_wp2_with fail
  rw [rounds_succ]
  go_wp2_with fail
  refine (reads_any x 1 3 h0 h1 (by omega) (by omega) (by omega) (by omega) _).mono ?_
  rintro e w' ⟨rfl, n13, rfl⟩
  by_cases c13 : backP 1 3 (byteP x 3) = wrap32 x
  · simp only [if_pos c13, decide_eq_true c13]
    go_wp2_with fail
    (try simp only [Exit.inBlock, Exit.then])
    refine bodyPost_ret (results_tmp4 rfl _ _ _) rfl ?_
    refine ⟨?_, _, rfl⟩
    simp [four, sciBy, c00, c01, c02, c03, c10, c11, c12, c13]
  simp only [if_neg c13, decide_eq_false c13]
  go_wp2_with fail
  rw [rounds_succ]
  go_wp2_with fail
  rw [rounds_succ]
  go_wp2_with fail
  (try simp only [Exit.inBlock, Exit.then])
  refine bodyPost_ret (results_tmp4 rfl _ _ _) rfl ?_
  refine ⟨?_, _, rfl⟩
  simp [four, sciBy, c00, c01, c02, c03, c10, c11, c12, c13]

end Go.Proofs.YtagplfochalidabDoor
