/- Contracts of Sci8, of the program and of the reference. -/
import Derived.Test.YtnmclpphiajleaaDoorSci
namespace Go.Proofs.YtnmclpphiajleaaDoor
open Go.ChangeShapes Go.WideShapes Go.ChangeAt Go.RowKit
open Plain
set_option linter.unusedVariables false
set_option linter.unusedSimpArgs false

theorem immSci8_any (v : Int) (w : World) :
    Calls Tryd.prog 66 #[.int .i64 v] w fun e w' => e = .returned (four (sciP v)) ∧ ∃ n, w' = w.drewN n := by
  have hx0 : 0 ≤ v % 4294967296 := by omega
  have hx1 : v % 4294967296 < 4294967296 := by omega
  by_cases c : fitsP v 32 = true
  · have c1 := (fits32 v).1 c
    have c2 : (wrap32 (v % 4294967296) != v) = false := by simp [c1]
    have hr : sciP v = sciBy (fun f s => backP f s (byteP (v % 4294967296) s) = wrap32 (v % 4294967296)) (byteP (v % 4294967296)) := by
      rw [sci_mod v c1]; simp [sciP, c]
    have H : Hid (sciP v = sciBy (fun f s => backP f s (byteP (v % 4294967296) s) = wrap32 (v % 4294967296)) (byteP (v % 4294967296))) := hr
    clear hr c c1
    go_enter Tryd.func66, Tryd.ntmps66
    go_wp2_with fail
    refine (signed_any _ _).mono ?_
    rintro e w' ⟨rfl, rfl⟩
    go_wp2_with fail
    refine (first_any _ hx0 hx1 _).mono ?_
    rintro e w' ⟨rfl, n, rfl⟩
    rw [← H.out]
    generalize hq : sciP v = r
    obtain ⟨a, b, d, is⟩ := r
    simp only [four]
    go_wp2
    (try simp only [Exit.inBlock, Exit.then])
    refine bodyPost_ret (results_tmp4 rfl _ _ _) rfl ?_
    refine ⟨?_, _, rfl⟩
    simp [four, hq]
  · have c1 : ¬ wrap32 (v % 4294967296) = v := fun h => c ((fits32 v).2 h)
    have c2 : (wrap32 (v % 4294967296) != v) = true := by simp [c1]
    have hr : sciP v = (0, 0, 0, false) := by simp [sciP, c]
    rw [hr]
    clear hr c c1
    go_enter Tryd.func66, Tryd.ntmps66
    go_wp2_with fail
    refine (signed_any _ _).mono ?_
    rintro e w' ⟨rfl, rfl⟩
    go_wp2
    (try simp only [Exit.inBlock, Exit.then])
    refine bodyPost_ret (results_tmp4 rfl _ _ _) rfl ?_
    refine ⟨?_, 0, rfl⟩
    simp [four]

theorem and255 (x : Int) : bits .and .i64 x 255 = x % 256 := and_mask x 8 (by omega)

theorem byte_forms (v : Int) : byteP v 0 = v % 256 ∧ byteP v 1 = v / 256 % 256 ∧ byteP v 2 = v / 65536 % 256 ∧ byteP v 3 = v / 16777216 % 256 := by
  refine ⟨?_, rfl, rfl, rfl⟩
  show v / 1 % 256 = v % 256
  rw [Int.ediv_one]

set_option maxHeartbeats 4000000 in
theorem refSci8_fits (v : Int) (c : fitsP v 32 = true) (w : World) :
    Calls Tryd.prog 40 #[.int .i64 v] w fun e w' => w = w' ∧ e = .returned (four (sciBy (fun f s => backP f s (byteP v s) = v) (byteP v))) := by
  obtain ⟨y0, y1, y2, y3⟩ := byte_forms v
  have hand := and255
  go_enter Tryd.func40, Tryd.ntmps40
  go_wp2_with fail
  refine (refFits_any v 32 (by omega) (by omega) _).mono ?_
  rintro e w' ⟨rfl, rfl⟩
  go_wp2_with fail
  refine wp_loop_rounds 3 ?_
  rw [rounds_succ]
  go_wp2_with fail
  refine wp_loop_rounds 5 ?_
  rw [rounds_succ]
  go_wp2_with fail
  refine (refBack_any 0 0 (v % 256) (by omega) (by omega) (by omega) (by omega) (by omega) (by omega) _).mono ?_
  rintro e w' ⟨rfl, rfl⟩
  by_cases c00 : backP 0 0 (v % 256) = v
  · have d : (backP 0 0 (v % 256) == v) = true := by simp [c00]
    go_wp2_with fail
    (try simp only [Exit.inBlock, Exit.then])
    refine bodyPost_ret (results_tmp4 rfl _ _ _) rfl ?_
    refine ⟨rfl, ?_⟩
    simp [four, sciBy, y0, y1, y2, y3, c00]
  have d00 : (backP 0 0 (v % 256) == v) = false := by simp [c00]
  go_wp2_with fail
  rw [rounds_succ]
  go_wp2_with fail
  refine (refBack_any 0 1 (v / 256 % 256) (by omega) (by omega) (by omega) (by omega) (by omega) (by omega) _).mono ?_
  rintro e w' ⟨rfl, rfl⟩
  by_cases c01 : backP 0 1 (v / 256 % 256) = v
  · have d : (backP 0 1 (v / 256 % 256) == v) = true := by simp [c01]
    go_wp2_with fail
    (try simp only [Exit.inBlock, Exit.then])
    refine bodyPost_ret (results_tmp4 rfl _ _ _) rfl ?_
    refine ⟨rfl, ?_⟩
    simp [four, sciBy, y0, y1, y2, y3, c00, c01]
  have d01 : (backP 0 1 (v / 256 % 256) == v) = false := by simp [c01]
  go_wp2_with fail
  rw [rounds_succ]
  go_wp2_with fail
  refine (refBack_any 0 2 (v / 65536 % 256) (by omega) (by omega) (by omega) (by omega) (by omega) (by omega) _).mono ?_
  rintro e w' ⟨rfl, rfl⟩
  by_cases c02 : backP 0 2 (v / 65536 % 256) = v
  · have d : (backP 0 2 (v / 65536 % 256) == v) = true := by simp [c02]
    go_wp2_with fail
    (try simp only [Exit.inBlock, Exit.then])
    refine bodyPost_ret (results_tmp4 rfl _ _ _) rfl ?_
    refine ⟨rfl, ?_⟩
    simp [four, sciBy, y0, y1, y2, y3, c00, c01, c02]
  have d02 : (backP 0 2 (v / 65536 % 256) == v) = false := by simp [c02]
  go_wp2_with fail
  rw [rounds_succ]
  go_wp2_with fail
  refine (refBack_any 0 3 (v / 16777216 % 256) (by omega) (by omega) (by omega) (by omega) (by omega) (by omega) _).mono ?_
  rintro e w' ⟨rfl, rfl⟩
  by_cases c03 : backP 0 3 (v / 16777216 % 256) = v
  · have d : (backP 0 3 (v / 16777216 % 256) == v) = true := by simp [c03]
    go_wp2_with fail
    (try simp only [Exit.inBlock, Exit.then])
    refine bodyPost_ret (results_tmp4 rfl _ _ _) rfl ?_
    refine ⟨rfl, ?_⟩
    simp [four, sciBy, y0, y1, y2, y3, c00, c01, c02, c03]
  have d03 : (backP 0 3 (v / 16777216 % 256) == v) = false := by simp [c03]
  go_wp2_with fail
  rw [rounds_succ]
  go_wp2_with fail
  rw [rounds_succ]
  go_wp2_with fail
  refine wp_loop_rounds 5 ?_
  rw [rounds_succ]
  go_wp2_with fail
  refine (refBack_any 1 0 (v % 256) (by omega) (by omega) (by omega) (by omega) (by omega) (by omega) _).mono ?_
  rintro e w' ⟨rfl, rfl⟩
  by_cases c10 : backP 1 0 (v % 256) = v
  · have d : (backP 1 0 (v % 256) == v) = true := by simp [c10]
    go_wp2_with fail
    (try simp only [Exit.inBlock, Exit.then])
    refine bodyPost_ret (results_tmp4 rfl _ _ _) rfl ?_
    refine ⟨rfl, ?_⟩
    simp [four, sciBy, y0, y1, y2, y3, c00, c01, c02, c03, c10]
  have d10 : (backP 1 0 (v % 256) == v) = false := by simp [c10]
  go_wp2_with fail
  rw [rounds_succ]
  go_wp2_with fail
  refine (refBack_any 1 1 (v / 256 % 256) (by omega) (by omega) (by omega) (by omega) (by omega) (by omega) _).mono ?_
  rintro e w' ⟨rfl, rfl⟩
  by_cases c11 : backP 1 1 (v / 256 % 256) = v
  · have d : (backP 1 1 (v / 256 % 256) == v) = true := by simp [c11]
    go_wp2_with fail
    (try simp only [Exit.inBlock, Exit.then])
    refine bodyPost_ret (results_tmp4 rfl _ _ _) rfl ?_
    refine ⟨rfl, ?_⟩
    simp [four, sciBy, y0, y1, y2, y3, c00, c01, c02, c03, c10, c11]
  have d11 : (backP 1 1 (v / 256 % 256) == v) = false := by simp [c11]
  go_wp2_with fail
  rw [rounds_succ]
  go_wp2_with fail
  refine (refBack_any 1 2 (v / 65536 % 256) (by omega) (by omega) (by omega) (by omega) (by omega) (by omega) _).mono ?_
  rintro e w' ⟨rfl, rfl⟩
  by_cases c12 : backP 1 2 (v / 65536 % 256) = v
  · have d : (backP 1 2 (v / 65536 % 256) == v) = true := by simp [c12]
    go_wp2_with fail
    (try simp only [Exit.inBlock, Exit.then])
    refine bodyPost_ret (results_tmp4 rfl _ _ _) rfl ?_
    refine ⟨rfl, ?_⟩
    simp [four, sciBy, y0, y1, y2, y3, c00, c01, c02, c03, c10, c11, c12]
  have d12 : (backP 1 2 (v / 65536 % 256) == v) = false := by simp [c12]
  go_wp2_with fail
  rw [rounds_succ]
  go_wp2_with fail
  refine (refBack_any 1 3 (v / 16777216 % 256) (by omega) (by omega) (by omega) (by omega) (by omega) (by omega) _).mono ?_
  rintro e w' ⟨rfl, rfl⟩
  by_cases c13 : backP 1 3 (v / 16777216 % 256) = v
  · have d : (backP 1 3 (v / 16777216 % 256) == v) = true := by simp [c13]
    go_wp2_with fail
    (try simp only [Exit.inBlock, Exit.then])
    refine bodyPost_ret (results_tmp4 rfl _ _ _) rfl ?_
    refine ⟨rfl, ?_⟩
    simp [four, sciBy, y0, y1, y2, y3, c00, c01, c02, c03, c10, c11, c12, c13]
  have d13 : (backP 1 3 (v / 16777216 % 256) == v) = false := by simp [c13]
  go_wp2_with fail
  rw [rounds_succ]
  go_wp2_with fail
  rw [rounds_succ]
  go_wp2_with fail
  (try simp only [Exit.inBlock, Exit.then])
  refine bodyPost_ret (results_tmp4 rfl _ _ _) rfl ?_
  refine ⟨rfl, ?_⟩
  simp [four, sciBy, y0, y1, y2, y3, c00, c01, c02, c03, c10, c11, c12, c13]

theorem refSci8_any (v : Int) (w : World) :
    Calls Tryd.prog 40 #[.int .i64 v] w fun e w' => w = w' ∧ e = .returned (four (sciP v)) := by
  by_cases c : fitsP v 32 = true
  · have hr : sciP v = sciBy (fun f s => backP f s (byteP v s) = v) (byteP v) := by simp [sciP, c]
    rw [hr]
    exact refSci8_fits v c w
  · have hr : sciP v = (0, 0, 0, false) := by simp [sciP, c]
    have c1 : fitsP v 32 = false := by simpa using c
    rw [hr]
    clear hr c
    go_enter Tryd.func40, Tryd.ntmps40
    go_wp2_with fail
    refine (refFits_any v 32 (by omega) (by omega) _).mono ?_
    rintro e w' ⟨rfl, rfl⟩
    go_wp2
    (try simp only [Exit.inBlock, Exit.then])
    refine bodyPost_ret (results_tmp4 rfl _ _ _) rfl ?_
    refine ⟨rfl, ?_⟩
    simp [four]

end Go.Proofs.YtnmclpphiajleaaDoor
