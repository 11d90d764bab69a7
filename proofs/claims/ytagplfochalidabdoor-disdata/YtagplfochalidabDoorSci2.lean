/- Contracts of Sci8, of the program and of the reference. -/
import Derived.Test.YtagplfochalidabDoorSci
namespace Go.Proofs.YtagplfochalidabDoor
open Go.ChangeShapes Go.WideShapes Go.ChangeAt Go.RowKit
open Plain
set_option linter.unusedVariables false
set_option linter.unusedSimpArgs false

theorem immSci8_any (v : Int) (w : World) :
    Calls Tryd.prog 62 #[.int .i64 v] w fun e w' => e = .returned (four (sciP v)) ∧ ∃ n, w' = w.drewN n := by
  have hx0 : 0 ≤ v % 4294967296 := by omega
  have hx1 : v % 4294967296 < 4294967296 := by omega
  by_cases c : fitsP v 32 = true
  · have c1 := (fits32 v).1 c
    have c2 : (wrap32 (v % 4294967296) != v) = false := by simp [c1]
    have hr : sciP v = sciBy (fun f s => backP f s (byteP (v % 4294967296) s) = wrap32 (v % 4294967296)) (byteP (v % 4294967296)) := by
      rw [sci_mod v c1]; simp [sciP, c]
    have H : Hid (sciP v = sciBy (fun f s => backP f s (byteP (v % 4294967296) s) = wrap32 (v % 4294967296)) (byteP (v % 4294967296))) := hr
    clear hr c c1
    go_enter Tryd.func62, Tryd.ntmps62
    go_wp2_with fail
    refine (signed_any _ _).mono ?_
    rintro e w' ⟨rfl, rfl⟩
    go_wp2_with fail
    refine (first_any _ hx0 hx1 _).mono ?_
    rintro e w' ⟨rfl, n, rfl⟩
    rw [← H.out]
    generalize hq : sciP v = r
    obtain ⟨a, b, d, is⟩ := r
    simp only [four]
    go_wp2
    (try simp only [Exit.inBlock, Exit.then])
    refine bodyPost_ret (results_tmp4 rfl _ _ _) rfl ?_
    refine ⟨?_, _, rfl⟩
    simp [four, hq]
  · have c1 : ¬ wrap32 (v % 4294967296) = v := fun h => c ((fits32 v).2 h)
    have c2 : (wrap32 (v % 4294967296) != v) = true := by simp [c1]
    have hr : sciP v = (0, 0, 0, false) := by simp [sciP, c]
    rw [hr]
    clear hr c c1
    go_enter Tryd.func62, Tryd.ntmps62
    go_wp2_with fail
    refine (signed_any _ _).mono ?_
    rintro e w' ⟨rfl, rfl⟩
    go_wp2
    (try simp only [Exit.inBlock, Exit.then])
    refine bodyPost_ret (results_tmp4 rfl _ _ _) rfl ?_
    refine ⟨?_, 0, rfl⟩
    simp [four]

end Go.Proofs.YtagplfochalidabDoor
