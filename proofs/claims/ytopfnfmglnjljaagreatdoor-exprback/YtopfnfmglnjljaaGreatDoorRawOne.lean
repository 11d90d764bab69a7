/- The law's own One: an expression, of raw ones. -/
import Derived.Test.YtopfnfmglnjljaaGreatDoorMake
namespace Go.Proofs.YtopfnfmglnjljaaGreatDoor
open Go.ChangeShapes Go.WideShapes Go.ChangeAt Go.RowKit
set_option linter.unusedVariables false
set_option linter.unusedSimpArgs false

/-- One: of a row of raw ones. -/
def oneP : Fo → Ex
  | .nil => .num 1
  | .cons k n l _ => makeP l k n

set_option maxRecDepth 20000 in
theorem one_any (l : Fo) (v : Value) (w : World) (hR : RawsAt w v l) :
    Calls Tryz.prog 10 #[v] w fun e w' => Below w.heap.size w w' ∧ ∃ v, e = .returned v ∧ ExAt (w.heap.size ≤ ·) w' v (oneP l) := by
  obtain ⟨p, cap, rfl, hm, hA⟩ := hR
  have n0 := below_new w (.cells #[.int .i64 0, .int .i64 0, .string ⟨#[]⟩, .slice none 0 0] 27)
  have R0 := Blk.new w 27 (.int .i64 0) (.int .i64 0) (.string ⟨#[]⟩) (.slice none 0 0)
  cases l with
  | nil =>
    clear hA
    simp only [Fo.len]
    go_enter Tryz.func10, Tryz.ntmps10
    go_wp2_with fail
    exact bodyPost_ret (v := .agg #[.int .i64 1, .int .i64 1, .string ⟨#[]⟩, .slice none 0 0]) (by simp [results, Tryz.results10, go_sem]) rfl ⟨below_new w _, _, rfl, rfl⟩
  | cons k n l r =>
    obtain ⟨b, o, rfl, z⟩ := hA (by simp [Fo.len])
    obtain ⟨z0, z1, ⟨p', cap', z2, hm', h4⟩, _⟩ := z.later n0
    have M := make_any (l.count + 1) l (by omega) k n p' cap' _ hm' h4
    have hlen : ((Fo.cons k n l r).len == 0) = false := by simp [Fo.len]
    have hlI : (0 : Int) < ((Fo.cons k n l r).len : Int) := by simp [Fo.len]
    have eO : oneP (.cons k n l r) = makeP l k n := rfl
    rw [eO]
    generalize (Fo.cons k n l r).len = len at *
    generalize makeP l k n = x at *
    clear h4 z hA
    go_enter Tryz.func10, Tryz.ntmps10
    go_wp2_with fail
    obtain ⟨W, hW⟩ : ∃ W, W = w.alloc (.cells #[.int .i64 0, .int .i64 0, .string ⟨#[]⟩, .slice none 0 0] 27) := ⟨_, rfl⟩
    have hWs : w.heap.size < W.heap.size := by rw [hW]; exact R0.lt
    rw [← hW] at M R0 n0 ⊢
    clear z0 z1 z2 hW
    refine M.mono ?_
    rintro e w2 ⟨hb2, v, rfl, hx⟩
    obtain ⟨ka, na, ta, qa, la, ma, rfl⟩ := hx.form
    have R1 := R0.later hb2
    obtain ⟨x0, x1, x2, x3, f0, f1, f2, f3⟩ := id R1
    have hl1 := R1.lt
    go_wp2_with fail
    have R2 := R1.put (.int .i64 ka) (.int .i64 na) (.string ta) (.slice qa la ma)
    have hx2 := (hx.put w.heap.size (.int .i64 ka) (.int .i64 na) (.string ta) (.slice qa la ma) (fun i h => by omega)).imp (Q := (w.heap.size ≤ ·)) (fun i h _ => by omega)
    have hB2 := below_put4 (n0.trans (hb2.mono n0.size)) (k := w.heap.size) (by omega) (.int .i64 ka) (.int .i64 na) (.string ta) (.slice qa la ma)
    obtain ⟨y0, y1, y2, y3, _, _, _, _⟩ := R2
    unfold put4 at y0 y1 y2 y3 hx2 hB2
    exact bodyPost_ret (v := .agg #[.int .i64 ka, .int .i64 na, .string ta, .slice qa la ma]) (by simp [results, Tryz.results10, go_sem, y0, y1, y2, y3]) rfl ⟨hB2, _, rfl, hx2⟩
end Go.Proofs.YtopfnfmglnjljaaGreatDoor
