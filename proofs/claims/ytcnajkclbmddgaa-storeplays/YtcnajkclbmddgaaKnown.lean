/- The law's own first look: known. -/
import Derived.Test.YtcnajkclbmddgaaOwn
namespace Go.Proofs.Ytcnajkclbmddgaa
open Go.ChangeShapes Go.WideShapes Go.ChangeAt Go.RowKit
open Go.Sort (grow)
set_option linter.unusedVariables false
set_option linter.unusedSimpArgs false

/-- A write that has just been laid. -/
theorem ws_one (w : World) (x : Wr) : WsAt (w.alloc (.cells #[.string x.key, .string x.val, .bool x.gone] 54)) (some ⟨w.heap.size, 0, none⟩) [x] := by
  have B := Blk.new w #[.string x.key, .string x.val, .bool x.gone] 54
  refine ⟨fun _ => ⟨w.heap.size, 0, rfl, by simp, fun j y hy => ?_⟩⟩
  match j, hy with
  | 0, hy =>
    obtain rfl : x = y := by simpa using hy
    exact ⟨B.cell (i := 0) rfl, B.cell (i := 1) rfl, B.cell (i := 2) rfl⟩
  | j + 1, hy => simp at hy

set_option maxHeartbeats 1600000 in
theorem known_any (w : World) : Calls Try.prog 9 #[] w fun e w' => e = .returned (.bool true) ∧ Below w.heap.size w w' := by
  have N := new_own w.heap.size w w 5 (by omega) (Below.refl _ _) (Nat.le_refl _)
  go_enter Try.func9, Try.ntmps9
  go_wp2_with fail
  refine N.mono ?_
  rintro e w1 ⟨p, S, rfl, O, ht, hp, -, -⟩
  clear N
  have C := count_own O
  have T := now_own O
  go_wp2_with fail
  refine C.mono ?_
  rintro e w2 ⟨rfl, rfl⟩
  clear C
  go_wp2_with fail
  refine T.mono ?_
  rintro e w3 ⟨rfl, rfl⟩
  clear T
  have hnl : ∀ g o, (some ⟨w3.heap.size, 0, none⟩ : Option Addr) = some ⟨g, o, none⟩ → ¬ (S.lab g).isSome := fun g o e h => by
    have := O.store.lt g h
    injection e with e
    injection e with e1 e2
    omega
  have bn := below_new w3 (.cells #[.string ⟨#[97]⟩, .string ⟨#[120]⟩, .bool false] 54)
  have CM := commit_own (O.later bn) (some ⟨w3.heap.size, 0, none⟩) 1 [⟨⟨#[97]⟩, ⟨#[120]⟩, false⟩] (ws_one w3 ⟨⟨#[97]⟩, ⟨#[120]⟩, false⟩) hnl (by intro x hx; simp at hx; subst hx; exact ⟨by show (1 : Nat) ≤ _; omega, by show (1 : Nat) ≤ _; omega⟩) (by rw [ht]; show (0 : Nat) + 1 ≤ _; omega) (by show (0 : Int) ≤ _; omega)
  simp only [List.length_cons, List.length_nil, Nat.zero_add] at CM
  clear O hnl bn ht hp
  go_wp2_with fail
  refine CM.mono ?_
  rintro e w4 ⟨S1, rfl, O1, -, -, -⟩
  clear CM
  have e1 : (commitP ⟨5, 0, [], []⟩ [⟨⟨#[97]⟩, ⟨#[120]⟩, false⟩]).2.1 = 1 := by kernel_rfl
  have e2 : (commitP ⟨5, 0, [], []⟩ [⟨⟨#[97]⟩, ⟨#[120]⟩, false⟩]).2.2 = 0 := by kernel_rfl
  rw [e1, e2]
  clear e1 e2
  generalize hs1 : (commitP ⟨5, 0, [], []⟩ [⟨⟨#[97]⟩, ⟨#[120]⟩, false⟩]).1 = s1 at O1
  replace hs1 : Hid ((commitP ⟨5, 0, [], []⟩ [⟨⟨#[97]⟩, ⟨#[120]⟩, false⟩]).1 = s1) := hs1
  have R1 := read_own O1 ⟨#[97]⟩ 1 (by show (1 : Nat) ≤ _; unfold maxLen; omega)
  have e3 : readP s1 ⟨#[97]⟩ 1 = (⟨#[120]⟩, true) := by rw [← hs1.out]; kernel_rfl
  rw [e3] at R1
  clear e3
  go_wp2_with fail
  refine R1.mono ?_
  rintro e w5 ⟨rfl, hb5⟩
  clear R1
  replace O1 := O1.later hb5
  have R1 := read_own O1 ⟨#[97]⟩ 0 (by show (1 : Nat) ≤ _; unfold maxLen; omega)
  have e3 : readP s1 ⟨#[97]⟩ 0 = (⟨#[]⟩, false) := by rw [← hs1.out]; kernel_rfl
  rw [e3] at R1
  clear e3 hb5
  go_wp2_with fail
  refine R1.mono ?_
  rintro e w6 ⟨rfl, hb6⟩
  clear R1
  replace O1 := O1.later hb6
  have CH := changed_own O1 ⟨#[97]⟩ 0 (by show (1 : Nat) ≤ _; unfold maxLen; omega)
  have e3 : changedP s1 ⟨#[97]⟩ 0 = true := by rw [← hs1.out]; kernel_rfl
  rw [e3] at CH
  clear e3 hb6
  go_wp2_with fail
  refine CH.mono ?_
  rintro e w7 ⟨rfl, n, rfl⟩
  clear CH
  replace O1 := O1.later (below_drewN w6 n)
  have C := count_own O1
  have e3 : s1.v.length = 1 := by rw [← hs1.out]; kernel_rfl
  rw [e3] at C
  clear e3
  go_wp2_with fail
  refine C.mono ?_
  rintro e w8 ⟨rfl, rfl⟩
  clear C
  go_wp2_with fail
  go_ret
  exact ⟨rfl, O1.below⟩
end Go.Proofs.Ytcnajkclbmddgaa
