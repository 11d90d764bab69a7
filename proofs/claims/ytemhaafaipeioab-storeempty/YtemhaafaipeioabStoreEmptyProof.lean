/- For every two texts the law StoreEmpty returns true, and both read afterwards as before: a key whose value is empty is there, one that was never written is not. -/
import Derived.Test.YtemhaafaipeioabRows
import Derived.WalkKit
import Derived.ProofKit
import Derived.OpenShut
import Derived.Carry
import Derived.BigQuiet
import Derived.BigRegion
import Derived.Deep.LoopGhost
import Derived.Lib.QuietBelow
import Derived.Test.YtemhaafaipeioabKnown
import Derived.Test.YtemhaafaipeioabArgs
namespace Go.Proofs.Ytemhaafaipeioab.storeEmpty
open Go.ChangeShapes Go.WideShapes Go.ChangeAt Go.RowKit
open Go.ChangeMaps (open_string shut_string)
open Go.Sort (grow)
set_option linter.unusedVariables false
set_option linter.unusedSimpArgs false

theorem own : ownKnob Try.prog.godebug = none := by kernel_rfl

/-! ### The walk -/
set_option maxHeartbeats 8000000 in
set_option maxRecDepth 20000 in
theorem walk (a0 : ByteArray) (w0 : a0.size ≤ maxLen) (a1 : ByteArray) (w1 : a1.size ≤ maxLen) (w : World) :
    Calls Try.prog 6 #[.string a0, .string a1] w fun e w' => e = .returned (.bool true) ∧ Below w.heap.size w w' := by
  have K := known_any w
  by_cases h0 : (100 : Int) < (a0.size : Int)
  · clear w0 w1
    go_enter Try.func6, Try.ntmps6
    go_wp2_with fail
    refine K.mono ?_
    rintro e w1 ⟨rfl, hb1⟩
    clear K
    go_wp2_with fail
    go_ret
    exact ⟨rfl, hb1⟩
  by_cases h1 : (100 : Int) < (a1.size : Int)
  · clear w0 w1
    go_enter Try.func6, Try.ntmps6
    go_wp2_with fail
    refine K.mono ?_
    rintro e w1 ⟨rfl, hb1⟩
    clear K
    go_wp2_with fail
    go_ret
    exact ⟨rfl, hb1⟩
  have HZ : Hid (a0.size ≤ 100 ∧ a1.size ≤ 100) := ⟨by omega, by omega⟩
  clear w0 w1
  go_enter Try.func6, Try.ntmps6
  go_wp2_with fail
  refine K.mono ?_
  rintro e w1 ⟨rfl, hb1⟩
  clear K
  have N := new_own w.heap.size w w1 10 (by omega) hb1 hb1.size
  clear hb1
  go_wp2_with fail
  refine N.mono ?_
  rintro e w2 ⟨p, S, rfl, O, ht, hp, -, -⟩
  clear N
  have R := read_own O a0 0 (by have := HZ.out; unfold maxLen; omega)
  have e3 : readP ⟨10, 0, [], []⟩ a0 0 = (⟨#[]⟩, false) := rfl
  rw [e3] at R
  clear e3
  go_wp2_with fail
  refine R.mono ?_
  rintro e w3 ⟨rfl, hb3⟩
  clear R
  replace O := O.later hb3
  have hnl : ∀ g o, (some ⟨w3.heap.size, 0, none⟩ : Option Addr) = some ⟨g, o, none⟩ → ¬ (S.lab g).isSome := fun g o e h => by
    have := O.store.lt g h
    injection e with e
    injection e with e1 e2
    omega
  have bn := below_new w3 (.cells #[.string a0, .string ⟨#[]⟩, .bool false] 37)
  have CM := commit_own (O.later bn) (some ⟨w3.heap.size, 0, none⟩) 1 [⟨a0, ⟨#[]⟩, false⟩] (ws_one w3 ⟨a0, ⟨#[]⟩, false⟩) hnl (by intro x hx; simp at hx; subst hx; exact ⟨by have := HZ.out; show a0.size ≤ _; omega, by show (0 : Nat) ≤ _; omega⟩) (by rw [ht]; show (0 : Nat) + 1 ≤ _; omega) (by show (0 : Int) ≤ _; omega)
  simp only [List.length_cons, List.length_nil, Nat.zero_add] at CM
  have ecm : commitP ⟨10, 0, [], []⟩ [⟨a0, ⟨#[]⟩, false⟩] = (⟨10, 1, [⟨⟨a0, ⟨#[]⟩, false⟩, 1⟩], []⟩, 1, 0) := rfl
  rw [ecm] at CM
  clear O hnl bn ht hp ecm hb3
  go_wp2_with fail
  refine CM.mono ?_
  rintro e w4 ⟨S1, rfl, O1, -, -, -⟩
  clear CM
  generalize hs1 : (⟨10, 1, [⟨⟨a0, ⟨#[]⟩, false⟩, 1⟩], []⟩ : Sto) = s1 at O1
  have e3 : readP s1 a0 1 = (⟨#[]⟩, true) := by
    rw [← hs1]; simp [readP, lastP, Ver.hit]
  have e4 : (readP s1 a1 1).2 = decide (a0 = a1) := by
    rw [← hs1]
    by_cases h : a0 = a1 <;> simp [readP, lastP, Ver.hit, h]
  clear hs1
  have R := read_own O1 a0 1 (by have := HZ.out; unfold maxLen; omega)
  rw [e3] at R
  clear e3
  go_wp2_with fail
  refine R.mono ?_
  rintro e w5 ⟨rfl, hb5⟩
  clear R
  replace O1 := O1.later hb5
  have R := read_own O1 a1 1 (by have := HZ.out; unfold maxLen; omega)
  rw [e4] at R
  clear e4 hb5
  generalize (readP s1 a1 1).1 = rv at R
  go_wp2_with fail
  refine R.mono ?_
  rintro e w6 ⟨rfl, hb6⟩
  clear R
  replace O1 := O1.later hb6
  clear hb6
  have OO : Hid (Below w.heap.size w w6) := O1.below
  clear O1
  by_cases he : a0 = a1
  · subst he
    have e5 : decide (a0 = a0) = true := decide_eq_true rfl
    have e6 : (a0.toList == a0.toList) = true := by simp
    rw [e5]
    go_wp2_with fail
    go_ret
    exact ⟨rfl, OO.out⟩
  · have e5 : decide (a0 = a1) = false := decide_eq_false he
    have e6 : (a0.toList == a1.toList) = false := by
      simp
      intro h
      apply he
      rw [ByteArray.toList_eq, ByteArray.toList_eq] at h
      cases a0; cases a1
      congr 1
      exact Array.toList_inj.1 h
    rw [e5]
    go_wp2_with fail
    go_ret
    exact ⟨rfl, OO.out⟩

/-! ### The row's step -/
set_option maxRecDepth 100000 in
theorem lifted (os : Os) (started : os.Started) (H : Type) (enc : TypeId × Value → H) :
    ReturnsInHanded {} Try.checked os 6 .any (Rows.storeEmptySpec.pre6 enc Try.prog Try.f6 Rows.storeEmptyRow.domain false) (Rows.storeEmptySpec.post enc Try.prog Try.f6 false true false false) := by
  refine returnsInHanded_of_change (C := Try.checked) own started (by kernel_rfl) Try.func6
    (ChangeSpec.witness6 (enc := enc) (C := Try.checked) false ⟨#[], #[.string ByteArray.empty, .string ByteArray.empty], []⟩ 8 (by kernel_rfl) (by kernel_rfl) (by kernel_rfl) (by kernel_rfl)) ?_
  intro W base args ds gs before hval0 hW hcnd _
  have hval : ∀ (j : Nat) t v, Try.f6.params[j]? = some t → args[j]? = some v → Value.okWide Try.prog W .any base t v := hval0
  have hW' := hW
  obtain ⟨p, q, hA0, hV, rfl, hfz, hnd⟩ := hW
  have hA : DataW.TrodAll enc Try.prog W 0 (fun _ => true) true Try.f6.params.toList args.toList ds p := hA0
  rw [Try.params6] at hA hval
  obtain ⟨v0, vs0, d0, ds0, p0, q0, hargs, rfl, rfl, h0, r0⟩ := trodAll_cons hA
  obtain ⟨v1, vs1, d1, ds1, p1, q1, rfl, rfl, rfl, h1, r1⟩ := trodAll_cons r0
  obtain ⟨rfl, rfl, rfl⟩ := trodAll_nil r1
  obtain rfl : args = #[v0, v1] := by cases args; simp_all
  obtain ⟨rfl, rfl⟩ := trodVars_none hV
  obtain ⟨a0, rfl, rfl, rfl, w0⟩ := open_string Try.underlying9 (hval 0 9 v0 rfl rfl) h0
  obtain ⟨a1, rfl, rfl, rfl, w1⟩ := open_string Try.underlying9 (hval 1 9 v1 rfl rfl) h1
  clear hA0 hval0
  simp only [List.append_nil, List.nil_append] at hW'
  refine (walk a0 w0 a1 w1 W).mono fun e W' ⟨he, hg⟩ => ?_
  subst he
  exact ⟨_, rfl, _, _, _, [], _, [], hW', (trodAll_cons_mk (shut_bool Try.underlying4 _) trodAll_mk0), (trodAll_cons_mk (shut_string Try.underlying9 w0) (trodAll_cons_mk (shut_string Try.underlying9 w1) trodAll_mk0)), rfl, hg.frame _, fun h => by cases h⟩

theorem row : Rows.StoreEmptySaid :=
  OpenClaim.holds_of_wide 6 Try.f6 rfl rfl rfl rfl rfl rfl rfl ⟨rfl, rfl, rfl, rfl, rfl⟩ rfl rfl rfl rfl rfl (by kernel_rfl) Try.func6 (by kernel_rfl)
    (of_decide_eq_true (by kernel_rfl)) (by unfold Func.isWrapper; first | (rw [if_pos (by decide +kernel)]; kernel_rfl) | (rw [if_neg (by decide +kernel)]; exact ⟨rfl, rfl⟩))
    (fun os started H enc _ => lifted os started H enc)

/-- The statement. -/
theorem proved : Rows.StoreEmptySaid :=
  row
#print axioms proved
end Go.Proofs.Ytemhaafaipeioab.storeEmpty
