/- slices.Clone of versions. -/
import Derived.Test.YtcnajkclbmddgaaClear2
import Derived.Lib.SliceRun
namespace Go.Proofs.Ytcnajkclbmddgaa
open Go.ChangeShapes Go.WideShapes Go.ChangeAt Go.RowKit
set_option linter.unusedVariables false
set_option linter.unusedSimpArgs false

theorem encVs_one : ∀ (l : List Vr), ∀ u ∈ encVs l, u.oneCell' = true
  | [], u, h => by simp [encVs] at h
  | x :: l, u, h => by
    simp only [encVs, List.mem_cons] at h
    rcases h with rfl | rfl | rfl | h
    · rfl
    · rfl
    · rfl
    · exact encVs_one l u h

set_option maxHeartbeats 1600000 in
set_option maxRecDepth 20000 in
theorem cloneV_any (g o c : Nat) (l : List Vr) (w : World) (hf : l.length < 1000000) (hc : ∀ j u, (encVs l)[j]? = some u → w.cell? ⟨g, o + j, none⟩ = some u) :
    Calls Try.prog 58 #[.slice (some ⟨g, o, none⟩) l.length c] w fun e w' => ∃ v', e = .returned v' ∧ w'.ownsRow w.heap.size 81 3 v' l.length (encVs l) ∧ v' ≠ .slice none 0 0 ∧ Below w.heap.size w w' := by
  have A : Aside (∀ j u, (encVs l)[j]? = some u → w.cell? ⟨g, o + j, none⟩ = some u) := hc
  have hlen := encVs_len l
  have hone := encVs_one l
  replace hf : Hid (l.length < 1000000) := hf
  clear hc
  obtain ⟨i0, hi0, hz0, hz2, hz3⟩ := info_parts info_ver
  have q22 : ∀ (w : World) (a : Option Addr) (n c n' c' : Nat), (binOp .eql 87 (.slice a n c) (.slice none n' c')).run Try.prog w = .ok (.bool a.isNone) w := fun w a n c n' c' => Lib.run_eql_slice_nil w _ _ a n c n' c' Try.underlying87
  generalize encVs l = news at *
  generalize l.length = n at *
  go_enter Try.func58, Try.ntmps58
  go_wp2_with (at_builtin; refine wpList_append_own _ rfl _ _ 87 rfl w.heap.size 81 i0 (.agg #[.int .i64 0, .string ⟨#[]⟩, .bool false]) 3 32 Try.underlying87 hi0 hz0 hz2 hz3 rfl (by decide) _ _ _ rfl (World.ownsRow_made w #[] 0 (Nat.le_refl _) (Nat.zero_le _) (by simp)) ⟨g, o, none⟩ n c news rfl ?qc1 ?qc2 ?qc3 ?qc4 ?qc5 ?qc6 ?_)
  case qc1 => exact hlen
  case qc2 =>
    intro j u hj
    rw [cell_add]
    exact kept_alloc (A.out j u hj)
  case qc3 => exact hone
  case qc4 => have := hf.out; unfold maxLen; omega
  case qc5 => have := hf.out; omega
  case qc6 => simp
  intro v' w1 hown hgrow hnil
  go_wp2
  go_ret
  refine ⟨v', rfl, by simpa using hown, ?_, ?_⟩
  · exact hnil
  · exact ((Below.refl _ w).alloc (Nat.le_refl _) _).grown hgrow (by simp) (by intro k hk; simp [Value.ownBlock] at hk; omega)
end Go.Proofs.Ytcnajkclbmddgaa
