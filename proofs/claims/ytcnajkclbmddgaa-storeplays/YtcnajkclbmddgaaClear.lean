/- clear over the first versions of a history. -/
import Derived.Test.YtcnajkclbmddgaaTake2
import Derived.Laws.CopyRow
namespace Go.Proofs.Ytcnajkclbmddgaa
open Go.ChangeShapes Go.WideShapes Go.ChangeAt Go.RowKit
set_option linter.unusedVariables false
set_option linter.unusedSimpArgs false

theorem zero_ver (w : World) : (zeroValue 81).run Try.prog w = .ok (.agg #[.int .i64 0, .string ⟨#[]⟩, .bool false]) w := by kernel_rfl

def zc : Array Value := #[.int .i64 0, .string ⟨#[]⟩, .bool false]
theorem zc_len (n : Nat) : (Builtin.zeroCells zc n).toList.length = n * 3 := by
  unfold Builtin.zeroCells
  simp [zc]
theorem zc_one (n : Nat) : ∀ v ∈ (Builtin.zeroCells zc n).toList, v.oneCell' = true := by
  intro v hv
  unfold Builtin.zeroCells at hv
  simp only [Array.toList_map, List.mem_map] at hv
  obtain ⟨i, _, rfl⟩ := hv
  have h3 : i % zc.size < 3 := Nat.mod_lt _ (by decide)
  generalize i % zc.size = m at h3
  match m, h3 with
  | 0, _ => rfl
  | 1, _ => rfl
  | 2, _ => rfl

/-- What clear lays over cells from o on, n versions. -/
theorem run_clear (g o n c : Nat) (cur : Array Value) (w : World) (hb : w.heap[g]? = some (.cells cur 81 (0, 0))) (hl : o + n * 3 ≤ cur.size) (ty : TypeId) :
    ∃ cur' : Array Value, (Builtin.clear_ #[87] ty #[.slice (some ⟨g, o, none⟩) n c]).run Try.prog w = .ok (.tuple #[]) (w.setRow g cur') ∧ cur'.size = cur.size ∧ ∀ i, o + n * 3 ≤ i → cur'[i]? = cur[i]? := by
  cases n with
  | zero =>
    refine ⟨cur, ?_, rfl, fun _ _ => rfl⟩
    rw [setRow_self w g cur _ (0, 0) hb]
    simp [Builtin.clear_, run_underlying Try.underlying87, Result.andThen]
  | succ n =>
    have h := run_storeCells_at (P := Try.prog) g o 81 (Builtin.zeroCells zc (n + 1)).toList 0 cur w hb (by rw [zc_len]; omega) (zc_one _)
    refine ⟨(cur.toList.take (o + 0) ++ (Builtin.zeroCells zc (n + 1)).toList ++ cur.toList.drop (o + 0 + (Builtin.zeroCells zc (n + 1)).toList.length)).toArray, ?_, ?_, ?_⟩
    · have hz := zero_ver w
      have hzc : (Value.agg #[.int .i64 0, .string ⟨#[]⟩, .bool false]).cells = zc := rfl
      simp [Builtin.clear_, run_underlying Try.underlying87, Result.andThen, hz, hzc, h]
    · have hsz : (Builtin.zeroCells zc (n + 1)).size = (n + 1) * 3 := by rw [← Array.length_toList]; exact zc_len _
      simp only [List.size_toArray, List.length_append, List.length_take, List.length_drop, Array.length_toList, hsz]
      omega
    · intro i hi
      have hsz : (Builtin.zeroCells zc (n + 1)).size = (n + 1) * 3 := by rw [← Array.length_toList]; exact zc_len _
      simp only [List.getElem?_toArray, Nat.add_zero]
      rw [List.getElem?_append_right (by simp only [List.length_append, List.length_take, Array.length_toList, hsz]; omega), List.getElem?_drop]
      simp only [List.length_append, List.length_take, Array.length_toList, hsz]
      rw [Array.getElem?_toList]
      congr 1
      omega
end Go.Proofs.Ytcnajkclbmddgaa
