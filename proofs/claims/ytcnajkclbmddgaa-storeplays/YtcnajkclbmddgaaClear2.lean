/- clear over the first versions of a history: what lies there then. -/
import Derived.Test.YtcnajkclbmddgaaClear
namespace Go.Proofs.Ytcnajkclbmddgaa
open Go.ChangeShapes Go.WideShapes Go.ChangeAt Go.RowKit
set_option linter.unusedVariables false
set_option linter.unusedSimpArgs false

def zv : Vr := ⟨0, ⟨#[]⟩, false⟩

theorem zc_enc : ∀ n, (Builtin.zeroCells zc n).toList = encVs (List.replicate n zv)
  | 0 => by simp [Builtin.zeroCells, encVs]
  | n + 1 => by
    have ih := zc_enc n
    rw [List.replicate_succ', encVs_append, ← ih]
    unfold Builtin.zeroCells
    have e : (n + 1) * zc.size = n * 3 + 1 + 1 + 1 := by show (n + 1) * 3 = _; omega
    have e2 : n * zc.size = n * 3 := rfl
    simp only [Array.toList_map, Array.toList_range, e, e2, List.range_succ, List.map_append, List.map_cons, List.map_nil, List.append_assoc]
    have h0 : zc[n * 3 % zc.size]! = .int .i64 0 := by
      have : n * 3 % zc.size = 0 := by show n * 3 % 3 = 0; omega
      rw [this]; rfl
    have h1 : zc[(n * 3 + 1) % zc.size]! = .string ⟨#[]⟩ := by
      have : (n * 3 + 1) % zc.size = 1 := by show (n * 3 + 1) % 3 = 1; omega
      rw [this]; rfl
    have h2 : zc[(n * 3 + 1 + 1) % zc.size]! = .bool false := by
      have : (n * 3 + 1 + 1) % zc.size = 2 := by show (n * 3 + 1 + 1) % 3 = 2; omega
      rw [this]; rfl
    rw [h0, h1, h2]
    rfl

/-- What a history's row holds behind its first ones were cleared. -/
def cleared (off n : Nat) (all : List Vr) : List Vr := all.take off ++ List.replicate n zv ++ all.drop (off + n)
theorem cleared_len {off n : Nat} {all : List Vr} (h : off + n ≤ all.length) : (cleared off n all).length = all.length := by
  unfold cleared
  simp only [List.length_append, List.length_take, List.length_replicate, List.length_drop]
  omega
theorem cleared_drop {off n : Nat} {all : List Vr} (h : off + n ≤ all.length) : (cleared off n all).drop (off + n) = all.drop (off + n) := by
  unfold cleared
  rw [List.drop_append_of_le_length (by simp; omega), List.drop_eq_nil_of_le (by simp; omega), List.nil_append]

theorem encVs_inj3 {off n : Nat} {all : List Vr} (h : off + n ≤ all.length) (R : List Value) :
    (encVs all ++ R).take (off * 3) ++ encVs (List.replicate n zv) ++ (encVs all ++ R).drop (off * 3 + n * 3) = encVs (cleared off n all) ++ R := by
  have e : all = all.take off ++ ((all.drop off).take n ++ all.drop (off + n)) := by
    rw [← List.drop_drop, List.take_append_drop, List.take_append_drop]
  have l1 : (encVs (all.take off)).length = off * 3 := by rw [encVs_len, List.length_take]; congr 1; omega
  have l2 : (encVs ((all.drop off).take n)).length = n * 3 := by rw [encVs_len, List.length_take, List.length_drop]; congr 1; omega
  unfold cleared
  rw [encVs_append, encVs_append]
  have e2 : encVs all = encVs (all.take off) ++ (encVs ((all.drop off).take n) ++ encVs (all.drop (off + n))) := by
    conv => lhs; rw [e]
    rw [encVs_append, encVs_append]
  rw [e2]
  generalize encVs (all.take off) = A at *
  generalize encVs ((all.drop off).take n) = M at *
  generalize encVs (all.drop (off + n)) = D at *
  rw [List.append_assoc A (M ++ D) R, List.append_assoc M D R, List.take_append_of_le_length (by omega), List.take_of_length_le (by omega), ← List.append_assoc A M (D ++ R), List.drop_append_of_le_length (by simp; omega), List.drop_eq_nil_of_le (by simp; omega)]
  simp

theorem run_clear2 (g off n c : Nat) (cur : Array Value) (all : List Vr) (R : List Value) (w : World) (hb : w.heap[g]? = some (.cells cur 81 (0, 0))) (hc : cur.toList = encVs all ++ R) (hl : off + n ≤ all.length) (ty : TypeId) :
    (Builtin.clear_ #[87] ty #[.slice (some ⟨g, off * 3, none⟩) n c]).run Try.prog w = .ok (.tuple #[]) (w.setRow g (encVs (cleared off n all) ++ R).toArray) := by
  have hsz : cur.size = all.length * 3 + R.length := by rw [← Array.length_toList, hc, List.length_append, encVs_len]
  have hX := encVs_inj3 hl R
  rw [← hc] at hX
  cases n with
  | zero =>
    have e : (encVs (cleared off 0 all) ++ R).toArray = cur := by
      rw [← hX]
      simp [encVs]
    rw [e, setRow_self w g cur _ (0, 0) hb]
    simp [Builtin.clear_, run_underlying Try.underlying87, Result.andThen]
  | succ n =>
    have h := run_storeCells_at (P := Try.prog) g (off * 3) 81 (Builtin.zeroCells zc (n + 1)).toList 0 cur w hb (by rw [zc_len, hsz]; omega) (zc_one _)
    have hz := zero_ver w
    have hzc : (Value.agg #[.int .i64 0, .string ⟨#[]⟩, .bool false]).cells = zc := rfl
    rw [← hX]
    rw [zc_enc] at h
    have hzl : (encVs (List.replicate (n + 1) zv)).length = (n + 1) * 3 := by rw [encVs_len]; simp
    rw [hzl] at h
    have hze : Builtin.zeroCells zc (n + 1) = (encVs (List.replicate (n + 1) zv)).toArray := by rw [← zc_enc]
    simp [Builtin.clear_, run_underlying Try.underlying87, Result.andThen, hz, hzc, hze, h]
end Go.Proofs.Ytcnajkclbmddgaa
