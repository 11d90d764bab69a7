/- slices.Delete of one pin. -/
import Derived.Test.YtcnajkclbmddgabPinA
import Derived.Laws.CopyRow
import Derived.Deep.DeepAppendRoom
import Derived.WalkSmall
import Derived.Deep.RegionLaw
namespace Go.Proofs.Ytcnajkclbmddgab
open Go.ChangeShapes Go.WideShapes Go.ChangeAt Go.RowKit
set_option linter.unusedVariables false
set_option linter.unusedSimpArgs false

theorem zero_pin (w : World) : (zeroValue 62).run Try.prog w = .ok (.agg #[.int .i64 0, .int .i64 0]) w := by kernel_rfl

/-- What clear lays over one pin. -/
theorem run_clearP (g o c : Nat) (cur : Array Value) (w : World) (hb : w.heap[g]? = some (.cells cur 62 (0, 0))) (hl : o + 2 ≤ cur.size) (ty : TypeId) :
    (Builtin.clear_ #[50] ty #[.slice (some ⟨g, o, none⟩) 1 c]).run Try.prog w = .ok (.tuple #[]) (w.setRow g (cur.toList.take o ++ [Value.int .i64 0, Value.int .i64 0] ++ cur.toList.drop (o + 2)).toArray) := by
  have h := run_storeCells_at (P := Try.prog) g o 62 [.int .i64 0, .int .i64 0] 0 cur w hb (by simp; omega) (by intro v hv; simp at hv; rcases hv with rfl | rfl <;> rfl)
  have hz := zero_pin w
  have hzc : (Value.agg #[.int .i64 0, .int .i64 0]).cells = #[.int .i64 0, .int .i64 0] := rfl
  have hze : (Builtin.zeroCells #[.int .i64 0, .int .i64 0] 1) = #[Value.int .i64 0, Value.int .i64 0] := by
    kernel_rfl
  simp [Builtin.clear_, run_underlying Try.underlying50, Result.andThen, hz, hzc, hze, h]

theorem encP_one : ∀ (l : List Pn), ∀ u ∈ encP l, u.oneCell' = true
  | [], u, h => by simp [encP] at h
  | x :: l, u, h => by
    simp only [encP, List.mem_cons] at h
    rcases h with rfl | rfl | h
    · rfl
    · rfl
    · exact encP_one l u h

/-- Behind the clear the ones ahead are as they were. -/
theorem clear_end {w : World} {g n cap : Nat} {xs : List Value} (h : w.ownsRow 0 62 2 (.slice (some ⟨g, 0, none⟩) n cap) n xs) (hc : n + 1 ≤ cap) (c : Nat) :
    ∃ cur', (∀ ty, (Builtin.clear_ #[50] ty #[.slice (some ⟨g, n * 2, none⟩) 1 c]).run Try.prog w = .ok (.tuple #[]) (w.setRow g cur')) ∧ (w.setRow g cur').ownsRow 0 62 2 (.slice (some ⟨g, 0, none⟩) n cap) n xs := by
  obtain ⟨hl, hr⟩ := h
  rcases hr with ⟨h0, _⟩ | ⟨g', cap', cur, hv, _, hg, hnc, hcm, hcs, htk⟩
  · cases h0
  · cases hv
    refine ⟨_, fun ty => run_clearP g (n * 2) c cur w hg (by omega) ty, hl, .inr ⟨g, cap, _, rfl, Nat.zero_le _, setRow_heap w g cur _ _ _ hg, hnc, hcm, ?_, ?_⟩⟩
    · simp only [List.size_toArray, List.length_append, List.length_take, List.length_drop, Array.length_toList, List.length_cons, List.length_nil]
      omega
    · rw [← htk]
      simp only [List.append_assoc]
      rw [List.take_append_of_le_length (by rw [List.length_take, Array.length_toList]; omega), List.take_take, Nat.min_self]

theorem encP_take (l : List Pn) (i : Nat) : encP (l.take i) = (encP l).take (i * 2) := by
  have e : encP l = encP (l.take i) ++ encP (l.drop i) := by rw [← encP_append, List.take_append_drop]
  rw [e]
  rcases Nat.le_total i l.length with h | h
  · rw [List.take_left' (by rw [encP_len, List.length_take]; congr 1; omega)]
  · rw [List.take_of_length_le h, List.drop_eq_nil_of_le h, encP, List.append_nil, List.take_of_length_le (by rw [encP_len]; omega)]

theorem own_short {w : World} {g n m cap : Nat} {l : List Pn} (h : w.ownsRow 0 62 2 (.slice (some ⟨g, 0, none⟩) n cap) n (encP l)) (hm : m ≤ n) : w.ownsRow 0 62 2 (.slice (some ⟨g, 0, none⟩) m cap) m (encP (l.take m)) := by
  obtain ⟨hl, hr⟩ := h
  rw [encP_len] at hl
  refine ⟨by rw [encP_len, List.length_take]; congr 1; omega, ?_⟩
  rcases hr with ⟨h0, _⟩ | ⟨g', cap', cur, hv, hb, hg, hnc, hcm, hcs, htk⟩
  · cases h0
  · cases hv
    refine .inr ⟨g, cap, cur, rfl, hb, hg, by omega, hcm, hcs, ?_⟩
    rw [encP_take, ← htk, List.take_take, Nat.min_eq_left (by omega)]

/-- An append whose run is known, at a step of a region that draws. -/
theorem step_run_app {ops : Array Oper} {o : Oper} {a : Act} {K : Act → World → Prop} {Q : Exit → Act → World → Prop} {E : Prop} {w w' : World} (hgd : o.guard = none) (s x : Operand) (t : TypeId)
    (ho : o.op = .call { callee := .builtin .append, args := #[s, x], argTypes := #[t, t] }) (v u r : Value) (hs : a.eval s = v) (hx : a.eval x = u)
    (hrun : (Builtin.append_ #[t, t] o.type #[v, u]).run Try.prog w = .ok r w') (h : K (a.put o.dst r) w') :
    if Region.wanted o (yielded ops a.tmps) = true then Oper.wp Try.prog o a w K Q else E := by
  have hw : Region.wanted o (yielded ops a.tmps) = true := by simp [Region.wanted, hgd]
  rw [if_pos hw]
  unfold Oper.wp execOp
  simp only [ho, resolve, invoke, builtin, Sem.run_bind, Sem.run_pure, Result.andThen_ok, List.map_toArray, List.map_cons, List.map_nil, hs, hx, hrun]
  exact h

end Go.Proofs.Ytcnajkclbmddgab
