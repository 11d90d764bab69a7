/- slices.Delete of one pin. -/
import Derived.Test.YtcnajkclbmddgaaPinA
import Derived.Laws.CopyRow
import Derived.Deep.DeepAppendRoom
import Derived.WalkSmall
import Derived.Deep.RegionLaw
namespace Go.Proofs.Ytcnajkclbmddgaa
open Go.ChangeShapes Go.WideShapes Go.ChangeAt Go.RowKit
set_option linter.unusedVariables false
set_option linter.unusedSimpArgs false

theorem zero_pin (w : World) : (zeroValue 70).run Try.prog w = .ok (.agg #[.int .i64 0, .int .i64 0]) w := by kernel_rfl

/-- What clear lays over one pin. -/
theorem run_clearP (g o c : Nat) (cur : Array Value) (w : World) (hb : w.heap[g]? = some (.cells cur 70 (0, 0))) (hl : o + 2 ≤ cur.size) (ty : TypeId) :
    (Builtin.clear_ #[58] ty #[.slice (some ⟨g, o, none⟩) 1 c]).run Try.prog w = .ok (.tuple #[]) (w.setRow g (cur.toList.take o ++ [Value.int .i64 0, Value.int .i64 0] ++ cur.toList.drop (o + 2)).toArray) := by
  have h := run_storeCells_at (P := Try.prog) g o 70 [.int .i64 0, .int .i64 0] 0 cur w hb (by simp; omega) (by intro v hv; simp at hv; rcases hv with rfl | rfl <;> rfl)
  have hz := zero_pin w
  have hzc : (Value.agg #[.int .i64 0, .int .i64 0]).cells = #[.int .i64 0, .int .i64 0] := rfl
  have hze : (Builtin.zeroCells #[.int .i64 0, .int .i64 0] 1) = #[Value.int .i64 0, Value.int .i64 0] := by
    kernel_rfl
  simp [Builtin.clear_, run_underlying Try.underlying58, Result.andThen, hz, hzc, hze, h]

theorem encP_one : ∀ (l : List Pn), ∀ u ∈ encP l, u.oneCell' = true
  | [], u, h => by simp [encP] at h
  | x :: l, u, h => by
    simp only [encP, List.mem_cons] at h
    rcases h with rfl | rfl | h
    · rfl
    · rfl
    · exact encP_one l u h

/-- Behind the clear the ones ahead are as they were. -/
theorem clear_end {w : World} {g n cap : Nat} {xs : List Value} (h : w.ownsRow 0 70 2 (.slice (some ⟨g, 0, none⟩) n cap) n xs) (hc : n + 1 ≤ cap) (c : Nat) :
    ∃ cur', (∀ ty, (Builtin.clear_ #[58] ty #[.slice (some ⟨g, n * 2, none⟩) 1 c]).run Try.prog w = .ok (.tuple #[]) (w.setRow g cur')) ∧ (w.setRow g cur').ownsRow 0 70 2 (.slice (some ⟨g, 0, none⟩) n cap) n xs := by
  obtain ⟨hl, hr⟩ := h
  rcases hr with ⟨h0, _⟩ | ⟨g', cap', cur, hv, _, hg, hnc, hcm, hcs, htk⟩
  · cases h0
  · cases hv
    refine ⟨_, fun ty => run_clearP g (n * 2) c cur w hg (by omega) ty, hl, .inr ⟨g, cap, _, rfl, Nat.zero_le _, setRow_heap w g cur _ _ _ hg, hnc, hcm, ?_, ?_⟩⟩
    · simp only [List.size_toArray, List.length_append, List.length_take, List.length_drop, Array.length_toList, List.length_cons, List.length_nil]
      omega
    · rw [← htk]
      simp only [List.append_assoc]
      rw [List.take_append_of_le_length (by rw [List.length_take, Array.length_toList]; omega), List.take_take, Nat.min_self]

theorem encP_take (l : List Pn) (i : Nat) : encP (l.take i) = (encP l).take (i * 2) := by
  have e : encP l = encP (l.take i) ++ encP (l.drop i) := by rw [← encP_append, List.take_append_drop]
  rw [e]
  rcases Nat.le_total i l.length with h | h
  · rw [List.take_left' (by rw [encP_len, List.length_take]; congr 1; omega)]
  · rw [List.take_of_length_le h, List.drop_eq_nil_of_le h, encP, List.append_nil, List.take_of_length_le (by rw [encP_len]; omega)]

theorem own_short {w : World} {g n m cap : Nat} {l : List Pn} (h : w.ownsRow 0 70 2 (.slice (some ⟨g, 0, none⟩) n cap) n (encP l)) (hm : m ≤ n) : w.ownsRow 0 70 2 (.slice (some ⟨g, 0, none⟩) m cap) m (encP (l.take m)) := by
  obtain ⟨hl, hr⟩ := h
  rw [encP_len] at hl
  refine ⟨by rw [encP_len, List.length_take]; congr 1; omega, ?_⟩
  rcases hr with ⟨h0, _⟩ | ⟨g', cap', cur, hv, hb, hg, hnc, hcm, hcs, htk⟩
  · cases h0
  · cases hv
    refine .inr ⟨g, cap, cur, rfl, hb, hg, by omega, hcm, hcs, ?_⟩
    rw [encP_take, ← htk, List.take_take, Nat.min_eq_left (by omega)]

/-- An append whose run is known, at a step of a region that draws. -/
theorem step_run_app {ops : Array Oper} {o : Oper} {a : Act} {K : Act → World → Prop} {Q : Exit → Act → World → Prop} {E : Prop} {w w' : World} (hgd : o.guard = none) (s x : Operand) (t : TypeId)
    (ho : o.op = .call { callee := .builtin .append, args := #[s, x], argTypes := #[t, t] }) (v u r : Value) (hs : a.eval s = v) (hx : a.eval x = u)
    (hrun : (Builtin.append_ #[t, t] o.type #[v, u]).run Try.prog w = .ok r w') (h : K (a.put o.dst r) w') :
    if Region.wanted o (yielded ops a.tmps) = true then Oper.wp Try.prog o a w K Q else E := by
  have hw : Region.wanted o (yielded ops a.tmps) = true := by simp [Region.wanted, hgd]
  rw [if_pos hw]
  unfold Oper.wp execOp
  simp only [ho, resolve, invoke, builtin, Sem.run_bind, Sem.run_pure, Result.andThen_ok, List.map_toArray, List.map_cons, List.map_nil, hs, hx, hrun]
  exact h

set_option maxHeartbeats 3200000 in
set_option maxRecDepth 20000 in
theorem delete_any (g cap i : Nat) (l : List Pn) (w : World) (R : w.ownsRow 0 70 2 (.slice (some ⟨g, 0, none⟩) l.length cap) l.length (encP l)) (hi : i < l.length) (hf : l.length < 1000000) :
    Calls Try.prog 33 #[.slice (some ⟨g, 0, none⟩) l.length cap, .int .i64 i, .int .i64 ((i + 1 : Nat) : Int)] w fun e w' => e = .returned (.slice (some ⟨g, 0, none⟩) (l.length - 1) cap) ∧ w'.ownsRow 0 70 2 (.slice (some ⟨g, 0, none⟩) (l.length - 1) cap) (l.length - 1) (encP (l.eraseIdx i)) ∧ Only (fun k => k = g) w w' := by
  have hcap : l.length ≤ cap := by
    rcases R.2 with ⟨h, _⟩ | ⟨g', cap', cur, h, _, _, hn, _⟩
    · cases h
    · cases h; exact hn
  obtain ⟨i0, hi0, hz0, hz2, hz3⟩ := info_parts info_pin
  have Rd : w.drew.ownsRow 0 70 2 (.slice (some ⟨g, 0, none⟩) l.length cap) l.length (encP l) := R.drew
  have hdl : (l.drop (i + 1)).length = l.length - (i + 1) := List.length_drop
  obtain ⟨w6, hrun, R6, G6⟩ := run_append_own_spare (P := Try.prog) (ty := 58) w.drew 0 58 70 i0 2 Try.underlying58 hi0 hz2 g i cap (encP (l.take i)) (own_short Rd (by omega))
    ⟨g, if cap = i + 1 then 0 else (i + 1) * 2, none⟩ (l.length - (i + 1)) (cap - (i + 1)) (encP (l.drop (i + 1))) (by rw [encP_len, hdl]) (fun j u hj => by
      have hjl := (List.getElem?_eq_some_iff.1 hj).1
      rw [encP_len, hdl] at hjl
      rw [if_neg (by omega), cell_add]
      have e2 : encP l = encP (l.take (i + 1)) ++ encP (l.drop (i + 1)) := by rw [← encP_append, List.take_append_drop]
      have h3 : (encP l)[(i + 1) * 2 + j]? = some u := by
        rw [e2, List.getElem?_append_right (by rw [encP_len, List.length_take]; omega), encP_len, List.length_take]
        rw [show (i + 1) * 2 + j - min (i + 1) l.length * 2 = j by omega]
        exact hj
      have := Rd.cells (g := g) rfl _ _ h3
      rw [cell_add, Nat.zero_add] at this
      exact this) (encP_one _) (by omega)
  rw [← encP_append, show l.take i ++ l.drop (i + 1) = l.eraseIdx i from (List.eraseIdx_eq_take_drop_succ l i).symm, show i + (l.length - (i + 1)) = l.length - 1 by omega] at R6
  rw [show i + (l.length - (i + 1)) = l.length - 1 by omega] at hrun
  obtain ⟨cur', hclr, R7⟩ := clear_end R6 (by omega) (cap - (l.length - 1))
  have OO : Only (fun k => k = g) w (w6.setRow g cur') := ⟨G6.os, G6.tape, G6.output, by simp; exact G6.size, fun k hk hn => (setRow_other w6 g k cur' hn).trans (G6.block k hk (fun e => hn (Option.some.inj e)))⟩
  have HR : Hid _ := And.intro R7 OO
  have hiI : (i : Int) < (l.length : Int) := by omega
  have hi0' : (0 : Int) ≤ (i : Int) := by omega
  have hj1 : ((i + 1 : Nat) : Int) ≤ (l.length : Int) := by omega
  have hij : (i : Int) ≤ ((i + 1 : Nat) : Int) := by omega
  have hne : ¬ (i : Int) = ((i + 1 : Nat) : Int) := by omega
  have hlc : (l.length : Int) ≤ (cap : Int) := by omega
  have hj0 : (0 : Int) ≤ ((i + 1 : Nat) : Int) := by omega
  have hm1 : ((l.length - 1 : Nat) : Int) ≤ (l.length : Int) := by omega
  have hm0 : (0 : Int) ≤ ((l.length - 1 : Nat) : Int) := by omega
  have hcm : ¬ cap = l.length - 1 := by omega
  have hsb : l.length - (l.length - 1) = 1 := by omega
  have hic : (i : Int) ≤ (cap : Int) := by omega
  clear R Rd R6 G6 R7 OO hi hf hdl hcap
  generalize l.length - 1 = lm at *
  generalize i + 1 = j at *
  generalize l.length = ln at *
  go_enter Try.func33, Try.ntmps33
  go_wp2_with fail
  by_cases hcj : cap = j
  · rw [if_pos hcj, show cap - j = 0 by omega] at hrun
    subst hcj
    go_region_law
      (first
        | (refine step_run_app (by rfl) _ _ _ (by rfl) _ _ _ (by rfl) (by rfl) hrun ?_))
    clear hrun
    go_wp2_with fail
    go_ret
    exact ⟨rfl, HR.out⟩
  · rw [if_neg hcj] at hrun
    go_region_law
      (first
        | (refine step_run_app (by rfl) _ _ _ (by rfl) _ _ _ (by rfl) (by rfl) hrun ?_))
    clear hrun
    go_wp2_with fail
    go_ret
    exact ⟨rfl, HR.out⟩
end Go.Proofs.Ytcnajkclbmddgaa
