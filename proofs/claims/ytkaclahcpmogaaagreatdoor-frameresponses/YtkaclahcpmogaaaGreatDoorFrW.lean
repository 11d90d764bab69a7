/- Bytes behind bytes: append with whatever slice. -/
import Derived.Test.YtkaclahcpmogaaaGreatDoorFrV
import Derived.Laws.OwnMore
namespace Go.Proofs.YtkaclahcpmogaaaGreatDoor
open Go.ChangeShapes Go.WideShapes Go.ChangeAt Go.RowKit
set_option linter.unusedVariables false
set_option linter.unusedSimpArgs false

theorem byteCells_one_cell (l : Bs) : ∀ u ∈ Lib.byteCells l, u.oneCell' = true := by
  unfold Lib.byteCells
  intro u hu
  obtain ⟨c, _, rfl⟩ := List.mem_map.1 hu
  rfl

/-- An append whose run is known. -/
theorem wpList_run_app {ops : Array Oper} {rest : List Oper} {o : Oper} {a : Act} {Q : Exit → Act → World → Prop} {w w' : World} (hgd : o.guard = none) (d s : Operand) (dT sT : TypeId)
    (ho : o.op = .call { callee := .builtin .append, args := #[d, s], argTypes := #[dT, sT] }) (dv sv r : Value) (hd : a.eval d = dv) (hs : a.eval s = sv)
    (hrun : (Builtin.append_ #[dT, sT] o.type #[dv, sv]).run Tryz.prog w = .ok r w') (h : wpList Tryz.prog ops Q rest (a.put o.dst r) w') : wpList Tryz.prog ops Q (o :: rest) a w := by
  refine wpList_plain hgd fun K hK => ?_
  unfold Oper.wp
  simp [execOp, ho, resolve, invoke, builtin, hd, hs, hrun, Result.andThen]
  exact hK _ _ h

theorem run_app_bytes (w : World) (B L : Nat) (v sv : Value) (xs l : Bs) (hown : Own B w v xs) (hs : BytesAt L w sv l) (hx : xs.length ≤ 10000000) (hl : l.length ≤ 10000000) (hB : B ≤ w.heap.size) :
    ∃ v' w', (∀ ty, (Builtin.append_ #[23, 23] ty #[v, sv]).run Tryz.prog w = .ok v' w') ∧ Own B w' v' (xs ++ l) ∧ w.grownBy w' v.ownBlock := by
  obtain ⟨i0, hi0, hz0, hz2, hz3⟩ := info_parts infoU8
  obtain ⟨p, cap, rfl, hc, hm, hn, h2⟩ := hs
  cases p with
  | some a =>
    obtain ⟨b, o, rfl, hbl, hcells⟩ := h2 a rfl
    have hnews : ∀ j u, (Lib.byteCells l)[j]? = some u → w.cell? ((⟨b, o, none⟩ : Addr).add j) = some u := by
      intro j u hj
      unfold Lib.byteCells at hj
      rw [List.getElem?_map, Option.map_eq_some_iff] at hj
      obtain ⟨c, hj, rfl⟩ := hj
      have := hcells j c hj
      unfold Addr.add
      split <;> simp_all
    have hex : ∀ ty, ∃ v' w', (Builtin.append_ #[23, 23] ty #[v, .slice (some ⟨b, o, none⟩) l.length cap]).run Tryz.prog w = .ok v' w' ∧ w'.ownsRow B 5 1 v' (xs.length + l.length) (Lib.byteCells xs ++ Lib.byteCells l) ∧ w.grownBy w' v.ownBlock := by
      intro ty
      obtain ⟨v', w', h1, h3, h4, _⟩ := run_append_own (P := Tryz.prog) w B 23 ty 5 i0 (.int .u8 0) 1 1 Tryz.underlying23 hi0 hz0 hz2 hz3 rfl (by decide) v xs.length (Lib.byteCells xs) hown ⟨b, o, none⟩ l.length cap (Lib.byteCells l) (by rw [Lib.byteCells_length, Nat.mul_one]) hnews (byteCells_one_cell l) (by unfold maxLen; omega) (by omega) hB
      exact ⟨v', w', h1, h3, h4⟩
    obtain ⟨v', w', h1, h3, h4⟩ := hex 0
    refine ⟨v', w', fun ty => h1, ?_, h4⟩
    unfold Own
    rw [List.length_append, Lib.byteCells_append]
    exact h3
  | none =>
    have h0 : l = [] := List.eq_nil_of_length_eq_zero (by have := hn rfl; omega)
    have hc0 := hn rfl
    subst h0 hc0
    refine ⟨v, w, fun ty => ?_, by rw [List.append_nil]; exact hown, World.grownBy.refl _ _⟩
    rcases hown.2 with ⟨rfl, _⟩ | ⟨g, cap', cur, rfl, _, hg, hnc, _⟩
    · simp [Builtin.append_, run_underlying Tryz.underlying23, sizeOf, typeInfo, hi0, Builtin.lenOf, Builtin.firstCells, hz2]
    · simp [Builtin.append_, run_underlying Tryz.underlying23, sizeOf, typeInfo, hi0, Builtin.lenOf, Builtin.firstCells, hz2, hnc, storeCells]
end Go.Proofs.YtkaclahcpmogaaaGreatDoor
