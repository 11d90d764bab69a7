/- One append at an operation of a region that keeps its order. -/
import Derived.Test.YtnmclpphiajleaaDoorRefEncode
import Derived.OwnWalk
namespace Go.Proofs.YtnmclpphiajleaaDoor
open Go.ChangeShapes Go.WideShapes Go.ChangeAt Go.RowKit
open Plain
set_option linter.unusedVariables false
set_option linter.unusedSimpArgs false

theorem wpList_app {ops : Array Oper} {rest : List Oper} {o : Oper} {a : Act} {Q : Exit → Act → World → Prop} {w : World} (hgd : o.guard = none) (s x : Operand) (t : TypeId)
    (ho : o.op = .call { callee := .builtin .append, args := #[s, x], argTypes := #[t, t] }) (e : TypeId) (z : Value) (bytes : Nat) (ht : Tryd.prog.underlying t = some (.slice e))
    (hinf : (Tryd.prog.info? e).map (fun i => (i.zero, i.size, i.bytes)) = some (some z, 1, bytes)) (hzs : z.cells.size = 1) (H : Nat) (v : Value) (xs : List Value) (hs : a.eval s = v) (hown : w.ownsRow H e 1 v xs.length xs)
    (y : Value) (news : List Value) (hx : a.eval x = y) (hy : Holds w y news) (h1 : ∀ u ∈ news, u.oneCell' = true) (h63 : xs.length + news.length ≤ maxLen) (hbytes : (xs.length + news.length) * bytes ≤ 140737488355328) (hbase : H ≤ w.heap.size) (N : Nat) (hN : (xs ++ news).length = N)
    (hK : ∀ p cap w', w'.ownsRow H e 1 (.slice p N cap) N (xs ++ news) → w.grownBy w' v.ownBlock → wpList Tryd.prog ops Q rest (a.put o.dst (.slice p N cap)) w') : wpList Tryd.prog ops Q (o :: rest) a w := by
  subst hN
  refine wpList_plain hgd fun K hK' => ?_
  obtain ⟨inf, q1, q2, q3, q4⟩ := info_parts hinf
  obtain ⟨v', w', hr, h2, h3⟩ := run_app t o.type e inf z bytes ht q1 q2 q3 q4 hzs H v xs hown y news hy h1 h63 hbytes hbase
  obtain ⟨p, cap, rfl, _⟩ := row_form h2
  unfold Oper.wp execOp
  simp only [ho, resolve, invoke, builtin, Sem.run_bind, Sem.run_pure, Result.andThen_ok, List.map_toArray, List.map_cons, List.map_nil, hs, hx, hr]
  exact hK' _ _ (hK p cap w' h2 h3)

theorem bytes_of_row {w : World} {base : Nat} {v : Value} {xs : List Int} (h : w.ownsRow base 5 1 v xs.length (xs.map fun x => Value.int .u8 x)) : BytesAt w v xs := by
  rcases h.2 with ⟨rfl, h0⟩ | ⟨g, cap, cur, rfl, _, hb, hc, _, _, htk⟩
  · refine ⟨none, 0, by rw [h0], by omega, fun hn => absurd (List.length_eq_zero_iff.1 h0) hn⟩
  · refine ⟨_, _, rfl, hc, fun hn => ⟨g, 0, rfl, fun i u hu => ?_⟩⟩
    rw [Nat.zero_add, World.cell?]
    have hu' : cur[i]? = some (.int .u8 u) := by
      have hi : i < xs.length := (List.getElem?_eq_some_iff.1 hu).1
      have := congrArg (·[i]?) htk
      simp only [List.getElem?_take, List.getElem?_map, hu, Option.map_some] at this
      rw [if_pos (by omega)] at this
      simpa using this
    simp [hb, hu']
end Go.Proofs.YtnmclpphiajleaaDoor
