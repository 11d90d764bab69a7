/- A frame's head, written into room that is there. -/
import Derived.Test.YtkaclahcpmogaaaGreatDoorFrE
import Derived.OwnWalk
namespace Go.Proofs.YtkaclahcpmogaaaGreatDoor
open Go.ChangeShapes Go.WideShapes Go.ChangeAt Go.RowKit
set_option linter.unusedVariables false
set_option linter.unusedSimpArgs false

/-- All blocks but those of which p holds are as they were; there may be more. -/
structure But (p : Nat → Prop) (w w' : World) : Prop where
  os : w'.os = w.os
  tape : w'.tape = w.tape
  output : w'.output = w.output
  size : w.heap.size ≤ w'.heap.size
  block : ∀ i, i < w.heap.size → ¬ p i → w'.heap[i]? = w.heap[i]?
theorem But.refl (p : Nat → Prop) (w : World) : But p w w := ⟨rfl, rfl, rfl, Nat.le_refl _, fun _ _ _ => rfl⟩
theorem But.trans {p : Nat → Prop} {a b c : World} (h : But p a b) (g : But p b c) : But p a c :=
  ⟨g.os.trans h.os, g.tape.trans h.tape, g.output.trans h.output, Nat.le_trans h.size g.size, fun i hi hp => (g.block i (Nat.lt_of_lt_of_le hi h.size) hp).trans (h.block i hi hp)⟩
theorem But.drew {p : Nat → Prop} {a b : World} (h : But p a b) : But p a b.drew := ⟨h.os, h.tape, h.output, h.size, h.block⟩
theorem But.alloc {p : Nat → Prop} {a b : World} (h : But p a b) (o : Obj) : But p a (b.alloc o) :=
  h.trans ⟨rfl, rfl, rfl, by simp, fun i hi _ => Below.heap_alloc _ _ _ hi⟩
theorem But.setCell {p : Nat → Prop} {a b : World} (h : But p a b) (k i : Nat) (hk : p k) (u : Value) : But p a (b.setCell ⟨k, i, none⟩ u) :=
  h.trans ⟨rfl, rfl, rfl, by simp [World.setCell], fun j _ hp => Below.heap_setCell _ _ _ _ (by simp only; rintro rfl; exact hp hk)⟩
theorem But.setRow {p : Nat → Prop} {a b : World} (h : But p a b) (g : Nat) (hg : p g) (cs : Array Value) : But p a (b.setRow g cs) :=
  h.trans ⟨rfl, rfl, rfl, by simp, fun j _ hp => setRow_other _ _ _ _ (by rintro rfl; exact hp hg)⟩

/-- An append of one cell, where there is room, at a step of a region that draws. -/
theorem step_append_room {ops : Array Oper} {o : Oper} {a : Act} {K : Act → World → Prop} {Q : Exit → Act → World → Prop} {E : Prop} {w : World} (hgd : o.guard = none) (s x : Operand) (t : TypeId)
    (ho : o.op = .call { callee := .builtin .append, args := #[s, x], argTypes := #[t, t] }) (e : TypeId) (i : TypeInfo) (ht : Tryz.prog.underlying t = some (.slice e)) (hi : Tryz.prog.info? e = some i) (hsize : i.size = 1)
    (g n cap : Nat) (cur : Array Value) (hs : a.eval s = .slice (some ⟨g, 0, none⟩) n cap) (hg : w.heap[g]? = some (.cells cur e (0, 0)))
    (ad : Addr) (c : Nat) (u : Value) (hx : a.eval x = .slice (some ad) 1 c) (hnew : ∀ j v, [u][j]? = some v → w.cell? (ad.add j) = some v) (h1 : u.oneCell' = true) (hroom : n + 1 ≤ cap) (hfit : n + 1 ≤ cur.size)
    (h : ∀ w', w'.heap[g]? = some (.cells (cur.toList.take n ++ [u] ++ cur.toList.drop (n + 1)).toArray e (0, 0)) → But (fun i => i = g) w w' → K (a.put o.dst (.slice (some ⟨g, 0, none⟩) (n + 1) cap)) w') :
    if Region.wanted o (yielded ops a.tmps) = true then Oper.wp Tryz.prog o a w K Q else E := by
  have hw : Region.wanted o (yielded ops a.tmps) = true := by simp [Region.wanted, hgd]
  rw [if_pos hw]
  have hrun := run_append_room (P := Tryz.prog) w t o.type e i ht hi g n cap cur hg ad 1 c [u] (by rw [hsize]; rfl) hnew (by simpa using h1) hroom (by rw [hsize]; simpa using hfit)
  rw [hsize] at hrun
  simp only [Nat.mul_one, List.length_singleton] at hrun
  unfold Oper.wp execOp
  simp only [ho, resolve, invoke, builtin, Sem.run_bind, Sem.run_pure, Result.andThen_ok, List.map_toArray, List.map_cons, List.map_nil, hs, hx, hrun]
  exact h _ (setRow_heap _ _ _ _ _ _ hg) ((But.refl (fun i => i = g) w).setRow g rfl _)

set_option maxHeartbeats 1600000 in
set_option maxRecDepth 20000 in
theorem wnumber_head (k g hd : Nat) (n : Int) (cur : List Value) (w : World) (hk : w.heap[k]? = some (.cells #[.slice (some ⟨g, 0, none⟩) 0 hd] 87 (0, 0))) (hg : w.heap[g]? = some (.cells cur.toArray 5 (0, 0))) (hgk : g ≠ k) (hc : hd ≤ cur.length) (hd8 : hd ≤ 8) :
    Calls Tryz.prog 47 #[.pointer (some ⟨k, 0, none⟩), .int .i64 hd, .int .i64 n] w fun e w' => e = .returned (.int .i64 n) ∧ w'.heap[g]? = some (.cells (Lib.byteCells (numB hd n) ++ cur.drop hd).toArray 5 (0, 0)) ∧ But (fun i => i = k ∨ i = g) w w' := by
  obtain ⟨i0, hi0, hz0, hz2, hz3⟩ := info_parts infoU8
  have hszI : (hd : Int) ≤ 8 := by omega
  go_enter Tryz.func47, Tryz.ntmps47
  go_wp2
  go_loopw [7] (fun i wr => ∃ (j : Nat) (acc : Bs), j ≤ hd ∧ i = .int .i64 ((j : Int) - 1) ∧ Hid (acc ++ numB j n = numB hd n) ∧ acc.length + j = hd ∧ wr.heap[k]? = some (.cells #[.slice (some ⟨g, 0, none⟩) acc.length hd] 87 (0, 0)) ∧ wr.heap[g]? = some (.cells (Lib.byteCells acc ++ cur.drop acc.length).toArray 5 (0, 0)) ∧ But (fun i => i = k ∨ i = g) w wr) (fun i _ => (intW i + 1).toNat)
  case atStart => exact ⟨hd, [], Nat.le_refl _, rfl, rfl, by simp, hk, by simpa [Lib.byteCells] using hg, But.refl _ _⟩
  case round =>
    obtain ⟨j, acc, hj, rfl, hacc, hal, hk1, hg1, hb⟩ := hrel
    cases j with
    | zero =>
      have e1 : acc = numB hd n := by have := hacc.out; simpa only [numB, List.append_nil] using this
      have e2 : acc.length = hd := by omega
      rw [e1, numB_len] at hg1
      clear hacc hal hk hg hk1
      go_wp2
      go_ret
      exact ⟨rfl, hg1, hb⟩
    | succ j =>
      have ei : (((j + 1 : Nat) : Int) - 1) = (j : Int) := by omega
      rw [ei]
      have hjI : (j : Int) ≤ 7 := by omega
      have hlt : k < wr.heap.size := (Array.getElem?_eq_some_iff.1 hk1).1
      have hltg : g < wr.heap.size := (Array.getElem?_eq_some_iff.1 hg1).1
      have c0 : wr.cell? ⟨k, 0, none⟩ = some (.slice (some ⟨g, 0, none⟩) acc.length hd) := by rw [Lib.cell_of_heap hk1]; rfl
      have f0 : wr.frozen? ⟨k, 0, none⟩ = false := Lib.frozen_of_heap hk1 0
      have cd : wr.drew.cell? ⟨k, 0, none⟩ = some (.slice (some ⟨g, 0, none⟩) acc.length hd) := by rw [Lib.cell_of_heap (w := wr.drew) hk1]; rfl
      have fd : wr.drew.frozen? ⟨k, 0, none⟩ = false := Lib.frozen_of_heap (w := wr.drew) hk1 0
      go_wp2_with fail
      have hsh : Op.shift .shr .i64 n .i64 (IntKind.i64.wrap (8 * (j : Int))) = pure (.int .i64 (n / 2 ^ (8 * j))) := by
        rw [IntWalk.i64_in _ ⟨by omega, by omega⟩, shift_shr _ _ _ _ (by omega) (by simp only [IntKind.bits]; omega)]
        congr 2
      have hcl : (Lib.byteCells acc).length = acc.length := Lib.byteCells_length _
      have hby : (Lib.byteCells acc ++ cur.drop acc.length).toArray.toList.take acc.length ++ [.int .u8 (IntKind.u8.wrap (n / 2 ^ (8 * j)))] ++ (Lib.byteCells acc ++ cur.drop acc.length).toArray.toList.drop (acc.length + 1) = Lib.byteCells (acc ++ [byteN (n / 2 ^ (8 * j))]) ++ cur.drop (acc ++ [byteN (n / 2 ^ (8 * j))]).length := by
        rw [Lib.byteCells_append, byteCells_one, byteN_int, IntKind.wrap_u8]
        simp only [List.toList_toArray, List.length_append, List.length_singleton]
        congr 1
        · congr 1
          rw [List.take_append_of_le_length (by omega), List.take_of_length_le (by omega)]
        · rw [List.drop_append, List.drop_eq_nil_of_le (by omega), List.nil_append, List.drop_drop]
          congr 1
          omega
      have hnext : Hid ((acc ++ [byteN (n / 2 ^ (8 * j))]) ++ numB j n = numB hd n) := by
        have := hacc.out
        rw [List.append_assoc]
        exact this
      have hlen : (acc ++ [byteN (n / 2 ^ (8 * j))]).length = acc.length + 1 := by simp
      have hfit : acc.length + 1 ≤ (Lib.byteCells acc ++ cur.drop acc.length).toArray.size := by simp [hcl]; omega
      have hroom : acc.length + 1 ≤ hd := by omega
      generalize acc ++ [byteN (n / 2 ^ (8 * j))] = acc2 at *
      obtain ⟨q, hq⟩ : ∃ q : Int, n / 2 ^ (8 * j) = q := ⟨_, rfl⟩
      rw [hq] at hsh hby
      clear hq
      generalize hy : IntKind.u8.wrap q = y at *
      generalize hcs : (Lib.byteCells acc ++ cur.drop acc.length).toArray = cs at *
      have hnew : (wr.drew.alloc (.cells #[.int .u8 y] 5)).heap[wr.heap.size]? = some (.cells #[.int .u8 y] 5 (0, 0)) := heap_alloc_new wr.drew _
      have hkk : (wr.drew.alloc (.cells #[.int .u8 y] 5)).heap[k]? = some (.cells #[.slice (some ⟨g, 0, none⟩) acc.length hd] 87 (0, 0)) := (Below.heap_alloc wr.drew _ _ (show k < wr.heap.size from hlt)).trans hk1
      have hgg : (wr.drew.alloc (.cells #[.int .u8 y] 5)).heap[g]? = some (.cells cs 5 (0, 0)) := (Below.heap_alloc wr.drew _ _ (show g < wr.heap.size from hltg)).trans hg1
      go_region_law
        (first
          | (refine step_append_room (by rfl) _ _ _ (by rfl) 5 i0 Tryz.underlying23 hi0 hz2 g acc.length hd cs (by rfl) hgg ⟨wr.heap.size, 0, none⟩ 1 (.int .u8 y) (by rfl) (World.news_of_block (cs := #[.int .u8 y]) (t := 5) (fr := (0, 0)) hnew) (by simp [Value.oneCell']) hroom hfit ?_; intro w6 hg6 hO6; have hk6 : w6.heap[k]? = some (.cells #[.slice (some ⟨g, 0, none⟩) acc.length hd] 87 (0, 0)) := (hO6.block k (by simp; omega) hgk.symm).trans hkk; have c6 : w6.cell? ⟨k, 0, none⟩ = some (.slice (some ⟨g, 0, none⟩) acc.length hd) := (by rw [Lib.cell_of_heap hk6]; rfl); have f6 : w6.frozen? ⟨k, 0, none⟩ = false := Lib.frozen_of_heap hk6 0))
      all_goals
        rw [hby] at hg6
        have hB6 : But (fun i => i = k ∨ i = g) w (w6.setCell ⟨k, 0, none⟩ (.slice (some ⟨g, 0, none⟩) (acc.length + 1) hd)) :=
          ((hb.trans (((But.refl _ _).drew).alloc (.cells #[.int .u8 y] 5))).trans ⟨hO6.os, hO6.tape, hO6.output, hO6.size, fun i hi hn => hO6.block i hi (fun e => hn (.inr e))⟩).setCell k 0 (.inl rfl) _
        have hk7 : (w6.setCell ⟨k, 0, none⟩ (.slice (some ⟨g, 0, none⟩) (acc.length + 1) hd)).heap[k]? = some (.cells #[.slice (some ⟨g, 0, none⟩) acc2.length hd] 87 (0, 0)) := by
          rw [hlen]; simp [World.setCell, Array.getElem?_modify, hk6]
        have hg7 : (w6.setCell ⟨k, 0, none⟩ (.slice (some ⟨g, 0, none⟩) (acc.length + 1) hd)).heap[g]? = some (.cells (Lib.byteCells acc2 ++ cur.drop acc2.length).toArray 5 (0, 0)) :=
          (Below.heap_setCell _ _ _ _ hgk).trans hg6
        clear hg6 hO6 hk6 c6 f6 hnew hkk hgg cd fd c0 f0 hby hsh hk1 hg1
        generalize w6.setCell ⟨k, 0, none⟩ (.slice (some ⟨g, 0, none⟩) (acc.length + 1) hd) = W7 at *
        go_wp2
        go_roundw
        case rel => exact ⟨j, acc2, by omega, by go_num, hnext, by omega, hk7, hg7, hB6⟩
        case measure => simp [intW]
end Go.Proofs.YtkaclahcpmogaaaGreatDoor
