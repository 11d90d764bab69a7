/- The program's names.add: one more name, if it is not there yet. -/
import Derived.Test.YtopfnfmglnjljaaGreatDoorNames2
import Derived.Test.YtopfnfmglnjljaaGreatDoorEShelf
import Derived.Test.YtopfnfmglnjljaaGreatDoorOrders2
import Derived.Maps.OwnSet
import Derived.Maps.RangeWalk
import Derived.Shelf.Pu.Clone
namespace Go.Proofs.YtopfnfmglnjljaaGreatDoor.Nn
open Go.Proofs.YtopfnfmglnjljaaGreatDoor
open Go.ChangeShapes Go.WideShapes Go.ChangeAt Go.RowKit Orders
set_option linter.unusedVariables false
set_option linter.unusedSimpArgs false

theorem step_skip {ops : Array Oper} {Q : Exit → Act → World → Prop} {i : Nat} {o : Oper} {K : Act → World → Prop} {a : Act} {w w' : World} (hi : ops[i]? = some o) (hg : o.guard = none)
    (h : (execOp a.eval o).run Tryz.prog w = .ok .skip w') (hK : K (a.put o.dst undef) w') : wpOp Tryz.prog ops Q i K a w := by
  refine step_oper hi hg ?_
  unfold Oper.wp
  rw [h]
  exact hK

theorem cloneLays : Go.Proofs.LaysPu.n25 Tryz.prog Tryz.laysPu14_ren := { Tryz.laysPu14 with }

theorem clone_any (s : ByteArray) (hs : s.size ≤ 281474976710656) (w : World) : Calls Tryz.prog 49 #[.string s] w fun e w' => e = .returned (.string s) ∧ Below w.heap.size w w' := by
  have C : Calls Tryz.prog 64 #[.string s] w fun e w' => e = .returned (.string s) ∧ Below w.heap.size w w' := AnyPu.stringslite_Clone cloneLays s w hs
  clear hs
  go_enter Tryz.func49, Tryz.ntmps49
  go_wp2_with fail
  refine C.mono ?_
  rintro e w2 ⟨rfl, hb⟩
  go_wp2_with fail
  go_ret
  exact ⟨rfl, hb⟩

theorem keyS : Maps.Keyed Tryz.prog 9 := Maps.string_keyed Tryz.underlying9
theorem zeroS (w : World) : (zeroValue 95).run Tryz.prog w = .ok (.agg #[]) w := by kernel_rfl

/-- The set of these. -/
def setD (acc : List Bs) : DataW Unit := Maps.setOf (.agg []) (acc.map fun s => Lit.string s)

theorem same_str (s t : Bs) : (Lit.string t).sameKey (.string s) = (t == s) := rfl

theorem has_setD (acc : List Bs) (s : Bs) : Maps.has (setD acc) (.string s) = acc.contains s := by
  unfold setD
  rw [Maps.has_setOf _ _ _ (fun y hy => by obtain ⟨_, _, rfl⟩ := List.mem_map.1 hy; trivial), List.any_map]
  induction acc with
  | nil => rfl
  | cons a r ih =>
    rw [List.any_cons, List.contains_cons, ih]
    congr 1
    show (Lit.string a).sameKey (.string s) = _
    rw [same_str, Bool.beq_comm]

/-- Where the names are gathered: at b the list v, and the set at B. -/
structure NA (base : Nat) (w : World) (b B : Nat) (v : Value) (acc : List Bs) : Prop where
  c0 : w.cell? ⟨b, 0, none⟩ = some v
  f0 : w.frozen? ⟨b, 0, none⟩ = false
  c1 : w.cell? ⟨b, 1, none⟩ = some (.map (some B))
  row : w.ownsRow base 9 1 v acc.length (strs acc)
  map : w.ownsMap Tryz.prog 9 (unitElem (H := Unit)) B acc.length (setD acc)
  lb : b < base
  lB : B < base
  ne : b ≠ B
  sz : base ≤ w.heap.size

/-- What has turned: the names' cells, their set, their list. -/
structure Chg (b B : Nat) (v v' : Value) (w w' : World) : Prop where
  os : w'.os = w.os
  tape : w'.tape = w.tape
  output : w'.output = w.output
  size : w.heap.size ≤ w'.heap.size
  block : ∀ k, k < w.heap.size → k ≠ b → k ≠ B → v.ownBlock ≠ some k → w'.heap[k]? = w.heap[k]?
  own : v'.ownBlock = v.ownBlock ∨ ∃ k, w.heap.size ≤ k ∧ v'.ownBlock = some k

theorem Chg.refl (b B : Nat) (v : Value) (w : World) : Chg b B v v w w := ⟨rfl, rfl, rfl, Nat.le_refl _, fun _ _ _ _ _ => rfl, .inl rfl⟩
theorem Chg.trans {b B : Nat} {v v1 v2 : Value} {w w1 w2 : World} (h : Chg b B v v1 w w1) (k : Chg b B v1 v2 w1 w2) : Chg b B v v2 w w2 := by
  refine ⟨k.os.trans h.os, k.tape.trans h.tape, k.output.trans h.output, Nat.le_trans h.size k.size, fun i h1 h2 h3 h4 => ?_, ?_⟩
  · refine (k.block i (Nat.lt_of_lt_of_le h1 h.size) h2 h3 ?_).trans (h.block i h1 h2 h3 h4)
    rcases h.own with e | ⟨j, hj, e⟩
    · rw [e]; exact h4
    · rw [e]; intro e'; cases e'; omega
  · rcases k.own with e | ⟨j, hj, e⟩
    · rcases h.own with e' | ⟨j, hj, e'⟩
      · exact .inl (e.trans e')
      · exact .inr ⟨j, hj, e.trans e'⟩
    · exact .inr ⟨j, Nat.le_trans h.size hj, e⟩
theorem Chg.of_below {b B : Nat} {v : Value} {w w' : World} (h : Below w.heap.size w w') : Chg b B v v w w' := ⟨h.os, h.tape, h.output, h.size, fun k hk _ _ _ => h.block k hk, .inl rfl⟩
theorem NA.later {base : Nat} {w w' : World} {b B : Nat} {v : Value} {acc : List Bs} (h : NA base w b B v acc) (hb : Below w.heap.size w w') : NA base w' b B v acc :=
  ⟨kept_cell hb h.c0, kept_thawed hb (block_lt_of_cell h.c0) h.f0, kept_cell hb h.c1, h.row.kept (grown_of_below hb none) (by cases v.ownBlock <;> simp), h.map.kept (grown_of_below hb none) (by simp), h.lb, h.lB, h.ne, Nat.le_trans h.sz hb.size⟩

theorem run_nilCheck (a : Act) (w : World) (o : Oper) (p : Operand) (ad : Addr) (ho : o.op = .nilCheck p) (hp : a.eval p = .pointer (some ad)) : (execOp a.eval o).run Tryz.prog w = .ok (.value (.pointer (some ad))) w := by
  generalize a.eval = ρ at *
  simp [execOp, ho, hp, go_sem]
theorem run_field0 (a : Act) (w : World) (o : Oper) (p : Operand) (b : Nat) (ho : o.op = .fieldAddr 68 p 0) (hp : a.eval p = .pointer (some ⟨b, 0, none⟩)) : (execOp a.eval o).run Tryz.prog w = .ok (.value (.pointer (some ⟨b, 0, none⟩))) w := by
  generalize a.eval = ρ at *
  simp [execOp, ho, hp, go_sem, Tryz.underlying68]
theorem run_loadSl (a : Act) (w : World) (o : Oper) (p : Operand) (ad : Addr) (q : Option Addr) (l c : Nat) (ho : o.op = .load 32 p) (hp : a.eval p = .pointer (some ad)) (hc : w.cell? ad = some (.slice q l c)) : (execOp a.eval o).run Tryz.prog w = .ok (.value (.slice q l c)) w := by
  generalize a.eval = ρ at *
  simp [execOp, ho, hp, go_sem, Tryz.underlying32, hc]
theorem run_callClone (a : Act) (w : World) (o : Oper) (t : Operand) (x : Value) (ats : Array TypeId) (ho : o.op = .call { callee := .value (.func 49), args := #[t], argTypes := ats }) (ht : a.eval t = x) : (execOp a.eval o).run Tryz.prog w = .ok (.enter 49 #[x]) w := by
  have hf : ∀ f, a.eval (.func f) = .func (.func f) #[] #[] := fun _ => rfl
  generalize a.eval = ρ at *
  simp [execOp, ho, ht, hf, go_sem]
theorem run_build1 (a : Act) (w : World) (o : Oper) (p : Operand) (x : ByteArray) (ho : o.op = .buildSlice 32 1 #[(0, p)]) (hp : a.eval p = .string x) : (execOp a.eval o).run Tryz.prog w = .ok (.value (.slice (some ⟨w.heap.size, 0, none⟩) 1 1)) (w.alloc (.cells #[.string x] 9)) := by
  generalize a.eval = ρ at *
  simp [execOp, ho, hp, go_sem, Tryz.underlying32]
theorem run_storeSl (a : Act) (w : World) (o : Oper) (s t : Operand) (ad : Addr) (q : Option Addr) (l c : Nat) {x : Value} (ho : o.op = .store 32 s t) (hs : a.eval s = .pointer (some ad)) (ht : a.eval t = .slice q l c) (hc : w.cell? ad = some x) (hf : w.frozen? ad = false) : (execOp a.eval o).run Tryz.prog w = .ok .skip (w.setCell ad (.slice q l c)) := by
  have hl := block_lt_of_cell hc
  generalize a.eval = ρ at *
  simp [execOp, ho, hs, ht, go_sem, Tryz.underlying32, hc, hf, hl]

/-- What holds while a name is laid behind, in whatever order. -/
def AddI (W : World) (base b n : Nat) (v : Value) (xs : List Value) (s : Bs) (L : Nat → Bool) (u : Nat → Value) (V : World) : Prop :=
  ((L 0 = true → u 0 = .pointer (some ⟨b, 0, none⟩)) ∧ (L 1 = true → u 1 = .pointer (some ⟨b, 0, none⟩)) ∧ (L 2 = true → u 2 = .pointer (some ⟨b, 0, none⟩)) ∧ (L 3 = true → u 3 = .pointer (some ⟨b, 0, none⟩)) ∧ (L 4 = true → u 4 = v) ∧ (L 5 = true → u 5 = .string (bs s)) ∧ (L 6 = true → u 6 = .string (bs s)) ∧ (L 9 = true → u 9 = .pointer (some ⟨b, 0, none⟩)) ∧ (L 10 = true → u 10 = .pointer (some ⟨b, 0, none⟩)) ∧ (L 7 = true → L 6 = true)) ∧
  ((L 8 = false ∧ L 11 = false ∧ Below W.heap.size W V ∧ (L 7 = true → ∃ g, u 7 = .slice (some ⟨g, 0, none⟩) 1 1 ∧ V.heap[g]? = some (.cells #[.string (bs s)] 9 (0, 0)))) ∨
   (L 8 = true ∧ L 4 = true ∧ L 6 = true ∧ L 7 = true ∧ ∃ V7 V8 g cap, u 8 = .slice (some ⟨g, 0, none⟩) (n + 1) cap ∧ Below W.heap.size W V7 ∧ V7.grownBy V8 v.ownBlock ∧ (v.ownBlock = some g ∨ g = V7.heap.size) ∧ V8.ownsRow base 9 1 (.slice (some ⟨g, 0, none⟩) (n + 1) cap) (n + 1) (xs ++ [.string (bs s)]) ∧
      ((L 11 = false ∧ V = V8) ∨ (L 11 = true ∧ V = V8.setCell ⟨b, 0, none⟩ (.slice (some ⟨g, 0, none⟩) (n + 1) cap)))))

theorem own_form {w : World} {base : Nat} {t : TypeId} {v : Value} {n : Nat} {xs : List Value} (h : w.ownsRow base t 1 v n xs) : ∃ p c, v = .slice p n c := by
  rcases h.2 with ⟨rfl, h0⟩ | ⟨g, cap, cur, rfl, _⟩
  · exact ⟨_, _, by rw [h0]⟩
  · exact ⟨_, _, rfl⟩

set_option maxHeartbeats 1000000 in
set_option maxRecDepth 20000 in
theorem add_any (base b B : Nat) (v : Value) (acc : List Bs) (s : Bs) (w : World) (h : NA base w b B v acc) (hl : acc.length ≤ 100000) (hs : s.length ≤ 1000000) :
    Calls Tryz.prog 30 #[.pointer (some ⟨b, 0, none⟩), .string (bs s)] w fun e w' => e = .returned (.tuple #[]) ∧ ∃ v', NA base w' b B v' (addN acc s) ∧ Chg b B v v' w w' := by
  have hkey : keyOf Tryz.prog 9 (.string (bs s)) = some (.string s) := by
    have := Go.WideMaps.keyOf_string_mk (P := Tryz.prog) (k := 9) Tryz.underlying9 (s := bs s) (by rw [bs_size]; unfold maxLen; omega)
    rw [bs_list] at this
    exact this
  have hhas := has_setD acc s
  obtain ⟨c0, f0, c1, hrow, hmap, lb, lB, hne, hsz⟩ := id h
  have hb0 : b < w.heap.size := block_lt_of_cell c0
  go_enter Tryz.func30, Tryz.ntmps30
  cases hc : acc.contains s with
  | true =>
    rw [hc] at hhas
    have e : addN acc s = acc := by unfold addN; rw [if_pos hc]
    go_wp2_with (at_lookup; refine wpList_lookup_own_unit _ rfl _ _ 66 rfl 9 95 keyS Tryz.underlying66 (zeroS _) B acc.length _ rfl hmap _ _ rfl hkey ?_)
    have n1 := below_new w (.cells #[] 95)
    refine bodyPost_ret (v := .tuple #[]) (by simp [results, Tryz.results30, go_sem]) rfl ⟨rfl, v, ?_, Chg.of_below n1⟩
    rw [e]
    exact h.later n1
  | false =>
    rw [hc] at hhas
    have n1 := below_new w (.cells #[] 95)
    go_wp2_with (first
      | (at_lookup; refine wpList_lookup_own_unit _ rfl _ _ 66 rfl 9 95 keyS Tryz.underlying66 (zeroS _) B acc.length _ rfl hmap _ _ rfl hkey ?_)
      | (at_mapUpdate; refine wpList_mapUpdate_own _ rfl _ _ _ 66 rfl 9 95 keyS Tryz.underlying66 (unitElem (H := Unit)) B acc.length _ rfl (hmap.alloc _) (by unfold maxLen; omega) _ _ _ rfl rfl hkey _ [] unitElem_mk ?_; intro w1 hmap1 hgrow1))
    have hc1' : ∀ a : Addr, a.block = b → w1.cell? a = w.cell? a := fun a ha => by
      rw [cell_of_block (w := w.alloc (.cells #[] 95)) (by rw [ha]; exact hgrow1.block b (by simp; omega) (by simpa using hne)), cell_of_block (w := w) (by rw [ha]; exact n1.block b hb0)]
    have hf1' : ∀ a : Addr, a.block = b → w1.frozen? a = w.frozen? a := fun a ha => by
      rw [frozen_of_block (w := w.alloc (.cells #[] 95)) (by rw [ha]; exact hgrow1.block b (by simp; omega) (by simpa using hne)), frozen_of_block (w := w) (by rw [ha]; exact n1.block b hb0)]
    obtain ⟨pv, cv, rfl⟩ := own_form hrow
    have k0 : w1.cell? ⟨b, 0, none⟩ = some (.slice pv acc.length cv) := by rw [hc1' _ rfl]; exact c0
    have k1 : w1.cell? ⟨b, 1, none⟩ = some (.map (some B)) := by rw [hc1' _ rfl]; exact c1
    have g0 : w1.frozen? ⟨b, 0, none⟩ = false := by rw [hf1' _ rfl]; exact f0
    have hob : ∀ g, (Value.slice pv acc.length cv).ownBlock = some g → base ≤ g := fun g e => (hrow.lt g e).1
    have row1 : w1.ownsRow base 9 1 (.slice pv acc.length cv) acc.length (strs acc) := (hrow.alloc _).kept hgrow1 (.inr (fun e => by have := hob B e; omega))
    have hs1 : w.heap.size + 1 ≤ w1.heap.size := by have := hgrow1.size; simpa using this
    have d1 : Below w1.heap.size w1 w1.drew := Below.drew (Below.refl _ _)
    clear hc1' hf1'
    obtain ⟨i0, hi0, hz0, hz2, hz3⟩ := info_parts info_str
    have CL := fun W => clone_any (bs s) (by rw [bs_size]; omega) W
    go_frame
    refine Orders.region_inv (by kernel_rfl) (fun u => { tmps := #[.pointer (some ⟨b, 0, none⟩), .string (bs s), undef, undef, .pointer (some ⟨w.heap.size, 0, none⟩), .bool false, .tuple #[.agg #[], .bool false], .pointer (some ⟨b, 0, none⟩), .pointer (some ⟨b, 0, none⟩), .pointer (some ⟨b, 1, none⟩), .map (some B), .string (bs s), .tuple #[.agg #[], .bool false], .agg #[], .bool false, .bool false, .pointer (some ⟨b, 0, none⟩), .pointer (some ⟨b, 0, none⟩), .pointer (some ⟨b, 1, none⟩), .map (some B), .string (bs s), .agg #[], u 0, u 1, u 2, u 3, u 4, u 5, u 6, u 7, u 8, u 9, u 10], defers := [] })
      (AddI w1.drew base b acc.length (.slice pv acc.length cv) (strs acc) s) (by kernel_rfl) (fun _ => undef) ?_ ?_ ?_
    · exact ⟨⟨nofun, nofun, nofun, nofun, nofun, nofun, nofun, nofun, nofun, nofun⟩, .inl ⟨rfl, rfl, Below.refl _ _, nofun⟩⟩
    · intro i op L u V ho hL hp hI
      have hi : i < 12 := by
        by_cases hi : i < 12
        · exact hi
        · rw [Array.getElem?_eq_none (by simp; omega)] at ho; cases ho
      obtain ⟨⟨h0, h1, h2, h3, h4, h5, h6, h9, h10, h76⟩, hW⟩ := hI
      match i, hi with
      | 0, _ =>
        cases ho
        exact step_value rfl rfl (run_move _ _ _ _ _ rfl rfl) ⟨_, rfl, ⟨fun _ => rfl, h1, h2, h3, h4, h5, h6, h9, h10, h76⟩, hW⟩
      | 1, _ =>
        cases ho
        exact step_value rfl rfl (run_move _ _ _ _ _ rfl rfl) ⟨_, rfl, ⟨h0, fun _ => rfl, h2, h3, h4, h5, h6, h9, h10, h76⟩, hW⟩
      | 2, _ =>
        cases ho
        exact step_value rfl rfl (run_nilCheck _ _ _ _ _ rfl (h1 (hp ⟨1, Ground.data⟩ (by simp) rfl))) ⟨_, rfl, ⟨h0, h1, fun _ => rfl, h3, h4, h5, h6, h9, h10, h76⟩, hW⟩
      | 3, _ =>
        cases ho
        exact step_value rfl rfl (run_field0 _ _ _ _ b rfl (h2 (hp ⟨2, Ground.data⟩ (by simp) rfl))) ⟨_, rfl, ⟨h0, h1, h2, fun _ => rfl, h4, h5, h6, h9, h10, h76⟩, hW⟩
      | 4, _ =>
        cases ho
        rcases hW with ⟨l8, l11, hb, h7⟩ | ⟨_, l4, _⟩
        · exact step_value rfl rfl (run_loadSl _ _ _ _ _ pv acc.length cv rfl (h3 (hp ⟨3, Ground.data⟩ (by simp) rfl)) (kept_cell hb (kept_cell d1 k0))) ⟨_, rfl, ⟨h0, h1, h2, h3, fun _ => rfl, h5, h6, h9, h10, h76⟩, .inl ⟨l8, l11, hb, h7⟩⟩
        · rw [hL] at l4; cases l4
      | 5, _ =>
        cases ho
        exact step_value rfl rfl (run_move _ _ _ _ _ rfl rfl) ⟨_, rfl, ⟨h0, h1, h2, h3, h4, fun _ => rfl, h6, h9, h10, h76⟩, hW⟩
      | 6, _ =>
        cases ho
        rcases hW with ⟨l8, l11, hb, h7⟩ | ⟨_, _, l6, _⟩
        · refine step_called (R := fun y V' => y = .string (bs s) ∧ Below V.heap.size V V') rfl rfl (run_callClone _ _ _ _ _ _ rfl (h5 (hp ⟨5, Ground.data⟩ (by simp) rfl))) ((CL _).mono fun e V' h => ⟨_, h.1, rfl, h.2⟩) ?_
          rintro y V' ⟨rfl, hb'⟩
          refine ⟨_, rfl, ⟨h0, h1, h2, h3, h4, h5, fun _ => rfl, h9, h10, fun _ => rfl⟩, .inl ⟨l8, l11, hb.trans (hb'.mono hb.size), fun h => ?_⟩⟩
          have := h76 h
          rw [hL] at this; cases this
        · rw [hL] at l6; cases l6
      | 7, _ =>
        cases ho
        rcases hW with ⟨l8, l11, hb, h7⟩ | ⟨_, _, _, l7, _⟩
        · have l6 : L 6 = true := hp ⟨6, Ground.data⟩ (by simp) rfl
          exact step_value rfl rfl (run_build1 _ _ _ _ (bs s) rfl (h6 l6)) ⟨_, rfl, ⟨h0, h1, h2, h3, h4, h5, h6, h9, h10, fun _ => l6⟩, .inl ⟨l8, l11, hb.trans ((below_new V _).mono hb.size), fun _ => ⟨_, rfl, heap_alloc_new V _⟩⟩⟩
        · rw [hL] at l7; cases l7
      | 8, _ =>
        cases ho
        have l4 : L 4 = true := hp ⟨4, Ground.data⟩ (by simp) rfl
        have l7 : L 7 = true := hp ⟨7, Ground.data⟩ (by simp) rfl
        rcases hW with ⟨l8, l11, hb, h7⟩ | ⟨l8, _⟩
        · obtain ⟨g, e7, hg⟩ := h7 l7
          have own' : V.ownsRow base 9 1 (.slice pv acc.length cv) acc.length (strs acc) := (row1.kept (grown_of_below d1 none) (by cases (Value.slice pv acc.length cv).ownBlock <;> simp)).kept (grown_of_below hb none) (by cases (Value.slice pv acc.length cv).ownBlock <;> simp)
          refine step_oper rfl rfl (wp_append_lies V (.tmp 26) (.tmp 29) 32 rfl base 9 i0 _ 1 16 Tryz.underlying32 hi0 hz0 hz2 hz3 rfl (by omega) (.slice pv acc.length cv) acc.length (strs acc) (h4 l4) own' ⟨g, 0, none⟩ 1 1 [.string (bs s)] e7 rfl (World.news_of_block hg) (by simp [Value.oneCell']) (by omega) (by unfold maxLen; omega) (by omega) (by have := hb.size; have := d1.size; omega) V.heap.size rfl ?_)
          intro g' cap' V' hown' hgrow hor hlt
          exact ⟨_, rfl, ⟨h0, h1, h2, h3, h4, h5, h6, h9, h10, h76⟩, .inr ⟨rfl, l4, h76 l7, l7, V, V', g', cap', rfl, hb, hgrow, hor, hown', .inl ⟨l11, rfl⟩⟩⟩
        · rw [hL] at l8; cases l8
      | 9, _ =>
        cases ho
        exact step_value rfl rfl (run_nilCheck _ _ _ _ _ rfl (h0 (hp ⟨0, Ground.data⟩ (by simp) rfl))) ⟨_, rfl, ⟨h0, h1, h2, h3, h4, h5, h6, fun _ => rfl, h10, h76⟩, hW⟩
      | 10, _ =>
        cases ho
        exact step_value rfl rfl (run_field0 _ _ _ _ b rfl (h9 (hp ⟨9, Ground.data⟩ (by simp) rfl))) ⟨_, rfl, ⟨h0, h1, h2, h3, h4, h5, h6, h9, fun _ => rfl, h76⟩, hW⟩
      | 11, _ =>
        cases ho
        have l8 : L 8 = true := hp ⟨8, Ground.data⟩ (by simp) rfl
        rcases hW with ⟨l8', _⟩ | ⟨_, l4, l6, l7, V7, V8, g', cap', e8, hb, hgrow, hor, hown', hV⟩
        · rw [l8] at l8'; cases l8'
        · rcases hV with ⟨_, rfl⟩ | ⟨l11, _⟩
          · have hbW : b < w1.drew.heap.size := by have := d1.size; omega
            have hbk : V.heap[b]? = w1.drew.heap[b]? := (hgrow.block b (by have := hb.size; omega) (fun e => by have := hob b e.symm; omega)).trans (hb.block b hbW)
            have kc : V.cell? ⟨b, 0, none⟩ = some (.slice pv acc.length cv) := by rw [cell_of_block (w := w1.drew) hbk]; exact kept_cell d1 k0
            have kf : V.frozen? ⟨b, 0, none⟩ = false := by rw [frozen_of_block (w := w1.drew) hbk]; exact g0
            exact step_skip rfl rfl (run_storeSl _ _ _ _ _ _ _ _ _ rfl (h10 (hp ⟨10, Ground.data⟩ (by simp) rfl)) e8 kc kf) ⟨undef, rfl, ⟨h0, h1, h2, h3, h4, h5, h6, h9, h10, h76⟩, .inr ⟨l8, l4, l6, l7, V7, V, g', cap', e8, hb, hgrow, hor, hown', .inr ⟨rfl, rfl⟩⟩⟩
          · rw [hL] at l11; cases l11
    · intro L u V hall hI
      obtain ⟨-, hW⟩ := hI
      rcases hW with ⟨l8', _⟩ | ⟨-, -, -, -, V7, V8, g', cap', -, hb, hgrow, hor, hown', hV⟩
      · rw [hall 8 (by decide)] at l8'; cases l8'
      · rcases hV with ⟨l11, _⟩ | ⟨-, hV⟩
        · rw [hall 11 (by decide)] at l11; cases l11
        · subst hV
          have eA : addN acc s = acc ++ [s] := by unfold addN; rw [if_neg (by rw [hc]; simp)]
          have hbW : b < w1.drew.heap.size := by have := d1.size; omega
          have hbk : V8.heap[b]? = w1.drew.heap[b]? := (hgrow.block b (by have := hb.size; omega) (fun e => by have := hob b e.symm; omega)).trans (hb.block b hbW)
          have kc0 : V8.cell? ⟨b, 0, none⟩ = some (.slice pv acc.length cv) := by rw [cell_of_block (w := w1.drew) hbk]; exact kept_cell d1 k0
          have kc1 : V8.cell? ⟨b, 1, none⟩ = some (.map (some B)) := by rw [cell_of_block (w := w1.drew) hbk]; exact kept_cell d1 k1
          have kf0 : V8.frozen? ⟨b, 0, none⟩ = false := by rw [frozen_of_block (w := w1.drew) hbk]; exact g0
          have hgs : V8.grownBy (V8.setCell ⟨b, 0, none⟩ (.slice (some ⟨g', 0, none⟩) (acc.length + 1) cap')) (some b) := ⟨rfl, rfl, rfl, by simp, fun k hk hk2 => Below.heap_setCell _ _ _ _ (by simpa using hk2)⟩
          have hgb : base ≤ g' := (hown'.lt g' rfl).1
          have row2 := hown'.kept hgs (.inr (by show some g' ≠ some b; intro e; cases e; omega))
          have map2 := (((hmap1.kept (grown_of_below d1 none) (by simp)).kept (grown_of_below hb none) (by simp)).kept hgrow (fun e => by have := hob B e.symm; omega)).kept hgs (by intro e; cases e; exact hne rfl)
          have hsd : setD (acc ++ [s]) = (setD acc).put (.string s) (.agg []) := by unfold setD; rw [List.map_append, List.map_singleton, Maps.setOf_snoc]
          have szs : w.heap.size ≤ V8.heap.size := by have := hgrow.size; have := hb.size; have := d1.size; omega
          have NA2 : NA base (V8.setCell ⟨b, 0, none⟩ (.slice (some ⟨g', 0, none⟩) (acc.length + 1) cap')) b B (.slice (some ⟨g', 0, none⟩) (acc.length + 1) cap') (addN acc s) := by
            rw [eA]
            refine ⟨World.cell?_setCell_same _ _ _ kc0, by rw [World.frozen?_setCell]; exact kf0, by rw [World.cell?_setCell_other _ _ _ _ (fun e => by cases e)]; exact kc1, ?_, ?_, lb, lB, hne, by simp; omega⟩
            · rw [List.length_append, show strs (acc ++ [s]) = strs acc ++ [.string (bs s)] by simp [strs]]; exact row2
            · rw [List.length_append, hsd]; exact map2
          have CH : Chg b B (.slice pv acc.length cv) (.slice (some ⟨g', 0, none⟩) (acc.length + 1) cap') w (V8.setCell ⟨b, 0, none⟩ (.slice (some ⟨g', 0, none⟩) (acc.length + 1) cap')) := by
            refine ⟨(hgs.os.trans hgrow.os).trans ((hb.os.trans d1.os).trans (hgrow1.os.trans n1.os)), (hgs.tape.trans hgrow.tape).trans ((hb.tape.trans d1.tape).trans (hgrow1.tape.trans n1.tape)), (hgs.output.trans hgrow.output).trans ((hb.output.trans d1.output).trans (hgrow1.output.trans n1.output)), by simp; omega, fun k hk h1 h2 h3 => ?_, ?_⟩
            · have a1 := hgs.block k (by omega) (by intro e; cases e; exact h1 rfl)
              have a2 := hgrow.block k (by have := hb.size; have := d1.size; omega) (fun e => h3 e.symm)
              have a3 := hb.block k (by have := d1.size; omega)
              have a4 := d1.block k (by omega)
              have a5 := hgrow1.block k (by simp; omega) (by intro e; cases e; exact h2 rfl)
              have a6 := n1.block k hk
              exact a1.trans (a2.trans (a3.trans (a4.trans (a5.trans a6))))
            · rcases hor with e | e
              · exact .inl e.symm
              · exact .inr ⟨g', by have := hb.size; have := d1.size; omega, rfl⟩
          clear hb hgrow hor hown' row2 map2 hgs CL eA
          go_wp2_with fail
          go_end0
          exact ⟨rfl, _, NA2, CH⟩
end Go.Proofs.YtopfnfmglnjljaaGreatDoor.Nn
