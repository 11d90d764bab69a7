/- The contracts of dis.Frags at the two bytes of se_blr. -/
import Derived.Test.YtagplfochalidabDoorList
import Derived.Laws.Strings2
import Derived.Laws.Append
import Derived.OwnWalk
namespace Go.Proofs.YtagplfochalidabDoor
open Go.ChangeShapes Go.WideShapes Go.ChangeAt Go.RowKit
open Plain
set_option linter.unusedVariables false
set_option linter.unusedSimpArgs false

theorem itoa100 : Lib.itoa 100 = [49, 48, 48] := by simp [Lib.itoa, Lib.decDigits]
theorem itoa7 : Lib.itoa 7 = [55] := by simp [Lib.itoa, Lib.decDigits]
theorem itoa3 : Lib.itoa 3 = [51] := by simp [Lib.itoa, Lib.decDigits]
theorem itoa65535 : Lib.itoa 65535 = [54, 53, 53, 51, 53] := by simp [Lib.itoa, Lib.decDigits]

set_option maxHeartbeats 1600000 in
set_option maxRecDepth 20000 in
theorem nameOf_zero (w : World) (T : Tab w) : Calls Tryd.prog 17 #[.int .i64 0] w fun e w' => e = .returned (.string (bs [112, 48, 48])) ∧ Below w.heap.size w w' := by
  have I := itoa_any 100 (by omega) (by omega) w T
  rw [itoa100] at I
  have A0 := str_add [112] [48, 48] (by simp)
  go_enter Tryd.func17, Tryd.ntmps17
  go_wp2_with (go_at_call 16; refine I.mono ?_; rintro e w2 ⟨rfl, hb2⟩)
  go_ret
  exact ⟨rfl, hb2⟩
theorem wpList_appstr {ops : Array Oper} {rest : List Oper} {o : Oper} {a : Act} {Q : Exit → Act → World → Prop} {w : World} (hgd : o.guard = none) (s x : Operand) (t u : TypeId)
    (ho : o.op = .call { callee := .builtin .append, args := #[s, x], argTypes := #[t, u] }) (v : Value) (st : ByteArray) (hs : a.eval s = v) (hx : a.eval x = .string st) (v' : Value) (w' : World)
    (hr : (Builtin.append_ #[t, u] o.type #[v, .string st]).run Tryd.prog w = .ok v' w') (hK : wpList Tryd.prog ops Q rest (a.put o.dst v') w') : wpList Tryd.prog ops Q (o :: rest) a w := by
  refine wpList_plain hgd fun K hK' => ?_
  unfold Oper.wp execOp
  simp only [ho, resolve, invoke, builtin, Sem.run_bind, Sem.run_pure, Result.andThen_ok, List.map_toArray, List.map_cons, List.map_nil, hs, hx, hr]
  exact hK' _ _ hK

theorem info_u8 : (Tryd.prog.info? 5).map (fun i => (i.zero, i.size, i.bytes)) = some (some (.int .u8 0), 1, 1) := by kernel_rfl

def blrLf : List Value := [.int .u8 115, .int .u8 101, .int .u8 95, .int .u8 98, .int .u8 108, .int .u8 114, .int .u8 10]

/-- A page that is new. -/
structure Page (B : Nat) (w : World) : Prop where
  full : w.cell? ⟨B, 0, none⟩ = some (.slice none 0 0)
  text : w.cell? ⟨B, 1, none⟩ = some (.slice none 0 0)
  th0 : w.frozen? ⟨B, 0, none⟩ = false
  th1 : w.frozen? ⟨B, 1, none⟩ = false
  lt : B < w.heap.size

/-- A page with the line se_blr on it. -/
structure Page1 (B : Nat) (w : World) : Prop where
  full : w.cell? ⟨B, 0, none⟩ = some (.slice none 0 0)
  text : ∃ tv, w.cell? ⟨B, 1, none⟩ = some tv ∧ w.ownsRow (B + 1) 5 1 tv 7 blrLf
  th0 : w.frozen? ⟨B, 0, none⟩ = false
  th1 : w.frozen? ⟨B, 1, none⟩ = false
  lt : B < w.heap.size

theorem Page.later {B : Nat} {w w' : World} (h : Page B w) (hb : Below w.heap.size w w') : Page B w' :=
  ⟨kept_cell hb h.full, kept_cell hb h.text, kept_thawed hb h.lt h.th0, kept_thawed hb h.lt h.th1, Nat.lt_of_lt_of_le h.lt hb.size⟩

set_option maxHeartbeats 1600000 in
set_option maxRecDepth 20000 in
theorem put_page (B : Nat) (w : World) (h : Page B w) :
    Calls Tryd.prog 10 #[.pointer (some ⟨B, 0, none⟩), .string (bs blr)] w fun e w' => e = .returned (.bool true) ∧ Page1 B w' ∧ Below B w w' := by
  obtain ⟨h0, h1, h2, h3, h4⟩ := h
  obtain ⟨i0, hi0, hz0, hz2, hz3⟩ := info_parts info_u8
  have hsz : (bs blr).size = 6 := rfl
  have R1 := run_append_nil_string (P := Tryd.prog) (w := w) 24 9 24 5 i0 (.int .u8 0) Tryd.underlying24 Tryd.underlying9 hi0 hz0 (bs blr) (by rw [hsz]; omega) (by rw [hsz]; omega) (by rw [hsz, hz3]; omega)
  have hge := grownCap_ge w (bs blr).size 0 5
  have hle := grownCap_le_maxLen w (bs blr).size 0 5 (by rw [hsz]; unfold maxLen; omega)
  rw [hsz] at R1 hge hle
  generalize grownCap w 6 0 5 = C at *
  obtain ⟨W1, hW1⟩ : ∃ W1, W1 = w.drew.alloc (.cells ((bs blr).data.map (fun b => Value.int .u8 b.toNat) ++ Builtin.zeroCells (Value.int .u8 0).cells (C - 6)) 5) := ⟨_, rfl⟩
  rw [← hW1] at R1
  have hb1 : Below w.heap.size w W1 := by
    rw [hW1]
    exact (⟨rfl, rfl, rfl, Nat.le_refl _, fun _ _ => rfl⟩ : Below w.heap.size w w.drew).alloc (Nat.le_refl _) _
  have hown1 : W1.ownsRow (B + 1) 5 1 (.slice (some ⟨w.heap.size, 0, none⟩) 6 C) 6 (blrLf.take 6) := by
    refine ⟨rfl, .inr ⟨w.heap.size, C, _, rfl, by omega, by rw [hW1]; exact heap_alloc_new _ _, hge, hle, ?_, ?_⟩⟩
    · simp [Builtin.zeroCells, Value.cells, bs, blr]
      omega
    · simp [bs, blr, blrLf]
  have hs1 : W1.heap.size = w.heap.size + 1 := by rw [hW1]; simp
  have c0 := kept_cell hb1 h0
  have c1 := kept_cell hb1 h1
  have t0 := kept_thawed hb1 h4 h2
  have t1 := kept_thawed hb1 h4 h3
  have hne : some B ≠ (Value.slice (some ⟨w.heap.size, 0, none⟩) 6 C).ownBlock := by simp [Value.ownBlock]; omega
  have hBb : B < W1.heap.size := by omega
  clear hW1
  have hownS := ownsRow_setCell_below hown1 (a := ⟨B, 1, none⟩) (by show B < B + 1; omega) (.slice (some ⟨w.heap.size, 0, none⟩) 6 C)
  have k0 : (W1.setCell ⟨B, 1, none⟩ (.slice (some ⟨w.heap.size, 0, none⟩) 6 C)).cell? ⟨B, 0, none⟩ = some (.slice none 0 0) := by rw [World.cell?_setCell_other _ _ _ _ (by simp)]; exact c0
  have k1 : (W1.setCell ⟨B, 1, none⟩ (.slice (some ⟨w.heap.size, 0, none⟩) 6 C)).cell? ⟨B, 1, none⟩ = some (.slice (some ⟨w.heap.size, 0, none⟩) 6 C) := World.cell?_setCell_same _ _ _ c1
  have u0 : (W1.setCell ⟨B, 1, none⟩ (.slice (some ⟨w.heap.size, 0, none⟩) 6 C)).frozen? ⟨B, 0, none⟩ = false := by rw [World.frozen?_setCell]; exact t0
  have u1 : (W1.setCell ⟨B, 1, none⟩ (.slice (some ⟨w.heap.size, 0, none⟩) 6 C)).frozen? ⟨B, 1, none⟩ = false := by rw [World.frozen?_setCell]; exact t1
  have hbS : Below B w (W1.setCell ⟨B, 1, none⟩ (.slice (some ⟨w.heap.size, 0, none⟩) 6 C)) := (hb1.mono (Nat.le_of_lt h4)).setCell (Nat.le_refl _) _
  have hBs : B < (W1.setCell ⟨B, 1, none⟩ (.slice (some ⟨w.heap.size, 0, none⟩) 6 C)).heap.size := by simpa using hBb
  have hnb : ((W1.setCell ⟨B, 1, none⟩ (.slice (some ⟨w.heap.size, 0, none⟩) 6 C)).alloc (.cells #[.int .u8 10] 5)).heap[W1.heap.size]? = some (.cells #[.int .u8 10] 5 (0, 0)) := by
    have := heap_alloc_new (W1.setCell ⟨B, 1, none⟩ (.slice (some ⟨w.heap.size, 0, none⟩) 6 C)) (.cells #[.int .u8 10] 5)
    simpa using this
  have hnews := World.news_of_block (cs := #[.int .u8 10]) (t := 5) (fr := (0, 0)) hnb
  have hsz2 : B + 1 ≤ ((W1.setCell ⟨B, 1, none⟩ (.slice (some ⟨w.heap.size, 0, none⟩) 6 C)).alloc (.cells #[.int .u8 10] 5)).heap.size := by simp; omega
  have hownA := hownS.alloc (.cells #[.int .u8 10] 5)
  have hbA : Below B w ((W1.setCell ⟨B, 1, none⟩ (.slice (some ⟨w.heap.size, 0, none⟩) 6 C)).alloc (.cells #[.int .u8 10] 5)) := hbS.alloc (Nat.le_of_lt hBs) _
  have kA0 := kept_alloc (o := .cells #[.int .u8 10] 5) k0
  have kA1 := kept_alloc (o := .cells #[.int .u8 10] 5) k1
  have uA0 := kept_thawed ((Below.refl _ _).alloc (Nat.le_refl _) (.cells #[.int .u8 10] 5)) hBs u0
  have uA1 := kept_thawed ((Below.refl _ _).alloc (Nat.le_refl _) (.cells #[.int .u8 10] 5)) hBs u1
  have hBA : B < ((W1.setCell ⟨B, 1, none⟩ (.slice (some ⟨w.heap.size, 0, none⟩) 6 C)).alloc (.cells #[.int .u8 10] 5)).heap.size := hsz2
  clear hs1
  go_enter Tryd.func10, Tryd.ntmps10
  go_wp2_with (first | (at_builtin; refine wpList_appstr rfl _ _ 24 9 rfl _ _ rfl rfl _ _ R1 ?_) | (at_builtin; refine wpList_append_lies _ rfl _ _ 24 rfl (B + 1) 5 i0 (.int .u8 0) 1 1 Tryd.underlying24 hi0 hz0 hz2 hz3 rfl (by decide) (.slice (some ⟨w.heap.size, 0, none⟩) 6 C) 6 _ rfl hownA ⟨W1.heap.size, 0, none⟩ 1 1 [.int .u8 10] rfl rfl hnews (by simp [Value.oneCell']) (by omega) (by unfold maxLen; omega) (by omega) hsz2 _ rfl ?_; intro g cap w2 hown2 hgrow hat hlt; have x0 := hgrow.cell kA0 hne; have x1 := hgrow.cell kA1 hne; have y0 := (hgrow.frozen_far ⟨B, 0, none⟩ hBA hne).trans uA0; have y1 := (hgrow.frozen_far ⟨B, 1, none⟩ hBA hne).trans uA1; have hs2 : B < w2.heap.size := Nat.lt_of_lt_of_le hBA hgrow.size; have hb2 : Below B w w2 := hbA.grown hgrow (Nat.le_of_lt hBA) (fun k hk => (by have := (hownA.lt k hk).1; omega))))
  go_ret
  refine ⟨rfl, ⟨by rw [World.cell?_setCell_other _ _ _ _ (by simp)]; exact x0, ⟨_, World.cell?_setCell_same _ _ _ x1, ?_⟩, by rw [World.frozen?_setCell]; exact y0, by rw [World.frozen?_setCell]; exact y1, by simpa using hs2⟩, hb2.setCell (Nat.le_refl _) _⟩
  exact ownsRow_setCell_below hown2 (a := ⟨B, 1, none⟩) (by show B < B + 1; omega) _
end Go.Proofs.YtagplfochalidabDoor
