/- The contract of told: some bits, read as one instruction. -/
import Derived.Test.YtagplfochalidabDoorLead
import Derived.Deep.RegionLaw
import Derived.Deep.AppendLies
namespace Go.Proofs.YtagplfochalidabDoor
open Go.ChangeShapes Go.WideShapes Go.ChangeAt Go.RowKit
open Plain
set_option linter.unusedVariables false
set_option linter.unusedSimpArgs false

def tells (op x : Int) : List Int := (rowP op).ks.map fun k => k.tell x
/-- Do these bits say this instruction? -/
def toldP (op x : Int) : Bool := decide (bits .and .u32 x (rowP op).bits = (rowP op).bits) && decide (codedP op (tells op x) = (x, true))

/-- The slice v holds the numbers fs, in a block from base on. -/
def NewSlice (base : Nat) (w : World) (v : Value) (fs : List Int) : Prop :=
  ∃ p cap, v = .slice p fs.length cap ∧ (fs ≠ [] → ∃ b o, p = some ⟨b, o, none⟩ ∧ base ≤ b ∧ ∀ i x, fs[i]? = some x → w.cell? ⟨b, o + i, none⟩ = some (.int .i64 x))

theorem NewSlice.is {base : Nat} {w : World} {v : Value} {fs : List Int} (h : NewSlice base w v fs) : SliceIs w v fs := by
  obtain ⟨p, cap, rfl, h⟩ := h
  refine ⟨p, cap, rfl, fun hn => ?_⟩
  obtain ⟨b, o, e, _, h2⟩ := h hn
  exact ⟨b, o, e, h2⟩

theorem NewSlice.later {base : Nat} {w w' : World} {v : Value} {fs : List Int} (h : NewSlice base w v fs) (hb : Below w.heap.size w w') : NewSlice base w' v fs := by
  obtain ⟨p, cap, rfl, h⟩ := h
  refine ⟨p, cap, rfl, fun hn => ?_⟩
  obtain ⟨b, o, e, h1, h2⟩ := h hn
  exact ⟨b, o, e, h1, fun i x hx => kept_cell hb (h2 i x hx)⟩

theorem NewSlice.set {base : Nat} {w : World} {v u : Value} {fs : List Int} {a : Addr} (h : NewSlice base w v fs) (ha : a.block < base) : NewSlice base (w.setCell a u) v fs := by
  obtain ⟨p, cap, rfl, h⟩ := h
  refine ⟨p, cap, rfl, fun hn => ?_⟩
  obtain ⟨b, o, e, h1, h2⟩ := h hn
  refine ⟨b, o, e, h1, fun i x hx => ?_⟩
  rw [World.cell?_setCell_other w a ⟨b, o + i, none⟩ u (by rintro rfl; simp at ha; omega)]
  exact h2 i x hx

theorem new_of_row {w : World} {base base' : Nat} {v : Value} {xs : List Int} (hbb : base' ≤ base) (h : w.ownsRow base 3 1 v xs.length (xs.map fun x => Value.int .i64 x)) : NewSlice base' w v xs := by
  obtain ⟨_, h⟩ := h
  rcases h with ⟨rfl, hn⟩ | ⟨g, cap, cur, rfl, hg, hc, h1, h2, h3, h4⟩
  · refine ⟨none, 0, by rw [hn], fun hne => ?_⟩
    exact absurd (List.length_eq_zero_iff.1 hn) hne
  · refine ⟨some ⟨g, 0, none⟩, cap, rfl, fun _ => ⟨g, 0, rfl, by omega, fun i x hx => ?_⟩⟩
    have e : cur[i]? = some (.int .i64 x) := by
      have hi : i < xs.length := (List.getElem?_eq_some_iff.1 hx).1
      have := congrArg (·[i]?) h4
      simp only [List.getElem?_take, List.getElem?_map, hx, Option.map_some] at this
      rw [if_pos (by omega)] at this
      simpa using this
    simp [World.cell?, hc, e]

theorem slice_of_row {w : World} {base : Nat} {v : Value} {xs : List Int} (h : w.ownsRow base 3 1 v xs.length (xs.map fun x => Value.int .i64 x)) : SliceIs w v xs := (new_of_row (Nat.le_refl _) h).is

theorem new_thawed {w : World} {t : TypeId} (cs : Array Value) (i : Nat) : (w.alloc (.cells cs t)).frozen? ⟨w.heap.size, i, none⟩ = false := by simp

theorem kept_thawed {w w' : World} (h : Below w.heap.size w w') {a : Addr} (ha : a.block < w.heap.size) (hc : w.frozen? a = false) : w'.frozen? a = false := by
  rw [h.frozen ha]; exact hc

set_option maxHeartbeats 800000 in
set_option maxRecDepth 20000 in
theorem told_no (op x : Int) (w : World) (T : TabOp op w) (h : ¬ bits .and .u32 x (rowP op).bits = (rowP op).bits) :
    Calls Tryd.prog 20 #[.int .i64 op, .int .u32 x] w fun e w' => e = .returned (.tuple #[.agg #[.int .i64 0, .slice none 0 0], .bool false]) ∧ Below w.heap.size w w' := by
  have hb0 : Below w.heap.size w (w.alloc (.cells #[.int .i64 0, .slice none 0 0] 42)) := (Below.refl _ _).alloc (Nat.le_refl _) _
  have C := rowOf_any op _ (T.later hb0)
  have cA := new_cell (w := w) (t := 42) #[.int .i64 0, .slice none 0 0] 0 (.int .i64 0) rfl
  have cB := new_cell (w := w) (t := 42) #[.int .i64 0, .slice none 0 0] 1 (.slice none 0 0) rfl
  unfold R.val at C
  generalize rowP op = r at *
  obtain ⟨nm, bt, ks⟩ := r
  simp only [R.kinds] at C h
  go_enter Tryd.func20, Tryd.ntmps20
  have f0 := new_thawed (w := w) (t := 42) #[.int .i64 0, .slice none 0 0] 0
  have f1 := new_thawed (w := w) (t := 42) #[.int .i64 0, .slice none 0 0] 1
  have hlt : w.heap.size < (w.alloc (.cells #[.int .i64 0, .slice none 0 0] 42)).heap.size := by simp
  go_wp2_with (go_at_call 27; refine C.mono ?_; rintro e w1 ⟨rfl, hw1⟩; have c1 := kept_cell hw1 cA; have c2 := kept_cell hw1 cB; have hz : w.heap.size < w1.heap.size := Nat.lt_of_lt_of_le hlt hw1.size; have g0 := kept_thawed hw1 hlt f0; have g1 := kept_thawed hw1 hlt f1)
  exact bodyPost_ret (v := .tuple #[.agg #[.int .i64 0, .slice none 0 0], .bool false]) (by simp [results, Tryd.results20, go_sem, hz, c1, c2, Nat.ne_of_lt hz]) rfl
    ⟨rfl, ((((hb0.trans (hw1.mono hb0.size)).setCell (Nat.le_refl _) _).setCell (Nat.le_refl _) _).alloc (by simpa using Nat.le_of_lt hz) _)⟩

theorem signP_bounds (v : Int) (k : Nat) (h : k ≤ 40) : -1099511627776 ≤ signP v k ∧ signP v k ≤ 1099511627776 := by
  have p0 := pow_pos2 k
  have p1 : (2 : Int) ^ k ≤ 1099511627776 := pow_le k 40 h
  have m0 := Int.emod_nonneg (v + 2 ^ k / 2) (b := 2 ^ k) (by omega)
  have m1 := Int.emod_lt_of_pos (v + 2 ^ k / 2) (b := 2 ^ k) (by omega)
  unfold signP
  omega

theorem tell_range (k : K) (x : Int) : -9223372036854775808 ≤ k.tell x ∧ k.tell x ≤ 9223372036854775807 := by
  have hc : ∀ f b l s : Int, 0 ≤ b → b ≤ 31 → 0 ≤ l → l ≤ 1 → (s = 1 ∨ s = 2 ∨ s = 4) → -9223372036854775808 ≤ countT f b l s x ∧ countT f b l s x ≤ 9223372036854775807 := by
    intro f b l s b0 b1 l0 l1 hs
    have t := takeP_bounds f b x b0 b1
    have q : (2 : Int) ^ b.toNat ≤ 2147483648 := pow_le b.toNat 31 (by omega)
    unfold countT
    rcases hs with rfl | rfl | rfl <;> omega
  have hg : ∀ (f s : Int) (b : Nat), b ≤ 40 → (s = 1 ∨ s = 2) → -9223372036854775808 ≤ signT f b s x ∧ signT f b s x ≤ 9223372036854775807 := by
    intro f s b b1 hs
    have t := signP_bounds (takeP f b x) ((b : Int)).toNat (by omega)
    unfold signT
    rcases hs with rfl | rfl <;> omega
  have hr : ∀ f b : Int, 0 ≤ b → b ≤ 31 → -9223372036854775808 ≤ regT f b x ∧ regT f b x ≤ 9223372036854775807 := by
    intro f b b0 b1
    have t := takeP_bounds f b x b0 b1
    have q : (2 : Int) ^ b.toNat ≤ 2147483648 := pow_le b.toNat 31 (by omega)
    unfold regT
    split <;> omega
  cases k
  case kX => exact hr _ _ (by omega) (by omega)
  case kY => exact hr _ _ (by omega) (by omega)
  case kT8 => exact hg 0 2 8 (by omega) (by omega)
  case kS16 => exact hg 0 1 16 (by omega) (by omega)
  case kT15 => exact hg 1 2 15 (by omega) (by omega)
  case kT24 => exact hg 1 2 24 (by omega) (by omega)
  case kL20 => have := signP_bounds (takeP 11 4 x * 65536 + takeP 16 5 x * 2048 + takeP 0 11 x) 20 (by omega); show _ ≤ signP _ 20 ∧ signP _ 20 ≤ _; omega
  case kC8 => have := signP_bounds (backU (takeP 10 1 x) (takeP 8 2 x) (takeP 0 8 x)) 32 (by omega); show _ ≤ signP _ 32 ∧ signP _ 32 ≤ _; omega
  all_goals exact hc _ _ _ _ (by omega) (by omega) (by omega) (by omega) (by omega)

theorem grown_set (w : World) (a : Addr) (v : Value) : w.grownBy (w.setCell a v) (some a.block) :=
  ⟨rfl, rfl, rfl, by simp [World.setCell], fun k hk hne => Below.heap_setCell _ _ _ _ (fun e => hne (by rw [e]))⟩

theorem set_far {w : World} {X : Nat} {u v : Value} (h : w.cell? ⟨X, 0, none⟩ = some u) : (w.setCell ⟨X, 1, none⟩ v).cell? ⟨X, 0, none⟩ = some u := by
  rw [World.cell?_setCell_other w ⟨X, 1, none⟩ ⟨X, 0, none⟩ v (by simp)]; exact h
theorem set_same {w : World} {X : Nat} {u v : Value} (h : w.cell? ⟨X, 1, none⟩ = some u) : (w.setCell ⟨X, 1, none⟩ v).cell? ⟨X, 1, none⟩ = some v := World.cell?_setCell_same w ⟨X, 1, none⟩ v h
theorem set_thawed {w : World} {X : Nat} {v : Value} (h : w.frozen? ⟨X, 1, none⟩ = false) : (w.setCell ⟨X, 1, none⟩ v).frozen? ⟨X, 1, none⟩ = false := by
  rw [World.frozen?_setCell]; exact h
theorem grown_then {a b c : World} {row row' : Option Nat} (h : a.grownBy b row) (k : b.grownBy c row') (hr : ∀ j, row' = some j → a.heap.size ≤ j) : a.grownBy c row :=
  ⟨k.os.trans h.os, k.tape.trans h.tape, k.output.trans h.output, Nat.le_trans h.size k.size, fun i hi hne => (k.block i (Nat.lt_of_lt_of_le hi h.size) (fun e => by have := hr i e.symm; omega)).trans (h.block i hi hne)⟩

/-- A call through a function value, at a step of a statement that draws its order. -/
theorem step_enter {ops : Array Oper} {o : Oper} {a : Act} {K : Act → World → Prop} {Q : Exit → Act → World → Prop} {E : Prop} {w : World} {f : FuncId} {args : Array Value} {v : Value} (hgd : o.guard = none)
    (h : (execOp a.eval o).run Tryd.prog w = .ok (.enter f args) w) (hc : Calls Tryd.prog f args w fun e w' => e = .returned v ∧ Below w.heap.size w w') (hK : ∀ w', Below w.heap.size w w' → K (a.put o.dst v) w') :
    if Region.wanted o (yielded ops a.tmps) = true then Oper.wp Tryd.prog o a w K Q else E := by
  have hw : Region.wanted o (yielded ops a.tmps) = true := by simp [Region.wanted, hgd]
  rw [if_pos hw]
  unfold Oper.wp
  rw [h, Oper.upon_enter]
  refine hc.mono ?_
  rintro e w' ⟨rfl, hb⟩
  exact hK w' hb

theorem grown_of_below {w w' : World} (h : Below w.heap.size w w') (row : Option Nat) : w.grownBy w' row := ⟨h.os, h.tape, h.output, h.size, fun k hk _ => h.block k hk⟩

theorem info_int : (Tryd.prog.info? 3).map (fun i => (i.zero, i.size, i.bytes)) = some (some (.int .i64 0), 1, 8) := by kernel_rfl

set_option maxHeartbeats 1600000 in
set_option maxRecDepth 20000 in
theorem told_main (op x : Int) (x0 : 0 ≤ x) (x1 : x < 4294967296) (w : World) (T : TabOp op w) (h : bits .and .u32 x (rowP op).bits = (rowP op).bits) :
    Calls Tryd.prog 20 #[.int .i64 op, .int .u32 x] w fun e w' => Below w.heap.size w w' ∧
      ((codedP op (tells op x) = (x, true) ∧ ∃ v, e = .returned (.tuple #[.agg #[.int .i64 op, v], .bool true]) ∧ NewSlice w.heap.size w' v (tells op x)) ∨
       (codedP op (tells op x) ≠ (x, true) ∧ e = .returned (.tuple #[.agg #[.int .i64 0, .slice none 0 0], .bool false]))) := by
  have hb0 : Below w.heap.size w (w.alloc (.cells #[.int .i64 0, .slice none 0 0] 42)) := (Below.refl _ _).alloc (Nat.le_refl _) _
  have C := rowOf_any op _ (T.later hb0)
  have F0 := fun W T' => fields_of op W T'
  obtain ⟨_, _, _, hn3, bb0, bb1⟩ := rows_fields _ (rowP_mem op)
  have cA := new_cell (w := w) (t := 42) #[.int .i64 0, .slice none 0 0] 0 (.int .i64 0) rfl
  have cB := new_cell (w := w) (t := 42) #[.int .i64 0, .slice none 0 0] 1 (.slice none 0 0) rfl
  have D := fun W sl T' hS hR => coded_any op sl (tells op x) W T' hS hR
  unfold tells at D ⊢
  unfold R.val at C
  generalize rowP op = r at *
  obtain ⟨nm, bt, ks⟩ := r
  simp only [R.kinds] at C h F0 D hn3 bb0 bb1 ⊢
  generalize joined ks = kt at *
  have f0 := new_thawed (w := w) (t := 42) #[.int .i64 0, .slice none 0 0] 0
  have f1 := new_thawed (w := w) (t := 42) #[.int .i64 0, .slice none 0 0] 1
  have hlt : w.heap.size < (w.alloc (.cells #[.int .i64 0, .slice none 0 0] 42)).heap.size := by simp
  go_enter Tryd.func20, Tryd.ntmps20
  go_wp2_with (go_at_call 27; refine C.mono ?_; rintro e w1 ⟨rfl, hw1⟩; have c1 := kept_cell hw1 cA; have c2 := kept_cell hw1 cB; have hz : w.heap.size < w1.heap.size := Nat.lt_of_lt_of_le hlt hw1.size; have g0 := kept_thawed hw1 hlt f0; have g1 := kept_thawed hw1 hlt f1; have hb1 := hb0.trans (hw1.mono hb0.size))
  clear C cA cB f0 f1 hlt hb0 hw1
  have hbR : Below w.heap.size w (w1.alloc (.cells #[.string ⟨nm.toArray⟩, .int .u32 bt, .string ⟨kt.toArray⟩] 59)) := hb1.alloc (Nat.le_of_lt hz) _
  have c1 := kept_alloc (o := .cells #[.string ⟨nm.toArray⟩, .int .u32 bt, .string ⟨kt.toArray⟩] 59) c1
  have c2 := kept_alloc (o := .cells #[.string ⟨nm.toArray⟩, .int .u32 bt, .string ⟨kt.toArray⟩] 59) c2
  have g0 := kept_thawed ((Below.refl _ _).alloc (Nat.le_refl _) (.cells #[.string ⟨nm.toArray⟩, .int .u32 bt, .string ⟨kt.toArray⟩] 59)) hz g0
  have g1 := kept_thawed ((Below.refl _ _).alloc (Nat.le_refl _) (.cells #[.string ⟨nm.toArray⟩, .int .u32 bt, .string ⟨kt.toArray⟩] 59)) hz g1
  have hz1 : w.heap.size < (w1.alloc (.cells #[.string ⟨nm.toArray⟩, .int .u32 bt, .string ⟨kt.toArray⟩] 59)).heap.size := by simp; omega
  have hX : (w1.alloc (.cells #[.string ⟨nm.toArray⟩, .int .u32 bt, .string ⟨kt.toArray⟩] 59)).heap.size = w1.heap.size + 1 := by simp
  generalize w1.alloc (.cells #[.string ⟨nm.toArray⟩, .int .u32 bt, .string ⟨kt.toArray⟩] 59) = w2 at *
  rw [← hX]
  clear hb1 hz
  have hbX : Below w.heap.size w (w2.alloc (.cells #[.int .i64 op, .slice none 0 0] 42)) := hbR.alloc (Nat.le_of_lt hz1) _
  have d0 := new_cell (w := w2) (t := 42) #[.int .i64 op, .slice none 0 0] 0 (.int .i64 op) rfl
  have d1 := new_cell (w := w2) (t := 42) #[.int .i64 op, .slice none 0 0] 1 (.slice none 0 0) rfl
  have e1 := new_thawed (w := w2) (t := 42) #[.int .i64 op, .slice none 0 0] 1
  have c1 := kept_alloc (o := .cells #[.int .i64 op, .slice none 0 0] 42) c1
  have c2 := kept_alloc (o := .cells #[.int .i64 op, .slice none 0 0] 42) c2
  have g0 := kept_thawed ((Below.refl _ _).alloc (Nat.le_refl _) (.cells #[.int .i64 op, .slice none 0 0] 42)) hz1 g0
  have g1 := kept_thawed ((Below.refl _ _).alloc (Nat.le_refl _) (.cells #[.int .i64 op, .slice none 0 0] 42)) hz1 g1
  have hX2 : (w2.alloc (.cells #[.int .i64 op, .slice none 0 0] 42)).heap.size = w2.heap.size + 1 := by simp
  generalize w2.alloc (.cells #[.int .i64 op, .slice none 0 0] 42) = w2' at *
  refine (F0 _ (T.later hbX)).mono ?_
  rintro e w3 ⟨HH, rfl, hw3, hH, hN⟩
  have c1 := kept_cell hw3 c1
  have c2 := kept_cell hw3 c2
  have d0 := kept_cell hw3 d0
  have d1 := kept_cell hw3 d1
  have g0 := kept_thawed hw3 (show w.heap.size < w2'.heap.size by omega) g0
  have g1 := kept_thawed hw3 (show w.heap.size < w2'.heap.size by omega) g1
  have e1 := kept_thawed hw3 (show w2.heap.size < w2'.heap.size by omega) e1
  have hb3 := hbX.trans (hw3.mono hbX.size)
  have hXH : w2.heap.size < HH := by omega
  have hX3 : w2.heap.size < w3.heap.size := by have := hw3.size; omega
  clear hw3 hH hX hbX hX2 hbR F0
  generalize w2.heap.size = X at *
  go_wp2
  go_loopw [33] (fun i wr => ∃ (j : Nat) (sl : Value), j ≤ ks.length ∧ i = .int .i64 j ∧ w3.grownBy wr (some X) ∧ wr.cell? ⟨X, 0, none⟩ = some (.int .i64 op) ∧ wr.cell? ⟨X, 1, none⟩ = some sl ∧ wr.frozen? ⟨X, 1, none⟩ = false ∧
      wr.ownsRow w3.heap.size 3 1 sl j ((ks.take j).map fun k => Value.int .i64 (k.tell x))) (fun i _ => ks.length - (intOf i).toNat)
  case atStart => exact ⟨0, .slice none 0 0, by omega, rfl, World.grownBy.refl _ _, d0, d1, e1, by simp, .inl ⟨rfl, rfl⟩⟩
  case round =>
    obtain ⟨j, sl, hj, rfl, hgr, x0c, x1c, xth, hown⟩ := hrel
    by_cases hjn : j < ks.length
    · obtain ⟨k, hk⟩ : ∃ k, ks[j]? = some k := ⟨_, List.getElem?_eq_getElem hjn⟩
      have n1 := hgr.cell (hN j k hk) (by simp; omega)
      obtain ⟨p0, q0, l0, s0, p1, q1, l1, s1, p2, q2, l2, s2, hpl, hval⟩ := k.lit
      have Kc := fun W => kindOf_any k W
      have Cc := fun W => tell_any k x x0 x1 W
      have En := k.entersTell
      rw [hval] at Kc
      rw [hpl] at Cc
      unfold plV at Cc
      have htk : (ks.take (j + 1)).map (fun k => Value.int .i64 (k.tell x)) = (ks.take j).map (fun k => Value.int .i64 (k.tell x)) ++ [.int .i64 (k.tell x)] := by
        rw [List.take_add_one, hk]; simp
      have htk : Hid ((ks.take (j + 1)).map (fun k => Value.int .i64 (k.tell x)) = (ks.take j).map (fun k => Value.int .i64 (k.tell x)) ++ [.int .i64 (k.tell x)]) := htk
      clear hval hpl
      generalize k.tell x = y at *
      generalize k.name.toArray = kn at *
      generalize k.codeF = cf at *
      generalize k.tellF = tf at *
      go_wp2_with (go_at_call 28; refine (Kc _).mono ?_; rintro e w4 ⟨rfl, hw4⟩)
      have k0 := fun i x h => new_cell (w := w4) (t := 69) #[.int .i64 p0, .int .i64 q0, .int .i64 l0, .int .i64 s0, .int .i64 p1, .int .i64 q1, .int .i64 l1, .int .i64 s1, .int .i64 p2, .int .i64 q2, .int .i64 l2, .int .i64 s2, .func (.func cf) #[] #[], .func (.func tf) #[] #[]] i x h
      have x0c := kept_alloc (o := .cells #[.int .i64 p0, .int .i64 q0, .int .i64 l0, .int .i64 s0, .int .i64 p1, .int .i64 q1, .int .i64 l1, .int .i64 s1, .int .i64 p2, .int .i64 q2, .int .i64 l2, .int .i64 s2, .func (.func cf) #[] #[], .func (.func tf) #[] #[]] 69) (kept_cell hw4 x0c)
      have x1c := kept_alloc (o := .cells #[.int .i64 p0, .int .i64 q0, .int .i64 l0, .int .i64 s0, .int .i64 p1, .int .i64 q1, .int .i64 l1, .int .i64 s1, .int .i64 p2, .int .i64 q2, .int .i64 l2, .int .i64 s2, .func (.func cf) #[] #[], .func (.func tf) #[] #[]] 69) (kept_cell hw4 x1c)
      have hown5 := (hown.kept (grown_of_below hw4 none) (by cases sl.ownBlock <;> simp)).alloc (.cells #[.int .i64 p0, .int .i64 q0, .int .i64 l0, .int .i64 s0, .int .i64 p1, .int .i64 q1, .int .i64 l1, .int .i64 s1, .int .i64 p2, .int .i64 q2, .int .i64 l2, .int .i64 s2, .func (.func cf) #[] #[], .func (.func tf) #[] #[]] 69)
      have hXr : X < wr.heap.size := Nat.lt_of_lt_of_le hX3 hgr.size
      have hX4 : X < w4.heap.size := Nat.lt_of_lt_of_le hXr hw4.size
      have th5 := kept_thawed ((Below.refl _ _).alloc (Nat.le_refl _) (.cells #[.int .i64 p0, .int .i64 q0, .int .i64 l0, .int .i64 s0, .int .i64 p1, .int .i64 q1, .int .i64 l1, .int .i64 s1, .int .i64 p2, .int .i64 q2, .int .i64 l2, .int .i64 s2, .func (.func cf) #[] #[], .func (.func tf) #[] #[]] 69)) hX4 (kept_thawed hw4 hXr xth)
      have nX : sl.ownBlock ≠ some X := fun e => by have := (hown.lt _ e).1; omega
      have nK : sl.ownBlock ≠ some w4.heap.size := fun e => by have := (hown.lt _ e).2; have := hw4.size; omega
      have hgr5 := (hgr.trans (grown_of_below hw4 _)).trans (grown_of_below ((Below.refl _ _).alloc (Nat.le_refl _) (.cells #[.int .i64 p0, .int .i64 q0, .int .i64 l0, .int .i64 s0, .int .i64 p1, .int .i64 q1, .int .i64 l1, .int .i64 s1, .int .i64 p2, .int .i64 q2, .int .i64 l2, .int .i64 s2, .func (.func cf) #[] #[], .func (.func tf) #[] #[]] 69)) _)
      have hKs : (w4.alloc (.cells #[.int .i64 p0, .int .i64 q0, .int .i64 l0, .int .i64 s0, .int .i64 p1, .int .i64 q1, .int .i64 l1, .int .i64 s1, .int .i64 p2, .int .i64 q2, .int .i64 l2, .int .i64 s2, .func (.func cf) #[] #[], .func (.func tf) #[] #[]] 69)).heap.size = w4.heap.size + 1 := by simp
      have hb34 : w3.heap.size ≤ w4.heap.size := Nat.le_trans hgr.size hw4.size
      clear hown hgr xth n1 Kc hw4 hN
      generalize w4.alloc (.cells #[.int .i64 p0, .int .i64 q0, .int .i64 l0, .int .i64 s0, .int .i64 p1, .int .i64 q1, .int .i64 l1, .int .i64 s1, .int .i64 p2, .int .i64 q2, .int .i64 l2, .int .i64 s2, .func (.func cf) #[] #[], .func (.func tf) #[] #[]] 69) = W5 at *
      generalize w4.heap.size = KB at *
      have r0 := k0 0 (.int .i64 p0) rfl
      have r1 := k0 1 (.int .i64 q0) rfl
      have r2 := k0 2 (.int .i64 l0) rfl
      have r3 := k0 3 (.int .i64 s0) rfl
      have r4 := k0 4 (.int .i64 p1) rfl
      have r5 := k0 5 (.int .i64 q1) rfl
      have r6 := k0 6 (.int .i64 l1) rfl
      have r7 := k0 7 (.int .i64 s1) rfl
      have r8 := k0 8 (.int .i64 p2) rfl
      have r9 := k0 9 (.int .i64 q2) rfl
      have r10 := k0 10 (.int .i64 l2) rfl
      have r11 := k0 11 (.int .i64 s2) rfl
      have r13 := k0 13 (.func (.func tf) #[] #[]) rfl
      clear k0
      have hX5d : X < W5.drew.heap.size := by show X < W5.heap.size; omega
      have hb35 : w3.heap.size ≤ W5.drew.heap.size := by show w3.heap.size ≤ W5.heap.size; omega
      have hown5d := hown5.drew
      have th5d : W5.drew.frozen? ⟨X, 1, none⟩ = false := th5
      have x1d : W5.drew.cell? ⟨X, 1, none⟩ = some sl := x1c
      have hXK : X ≠ KB := by omega
      have x0d : W5.drew.cell? ⟨X, 0, none⟩ = some (.int .i64 op) := x0c
      have gdrew : W5.grownBy W5.drew (some X) := ⟨rfl, rfl, rfl, Nat.le_refl _, fun _ _ _ => rfl⟩
      have hob : ∀ b, sl.ownBlock = some b → w3.heap.size ≤ b := fun b e => (hown5.lt b e).1
      have hnone : sl.ownBlock = none ∨ sl.ownBlock ≠ none := by cases sl.ownBlock <;> simp
      obtain ⟨i0, hi0, hz0, hz2, hz3⟩ := info_parts info_int
      go_region_law
        (first
          | (refine step_enter (v := .int .i64 y) ?_ ?_ (Cc _) ?_; (rfl); (simp [execOp, Act.eval, go_sem, En]); intro wc hwc; have x1d := kept_cell hwc x1d; have hXc : X < wc.heap.size := Nat.lt_of_lt_of_le hX5d hwc.size)
          | (refine step_append_lies _ (by rfl) _ _ _ (by rfl) w3.heap.size 3 i0 _ 1 8 Tryd.underlying40 hi0 hz0 hz2 hz3 rfl (by omega) sl j _ (by rfl) ((hown5d.kept (grown_of_below hwc none) hnone).alloc _)
              ⟨wc.heap.size, 0, none⟩ 1 1 [.int .i64 y] (by rfl) (by rfl) (World.news_of_block (cs := #[.int .i64 y]) (t := 3) (fr := (0, 0)) (heap_alloc_new wc _)) (by simp [Value.oneCell']) (by omega) (by unfold maxLen; omega) (by omega) (Nat.le_trans hb35 (Nat.le_trans hwc.size (by simp))) (wc.heap.size + 1) (by simp) ?_; intro gg cap w6 hown6 hgrow hat hlt6; have x6 := hgrow.cell (kept_alloc x1d) (Ne.symm nX); have hsz1 : wc.heap.size ≤ (wc.alloc (.cells #[.int .i64 y] 3)).heap.size := (by simp); have th6 : w6.frozen? ⟨X, 1, none⟩ = false := (hgrow.frozen_far ⟨X, 1, none⟩ (Nat.lt_of_lt_of_le hX5d (Nat.le_trans hwc.size hsz1)) (Ne.symm nX)).trans (kept_thawed ((Below.refl _ _).alloc (Nat.le_refl _) _) (Nat.lt_of_lt_of_le hX5d hwc.size) (kept_thawed hwc hX5d th5d))))
      all_goals
        have x06 := hgrow.cell (kept_alloc (kept_cell hwc x0d)) (Ne.symm nX)
        have gr6 : w3.grownBy (w6.setCell ⟨X, 1, none⟩ (.slice (some ⟨gg, 0, none⟩) (j + 1) cap)) (some X) :=
          (grown_then (((hgr5.trans gdrew).trans (grown_of_below hwc _)).trans (grown_of_below ((Below.refl _ _).alloc (Nat.le_refl _) _) _)) hgrow hob).trans (grown_set _ _ _)
        have ow6 := ownsRow_setCell_below hown6 (a := ⟨X, 1, none⟩) hX3 (.slice (some ⟨gg, 0, none⟩) (j + 1) cap)
        rw [← htk.out] at ow6
        have xx0 : (w6.setCell ⟨X, 1, none⟩ (.slice (some ⟨gg, 0, none⟩) (j + 1) cap)).cell? ⟨X, 0, none⟩ = some (.int .i64 op) := set_far x06
        have xx1 : (w6.setCell ⟨X, 1, none⟩ (.slice (some ⟨gg, 0, none⟩) (j + 1) cap)).cell? ⟨X, 1, none⟩ = some (.slice (some ⟨gg, 0, none⟩) (j + 1) cap) := set_same x6
        have xt1 : (w6.setCell ⟨X, 1, none⟩ (.slice (some ⟨gg, 0, none⟩) (j + 1) cap)).frozen? ⟨X, 1, none⟩ = false := set_thawed th6
        clear hown6 hgrow hwc hat x1d hown5d hown5 hgr5 r0 r1 r2 r3 r4 r5 r6 r7 r8 r9 r10 r11 r13 Cc En D
        generalize w6.setCell ⟨X, 1, none⟩ (.slice (some ⟨gg, 0, none⟩) (j + 1) cap) = W7 at *
        go_wp2
        go_roundw
        case rel => exact ⟨j + 1, _, by omega, by go_num, gr6, xx0, xx1, xt1, ow6⟩
        case measure => simp [intOf]; omega
    · have hjn : j = ks.length := by omega
      subst hjn
      rw [List.take_length] at hown
      have hbw : Below w.heap.size w wr := ⟨hgr.os.trans hb3.os, hgr.tape.trans hb3.tape, hgr.output.trans hb3.output, Nat.le_trans hb3.size hgr.size, fun k hk => (hgr.block k (by omega) (by simp; omega)).trans (hb3.block k hk)⟩
      have hS : SliceIs wr sl (ks.map fun k => k.tell x) := slice_of_row (base := w3.heap.size) (by simpa [Function.comp_def] using hown)
      have hRg : InRange (ks.map fun k => k.tell x) := by
        intro v hv
        obtain ⟨k, _, rfl⟩ := List.mem_map.1 hv
        exact tell_range k x
      have C := D wr sl (T.later hbw) hS hRg
      have a1 := hgr.cell c1 (by simp; omega)
      have a2 := hgr.cell c2 (by simp; omega)
      have t0 := (hgr.frozen_far ⟨w.heap.size, 0, none⟩ (by show w.heap.size < w3.heap.size; omega) (by simp; omega)).trans g0
      have t1 := (hgr.frozen_far ⟨w.heap.size, 1, none⟩ (by show w.heap.size < w3.heap.size; omega) (by simp; omega)).trans g1
      have hAr : w.heap.size < wr.heap.size := by have := hgr.size; omega
      have hXr : X < wr.heap.size := by have := hgr.size; omega
      unfold two at C
      obtain ⟨cd, hcd⟩ : ∃ cd, codedP op (ks.map fun k => k.tell x) = cd := ⟨_, rfl⟩
      rw [hcd] at C
      have hcd : Hid (codedP op (ks.map fun k => k.tell x) = cd) := hcd
      obtain ⟨c, is⟩ := cd
      simp only at C
      clear D T c1 c2 g0 g1 hN d0 d1 e1
      have fin : ∀ w7, Below wr.heap.size wr w7 → w7.cell? ⟨w.heap.size, 0, none⟩ = some (.int .i64 0) ∧ w7.cell? ⟨w.heap.size, 1, none⟩ = some (.slice none 0 0) ∧ w7.frozen? ⟨w.heap.size, 0, none⟩ = false ∧ w7.frozen? ⟨w.heap.size, 1, none⟩ = false ∧ w7.cell? ⟨X, 0, none⟩ = some (.int .i64 op) ∧ w7.cell? ⟨X, 1, none⟩ = some sl :=
        fun w7 h7 => ⟨kept_cell h7 a1, kept_cell h7 a2, kept_thawed h7 hAr t0, kept_thawed h7 hAr t1, kept_cell h7 x0c, kept_cell h7 x1c⟩
      have rowEnd : ∀ w7, Below wr.heap.size wr w7 → ∀ u v, NewSlice w.heap.size ((w7.setCell ⟨w.heap.size, 0, none⟩ u).setCell ⟨w.heap.size, 1, none⟩ v) sl (ks.map fun k => k.tell x) := by
        intro w7 h7 u v
        have h1 := hown.kept (grown_of_below h7 none) (by cases sl.ownBlock <;> simp)
        have h2 := ownsRow_setCell_below h1 (a := ⟨w.heap.size, 0, none⟩) (by show w.heap.size < w3.heap.size; omega) u
        have h3 := ownsRow_setCell_below h2 (a := ⟨w.heap.size, 1, none⟩) (by show w.heap.size < w3.heap.size; omega) v
        exact new_of_row (base := w3.heap.size) (by omega) (by simpa [Function.comp_def] using h3)
      have belowEnd : ∀ w7, Below wr.heap.size wr w7 → ∀ u v, Below w.heap.size w ((w7.setCell ⟨w.heap.size, 0, none⟩ u).setCell ⟨w.heap.size, 1, none⟩ v) := by
        intro w7 h7 u v
        exact ((hbw.trans (h7.mono hbw.size)).setCell (Nat.le_refl _) _).setCell (Nat.le_refl _) _
      have hAX : w.heap.size ≠ X := by omega
      obtain ⟨ps, pl, pc, rfl⟩ : ∃ ps pl pc, sl = .slice ps pl pc := by obtain ⟨p, cap, e, _⟩ := hS; exact ⟨p, _, cap, e⟩
      clear hown hS hRg a1 a2 t0 t1 hgr hbw hb3 hj xth
      cases is with
      | false =>
        go_wp2_with (go_at_call 29; refine C.mono ?_; rintro e w7 ⟨rfl, hw7⟩; obtain ⟨y1, y2, y3, y4, y5, y6⟩ := fin _ hw7)
        exact bodyPost_ret (v := .tuple #[.agg #[.int .i64 0, .slice none 0 0], .bool false]) (by simp [results, Tryd.results20, go_sem, y1, y2]) rfl
          ⟨belowEnd _ hw7 _ _, .inr ⟨by rw [hcd.out]; simp, rfl⟩⟩
      | true =>
        by_cases hx : c = x
        · subst hx
          go_wp2_with (go_at_call 29; refine C.mono ?_; rintro e w7 ⟨rfl, hw7⟩; obtain ⟨y1, y2, y3, y4, y5, y6⟩ := fin _ hw7)
          exact bodyPost_ret (v := .tuple #[.agg #[.int .i64 op, .slice ps pl pc], .bool true]) (by simp [results, Tryd.results20, go_sem, y1, y2]) rfl
            ⟨belowEnd _ hw7 _ _, .inl ⟨hcd.out, _, rfl, rowEnd _ hw7 _ _⟩⟩
        · have hx2 : (c != x) = true := by simpa using hx
          go_wp2_with (go_at_call 29; refine C.mono ?_; rintro e w7 ⟨rfl, hw7⟩; obtain ⟨y1, y2, y3, y4, y5, y6⟩ := fin _ hw7)
          exact bodyPost_ret (v := .tuple #[.agg #[.int .i64 0, .slice none 0 0], .bool false]) (by simp [results, Tryd.results20, go_sem, y1, y2]) rfl
            ⟨belowEnd _ hw7 _ _, .inr ⟨by rw [hcd.out]; simp [hx], rfl⟩⟩

/-- What told tells. -/
theorem told_any (op x : Int) (x0 : 0 ≤ x) (x1 : x < 4294967296) (w : World) (T : TabOp op w) :
    Calls Tryd.prog 20 #[.int .i64 op, .int .u32 x] w fun e w' => Below w.heap.size w w' ∧
      ((toldP op x = true ∧ ∃ v, e = .returned (.tuple #[.agg #[.int .i64 op, v], .bool true]) ∧ NewSlice w.heap.size w' v (tells op x)) ∨
       (toldP op x = false ∧ e = .returned (.tuple #[.agg #[.int .i64 0, .slice none 0 0], .bool false]))) := by
  by_cases h : bits .and .u32 x (rowP op).bits = (rowP op).bits
  · refine (told_main op x x0 x1 w T h).mono ?_
    rintro e w' ⟨hb, h1 | h1⟩
    · exact ⟨hb, .inl ⟨by unfold toldP; simp [h, h1.1], h1.2⟩⟩
    · exact ⟨hb, .inr ⟨by unfold toldP; simp [h1.1], h1.2⟩⟩
  · refine (told_no op x w T h).mono ?_
    rintro e w' ⟨he, hb⟩
    exact ⟨hb, .inr ⟨by unfold toldP; simp [h], he⟩⟩
end Go.Proofs.YtagplfochalidabDoor
