/- The reference's responses as bytes. -/
import Derived.Test.YtkaclahcpmogaaaGreatDoorFrAA
namespace Go.Proofs.YtkaclahcpmogaaaGreatDoor
open Go.ChangeShapes Go.WideShapes Go.ChangeAt Go.RowKit
open Orders
set_option linter.unusedVariables false
set_option linter.unusedSimpArgs false
set_option linter.unusedSectionVars false

/-- What holds other things than bytes is as it was. -/
def Keeps (w w' : World) : Prop := ∀ (k : Nat) (cs : Array Value) (T : TypeId), T ≠ 5 → w.heap[k]? = some (.cells cs T (0, 0)) → w'.heap[k]? = some (.cells cs T (0, 0))
theorem Keeps.refl (w : World) : Keeps w w := fun _ _ _ _ h => h
theorem Keeps.trans {a b c : World} (h : Keeps a b) (g : Keeps b c) : Keeps a c := fun k cs T hT hk => g k cs T hT (h k cs T hT hk)
theorem keeps_below {w w' : World} (h : Below w.heap.size w w') : Keeps w w' := fun k cs T _ hk => (h.block k (Array.getElem?_eq_some_iff.1 hk).1).trans hk
theorem keeps_grown {B : Nat} {w w' : World} {v : Value} {l : Bs} (h : Own B w v l) (hg : w.grownBy w' v.ownBlock) : Keeps w w' := by
  intro k cs T hT hk
  refine (hg.block k (Array.getElem?_eq_some_iff.1 hk).1 ?_).trans hk
  rcases h.2 with ⟨rfl, _⟩ | ⟨g, cap, cur, rfl, _, h2, _⟩
  · simp [Value.ownBlock]
  · intro e
    simp only [Value.ownBlock, Option.some.injEq] at e
    subst e
    rw [hk] at h2
    simp only [Option.some.injEq, Obj.cells.injEq] at h2
    exact hT h2.2.1

set_option maxHeartbeats 1600000 in
set_option maxRecDepth 20000 in
theorem rnum_keep (B sz : Nat) (v : Value) (n : Int) (l : Bs) (w : World) (h : Own B w v l) (hB : B ≤ w.heap.size) (hsz : sz ≤ 8) (hl : l.length ≤ 1000000) :
    Calls Tryz.prog 32 #[v, .int .i64 n, .int .i64 sz] w fun e w' => ∃ v', e = .returned v' ∧ Own B w' v' (l ++ numB sz n) ∧ Below B w w' ∧ Keeps w w' := by
  have hszI : (sz : Int) ≤ 8 := by omega
  obtain ⟨p0, c0, rfl⟩ := row_slice h
  go_enter Tryz.func32, Tryz.ntmps32
  go_wp2
  go_loopw [0, 7] (fun bv i wr => ∃ (j : Nat) (acc : Bs) (p : Option Addr) (c : Nat), bv = .slice p acc.length c ∧ j ≤ sz ∧ i = .int .i64 ((j : Int) - 1) ∧ Hid (acc ++ numB j n = l ++ numB sz n) ∧ acc.length ≤ l.length + sz - j ∧ Own B wr (.slice p acc.length c) acc ∧ Below B w wr ∧ Keeps w wr) (fun _ i _ => (intW i + 1).toNat)
  case atStart => exact ⟨sz, l, p0, c0, rfl, Nat.le_refl _, rfl, rfl, by omega, h, Below.refl _ _, Keeps.refl _⟩
  case round =>
    obtain ⟨j, acc, p, c, rfl, hj, rfl, hacc, hal, hW, hb, hK⟩ := hrel
    cases j with
    | zero =>
      have hend := hacc.out
      simp only [numB, List.append_nil] at hend
      subst hend
      clear hacc hal h
      go_wp2
      go_ret
      exact ⟨_, rfl, hW, hb, hK⟩
    | succ j =>
      have ei : (((j + 1 : Nat) : Int) - 1) = (j : Int) := by omega
      rw [ei]
      have hjI : (j : Int) ≤ 7 := by omega
      have hBs : B ≤ wr.heap.size := Nat.le_trans hB hb.size
      have hsh : Op.shift .shr .i64 n .u64 (8 * (j : Int)) = pure (.int .i64 (n / 2 ^ (8 * j))) := by
        rw [shift_shr _ _ _ _ (by omega) (by simp only [IntKind.bits]; omega)]
        congr 2
      have hnext : Hid ((acc ++ [byteN (n / 2 ^ (8 * j))]) ++ numB j n = l ++ numB sz n) := by
        have := hacc.out
        rw [List.append_assoc]
        exact this
      have hlen : (acc ++ [byteN (n / 2 ^ (8 * j))]).length = acc.length + 1 := by simp
      have hW1 : Own B (wr.alloc (.cells #[.int .u8 ((n / 2 ^ (8 * j)) % 256)] 5)) (.slice p acc.length c) acc := hW.later (below_new _ _)
      have hs1 : BytesAt (wr.heap.size + 1) (wr.alloc (.cells #[.int .u8 ((n / 2 ^ (8 * j)) % 256)] 5)) (.slice (some ⟨wr.heap.size, 0, none⟩) 1 1) [byteN (n / 2 ^ (8 * j))] := by
        refine ⟨_, 1, rfl, Nat.le_refl _, by unfold maxLen; omega, (fun h => by cases h), fun a ha => ?_⟩
        cases ha
        refine ⟨_, 0, rfl, by omega, fun i c hi => ?_⟩
        cases i with
        | zero =>
          simp at hi
          subst hi
          rw [byteN_int]
          exact cell_at (heap_alloc_new wr _) 0 _ rfl
        | succ i => simp at hi
      obtain ⟨v', w', hrun, hO, hgr⟩ := run_app_bytes _ B _ _ _ _ _ hW1 hs1 (by omega) (by simp) (by simp; omega)
      have hb1 := hb.trans (((below_new wr (.cells #[.int .u8 ((n / 2 ^ (8 * j)) % 256)] 5)).mono hBs).trans (hW1.below hgr (by simp; omega)))
      have hK1 : Keeps w w' := hK.trans ((keeps_below (below_new wr (.cells #[.int .u8 ((n / 2 ^ (8 * j)) % 256)] 5))).trans (keeps_grown hW1 hgr))
      obtain ⟨p', c', rfl⟩ := row_slice hO
      generalize acc ++ [byteN (n / 2 ^ (8 * j))] = acc2 at *
      clear hW hW1 hs1 hgr
      go_wp2_with (at_builtin; refine wpList_run_app rfl _ _ _ _ rfl _ _ _ rfl rfl (hrun _) ?_)
      go_roundw
      case rel => exact ⟨j, acc2, p', c', by rw [hlen], by omega, by go_num, hnext, by omega, hO, hb1, hK1⟩
      case measure => simp [intW]

set_option maxHeartbeats 1600000 in
set_option maxRecDepth 20000 in
theorem rtxt_keep (B sz : Nat) (v : Value) (s l : Bs) (w : World) (h : Own B w v l) (hB : B ≤ w.heap.size) (hsz : sz ≤ 8) (hl : l.length ≤ 900000) (hs : s.length ≤ 100000) :
    Calls Tryz.prog 31 #[v, .string (bs s), .int .i64 sz] w fun e w' => ∃ v', e = .returned v' ∧ Own B w' v' (l ++ textB sz s) ∧ Below B w w' ∧ Keeps w w' := by
  have hsz0 := bs_size s
  have C := rnum_keep B sz v s.length l w h hB hsz (by omega)
  have ha : l ++ textB sz s = (l ++ numB sz s.length) ++ s := by unfold textB; rw [List.append_assoc]
  have hl2 : (l ++ numB sz s.length).length ≤ 900008 := by rw [List.length_append, numB_len]; omega
  rw [ha]
  generalize l ++ numB sz s.length = l2 at *
  obtain ⟨l3, hl3⟩ : ∃ l3, l2 ++ s = l3 := ⟨_, rfl⟩
  rw [hl3]
  replace hl3 : Hid _ := hl3
  obtain ⟨p0, c0, rfl⟩ := row_slice h
  go_enter Tryz.func31, Tryz.ntmps31
  go_wp2_with fail
  refine C.mono ?_
  rintro e w1 ⟨v1, rfl, hO, hb, hK⟩
  have hO2 := hO.later (bytesWorld_below w1 (bs s))
  have hb2 := hb.trans ((bytesWorld_below w1 (bs s)).mono (Nat.le_trans hB hb.size))
  have hsb := bytesWorld_bytes w1 s (by omega) (Lib.bytesWorld w1 5 (bs s)) (w1.heap.size + 1) rfl (by omega)
  have cv := str_to_bytes s w1
  obtain ⟨v', w', hrun, hO3, hgr⟩ := run_app_bytes _ B _ _ _ _ _ hO2 hsb (by omega) (by omega) (Nat.le_trans hB hb2.size)
  have hb3 := hb2.trans (hO2.below hgr (Nat.le_trans hB hb2.size))
  have hK3 : Keeps w w' := hK.trans ((keeps_below (bytesWorld_below w1 (bs s))).trans (keeps_grown hO2 hgr))
  obtain ⟨p1, c1, rfl⟩ := row_slice hO
  rw [hl3.out] at hO3
  obtain ⟨p2, c2, rfl⟩ := row_slice hO3
  clear C h hO hO2 hgr hsb ha
  go_wp2_with (at_builtin; refine wpList_run_app rfl _ _ _ _ rfl _ _ _ rfl rfl (hrun _) ?_)
  go_ret
  exact ⟨_, rfl, hO3, hb3, hK3⟩

theorem step_called {ops : Array Oper} {Q : Exit → Act → World → Prop} {i : Nat} {o : Oper} {K : Act → World → Prop} {a : Act} {w : World} {f : FuncId} {args : Array Value} {R : Value → World → Prop} (hi : ops[i]? = some o) (hg : o.guard = none)
    (h : (execOp a.eval o).run Tryz.prog w = .ok (.enter f args) w) (hc : Calls Tryz.prog f args w fun e w' => ∃ v, e = .returned v ∧ R v w') (hK : ∀ v w', R v w' → K (a.put o.dst v) w') : wpOp Tryz.prog ops Q i K a w := by
  unfold wpOp
  rw [hi]
  have hw : Region.wanted o (yielded ops a.tmps) = true := by unfold Region.wanted; rw [hg]
  simp only [hw, if_true]
  refine .inl ?_
  unfold Oper.wp
  rw [h, Oper.upon_enter]
  refine hc.mono ?_
  rintro e w' ⟨v, rfl, hR⟩
  exact hK v w' hR

theorem run_asg (a : Act) (w : World) (o : Oper) (p : Operand) (x : Value) (ho : o.op = .assign p) (hp : a.eval p = x) : (execOp a.eval o).run Tryz.prog w = .ok (.value x) w := by
  generalize a.eval = ρ at *
  simp [execOp, ho, hp, go_sem]

theorem run_fldR0 (a : Act) (w : World) (o : Oper) (p : Operand) (k : Nat) (ho : o.op = .fieldAddr 42 p 0) (hp : a.eval p = .pointer (some ⟨k, 0, none⟩)) : (execOp a.eval o).run Tryz.prog w = .ok (.value (.pointer (some ⟨k, 0, none⟩))) w := by
  generalize a.eval = ρ at *
  simp [execOp, ho, hp, go_sem, Tryz.underlying42]
theorem run_fldR1 (a : Act) (w : World) (o : Oper) (p : Operand) (k : Nat) (ho : o.op = .fieldAddr 42 p 1) (hp : a.eval p = .pointer (some ⟨k, 0, none⟩)) : (execOp a.eval o).run Tryz.prog w = .ok (.value (.pointer (some ⟨k, 1, none⟩))) w := by
  generalize a.eval = ρ at *
  simp [execOp, ho, hp, go_sem, Tryz.underlying42, Tryz.underlying31]
theorem run_fldR2 (a : Act) (w : World) (o : Oper) (p : Operand) (k : Nat) (ho : o.op = .fieldAddr 42 p 2) (hp : a.eval p = .pointer (some ⟨k, 0, none⟩)) : (execOp a.eval o).run Tryz.prog w = .ok (.value (.pointer (some ⟨k, 2, none⟩))) w := by
  generalize a.eval = ρ at *
  simp [execOp, ho, hp, go_sem, Tryz.underlying42, Tryz.underlying9, Tryz.underlying31]
theorem run_fldD0 (a : Act) (w : World) (o : Oper) (p : Operand) (k : Nat) (ho : o.op = .fieldAddr 75 p 0) (hp : a.eval p = .pointer (some ⟨k, 0, none⟩)) : (execOp a.eval o).run Tryz.prog w = .ok (.value (.pointer (some ⟨k, 0, none⟩))) w := by
  generalize a.eval = ρ at *
  simp [execOp, ho, hp, go_sem, Tryz.underlying75]
theorem run_fldD1 (a : Act) (w : World) (o : Oper) (p : Operand) (k : Nat) (ho : o.op = .fieldAddr 75 p 1) (hp : a.eval p = .pointer (some ⟨k, 0, none⟩)) : (execOp a.eval o).run Tryz.prog w = .ok (.value (.pointer (some ⟨k, 1, none⟩))) w := by
  generalize a.eval = ρ at *
  simp [execOp, ho, hp, go_sem, Tryz.underlying75, Tryz.underlying9]
theorem run_fldD2 (a : Act) (w : World) (o : Oper) (p : Operand) (k : Nat) (ho : o.op = .fieldAddr 75 p 2) (hp : a.eval p = .pointer (some ⟨k, 0, none⟩)) : (execOp a.eval o).run Tryz.prog w = .ok (.value (.pointer (some ⟨k, 2, none⟩))) w := by
  generalize a.eval = ρ at *
  simp [execOp, ho, hp, go_sem, Tryz.underlying75, Tryz.underlying9, Tryz.underlying3]
theorem run_ldErr (a : Act) (w : World) (o : Oper) (p : Operand) (ad : Addr) (x : Int) (ho : o.op = .load 31 p) (hp : a.eval p = .pointer (some ad)) (hc : w.cell? ad = some (.int .i64 x)) : (execOp a.eval o).run Tryz.prog w = .ok (.value (.int .i64 x)) w := by
  generalize a.eval = ρ at *
  simp [execOp, ho, hp, go_sem, Tryz.underlying31, hc]
theorem run_ldBytes (a : Act) (w : World) (o : Oper) (p : Operand) (ad : Addr) (q : Option Addr) (n c : Nat) (ho : o.op = .load 23 p) (hp : a.eval p = .pointer (some ad)) (hc : w.cell? ad = some (.slice q n c)) : (execOp a.eval o).run Tryz.prog w = .ok (.value (.slice q n c)) w := by
  generalize a.eval = ρ at *
  simp [execOp, ho, hp, go_sem, Tryz.underlying23, hc]
theorem run_conv (a : Act) (w : World) (o : Oper) (p : Operand) (v : Value) (L : Nat) (l : Bs) (ho : o.op = .convert 23 9 p) (hp : a.eval p = v) (hb : BytesAt L w v l) : (execOp a.eval o).run Tryz.prog w = .ok (.value (.string (bs l))) w := by
  have h := str_of_bytes hb
  generalize a.eval = ρ at *
  unfold execOp
  simp only [ho, hp, Sem.run_bind, h, Sem.run_pure, Result.andThen_ok]
theorem run_num3 (a : Act) (w : World) (o : Oper) (p q r : Operand) (x y z : Value) (ats : Array TypeId) (ho : o.op = .call { callee := .value (.func 32), args := #[p, q, r], argTypes := ats }) (hp : a.eval p = x) (hq : a.eval q = y) (hr : a.eval r = z) :
    (execOp a.eval o).run Tryz.prog w = .ok (.enter 32 #[x, y, z]) w := by
  have hf : a.eval (.func 32) = .func (.func 32) #[] #[] := rfl
  generalize a.eval = ρ at *
  simp [execOp, ho, hf, hp, hq, hr, go_sem, Tryz.func32]
theorem run_txt3 (a : Act) (w : World) (o : Oper) (p q r : Operand) (x y z : Value) (ats : Array TypeId) (ho : o.op = .call { callee := .value (.func 31), args := #[p, q, r], argTypes := ats }) (hp : a.eval p = x) (hq : a.eval q = y) (hr : a.eval r = z) :
    (execOp a.eval o).run Tryz.prog w = .ok (.enter 31 #[x, y, z]) w := by
  have hf : a.eval (.func 31) = .func (.func 31) #[] #[] := rfl
  generalize a.eval = ρ at *
  simp [execOp, ho, hf, hp, hq, hr, go_sem, Tryz.func31]

/-- Three calls one behind the other, each of what the one ahead yielded; whatever else is read comes in between somewhere. -/
def sp3 (a b c i : Nat) : Bool := i == a || i == b || i == c || i == 10
structure CI (B a b c : Nat) (W0 : World) (E : Nat → Value) (v0 z : Value) (l0 l1 l2 l3 : Bs) (L : Nat → Bool) (u : Nat → Value) (w : World) : Prop where
  val : ∀ i, sp3 a b c i = false → L i = true → u i = E i
  blw : Below B W0 w
  kps : Keeps W0 w
  x10 : L 10 = false → u 10 = z
  s0 : L a = false → Own B w v0 l0
  s1 : L a = true → L b = false → Own B w (u a) l1
  s2 : L b = true → L c = false → Own B w (u b) l2
  s3 : L c = true → Own B w (u c) l3
  fin : L 10 = true → u 10 = u c

section
variable {B a b c : Nat} {W0 : World} {E : Nat → Value} {v0 z : Value} {l0 l1 l2 l3 : Bs} {L : Nat → Bool} {u : Nat → Value} {w : World}

theorem CI.put (h : CI B a b c W0 E v0 z l0 l1 l2 l3 L u w) (i : Nat) (hs : sp3 a b c i = false) {y : Value} (hy : y = E i) : CI B a b c W0 E v0 z l0 l1 l2 l3 (updL L i) (upd u i y) w := by
  have hs' := hs
  unfold sp3 at hs'
  simp only [Bool.or_eq_false_iff, beq_eq_false_iff_ne, ne_eq] at hs'
  obtain ⟨⟨⟨na, nb⟩, nc⟩, n10⟩ := hs'
  have la := updL_other L i a (Ne.symm na)
  have lb := updL_other L i b (Ne.symm nb)
  have lc := updL_other L i c (Ne.symm nc)
  have l10 := updL_other L i 10 (Ne.symm n10)
  have ua := upd_other u i a y (Ne.symm na)
  have ub := upd_other u i b y (Ne.symm nb)
  have uc := upd_other u i c y (Ne.symm nc)
  have u10 := upd_other u i 10 y (Ne.symm n10)
  refine ⟨fun q hq hl => ?_, h.blw, h.kps, ?_, ?_, ?_, ?_, ?_, ?_⟩
  · by_cases eq : q = i
    · subst eq; rw [upd_same]; exact hy
    · rw [upd_other _ _ _ _ eq]; rw [updL_other _ _ _ eq] at hl; exact h.val q hq hl
  · rw [l10, u10]; exact h.x10
  · rw [la]; exact h.s0
  · rw [la, lb, ua]; exact h.s1
  · rw [lb, lc, ub]; exact h.s2
  · rw [lc, uc]; exact h.s3
  · rw [l10, u10, uc]; exact h.fin

theorem CI.vals (h : CI B a b c W0 E v0 z l0 l1 l2 l3 L u w) (i : Nat) (hs : sp3 a b c i = true) (y : Value) : ∀ p, sp3 a b c p = false → updL L i p = true → upd u i y p = E p := by
  intro p hp hl
  have hne : p ≠ i := by rintro rfl; rw [hs] at hp; cases hp
  rw [upd_other _ _ _ _ hne]
  rw [updL_other _ _ _ hne] at hl
  exact h.val p hp hl

variable (nab : a ≠ b) (nac : a ≠ c) (nbc : b ≠ c) (na : a ≠ 10) (nb : b ≠ 10) (nc : c ≠ 10)
include nab nac nbc na nb nc

theorem CI.stepA (h : CI B a b c W0 E v0 z l0 l1 l2 l3 L u w) (hb : L b = false) (hc : L c = false) {w' : World} {v : Value} (hO : Own B w' v l1) (hB : Below B w w') (hK : Keeps w w') : CI B a b c W0 E v0 z l0 l1 l2 l3 (updL L a) (upd u a v) w' := by
  refine ⟨h.vals a (by simp [sp3]) v, h.blw.trans hB, h.kps.trans hK, ?_, ?_, fun _ _ => by rw [upd_same]; exact hO, ?_, ?_, ?_⟩
  · rw [updL_other _ _ _ (Ne.symm na), upd_other _ _ _ _ (Ne.symm na)]; exact h.x10
  · rw [updL_same]; intro h; cases h
  · rw [updL_other _ _ _ (Ne.symm nab), hb]; intro h; cases h
  · rw [updL_other _ _ _ (Ne.symm nac), hc]; intro h; cases h
  · rw [updL_other _ _ _ (Ne.symm na), upd_other _ _ _ _ (Ne.symm na), upd_other _ _ _ _ (Ne.symm nac)]; exact h.fin

theorem CI.stepB (h : CI B a b c W0 E v0 z l0 l1 l2 l3 L u w) (ha : L a = true) (hc : L c = false) {w' : World} {v : Value} (hO : Own B w' v l2) (hB : Below B w w') (hK : Keeps w w') : CI B a b c W0 E v0 z l0 l1 l2 l3 (updL L b) (upd u b v) w' := by
  refine ⟨h.vals b (by simp [sp3]) v, h.blw.trans hB, h.kps.trans hK, ?_, ?_, ?_, fun _ _ => by rw [upd_same]; exact hO, ?_, ?_⟩
  · rw [updL_other _ _ _ (Ne.symm nb), upd_other _ _ _ _ (Ne.symm nb)]; exact h.x10
  · rw [updL_other _ _ _ nab, ha]; intro h; cases h
  · rw [updL_same]; intro _ h; cases h
  · rw [updL_other _ _ _ (Ne.symm nbc), hc]; intro h; cases h
  · rw [updL_other _ _ _ (Ne.symm nb), upd_other _ _ _ _ (Ne.symm nb), upd_other _ _ _ _ (Ne.symm nbc)]; exact h.fin

theorem CI.stepC (h : CI B a b c W0 E v0 z l0 l1 l2 l3 L u w) (ha : L a = true) (hb : L b = true) (h10 : L 10 = false) {w' : World} {v : Value} (hO : Own B w' v l3) (hB : Below B w w') (hK : Keeps w w') : CI B a b c W0 E v0 z l0 l1 l2 l3 (updL L c) (upd u c v) w' := by
  refine ⟨h.vals c (by simp [sp3]) v, h.blw.trans hB, h.kps.trans hK, ?_, ?_, ?_, ?_, fun _ => by rw [upd_same]; exact hO, ?_⟩
  · rw [updL_other _ _ _ (Ne.symm nc), upd_other _ _ _ _ (Ne.symm nc)]; exact h.x10
  · rw [updL_other _ _ _ nac, ha]; intro h; cases h
  · rw [updL_other _ _ _ nbc, hb]; intro _ h; cases h
  · rw [updL_same]; intro _ h; cases h
  · rw [updL_other _ _ _ (Ne.symm nc), h10]; intro h; cases h

theorem CI.step10 (h : CI B a b c W0 E v0 z l0 l1 l2 l3 L u w) : CI B a b c W0 E v0 z l0 l1 l2 l3 (updL L 10) (upd u 10 (u c)) w := by
  refine ⟨h.vals 10 (by simp [sp3]) _, h.blw, h.kps, ?_, ?_, ?_, ?_, ?_, ?_⟩
  · rw [updL_same]; intro h; cases h
  · rw [updL_other _ _ _ na]; exact h.s0
  · rw [updL_other _ _ _ na, updL_other _ _ _ nb, upd_other _ _ _ _ na]; exact h.s1
  · rw [updL_other _ _ _ nb, updL_other _ _ _ nc, upd_other _ _ _ _ nb]; exact h.s2
  · rw [updL_other _ _ _ nc, upd_other _ _ _ _ nc]; exact h.s3
  · rw [upd_same, upd_other _ _ _ _ nc]; intro _; rfl
end
end Go.Proofs.YtkaclahcpmogaaaGreatDoor
