/- What is read has small numbers; a text's bytes in memory; single operations of ExprReads, run by themselves. -/
import Derived.Test.YtopfnfmglnjljaaGreatDoorRefParse
import Derived.Test.YtopfnfmglnjljaaGreatDoorRefSame
import Derived.Test.YtopfnfmglnjljaaGreatDoorSymsR
import Derived.Lib.ConvBytes
import Derived.Laws.IdiomStrings
import Derived.Test.YtopfnfmglnjljaaGreatDoorRefWord2
import Derived.Test.YtopfnfmglnjljaaGreatDoorText
namespace Go.Proofs.YtopfnfmglnjljaaGreatDoor.Rf
open Go.Proofs.YtopfnfmglnjljaaGreatDoor
open Go.ChangeShapes Go.WideShapes Go.ChangeAt Go.RowKit Orders
set_option linter.unusedVariables false
set_option linter.unusedSimpArgs false

def SmallRd (p : Rd) : Prop := ∀ s x s', p s = some (x, s') → Small x

theorem hexGo_small : ∀ (l : Bs) (a n : Nat), a ≤ 4294967295 → hexGoP a l = some n → n ≤ 4294967295
  | [], a, n, ha, h => by simp [hexGoP] at h; omega
  | c :: t, a, n, ha, h => by
    unfold hexGoP at h
    split at h
    · cases h
    · split at h
      · cases h
      · exact hexGo_small t _ n (by omega) h
theorem uint_small : ∀ (l : Bs) (a n : Nat), a ≤ 4294967295 → Go.Lib.parseUintM 4294967295 a l = .ok n → n ≤ 4294967295
  | [], a, n, ha, h => by simp [Go.Lib.parseUintM] at h; omega
  | c :: t, a, n, ha, h => by
    unfold Go.Lib.parseUintM at h
    split at h
    · split at h
      · cases h
      · split at h
        · cases h
        · exact uint_small t _ n (by omega) h
    · cases h

theorem leaf_small (r : Bs) (x : Ex) (h : leafP r = some x) : Small x := by
  unfold leafP at h
  split at h
  · cases h; trivial
  · simp only [Option.map_eq_some_iff] at h
    obtain ⟨n, hn, rfl⟩ := h
    show n ≤ 4294967295
    unfold numberP at hn
    split at hn
    · unfold hexP at hn
      split at hn
      · cases hn
      · exact hexGo_small _ 0 n (by omega) hn
    · unfold decP Go.Lib.parseUintB at hn
      split at hn
      · rename_i u hu
        cases hn
        split at hu
        · cases hu
        · exact uint_small _ 0 _ (by omega) hu
      · cases hn

theorem rowGo_small {p : Rd} (hp : SmallRd p) (ks : List Nat) (hk : ∀ k ∈ ks, 5 ≤ k ∧ k ≤ 11) : ∀ (f : Nat) (x y : Ex) (s s' : Bs), Small x → rowGo p ks f x s = some (y, s') → Small y
  | 0, x, y, s, s', _, h => by simp [rowGo] at h
  | f + 1, x, y, s, s', hx, h => by
    unfold rowGo at h
    have hm := between_mem ks s
    generalize betweenP ks s = br at *
    obtain ⟨bk, s1⟩ := br
    cases bk with
    | none => simp at h; rw [← h.1]; exact hx
    | some k =>
      simp only at h
      split at h
      · cases h
      · rename_i z s2 hz
        exact rowGo_small hp ks hk f (.two k x z) y s2 s' (show 5 ≤ k ∧ k ≤ 11 ∧ Small x ∧ Small z from ⟨(hk k (hm k rfl)).1, (hk k (hm k rfl)).2, hx, hp _ _ _ hz⟩) h
theorem rowP_small {p : Rd} (hp : SmallRd p) (ks : List Nat) (hk : ∀ k ∈ ks, 5 ≤ k ∧ k ≤ 11) : SmallRd (rowP p ks) := by
  intro s y s' h
  unfold rowP at h
  split at h
  · cases h
  · rename_i x s1 hx
    exact rowGo_small hp ks hk _ x y s1 s' (hp _ _ _ hx) h
theorem ors_small {p : Rd} (hp : SmallRd p) : SmallRd (orsP p) :=
  rowP_small (rowP_small (rowP_small (rowP_small (rowP_small hp [7] (by decide)) [5, 6] (by decide)) [10, 11] (by decide)) [8] (by decide)) [9] (by decide)

theorem single_small : ∀ (n : Nat), SmallRd (singleP n)
  | 0 => by
    intro s x s' h
    unfold singleP at h
    split at h
    · cases h
    · split at h
      · cases h
      · split at h
        · simp at h; rw [← h.1]; trivial
        · simp only [Option.map_eq_some_iff] at h
          obtain ⟨y, hy, e⟩ := h
          cases e
          exact leaf_small _ _ hy
  | n + 1 => by
    intro s x s' h
    have ih := single_small n
    unfold singleP at h
    split at h
    · simp only [Option.map_eq_some_iff] at h
      obtain ⟨⟨y, s1⟩, hy, e⟩ := h
      cases e
      exact (show Small y from ih _ _ _ hy)
    · split at h
      · split at h
        · cases h
        · rename_i y s1 hy
          split at h
          · simp at h; rw [← h.1]; exact ors_small ih _ _ _ hy
          · cases h
      · split at h
        · simp at h; rw [← h.1]; trivial
        · simp only [Option.map_eq_some_iff] at h
          obtain ⟨y, hy, e⟩ := h
          cases e
          exact leaf_small _ _ hy

theorem parse_small {s : Bs} {x : Ex} (h : parseP s = some x) : Small x := by
  unfold parseP at h
  split at h
  · cases h
  · rename_i y s1 hy
    split at h
    · cases h; exact ors_small (single_small 12) _ _ _ hy
    · cases h

/-- Both answers of one text are the same. -/
theorem same_parsed {s : Bs} (n m : Nat) (v u : Value) (w : World) (hv : ExAt (n ≤ ·) w v ((parseP s).getD .zero)) (hu : ExAt (m ≤ ·) w u ((parseP s).getD .zero)) :
    Calls Tryz.prog 16 #[v, u] w fun e w' => e = .returned (.bool true) ∧ Below w.heap.size w w' := by
  have hs : Small ((parseP s).getD .zero) := by
    cases h : parseP s with
    | none => trivial
    | some x => exact parse_small h
  have := rsame_any _ _ _ _ _ (Nat.lt_succ_self _) hs hs v u w hv hu
  simpa using this

theorem parsed_form {n : Nat} {w : World} {e : Ending} {s : Bs} (h : Parsed n w e (parseP s)) : ∃ (k j : Int) (t : ByteArray) (q : Option Addr) (l c : Nat), e = .returned (.tuple #[.agg #[.int .i64 k, .int .i64 j, .string t, .slice q l c], .bool (parseP s).isSome]) ∧ ExAt (n ≤ ·) w (.agg #[.int .i64 k, .int .i64 j, .string t, .slice q l c]) ((parseP s).getD .zero) := by
  cases hp : parseP s with
  | none => rw [hp] at h; exact ⟨_, _, _, _, _, _, h, rfl⟩
  | some x =>
    rw [hp] at h
    obtain ⟨v, rfl, hx⟩ := h
    obtain ⟨k, j, t, q, l, c, rfl⟩ := hx.form
    exact ⟨_, _, _, _, _, _, rfl, hx⟩

/-! ### A text's bytes -/

theorem bytes_below (w : World) (e : TypeId) (s : ByteArray) : Below w.heap.size w (Lib.bytesWorld w e s) :=
  ⟨rfl, rfl, rfl, by rw [Lib.bytesWorld_size]; omega, fun k hk => Lib.bytesWorld_at_old w e s k hk⟩

theorem bytes_thawed (w : World) (e : TypeId) (s : ByteArray) (j : Nat) (hj : j < s.size) : (Lib.bytesWorld w e s).frozen? ⟨w.heap.size, j, none⟩ = false := by
  have h : s.size ≤ (Lib.bytesCells w e s).size := by simp [Lib.bytesCells]
  unfold World.frozen?
  rw [Lib.bytesWorld_at_new]
  simp
  omega

theorem bytes_cell (w : World) (e : TypeId) (S : Bs) (j : Nat) (hj : j < S.length) : (Lib.bytesWorld w e (bs S)).cell? ⟨w.heap.size, j, none⟩ = some (.int .u8 (S.getD j 0).toNat) := by
  have := Lib.bytesWorld_cell w e (bs S) j (by rw [bs_size]; exact hj)
  simpa [bs] using this

/-! ### Single operations -/

theorem bs_extract (S : Bs) (i j : Nat) : (bs S).extract i j = bs (S.extract i j) := by
  apply ByteArray.ext
  simp only [bs, ByteArray.data_extract]
  apply Array.ext'
  simp

theorem run_sliceTo (a : Act) (w : World) (o : Oper) (s t : Operand) (S : Bs) (k : Nat) (ho : o.op = .slice 9 s none (some t) none) (hs : a.eval s = .string (bs S)) (ht : a.eval t = .int .i64 (k : Int)) (hk : k ≤ S.length) :
    (execOp a.eval o).run Tryz.prog w = .ok (.value (.string (bs (S.take k)))) w := by
  have h := run_slice_string_h (P := Tryz.prog) (w := w) (t := 9) (s := bs S) (ht := Tryz.underlying9) (kh := .i64) (h := (k : Int)) (h0 := by omega) (h2 := by rw [bs_size]; omega)
  rw [bs_extract, List.extract_eq_take_drop, show (k : Int).toNat - 0 = k by omega, List.drop_zero] at h
  generalize a.eval = ρ at *
  simp [execOp, ho, hs, ht, go_sem, h, Tryz.underlying9]

theorem run_sliceFrom (a : Act) (w : World) (o : Oper) (s t : Operand) (S : Bs) (k : Nat) (ho : o.op = .slice 9 s (some t) none none) (hs : a.eval s = .string (bs S)) (ht : a.eval t = .int .i64 (k : Int)) (hk : k ≤ S.length) :
    (execOp a.eval o).run Tryz.prog w = .ok (.value (.string (bs (S.drop k)))) w := by
  have h := run_slice_string_l (P := Tryz.prog) (w := w) (t := 9) (s := bs S) (ht := Tryz.underlying9) (kl := .i64) (l := (k : Int)) (h0 := by omega) (h1 := by rw [bs_size]; omega)
  rw [bs_size, bs_extract, List.extract_eq_take_drop, show (k : Int).toNat = k by omega] at h
  rw [List.take_of_length_le (by simp)] at h
  generalize a.eval = ρ at *
  simp [execOp, ho, hs, ht, go_sem, h, Tryz.underlying9]

theorem run_addText (a : Act) (w : World) (o : Oper) (s t : Operand) (A B : Bs) (ho : o.op = .binOp .add 9 s t 9) (hs : a.eval s = .string (bs A)) (ht : a.eval t = .string (bs B)) (hl : A.length + B.length ≤ 1000000) :
    (execOp a.eval o).run Tryz.prog w = .ok (.value (.string (bs (A ++ B)))) w := by
  have h := run_string_add_sum (P := Tryz.prog) w (bs A) (bs B) (by rw [bs_size, bs_size]; omega)
  rw [← bs_append] at h
  generalize a.eval = ρ at *
  simp [execOp, ho, hs, ht, go_sem, Tryz.underlying9, h]

theorem run_textOf (a : Act) (w : World) (o : Oper) (t : Operand) (g cap : Nat) (xs : Bs) (ho : o.op = .convert 36 9 t) (ht : a.eval t = .slice (some ⟨g, 0, none⟩) xs.length cap) (hc : ∀ (j : Nat) x, xs[j]? = some x → w.cell? ⟨g, j, none⟩ = some (.int .u8 (x.toNat : Int))) :
    (execOp a.eval o).run Tryz.prog w = .ok (.value (.string (bs xs))) w := by
  have h := run_convert_bytes_back (P := Tryz.prog) w 36 9 5 ⟨g, 0, none⟩ cap xs Tryz.underlying36 Tryz.underlying5 Tryz.underlying9 (fun j hj => by
    rw [add_plain, Nat.zero_add]
    exact hc j _ (List.getElem?_eq_getElem hj))
  generalize a.eval = ρ at *
  simp [execOp, ho, ht, go_sem, h]
  rfl

/-- What holds while the six texts are made and laid in a row, in whatever order. -/
def RowsI (W : World) (FV : Nat → Value) (R : Obj) (L : Nat → Bool) (u : Nat → Value) (v : World) : Prop :=
  (∀ j, j < 19 → L j = true → u j = FV j) ∧ ((L 19 = false ∧ v = W) ∨ (L 19 = true ∧ u 19 = .slice (some ⟨W.heap.size, 0, none⟩) 6 6 ∧ v = W.alloc R)) ∧ (L 20 = true → u 20 = .slice (some ⟨W.heap.size, 0, none⟩) 6 6 ∧ L 19 = true)

theorem RowsI.put {W : World} {FV : Nat → Value} {R : Obj} {L : Nat → Bool} {u : Nat → Value} {v : World} (h : RowsI W FV R L u v) (i : Nat) (hi : i < 19) {x : Value} (hx : x = FV i) : RowsI W FV R (updL L i) (upd u i x) v := by
  obtain ⟨h1, h2, h3⟩ := h
  refine ⟨fun j hj hl => ?_, ?_, ?_⟩
  · by_cases e : j = i
    · subst e; rw [upd_same]; exact hx
    · rw [upd_other _ _ _ _ e]; rw [updL_other _ _ _ e] at hl; exact h1 j hj hl
  · rw [updL_other _ _ _ (by omega), upd_other _ _ _ _ (by omega)]; exact h2
  · rw [updL_other _ _ _ (by omega), upd_other _ _ _ _ (by omega), updL_other _ _ _ (by omega)]; exact h3
theorem RowsI.lay {W : World} {FV : Nat → Value} {R : Obj} {L : Nat → Bool} {u : Nat → Value} {v : World} (h : RowsI W FV R L u v) (hL : L 19 = false) : v = W ∧ RowsI W FV R (updL L 19) (upd u 19 (.slice (some ⟨W.heap.size, 0, none⟩) 6 6)) (W.alloc R) := by
  obtain ⟨h1, h2, h3⟩ := h
  rcases h2 with ⟨_, h2⟩ | ⟨h2, _⟩
  · refine ⟨h2, fun j hj hl => ?_, .inr ⟨updL_same _ _, upd_same _ _ _, rfl⟩, fun hl => ?_⟩
    · rw [upd_other _ _ _ _ (by omega)]; rw [updL_other _ _ _ (by omega)] at hl; exact h1 j hj hl
    · rw [updL_other _ _ _ (by omega)] at hl
      have := (h3 hl).2
      rw [hL] at this; cases this
  · rw [hL] at h2; cases h2
theorem RowsI.set {W : World} {FV : Nat → Value} {R : Obj} {L : Nat → Bool} {u : Nat → Value} {v : World} (h : RowsI W FV R L u v) (hL : L 19 = true) : u 19 = .slice (some ⟨W.heap.size, 0, none⟩) 6 6 ∧ RowsI W FV R (updL L 20) (upd u 20 (.slice (some ⟨W.heap.size, 0, none⟩) 6 6)) v := by
  obtain ⟨h1, h2, h3⟩ := h
  rcases h2 with ⟨h2, _⟩ | ⟨_, e, ev⟩
  · rw [hL] at h2; cases h2
  · refine ⟨e, fun j hj hl => ?_, .inr ⟨by rw [updL_other _ _ _ (by omega)]; exact hL, by rw [upd_other _ _ _ _ (by omega)]; exact e, ev⟩, fun _ => ⟨upd_same _ _ _, by rw [updL_other _ _ _ (by omega)]; exact hL⟩⟩
    rw [upd_other _ _ _ _ (by omega)]; rw [updL_other _ _ _ (by omega)] at hl; exact h1 j hj hl
theorem RowsI.below {W : World} {FV : Nat → Value} {R : Obj} {L : Nat → Bool} {u : Nat → Value} {v : World} (h : RowsI W FV R L u v) : Below W.heap.size W v := by
  rcases h.2.1 with ⟨_, rfl⟩ | ⟨_, _, rfl⟩
  · exact Below.refl _ _
  · exact below_new _ _

theorem run_build6 (a : Act) (w : World) (o : Oper) (p0 p1 p2 p3 p4 p5 : Operand) (s0 s1 s2 s3 s4 s5 : ByteArray) (ho : o.op = .buildSlice 32 6 #[(0, p0), (1, p1), (2, p2), (3, p3), (4, p4), (5, p5)])
    (h0 : a.eval p0 = .string s0) (h1 : a.eval p1 = .string s1) (h2 : a.eval p2 = .string s2) (h3 : a.eval p3 = .string s3) (h4 : a.eval p4 = .string s4) (h5 : a.eval p5 = .string s5) :
    (execOp a.eval o).run Tryz.prog w = .ok (.value (.slice (some ⟨w.heap.size, 0, none⟩) 6 6)) (w.alloc (.cells #[.string s0, .string s1, .string s2, .string s3, .string s4, .string s5] 9)) := by
  generalize a.eval = ρ at *
  simp [execOp, ho, h0, h1, h2, h3, h4, h5, go_sem, Tryz.underlying32]
end Go.Proofs.YtopfnfmglnjljaaGreatDoor.Rf
