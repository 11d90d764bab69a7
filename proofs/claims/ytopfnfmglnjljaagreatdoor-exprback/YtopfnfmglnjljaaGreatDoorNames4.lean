/- The program's words and Names: each word of an expression, from left to right, once. -/
import Derived.Test.YtopfnfmglnjljaaGreatDoorNames3
import Derived.Test.YtopfnfmglnjljaaGreatDoorFits
namespace Go.Proofs.YtopfnfmglnjljaaGreatDoor.Nn
open Go.Proofs.YtopfnfmglnjljaaGreatDoor
open Go.ChangeShapes Go.WideShapes Go.ChangeAt Go.RowKit
set_option linter.unusedVariables false
set_option linter.unusedSimpArgs false

theorem fit_kids {x : Ex} (h : Ly.Fit x) : ∀ (i : Nat) c, x.kids[i]? = some c → Ly.Fit c := by
  intro i c hc
  cases x with
  | neg x => match i, hc with | 0, hc => simp [Ex.kids] at hc; subst hc; exact h
  | two k x y =>
    match i, hc with
    | 0, hc => simp [Ex.kids] at hc; subst hc; exact h.2.2.1
    | 1, hc => simp [Ex.kids] at hc; subst hc; exact h.2.2.2
  | _ => simp [Ex.kids] at hc

theorem words_kids (x : Ex) (h : ∀ s, x ≠ .name s) (acc : List Bs) : wordsN acc x = x.kids.foldl wordsN acc := by
  cases x with
  | name s => exact absurd rfl (h s)
  | _ => rfl

theorem formed_fit {x : Ex} (h : Ly.Fit x) {P : Nat → Prop} {w : World} {p : Option Addr} (hx : ExAt P w (.agg #[.int .i64 x.kind, .int .i64 x.numb, .string (bs x.text), .slice p x.kids.length x.kids.length]) x) (W : World) :
    Calls Tryz.prog 41 #[.agg #[.int .i64 x.kind, .int .i64 x.numb, .string (bs x.text), .slice p x.kids.length x.kids.length]] W fun e w' => e = .returned (.bool true) ∧ Below W.heap.size W w' := by
  cases x with
  | zero => exact h.elim
  | neg x => exact formed_neg _ _ _ _ _
  | two k a b => exact formed_two _ _ _ _ _ (by have := h.1; simp [Ex.kind]; omega) (by have := h.2.1; simp [Ex.kind]; omega) _
  | num n => simp only [ExAt, Ex.kids, Ex.kind, Ex.numb, Ex.text] at hx; cases hx; exact formed_leaf _ _ _ (by simp [Ex.kind]) (by simp [Ex.kind]) _
  | name s => simp only [ExAt, Ex.kids, Ex.kind, Ex.numb, Ex.text] at hx; cases hx; exact formed_leaf _ _ _ (by simp [Ex.kind]) (by simp [Ex.kind]) _
  | here => simp only [ExAt, Ex.kids, Ex.kind, Ex.numb, Ex.text] at hx; cases hx; exact formed_leaf _ _ _ (by decide) (by decide) _

theorem kids_in {P : Nat → Prop} {w : World} {a n s : Value} {k l c : Nat} {x : Ex} (h : ExAt P w (.agg #[a, n, s, .slice (some ⟨k, 0, none⟩) l c]) x) : P k := by
  cases x with
  | neg x => obtain ⟨k', c0, c1, c2, c3, e, hP, _⟩ := h; cases e; exact hP
  | two op x y => obtain ⟨k', c0, c1, c2, c3, d0, d1, d2, d3, e, hP, _⟩ := h; cases e; exact hP
  | _ => simp [ExAt] at h

/-- Cells of low blocks stay. -/
theorem Chg.low {base0 b B : Nat} {v v' : Value} {w w' : World} (h : Chg b B v v' w w') (hb : base0 ≤ b) (hB : base0 ≤ B) (hv : ∀ g, v.ownBlock = some g → base0 ≤ g) (hs : base0 ≤ w.heap.size) : Below base0 w w' :=
  ⟨h.os, h.tape, h.output, h.size, fun k hk => h.block k (by omega) (by omega) (by omega) (fun e => by have := hv k e; omega)⟩
theorem ex_low {base0 : Nat} {w w' : World} {v : Value} {x : Ex} (h : ExAt (· < base0) w v x) (hb : Below base0 w w') : ExAt (· < base0) w' v x := h.later fun a _ hp hc => ⟨by rw [cell_of_block (hb.block a.block hp)]; exact hc, hp⟩

set_option maxHeartbeats 1000000 in
set_option maxRecDepth 20000 in
theorem words_any (base0 base b B : Nat) (hb0 : base0 ≤ b) (hB0 : base0 ≤ B) : ∀ (N : Nat) (x : Ex), x.size < N → Ly.Fit x → ∀ (acc : List Bs) (lv v : Value) (w : World), acc.length + x.size ≤ 100000 → ExAt (· < base0) w v x → NA base w b B lv acc →
    Calls Tryz.prog 29 #[v, .func (.func 30) #[.pointer (some ⟨b, 0, none⟩)] #[]] w fun e w' => e = .returned (.tuple #[]) ∧ ∃ lv', NA base w' b B lv' (wordsN acc x) ∧ Chg b B lv lv' w w' := by
  intro N
  induction N with
  | zero => intro x h; omega
  | succ N ih =>
    intro x hN hfit acc lv v w hlen hx hNA
    obtain ⟨p, rfl, hk⟩ := hx.opened
    have hl := x.kids_le
    have hpk : ∀ k, p = some ⟨k, 0, none⟩ → k < base0 := fun k e => by subst e; exact kids_in (P := fun i => i < base0) hx
    have n0 := below_new w (.cells #[.int .i64 x.kind, .int .i64 x.numb, .string (bs x.text), .slice p x.kids.length x.kids.length] 27)
    have X0 := Blk.new w 27 (.int .i64 x.kind) (.int .i64 x.numb) (.string (bs x.text)) (.slice p x.kids.length x.kids.length)
    have FO := fun W => formed_fit hfit hx W
    have NA0 := hNA.later n0
    have hown : ∀ g, lv.ownBlock = some g → base ≤ g := fun g e => (hNA.row.lt g e).1
    have hlb := hNA.lb
    have hlB := hNA.lB
    have hsz := hNA.sz
    have h0 : base0 ≤ w.heap.size := by omega
    by_cases hname : ∃ s, x = .name s
    · obtain ⟨s, rfl⟩ := hname
      have hsl : s.length ≤ 12 := by
        have := hfit.1
        cases s with
        | nil => simp
        | cons c t => simp only [wordP, Bool.and_eq_true, decide_eq_true_eq] at this; exact this.1.1
      have hal : acc.length ≤ 100000 := by omega
      clear hk ih hx
      simp only [Ex.kind, Ex.numb, Ex.text, Ex.kids, List.length_nil, wordsN] at *
      go_enter Tryz.func29, Tryz.ntmps29
      go_wp2_with fail
      generalize w.alloc (.cells #[.int .i64 2, .int .i64 0, .string (bs s), .slice p 0 0] 27) = W0 at *
      refine (FO W0).mono ?_
      rintro e W1 ⟨rfl, hb1⟩
      have X1 := X0.later hb1
      have NA1 := NA0.later hb1
      have C1 : Chg b B lv lv w W1 := Chg.of_below (n0.trans (hb1.mono n0.size))
      have AD := add_any base b B lv acc s W1 NA1 hal (by omega)
      obtain ⟨x0, x1, x2, x3, _, _, _, _⟩ := id X1
      have hlw := X1.lt
      clear FO X0 NA0 hb1 n0
      go_wp2_with fail
      refine AD.mono ?_
      rintro e W2 ⟨rfl, lv', NA2, C2⟩
      have hbk : W2.heap[w.heap.size]? = W1.heap[w.heap.size]? := C2.block _ hlw (by omega) (by omega) (fun e => by have := (hNA.row.lt _ e).2; omega)
      have X2 := X1.of_block hbk
      obtain ⟨x0, x1, x2, x3, _, _, _, _⟩ := id X2
      clear AD X1 NA1 hbk
      go_wp2_with fail
      refine wp_loop_rounds 1 ?_
      rw [rounds_succ]
      go_wp2_with fail
      go_end0
      exact ⟨rfl, lv', NA2, C1.trans C2⟩
    · have hkind : ((x.kind : Int) == 2) = false := by
        cases x with
        | name s => exact absurd ⟨s, rfl⟩ hname
        | two k a b => have := hfit.1; simp [Ex.kind]; omega
        | _ => rfl
      have e0 := words_kids x (fun s e => hname ⟨s, e⟩) acc
      have IH : ∀ (i : Nat) c, x.kids[i]? = some c → ∀ (acc : List Bs) (lv v : Value) (w : World), acc.length + c.size ≤ 100000 → ExAt (· < base0) w v c → NA base w b B lv acc → Calls Tryz.prog 29 #[v, .func (.func 30) #[.pointer (some ⟨b, 0, none⟩)] #[]] w fun e w' => e = .returned (.tuple #[]) ∧ ∃ lv', NA base w' b B lv' (wordsN acc c) ∧ Chg b B lv lv' w w' :=
        fun i c hc => ih c (by have := Ex.kids_size hc; omega) (fit_kids hfit i c hc)
      have hbig : ∀ (j : Nat) c, x.kids[j]? = some c → ((x.kids.take j).foldl wordsN acc).length + c.size ≤ 100000 := by
        intro j c hc
        cases x with
        | neg y => match j, hc with | 0, hc => simp [Ex.kids] at hc; subst hc; simp [Ex.kids, Ex.size] at hlen ⊢; omega
        | two k y z =>
          have := words_len y acc
          match j, hc with
          | 0, hc => simp [Ex.kids] at hc; subst hc; simp [Ex.kids, Ex.size] at hlen ⊢; omega
          | 1, hc => simp [Ex.kids] at hc; subst hc; simp [Ex.kids, Ex.size] at hlen ⊢; omega
        | _ => simp [Ex.kids] at hc
      obtain ⟨res, hres⟩ : ∃ res, res = wordsN acc x := ⟨_, rfl⟩
      rw [← hres] at e0 ⊢
      have HR : Hid (res = x.kids.foldl wordsN acc) := e0
      clear ih hx e0 hres hN hname hlen
      generalize x.kids = ks at *
      generalize x.kind = kk at *
      generalize x.numb = nn at *
      generalize bs x.text = tt at *
      go_enter Tryz.func29, Tryz.ntmps29
      go_wp2_with fail
      generalize w.alloc (.cells #[.int .i64 kk, .int .i64 nn, .string tt, .slice p ks.length ks.length] 27) = W0 at *
      refine (FO W0).mono ?_
      rintro e W1 ⟨rfl, hb1⟩
      have X1 := X0.later hb1
      have NA1 := NA0.later hb1
      have B1 := n0.trans (hb1.mono n0.size)
      have C1 : Chg b B lv lv w W1 := Chg.of_below B1
      have h1 : base0 ≤ W1.heap.size := Nat.le_trans h0 B1.size
      obtain ⟨x0, x1, x2, x3, _, _, _, _⟩ := id X1
      clear FO X0 NA0 hb1 n0
      go_wp2_with fail
      go_loopw [19] (fun i wr => ∃ (j : Nat) (acc' : List Bs) (lv' : Value), j ≤ ks.length ∧ i = .int .i64 j ∧ NA base wr b B lv' acc' ∧ Chg b B lv lv' W1 wr ∧ Hid (acc' = (ks.take j).foldl wordsN acc)) (fun i _ => 2 - (intOf i).toNat)
      case atStart => exact ⟨0, acc, lv, by omega, rfl, NA1, Chg.refl _ _ _ _, rfl⟩
      case round =>
        obtain ⟨j, acc', lv', hj, rfl, NAj, Cj, hI⟩ := hrel
        have low := (C1.trans Cj).low (base0 := base0) hb0 hB0 (fun g e => by have := hown g e; omega) h0
        by_cases hjn : j < ks.length
        · obtain ⟨c, hc⟩ : ∃ c, ks[j]? = some c := ⟨_, List.getElem?_eq_getElem hjn⟩
          obtain ⟨k, c0, c1, c2, c3, rfl, z0, z1, z2, z3, hcx⟩ := hk j c hc
          have hk0 := hpk k rfl
          have lowk := low.block k hk0
          replace z0 := (cell_of_block (a := ⟨k, j * 4, none⟩) lowk).trans z0
          replace z1 := (cell_of_block (a := ⟨k, j * 4 + 1, none⟩) lowk).trans z1
          replace z2 := (cell_of_block (a := ⟨k, j * 4 + 2, none⟩) lowk).trans z2
          replace z3 := (cell_of_block (a := ⟨k, j * 4 + 3, none⟩) lowk).trans z3
          have hbj := hbig j c hc
          rw [← hI.out] at hbj
          have nr := below_new wr (.cells #[c0, c1, c2, c3] 27)
          have Cr : Chg b B lv' lv' wr (wr.alloc (.cells #[c0, c1, c2, c3] 27)) := Chg.of_below nr
          have H := IH j c hc acc' lv' (.agg #[c0, c1, c2, c3]) (wr.alloc (.cells #[c0, c1, c2, c3] 27)) hbj (ex_low hcx (low.trans (nr.mono (Nat.le_trans h0 low.size)))) (NAj.later nr)
          obtain ⟨ka, na, ta, qa, la, ma, hfx⟩ := hcx.form
          simp only [Value.agg.injEq, Array.mk.injEq, List.cons.injEq, and_true] at hfx
          obtain ⟨rfl, rfl, rfl, rfl⟩ := hfx
          have hjI : (j : Int) < (ks.length : Int) := by omega
          have hT : Hid (wordsN acc' c = (ks.take (j + 1)).foldl wordsN acc) := by
            rw [Hid, List.take_add_one, hc, hI.out]
            simp
          clear hk IH hcx hc hI hbig low lowk hpk hbj
          go_wp2_with fail
          generalize wr.alloc (.cells #[.int .i64 ka, .int .i64 na, .string ta, .slice qa la ma] 27) = W2 at *
          refine H.mono ?_
          rintro e w3 ⟨rfl, lv'', NA3, C3⟩
          clear H z0 z1 z2 z3
          go_wp2_with fail
          go_roundw
          case rel => exact ⟨j + 1, _, lv'', by omega, by simp, NA3, Cj.trans (Cr.trans C3), hT⟩
          case measure => simp [intOf]; omega
        · have hjI : ¬ (j : Int) < (ks.length : Int) := by omega
          obtain rfl : j = ks.length := by omega
          have hacc : acc' = res := by rw [hI.out, List.take_length, HR.out]
          clear hk IH hbig HR hI
          subst hacc
          go_wp2_with fail
          go_end0
          exact ⟨rfl, lv', NAj, C1.trans Cj⟩

set_option maxHeartbeats 1000000 in
set_option maxRecDepth 20000 in
theorem names_any (x : Ex) (hfit : Ly.Fit x) (hsz : x.size ≤ 100000) (v : Value) (w : World) (hx : ExAt (· < w.heap.size) w v x) :
    Calls Tryz.prog 13 #[v] w fun e w' => Below w.heap.size w w' ∧ ∃ v', e = .returned v' ∧ StrsAt w' v' (wordsN [] x) := by
  have hmm := @run_makeMap Tryz.prog
  have hmf := hmf
  obtain ⟨p, rfl, hk⟩ := hx.opened
  clear hk
  have n0 := below_new w (.cells #[.int .i64 x.kind, .int .i64 x.numb, .string (bs x.text), .slice p x.kids.length x.kids.length] 27)
  have n1 := below_new (w.alloc (.cells #[.int .i64 x.kind, .int .i64 x.numb, .string (bs x.text), .slice p x.kids.length x.kids.length] 27)) (.map #[] 0)
  have M1 := World.ownsMap_made (w.alloc (.cells #[.int .i64 x.kind, .int .i64 x.numb, .string (bs x.text), .slice p x.kids.length x.kids.length] 27)) Tryz.prog 9 (unitElem (H := Unit))
  have s1 : (w.alloc (.cells #[.int .i64 x.kind, .int .i64 x.numb, .string (bs x.text), .slice p x.kids.length x.kids.length] 27)).heap.size = w.heap.size + 1 := by simp
  have s2 : ((w.alloc (.cells #[.int .i64 x.kind, .int .i64 x.numb, .string (bs x.text), .slice p x.kids.length x.kids.length] 27)).alloc (.map #[] 0)).heap.size = w.heap.size + 1 + 1 := by simp
  rw [s1] at M1
  go_enter Tryz.func13, Tryz.ntmps13
  go_wp2_with fail
  have B2 := n0.trans (n1.mono n0.size)
  clear n0 n1 s1
  generalize (w.alloc (.cells #[.int .i64 x.kind, .int .i64 x.numb, .string (bs x.text), .slice p x.kids.length x.kids.length] 27)).alloc (.map #[] 0) = W2 at *
  have n3 := below_new W2 (.cells #[.slice none 0 0, .map (some (w.heap.size + 1))] 68)
  have c0 := new_cell (w := W2) (t := 68) #[.slice none 0 0, .map (some (w.heap.size + 1))] 0 (.slice none 0 0) rfl
  have c1 := new_cell (w := W2) (t := 68) #[.slice none 0 0, .map (some (w.heap.size + 1))] 1 (.map (some (w.heap.size + 1))) rfl
  have f0 : (W2.alloc (.cells #[.slice none 0 0, .map (some (w.heap.size + 1))] 68)).frozen? ⟨W2.heap.size, 0, none⟩ = false := new_thawed _ 0
  have s3 : (W2.alloc (.cells #[.slice none 0 0, .map (some (w.heap.size + 1))] 68)).heap.size = w.heap.size + 1 + 1 + 1 := by simp [s2]
  have M3 := M1.kept (grown_of_below n3 none) (by simp)
  have B3 := B2.trans (n3.mono B2.size)
  rw [s2] at c0 c1 f0
  generalize W2.alloc (.cells #[.slice none 0 0, .map (some (w.heap.size + 1))] 68) = W3 at *
  have N3 : NA (w.heap.size + 1 + 1 + 1) W3 (w.heap.size + 1 + 1) (w.heap.size + 1) (.slice none 0 0) [] := ⟨c0, f0, c1, ⟨rfl, .inl ⟨rfl, rfl⟩⟩, M3, by omega, by omega, by omega, by omega⟩
  refine (words_any w.heap.size _ _ _ (by omega) (by omega) (x.size + 1) x (by omega) hfit [] _ _ W3 (by simpa using hsz) (ex_low hx B3) N3).mono ?_
  rintro e W4 ⟨rfl, lv', N4, C4⟩
  have k0 := N4.c0
  have S4 := strs_of_own N4.row
  have B4 := B3.trans (C4.low (base0 := w.heap.size) (by omega) (by omega) (fun g e => by simp [Value.ownBlock] at e) (by omega))
  obtain ⟨pv, cv, rfl⟩ := own_form N4.row
  clear N3 N4 C4 c0 c1 f0 M3 M1 n3
  go_wp2_with fail
  go_ret
  exact ⟨B4, _, rfl, S4⟩

/-- No more parts than its height allows. -/
theorem size_high : ∀ (x : Ex), x.size + 1 ≤ 2 * 2 ^ Ly.high x
  | .zero => by simp [Ex.size, Ly.high]
  | .num _ => by simp [Ex.size, Ly.high]
  | .name _ => by simp [Ex.size, Ly.high]
  | .here => by simp [Ex.size, Ly.high]
  | .neg x => by
    have := size_high x
    have h1 : 1 ≤ 2 ^ Ly.high x := Nat.one_le_two_pow
    simp only [Ex.size, Ly.high, Nat.pow_add_one]
    omega
  | .two k x y => by
    have hx := size_high x
    have hy := size_high y
    have h1 : 2 ^ Ly.high x ≤ 2 ^ max (Ly.high x) (Ly.high y) := Nat.pow_le_pow_right (by omega) (by omega)
    have h2 : 2 ^ Ly.high y ≤ 2 ^ max (Ly.high x) (Ly.high y) := Nat.pow_le_pow_right (by omega) (by omega)
    simp only [Ex.size, Ly.high, Nat.pow_add_one]
    omega
theorem one_size (l : Fo) (h : l.deep ≤ 8) : (oneP l).size ≤ 100000 := by
  have h1 := size_high (oneP l)
  have h2 : 2 ^ Ly.high (oneP l) ≤ 2 ^ 8 := Nat.pow_le_pow_right (by omega) (Ly.one_high l h)
  omega
end Go.Proofs.YtopfnfmglnjljaaGreatDoor.Nn
