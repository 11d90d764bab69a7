/- The contract of Decode. -/
import Derived.Test.YtagplfochalidabDoorTold
namespace Go.Proofs.YtagplfochalidabDoor
open Go.ChangeShapes Go.WideShapes Go.ChangeAt Go.RowKit
open Plain
set_option linter.unusedVariables false
set_option linter.unusedSimpArgs false

/-- Is op, of that size, what the bits x say? -/
def hitP (size x : Int) (op : Nat) : Bool := decide (sizeP op = size) && toldP op x

/-- The first instruction from op on that the bits say. -/
def firstP (size x : Int) : Nat → Nat → Option Nat
  | 0, _ => none
  | n + 1, op => if hitP size x op then some op else firstP size x n (op + 1)

/-- What the bytes bs begin with: an instruction and its size. -/
def decodeP (bs : List Int) : Option (Int × List Int × Int) :=
  if (leadP bs).2.2 = true then (firstP (leadP bs).2.1 (leadP bs).1 66 0).map fun op => ((op : Int), tells op (leadP bs).1, (leadP bs).2.1) else none

theorem leadP_bounds {bs : List Int} (h : AreBytes bs) : 0 ≤ (leadP bs).1 ∧ (leadP bs).1 < 4294967296 := by
  match bs, h with
  | [], _ => simp [leadP]
  | [_], _ => simp [leadP]
  | a :: b :: rest, h =>
    have ha := h a (by simp)
    have hb := h b (by simp)
    cases hl : isLong a with
    | false => simp [leadP, hl]; omega
    | true =>
      match rest, h with
      | [], _ => simp [leadP, hl]
      | [_], _ => simp [leadP, hl]
      | c :: d :: _, h =>
        have hc := h c (by simp)
        have hd := h d (by simp)
        simp [leadP, hl]
        omega

theorem firstP_step (size x : Int) (n : Nat) (h : n < 66) : firstP size x (66 - n) n = if hitP size x n then some n else firstP size x (66 - (n + 1)) (n + 1) := by
  rw [show 66 - n = (66 - (n + 1)) + 1 by omega]
  rfl

theorem short_of {n : Nat} (hlt : n < 66) (h : sizeP (n : Int) ≤ 2) : (n : Int) < 43 := by
  by_cases h43 : (n : Int) < 43
  · exact h43
  · unfold sizeP at h
    rw [if_neg (by omega), if_neg h43] at h
    omega

/-- A call's answer, in words. -/
def Decoded (w w' : World) (e : Ending) : Option (Int × List Int × Int) → Prop
  | some (op, fs, size) => ∃ v, e = .returned (.tuple #[.agg #[.int .i64 op, v], .int .i64 size, .bool true]) ∧ NewSlice w.heap.size w' v fs
  | none => e = .returned (.tuple #[.agg #[.int .i64 0, .slice none 0 0], .int .i64 0, .bool false])

set_option maxHeartbeats 1600000 in
set_option maxRecDepth 20000 in
theorem decode_any (v : Value) (bs : List Int) (w : World) (T : Tab w) (hB : BytesAt w v bs) (hb : AreBytes bs) (hsmall : (leadP bs).2.1 ≤ 2) :
    Calls Tryd.prog 14 #[v] w fun e w' => Below w.heap.size w w' ∧ Decoded w w' e (decodeP bs) := by
  have hb0 : Below w.heap.size w (w.alloc (.cells #[.int .i64 0, .slice none 0 0] 42)) := (Below.refl _ _).alloc (Nat.le_refl _) _
  have hB2 : BytesAt (w.alloc (.cells #[.int .i64 0, .slice none 0 0] 42)) v bs := by
    obtain ⟨p, cap, e, h1, h2⟩ := hB
    refine ⟨p, cap, e, h1, fun hn => ?_⟩
    obtain ⟨b, o, e, h3⟩ := h2 hn
    exact ⟨b, o, e, fun i x hx => kept_cell hb0 (h3 i x hx)⟩
  have L := leading_any v bs _ hB2 hb
  have cA := new_cell (w := w) (t := 42) #[.int .i64 0, .slice none 0 0] 0 (.int .i64 0) rfl
  have cB := new_cell (w := w) (t := 42) #[.int .i64 0, .slice none 0 0] 1 (.slice none 0 0) rfl
  have f0 := new_thawed (w := w) (t := 42) #[.int .i64 0, .slice none 0 0] 0
  have f1 := new_thawed (w := w) (t := 42) #[.int .i64 0, .slice none 0 0] 1
  have hsz : (w.alloc (.cells #[.int .i64 0, .slice none 0 0] 42)).heap.size = w.heap.size + 1 := by simp
  obtain ⟨x0, x1⟩ := leadP_bounds hb
  obtain ⟨p, cap, rfl, _⟩ := hB
  unfold decodeP
  unfold three at L
  generalize leadP bs = ld at *
  obtain ⟨x, size, is⟩ := ld
  simp only at L x0 x1 hsmall ⊢
  clear hB2
  cases is with
  | false =>
    rw [if_neg (by simp)]
    go_enter Tryd.func14, Tryd.ntmps14
    go_wp2_with (go_at_call 18; refine L.mono ?_; rintro e w' ⟨rfl, rfl⟩)
    exact bodyPost_ret (v := .tuple #[.agg #[.int .i64 0, .slice none 0 0], .int .i64 0, .bool false]) (by simp [results, Tryd.results14, go_sem]) rfl ⟨hb0, rfl⟩
  | true =>
    rw [if_pos rfl]
    have Z := fun op W => size_any op W
    have D := fun op W T' => told_any op x x0 x1 W T'
    go_enter Tryd.func14, Tryd.ntmps14
    go_wp2_with (go_at_call 18; refine L.mono ?_; rintro e w' ⟨rfl, rfl⟩)
    have T1 := T.later hb0
    clear L
    generalize w.alloc (.cells #[.int .i64 0, .slice none 0 0] 42) = w1 at *
    have hb0' : w.heap.size < w1.heap.size := by omega
    go_loopw [3, 18] (fun sz i wr => ∃ n : Nat, n ≤ 66 ∧ i = .int .i64 n ∧ sz = .int .i64 size ∧ Hid (firstP size x (66 - n) n = firstP size x 66 0) ∧ Below w1.heap.size w1 wr) (fun _ i _ => 66 - (intOf i).toNat)
    case atStart => exact ⟨0, by omega, rfl, rfl, rfl, Below.refl _ _⟩
    case round =>
      obtain ⟨n, hn, rfl, rfl, hfst, hbr⟩ := hrel
      have c1 := kept_cell hbr cA
      have c2 := kept_cell hbr cB
      have g0 := kept_thawed hbr hb0' f0
      have g1 := kept_thawed hbr hb0' f1
      have hAr : w.heap.size < wr.heap.size := Nat.lt_of_lt_of_le hb0' hbr.size
      have hbw := hb0.trans (hbr.mono hb0.size)
      by_cases hlt : n < 66
      · have hstep : Hid (firstP size x (66 - n) n = _) := firstP_step size x n hlt
        have Zn := fun W => Z n W
        have Dn := fun hn43 : (n : Int) < 43 => D n wr ⟨T1.later hbr, hn43⟩
        clear Z D T T1 cA cB f0 f1
        by_cases hs : sizeP n = size
        · replace Dn := Dn (short_of hlt (by omega))
          rw [hs] at Zn
          cases ht : toldP n x with
          | true =>
            have hh : hitP size x n = true := by unfold hitP; simp [hs, ht]
            have hfin : Hid (firstP size x 66 0 = some n) := by
              have h2 := hstep.out
              rw [if_pos hh] at h2
              exact hfst.out.symm.trans h2
            have Dn2 : Calls Tryd.prog 20 #[.int .i64 n, .int .u32 x] wr fun e w' => ∃ ps pc, e = .returned (.tuple #[.agg #[.int .i64 n, .slice ps (tells n x).length pc], .bool true]) ∧ Below wr.heap.size wr w' ∧ NewSlice wr.heap.size w' (.slice ps (tells n x).length pc) (tells n x) := by
              refine Dn.mono ?_
              rintro e w' ⟨hb, h1 | h1⟩
              · obtain ⟨v, rfl, hS⟩ := h1.2
                obtain ⟨ps, pc, rfl, hS2⟩ := hS
                exact ⟨ps, pc, rfl, hb, ⟨ps, pc, rfl, hS2⟩⟩
              · rw [ht] at h1; exact absurd h1.1 (by simp)
            clear Dn hstep hfst hh ht hs
            generalize hm : (tells n x).length = m at *
            go_wp2_with (first | (go_at_call 19; refine (Zn _).mono ?_; rintro e w' ⟨rfl, rfl⟩) | (go_at_call 20; refine Dn2.mono ?_; rintro e w2 ⟨ps, pc, rfl, hw2, hS⟩; have y1 := kept_cell hw2 c1; have y2 := kept_cell hw2 c2; have y3 := kept_thawed hw2 hAr g0; have y4 := kept_thawed hw2 hAr g1; have y5 : w.heap.size < w2.heap.size := Nat.lt_of_lt_of_le hAr hw2.size))
            have hbe := (hbw.trans (hw2.mono hbw.size)).setCell (p := ⟨w.heap.size, 0, none⟩) (Nat.le_refl _) (.int .i64 n)
            exact bodyPost_ret (v := .tuple #[.agg #[.int .i64 n, .slice ps m pc], .int .i64 size, .bool true]) (by simp [results, Tryd.results14, go_sem, y1, y2, y5, Nat.ne_of_lt y5]) rfl (by
              rw [hfin.out]
              refine ⟨((hbw.trans (hw2.mono hbw.size)).setCell (Nat.le_refl _) _ |>.setCell (Nat.le_refl _) _).alloc (by simpa using Nat.le_of_lt y5) _, ?_⟩
              refine ⟨_, rfl, ?_⟩
              have h1 := ((hS.set (a := ⟨w.heap.size, 0, none⟩) (u := .int .i64 n) hAr).set (a := ⟨w.heap.size, 1, none⟩) (u := .slice ps m pc) hAr).later ((Below.refl _ _).alloc (Nat.le_refl _) (.cells #[.int .i64 n, .slice ps m pc] 42))
              obtain ⟨p', cap', e', h2⟩ := h1
              exact ⟨p', cap', e', fun hn => by obtain ⟨b, o, e1, e2, e3⟩ := h2 hn; exact ⟨b, o, e1, by omega, e3⟩⟩)
          | false =>
            have hh : hitP size x n = false := by unfold hitP; simp [ht]
            have Dn2 : Calls Tryd.prog 20 #[.int .i64 n, .int .u32 x] wr fun e w' => e = .returned (.tuple #[.agg #[.int .i64 0, .slice none 0 0], .bool false]) ∧ Below wr.heap.size wr w' := by
              refine Dn.mono ?_
              rintro e w' ⟨hb, h1 | h1⟩
              · rw [ht] at h1; exact absurd h1.1 (by simp)
              · exact ⟨h1.2, hb⟩
            clear Dn ht hs
            go_wp2_with (first | (go_at_call 19; refine (Zn _).mono ?_; rintro e w' ⟨rfl, rfl⟩) | (go_at_call 20; refine Dn2.mono ?_; rintro e w2 ⟨rfl, hw2⟩))
            go_roundw
            case rel => exact ⟨n + 1, by omega, by go_num, rfl, by have h2 := hstep.out; rw [if_neg (by simp [hh])] at h2; exact h2.symm.trans hfst.out, (hbr.trans (hw2.mono hbr.size)).alloc (Nat.le_trans hbr.size hw2.size) _⟩
            case measure => simp [intOf]; omega
        · have hh : hitP size x n = false := by unfold hitP; simp [hs]
          have hs2 : (sizeP n == size) = false := by simpa using hs
          have hs3 : (sizeP n != size) = true := by simpa using hs
          go_wp2_with (go_at_call 19; refine (Zn _).mono ?_; rintro e w' ⟨rfl, rfl⟩)
          go_roundw
          case rel => exact ⟨n + 1, by omega, by go_num, rfl, by have h2 := hstep.out; rw [if_neg (by simp [hh])] at h2; exact h2.symm.trans hfst.out, hbr⟩
          case measure => simp [intOf]; omega
      · have hn66 : n = 66 := by omega
        subst hn66
        have hfin : Hid (firstP size x 66 0 = none) := hfst.out.symm
        clear Z D hfst
        go_wp2
        exact bodyPost_ret (v := .tuple #[.agg #[.int .i64 0, .slice none 0 0], .int .i64 0, .bool false]) (by simp [results, Tryd.results14, go_sem, c1, c2]) rfl (by
          rw [hfin.out]
          exact ⟨(hbw.setCell (Nat.le_refl _) _).setCell (Nat.le_refl _) _, rfl⟩)
end Go.Proofs.YtagplfochalidabDoor
