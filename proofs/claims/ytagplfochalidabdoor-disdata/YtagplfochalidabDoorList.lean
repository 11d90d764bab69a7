/- The contracts of dis.each, with what lists the lines, and of dis.List. -/
import Derived.Test.YtagplfochalidabDoorFirst
import Derived.Deep.AppendLies
namespace Go.Proofs.YtagplfochalidabDoor
open Go.ChangeShapes Go.WideShapes Go.ChangeAt Go.RowKit
open Plain
set_option linter.unusedVariables false
set_option linter.unusedSimpArgs false

theorem info_string : (Tryd.prog.info? 9).map (fun i => (i.zero, i.size, i.bytes)) = some (some (.string ByteArray.empty), 1, 16) := by kernel_rfl

/-- The bytes b are listed as these lines. -/
inductive Lists : List Int → List (List UInt8) → Prop
  | nil : Lists [] []
  | cons {b : List Int} {ls : List (List UInt8)} : b ≠ [] → Fine b → Lists (b.drop (lineP b).2) ls → Lists b ((lineP b).1 :: ls)

theorem line_size {b : List Int} (hn : b ≠ []) (hf : Fine b) : 1 ≤ (lineP b).2 ∧ (lineP b).2 ≤ b.length := by
  rcases hf.dec with hd | hd
  · match b, hn, hd with
    | [x], _, hd => unfold lineP; rw [hd]; simp
    | x :: y :: rest, _, hd => unfold lineP; rw [hd]; simp
  · match b, hn, hd with
    | [x], _, hd => unfold decodeP at hd; simp [leadP] at hd
    | x :: y :: rest, _, hd => unfold lineP; rw [hd]; simp

/-- Block L holds a slice of its own with these texts. -/
def St (L : Nat) (w : World) (ws : List (List UInt8)) : Prop := ∃ sl, w.cell? ⟨L, 0, none⟩ = some sl ∧ w.frozen? ⟨L, 0, none⟩ = false ∧ L < w.heap.size ∧ w.ownsRow (L + 1) 9 1 sl ws.length (ws.map fun l => Value.string (bs l))

theorem St.later {L : Nat} {w w' : World} {ws : List (List UInt8)} (h : St L w ws) (hb : Below w.heap.size w w') : St L w' ws := by
  obtain ⟨sl, h1, h2, h3, h4⟩ := h
  exact ⟨sl, kept_cell hb h1, kept_thawed hb h3 h2, Nat.lt_of_lt_of_le h3 hb.size, h4.kept (grown_of_below hb none) (by cases sl.ownBlock <;> simp)⟩

theorem bytes_drop {w : World} {b o n cap : Nat} {B : List Int} (m : Nat) (h : BytesAt w (.slice (some ⟨b, o, none⟩) n cap) B) (hm : m ≤ B.length) : BytesAt w (.slice (some ⟨b, o + m, none⟩) (n - m) (cap - m)) (B.drop m) := by
  obtain ⟨p', cap', e, hc, h⟩ := h
  cases e
  have hl : (B.drop m).length = B.length - m := by simp
  refine ⟨_, cap - m, by rw [hl], by omega, fun hn => ?_⟩
  obtain ⟨b', o', e, h2⟩ := h (by rintro rfl; simp at hn)
  cases e
  refine ⟨b, o + m, rfl, fun i x hx => ?_⟩
  rw [List.getElem?_drop] at hx
  have := h2 (m + i) x hx
  rw [show o + m + i = o + (m + i) by omega]
  exact this

theorem bytes_drop' {w : World} {b o n cap : Nat} {B : List Int} (m : Nat) (h : BytesAt w (.slice (some ⟨b, o, none⟩) n cap) B) (hm : m ≤ B.length) : BytesAt w (.slice (if cap = m then some ⟨b, o, none⟩ else some ⟨b, o + m, none⟩) (n - m) (cap - m)) (B.drop m) := by
  by_cases hc : cap = m
  · rw [if_pos hc]
    obtain ⟨p', cap', e, hc', _⟩ := h
    cases e
    refine ⟨some ⟨b, o, none⟩, cap - m, by rw [List.length_drop], by rw [List.length_drop]; omega, fun hn => ?_⟩
    exact absurd (List.drop_eq_nil_of_le (by omega)) hn
  · rw [if_neg hc]
    exact bytes_drop m h hm

def sliceLen : Value → Nat
  | .slice _ n _ => n
  | _ => 0

set_option maxHeartbeats 1600000 in
set_option maxRecDepth 20000 in
theorem put_list (L : Nat) (ws : List (List UInt8)) (s : List UInt8) (w : World) (h : St L w ws) (hm : ws.length ≤ 100000) :
    Calls Tryd.prog 9 #[.string (bs s), .pointer (some ⟨L, 0, none⟩)] w fun e w' => e = .returned (.bool true) ∧ St L w' (ws ++ [s]) ∧ Below L w w' := by
  obtain ⟨sl, h1, h2, h3, hown⟩ := h
  obtain ⟨i0, hi0, hz0, hz2, hz3⟩ := info_parts info_string
  have nL : sl.ownBlock ≠ some L := fun e => by have := (hown.lt _ e).1; omega
  have h1a := kept_alloc (o := .cells #[.string (bs s)] 9) h1
  go_enter Tryd.func9, Tryd.ntmps9
  have hbn : Below L w (w.alloc (.cells #[.string (bs s)] 9)) := (Below.refl _ _).alloc (by omega) _
  have thA : (w.alloc (.cells #[.string (bs s)] 9)).frozen? ⟨L, 0, none⟩ = false := kept_thawed ((Below.refl _ _).alloc (Nat.le_refl _) _) h3 h2
  have hLA : L < (w.alloc (.cells #[.string (bs s)] 9)).heap.size := by simp; omega
  go_wp2_with (at_builtin; refine wpList_append_lies _ rfl _ _ 25 rfl (L + 1) 9 i0 (.string ByteArray.empty) 1 16 Tryd.underlying25 hi0 hz0 hz2 hz3 rfl (by decide) sl ws.length _ rfl (hown.alloc _) ⟨w.heap.size, 0, none⟩ 1 1 [.string (bs s)] rfl rfl (World.news_of_block (cs := #[.string (bs s)]) (t := 9) (fr := (0, 0)) (heap_alloc_new w _)) (by simp [Value.oneCell']) (by omega) (by unfold maxLen; omega) (by omega) (by simp; omega) (w.heap.size + 1) (by simp) ?_; intro g cap w1 hown1 hgrow hat hlt1; have x1 := hgrow.cell h1a (Ne.symm nL); have x2 := (hgrow.frozen_far ⟨L, 0, none⟩ hLA (Ne.symm nL)).trans thA)
  have hb1 : Below L w w1 := hbn.grown hgrow (by simp; omega) (fun k hk => by have := (hown.lt k hk).1; omega)
  have hs1 : L < w1.heap.size := Nat.lt_of_lt_of_le hLA hgrow.size
  go_ret
  refine ⟨rfl, ⟨_, World.cell?_setCell_same _ _ _ x1, by rw [World.frozen?_setCell]; exact x2, by simpa using hs1, ?_⟩, hb1.setCell (Nat.le_refl _) _⟩
  have := ownsRow_setCell_below hown1 (a := ⟨L, 0, none⟩) (by show L < L + 1; omega) (.slice (some ⟨g, 0, none⟩) (ws.length + 1) cap)
  simpa using this

set_option maxHeartbeats 3200000 in
set_option maxRecDepth 20000 in
theorem each_list (w0 : World) (T : Tab w0) (L : Nat) (hL : w0.heap.size ≤ L) (v : Value) (b : List Int) (ls : List (List UInt8)) (w : World) (hw : Below w0.heap.size w0 w) (hB : BytesAt w0 v b) (h : Lists b ls) (hS : St L w []) (hm : ls.length ≤ 100000) (hbm : b.length ≤ maxLen) :
    Calls Tryd.prog 8 #[v, .func (.func 9) #[] #[.pointer (some ⟨L, 0, none⟩)]] w fun e w' => e = .returned (.bool true) ∧ Below w0.heap.size w0 w' ∧ St L w' ls := by
  obtain ⟨p, cap, rfl, _⟩ := id hB
  go_enter Tryd.func8, Tryd.ntmps8
  go_wp2
  go_loopw [0] (fun s wr => ∃ (rest : List Int) (dn td : List (List UInt8)), dn ++ td = ls ∧ Lists rest td ∧ BytesAt w0 s rest ∧ Below w0.heap.size w0 wr ∧ St L wr dn ∧ rest.length ≤ maxLen) (fun s _ => sliceLen s)
  case atStart => exact ⟨b, [], ls, rfl, h, hB, hw, hS, hbm⟩
  case round =>
    obtain ⟨rest, dn, td, hsp, hLs, hBr, hbw, hSt, hrm⟩ := hrel
    obtain ⟨p', cap', rfl, hcap', hC'⟩ := id hBr
    cases hLs with
    | nil =>
      go_wp2
      go_ret
      refine ⟨rfl, hbw, ?_⟩
      rw [List.append_nil] at hsp
      rw [← hsp]
      exact hSt
    | @cons _ td' hne hf hLs' =>
      obtain ⟨g, o, rfl, hC2⟩ := hC' hne
      clear hC' hC2
      have F := line_any _ rest wr (T.later hbw) (hBr.later hbw) hne hf
      obtain ⟨m1, m2⟩ := line_size hne hf
      have hpos : (0 : Int) < (rest.length : Int) := by omega
      have hBd := bytes_drop' (lineP rest).2 hBr m2
      generalize (lineP rest).2 = m at *
      generalize (lineP rest).1 = s at *
      have hmI : (m : Int) ≤ (rest.length : Int) := by omega
      have hm0 : (0 : Int) ≤ (m : Int) := by omega
      have hdn : dn.length ≤ 100000 := by rw [← hsp] at hm; simp at hm; omega
      go_wp2_with fail
      refine F.mono ?_
      rintro e wa ⟨rfl, hba⟩
      have P := put_list L dn s wa (hSt.later hba) hdn
      have hbwa := hbw.trans (hba.mono hbw.size)
      clear F
      go_wp2_with fail
      refine P.mono ?_
      rintro e wb ⟨rfl, hSb, hbb⟩
      have hbwb := hbwa.trans (hbb.mono hL)
      clear P hSt hba hbw hbwa hbb hBr
      go_wp2
      go_roundw
      case rel => exact ⟨rest.drop m, dn ++ [s], td', by rw [← hsp]; simp, hLs', hBd, hbwb, hSb, by simp; omega⟩
      case measure => simp [sliceLen]; omega

set_option maxHeartbeats 1600000 in
set_option maxRecDepth 20000 in
theorem list_any (v : Value) (b : List Int) (ls : List (List UInt8)) (w : World) (T : Tab w) (hB : BytesAt w v b) (h : Lists b ls) (hm : ls.length ≤ 100000) (hbm : b.length ≤ maxLen) :
    Calls Tryd.prog 6 #[v] w fun e w' => ∃ sl, e = .returned sl ∧ Below w.heap.size w w' ∧ w'.ownsRow (w.heap.size + 1) 9 1 sl ls.length (ls.map fun l => Value.string (bs l)) := by
  have ha : Below w.heap.size w (w.alloc (.cells #[.slice none 0 0] 25)) := (Below.refl _ _).alloc (Nat.le_refl _) _
  have c0 := new_cell (w := w) (t := 25) #[.slice none 0 0] 0 (.slice none 0 0) rfl
  have f0 := new_thawed (w := w) (t := 25) #[.slice none 0 0] 0
  have E := each_list w T w.heap.size (Nat.le_refl _) v b ls _ ha hB h ⟨_, c0, f0, by simp, by simp, .inl ⟨rfl, rfl⟩⟩ hm hbm
  obtain ⟨p, cap, rfl, _⟩ := id hB
  go_enter Tryd.func6, Tryd.ntmps6
  go_wp2_with fail
  refine E.mono ?_
  rintro e w1 ⟨rfl, hb1, sl, x1, x2, x3, x4⟩
  clear E c0 f0 ha
  go_wp2
  go_ret
  exact ⟨_, rfl, hb1, x4⟩
end Go.Proofs.YtagplfochalidabDoor
