/- The contracts of strings.Cut at a line's end, Clone, WriteByte; of txn's Join and Parts. -/
import Derived.Test.YtlncljfljjaacaaGreatDoorExD
import Derived.Deep.AppendLies
import Derived.Deep.Draws
import Derived.BigRegion
namespace Go.Proofs.YtlncljfljjaacaaGreatDoor.E
open Go.ChangeShapes Go.WideShapes Go.ChangeAt Go.RowKit
set_option linter.unusedVariables false
set_option linter.unusedSimpArgs false

theorem bs_head (s : Bs) (o : Nat) : (bs s).extract 0 o = bs (s.take o) := by
  apply ByteArray.ext
  simp [bs, ByteArray.extract, ByteArray.copySlice]

set_option maxHeartbeats 1600000 in
set_option maxRecDepth 20000 in
theorem scut_any (s : Bs) (hl : s.length ≤ 35184372088832) (w : World) :
    Calls Tryz.prog 27 #[.string (bs s), .string ⟨#[10]⟩] w fun e w' => e = .returned (.tuple #[.string (bs (cutB s).1), .string (bs (cutB s).2.1), .bool (cutB s).2.2]) ∧ ∃ n, w' = w.drewN n := by
  have hsz := bs_size s
  have I := Tryz.stringslite_Index_one (bs s) 10 w
  rw [bs_list] at I
  rcases cut_cases s with ⟨h1, h2, _⟩ | ⟨o, h1, h2, h3, _⟩
  · rw [h1]
    rw [h2] at I
    go_enter Tryz.func27, Tryz.ntmps27
    go_wp2_with (go_at_call 37; refine I.mono ?_; rintro e w' ⟨rfl, rfl⟩)
    go_ret3
    exact ⟨rfl, 0, rfl⟩
  · rw [h3]
    rw [h1] at I
    have c1 : (0 : Int) ≤ ↑o := by omega
    have c2 : (↑o : Int) ≤ ↑(bs s).size := by omega
    have c3 : (0 : Int) ≤ ↑o + 1 := by omega
    have c4 : (↑o + 1 : Int) ≤ ↑(bs s).size := by omega
    have x1 := bs_head s o
    have x2 := bs_extract s (o + 1)
    go_enter Tryz.func27, Tryz.ntmps27
    go_wp2_with (go_at_call 37; refine I.mono ?_; rintro e w' ⟨rfl, rfl⟩)
    go_region
    go_wp2
    go_ret3
    exact ⟨rfl, 1, rfl⟩

set_option maxHeartbeats 800000 in
theorem cut_any (s : Bs) (hl : s.length ≤ 35184372088832) (w : World) :
    Calls Tryz.prog 21 #[.string (bs s), .string ⟨#[10]⟩] w fun e w' => e = .returned (.tuple #[.string (bs (cutB s).1), .string (bs (cutB s).2.1), .bool (cutB s).2.2]) ∧ ∃ n, w' = w.drewN n := by
  have C := scut_any s hl w
  go_enter Tryz.func21, Tryz.ntmps21
  go_wp2_with (go_at_call 27; refine C.mono ?_; rintro e w' ⟨rfl, n, rfl⟩)
  go_ret3
  exact ⟨rfl, n, rfl⟩

theorem clone_any (s : Bs) (hs : s.length ≤ 35184372088832) (w : World) : Calls Tryz.prog 22 #[.string (bs s)] w fun e w' => e = .returned (.string (bs s)) ∧ Below w.heap.size w w' := by
  have C : Calls Tryz.prog 28 #[.string (bs s)] w fun e w' => e = .returned (.string (bs s)) ∧ Below w.heap.size w w' := Tryz.stringslite_Clone (bs s) w (by rw [bs_size]; omega)
  clear hs
  go_enter Tryz.func22, Tryz.ntmps22
  go_wp2_with fail
  refine C.mono ?_
  rintro e w2 ⟨rfl, hb⟩
  go_wp2_with fail
  go_ret
  exact ⟨rfl, hb⟩

theorem grown_of_below {w w' : World} (h : Below w.heap.size w w') (row : Option Nat) : w.grownBy w' row := ⟨h.os, h.tape, h.output, h.size, fun k hk _ => h.block k hk⟩

theorem owns_of_block' {w w' : World} {base : Nat} {e : TypeId} {size : Nat} {v : Value} {n : Nat} {xs : List Value} (h : w.ownsRow base e size v n xs) (hb : ∀ g, v.ownBlock = some g → w'.heap[g]? = w.heap[g]?) : w'.ownsRow base e size v n xs := by
  obtain ⟨h1, h2⟩ := h
  refine ⟨h1, ?_⟩
  rcases h2 with h2 | ⟨g, cap, cur, e1, e2, e3, r⟩
  · exact .inl h2
  · exact .inr ⟨g, cap, cur, e1, e2, (hb g (by rw [e1]; rfl)).trans e3, r⟩

/-- A slice of texts. -/
def StrsAt (w : World) (v : Value) (l : List Bs) : Prop :=
  ∃ p cap, v = .slice p l.length cap ∧ (l ≠ [] → ∃ g o, p = some ⟨g, o, none⟩ ∧ ∀ (i : Nat) s, l[i]? = some s → w.cell? ⟨g, o + i, none⟩ = some (.string (bs s)))
theorem StrsAt.later {w w' : World} {v : Value} {l : List Bs} (h : StrsAt w v l) (hb : Below w.heap.size w w') : StrsAt w' v l := by
  obtain ⟨p, cap, rfl, h⟩ := h
  refine ⟨p, cap, rfl, fun hn => ?_⟩
  obtain ⟨g, o, e, h2⟩ := h hn
  exact ⟨g, o, e, fun i s hs => kept_cell hb (h2 i s hs)⟩

def strs (l : List Bs) : List Value := l.map fun s => .string (bs s)

theorem strs_of_own {w : World} {base : Nat} {t : TypeId} {v : Value} {l : List Bs} (h : w.ownsRow base t 1 v l.length (strs l)) : StrsAt w v l := by
  rcases h.2 with ⟨rfl, h0⟩ | ⟨g, cap, cur, rfl, _, hb, hc, _, _, htk⟩
  · exact ⟨none, 0, by rw [h0], fun hn => absurd (List.length_eq_zero_iff.1 h0) hn⟩
  · refine ⟨_, _, rfl, fun hn => ⟨g, 0, rfl, fun i u hu => ?_⟩⟩
    rw [Nat.zero_add, World.cell?]
    have hu' : cur[i]? = some (.string (bs u)) := by
      have hi : i < l.length := (List.getElem?_eq_some_iff.1 hu).1
      have := congrArg (·[i]?) htk
      simp only [strs, List.getElem?_take, List.getElem?_map, hu, Option.map_some] at this
      rw [if_pos (by omega)] at this
      simpa using this
    simp [hb, hu']

theorem info_str : (Tryz.prog.info? 9).map (fun i => (i.zero, i.size, i.bytes)) = some (some (.string ⟨#[]⟩), 1, 16) := by kernel_rfl

def sizeOf' : Value → Nat
  | .string s => s.size
  | _ => 0

set_option maxHeartbeats 3200000 in
set_option maxRecDepth 20000 in
theorem parts_any (s : Bs) (hl : s.length ≤ 1000000) (w : World) :
    Calls Tryz.prog 9 #[.string (bs s)] w fun e w' => ∃ v, e = .returned v ∧ Below w.heap.size w w' ∧ w'.ownsRow w.heap.size 9 1 v (partsP s).length (strs (partsP s)) := by
  obtain ⟨i0, hi0, hz0, hz2, hz3⟩ := info_parts info_str
  go_enter Tryz.func9, Tryz.ntmps9
  go_wp2_with fail
  go_loopw [0, 3] (fun sv lv wr => ∃ (rest : Bs) (acc : List Bs), sv = .string (bs rest) ∧ Hid (acc ++ partsP rest = partsP s) ∧ rest.length + acc.length ≤ s.length ∧ Below w.heap.size w wr ∧ wr.ownsRow w.heap.size 9 1 lv acc.length (strs acc)) (fun sv _ _ => sizeOf' sv)
  case atStart => exact ⟨s, [], rfl, rfl, by simp, Below.refl _ _, ⟨rfl, .inl ⟨rfl, rfl⟩⟩⟩
  case round =>
    obtain ⟨rest, acc, rfl, hI, hlen, hb, hown⟩ := hrel
    have C := cut_any rest (by omega) wr
    obtain ⟨pp, cp, rfl⟩ := row_slice hown
    rcases cut_cases rest with ⟨h1, h2, h3⟩ | ⟨o, h1, h2, h3, h4⟩
    · rw [h1] at C
      have hI' : Hid (acc = partsP s) := by have := hI.out; rw [h3, List.append_nil] at this; exact this
      clear hI h1 h2 h3
      go_wp2_with (go_at_call 21; refine C.mono ?_; rintro e w1 ⟨rfl, n, rfl⟩)
      go_ret
      have hb' := hb.trans (below_drewN wr n |>.mono hb.size)
      rw [← hI'.out]
      exact ⟨_, rfl, hb', hown.kept (grown_of_below (below_drewN wr n) none) (by cases hq : Value.ownBlock (.slice pp acc.length cp) <;> simp)⟩
    · rw [h3] at C
      have hI' : Hid ((acc ++ [rest.take o]) ++ partsP (rest.drop (o + 1)) = partsP s) := by have := hI.out; rw [h4] at this; show (acc ++ [rest.take o]) ++ partsP (rest.drop (o + 1)) = partsP s; rw [← this]; simp
      have hl2 : (rest.drop (o + 1)).length = rest.length - (o + 1) := by simp
      have hl3 : (rest.take o).length ≤ rest.length := List.Sublist.length_le (List.take_sublist _ _)
      have hsz : sizeOf' (.string (bs (rest.drop (o + 1)))) = rest.length - (o + 1) := by simp [sizeOf', bs_size]
      have hsz0 : sizeOf' (.string (bs rest)) = rest.length := by simp [sizeOf', bs_size]
      clear hI h1 h3 h4
      generalize rest.take o = a at *
      generalize rest.drop (o + 1) = r at *
      go_wp2_with (go_at_call 21; refine C.mono ?_; rintro e w1 ⟨rfl, n, rfl⟩)
      have K := clone_any a (by omega) (wr.drewN n)
      refine K.mono ?_
      rintro e w2 ⟨rfl, hb2⟩
      have hb2' := (below_drewN wr n).trans (hb2.mono (Nat.le_refl _))
      have hown2 := hown.kept (grown_of_below hb2' none) (by cases hq : Value.ownBlock (.slice pp acc.length cp) <;> simp)
      have hbw2 := hb.trans (hb2'.mono hb.size)
      have hsz2 := hbw2.size
      clear K C hb hb2 hb2' hown
      go_wp2_with (at_builtin; refine wpList_append_lies _ rfl _ _ 24 rfl w.heap.size 9 i0 (.string ⟨#[]⟩) 1 16 Tryz.underlying24 hi0 hz0 hz2 hz3 rfl (by decide) _ acc.length (strs acc) rfl (hown2.alloc _) ⟨w2.heap.size, 0, none⟩ 1 1 [.string (bs a)] rfl rfl (World.news_of_block (cs := #[.string (bs a)]) (t := 9) (fr := (0, 0)) (heap_alloc_new w2 _)) (by simp [Value.oneCell']) (by omega) (by unfold maxLen; omega) (by omega) (by simp; omega) (w2.heap.size + 1) (by simp) ?_; intro g cap w3 hown3 hgrow hat hlt3)
      have hb3 : Below w.heap.size w w3 := (hbw2.alloc hsz2 _).grown hgrow (by simp; omega) (fun k hk => (hown2.lt k hk).1)
      go_roundw
      case rel => exact ⟨r, acc ++ [a], rfl, hI', by simp; omega, hb3, by simpa [strs] using hown3⟩
      case measure => rw [hsz, hsz0]; omega
end Go.Proofs.YtlncljfljjaacaaGreatDoor.E
