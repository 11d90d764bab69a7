/- DisData's walk. -/
import Derived.Test.YtagplfochalidabDoorKnown6
import Derived.Laws.OwnMore
namespace Go.Proofs.YtagplfochalidabDoor
open Go.ChangeShapes Go.WideShapes Go.ChangeAt Go.RowKit
open Plain
set_option linter.unusedVariables false
set_option linter.unusedSimpArgs false

def halfFF : List UInt8 := [46, 104, 97, 108, 102, 32, 54, 53, 53, 51, 53]
def byte3 : List UInt8 := [46, 98, 121, 116, 101, 32, 51]

theorem decFF (r : List Int) : decodeP (255 :: 255 :: r) = none := by
  have hl : leadP (255 :: 255 :: r) = (65535, 2, true) := by simp [leadP, isLong]
  have hf : firstP 2 65535 66 0 = none := by decide +kernel
  unfold decodeP
  rw [hl]
  simp [hf]

theorem listsFF {t : List Int} {tl : List (List UInt8)} (h : Lists t tl) (ht : AreBytes t) : ∀ k : Nat, Lists (List.replicate (2 * k) 255 ++ t) (List.replicate k halfFF ++ tl)
  | 0 => by simpa using h
  | k + 1 => by
    have ih := listsFF h ht k
    have e : List.replicate (2 * (k + 1)) (255 : Int) ++ t = 255 :: 255 :: (List.replicate (2 * k) 255 ++ t) := by
      rw [show 2 * (k + 1) = 2 * k + 1 + 1 by omega, List.replicate_succ, List.replicate_succ]; rfl
    have el : List.replicate (k + 1) halfFF ++ tl = halfFF :: (List.replicate k halfFF ++ tl) := by rw [List.replicate_succ]; rfl
    rw [e, el]
    have hb : AreBytes (List.replicate (2 * k) 255 ++ t) := by
      intro x hx
      rcases List.mem_append.1 hx with hx | hx
      · have := List.eq_of_mem_replicate hx; omega
      · exact ht x hx
    have hL : lineP (255 :: 255 :: (List.replicate (2 * k) 255 ++ t)) = (halfFF, 2) := by
      unfold lineP
      rw [decFF]
      simp only
      rw [show (255 : Int) * 256 + 255 = 65535 from rfl, itoa65535]
      rfl
    have := Lists.cons (b := 255 :: 255 :: (List.replicate (2 * k) 255 ++ t)) (ls := List.replicate k halfFF ++ tl) (by simp)
      ⟨fun x hx => by
        simp only [List.mem_cons] at hx
        rcases hx with rfl | rfl | hx
        · omega
        · omega
        · exact hb x hx, by simp [leadP, isLong], .inl (decFF _)⟩ (by rw [hL]; exact ih)
    rw [hL] at this
    exact this

/-- So many cells are set. -/
def XS (m j : Nat) : List Value := List.replicate j (.int .u8 255) ++ List.replicate (m - j) (.int .u8 0)

theorem XS_step {m j : Nat} (h : j < m) : (XS m j).set j (.int .u8 255) = XS m (j + 1) := by
  unfold XS
  rw [List.set_append_right _ _ (by simp)]
  simp only [List.length_replicate, Nat.sub_self]
  rw [show m - j = (m - (j + 1)) + 1 by omega, List.replicate_succ, List.set_cons_zero, List.replicate_succ']
  simp

theorem XS_get {m j : Nat} (h : j < m) : (XS m j)[j]? = some (.int .u8 0) := by
  unfold XS
  rw [List.getElem?_append_right (by simp), List.length_replicate, Nat.sub_self, show m - j = (m - j - 1) + 1 by omega, List.replicate_succ]
  rfl

theorem XS_all (m : Nat) : XS m m = (List.replicate m (255 : Int)).map fun x => Value.int .u8 x := by simp [XS]

/-- What a row of texts holds, also one of none. -/
theorem texts_any {base : Nat} {w : World} {v : Value} {ls : List (List UInt8)} (h : w.ownsRow base 9 1 v ls.length (ls.map fun l => Value.string (bs l))) :
    ∃ p cap, v = .slice p ls.length cap ∧ ∀ i l, ls[i]? = some l → ∃ g, p = some ⟨g, 0, none⟩ ∧ w.cell? ⟨g, i, none⟩ = some (.string (bs l)) := by
  by_cases hn : ls = []
  · subst hn
    rcases id h.2 with ⟨rfl, _⟩ | ⟨g, cap, cur, rfl, _⟩
    · exact ⟨none, 0, rfl, fun i l hl => by simp at hl⟩
    · exact ⟨_, _, rfl, fun i l hl => by simp at hl⟩
  · obtain ⟨g, cap, rfl, hc⟩ := texts_cells h hn
    exact ⟨_, cap, rfl, fun i l hl => ⟨g, rfl, hc i l hl⟩⟩

theorem bytes_row {w : World} {base g n cap : Nat} {B : List Int} (hn : B.length = n) (h : w.ownsRow base 5 1 (.slice (some ⟨g, 0, none⟩) n cap) n (B.map fun x => Value.int .u8 x)) : BytesAt w (.slice (some ⟨g, 0, none⟩) n cap) B := by
  subst hn
  have hc : B.length ≤ cap := by
    rcases h.2 with ⟨h, _⟩ | ⟨_, _, _, h, _, _, hc, _⟩
    · cases h
    · cases h; exact hc
  refine ⟨_, cap, rfl, hc, fun _ => ⟨g, 0, rfl, fun i x hx => ?_⟩⟩
  rw [Nat.zero_add, h.cellAt i (by have := (List.getElem?_eq_some_iff.1 hx).1; omega)]
  simp [hx]

set_option maxHeartbeats 6400000 in
set_option maxRecDepth 20000 in
theorem walk (a0 : Int) (a1 : Bool) (w : World) (T : Tab w) :
    Calls Tryd.prog 3 #[.int .i64 a0, .bool a1] w fun e w' => e = .returned (.bool true) ∧ Below w.heap.size w w' := by
  have K0 := known_true w T
  have Wi := fun W => within_any a0 40 (by omega) (by omega) W
  obtain ⟨kk, hk⟩ : ∃ kk : Nat, a0 % 40 = (kk : Int) := Int.eq_ofNat_of_zero_le (Int.emod_nonneg _ (by omega))
  have hk40 : (kk : Int) < 40 := by omega
  rw [hk] at Wi
  clear hk
  obtain ⟨i0, hi0, hz0, hz2, hz3⟩ := info_parts info_u8
  go_enter Tryd.func3, Tryd.ntmps3
  go_wp2_with fail
  refine K0.mono ?_
  rintro e w1 ⟨rfl, hb1⟩
  clear K0
  obtain ⟨w2, M, hown, hgr⟩ := run_makeSlice_full (P := Tryd.prog) w1 w1.heap.size 24 5 i0 (.int .u8 0) 1 Tryd.underlying24 hi0 hz0 hz2 .i64 .i64 (2 * kk) (by omega) (by rw [hz3]; omega) (by unfold maxLen; omega) (Nat.le_refl _)
  rw [show ((2 * kk : Nat) : Int) = 2 * (kk : Int) by omega] at M
  have hb2 : Below w.heap.size w w2 := hb1.trans ⟨hgr.os, hgr.tape, hgr.output, hgr.size, fun k hk => hgr.block k (Nat.lt_of_lt_of_le hk hb1.size) (by simp)⟩
  have hown0 : w2.ownsRow w1.heap.size 5 1 (.slice (some ⟨w1.heap.size, 0, none⟩) (2 * kk) (2 * kk)) (2 * kk) (XS (2 * kk) 0) := by
    have e : (madeCells (Value.int .u8 0).cells (2 * kk * 1)).toList = XS (2 * kk) 0 := by
      rw [show (Value.int .u8 0).cells = #[Value.int .u8 0] from rfl, toList_madeCells_one]
      simp [XS]
    rw [e] at hown
    exact hown
  clear hown hgr
  go_wp2_with (go_at_call 5; refine (Wi _).mono ?_; rintro e w' ⟨rfl, rfl⟩)
  generalize hg : w1.heap.size = g at *
  have hgw : w.heap.size ≤ g := by rw [← hg]; exact hb1.size
  clear M Wi hb1 hg
  go_loopw [7] (fun i wr => ∃ j : Nat, j ≤ 2 * kk ∧ i = .int .i64 j ∧ Below w.heap.size w wr ∧ g < wr.heap.size ∧ wr.ownsRow g 5 1 (.slice (some ⟨g, 0, none⟩) (2 * kk) (2 * kk)) (2 * kk) (XS (2 * kk) j)) (fun i _ => 2 * kk - (intOf i).toNat)
  case atStart => exact ⟨0, by omega, rfl, hb2, (hown0.lt g rfl).2, hown0⟩
  case round =>
    clear hown0 hb2
    obtain ⟨j, hj, rfl, hbr, hgs, hown⟩ := hrel
    by_cases hjn : j < 2 * kk
    · have hjI : (j : Int) < 2 * (kk : Int) := by omega
      have hjI2 : (j : Int) < ((2 * kk : Nat) : Int) := by omega
      have c0 := hown.cellAt j (by omega)
      rw [XS_get hjn] at c0
      have f0 := hown.frozenAt j
      obtain ⟨hs, _⟩ := hown.stored j (.int .u8 255)
      rw [XS_step hjn] at hs
      clear hown
      go_wp2
      go_roundw
      case rel => exact ⟨j + 1, by omega, by go_num, hbr.setCell hgw _, by simpa using hgs, hs⟩
      case measure => simp [intOf]; omega
    · have hjn : 2 * kk = j := by omega
      subst hjn
      have hjI : ¬ ((2 * kk : Nat) : Int) < 2 * (kk : Int) := by omega
      have hBr := bytes_row (n := 2 * kk) (g := g) (cap := 2 * kk) (base := g) (w := wr) (B := List.replicate (2 * kk) 255) List.length_replicate (by rw [← XS_all]; exact hown)
      have hgb : g ≤ wr.heap.size := Nat.le_of_lt hgs
      cases a1 with
      | false =>
        have L0 := listsFF Lists.nil (fun x hx => by simp at hx) kk
        rw [List.append_nil, List.append_nil] at L0
        have E := list_any _ (List.replicate (2 * kk) 255) (List.replicate kk halfFF) wr (T.later hbr) hBr L0 (by simp; omega) (by simp; unfold maxLen; omega)
        clear hown
        go_wp2_with fail
        refine E.mono ?_
        rintro e w3 ⟨sl, rfl, hb3, hr3⟩
        obtain ⟨p, cp, rfl, hc⟩ := texts_any hr3
        rw [List.length_replicate]
        replace hc : Hid (∀ i : Nat, i < kk → ∃ g, p = some ⟨g, 0, none⟩ ∧ w3.cell? ⟨g, i, none⟩ = some (.string (bs halfFF))) := fun i hi => hc i halfFF (by rw [List.getElem?_replicate, if_pos hi])
        have hbw := hbr.trans (hb3.mono hbr.size)
        clear E hr3 hb3 hBr L0 hbr
        have qq : ((bs halfFF).toList == [46, 104, 97, 108, 102, 32, 54, 53, 53, 51, 53]) = true := by rw [ByteArray.toList_eq]; rfl
        have qn : ((bs halfFF).toList != [46, 104, 97, 108, 102, 32, 54, 53, 53, 51, 53]) = false := by rw [ByteArray.toList_eq]; rfl
        go_wp2
        go_loopw [9] (fun i wr => ∃ j : Nat, j ≤ kk ∧ i = .int .i64 j ∧ w3 = wr) (fun i _ => kk - (intOf i).toNat)
        case atStart => exact ⟨0, by omega, rfl, rfl⟩
        case round =>
          obtain ⟨j, hj, rfl, rfl⟩ := hrel
          by_cases hjn : j < kk
          · obtain ⟨gg, rfl, cc⟩ := hc.out j hjn
            have hjI : (j : Int) < (kk : Int) := by omega
            have hjD : decide ((kk : Int) ≤ (j : Int)) = false := by simp; omega
            go_wp2
            go_roundw
            case rel => exact ⟨j + 1, by omega, by go_num, by trivial⟩
            case measure => simp [intOf]; omega
          · have hjn : kk = j := by omega
            subst hjn
            go_wp2
            go_ret
            exact ⟨rfl, hbw⟩
      | true =>
        have hownA := hown.alloc (.cells #[.int .u8 3] 5)
        have hnews := World.news_of_block (cs := #[.int .u8 3]) (t := 5) (fr := (0, 0)) (heap_alloc_new wr (.cells #[.int .u8 3] 5))
        have hbA : Below w.heap.size w (wr.alloc (.cells #[.int .u8 3] 5)) := hbr.alloc hbr.size _
        have hsA : g ≤ (wr.alloc (.cells #[.int .u8 3] 5)).heap.size := by simp; omega
        have h3 : Lists [3] [byte3] := by
          have := Lists.cons (b := [3]) (ls := []) (by simp) (fine1 3 (by omega) (by omega)) (by rw [line1]; exact Lists.nil)
          rw [line1, itoa3] at this
          exact this
        have L0 := listsFF h3 (fun x hx => by simp at hx; omega) kk
        go_wp2_with (at_builtin; refine wpList_append_lies _ rfl _ _ 24 rfl g 5 i0 (.int .u8 0) 1 1 Tryd.underlying24 hi0 hz0 hz2 hz3 rfl (by decide) (.slice (some ⟨g, 0, none⟩) (2 * kk) (2 * kk)) (2 * kk) _ rfl hownA ⟨wr.heap.size, 0, none⟩ 1 1 [.int .u8 3] rfl rfl hnews (by simp [Value.oneCell']) (by omega) (by unfold maxLen; omega) (by omega) hsA _ rfl ?_; intro g5 cap5 w5 hown5 hgrow hat hlt)
        have hb5 : Below w.heap.size w w5 := hbA.grown hgrow (Nat.le_trans hgw hsA) (fun k hk => Nat.le_trans hgw (hownA.lt k hk).1)
        have hB5 : BytesAt w5 (.slice (some ⟨g5, 0, none⟩) (2 * kk + 1) cap5) (List.replicate (2 * kk) 255 ++ [3]) := bytes_row (base := g) (by simp) (by
          rw [List.map_append, ← XS_all]
          exact hown5)
        have E := list_any _ (List.replicate (2 * kk) 255 ++ [3]) (List.replicate kk halfFF ++ [byte3]) w5 (T.later hb5) hB5 L0 (by simp; omega) (by simp; unfold maxLen; omega)
        clear hown5 hgrow hat hownA hnews hbA hsA hown
        refine E.mono ?_
        rintro e w3 ⟨sl, rfl, hb3, hr3⟩
        obtain ⟨p, cp, rfl, hc⟩ := texts_any hr3
        obtain ⟨gg, rfl, c3⟩ := hc kk byte3 (by rw [List.getElem?_append_right (by simp)]; simp)
        replace hc : Hid (∀ i : Nat, i < kk → w3.cell? ⟨gg, i, none⟩ = some (.string (bs halfFF))) := fun i hi => by
          obtain ⟨g', e, h⟩ := hc i halfFF (by rw [List.getElem?_append_left (by simpa using hi), List.getElem?_replicate, if_pos hi])
          cases e
          exact h
        rw [show (List.replicate kk halfFF ++ [byte3]).length = kk + 1 by simp]
        have hbw := hb5.trans (hb3.mono hb5.size)
        clear E hr3 hb3 hBr L0 hbr hb5 hB5
        have qq : ((bs halfFF).toList == [46, 104, 97, 108, 102, 32, 54, 53, 53, 51, 53]) = true := by rw [ByteArray.toList_eq]; rfl
        have qn : ((bs halfFF).toList != [46, 104, 97, 108, 102, 32, 54, 53, 53, 51, 53]) = false := by rw [ByteArray.toList_eq]; rfl
        have q3 : ((bs byte3).toList == [46, 98, 121, 116, 101, 32, 51]) = true := by rw [ByteArray.toList_eq]; rfl
        go_wp2
        go_loopw [9] (fun i wr => ∃ j : Nat, j ≤ kk ∧ i = .int .i64 j ∧ w3 = wr) (fun i _ => kk - (intOf i).toNat)
        case atStart => exact ⟨0, by omega, rfl, rfl⟩
        case round =>
          obtain ⟨j, hj, rfl, rfl⟩ := hrel
          by_cases hjn : j < kk
          · have cc := hc.out j hjn
            have hjI : (j : Int) < (kk : Int) := by omega
            have hjD : decide ((kk : Int) + 1 ≤ (j : Int)) = false := by simp; omega
            have hjJ : (j : Int) < (kk : Int) + 1 := by omega
            go_wp2
            go_roundw
            case rel => exact ⟨j + 1, by omega, by go_num, by trivial⟩
            case measure => simp [intOf]; omega
          · have hjn : kk = j := by omega
            subst hjn
            have hkJ : (kk : Int) < (kk : Int) + 1 := by omega
            go_wp2
            go_ret
            exact ⟨by simp [q3], hbw⟩
end Go.Proofs.YtagplfochalidabDoor
