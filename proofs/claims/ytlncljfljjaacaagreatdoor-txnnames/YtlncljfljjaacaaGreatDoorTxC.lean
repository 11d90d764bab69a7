/- A try: names that are there; what is looked for behind them. -/
import Derived.Test.YtlncljfljjaacaaGreatDoorTxB
namespace Go.Proofs.YtlncljfljjaacaaGreatDoor
open Go.ChangeShapes Go.WideShapes Go.ChangeAt Go.RowKit
set_option linter.unusedVariables false
set_option linter.unusedSimpArgs false

set_option maxHeartbeats 1600000 in
set_option maxRecDepth 20000 in
theorem index_any (l : List E.Bs) (hl : l.length ≤ 1000000) (s : E.Bs) (v : Value) (w : World) (h : E.StrsAt w v l) :
    Calls Tryz.prog 120 #[v, .string (E.bs s)] w fun e w' => (∃ z : Int, e = .returned (.int .i64 z) ∧ decide (0 ≤ z) = decide (s ∈ l)) ∧ w' = w := by
  obtain ⟨p, cap, rfl, hc⟩ := h
  go_enter Tryz.func120, Tryz.ntmps120
  go_wp2_with fail
  go_loopw [8] (fun i wr => ∃ j : Nat, j ≤ l.length ∧ i = .int .i64 j ∧ wr = w ∧ Hid ((l.take j).contains s = false)) (fun i _ => l.length - (intOf i).toNat)
  case atStart => exact ⟨0, by omega, rfl, rfl, by simp [Hid]⟩
  case round =>
    obtain ⟨j, hj, rfl, rfl, hI⟩ := hrel
    by_cases hjn : j < l.length
    · obtain ⟨t, ht⟩ : ∃ t, l[j]? = some t := ⟨_, List.getElem?_eq_getElem hjn⟩
      obtain ⟨g, o, rfl, hcc⟩ := hc (by rintro rfl; simp at hjn)
      have cz := hcc j t ht
      have hjI : (j : Int) < (l.length : Int) := by omega
      by_cases hts : t = s
      · subst hts
        have hin : Hid (l.contains t = true) := by show l.contains t = true; simp; exact List.mem_of_getElem? ht
        have e1 : ((E.bs t).toList == (E.bs t).toList) = true := by simp
        clear hc hcc hI ht
        go_wp2_with fail
        go_ret
        exact ⟨⟨_, rfl, by have := hin.out; simp at this; simp [this]⟩, rfl⟩
      · have e1 : ((E.bs s).toList == (E.bs t).toList) = false := by simp only [ByteArray.toList_eq, E.bs_list]; simpa using fun e => hts e.symm
        have HS : Hid ((l.take (j + 1)).contains s = false) := by
          have := hI.out
          rw [Hid, List.take_add_one, ht]
          simp at this ⊢
          exact ⟨this, fun e => hts e.symm⟩
        clear hc hcc hI ht
        go_wp2_with fail
        go_roundw
        case rel => exact ⟨j + 1, by omega, by go_num, trivial, HS⟩
        case measure => simp [intOf]; omega
    · obtain rfl : j = l.length := by omega
      have hjI : ¬ (l.length : Int) < (l.length : Int) := by omega
      have hin : Hid (l.contains s = false) := by have := hI.out; rw [List.take_length] at this; exact this
      clear hc hI
      go_wp2_with fail
      go_ret
      exact ⟨⟨_, rfl, by have := hin.out; simp at this; simp [this]⟩, rfl⟩

set_option maxHeartbeats 800000 in
theorem contains_any (l : List E.Bs) (hl : l.length ≤ 1000000) (s : E.Bs) (v : Value) (w : World) (h : E.StrsAt w v l) :
    Calls Tryz.prog 98 #[v, .string (E.bs s)] w fun e w' => e = .returned (.bool (decide (s ∈ l))) ∧ w' = w := by
  have I := index_any l hl s v w h
  clear h
  go_enter Tryz.func98, Tryz.ntmps98
  go_wp2_with fail
  refine I.mono ?_
  rintro e w1 ⟨⟨z, rfl, hz⟩, rfl⟩
  replace hz : Hid (decide (0 ≤ z) = decide (s ∈ l)) := hz
  clear I
  go_wp2_with fail
  go_ret
  exact ⟨by rw [hz.out]; rfl, rfl⟩

set_option maxHeartbeats 800000 in
theorem isNamed_any (x : Nat) (cs : Array Value) (n : E.Bs) (N : List E.Bs) (nv : Value) (w : World) (X : Blk w x cs 96) (h3 : cs[3]? = some (.string (E.bs n))) (h14 : cs[14]? = some nv) (hN : E.StrsAt w nv N) (hl : N.length ≤ 1000000) :
    Calls Tryz.prog 74 #[.pointer (some ⟨x, 0, none⟩)] w fun e w' => e = .returned (.bool (decide (n ∈ N))) ∧ w' = w.drew := by
  have C := contains_any N hl n nv w.drew (hN.later (E.below_drewN w 1))
  have c3 : w.drew.cell? _ = _ := X.cell h3
  have c14 : w.drew.cell? _ = _ := X.cell h14
  obtain ⟨p, cap, rfl, _⟩ := hN
  have hxl : x < w.drew.heap.size := X.lt
  clear X h3 h14
  go_enter Tryz.func74, Tryz.ntmps74
  go_wp2_with fail
  go_region_with (go_at_call 98; refine C.mono ?_; rintro e w1 ⟨rfl, rfl⟩)
  all_goals go_wp2_with fail
  all_goals go_ret
  all_goals exact ⟨rfl, rfl⟩

theorem row_thruA {w w' : World} {base : Nat} {e : TypeId} {size : Nat} {v : Value} {n : Nat} {xs : List Value} (h : w.ownsRow base e size v n xs) (hb : ∀ g, v.ownBlock = some g → w'.heap[g]? = w.heap[g]?) : w'.ownsRow base e size v n xs := E.owns_of_block' h hb

theorem Blk.size_set {cs : Array Value} {i : Nat} {v : Value} : (cs.setIfInBounds i v).size = cs.size := by simp

set_option maxHeartbeats 1600000 in
set_option maxRecDepth 20000 in
theorem lookText_any (x : Nat) (cs : Array Value) (n : E.Bs) (la : Option Addr) (lc : Nat) (L : List Lk) (w : World) (X : Blk w x cs 96) (h3 : cs[3]? = some (.string (E.bs n))) (h7 : cs[7]? = some (.string ⟨#[102]⟩)) (hc : cs[12]? = some (.slice la L.length lc)) (hr : w.ownsRow 0 113 3 (.slice la L.length lc) L.length (lkCells L)) (hL : L.length ≤ 100000) :
    Calls Tryz.prog 55 #[.pointer (some ⟨x, 0, none⟩)] w fun e w' => e = .returned (.tuple #[]) ∧ ∃ g c, Blk w' x (cs.setIfInBounds 12 (.slice (some ⟨g, 0, none⟩) (L.length + 1) c)) 96 ∧ w'.ownsRow 0 113 3 (.slice (some ⟨g, 0, none⟩) (L.length + 1) c) (L.length + 1) (lkCells (L ++ [⟨[102], n, bndV 81 x⟩])) ∧ (la.map Addr.block = some g ∨ w.heap.size ≤ g) ∧ Only (fun b => b = x ∨ la.map Addr.block = some b) w w' := by
  have K := look_any x cs la lc L [102] n 81 w.drew (X.of_block rfl) hc (row_thru hr (fun _ _ => rfl)) hL
  have c3 : w.drew.cell? _ = _ := X.cell h3
  have c7 : w.drew.cell? _ = _ := X.cell h7
  have hxl : x < w.drew.heap.size := X.lt
  have hmf := E.hmf
  rw [show E.bs [102] = (⟨#[102]⟩ : ByteArray) from rfl] at K
  unfold bndV at *
  replace K := K.mono (fun e w' h => (show e = .returned (.tuple #[]) ∧ Hid _ from h))
  clear X h3 h7 hc hr
  go_enter Tryz.func55, Tryz.ntmps55
  go_wp2_with fail
  go_region_with (go_at_call 70; refine K.mono ?_; rintro e w1 ⟨rfl, H⟩)
  all_goals go_wp2_with fail
  all_goals go_end0
  all_goals
    obtain ⟨g, c, h1, h2, h3, h4⟩ := H.out
    exact ⟨rfl, g, c, h1, h2, h3, ⟨h4.os, h4.tape, h4.output, h4.size, h4.block⟩⟩

set_option maxHeartbeats 1600000 in
set_option maxRecDepth 20000 in
theorem lookNames_any (x : Nat) (cs : Array Value) (w : World) (X : Blk w x cs 96) (h6 : cs[6]? = some (.string ⟨#[100]⟩)) (hc : cs[12]? = some (.slice none 0 0)) (k : Int) :
    Calls Tryz.prog (startF k) #[.pointer (some ⟨x, 0, none⟩)] w fun e w' => e = .returned (.tuple #[]) ∧ ∃ g c, Blk w' x (cs.setIfInBounds 12 (.slice (some ⟨g, 0, none⟩) 1 c)) 96 ∧ w'.ownsRow 0 113 3 (.slice (some ⟨g, 0, none⟩) 1 c) 1 (lkCells [⟨[100], [], bndV (if k = 3 then 80 else 71) x⟩]) ∧ w.heap.size ≤ g ∧ Only (fun b => b = x) w w' := by
  have c6 := X.cell h6
  have hxl := X.lt
  have hmf := E.hmf
  unfold startF
  by_cases hk : k = 3
  · rw [if_pos hk, if_pos hk]
    have K := look_any x cs none 0 [] [100] [] 80 w X hc ⟨rfl, .inl ⟨rfl, rfl⟩⟩ (by simp)
    rw [show E.bs [100] = (⟨#[100]⟩ : ByteArray) from rfl, show E.bs [] = (⟨#[]⟩ : ByteArray) from rfl] at K
    unfold bndV at *
    replace K := K.mono (fun e w' h => (show e = .returned (.tuple #[]) ∧ Hid _ from h))
    clear X h6 hc
    go_enter Tryz.func53, Tryz.ntmps53
    go_wp2_with fail
    refine K.mono ?_
    rintro e w1 ⟨rfl, H⟩
    clear K
    go_wp2_with fail
    go_end0
    obtain ⟨g, c, h1, h2, h3, h4⟩ := H.out
    exact ⟨rfl, g, c, h1, h2, h3.elim (fun h => by cases h) id, ⟨h4.os, h4.tape, h4.output, h4.size, fun i hi hn => h4.block i hi (fun h => hn (h.elim id (fun h => by cases h)))⟩⟩
  · rw [if_neg hk, if_neg hk]
    have K := look_any x cs none 0 [] [100] [] 71 w X hc ⟨rfl, .inl ⟨rfl, rfl⟩⟩ (by simp)
    rw [show E.bs [100] = (⟨#[100]⟩ : ByteArray) from rfl, show E.bs [] = (⟨#[]⟩ : ByteArray) from rfl] at K
    unfold bndV at *
    replace K := K.mono (fun e w' h => (show e = .returned (.tuple #[]) ∧ Hid _ from h))
    clear X h6 hc
    go_enter Tryz.func50, Tryz.ntmps50
    go_wp2_with fail
    refine K.mono ?_
    rintro e w1 ⟨rfl, H⟩
    clear K
    go_wp2_with fail
    go_end0
    obtain ⟨g, c, h1, h2, h3, h4⟩ := H.out
    exact ⟨rfl, g, c, h1, h2, h3.elim (fun h => by cases h) id, ⟨h4.os, h4.tape, h4.output, h4.size, fun i hi hn => h4.block i hi (fun h => hn (h.elim id (fun h => by cases h)))⟩⟩

theorem partsGo_len' : ∀ (s cur : E.Bs), (E.partsGo cur s).length ≤ s.length
  | [], _ => Nat.le_refl _
  | c :: r, cur => by
    unfold E.partsGo
    split
    · have := partsGo_len' r []; simp; omega
    · have := partsGo_len' r (cur ++ [c]); simp; omega
theorem partsP_len' (s : E.Bs) : (E.partsP s).length ≤ s.length := partsGo_len' s []

/-- What behind names is taken in by an Append: the text is looked for, if the name is there. -/
def moreL (n : E.Bs) (N : List E.Bs) (x : Nat) (L : List Lk) : List Lk := if n ∈ N then L ++ [⟨[102], n, bndV 81 x⟩] else L

set_option maxHeartbeats 3200000 in
set_option maxRecDepth 20000 in
theorem takeBoth_any (x : Nat) (cs : Array Value) (n v : E.Bs) (g0 c0 : Nat) (L : List Lk) (is : Bool) (w : World) (X : Blk w x cs 96) (hz : 14 < cs.size) (h3 : cs[3]? = some (.string (E.bs n))) (h7 : cs[7]? = some (.string ⟨#[102]⟩)) (h12 : cs[12]? = some (.slice (some ⟨g0, 0, none⟩) L.length c0))
    (hr : w.ownsRow 0 113 3 (.slice (some ⟨g0, 0, none⟩) L.length c0) L.length (lkCells L)) (hL : L.length ≤ 1000) (hv : v.length ≤ 1000000) (nm : E.Bs) :
    Calls Tryz.prog 80 #[.pointer (some ⟨x, 0, none⟩), .string (E.bs nm), .string (E.bs v), .bool is] w fun e w' => e = .returned (.tuple #[]) ∧ ∃ a c g1 c1, Blk w' x ((cs.setIfInBounds 14 (.slice a (E.partsP v).length c)).setIfInBounds 12 (.slice (some ⟨g1, 0, none⟩) (moreL n (E.partsP v) x L).length c1)) 96
      ∧ w'.ownsRow w.heap.size 9 1 (.slice a (E.partsP v).length c) (E.partsP v).length (E.strs (E.partsP v)) ∧ w'.ownsRow 0 113 3 (.slice (some ⟨g1, 0, none⟩) (moreL n (E.partsP v) x L).length c1) (moreL n (E.partsP v) x L).length (lkCells (moreL n (E.partsP v) x L)) ∧ (g1 = g0 ∨ w.heap.size ≤ g1) ∧ Only (fun b => b = x ∨ b = g0) w w' := by
  have hxg : g0 ≠ x := by
    rintro rfl
    rcases hr.2 with ⟨h1, _⟩ | ⟨g', cap, cur, h1, _, h3, _⟩
    · cases h1
    · cases h1
      unfold Blk at X
      rw [X] at h3
      injection h3 with h3
      injection h3 with _ h4
      exact absurd h4 (by decide)
  have hgl : g0 < w.heap.size := (hr.lt g0 rfl).2
  have T := takeNames_any x cs [] v is w X hz hv
  rw [show E.bs [] = (⟨#[]⟩ : ByteArray) from rfl] at T
  have hxl := X.lt
  have h12' : cs = cs.setIfInBounds 12 (.slice (some ⟨g0, 0, none⟩) L.length c0) := by
    apply Array.ext_getElem?
    intro i
    rw [Array.getElem?_setIfInBounds]
    split
    · rename_i h
      subst h
      split
      · exact h12
      · rename_i h
        simp at h; omega
    · rfl
  by_cases hn : n ∈ E.partsP v
  · unfold moreL
    simp only [if_pos hn]
    go_enter Tryz.func80, Tryz.ntmps80
    go_wp2_with fail
    refine T.mono ?_
    rintro e w1 ⟨rfl, a, c, X1, hN, O1⟩
    have hl1 := hN.lt
    have I := isNamed_any x _ n (E.partsP v) _ w1 X1 (by rw [Array.getElem?_setIfInBounds_ne (by decide)]; exact h3) (by rw [Array.getElem?_setIfInBounds_self_of_lt hz]) (E.strs_of_own hN) (by have := partsP_len' v; omega)
    rw [decide_eq_true hn] at I
    clear T X
    go_wp2_with fail
    refine I.mono ?_
    rintro e w2 ⟨rfl, rfl⟩
    have hr1 : w1.drew.ownsRow 0 113 3 (.slice (some ⟨g0, 0, none⟩) L.length c0) L.length (lkCells L) := row_thru hr (fun g hg => by cases hg; exact O1.block g0 hgl hxg)
    have LT := lookText_any x _ n (some ⟨g0, 0, none⟩) c0 L w1.drew (X1.of_block rfl) (by rw [Array.getElem?_setIfInBounds_ne (by decide)]; exact h3) (by rw [Array.getElem?_setIfInBounds_ne (by decide)]; exact h7) (by rw [Array.getElem?_setIfInBounds_ne (by decide)]; exact h12) hr1 (by omega)
    clear I
    replace LT := LT.mono (fun e w' h => (show e = .returned (.tuple #[]) ∧ Hid _ from h))
    go_wp2_with fail
    refine LT.mono ?_
    rintro e w3 ⟨rfl, H⟩
    clear LT
    go_wp2_with fail
    go_end0
    obtain ⟨g, cc, k1, k2, k3, k4⟩ := H.out
    refine ⟨rfl, a, c, g, cc, by simpa using k1, ?_, by simpa using k2, ?_, ?_⟩
    · refine E.owns_of_block' hN (fun g' hg' => k4.block g' (hl1 g' hg').2 ?_)
      have := (hl1 g' hg').1
      rintro (h | h)
      · omega
      · cases h; dsimp only at this; omega
    · rcases k3 with k3 | k3
      · left; cases k3; rfl
      · right
        have := O1.size
        have : w1.drew.heap.size = w1.heap.size := rfl
        omega
    · refine (O1.mono (fun i _ h => .inl h)).trans (G := fun b => b = x ∨ b = g0) ⟨k4.os, k4.tape, k4.output, k4.size, fun i hi hn => k4.block i hi (fun h => hn (h.elim .inl (fun h => by cases h; exact .inr rfl)))⟩ (fun _ _ h => h)
  · unfold moreL
    simp only [if_neg hn]
    go_enter Tryz.func80, Tryz.ntmps80
    go_wp2_with fail
    refine T.mono ?_
    rintro e w1 ⟨rfl, a, c, X1, hN, O1⟩
    have I := isNamed_any x _ n (E.partsP v) _ w1 X1 (by rw [Array.getElem?_setIfInBounds_ne (by decide)]; exact h3) (by rw [Array.getElem?_setIfInBounds_self_of_lt hz]) (E.strs_of_own hN) (by have := partsP_len' v; omega)
    rw [decide_eq_false hn] at I
    clear T X
    go_wp2_with fail
    refine I.mono ?_
    rintro e w2 ⟨rfl, rfl⟩
    have hr1 : w1.drew.ownsRow 0 113 3 (.slice (some ⟨g0, 0, none⟩) L.length c0) L.length (lkCells L) := row_thru hr (fun g hg => by cases hg; exact O1.block g0 hgl hxg)
    clear I
    go_wp2_with fail
    go_end0
    refine ⟨rfl, a, c, g0, c0, ?_, row_thruA hN (fun _ _ => rfl), hr1, .inl rfl, ?_⟩
    · rw [Array.setIfInBounds_comm _ _ (by decide), ← h12']
      exact X1.of_block rfl
    · exact ⟨O1.os, O1.tape, O1.output, O1.size, fun i hi hn => O1.block i hi (fun h => hn (.inl h))⟩
end Go.Proofs.YtlncljfljjaacaaGreatDoor
