/- The law's own part, Make, One: an expression, of a raw one. -/
import Derived.Test.YtopfnfmglnjljaaGreatDoorSize
import Derived.Test.YtopfnfmglnjljaaGreatDoorWithin
namespace Go.Proofs.YtopfnfmglnjljaaGreatDoor
open Go.ChangeShapes Go.WideShapes Go.ChangeAt Go.RowKit
set_option linter.unusedVariables false
set_option linter.unusedSimpArgs false

def rawNums : List Nat := [0, 1, 2, 255, 65536, 4294967295, 40, 7]
def rawNames : List Bs := [[98, 97, 115, 101], [120], [101, 110, 100, 95, 49], [114]]

/-- By a raw one's numbers, of its two parts. -/
def shape (k n : Int) (a b : Ex) : Ex :=
  if k % 18 < 4 then .num (rawNums.getD (n % 8).toNat 0)
  else if k % 18 < 8 then .name (rawNames.getD (n % 4).toNat [])
  else if k % 18 = 8 then .here
  else if k % 18 < 11 then .neg a
  else .two (k % 18 - 6).toNat a b

/-- A number where a part lacks. -/
def lackP (n : Int) (i : Nat) : Ex := .num ((wrap64 (n + i)) % 5).toNat

def makeP : Fo → Int → Int → Ex
  | .nil, k, n => shape k n (lackP n 0) (lackP n 1)
  | .cons k0 n0 l0 .nil, k, n => shape k n (makeP l0 k0 n0) (lackP n 1)
  | .cons k0 n0 l0 (.cons k1 n1 l1 _), k, n => shape k n (makeP l0 k0 n0) (makeP l1 k1 n1)

def partP (l : Fo) (n : Int) (i : Nat) : Ex := match l.drop i with
  | .nil => lackP n i
  | .cons k' n' l' _ => makeP l' k' n'

theorem makeP_eq (l : Fo) (k n : Int) : makeP l k n = shape k n (partP l n 0) (partP l n 1) := by
  match l with
  | .nil => rfl
  | .cons k0 n0 l0 .nil => simp [makeP, partP, Fo.drop]
  | .cons k0 n0 l0 (.cons k1 n1 l1 _) => simp [makeP, partP, Fo.drop]

/-- What Make must tell of a raw one whose own row is l. -/
def MakeOk (l : Fo) : Prop := ∀ (k n : Int) (p : Option Addr) (cap : Nat) (w : World), l.len ≤ maxLen → (0 < l.len → ∃ b o, p = some ⟨b, o, none⟩ ∧ RawAt w l b o) →
    Calls Tryz.prog 24 #[.agg #[.int .i64 k, .int .i64 n, .slice p l.len cap]] w fun e w' => Below w.heap.size w w' ∧ ∃ v, e = .returned v ∧ ExAt (w.heap.size ≤ ·) w' v (makeP l k n)

theorem below_put4 {w w2 : World} (h : Below w.heap.size w w2) {k : Nat} (hk : w.heap.size ≤ k) (b0 b1 b2 b3 : Value) : Below w.heap.size w (put4 w2 k b0 b1 b2 b3) :=
  (((h.setCell (p := ⟨k, 0, none⟩) hk b0).setCell (p := ⟨k, 1, none⟩) hk b1).setCell (p := ⟨k, 2, none⟩) hk b2).setCell (p := ⟨k, 3, none⟩) hk b3

/-- Where part and Make begin: the raw one's cells, the answer's. -/
structure Begun (w W : World) (k n : Int) (p : Option Addr) (len cap : Nat) : Prop where
  below : Below w.heap.size w W
  size : W.heap.size = w.heap.size + 2
  c0 : W.cell? ⟨w.heap.size, 0, none⟩ = some (.int .i64 k)
  c1 : W.cell? ⟨w.heap.size, 1, none⟩ = some (.int .i64 n)
  c2 : W.cell? ⟨w.heap.size, 2, none⟩ = some (.slice p len cap)
  res : Blk W (w.heap.size + 1) (.int .i64 0) (.int .i64 0) (.string ⟨#[]⟩) (.slice none 0 0)

theorem begun (w : World) (k n : Int) (p : Option Addr) (len cap : Nat) :
    Begun w ((w.alloc (.cells #[.int .i64 k, .int .i64 n, .slice p len cap] 54)).alloc (.cells #[.int .i64 0, .int .i64 0, .string ⟨#[]⟩, .slice none 0 0] 27)) k n p len cap := by
  have h0 := below_new w (.cells #[.int .i64 k, .int .i64 n, .slice p len cap] 54)
  have h1 := below_new (w.alloc (.cells #[.int .i64 k, .int .i64 n, .slice p len cap] 54)) (.cells #[.int .i64 0, .int .i64 0, .string ⟨#[]⟩, .slice none 0 0] 27)
  have X := Blk.new (w.alloc (.cells #[.int .i64 k, .int .i64 n, .slice p len cap] 54)) 27 (.int .i64 0) (.int .i64 0) (.string ⟨#[]⟩) (.slice none 0 0)
  rw [show (w.alloc (.cells #[.int .i64 k, .int .i64 n, .slice p len cap] 54)).heap.size = w.heap.size + 1 by simp] at X
  exact ⟨h0.trans (h1.mono h0.size), by simp, kept_cell h1 (new_cell _ 0 _ rfl), kept_cell h1 (new_cell _ 1 _ rfl), kept_cell h1 (new_cell _ 2 _ rfl), X⟩

set_option maxRecDepth 20000 in
theorem part_any (l : Fo) (ih : ∀ c : Fo, c.count < l.count → MakeOk c) (k n : Int) (p : Option Addr) (cap : Nat) (w : World) (hm : l.len ≤ maxLen) (hA : 0 < l.len → ∃ b o, p = some ⟨b, o, none⟩ ∧ RawAt w l b o) (i : Nat) (hi : i ≤ 1) :
    Calls Tryz.prog 40 #[.agg #[.int .i64 k, .int .i64 n, .slice p l.len cap], .int .i64 i] w fun e w' => Below w.heap.size w w' ∧ ∃ v, e = .returned v ∧ ExAt (w.heap.size ≤ ·) w' v (partP l n i) := by
  by_cases hl : i < l.len
  · obtain ⟨k', n', c, e, hcc⟩ := Fo.drop_cons i l hl
    have eP : partP l n i = makeP c k' n' := by simp [partP, e]
    obtain ⟨b, o, rfl, hR⟩ := hA (by omega)
    have hA2 := hR.drop i
    rw [e] at hA2
    obtain ⟨B, hsz, c0, c1, c2, R⟩ := begun w k n (some ⟨b, o, none⟩) l.len cap
    have hiI : (i : Int) < (l.len : Int) := by omega
    clear hA hR e
    rw [eP]
    obtain ⟨W, hW⟩ : ∃ W, W = ((w.alloc (.cells #[.int .i64 k, .int .i64 n, .slice (some ⟨b, o, none⟩) l.len cap] 54)).alloc (.cells #[.int .i64 0, .int .i64 0, .string ⟨#[]⟩, .slice none 0 0] 27)) := ⟨_, rfl⟩
    rw [← hW] at B hsz c0 c1 c2 R
    obtain ⟨z0, z1, ⟨p', cap', z2, hm', h4⟩, _⟩ := hA2.later B
    have M := ih c hcc k' n' p' cap' _ hm' h4
    rw [hW] at z0 z1 z2 M
    clear h4 hA2
    go_enter Tryz.func40, Tryz.ntmps40
    go_wp2_with fail
    rw [← hW] at M ⊢
    clear z0 z1 z2 hW
    refine M.mono ?_
    rintro e w2 ⟨hb2, v, rfl, hx⟩
    obtain ⟨ka, na, ta, qa, la, ma, rfl⟩ := hx.form
    have R1 := R.later hb2
    obtain ⟨x0, x1, x2, x3, f0, f1, f2, f3⟩ := id R1
    have hl1 := R1.lt
    go_wp2_with fail
    have R2 := R1.put (.int .i64 ka) (.int .i64 na) (.string ta) (.slice qa la ma)
    have hx2 := (hx.put (w.heap.size + 1) (.int .i64 ka) (.int .i64 na) (.string ta) (.slice qa la ma) (fun i h => by omega)).imp (Q := (w.heap.size ≤ ·)) (fun i h _ => by omega)
    have hB2 := below_put4 (B.trans (hb2.mono B.size)) (k := w.heap.size + 1) (by omega) (.int .i64 ka) (.int .i64 na) (.string ta) (.slice qa la ma)
    obtain ⟨y0, y1, y2, y3, _, _, _, _⟩ := R2
    unfold put4 at y0 y1 y2 y3 hx2 hB2
    exact bodyPost_ret (v := .agg #[.int .i64 ka, .int .i64 na, .string ta, .slice qa la ma]) (by simp [results, Tryz.results40, go_sem, y0, y1, y2, y3]) rfl ⟨hB2, _, rfl, hx2⟩
  · have eP : partP l n i = lackP n i := by
      have : l.drop i = .nil := by
        match l, i, hl, hi with
        | .nil, 0, _, _ => rfl
        | .nil, 1, _, _ => rfl
        | .cons _ _ _ .nil, 1, _, _ => rfl
        | .cons _ _ _ .nil, 0, h, _ => simp [Fo.len] at h
        | .cons _ _ _ (.cons _ _ _ _), 0, h, _ => simp [Fo.len] at h
        | .cons _ _ _ (.cons _ _ _ _), 1, h, _ => simp [Fo.len] at h
      simp [partP, this]
    have hiI : ¬ (i : Int) < (l.len : Int) := by omega
    have I := within_any (wrap64 (n + i)) 5 (by omega) (by omega)
    have r1 := Int.emod_nonneg (wrap64 (n + i)) (show (5 : Int) ≠ 0 by omega)
    have eI : ((((wrap64 (n + i)) % 5).toNat : Nat) : Int) = (wrap64 (n + i)) % 5 := by omega
    obtain ⟨B, hsz, c0, c1, c2, R⟩ := begun w k n p l.len cap
    rw [eP]
    unfold lackP
    clear hA
    generalize wrap64 (n + i) % 5 = r at *
    go_enter Tryz.func40, Tryz.ntmps40
    go_wp2_with (go_at_call 17; refine (I _).mono ?_; rintro e w' ⟨rfl, rfl⟩)
    have h0 := below_new w (.cells #[.int .i64 k, .int .i64 n, .slice p l.len cap] 54)
    exact bodyPost_ret (v := .agg #[.int .i64 1, .int .i64 r, .string ⟨#[]⟩, .slice none 0 0]) (by simp [results, Tryz.results40, go_sem]) rfl ⟨h0.alloc h0.size _, _, rfl, by simp only [ExAt, eI]; rfl⟩

set_option maxRecDepth 20000 in
theorem names_any (w : World) : Calls Tryz.prog 37 #[] w fun e w' => e = .returned (.slice (some ⟨w.heap.size, 0, none⟩) 4 4) ∧ w' = w.alloc (.cells #[.string (bs [98, 97, 115, 101]), .string (bs [120]), .string (bs [101, 110, 100, 95, 49]), .string (bs [114])] 9) := by
  go_enter Tryz.func37, Tryz.ntmps37
  go_wp2_with fail
  go_ret
  exact ⟨rfl, rfl⟩

theorem nums_cell (s : Nat) (h : s < 8) : (#[.int .i64 0, .int .i64 1, .int .i64 2, .int .i64 255, .int .i64 65536, .int .i64 4294967295, .int .i64 40, .int .i64 7] : Array Value)[s]? = some (.int .i64 ((rawNums.getD s 0 : Nat) : Int)) := by
  match s, h with
  | 0, _ => rfl
  | 1, _ => rfl
  | 2, _ => rfl
  | 3, _ => rfl
  | 4, _ => rfl
  | 5, _ => rfl
  | 6, _ => rfl
  | 7, _ => rfl

theorem names_cell (s : Nat) (h : s < 4) : (#[.string (bs [98, 97, 115, 101]), .string (bs [120]), .string (bs [101, 110, 100, 95, 49]), .string (bs [114])] : Array Value)[s]? = some (.string (bs (rawNames.getD s []))) := by
  match s, h with
  | 0, _ => rfl
  | 1, _ => rfl
  | 2, _ => rfl
  | 3, _ => rfl

set_option maxHeartbeats 1600000 in
set_option maxRecDepth 20000 in
theorem make_any : ∀ (N : Nat) (l : Fo), l.count < N → MakeOk l := by
  intro N
  induction N with
  | zero => intro l h; omega
  | succ N ih =>
    intro l hN k n p cap w hm hA
    have PA := fun w' hA' i hi => part_any l (fun c hc => ih c (by omega)) k n p cap w' hm hA' i hi
    rw [makeP_eq]
    have I := fun w' => within_any k 18 (by omega) (by omega) w'
    have r1 := Int.emod_nonneg k (show (18 : Int) ≠ 0 by omega)
    have r2 := Int.emod_lt_of_pos k (show (0 : Int) < 18 by omega)
    unfold shape
    obtain ⟨B, hsz, c0, c1, c2, R⟩ := begun w k n p l.len cap
    obtain ⟨W, hW⟩ : ∃ W, W = ((w.alloc (.cells #[.int .i64 k, .int .i64 n, .slice p l.len cap] 54)).alloc (.cells #[.int .i64 0, .int .i64 0, .string ⟨#[]⟩, .slice none 0 0] 27)) := ⟨_, rfl⟩
    rw [← hW] at B c0 c1 c2 R
    have hA2 : 0 < l.len → ∃ b o, p = some ⟨b, o, none⟩ ∧ RawAt W l b o := fun h => by obtain ⟨b, o, e, h⟩ := hA h; exact ⟨b, o, e, h.later B⟩
    have hR := R.lt
    generalize k % 18 = r at *
    clear hsz hA
    by_cases q1 : r < 4
    · rw [if_pos q1]
      clear PA hA2
      have J := fun w' => within_any n 8 (by omega) (by omega) w'
      have s1 := Int.emod_nonneg n (show (8 : Int) ≠ 0 by omega)
      have s2 := Int.emod_lt_of_pos n (show (0 : Int) < 8 by omega)
      generalize n % 8 = s at *
      obtain ⟨s, rfl⟩ : ∃ t : Nat, s = (t : Int) := ⟨s.toNat, by omega⟩
      have hs : s < 8 := by omega
      rw [Int.toNat_natCast]
      have hc := nums_cell s hs
      generalize rawNums.getD s 0 = num at *
      go_enter Tryz.func24, Tryz.ntmps24
      go_wp2_with fail
      rw [← hW]
      clear hW
      refine (I _).mono ?_
      rintro e w' ⟨rfl, rfl⟩
      clear I
      have d1 := kept_cell (below_new W (.cells #[.int .i64 0, .int .i64 1, .int .i64 2, .int .i64 255, .int .i64 65536, .int .i64 4294967295, .int .i64 40, .int .i64 7] 3)) c1
      go_wp2_with fail
      have n3 := below_new W (.cells #[.int .i64 0, .int .i64 1, .int .i64 2, .int .i64 255, .int .i64 65536, .int .i64 4294967295, .int .i64 40, .int .i64 7] 3)
      have R3 := R.later n3
      have cz := new_cell (w := W) (t := 3) _ s _ hc
      have B3 := B.trans (n3.mono B.size)
      clear n3
      generalize W.alloc (.cells #[.int .i64 0, .int .i64 1, .int .i64 2, .int .i64 255, .int .i64 65536, .int .i64 4294967295, .int .i64 40, .int .i64 7] 3) = W3 at *
      refine (J _).mono ?_
      rintro e w' ⟨rfl, rfl⟩
      clear J
      obtain ⟨x0, x1, x2, x3, f0, f1, f2, f3⟩ := id R3
      have hl1 := R3.lt
      go_wp2_with fail
      have R9 := R3.put (.int .i64 1) (.int .i64 num) (.string ⟨#[]⟩) (.slice none 0 0)
      have hB9 := below_put4 B3 (k := w.heap.size + 1) (by omega) (.int .i64 1) (.int .i64 num) (.string ⟨#[]⟩) (.slice none 0 0)
      obtain ⟨y0, y1, y2, y3, _, _, _, _⟩ := R9
      unfold put4 at y0 y1 y2 y3 hB9
      exact bodyPost_ret (v := .agg #[.int .i64 1, .int .i64 num, .string ⟨#[]⟩, .slice none 0 0]) (by simp [results, Tryz.results24, go_sem, y0, y1, y2, y3]) rfl ⟨hB9, _, rfl, rfl⟩
    · rw [if_neg q1]
      by_cases q2 : r < 8
      · rw [if_pos q2]
        clear PA hA2
        have J := fun w' => within_any n 4 (by omega) (by omega) w'
        have s1 := Int.emod_nonneg n (show (4 : Int) ≠ 0 by omega)
        have s2 := Int.emod_lt_of_pos n (show (0 : Int) < 4 by omega)
        generalize n % 4 = s at *
        obtain ⟨s, rfl⟩ : ∃ t : Nat, s = (t : Int) := ⟨s.toNat, by omega⟩
        have hs : s < 4 := by omega
        rw [Int.toNat_natCast]
        have hc := names_cell s hs
        generalize rawNames.getD s [] = num at *
        go_enter Tryz.func24, Tryz.ntmps24
        go_wp2_with fail
        rw [← hW]
        clear hW
        refine (I _).mono ?_
        rintro e w' ⟨rfl, rfl⟩
        clear I
        have NA : Calls Tryz.prog 37 #[] W.drew fun e w' => e = .returned (.slice (some ⟨W.heap.size, 0, none⟩) 4 4) ∧ Below w.heap.size w w' ∧ w'.cell? ⟨w.heap.size, 1, none⟩ = some (.int .i64 n) ∧ Blk w' (w.heap.size + 1) (.int .i64 0) (.int .i64 0) (.string ⟨#[]⟩) (.slice none 0 0) ∧ w'.cell? ⟨W.heap.size, s, none⟩ = some (.string (bs num)) := by
          refine (names_any W.drew).mono ?_
          rintro e w' ⟨rfl, rfl⟩
          have n2 : Below W.heap.size W W.drew := below_drewN W 1
          have n3 := n2.trans (below_new W.drew (.cells #[.string (bs [98, 97, 115, 101]), .string (bs [120]), .string (bs [101, 110, 100, 95, 49]), .string (bs [114])] 9))
          exact ⟨rfl, B.trans (n3.mono B.size), kept_cell n3 c1, R.later n3, new_cell (w := W.drew) (t := 9) _ s _ hc⟩
        clear hc
        go_wp2_with fail
        go_region_with (first | (go_at_call 37; refine NA.mono ?_; rintro e W3 ⟨rfl, B3, d1, R3, cz⟩; obtain ⟨x0, x1, x2, x3, f0, f1, f2, f3⟩ := id R3; have hl1 := R3.lt) | (go_at_call 17; refine (J _).mono ?_; rintro e w' ⟨rfl, rfl⟩))
        all_goals go_wp2_with fail
        all_goals
          have R9 := R3.put (.int .i64 2) (.int .i64 0) (.string (bs num)) (.slice none 0 0)
          have hB9 := below_put4 B3 (k := w.heap.size + 1) (by omega) (.int .i64 2) (.int .i64 0) (.string (bs num)) (.slice none 0 0)
          obtain ⟨y0, y1, y2, y3, _, _, _, _⟩ := R9
          unfold put4 at y0 y1 y2 y3 hB9
          exact bodyPost_ret (v := .agg #[.int .i64 2, .int .i64 0, .string (bs num), .slice none 0 0]) (by simp [results, Tryz.results24, go_sem, y0, y1, y2, y3]) rfl ⟨hB9, _, rfl, rfl⟩
      · rw [if_neg q2]
        by_cases q3 : r = 8
        · rw [if_pos q3]
          clear PA hA2
          have q3b : (r == 8) = true := by simp [q3]
          go_enter Tryz.func24, Tryz.ntmps24
          go_wp2_with fail
          rw [← hW]
          clear hW
          refine (I _).mono ?_
          rintro e w' ⟨rfl, rfl⟩
          clear I
          obtain ⟨x0, x1, x2, x3, f0, f1, f2, f3⟩ := id R
          go_wp2_with fail
          have R9 := R.put (.int .i64 3) (.int .i64 0) (.string ⟨#[]⟩) (.slice none 0 0)
          have hB9 := below_put4 B (k := w.heap.size + 1) (by omega) (.int .i64 3) (.int .i64 0) (.string ⟨#[]⟩) (.slice none 0 0)
          obtain ⟨y0, y1, y2, y3, _, _, _, _⟩ := R9
          unfold put4 at y0 y1 y2 y3 hB9
          exact bodyPost_ret (v := .agg #[.int .i64 3, .int .i64 0, .string ⟨#[]⟩, .slice none 0 0]) (by simp [results, Tryz.results24, go_sem, y0, y1, y2, y3]) rfl ⟨hB9, _, rfl, rfl⟩
        · rw [if_neg q3]
          have q3b : (r == 8) = false := by simp [q3]
          by_cases q4 : r < 11
          · rw [if_pos q4]
            have P0 : Calls Tryz.prog 40 #[.agg #[.int .i64 k, .int .i64 n, .slice p l.len cap], .int .i64 0] W _ := PA W hA2 0 (by omega)
            generalize partP l n 0 = x at *
            clear PA hA2
            go_enter Tryz.func24, Tryz.ntmps24
            go_wp2_with fail
            rw [← hW]
            clear hW
            refine (I _).mono ?_
            rintro e w' ⟨rfl, rfl⟩
            clear I
            go_wp2_with fail
            refine P0.mono ?_
            rintro e w2 ⟨hb2, v, rfl, hx⟩
            clear P0
            obtain ⟨ka, na, ta, qa, la, ma, rfl⟩ := hx.form
            have R2 := R.later hb2
            have B2 := B.trans (hb2.mono B.size)
            have hw2 : w.heap.size + 1 < w2.heap.size := R2.lt
            obtain ⟨x0, x1, x2, x3, f0, f1, f2, f3⟩ := id R2
            have hWw := hb2.size
            go_wp2_with fail
            have n3 := below_new (put4 w2 (w.heap.size + 1) (.int .i64 4) (.int .i64 0) (.string ⟨#[]⟩) (.slice (some ⟨w2.heap.size, 0, none⟩) 1 1)) (.cells #[.int .i64 ka, .int .i64 na, .string ta, .slice qa la ma] 27)
            have R9 := (R2.put (.int .i64 4) (.int .i64 0) (.string ⟨#[]⟩) (.slice (some ⟨w2.heap.size, 0, none⟩) 1 1)).later n3
            have hB8 := below_put4 B2 (k := w.heap.size + 1) (by omega) (.int .i64 4) (.int .i64 0) (.string ⟨#[]⟩) (.slice (some ⟨w2.heap.size, 0, none⟩) 1 1)
            have hB9 := hB8.trans (n3.mono hB8.size)
            have nc := fun i x h => new_cell (w := put4 w2 (w.heap.size + 1) (.int .i64 4) (.int .i64 0) (.string ⟨#[]⟩) (.slice (some ⟨w2.heap.size, 0, none⟩) 1 1)) (t := 27) #[.int .i64 ka, .int .i64 na, .string ta, .slice qa la ma] i x h
            rw [put4_size] at nc
            have hx9 := ((hx.put (w.heap.size + 1) (.int .i64 4) (.int .i64 0) (.string ⟨#[]⟩) (.slice (some ⟨w2.heap.size, 0, none⟩) 1 1) (fun i h => by omega)).below n3).imp (Q := (w.heap.size ≤ ·)) (fun i h _ => by have := B.size; omega)
            obtain ⟨y0, y1, y2, y3, _, _, _, _⟩ := R9
            have hE : ExAt (w.heap.size ≤ ·) _ (.agg #[.int .i64 4, .int .i64 0, .string (bs []), .slice (some ⟨w2.heap.size, 0, none⟩) 1 1]) (.neg x) :=
              ⟨w2.heap.size, _, _, _, _, rfl, by omega, nc 0 _ rfl, nc 1 _ rfl, nc 2 _ rfl, nc 3 _ rfl, hx9⟩
            unfold put4 at y0 y1 y2 y3 hB9 hE
            exact bodyPost_ret (v := .agg #[.int .i64 4, .int .i64 0, .string ⟨#[]⟩, .slice (some ⟨w2.heap.size, 0, none⟩) 1 1]) (by simp [results, Tryz.results24, go_sem, y0, y1, y2, y3]) rfl ⟨hB9, _, rfl, hE⟩
          · rw [if_neg q4]
            have P0 : Calls Tryz.prog 40 #[.agg #[.int .i64 k, .int .i64 n, .slice p l.len cap], .int .i64 0] W.drew fun e w' => ∃ (ka na : Int) (ta : ByteArray) (qa : Option Addr) (la ma : Nat), e = .returned (.agg #[.int .i64 ka, .int .i64 na, .string ta, .slice qa la ma]) ∧ Below w.heap.size w w' ∧ W.heap.size ≤ w'.heap.size ∧
                w'.cell? ⟨w.heap.size, 0, none⟩ = some (.int .i64 k) ∧ w'.cell? ⟨w.heap.size, 1, none⟩ = some (.int .i64 n) ∧ w'.cell? ⟨w.heap.size, 2, none⟩ = some (.slice p l.len cap) ∧ Blk w' (w.heap.size + 1) (.int .i64 0) (.int .i64 0) (.string ⟨#[]⟩) (.slice none 0 0) ∧
                ExAt (W.heap.size ≤ ·) w' (.agg #[.int .i64 ka, .int .i64 na, .string ta, .slice qa la ma]) (partP l n 0) ∧
                (Calls Tryz.prog 40 #[.agg #[.int .i64 k, .int .i64 n, .slice p l.len cap], .int .i64 1] w' fun e w'' => ∃ (kb nb : Int) (tb : ByteArray) (qb : Option Addr) (lb mb : Nat), e = .returned (.agg #[.int .i64 kb, .int .i64 nb, .string tb, .slice qb lb mb]) ∧ Below w'.heap.size w' w'' ∧ ExAt (W.heap.size ≤ ·) w'' (.agg #[.int .i64 kb, .int .i64 nb, .string tb, .slice qb lb mb]) (partP l n 1)) := by
              have n2 : Below W.heap.size W W.drew := below_drewN W 1
              refine (PA W.drew (fun h => by obtain ⟨b, o, e, h⟩ := hA2 h; exact ⟨b, o, e, h.later n2⟩) 0 (by omega)).mono ?_
              rintro e w' ⟨hb, v, rfl, hx⟩
              obtain ⟨ka, na, ta, qa, la, ma, rfl⟩ := hx.form
              have n3 : Below W.heap.size W w' := n2.trans hb
              refine ⟨ka, na, ta, qa, la, ma, rfl, B.trans (n3.mono B.size), n3.size, kept_cell n3 c0, kept_cell n3 c1, kept_cell n3 c2, R.later n3, hx, ?_⟩
              refine (PA w' (fun h => by obtain ⟨b, o, e, h⟩ := hA2 h; exact ⟨b, o, e, h.later n3⟩) 1 (by omega)).mono ?_
              rintro e w'' ⟨hb', v, rfl, hy⟩
              obtain ⟨kb, nb, tb, qb, lb, mb, rfl⟩ := hy.form
              exact ⟨kb, nb, tb, qb, lb, mb, rfl, hb', hy.imp fun i h _ => Nat.le_trans n3.size h⟩
            generalize partP l n 0 = x at *
            generalize partP l n 1 = y at *
            clear PA hA2
            obtain ⟨o, ho⟩ : ∃ o : Nat, r = (o : Int) + 6 := ⟨(r - 6).toNat, by omega⟩
            subst ho
            rw [show ((o : Int) + 6 - 6).toNat = o by omega]
            have hwr : Hid (IntKind.i64.wrap (IntKind.i64.wrap (5 + ((o : Int) + 6)) - 11) = o) := by
              unfold Hid
              rw [IntWalk.i64_in (5 + ((o : Int) + 6)) (by omega), IntWalk.i64_in _ (by omega)]
              omega
            go_enter Tryz.func24, Tryz.ntmps24
            go_wp2_with fail
            rw [← hW]
            clear hW
            refine (I _).mono ?_
            rintro e w' ⟨rfl, rfl⟩
            clear I
            go_wp2_with fail
            go_region_with (first | (go_at_call 40; with_reducible refine P0.mono ?_; rintro e w2 ⟨ka, na, ta, qa, la, ma, rfl, B2, hs2, e0, e1, e2, R2, hx, P1⟩) | (go_at_call 40; with_reducible refine P1.mono ?_; rintro e w3 ⟨kb, nb, tb, qb, lb, mb, rfl, hb3, hy⟩; have R3 := R2.later hb3; obtain ⟨x0, x1, x2, x3, f0, f1, f2, f3⟩ := id R3; have hl3 := R3.lt))
            all_goals
              rw [hwr.out]
              go_wp2_with fail
              have n3 := below_new (put4 w3 (w.heap.size + 1) (.int .i64 o) (.int .i64 0) (.string ⟨#[]⟩) (.slice (some ⟨w3.heap.size, 0, none⟩) 2 2)) (.cells #[.int .i64 ka, .int .i64 na, .string ta, .slice qa la ma, .int .i64 kb, .int .i64 nb, .string tb, .slice qb lb mb] 27)
              have R9 := (R3.put (.int .i64 o) (.int .i64 0) (.string ⟨#[]⟩) (.slice (some ⟨w3.heap.size, 0, none⟩) 2 2)).later n3
              have B3 := B2.trans (hb3.mono B2.size)
              have hB8 := below_put4 B3 (k := w.heap.size + 1) (by omega) (.int .i64 o) (.int .i64 0) (.string ⟨#[]⟩) (.slice (some ⟨w3.heap.size, 0, none⟩) 2 2)
              have hB9 := hB8.trans (n3.mono hB8.size)
              have nc := fun i x h => new_cell (w := put4 w3 (w.heap.size + 1) (.int .i64 o) (.int .i64 0) (.string ⟨#[]⟩) (.slice (some ⟨w3.heap.size, 0, none⟩) 2 2)) (t := 27) #[.int .i64 ka, .int .i64 na, .string ta, .slice qa la ma, .int .i64 kb, .int .i64 nb, .string tb, .slice qb lb mb] i x h
              rw [put4_size] at nc
              have hx9 := (((hx.below hb3).put (w.heap.size + 1) (.int .i64 o) (.int .i64 0) (.string ⟨#[]⟩) (.slice (some ⟨w3.heap.size, 0, none⟩) 2 2) (fun i h => by omega)).below n3).imp (Q := (w.heap.size ≤ ·)) (fun i h _ => by omega)
              have hy9 := ((hy.put (w.heap.size + 1) (.int .i64 o) (.int .i64 0) (.string ⟨#[]⟩) (.slice (some ⟨w3.heap.size, 0, none⟩) 2 2) (fun i h => by omega)).below n3).imp (Q := (w.heap.size ≤ ·)) (fun i h _ => by omega)
              obtain ⟨y0, y1, y2, y3, _, _, _, _⟩ := R9
              have hE : ExAt (w.heap.size ≤ ·) _ (.agg #[.int .i64 o, .int .i64 0, .string (bs []), .slice (some ⟨w3.heap.size, 0, none⟩) 2 2]) (.two o x y) :=
                ⟨w3.heap.size, _, _, _, _, _, _, _, _, rfl, by omega, nc 0 _ rfl, nc 1 _ rfl, nc 2 _ rfl, nc 3 _ rfl, nc 4 _ rfl, nc 5 _ rfl, nc 6 _ rfl, nc 7 _ rfl, hx9, hy9⟩
              unfold put4 at y0 y1 y2 y3 hB9 hE
              exact bodyPost_ret (v := .agg #[.int .i64 o, .int .i64 0, .string ⟨#[]⟩, .slice (some ⟨w3.heap.size, 0, none⟩) 2 2]) (by simp [results, Tryz.results24, go_sem, y0, y1, y2, y3]) rfl ⟨hB9, _, rfl, hE⟩

end Go.Proofs.YtopfnfmglnjljaaGreatDoor
