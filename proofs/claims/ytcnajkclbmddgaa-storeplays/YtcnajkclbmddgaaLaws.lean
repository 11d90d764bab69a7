/- What the laws' loops keep. -/
import Derived.Test.YtcnajkclbmddgaaWrites
import Derived.Test.YtcnajkclbmddgaaArgs
namespace Go.Proofs.Ytcnajkclbmddgaa
open Go.ChangeShapes Go.WideShapes Go.ChangeAt Go.RowKit
set_option linter.unusedVariables false
set_option linter.unusedSimpArgs false

theorem last_le (key : ByteArray) (a b : Int) : ∀ v : List Ver, (∀ x ∈ v, x.at' ≤ a ∧ x.at' ≤ b) → lastP key a v = lastP key b v
  | [], _ => rfl
  | x :: v, h => by
    have ih := last_le key a b v (fun y hy => h y (List.mem_cons_of_mem _ hy))
    have hx := h x (by simp)
    unfold lastP
    rw [ih]
    cases lastP key b v with
    | some y => rfl
    | none =>
      simp only
      unfold Ver.hit
      simp [hx.1, hx.2]

theorem last_new (key : ByteArray) (T : Int) (v : List Ver) (ws : List Wr) :
    (ws.any (fun x => decide (x.key = key)) = true → ∃ x, lastP key T (v ++ ws.map fun w => ⟨w, T⟩) = some x ∧ x.at' = T) ∧ (ws.any (fun x => decide (x.key = key)) = false → lastP key T (v ++ ws.map fun w => ⟨w, T⟩) = lastP key T v) := by
  refine snoc_ind (P := fun ws => (ws.any (fun x => decide (x.key = key)) = true → ∃ x, lastP key T (v ++ ws.map fun w => ⟨w, T⟩) = some x ∧ x.at' = T) ∧ (ws.any (fun x => decide (x.key = key)) = false → lastP key T (v ++ ws.map fun w => ⟨w, T⟩) = lastP key T v)) ⟨fun h => (by cases h), fun _ => (by simp)⟩ ?_ ws
  intro l x ih
  rw [List.map_append, List.map_cons, List.map_nil, ← List.append_assoc, lastP_snoc, List.any_append]
  by_cases h : x.key = key
  · have hh : Ver.hit key T ⟨x, T⟩ = true := by simp [Ver.hit, h]
    rw [if_pos hh]
    exact ⟨fun _ => ⟨_, rfl, rfl⟩, fun e => by simp [h] at e⟩
  · have hh : ¬ (Ver.hit key T ⟨x, T⟩ = true) := by simp [Ver.hit, h]
    rw [if_neg hh]
    simpa [h] using ih

def setA (t : Int) (A : Nat → Int) (ws : List Wr) (k : Nat) : Int := if ws.any (fun x => decide (x.key = letK k)) then t else A k

theorem setA_snoc (t : Int) (A : Nat → Int) (l : List Wr) (x : Wr) (k : Nat) : setA t A (l ++ [x]) k = if x.key = letK k then t else setA t A l k := by
  unfold setA
  rw [List.any_append]
  by_cases h : x.key = letK k <;> simp [h]

theorem changed_commit {S : St} {s : Sto} (H : Abs S s) {ws : List Wr} (hroom : (s.v.length : Int) + ws.length ≤ s.all) (A : Nat → Int) (k : Nat)
    (h : ∀ since, 0 ≤ since → changedP s (letK k) since = decide (since < A k)) : ∀ since, 0 ≤ since → changedP (commitP s ws).1 (letK k) since = decide (since < setA (s.stamp + 1) A ws k) := by
  intro since hs
  have h := h since hs
  obtain ⟨h1, h2⟩ := last_new (letK k) (s.stamp + 1) s.v ws
  have h3 := last_le (letK k) (s.stamp + 1) s.stamp s.v (fun x hx => ⟨by have := H.le x hx; omega, H.le x hx⟩)
  unfold commitP
  rw [if_neg (by omega)]
  unfold changedP setA
  simp only
  cases he : ws.any (fun x => decide (x.key = letK k)) with
  | true =>
    obtain ⟨x, h4, h5⟩ := h1 he
    rw [h4]
    simp [h5]
  | false =>
    rw [h2 he, h3]
    simpa [changedP] using h

def cellsA (A : Nat → Int) : Array Value := #[.int .i64 (A 0), .int .i64 (A 1), .int .i64 (A 2), .int .i64 (A 3), .int .i64 (A 4)]

theorem letK_inj {a b : Nat} (ha : a < 5) (hb : b < 5) (h : letK a = letK b) : a = b := by
  have : ∀ a b : Fin 5, letK a.val = letK b.val → a = b := by decide +kernel
  have := this ⟨a, ha⟩ ⟨b, hb⟩ h
  simpa using this

theorem letK_mod (m : Nat) : letK m = letK (m % 5) := by unfold letK; rw [Nat.mod_mod]

theorem cellsA_set (t : Int) (A : Nat → Int) (l : List Wr) (x : Wr) (m : Nat) (hm : m < 5) (hx : x.key = letK m) : (cellsA (setA t A l)).setIfInBounds m (.int .i64 t) = cellsA (setA t A (l ++ [x])) := by
  have e : ∀ k, k < 5 → setA t A (l ++ [x]) k = if k = m then t else setA t A l k := fun k hk => by
    rw [setA_snoc, hx]
    by_cases h : k = m
    · subst h; simp
    · rw [if_neg h, if_neg (fun h2 => h (letK_inj hk hm h2.symm))]
  unfold cellsA
  rw [e 0 (by omega), e 1 (by omega), e 2 (by omega), e 3 (by omega), e 4 (by omega)]
  match m, hm with
  | 0, _ => rfl
  | 1, _ => rfl
  | 2, _ => rfl
  | 3, _ => rfl
  | 4, _ => rfl

theorem cellsA_get (A : Nat → Int) {k : Nat} (hk : k < 5) : (cellsA A)[k]? = some (.int .i64 (A k)) := by
  match k, hk with
  | 0, _ => rfl
  | 1, _ => rfl
  | 2, _ => rfl
  | 3, _ => rfl
  | 4, _ => rfl

theorem Own.poke {B p : Nat} {w0 w : World} {S : St} {s : Sto} (O : Own B p w0 w S s) (a : Addr) (u : Value) (ha : B ≤ a.block) (hl : ¬ (S.lab a.block).isSome) : Own B p w0 (w.setCell a u) S s :=
  ⟨O.ptr, O.below.setCell ha u, by simp [World.setCell]; exact O.size, O.store.frame (by simp [World.setCell]) (fun b e => Below.heap_setCell _ _ _ _ (fun h => hl (h ▸ e))), O.good, O.abs, O.ge⟩

theorem Step.unl {w w' : World} {S S' : St} (T : Step w w' S S') {b : Nat} (hb : b < w.heap.size) (h : ¬ (S.lab b).isSome) : ¬ (S'.lab b).isSome := fun e => by
  rcases T.lab b e with h2 | h2
  · exact h h2
  · omega

theorem wrs_get : ∀ (l : List Wr) (j : Nat) (x : Wr), l[j]? = some x → (wrsCells l)[j * 3]? = some (.string x.key) ∧ (wrsCells l)[j * 3 + 1]? = some (.string x.val) ∧ (wrsCells l)[j * 3 + 2]? = some (.bool x.gone)
  | [], j, x, h => by simp at h
  | y :: l, 0, x, h => by
    simp at h; subst h
    simp [wrsCells, wrCells]
  | y :: l, j + 1, x, h => by
    have := wrs_get l j x (by simpa using h)
    have e : wrsCells (y :: l) = [.string y.key, .string y.val, .bool y.gone] ++ wrsCells l := by unfold wrsCells; rw [List.flatMap_cons]; rfl
    rw [e, show (j + 1) * 3 = j * 3 + 3 by omega, show j * 3 + 3 + 1 = j * 3 + 1 + 3 by omega, show j * 3 + 3 + 2 = j * 3 + 2 + 3 by omega]
    simpa using this

theorem ws_own {w : World} {base : Nat} {v : Value} {l : List Wr} (h : w.ownsRow base 54 3 v l.length (wrsCells l)) (h0 : 0 < l.length) : ∃ g c, v = .slice (some ⟨g, 0, none⟩) l.length c ∧ base ≤ g ∧ g < w.heap.size ∧ WsAt w (some ⟨g, 0, none⟩) l := by
  obtain ⟨g, c, rfl, hg1, hg2⟩ := h.form h0
  refine ⟨g, c, rfl, hg1, hg2, ⟨fun _ => ⟨g, 0, rfl, hg2, fun j x hx => ?_⟩⟩⟩
  obtain ⟨a1, a2, a3⟩ := wrs_get l j x hx
  have b1 := h.cells (g := g) rfl _ _ a1
  have b2 := h.cells (g := g) rfl _ _ a2
  have b3 := h.cells (g := g) rfl _ _ a3
  rw [cell_add] at b1 b2 b3
  exact ⟨b1, by rw [Nat.add_assoc]; exact b2, by rw [Nat.add_assoc]; exact b3⟩

theorem writes_len (n : Nat) : (writesP n).length = n % 3 + 1 := by unfold writesP; simp
theorem writes_key {n j : Nat} {x : Wr} (h : (writesP n)[j]? = some x) : x.key = letK (n / 3 + j) ∧ x.key.size = 1 ∧ x.val.size ≤ 1 := by
  unfold writesP at h
  rw [List.getElem?_map] at h
  cases e : (List.range (n % 3 + 1))[j]? with
  | none => rw [e] at h; cases h
  | some i =>
    rw [e] at h
    have hj : i = j := by
      have := List.getElem?_eq_some_iff.1 e
      obtain ⟨h1, h2⟩ := this
      rw [List.getElem_range] at h2
      exact h2.symm
    subst hj
    obtain rfl : oneW n i = x := by simpa using h
    refine ⟨rfl, rfl, ?_⟩
    unfold oneW
    simp only
    split
    · exact Nat.zero_le _
    · exact Nat.le_refl _
end Go.Proofs.Ytcnajkclbmddgaa
