/- What was written last, as the law StoreLast keeps it. -/
import Derived.Test.YtcnajkclbmddgaaLaws
namespace Go.Proofs.Ytcnajkclbmddgaa
open Go.ChangeShapes Go.WideShapes Go.ChangeAt Go.RowKit
set_option linter.unusedVariables false
set_option linter.unusedSimpArgs false

def setL (L : Nat → ByteArray) (ws : List Wr) (k : Nat) : ByteArray := ws.foldl (fun acc x => if x.key = letK k then x.val else acc) (L k)
theorem setL_snoc (L : Nat → ByteArray) (l : List Wr) (x : Wr) (k : Nat) : setL L (l ++ [x]) k = if x.key = letK k then x.val else setL L l k := by
  unfold setL
  rw [List.foldl_append]
  rfl

def seen (b : ByteArray) : ByteArray × Bool := (b, decide (b ≠ ⟨#[]⟩))
def readV : Option Ver → ByteArray × Bool
  | some x => if x.w.gone then (ByteArray.empty, false) else (x.w.val, true)
  | none => (ByteArray.empty, false)
theorem readP_V (s : Sto) (k : ByteArray) (t : Int) : readP s k t = readV (lastP k t s.v) := rfl

def WrOk (x : Wr) : Prop := (x.gone = true ∧ x.val = ⟨#[]⟩) ∨ (x.gone = false ∧ x.val ≠ ⟨#[]⟩)

theorem last_read (L : Nat → ByteArray) (k : Nat) (T : Int) (v : List Ver) (h : readV (lastP (letK k) T v) = seen (L k)) (ws : List Wr) : (∀ x ∈ ws, WrOk x) → readV (lastP (letK k) T (v ++ ws.map fun w => ⟨w, T⟩)) = seen (setL L ws k) := by
  refine snoc_ind (P := fun ws => (∀ x ∈ ws, WrOk x) → readV (lastP (letK k) T (v ++ ws.map fun w => ⟨w, T⟩)) = seen (setL L ws k)) (fun _ => by simpa [setL] using h) ?_ ws
  intro l x ih ho
  rw [List.map_append, List.map_cons, List.map_nil, ← List.append_assoc, lastP_snoc, setL_snoc]
  by_cases e : x.key = letK k
  · have hh : Ver.hit (letK k) T ⟨x, T⟩ = true := by simp [Ver.hit, e]
    rw [if_pos hh, if_pos e]
    rcases ho x (by simp) with ⟨h1, h2⟩ | ⟨h1, h2⟩
    · unfold readV seen
      simp only [h1, if_true, h2]
      rfl
    · unfold readV seen
      simp [h1, h2]
  · have hh : ¬ (Ver.hit (letK k) T ⟨x, T⟩ = true) := by simp [Ver.hit, e]
    rw [if_neg hh, if_neg e]
    exact ih (fun y hy => ho y (by simp [hy]))

theorem read_now_commit {S : St} {s : Sto} (H : Abs S s) {ws : List Wr} (hroom : (s.v.length : Int) + ws.length ≤ s.all) (L : Nat → ByteArray) (k : Nat)
    (h : readP s (letK k) s.stamp = seen (L k)) (ho : ∀ x ∈ ws, WrOk x) : readP (commitP s ws).1 (letK k) (s.stamp + 1) = seen (setL L ws k) := by
  have h3 := last_le (letK k) (s.stamp + 1) s.stamp s.v (fun x hx => ⟨by have := H.le x hx; omega, H.le x hx⟩)
  unfold commitP
  rw [if_neg (by omega), readP_V]
  simp only
  exact last_read L k _ s.v (by rw [h3]; exact h) ws ho

def cellsL (L : Nat → ByteArray) : Array Value := #[.string (L 0), .string (L 1), .string (L 2), .string (L 3), .string (L 4)]

theorem cellsL_set (L : Nat → ByteArray) (l : List Wr) (x : Wr) (m : Nat) (hm : m < 5) (hx : x.key = letK m) : (cellsL (setL L l)).setIfInBounds m (.string x.val) = cellsL (setL L (l ++ [x])) := by
  have e : ∀ k, k < 5 → setL L (l ++ [x]) k = if k = m then x.val else setL L l k := fun k hk => by
    rw [setL_snoc, hx]
    by_cases h : k = m
    · subst h; simp
    · rw [if_neg h, if_neg (fun h2 => h (letK_inj hk hm h2.symm))]
  unfold cellsL
  rw [e 0 (by omega), e 1 (by omega), e 2 (by omega), e 3 (by omega), e 4 (by omega)]
  match m, hm with
  | 0, _ => rfl
  | 1, _ => rfl
  | 2, _ => rfl
  | 3, _ => rfl
  | 4, _ => rfl

theorem cellsL_get (L : Nat → ByteArray) {k : Nat} (hk : k < 5) : (cellsL L)[k]? = some (.string (L k)) := by
  match k, hk with
  | 0, _ => rfl
  | 1, _ => rfl
  | 2, _ => rfl
  | 3, _ => rfl
  | 4, _ => rfl

theorem oneW_ok (n i : Nat) : WrOk (oneW n i) := by
  unfold oneW WrOk
  by_cases h : n / (41 + i) % 4 = 0
  · left; simp [h]
  · right
    simp only [h, if_false, decide_false, true_and]
    unfold letV
    intro e
    have := congrArg ByteArray.size e
    cases this

theorem writes_ok {n : Nat} : ∀ x ∈ writesP n, WrOk x := by
  intro x hx
  unfold writesP at hx
  obtain ⟨i, _, rfl⟩ := List.mem_map.1 hx
  exact oneW_ok n i
end Go.Proofs.Ytcnajkclbmddgaa
