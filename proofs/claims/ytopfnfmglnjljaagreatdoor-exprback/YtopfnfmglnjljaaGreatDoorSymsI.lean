/- What holds while a symbol is made and laid behind others, in whatever order. -/
import Derived.Test.YtopfnfmglnjljaaGreatDoorOrders2
import Derived.Test.YtopfnfmglnjljaaGreatDoorBase
import Derived.Test.YtopfnfmglnjljaaGreatDoorKids
import Derived.Deep.AppendLies
namespace Go.Proofs.YtopfnfmglnjljaaGreatDoor
open Go.ChangeShapes Go.WideShapes Go.ChangeAt Go.RowKit
open Orders
set_option linter.unusedVariables false
set_option linter.unusedSimpArgs false

/-- What each operation yields. -/
def SF (sl arg : Value) (j b o s : Nat) (z q : Int) (nm : Bs) (val : Int) : Nat → Value → World → Prop
  | 0, x, _ => x = sl
  | 1, x, v => ∃ g, x = .slice (some ⟨g, 0, none⟩) 4 4 ∧ v.cell? ⟨g, j, none⟩ = some (.string (bs nm))
  | 2, x, _ => x = .int .i64 j
  | 3, x, v => ∃ g, x = .pointer (some ⟨g, j, none⟩) ∧ v.cell? ⟨g, j, none⟩ = some (.string (bs nm))
  | 4, x, _ => x = .string (bs nm)
  | 5, x, v => ∃ g, x = .slice (some ⟨g, 0, none⟩) 8 8 ∧ v.cell? ⟨g, s, none⟩ = some (.int .i64 val)
  | 6, x, _ => x = arg
  | 7, x, _ => x = .int .i64 j
  | 8, x, _ => x = .pointer (some ⟨b, o + j, none⟩)
  | 9, x, _ => x = .int .i64 z
  | 10, x, _ => x = .int .i64 q
  | 11, x, _ => x = .int .i64 s
  | 12, x, v => ∃ g, x = .pointer (some ⟨g, s, none⟩) ∧ v.cell? ⟨g, s, none⟩ = some (.int .i64 val)
  | 13, x, _ => x = .int .i64 val
  | 14, x, _ => x = .agg #[.string (bs nm), .int .i64 val]
  | 15, x, v => ∃ g, x = .slice (some ⟨g, 0, none⟩) 1 1 ∧ v.heap[g]? = some (.cells #[.string (bs nm), .int .i64 val] 51 (0, 0))
  | _, _, _ => True

theorem SF.later {sl arg : Value} {j b o s : Nat} {z q : Int} {nm : Bs} {val : Int} {v v' : World} (hb : Below v.heap.size v v') : ∀ {k : Nat} {x : Value}, SF sl arg j b o s z q nm val k x v → SF sl arg j b o s z q nm val k x v'
  | 0, _, h => h
  | 1, _, ⟨g, e, h⟩ => ⟨g, e, kept_cell hb h⟩
  | 2, _, h => h
  | 3, _, ⟨g, e, h⟩ => ⟨g, e, kept_cell hb h⟩
  | 4, _, h => h
  | 5, _, ⟨g, e, h⟩ => ⟨g, e, kept_cell hb h⟩
  | 6, _, h => h
  | 7, _, h => h
  | 8, _, h => h
  | 9, _, h => h
  | 10, _, h => h
  | 11, _, h => h
  | 12, _, ⟨g, e, h⟩ => ⟨g, e, kept_cell hb h⟩
  | 13, _, h => h
  | 14, _, h => h
  | 15, _, ⟨g, e, h⟩ => ⟨g, e, by
      have hg : g < v.heap.size := by
        rcases Nat.lt_or_ge g v.heap.size with hlt | hge
        · exact hlt
        · rw [Array.getElem?_eq_none hge] at h; cases h
      rw [hb.block g hg]; exact h⟩
  | _ + 16, _, _ => trivial

def dep : Nat → List Nat
  | 3 => [1, 2]
  | 4 => [3]
  | 8 => [6, 7]
  | 9 => [8]
  | 10 => [9]
  | 11 => [10, 1]
  | 12 => [5, 11]
  | 13 => [12]
  | 14 => [4, 13]
  | 15 => [14]
  | _ => []

def Deps (L : Nat → Bool) : Prop := ∀ k, L k = true → ∀ d ∈ dep k, L d = true

theorem Deps.next {L : Nat → Bool} (h : Deps L) (i : Nat) (hd : ∀ d ∈ dep i, L d = true) : Deps (updL L i) := by
  intro k hk d hdk
  unfold updL at hk ⊢
  by_cases c : d = i
  · simp [c]
  · rw [if_neg c]
    by_cases ck : k = i
    · subst ck; exact hd d hdk
    · rw [if_neg ck] at hk; exact h k hk d hdk

/-- Ahead of the append. -/
def SPre (wr : World) (sl : Value) (F : Nat → Value → World → Prop) (L : Nat → Bool) (u : Nat → Value) (v : World) : Prop :=
  L 16 = false ∧ L 17 = false ∧ u 17 = sl ∧ Below wr.heap.size wr v ∧ Deps L ∧ ∀ k, k < 16 → L k = true → F k (u k) v

/-- Behind it. -/
def SPost (w : World) (n : Nat) (cells : List Value) (L : Nat → Bool) (u : Nat → Value) (v : World) : Prop :=
  (∀ k, k ≤ 16 → L k = true) ∧ Below w.heap.size w v ∧ v.ownsRow w.heap.size 51 2 (u 16) (n + 1) cells ∧ (L 17 = true → u 17 = u 16)

theorem SPre.next {wr : World} {sl : Value} {F : Nat → Value → World → Prop} {L : Nat → Bool} {u : Nat → Value} {v : World} (hF : ∀ (v v' : World), Below v.heap.size v v' → ∀ k x, F k x v → F k x v') (h : SPre wr sl F L u v) (i : Nat) (hi : i < 16) (hd : ∀ d ∈ dep i, L d = true)
    (x : Value) (v' : World) (hb : Below v.heap.size v v') (hx : F i x v') : SPre wr sl F (updL L i) (upd u i x) v' := by
  obtain ⟨h1, h2, h0, h3, h4, h5⟩ := h
  refine ⟨?_, ?_, ?_, h3.trans (hb.mono h3.size), h4.next i hd, fun k hk hl => ?_⟩
  · unfold updL; rw [if_neg (by omega)]; exact h1
  · unfold updL; rw [if_neg (by omega)]; exact h2
  · unfold upd; rw [if_neg (by omega)]; exact h0
  · unfold upd
    by_cases c : k = i
    · subst c; rw [if_pos rfl]; exact hx
    · rw [if_neg c]
      unfold updL at hl
      rw [if_neg c] at hl
      exact hF v v' hb k _ (h5 k hk hl)
end Go.Proofs.YtopfnfmglnjljaaGreatDoor
