/- The first Step of a try. -/
import Derived.Test.YtlncljfljjaacaaGreatDoorTxF
namespace Go.Proofs.YtlncljfljjaacaaGreatDoor
open Go.ChangeShapes Go.WideShapes Go.ChangeAt Go.RowKit
set_option linter.unusedVariables false
set_option linter.unusedSimpArgs false

/-- A try in memory: in blocks of F. -/
def TryAt (w : World) (F : Nat → Prop) (x p b : Nat) (k : Int) (n t : E.Bs) (at' : Int) (L : List Lk) (past : Int) (N : List E.Bs) (text : E.Bs) (is : Bool) : Prop :=
  ∃ g c a c2, Blk w x (tryCs p b k n t (startF k) (finF k) at' (.slice (some ⟨g, 0, none⟩) L.length c) past (.slice a N.length c2) text is) 96 ∧ w.ownsRow 0 113 3 (.slice (some ⟨g, 0, none⟩) L.length c) L.length (lkCells L) ∧ w.ownsRow 0 9 1 (.slice a N.length c2) N.length (E.strs N) ∧ F x ∧ F g ∧ ∀ h, (Value.slice a N.length c2).ownBlock = some h → F h

/-- The names that were read. -/
def namesP (s : Sto) (at' : Int) : List E.Bs := E.partsP (readP s ⟨#[100]⟩ at').1.data.toList
/-- The keys that are looked for behind them. -/
def looksP (k : Int) (n : E.Bs) (N : List E.Bs) (x : Nat) : List Lk := if k = 3 then moreL n N x [look0 k x] else [look0 k x]

theorem row_base {w : World} {base base' : Nat} {e : TypeId} {size : Nat} {v : Value} {n : Nat} {xs : List Value} (h : w.ownsRow base e size v n xs) (hb : base' ≤ base) : w.ownsRow base' e size v n xs := by
  obtain ⟨h1, h2⟩ := h
  refine ⟨h1, ?_⟩
  rcases h2 with h2 | ⟨g, cap, cur, e1, e2, r⟩
  · exact .inl h2
  · exact .inr ⟨g, cap, cur, e1, Nat.le_trans hb e2, r⟩

theorem takeF_enters (k : Int) (args : Array Value) (w : World) : (callFunc (takeF k) args).run Tryz.prog w = .ok (.enter (takeF k) args) w := by
  unfold takeF
  split
  · exact enters_of Tryz.func80 (by kernel_rfl) rfl args w
  · exact enters_of Tryz.func71 (by kernel_rfl) rfl args w

/-- What the first read leaves. -/
def ReadOne (w w' : World) (tb x p b : Nat) (k : Int) (n t : E.Bs) (s : Sto) (at' : Int) (g : Nat) : Prop :=
  ∃ g1 c1 a c2, Blk w' x (tryCs p b k n t (startF k) (finF k) at' (.slice (some ⟨g1, 0, none⟩) (looksP k n (namesP s at') x).length c1) 1 (.slice a (namesP s at').length c2) [] false) 96
    ∧ w'.ownsRow 0 113 3 (.slice (some ⟨g1, 0, none⟩) (looksP k n (namesP s at') x).length c1) (looksP k n (namesP s at') x).length (lkCells (looksP k n (namesP s at') x))
    ∧ w'.ownsRow w.heap.size 9 1 (.slice a (namesP s at').length c2) (namesP s at').length (E.strs (namesP s at')) ∧ (g1 = g ∨ w.heap.size ≤ g1) ∧ Only (fun i => i = x ∨ i = g) w w'

set_option maxHeartbeats 1600000 in
set_option maxRecDepth 20000 in
/-- x.read at the first key. -/
theorem firstRead_any {B p m : Nat} {w0 w : World} {S : St} {s : Sto} (O : OwnP B p w0 w S s m) (x b : Nat) (k : Int) (n t : E.Bs) (at' : Int) (g c : Nat) (X : Blk w x (tryCs p b k n t (startF k) (finF k) at' (.slice (some ⟨g, 0, none⟩) 1 c) 0 (.slice none 0 0) [] false) 96)
    (hr : w.ownsRow 0 113 3 (.slice (some ⟨g, 0, none⟩) 1 c) 1 (lkCells [look0 k x])) (hB : B ≤ x) (hnl : ¬ (S.lab x).isSome) (hv : (readP s ⟨#[100]⟩ at').1.size ≤ 1000000) (tb : Nat) :
    Calls Tryz.prog 41 #[.pointer (some ⟨x, 0, none⟩)] w fun e w' => e = .returned (.tuple #[]) ∧ ReadOne w w' tb x p b k n t s at' g := by
  have hgx : g ≠ x := row_ne hr X (by decide)
  have hgl : g < w.heap.size := (hr.lt g rfl).2
  have hkey : E.bs ((look0 k x).head ++ (look0 k x).name) = ⟨#[100]⟩ := rfl
  have hvb := E.bs_of (readP s ⟨#[100]⟩ at').1
  refine tread_any O x b k n t (startF k) (finF k) at' g c [look0 k x] 0 (.slice none 0 0) [] false X hr (look0 k x) rfl (takeF k) rfl (by simp [look0]) (by omega) _ ?_ (takeF_enters k) hB hnl
  intro w1 O1 X1
  rw [hkey]
  have hr1 : w1.ownsRow 0 113 3 (.slice (some ⟨g, 0, none⟩) 1 c) 1 (lkCells [look0 k x]) := row_thru hr (fun g' hg' => by cases hg'; exact O1.block g hgl hgx)
  have hnm : (look0 k x).name = [] := rfl
  rw [hnm, hvb]
  unfold ReadOne namesP looksP takeF
  generalize (readP s ⟨#[100]⟩ at').2 = is at *
  obtain ⟨v, hvv⟩ : ∃ v, v = (readP s ⟨#[100]⟩ at').1.data.toList := ⟨_, rfl⟩
  rw [← hvv]
  have hvl : v.length ≤ 1000000 := by rw [hvv, Array.length_toList]; exact hv
  have hs1 := O1.size
  by_cases hk : k = 3
  · rw [if_pos hk]
    simp only [if_pos hk]
    refine (takeBoth_any x _ n v g c [look0 k x] is w1 X1 (by simp [tryCs]) rfl rfl rfl hr1 (by simp) hvl []).mono ?_
    rintro e w2 ⟨rfl, a, c2, g1, c1, X2, hN, hL, hg1, O2⟩
    refine ⟨rfl, g1, c1, a, c2, X2, hL, row_base hN hs1, by omega, ?_⟩
    exact (O1.mono (fun i _ h => .inl h)).trans (G := fun i => i = x ∨ i = g) O2 (fun i _ h => h)
  · rw [if_neg hk]
    simp only [if_neg hk]
    refine (takeNames_any x _ [] v is w1 X1 (by simp [tryCs]) hvl).mono ?_
    rintro e w2 ⟨rfl, a, c2, X2, hN, O2⟩
    refine ⟨rfl, g, c, a, c2, X2, row_thru hr1 (fun g' hg' => by cases hg'; exact O2.block g (by omega) hgx), row_base hN hs1, .inl rfl, ?_⟩
    exact (O1.mono (fun i _ h => .inl h)).trans (G := fun i => i = x) O2 (fun i _ h => .inl h)
end Go.Proofs.YtlncljfljjaacaaGreatDoor
