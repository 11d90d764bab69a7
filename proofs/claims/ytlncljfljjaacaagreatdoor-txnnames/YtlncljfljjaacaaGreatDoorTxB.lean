/- A try: its way, what it looks for. -/
import Derived.Test.YtlncljfljjaacaaGreatDoorTxA
import Derived.Deep.AppendLies
import Derived.Handy
namespace Go.Proofs.YtlncljfljjaacaaGreatDoor
open Go.ChangeShapes Go.WideShapes Go.ChangeAt Go.RowKit
set_option linter.unusedVariables false
set_option linter.unusedSimpArgs false

/-- What a kind of request begins with, and ends with. -/
def startF (k : Int) : Nat := if k = 3 then 53 else 50
def finF (k : Int) : Nat := if k = 1 then 51 else if k = 2 then 52 else 54

set_option maxHeartbeats 800000 in
theorem wayOf_any (k : Int) (hk : k = 1 ∨ k = 2 ∨ k = 3) (w : World) :
    Calls Tryz.prog 39 #[.int .i64 k] w fun e w' => e = .returned (.agg #[.string ⟨#[100]⟩, .string ⟨#[102]⟩, .int .i64 8, fnV (startF k), fnV (finF k)]) ∧ Below w.heap.size w w' := by
  rcases hk with rfl | rfl | rfl
  all_goals
    go_enter Tryz.func39, Tryz.ntmps39
    go_wp2
    go_returns
    refine ⟨rfl, ?_⟩
    go_grown

/-- A key that is looked for. -/
structure Lk where
  head : E.Bs
  name : E.Bs
  take : Value
def lkCells (l : List Lk) : List Value := l.flatMap fun x => [.string (E.bs x.head), .string (E.bs x.name), x.take]
theorem info_look : (Tryz.prog.info? 113).map (fun i => (i.zero, i.size, i.bytes)) = some (some (.agg #[.string ⟨#[]⟩, .string ⟨#[]⟩, .nilFunc]), 3, 40) := by kernel_rfl

/-- A bound method. -/
def bndV (f x : Nat) : Value := .func (.func f) #[.pointer (some ⟨x, 0, none⟩)] #[]

set_option maxHeartbeats 1600000 in
set_option maxRecDepth 20000 in
theorem look_any (x : Nat) (cs : Array Value) (la : Option Addr) (lc : Nat) (L : List Lk) (hd nm : E.Bs) (f : Nat) (w : World) (X : Blk w x cs 96) (hc : cs[12]? = some (.slice la L.length lc)) (hr : w.ownsRow 0 113 3 (.slice la L.length lc) L.length (lkCells L)) (hL : L.length ≤ 100000) :
    Calls Tryz.prog 70 #[.pointer (some ⟨x, 0, none⟩), .string (E.bs hd), .string (E.bs nm), bndV f x] w fun e w' => e = .returned (.tuple #[]) ∧ ∃ g c, Blk w' x (cs.setIfInBounds 12 (.slice (some ⟨g, 0, none⟩) (L.length + 1) c)) 96 ∧ w'.ownsRow 0 113 3 (.slice (some ⟨g, 0, none⟩) (L.length + 1) c) (L.length + 1) (lkCells (L ++ [⟨hd, nm, bndV f x⟩])) ∧ (la.map Addr.block = some g ∨ w.heap.size ≤ g) ∧ Only (fun b => b = x ∨ la.map Addr.block = some b) w w' := by
  obtain ⟨i0, hi0, hz0, hz2, hz3⟩ := info_parts info_look
  have c12 := X.cell hc
  have hxl := X.lt
  unfold bndV at *
  go_enter Tryz.func70, Tryz.ntmps70
  have hrx : ∀ g, (Value.slice la L.length lc).ownBlock = some g → g ≠ x := fun g hg e => by
    subst e
    rcases hr.2 with ⟨h1, h2⟩ | ⟨g', cap, cur, h1, _, h3, _⟩
    · rw [h1] at hg; cases hg
    · rw [h1] at hg
      cases hg
      unfold Blk at X
      rw [X] at h3
      injection h3 with h3
      injection h3 with _ h4
      exact absurd h4 (by decide)
  have hmap : (Value.slice la L.length lc).ownBlock = la.map Addr.block := by cases la <;> rfl
  go_wp2_with (at_builtin; refine wpList_append_lies _ rfl _ _ 92 rfl 0 113 i0 (.agg #[.string ⟨#[]⟩, .string ⟨#[]⟩, .nilFunc]) 3 40 Tryz.underlying92 hi0 hz0 hz2 hz3 rfl (by decide) _ L.length (lkCells L) rfl (hr.alloc _) ⟨w.heap.size, 0, none⟩ 1 1 [.string (E.bs hd), .string (E.bs nm), .func (.func f) #[.pointer (some ⟨x, 0, none⟩)] #[]] rfl rfl (World.news_of_block (cs := #[.string (E.bs hd), .string (E.bs nm), .func (.func f) #[.pointer (some ⟨x, 0, none⟩)] #[]]) (t := 113) (fr := (0, 0)) (heap_alloc_new w _)) (by simp [Value.oneCell']) (by omega) (by unfold maxLen; omega) (by omega) (by simp) (w.heap.size + 1) (by simp) ?_; intro g cap w1 hown1 hgrow hat hlt1; have X1 : Blk w1 x cs 96 := (X.of_block (w' := w.alloc (.cells #[.string (E.bs hd), .string (E.bs nm), .func (.func f) #[.pointer (some ⟨x, 0, none⟩)] #[]] 113)) (Below.heap_alloc _ _ _ hxl)).of_block (hgrow.block x (by simp; omega) (fun e => hrx x e.symm rfl)); have d12 := X1.cell hc; have f12 := X1.thawed 12; have hxl1 := X1.lt)
  go_end0
  refine ⟨rfl, g, cap, X1.set 12 _, ?_, ?_, ?_⟩
  · have h1 : lkCells L ++ [.string (E.bs hd), .string (E.bs nm), .func (.func f) #[.pointer (some ⟨x, 0, none⟩)] #[]] = lkCells (L ++ [⟨hd, nm, .func (.func f) #[.pointer (some ⟨x, 0, none⟩)] #[]⟩]) := by simp [lkCells]
    rw [← h1]
    refine row_thru hown1 (fun g' hg' => Below.heap_setCell _ _ _ _ ?_)
    cases hg'
    rcases hat with hat | hat
    · exact hrx _ hat
    · simp only; omega
  · rcases hat with hat | hat
    · left; rw [← hmap]; exact hat
    · right; omega
  · have O1 : Only (fun b => b = x ∨ la.map Addr.block = some b) w (w.alloc (.cells #[.string (E.bs hd), .string (E.bs nm), .func (.func f) #[.pointer (some ⟨x, 0, none⟩)] #[]] 113)) := Only.of_below' (E.below_new _ _) _
    refine O1.trans (G := fun b => b = x ∨ la.map Addr.block = some b) ⟨hgrow.os, hgrow.tape, hgrow.output, ?_, fun i hi hn => ?_⟩ (fun _ _ h => h)
    · have := hgrow.size; simp at this; simp [World.setCell]; omega
    · rw [Below.heap_setCell _ _ _ _ (fun h => hn (.inl h)), hgrow.block i hi (fun h => hn (.inr (by rw [← hmap]; exact h.symm)))]

/-! ### What takes in a value -/
set_option maxHeartbeats 1600000 in
set_option maxRecDepth 20000 in
theorem takeNames_any (x : Nat) (cs : Array Value) (nm v : E.Bs) (is : Bool) (w : World) (X : Blk w x cs 96) (hz : 14 < cs.size) (hv : v.length ≤ 1000000) :
    Calls Tryz.prog 71 #[.pointer (some ⟨x, 0, none⟩), .string (E.bs nm), .string (E.bs v), .bool is] w fun e w' => e = .returned (.tuple #[]) ∧ ∃ a c, Blk w' x (cs.setIfInBounds 14 (.slice a (E.partsP v).length c)) 96 ∧ w'.ownsRow w.heap.size 9 1 (.slice a (E.partsP v).length c) (E.partsP v).length (E.strs (E.partsP v)) ∧ Only (fun b => b = x) w w' := by
  have P := E.parts_any v hv w
  have hxl := X.lt
  go_enter Tryz.func71, Tryz.ntmps71
  go_wp2_with fail
  refine P.mono ?_
  rintro e w1 ⟨pv, rfl, hb, hown⟩
  have X1 := X.of_block (hb.block x hxl)
  have d14 := X1.cell (i := 14) (Array.getElem?_eq_getElem hz)
  have f14 := X1.thawed 14
  have hxl1 := X1.lt
  obtain ⟨pa, pc, rfl⟩ := E.row_slice hown
  clear P
  go_wp2_with fail
  go_end0
  refine ⟨rfl, pa, pc, X1.set 14 _, ?_, ?_⟩
  · have hlt := hown.lt
    refine E.owns_of_block' hown (fun g hg => Below.heap_setCell _ _ _ _ ?_)
    have := (hlt g hg).1
    simp only; omega
  · exact (Only.of_below' hb _).trans (G := fun b => b = x) ⟨rfl, rfl, rfl, by simp [World.setCell], fun i hi hn => Below.heap_setCell _ _ _ _ (fun h => hn h)⟩ (fun _ _ h => h)

set_option maxHeartbeats 800000 in
theorem takeText_any (x : Nat) (cs : Array Value) (nm v : E.Bs) (is : Bool) (w : World) (X : Blk w x cs 96) (hz : 16 < cs.size) :
    Calls Tryz.prog 81 #[.pointer (some ⟨x, 0, none⟩), .string (E.bs nm), .string (E.bs v), .bool is] w fun e w' => e = .returned (.tuple #[]) ∧ Blk w' x ((cs.setIfInBounds 15 (.string (E.bs v))).setIfInBounds 16 (.bool is)) 96 ∧ Only (fun b => b = x) w w' := by
  have d15 := X.cell (i := 15) (Array.getElem?_eq_getElem (by omega))
  have f15 := X.thawed 15
  have d16 := X.cell (i := 16) (Array.getElem?_eq_getElem hz)
  have f16 := X.thawed 16
  have hxl := X.lt
  go_enter Tryz.func81, Tryz.ntmps81
  go_wp2_with fail
  go_end0
  refine ⟨rfl, (X.set 15 _).set 16 _, ?_⟩
  exact ⟨rfl, rfl, rfl, by simp [World.setCell], fun i hi hn => (Below.heap_setCell _ _ _ _ (fun h => hn h)).trans (Below.heap_setCell _ _ _ _ (fun h => hn h))⟩
end Go.Proofs.YtlncljfljjaacaaGreatDoor
