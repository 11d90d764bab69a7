/- Whether what was read is stale. -/
import Derived.Test.YtlncljfljjaacaaGreatDoorTxE
namespace Go.Proofs.YtlncljfljjaacaaGreatDoor
open Go.ChangeShapes Go.WideShapes Go.ChangeAt Go.RowKit
set_option linter.unusedVariables false
set_option linter.unusedSimpArgs false

theorem Blk.drew' {w : World} {b : Nat} {cs : Array Value} {t : TypeId} (h : Blk w b cs t) : Blk w.drew b cs t := h

set_option maxHeartbeats 3200000 in
set_option maxRecDepth 20000 in
theorem changedL_any {B p m : Nat} {w0 w : World} {S : St} {s : Sto} (O : OwnP B p w0 w S s m) (x : Nat) (cs : Array Value) (at' : Int) (l : Lk) (f y : Nat) (hl : l.take = bndV f y) (X : Blk w x cs 96) (h0 : cs[0]? = some (.pointer (some ⟨p, 0, none⟩))) (h11 : cs[11]? = some (.int .i64 at')) (hsz : l.head.length + l.name.length ≤ 1000) :
    Calls Tryz.prog 109 #[.pointer (some ⟨x, 0, none⟩), .agg #[.string (E.bs l.head), .string (E.bs l.name), bndV f y]] w fun e w' => e = .returned (.bool (changedP s (E.bs (l.head ++ l.name)) at')) ∧ Below w.heap.size w w' := by
  have hxl := X.lt
  have hks : Hid ((E.bs (l.head ++ l.name)).size ≤ maxLen) := by show _ ≤ _; rw [E.bs_size]; simp; unfold maxLen; omega
  have K := fun v W => lkey_any l.head l.name v W (by omega)
  unfold bndV at *
  have hb1 := E.below_new w (.cells #[.string (E.bs l.head), .string (E.bs l.name), .func (.func f) #[.pointer (some ⟨y, 0, none⟩)] #[]] 113)
  have LB := Blk.new w #[.string (E.bs l.head), .string (E.bs l.name), .func (.func f) #[.pointer (some ⟨y, 0, none⟩)] #[]] 113
  have X1 := X.of_block (hb1.block x hxl)
  generalize hw1 : w.alloc (.cells #[.string (E.bs l.head), .string (E.bs l.name), .func (.func f) #[.pointer (some ⟨y, 0, none⟩)] #[]] 113) = w1 at *
  replace hw1 := hid_of hw1
  have hbd := hid_of hb1.drew
  have XX : Hid (Blk w1.drew x cs 96) := X1.drew'
  have LL : Hid (Blk w1.drew w.heap.size #[.string (E.bs l.head), .string (E.bs l.name), .func (.func f) #[.pointer (some ⟨y, 0, none⟩)] #[]] 113) := LB.drew'
  have OO : Hid (OwnP B p w0 w1.drew S s m) := O.later hbd.out
  have d0 : w1.drew.cell? ⟨x, 0, none⟩ = some (.pointer (some ⟨p, 0, none⟩)) := XX.out.cell h0
  have d11 : w1.drew.cell? ⟨x, 11, none⟩ = some (.int .i64 at') := XX.out.cell h11
  have l0 : w1.drew.cell? ⟨w.heap.size, 0, none⟩ = some (.string (E.bs l.head)) := LL.out.cell rfl
  have l1 : w1.drew.cell? ⟨w.heap.size, 1, none⟩ = some (.string (E.bs l.name)) := LL.out.cell rfl
  have l2 : w1.drew.cell? ⟨w.heap.size, 2, none⟩ = some (.func (.func f) #[.pointer (some ⟨y, 0, none⟩)] #[]) := LL.out.cell rfl
  have hx2 := XX.out.lt
  have hl2 := LL.out.lt
  have h0 := hid_of h0
  have h11 := hid_of h11
  clear O X X1 LB hb1 hl hsz hxl
  go_enter Tryz.func109, Tryz.ntmps109
  go_wp2_with fail
  rw [hw1.out]
  go_region_with (first
    | (go_at_call 61; refine (K _ _).mono ?_; rintro e w3 ⟨rfl, hb3⟩; replace OO := hid_of (OO.out.later hb3); replace hbd := hid_of (hbd.out.trans (hb3.mono hbd.out.size)); replace XX := hid_of (XX.out.of_block (hb3.block _ hx2)); replace LL := hid_of (LL.out.of_block (hb3.block _ hl2)); clear hb3; replace d0 : w3.cell? ⟨x, 0, none⟩ = some (.pointer (some ⟨p, 0, none⟩)) := XX.out.cell h0.out; replace d11 : w3.cell? ⟨x, 11, none⟩ = some (.int .i64 at') := XX.out.cell h11.out; replace l0 : w3.cell? ⟨w.heap.size, 0, none⟩ = some (.string (E.bs l.head)) := LL.out.cell rfl; replace l1 : w3.cell? ⟨w.heap.size, 1, none⟩ = some (.string (E.bs l.name)) := LL.out.cell rfl; replace l2 : w3.cell? ⟨w.heap.size, 2, none⟩ = some (.func (.func f) #[.pointer (some ⟨y, 0, none⟩)] #[]) := LL.out.cell rfl; replace hx2 := XX.out.lt; replace hl2 := LL.out.lt)
    | (go_at_call 137; refine (changed_own OO.out.own (E.bs (l.head ++ l.name)) at' hks.out).mono ?_; rintro e w4 ⟨rfl, nd, rfl⟩))
  all_goals go_wp2_with fail
  all_goals go_ret
  all_goals exact ⟨rfl, hbd.out.trans ((E.below_drewN _ _).mono hbd.out.size)⟩
end Go.Proofs.YtlncljfljjaacaaGreatDoor
