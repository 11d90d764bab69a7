/- A heap made longer. -/
import Derived.Test.YtcnajkclbmddgaaDown
namespace Go.Proofs.Ytcnajkclbmddgaa
open Go.ChangeShapes Go.WideShapes Go.ChangeAt Go.RowKit
open Go.Sort (grow)
set_option linter.unusedVariables false
set_option linter.unusedSimpArgs false

theorem info_ptr : (Try.prog.info? 76).map (fun i => (i.zero, i.size, i.bytes)) = some (some (.pointer none), 1, 8) := by kernel_rfl

theorem len_any (v : Value) (n : Nat) (w : World) (h : ∃ a c, v = .slice a n c) : Calls Try.prog 76 #[v] w fun e w' => e = .returned (.int .i64 n) ∧ w' = w := by
  obtain ⟨a, c, rfl⟩ := h
  go_enter Try.func76, Try.ntmps76
  go_wp2_with fail
  go_ret
  exact ⟨rfl, rfl⟩

theorem own_slice {w : World} {base : Nat} {e : TypeId} {size : Nat} {v : Value} {n : Nat} {xs : List Value} (h : w.ownsRow base e size v n xs) : ∃ a c, v = .slice a n c := by
  rcases h.2 with ⟨rfl, rfl⟩ | ⟨g, cap, cur, rfl, _⟩
  · exact ⟨_, _, rfl⟩
  · exact ⟨_, _, rfl⟩

theorem assert_m (w : World) (v : Value) : Sem.run Try.prog (Instr.typeAssert (.iface 76 v) 20 76 true) w = .ok (.tuple #[v, .bool true]) w := by kernel_rfl

set_option maxHeartbeats 1600000 in
set_option maxRecDepth 20000 in
theorem push_any (p b : Nat) (cs : Array Value) (v : Value) (l : List Nat) (w : World) (B : Blk w p cs 62) (hc : cs[5]? = some v) (hrow : w.ownsRow 0 76 1 v l.length (ptrs l)) (hne : v.ownBlock ≠ some p) (hf : l.length < 999999) :
    Calls Try.prog 80 #[.pointer (some ⟨p, 5, none⟩), .iface 76 (.pointer (some ⟨b, 0, none⟩))] w fun e w' => e = .returned (.tuple #[]) ∧
      ∃ v', Blk w' p (cs.setIfInBounds 5 v') 62 ∧ w'.ownsRow 0 76 1 v' (l ++ [b]).length (ptrs (l ++ [b])) ∧ Only (fun k => k = p ∨ v.ownBlock = some k) w w' ∧ ∀ g, v'.ownBlock = some g → v.ownBlock = some g ∨ w.heap.size ≤ g := by
  have c1 := B.cell hc
  have f1 := B.thawed 5
  have hX := B.lt
  obtain ⟨i0, hi0, hz0, hz2, hz3⟩ := info_parts info_ptr
  replace hf : Hid (l.length < 999999) := hf
  have TA := assert_m w (.pointer (some ⟨b, 0, none⟩))
  have B1 := below_new w (.cells #[.pointer (some ⟨b, 0, none⟩)] 76)
  have c1A := kept_cell B1 c1
  have f1A := kept_thawed B1 hX f1
  have hblkA : Blk (w.alloc (.cells #[.pointer (some ⟨b, 0, none⟩)] 76)) p cs 62 := B.of_block (B1.block p hX)
  have hB : Hid (Blk w p cs 62) := B
  clear B
  go_enter Try.func80, Try.ntmps80
  go_wp2_with (at_builtin; refine wpList_append_lies _ rfl _ _ _ rfl 0 76 i0 (.pointer none) 1 8 Try.underlying60 hi0 hz0 hz2 hz3 rfl (by decide) v l.length (ptrs l) rfl (hrow.alloc _) ⟨w.heap.size, 0, none⟩ 1 1 [.pointer (some ⟨b, 0, none⟩)] rfl rfl (World.news_of_block (cs := #[.pointer (some ⟨b, 0, none⟩)]) (t := 76) (fr := (0, 0)) (heap_alloc_new w _)) (by simp [Value.oneCell']) (by omega) (by have := hf.out; unfold maxLen; omega) (by have := hf.out; omega) (Nat.zero_le _) (w.heap.size + 1) (by simp) ?_; intro g cap w6 hown6 hgrow hat hlt6; have x6 := hgrow.cell c1A (Ne.symm hne); have th6 : w6.frozen? ⟨p, 5, none⟩ = false := (hgrow.frozen_far ⟨p, 5, none⟩ (Nat.lt_of_lt_of_le hX B1.size) (Ne.symm hne)).trans f1A)
  go_end0
  have hb6 : Blk w6 p cs 62 := hblkA.of_block (hgrow.block p (Nat.lt_of_lt_of_le hX B1.size) (Ne.symm hne))
  have hgb : p ≠ g := by
    rintro rfl
    rcases hat with h | h
    · exact hne h
    · omega
  refine ⟨rfl, _, hb6.set 5 _, ?_, ?_, ?_⟩
  · have := ownsRow_setCell_other hown6 (a := ⟨p, 5, none⟩) (by simpa [Value.ownBlock] using Ne.symm hgb) (.slice (some ⟨g, 0, none⟩) (l.length + 1) cap)
    simpa [ptrs, ptrV] using this
  · refine ⟨hgrow.os.trans B1.os, hgrow.tape.trans B1.tape, hgrow.output.trans B1.output, ?_, fun k hk hn => ?_⟩
    · have := hgrow.size
      have := B1.size
      simp [World.setCell] at *
      omega
    · rw [Below.heap_setCell _ _ _ _ (fun e => hn (.inl e)), hgrow.block k (Nat.lt_of_lt_of_le hk B1.size) (fun e => hn (.inr e.symm)), B1.block k hk]
  · intro g' hg'
    simp [Value.ownBlock] at hg'
    subst hg'
    rcases hat with h | h
    · exact .inl h
    · right; omega
end Go.Proofs.Ytcnajkclbmddgaa
