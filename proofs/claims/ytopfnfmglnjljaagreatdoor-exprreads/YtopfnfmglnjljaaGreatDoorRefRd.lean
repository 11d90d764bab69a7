/- The reference's reader: its cells; past, is, digit. -/
import Derived.Test.YtopfnfmglnjljaaGreatDoorBase
namespace Go.Proofs.YtopfnfmglnjljaaGreatDoor.Rf
open Go.Proofs.YtopfnfmglnjljaaGreatDoor
open Go.ChangeShapes Go.WideShapes Go.ChangeAt Go.RowKit
set_option linter.unusedVariables false
set_option linter.unusedSimpArgs false

/-- The reference's reader at b: its text, where it stands, how deep, whether it could not be. -/
structure RR (w : World) (b : Nat) (S : Bs) (p d : Nat) (bad : Bool) : Prop where
  c0 : w.cell? ⟨b, 0, none⟩ = some (.string (bs S))
  c1 : w.cell? ⟨b, 1, none⟩ = some (.int .i64 p)
  c2 : w.cell? ⟨b, 2, none⟩ = some (.int .i64 d)
  c3 : w.cell? ⟨b, 3, none⟩ = some (.bool bad)
  f0 : w.frozen? ⟨b, 0, none⟩ = false
  f1 : w.frozen? ⟨b, 1, none⟩ = false
  f2 : w.frozen? ⟨b, 2, none⟩ = false
  f3 : w.frozen? ⟨b, 3, none⟩ = false
  le : p ≤ S.length

theorem RR.lt {w : World} {b : Nat} {S : Bs} {p d : Nat} {bad : Bool} (h : RR w b S p d bad) : b < w.heap.size := block_lt_of_cell h.c0

theorem RR.of_block {w w' : World} {b : Nat} {S : Bs} {p d : Nat} {bad : Bool} (h : RR w b S p d bad) (e : w'.heap[b]? = w.heap[b]?) : RR w' b S p d bad := by
  constructor
  · rw [cell_of_block e]; exact h.c0
  · rw [cell_of_block e]; exact h.c1
  · rw [cell_of_block e]; exact h.c2
  · rw [cell_of_block e]; exact h.c3
  · rw [frozen_of_block e]; exact h.f0
  · rw [frozen_of_block e]; exact h.f1
  · rw [frozen_of_block e]; exact h.f2
  · rw [frozen_of_block e]; exact h.f3
  · exact h.le
theorem RR.later {w w' : World} {b : Nat} {S : Bs} {p d : Nat} {bad : Bool} (h : RR w b S p d bad) (hb : Below w.heap.size w w') : RR w' b S p d bad := h.of_block (hb.block _ h.lt)
theorem RR.put4 {w : World} {b : Nat} {S : Bs} {p d : Nat} {bad : Bool} (h : RR w b S p d bad) (k : Nat) (b0 b1 b2 b3 : Value) (hk : b ≠ k) : RR (put4 w k b0 b1 b2 b3) b S p d bad := h.of_block (put4_block _ _ _ _ _ _ _ hk)

/-- One of its cells anew. -/
theorem RR.go {w : World} {b : Nat} {S : Bs} {p d : Nat} {bad : Bool} (h : RR w b S p d bad) (q : Nat) (hq : q ≤ S.length) : RR (w.setCell ⟨b, 1, none⟩ (.int .i64 q)) b S q d bad := by
  constructor
  · rw [World.cell?_setCell_other _ _ _ _ (fun e => by cases e)]; exact h.c0
  · rw [World.cell?_setCell_same _ _ _ h.c1]
  · rw [World.cell?_setCell_other _ _ _ _ (fun e => by cases e)]; exact h.c2
  · rw [World.cell?_setCell_other _ _ _ _ (fun e => by cases e)]; exact h.c3
  · simp only [World.frozen?_setCell]; exact h.f0
  · simp only [World.frozen?_setCell]; exact h.f1
  · simp only [World.frozen?_setCell]; exact h.f2
  · simp only [World.frozen?_setCell]; exact h.f3
  · exact hq
theorem RR.deep {w : World} {b : Nat} {S : Bs} {p d : Nat} {bad : Bool} (h : RR w b S p d bad) (q : Nat) : RR (w.setCell ⟨b, 2, none⟩ (.int .i64 q)) b S p q bad := by
  constructor
  · rw [World.cell?_setCell_other _ _ _ _ (fun e => by cases e)]; exact h.c0
  · rw [World.cell?_setCell_other _ _ _ _ (fun e => by cases e)]; exact h.c1
  · rw [World.cell?_setCell_same _ _ _ h.c2]
  · rw [World.cell?_setCell_other _ _ _ _ (fun e => by cases e)]; exact h.c3
  · simp only [World.frozen?_setCell]; exact h.f0
  · simp only [World.frozen?_setCell]; exact h.f1
  · simp only [World.frozen?_setCell]; exact h.f2
  · simp only [World.frozen?_setCell]; exact h.f3
  · exact h.le
theorem RR.spoil {w : World} {b : Nat} {S : Bs} {p d : Nat} {bad : Bool} (h : RR w b S p d bad) : RR (w.setCell ⟨b, 3, none⟩ (.bool true)) b S p d true := by
  constructor
  · rw [World.cell?_setCell_other _ _ _ _ (fun e => by cases e)]; exact h.c0
  · rw [World.cell?_setCell_other _ _ _ _ (fun e => by cases e)]; exact h.c1
  · rw [World.cell?_setCell_other _ _ _ _ (fun e => by cases e)]; exact h.c2
  · rw [World.cell?_setCell_same _ _ _ h.c3]
  · simp only [World.frozen?_setCell]; exact h.f0
  · simp only [World.frozen?_setCell]; exact h.f1
  · simp only [World.frozen?_setCell]; exact h.f2
  · simp only [World.frozen?_setCell]; exact h.f3
  · exact h.le

/-- How much is left. -/
def leftAt (b : Nat) (S : Bs) (w : World) : Nat := match w.cell? ⟨b, 1, none⟩ with
  | some (.int _ p) => S.length - p.toNat
  | _ => 0
theorem RR.left {w : World} {b : Nat} {S : Bs} {p d : Nat} {bad : Bool} (h : RR w b S p d bad) : leftAt b S w = S.length - p := by
  unfold leftAt; rw [h.c1]; simp

/-- The byte that stands at p. -/
theorem index_at (S : Bs) (p : Nat) (c : UInt8) (hc : S[p]? = some c) (w : World) : (Instr.index 9 (.string (bs S)) (.int .i64 (p : Int))).run Tryz.prog w = .ok (.int .u8 c.toNat) w := by
  obtain ⟨hp, hc⟩ := List.getElem?_eq_some_iff.1 hc
  rw [run_index_string w 9 (bs S) .i64 p Tryz.underlying9, dif_pos ⟨by omega, by rw [bs_size]; omega⟩]
  have : (bs S)[(p : Int).toNat]'(by rw [bs_size]; omega) = c := by
    have e : (p : Int).toNat = p := by omega
    simp only [e]
    show (bs S).data[p]'(by rw [← bs_size] at hp; exact hp) = c
    simpa [bs] using hc
  rw [this]

theorem skip_step {S : Bs} {q : Nat} (h : S[q]? = some 32) : skipP (S.drop (q + 1)) = skipP (S.drop q) := by
  obtain ⟨hq, e⟩ := List.getElem?_eq_some_iff.1 h
  rw [List.drop_eq_getElem_cons hq, e]
  simp [skipP, Go.Lib.trimLeftB, List.dropWhile_cons]
theorem skip_stay {S : Bs} {q : Nat} {c : UInt8} (h : S[q]? = some c) (hc : c ≠ 32) : skipP (S.drop q) = S.drop q := by
  obtain ⟨hq, e⟩ := List.getElem?_eq_some_iff.1 h
  rw [List.drop_eq_getElem_cons hq, e]
  simp [skipP, Go.Lib.trimLeftB, List.dropWhile_cons, hc]
theorem skip_end {S : Bs} {q : Nat} (h : S.length ≤ q) : skipP (S.drop q) = S.drop q := by
  rw [List.drop_eq_nil_of_le h]; rfl

set_option maxHeartbeats 1600000 in
set_option maxRecDepth 20000 in
theorem past_any (b : Nat) (S : Bs) (hl : S.length ≤ 35184372088832) (p d : Nat) (bad : Bool) (w : World) (h : RR w b S p d bad) :
    Calls Tryz.prog 36 #[.pointer (some ⟨b, 0, none⟩)] w fun e w' => e = .returned (.tuple #[]) ∧ Beside b w w' ∧ ∃ q, RR w' b S q d bad ∧ S.drop q = skipP (S.drop p) := by
  go_enter Tryz.func36, Tryz.ntmps36
  go_wp2_with fail
  go_loopw [] (fun wr => Beside b w wr ∧ ∃ q, RR wr b S q d bad ∧ Hid (skipP (S.drop q) = skipP (S.drop p))) (fun wr => leftAt b S wr)
  case atStart => exact ⟨Beside.refl _ _, p, h, rfl⟩
  case round =>
    obtain ⟨hb, q, hR, hq⟩ := hrel
    obtain ⟨c0, c1, c2, c3, f0, f1, f2, f3, le⟩ := id hR
    have hlt := hR.lt
    have hsz := bs_size S
    by_cases hqn : q < S.length
    · obtain ⟨c, hc⟩ : ∃ c, S[q]? = some c := ⟨_, List.getElem?_eq_getElem hqn⟩
      have IX := fun w => index_at S q c hc w
      have hI : (q : Int) < ((bs S).size : Int) := by omega
      by_cases h32 : c = 32
      · subst h32
        go_wp2_with fail
        go_quiet (fail)
        go_wp2_with fail
        have hR1 := (hR.later (below_drewN wr nq)).go (q + 1) (by omega)
        exact ⟨⟨hb.trans ((Beside.of (below_drewN wr nq) hlt).trans (Beside.set (a := ⟨b, 1, none⟩) _ rfl _)), q + 1, hR1, (skip_step hc).trans hq.out⟩, by rw [hR.left, show ((q : Int) + 1) = ((q + 1 : Nat) : Int) by omega, hR1.left]; omega⟩
      · have hcI : ((c.toNat : Int) == 32) = false := by
          have : c.toNat ≠ 32 := fun e => h32 (UInt8.toNat_inj.1 e)
          simp; omega
        have hs := skip_stay hc h32
        go_wp2_with fail
        go_quiet (fail)
        go_wp2_with fail
        go_end0
        exact ⟨rfl, hb.trans (Beside.of (below_drewN wr nq) hlt), q, hR.later (below_drewN wr nq), hs.symm.trans hq.out⟩
    · have hI : decide ((q : Int) < ((bs S).size : Int)) = false := by simp; omega
      have hs := skip_end (S := S) (q := q) (by omega)
      go_wp2_with fail
      go_quiet (fail)
      go_wp2_with fail
      go_end0
      exact ⟨rfl, hb.trans (Beside.of (below_drewN wr nq) hlt), q, hR.later (below_drewN wr nq), hs.symm.trans hq.out⟩

/-- What stands at q, as far as t goes. -/
theorem pref_at {S t : Bs} {q : Nat} (h : q + t.length ≤ S.length) : Go.Lib.hasPrefix (S.drop q) t = decide (S.extract q (q + t.length) = t) := by
  rw [List.extract_eq_take_drop, show q + t.length - q = t.length by omega]
  unfold Go.Lib.hasPrefix
  rw [Bool.eq_iff_iff, List.isPrefixOf_iff_prefix, decide_eq_true_iff]
  constructor
  · rintro ⟨u, e⟩; rw [← e]; simp
  · intro e
    have := List.take_append_drop t.length (S.drop q)
    rw [e] at this
    exact ⟨_, this⟩
theorem pref_far {S t : Bs} {q : Nat} (hq : q ≤ S.length) (h : S.length < q + t.length) : Go.Lib.hasPrefix (S.drop q) t = false := by
  unfold Go.Lib.hasPrefix
  rw [Bool.eq_false_iff]
  intro e
  rw [List.isPrefixOf_iff_prefix] at e
  have := e.length_le
  simp at this
  omega

theorem slice_at (S : Bs) (q n : Nat) (h : q + n ≤ S.length) (w : World) : (Instr.slice 9 (.string (bs S)) (some (.int .i64 (q : Int))) (some (.int .i64 ((q : Int) + (n : Int)))) none).run Tryz.prog w = .ok (.string (bs (S.extract q (q + n)))) w := by
  rw [run_slice_string (P := Tryz.prog) (t := 9) (h := Tryz.underlying9) (h0 := by omega) (h1 := by omega) (h2 := by rw [bs_size]; omega)]
  have : ByteArray.extract (bs S) ((q : Int)).toNat ((q : Int) + (n : Int)).toNat = bs (S.extract q (q + n)) := by
    apply ByteArray.ext
    have e1 : ((q : Int)).toNat = q := by omega
    have e2 : ((q : Int) + (n : Int)).toNat = q + n := by omega
    rw [e1, e2]
    simp only [bs, ByteArray.data_extract]
    apply Array.ext'
    simp
  rw [this]

set_option maxHeartbeats 1600000 in
set_option maxRecDepth 20000 in
theorem is_any (b : Nat) (S : Bs) (hl : S.length ≤ 35184372088832) (t : Bs) (ht : t.length ≤ 2) (p d : Nat) (bad : Bool) (w : World) (h : RR w b S p d bad) :
    Calls Tryz.prog 65 #[.pointer (some ⟨b, 0, none⟩), .string (bs t)] w fun e w' => e = .returned (.bool (tookP (S.drop p) t).2) ∧ Beside b w w' ∧ ∃ q, RR w' b S q d bad ∧ S.drop q = (tookP (S.drop p) t).1 := by
  have PA := past_any b S hl p d bad w h
  obtain ⟨r, hr⟩ : ∃ r, r = tookP (S.drop p) t := ⟨_, rfl⟩
  rw [← hr]
  have HR : Hid (r = tookP (S.drop p) t) := hr
  clear hr
  go_enter Tryz.func65, Tryz.ntmps65
  go_wp2_with fail
  refine PA.mono ?_
  rintro e wr ⟨rfl, hb, q, hR, hq⟩
  clear PA h
  obtain ⟨c0, c1, c2, c3, f0, f1, f2, f3, le⟩ := id hR
  have hlt := hR.lt
  have hsz := bs_size S
  have hsz2 := bs_size t
  have hwr : IntKind.i64.wrap ((q : Int) + (t.length : Int)) = (q : Int) + (t.length : Int) := IntWalk.i64_in _ (by omega)
  by_cases hqn : q + t.length ≤ S.length
  · have hI : decide ((S.length : Int) < (q : Int) + (t.length : Int)) = false := by simp; omega
    have hP := pref_at hqn
    rw [hq] at hP
    have SL := fun w => slice_at S q t.length hqn w
    by_cases hE : S.extract q (q + t.length) = t
    · have E2 : Hid (tookP (S.drop p) t = ((S.drop (q + t.length)), true)) := by
        unfold Hid tookP Go.Lib.trimPrefix
        rw [hP, decide_eq_true hE, if_pos rfl, ← hq, List.drop_drop]
      rw [hE] at SL
      clear hP hE
      replace E2 : Hid (r = _) := HR.out.trans E2.out
      go_wp2_with fail
      go_quiet (fail)
      go_wp2_with fail
      go_ret
      have hR1 := (hR.later (below_drewN wr nq)).go (q + t.length) hqn
      rw [show ((q + t.length : Nat) : Int) = (q : Int) + (t.length : Int) by omega] at hR1
      rw [E2.out]
      exact ⟨rfl, hb.trans ((Beside.of (below_drewN wr nq) hlt).trans (Beside.set (a := ⟨b, 1, none⟩) _ rfl _)), _, hR1, rfl⟩
    · have E2 : Hid (tookP (S.drop p) t = ((S.drop q), false)) := by
        unfold Hid tookP Go.Lib.trimPrefix
        rw [hP, decide_eq_false hE, if_neg (by simp), ← hq]
      have hne : ((bs (S.extract q (q + t.length))).toList == (bs t).toList) = false := by
        simp only [ByteArray.toList_eq, bs_list]; simpa using hE
      clear hP hE
      generalize bs (S.extract q (q + t.length)) = ex at *
      replace E2 : Hid (r = _) := HR.out.trans E2.out
      go_wp2_with fail
      go_quiet (fail)
      go_wp2_with fail
      go_ret
      rw [E2.out]
      exact ⟨rfl, hb.trans (Beside.of (below_drewN wr nq) hlt), _, hR.later (below_drewN wr nq), rfl⟩
  · have hI : (S.length : Int) < (q : Int) + (t.length : Int) := by omega
    have hP := pref_far le (t := t) (by omega)
    rw [hq] at hP
    have E2 : Hid (tookP (S.drop p) t = ((S.drop q), false)) := by
      unfold Hid tookP Go.Lib.trimPrefix
      rw [hP, if_neg (by simp), ← hq]
    clear hP
    replace E2 : Hid (r = _) := HR.out.trans E2.out
    go_wp2_with fail
    go_quiet (fail)
    go_wp2_with fail
    go_ret
    rw [E2.out]
    exact ⟨rfl, hb.trans (Beside.of (below_drewN wr nq) hlt), _, hR.later (below_drewN wr nq), rfl⟩
end Go.Proofs.YtopfnfmglnjljaaGreatDoor.Rf
