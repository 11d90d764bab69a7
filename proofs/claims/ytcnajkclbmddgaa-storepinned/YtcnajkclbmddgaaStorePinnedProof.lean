/- For every list of numbers (nil too) and every number, with no condition, StorePinned holds: what is read at a pinned stamp stays what it was, whatever is written, and cleaned; it changes nothing that was there. -/
import Derived.Test.YtcnajkclbmddgaaRows
import Derived.WalkKit
import Derived.ProofKit
import Derived.OpenShut
import Derived.Carry
import Derived.BigQuiet
import Derived.BigRegion
import Derived.Deep.LoopGhost
import Derived.Lib.QuietBelow
import Derived.Test.YtcnajkclbmddgaaLawsP
import Derived.Test.YtcnajkclbmddgaaLawsF
import Derived.Test.YtcnajkclbmddgaaLawsN
namespace Go.Proofs.Ytcnajkclbmddgaa.storePinned
open Go.ChangeShapes Go.WideShapes Go.ChangeAt Go.RowKit
open Go.ChangeMaps (open_string shut_string)
open Go.Sort (grow)
set_option linter.unusedVariables false
set_option linter.unusedSimpArgs false

theorem own : ownKnob Try.prog.godebug = none := by kernel_rfl

theorem wrap_nz (n : Nat) (h : n ≤ maxLen) : ¬ wrap64 ((n : Int) + 1) = 0 := by
  unfold maxLen at h
  have e : wrap64 ((n : Int) + 1) = ((n : Int) + 1 + 9223372036854775808) % 18446744073709551616 - 9223372036854775808 := by unfold wrap64; omega
  rw [e]
  omega

/-! ### The walk -/
set_option maxHeartbeats 8000000 in
set_option maxRecDepth 20000 in
theorem walk (v0 : Value) (a0 : List Int) (w0 : InRange a0) (l0 : a0.length ≤ maxLen) (a1 : Int) (w1 : (Lit.int .i64 a1).wf = true) (w : World) (s0 : SliceIs w v0 a0) :
    Calls Try.prog 4 #[v0, .int .i64 a1] w fun e w' => e = .returned (.bool true) ∧ Below w.heap.size w w' := by
  have K := known_any w
  obtain ⟨pn, cap, rfl, hns⟩ := s0
  have hns : Hid _ := hns
  have hlnm : Hid (a0.length ≤ maxLen) := l0
  have hnz : ¬ wrap64 ((a0.length : Int) + 1) = 0 := wrap_nz a0.length l0
  have WK := fun w => within_some a1 (wrap64 ((a0.length : Int) + 1)) hnz w
  obtain ⟨n1, hn1⟩ : ∃ n1, wrap64 ((a0.length : Int) + 1) = n1 := ⟨_, rfl⟩
  rw [hn1] at WK
  clear hnz w0 w1 l0
  go_enter Try.func4, Try.ntmps4
  go_wp2_with fail
  refine K.mono ?_
  rintro e w1 ⟨rfl, hb1⟩
  clear K
  have N := new_own w.heap.size w w1 10000 (by omega) hb1 hb1.size
  clear hb1
  go_wp2_with fail
  refine N.mono ?_
  rintro e w2 ⟨p, S, rfl, O, ht, hp, -, -⟩
  clear N
  go_wp2_with fail
  refine (WK w2).mono ?_
  rintro e w3 ⟨rfl, kk, rfl⟩
  clear WK hn1
  go_wp2_with fail
  have hR : Hid (∃ (W : Nat → ByteArray × Bool) (S : St) (s : Sto), Held w.heap.size p w w3 0 false 0 W 0 (.slice none 0 0) (.slice none 0 0) S s) := ⟨_, S, _, Held.start O rfl hp ht⟩
  clear O ht hp
  generalize hln : a0.length = ln at *
  replace hln : Hid (a0.length = ln) := hln
  go_loopg [7, 8, 9, 10] (ln + 1) (fun kx s7 s8 s9 s10 wr => ∃ (i : Nat) (T : Int), s10 = .int .i64 i ∧ s7 = .int .i64 T ∧ i ≤ ln + 1 ∧ ln + 1 - i ≤ kx ∧ i ≤ 50 ∧ Hid (∃ (b : Bool) (n : Nat) (W : Nat → ByteArray × Bool) (S : St) (s : Sto), ((b = false ∧ n = 0) ∨ (b = true ∧ n = 5 ∧ kk < (i : Int))) ∧ Held w.heap.size p w wr i b T W n s8 s9 S s))
  case atStart => exact ⟨0, 0, rfl, rfl, Nat.zero_le _, by omega, by omega, by obtain ⟨W, S, s, h⟩ := hR.out; exact ⟨false, 0, W, S, s, .inl ⟨rfl, rfl⟩, h⟩⟩
  case round =>
    clear hR
    obtain ⟨i, T, rfl, rfl, hi, hg, hi50, Q⟩ := hrel
    obtain ⟨b, n, W, S, s, hbn, Q0⟩ := Q.out
    clear Q
    by_cases hin : i < ln + 1
    · have hinI : (i : Int) ≤ (ln : Int) := by omega
      have hi0 : (0 : Int) ≤ (i : Int) := by omega
      by_cases h50 : i < 50
      · have h50I : (i : Int) < 50 := by omega
        have HF : Hid (i < ln + 1 ∧ i < 50 ∧ ln + 1 - i ≤ gk) := ⟨hin, h50, hg⟩
        clear hi hg hi50 hin h50
        by_cases hik : (i : Int) = kk
        · rcases hbn with ⟨rfl, rfl⟩ | ⟨_, _, h⟩
          case inr => omega
          have hikI : ((i : Int) == kk) = true := by simp; omega
          have HIK : Hid ((i : Int) = kk) := hik
          have PN := Q0.pin
          replace PN := PN.mono (fun e w' h => by
            obtain ⟨T', W', S', s', h1, h2⟩ := h
            exact (⟨T', h1, ⟨W', S', s', h2⟩⟩ : ∃ T', e = .returned (.int .i64 T') ∧ Hid (∃ W S' s', Held w.heap.size p w w' i true T' W 0 u8 u9 S' s')))
          clear Q0 hik
          go_wp2_with fail
          refine PN.mono ?_
          rintro e w4 ⟨T', rfl, Q4⟩
          clear PN
          obtain ⟨W', S4, s4, Q4⟩ := Q4.out
          replace Q4 : Hid (∃ (S : St) (s : Sto), Held w.heap.size p w w4 i true T' W' 0 u8 u9 S s) := ⟨S4, s4, Q4⟩
          go_wp2_with fail
          go_loopg [8, 9, 11] 5 (fun kx s8 s9 s11 wr => ∃ j : Nat, s11 = .int .i64 j ∧ j ≤ 5 ∧ 5 - j ≤ kx ∧ Hid (∃ (S : St) (s : Sto), Held w.heap.size p w wr i true T' W' j s8 s9 S s))
          case atStart => exact ⟨0, rfl, by omega, by omega, Q4⟩
          case round =>
            clear Q4
            obtain ⟨j, rfl, hj, hgj, Qj⟩ := hrel
            obtain ⟨S5, s5, Q5⟩ := Qj.out
            clear Qj
            by_cases hj5 : j < 5
            · have hj5I : (j : Int) < 5 := by omega
              have hj0 : (0 : Int) ≤ (j : Int) := by omega
              have SL := fun w => slice_key j hj5 w
              have HJ : Hid (j < 5 ∧ 5 - j ≤ gk) := ⟨hj5, hgj⟩
              have R1 := Q5.read hj5
              have HG : Hid (∀ w8, Below wr.heap.size wr w8 → Held w.heap.size p w w8 i true T' W' j u8 u9 S5 s5) := fun w8 hb => Q5.later hb
              clear Q5 hj hgj hj5
              go_wp2_with fail
              refine R1.mono ?_
              rintro e w8 ⟨rfl, hb8⟩
              clear R1
              obtain ⟨g1, c1, w6, g2, c2, w7, r1, r2, Q7⟩ := (HG.out w8 hb8).grow HJ.out.1
              replace Q7 : Hid (∃ (S : St) (s : Sto), Held w.heap.size p w w7 i true T' W' (j + 1) (.slice (some ⟨g1, 0, none⟩) (j + 1) c1) (.slice (some ⟨g2, 0, none⟩) (j + 1) c2) S s) := ⟨_, _, Q7⟩
              clear HG hb8 SL
              go_wp2_with (first | (at_builtin; refine wpList_run_app (by rfl) _ _ _ (by rfl) _ _ _ (by rfl) (by rfl) r1 ?_) | (at_builtin; refine wpList_run_app (by rfl) _ _ _ (by rfl) _ _ _ (by rfl) (by rfl) r2 ?_))
              clear r1 r2
              obtain ⟨f1, f2⟩ := HJ.out
              go_wp2_with fail
              go_roundg (5 - (j + 1))
              case rel => exact ⟨j + 1, by go_num, by omega, Nat.le_refl _, Q7⟩
              case measure => omega
            · obtain rfl : j = 5 := by omega
              clear hj hgj hj5
              have QB : Hid (∃ (b : Bool) (n : Nat) (W : Nat → ByteArray × Bool) (S : St) (s : Sto), ((b = false ∧ n = 0) ∨ (b = true ∧ n = 5 ∧ kk < ((i + 1 : Nat) : Int))) ∧ Held w.heap.size p w wr i b T' W n u8 u9 S s) := ⟨true, 5, W', S5, s5, .inr ⟨rfl, rfl, by have := HIK.out; omega⟩, Q5⟩
              clear Q5
              by_cases hil : i < ln
              · have hilI : (i : Int) < (ln : Int) := by omega
                obtain ⟨x, hx⟩ : ∃ x, a0[i]? = some x := ⟨_, List.getElem?_eq_getElem (by rw [hln.out]; exact hil)⟩
                obtain ⟨gb, go, rfl, hcell⟩ := hns.out (by rintro rfl; simp at hx)
                obtain ⟨b, n, W, S5, s5, hbn, Q5⟩ := QB.out
                clear QB
                have HCX : Hid (∀ w9 b n W S s (u v : Value) i', Held w.heap.size p w w9 i' b T' W n u v S s → w9.cell? ⟨gb, go + i, none⟩ = some (.int .i64 x)) := fun w9 b n W S s u v i' h => by
                  have := hcell i x hx
                  rw [h.own.own.below.cell (block_lt this)]; exact this
                have cx := HCX.out _ _ _ _ _ _ _ _ _ Q5
                have W1 := within_any x 1073741824 (by omega) (by omega) wr
                obtain ⟨m, hm, hm2⟩ : ∃ m : Nat, x % 1073741824 = (m : Int) ∧ m < 1073741824 := ⟨(x % 1073741824).toNat, by omega, by omega⟩
                rw [hm] at W1
                have WR := writes_any m hm2 wr
                have W3 := fun w => within_any x 3 (by omega) (by omega) w
                obtain ⟨r, hr, hr3⟩ : ∃ r : Nat, x % 3 = (r : Int) ∧ r < 3 := ⟨(x % 3).toNat, by omega, by omega⟩
                rw [hr] at W3
                replace hr : Hid (x % 3 = (r : Int)) := hr
                replace Q5 : Hid _ := Q5
                replace hbn : Hid _ := hbn
                clear hx hcell hm hm2 hil
                go_wp2_with fail
                refine W1.mono ?_
                rintro e w14 ⟨rfl, rfl⟩
                clear W1
                go_wp2_with fail
                refine WR.mono ?_
                rintro e w15 ⟨uw, vw, rfl, hb15, hu15, -⟩
                clear WR cx
                have CM := Q5.out.commit (by have := HF.out; omega) hb15 hu15
                replace CM := CM.mono (fun e w' h => by
                  obtain ⟨⟨rr, h1⟩, S', s', h2⟩ := h
                  exact (⟨rr, h1, S', s', h2⟩ : ∃ rr, e = .returned rr ∧ ∃ (S' : St) (s' : Sto), Held w.heap.size p w w' (i + 1) b T' W n u8 u9 S' s'))
                clear Q5 hb15 hu15
                go_wp2_with fail
                refine CM.mono ?_
                rintro e w16 ⟨rr, rfl, S16, s16, Q16⟩
                clear CM
                have cx := HCX.out _ _ _ _ _ _ _ _ _ Q16
                replace Q16 : Hid _ := Q16
                go_wp2_with fail
                refine (W3 w16).mono ?_
                rintro e w17 ⟨rfl, rfl⟩
                clear W3 cx HCX
                by_cases hr0 : r = 0
                · subst hr0
                  have CL := Q16.out.clean
                  replace CL := CL.mono (fun e w' h => by
                    obtain ⟨⟨rr, h1⟩, S', s', h2⟩ := h
                    exact (⟨rr, h1, b, n, W, S', s', hbn.out.imp id (fun q => ⟨q.1, q.2.1, by have := q.2.2; omega⟩), h2⟩ : ∃ rr, e = .returned rr ∧ Hid (∃ (b : Bool) (n : Nat) (W : Nat → ByteArray × Bool) (S : St) (s : Sto), ((b = false ∧ n = 0) ∨ (b = true ∧ n = 5 ∧ kk < ((i + 1 : Nat) : Int))) ∧ Held w.heap.size p w w' (i + 1) b T' W n u8 u9 S s)))
                  clear Q16 hbn hr3
                  go_wp2_with fail
                  refine CL.mono ?_
                  rintro e w18 ⟨rr2, rfl, QC⟩
                  clear CL
                  obtain ⟨b, n, W, S9, s9, hbn, Q9⟩ := QC.out
                  clear QC
                  obtain ⟨ad1, c1, hu1⟩ := own_slice Q9.ru
                  obtain ⟨ad2, c2, hu2⟩ := own_slice Q9.rv
                  subst hu1 hu2
                  replace Q9 : Hid (∃ (S : St) (s : Sto), Held w.heap.size p w w18 (i + 1) b T' W n (.slice ad1 n c1) (.slice ad2 n c2) S s) := ⟨S9, s9, Q9⟩
                  replace hbn : Hid _ := hbn
                  go_wp2_with fail
                  go_loopg [16] n (fun kx s16 wr => ∃ j : Nat, s16 = .int .i64 j ∧ j ≤ n ∧ n - j ≤ kx ∧ Hid (∃ (S : St) (s : Sto), Held w.heap.size p w wr (i + 1) b T' W n (.slice ad1 n c1) (.slice ad2 n c2) S s))
                  case atStart => exact ⟨0, rfl, Nat.zero_le _, by omega, Q9⟩
                  case round =>
                    clear Q9
                    obtain ⟨j, rfl, hj, hgj, Qj⟩ := hrel
                    obtain ⟨S6, s6, Q6⟩ := Qj.out
                    clear Qj
                    by_cases hjn : j < n
                    · obtain ⟨hbt, hn5⟩ : b = true ∧ n = 5 := by
                        rcases hbn.out with ⟨_, h⟩ | ⟨h1, h2, _⟩
                        · omega
                        · exact ⟨h1, h2⟩
                      subst hbt
                      have hj5 : j < 5 := by omega
                      clear hn5
                      have hjI : (j : Int) < (n : Int) := by omega
                      have hj0 : (0 : Int) ≤ (j : Int) := by omega
                      have hj5I : (j : Int) < 5 := by omega
                      have SL := fun w => slice_key j hj5 w
                      have HJ : Hid (j < n ∧ n - j ≤ gk) := ⟨hjn, hgj⟩
                      have R1 := Q6.read hj5
                      obtain ⟨ga, cq, ea, -, -⟩ := Q6.ru.form (by omega)
                      obtain ⟨gb2, cq2, eb, -, -⟩ := Q6.rv.form (by omega)
                      injection ea with ea1 ea2 ea3
                      injection eb with eb1 eb2 eb3
                      subst ea1 eb1
                      have HG : Hid (∀ w8, Below wr.heap.size wr w8 → w8.cell? ⟨ga, j, none⟩ = some (.string (W j).1) ∧ w8.cell? ⟨gb2, j, none⟩ = some (.bool (W j).2) ∧ Hid (∃ (S : St) (s : Sto), Held w.heap.size p w w8 (i + 1) true T' W n (.slice (some ⟨ga, 0, none⟩) n c1) (.slice (some ⟨gb2, 0, none⟩) n c2) S s)) := fun w8 hb => by
                        have Q8 := Q6.later hb
                        have x1 := Q8.ru.cells (g := ga) rfl _ _ (rowW_get W hjn)
                        have x2 := Q8.rv.cells (g := gb2) rfl _ _ (rowB_get W hjn)
                        rw [cell_add, Nat.zero_add] at x1 x2
                        exact ⟨x1, x2, _, _, Q8⟩
                      clear Q6 hj hgj hjn hj5 ea2 ea3 eb2 eb3
                      generalize (W j).1 = wj1 at *
                      generalize (W j).2 = wj2 at *
                      go_wp2_with fail
                      refine R1.mono ?_
                      rintro e w8 ⟨rfl, hb8⟩
                      clear R1
                      obtain ⟨x1, x2, Q8⟩ := HG.out w8 hb8
                      clear HG hb8 SL
                      go_wp2_with fail
                      obtain ⟨f1, f2⟩ := HJ.out
                      clear x1 x2
                      go_roundg (n - (j + 1))
                      case rel => exact ⟨j + 1, by go_num, by omega, Nat.le_refl _, Q8⟩
                      case measure => omega
                    · have hjI : ¬ ((j : Int) < (n : Int)) := by omega
                      have QE : Hid (∃ (b : Bool) (n' : Nat) (W : Nat → ByteArray × Bool) (S : St) (s : Sto), ((b = false ∧ n' = 0) ∨ (b = true ∧ n' = 5 ∧ kk < ((i + 1 : Nat) : Int))) ∧ Held w.heap.size p w wr (i + 1) b T' W n' (.slice ad1 n c1) (.slice ad2 n c2) S s) := ⟨b, n, W, S6, s6, hbn.out, Q6⟩
                      obtain ⟨f1, f2, f3⟩ := HF.out
                      clear Q6 hj hgj hjn hbn
                      go_wp2_with fail
                      go_roundg (ln + 1 - (i + 1))
                      case rel => exact ⟨i + 1, T', by go_num, rfl, by omega, Nat.le_refl _, by omega, QE⟩
                      case measure => omega
                · have hrI : ((r : Int) == 0) = false := by simp; omega
                  have QC : Hid (∃ (b : Bool) (n : Nat) (W : Nat → ByteArray × Bool) (S : St) (s : Sto), ((b = false ∧ n = 0) ∨ (b = true ∧ n = 5 ∧ kk < ((i + 1 : Nat) : Int))) ∧ Held w.heap.size p w w17 (i + 1) b T' W n u8 u9 S s) := ⟨b, n, W, _, _, hbn.out.imp id (fun q => ⟨q.1, q.2.1, by have := q.2.2; omega⟩), Q16.out⟩
                  clear Q16 hbn hr3 hr0
                  obtain ⟨b, n, W, S9, s9, hbn, Q9⟩ := QC.out
                  clear QC
                  obtain ⟨ad1, c1, hu1⟩ := own_slice Q9.ru
                  obtain ⟨ad2, c2, hu2⟩ := own_slice Q9.rv
                  subst hu1 hu2
                  replace Q9 : Hid (∃ (S : St) (s : Sto), Held w.heap.size p w w17 (i + 1) b T' W n (.slice ad1 n c1) (.slice ad2 n c2) S s) := ⟨S9, s9, Q9⟩
                  replace hbn : Hid _ := hbn
                  go_wp2_with fail
                  go_loopg [16] n (fun kx s16 wr => ∃ j : Nat, s16 = .int .i64 j ∧ j ≤ n ∧ n - j ≤ kx ∧ Hid (∃ (S : St) (s : Sto), Held w.heap.size p w wr (i + 1) b T' W n (.slice ad1 n c1) (.slice ad2 n c2) S s))
                  case atStart => exact ⟨0, rfl, Nat.zero_le _, by omega, Q9⟩
                  case round =>
                    clear Q9
                    obtain ⟨j, rfl, hj, hgj, Qj⟩ := hrel
                    obtain ⟨S6, s6, Q6⟩ := Qj.out
                    clear Qj
                    by_cases hjn : j < n
                    · obtain ⟨hbt, hn5⟩ : b = true ∧ n = 5 := by
                        rcases hbn.out with ⟨_, h⟩ | ⟨h1, h2, _⟩
                        · omega
                        · exact ⟨h1, h2⟩
                      subst hbt
                      have hj5 : j < 5 := by omega
                      clear hn5
                      have hjI : (j : Int) < (n : Int) := by omega
                      have hj0 : (0 : Int) ≤ (j : Int) := by omega
                      have hj5I : (j : Int) < 5 := by omega
                      have SL := fun w => slice_key j hj5 w
                      have HJ : Hid (j < n ∧ n - j ≤ gk) := ⟨hjn, hgj⟩
                      have R1 := Q6.read hj5
                      obtain ⟨ga, cq, ea, -, -⟩ := Q6.ru.form (by omega)
                      obtain ⟨gb2, cq2, eb, -, -⟩ := Q6.rv.form (by omega)
                      injection ea with ea1 ea2 ea3
                      injection eb with eb1 eb2 eb3
                      subst ea1 eb1
                      have HG : Hid (∀ w8, Below wr.heap.size wr w8 → w8.cell? ⟨ga, j, none⟩ = some (.string (W j).1) ∧ w8.cell? ⟨gb2, j, none⟩ = some (.bool (W j).2) ∧ Hid (∃ (S : St) (s : Sto), Held w.heap.size p w w8 (i + 1) true T' W n (.slice (some ⟨ga, 0, none⟩) n c1) (.slice (some ⟨gb2, 0, none⟩) n c2) S s)) := fun w8 hb => by
                        have Q8 := Q6.later hb
                        have x1 := Q8.ru.cells (g := ga) rfl _ _ (rowW_get W hjn)
                        have x2 := Q8.rv.cells (g := gb2) rfl _ _ (rowB_get W hjn)
                        rw [cell_add, Nat.zero_add] at x1 x2
                        exact ⟨x1, x2, _, _, Q8⟩
                      clear Q6 hj hgj hjn hj5 ea2 ea3 eb2 eb3
                      generalize (W j).1 = wj1 at *
                      generalize (W j).2 = wj2 at *
                      go_wp2_with fail
                      refine R1.mono ?_
                      rintro e w8 ⟨rfl, hb8⟩
                      clear R1
                      obtain ⟨x1, x2, Q8⟩ := HG.out w8 hb8
                      clear HG hb8 SL
                      go_wp2_with fail
                      obtain ⟨f1, f2⟩ := HJ.out
                      clear x1 x2
                      go_roundg (n - (j + 1))
                      case rel => exact ⟨j + 1, by go_num, by omega, Nat.le_refl _, Q8⟩
                      case measure => omega
                    · have hjI : ¬ ((j : Int) < (n : Int)) := by omega
                      have QE : Hid (∃ (b : Bool) (n' : Nat) (W : Nat → ByteArray × Bool) (S : St) (s : Sto), ((b = false ∧ n' = 0) ∨ (b = true ∧ n' = 5 ∧ kk < ((i + 1 : Nat) : Int))) ∧ Held w.heap.size p w wr (i + 1) b T' W n' (.slice ad1 n c1) (.slice ad2 n c2) S s) := ⟨b, n, W, S6, s6, hbn.out, Q6⟩
                      obtain ⟨f1, f2, f3⟩ := HF.out
                      clear Q6 hj hgj hjn hbn
                      go_wp2_with fail
                      go_roundg (ln + 1 - (i + 1))
                      case rel => exact ⟨i + 1, T', by go_num, rfl, by omega, Nat.le_refl _, by omega, QE⟩
                      case measure => omega
              · have hilI : ¬ ((i : Int) < (ln : Int)) := by omega
                have QC : Hid (∃ (b : Bool) (n : Nat) (W : Nat → ByteArray × Bool) (S : St) (s : Sto), ((b = false ∧ n = 0) ∨ (b = true ∧ n = 5 ∧ kk < ((i + 1 : Nat) : Int))) ∧ Held w.heap.size p w wr (i + 1) b T' W n u8 u9 S s) := by
                  obtain ⟨b, n, W, S, s, hbn, h⟩ := QB.out
                  exact ⟨b, n, W, S, s, hbn.imp id (fun q => ⟨q.1, q.2.1, by have := q.2.2; omega⟩), h.up⟩
                clear QB hil
                obtain ⟨b, n, W, S9, s9, hbn, Q9⟩ := QC.out
                clear QC
                obtain ⟨ad1, c1, hu1⟩ := own_slice Q9.ru
                obtain ⟨ad2, c2, hu2⟩ := own_slice Q9.rv
                subst hu1 hu2
                replace Q9 : Hid (∃ (S : St) (s : Sto), Held w.heap.size p w wr (i + 1) b T' W n (.slice ad1 n c1) (.slice ad2 n c2) S s) := ⟨S9, s9, Q9⟩
                replace hbn : Hid _ := hbn
                go_wp2_with fail
                go_loopg [16] n (fun kx s16 wr => ∃ j : Nat, s16 = .int .i64 j ∧ j ≤ n ∧ n - j ≤ kx ∧ Hid (∃ (S : St) (s : Sto), Held w.heap.size p w wr (i + 1) b T' W n (.slice ad1 n c1) (.slice ad2 n c2) S s))
                case atStart => exact ⟨0, rfl, Nat.zero_le _, by omega, Q9⟩
                case round =>
                  clear Q9
                  obtain ⟨j, rfl, hj, hgj, Qj⟩ := hrel
                  obtain ⟨S6, s6, Q6⟩ := Qj.out
                  clear Qj
                  by_cases hjn : j < n
                  · obtain ⟨hbt, hn5⟩ : b = true ∧ n = 5 := by
                      rcases hbn.out with ⟨_, h⟩ | ⟨h1, h2, _⟩
                      · omega
                      · exact ⟨h1, h2⟩
                    subst hbt
                    have hj5 : j < 5 := by omega
                    clear hn5
                    have hjI : (j : Int) < (n : Int) := by omega
                    have hj0 : (0 : Int) ≤ (j : Int) := by omega
                    have hj5I : (j : Int) < 5 := by omega
                    have SL := fun w => slice_key j hj5 w
                    have HJ : Hid (j < n ∧ n - j ≤ gk) := ⟨hjn, hgj⟩
                    have R1 := Q6.read hj5
                    obtain ⟨ga, cq, ea, -, -⟩ := Q6.ru.form (by omega)
                    obtain ⟨gb2, cq2, eb, -, -⟩ := Q6.rv.form (by omega)
                    injection ea with ea1 ea2 ea3
                    injection eb with eb1 eb2 eb3
                    subst ea1 eb1
                    have HG : Hid (∀ w8, Below wr.heap.size wr w8 → w8.cell? ⟨ga, j, none⟩ = some (.string (W j).1) ∧ w8.cell? ⟨gb2, j, none⟩ = some (.bool (W j).2) ∧ Hid (∃ (S : St) (s : Sto), Held w.heap.size p w w8 (i + 1) true T' W n (.slice (some ⟨ga, 0, none⟩) n c1) (.slice (some ⟨gb2, 0, none⟩) n c2) S s)) := fun w8 hb => by
                      have Q8 := Q6.later hb
                      have x1 := Q8.ru.cells (g := ga) rfl _ _ (rowW_get W hjn)
                      have x2 := Q8.rv.cells (g := gb2) rfl _ _ (rowB_get W hjn)
                      rw [cell_add, Nat.zero_add] at x1 x2
                      exact ⟨x1, x2, _, _, Q8⟩
                    clear Q6 hj hgj hjn hj5 ea2 ea3 eb2 eb3
                    generalize (W j).1 = wj1 at *
                    generalize (W j).2 = wj2 at *
                    go_wp2_with fail
                    refine R1.mono ?_
                    rintro e w8 ⟨rfl, hb8⟩
                    clear R1
                    obtain ⟨x1, x2, Q8⟩ := HG.out w8 hb8
                    clear HG hb8 SL
                    go_wp2_with fail
                    obtain ⟨f1, f2⟩ := HJ.out
                    clear x1 x2
                    go_roundg (n - (j + 1))
                    case rel => exact ⟨j + 1, by go_num, by omega, Nat.le_refl _, Q8⟩
                    case measure => omega
                  · have hjI : ¬ ((j : Int) < (n : Int)) := by omega
                    have QE : Hid (∃ (b : Bool) (n' : Nat) (W : Nat → ByteArray × Bool) (S : St) (s : Sto), ((b = false ∧ n' = 0) ∨ (b = true ∧ n' = 5 ∧ kk < ((i + 1 : Nat) : Int))) ∧ Held w.heap.size p w wr (i + 1) b T' W n' (.slice ad1 n c1) (.slice ad2 n c2) S s) := ⟨b, n, W, S6, s6, hbn.out, Q6⟩
                    obtain ⟨f1, f2, f3⟩ := HF.out
                    clear Q6 hj hgj hjn hbn
                    go_wp2_with fail
                    go_roundg (ln + 1 - (i + 1))
                    case rel => exact ⟨i + 1, T', by go_num, rfl, by omega, Nat.le_refl _, by omega, QE⟩
                    case measure => omega
        · have hikI : ((i : Int) == kk) = false := by simp; omega
          have QB : Hid (∃ (b : Bool) (n : Nat) (W : Nat → ByteArray × Bool) (S : St) (s : Sto), ((b = false ∧ n = 0) ∨ (b = true ∧ n = 5 ∧ kk < ((i + 1 : Nat) : Int))) ∧ Held w.heap.size p w wr i b T W n u8 u9 S s) := ⟨b, n, W, S, s, hbn.imp id (fun q => ⟨q.1, q.2.1, by have := q.2.2; omega⟩), Q0⟩
          clear Q0 hbn hik
          by_cases hil : i < ln
          · have hilI : (i : Int) < (ln : Int) := by omega
            obtain ⟨x, hx⟩ : ∃ x, a0[i]? = some x := ⟨_, List.getElem?_eq_getElem (by rw [hln.out]; exact hil)⟩
            obtain ⟨gb, go, rfl, hcell⟩ := hns.out (by rintro rfl; simp at hx)
            obtain ⟨b, n, W, S5, s5, hbn, Q5⟩ := QB.out
            clear QB
            have HCX : Hid (∀ w9 b n W S s (u v : Value) i', Held w.heap.size p w w9 i' b T W n u v S s → w9.cell? ⟨gb, go + i, none⟩ = some (.int .i64 x)) := fun w9 b n W S s u v i' h => by
              have := hcell i x hx
              rw [h.own.own.below.cell (block_lt this)]; exact this
            have cx := HCX.out _ _ _ _ _ _ _ _ _ Q5
            have W1 := within_any x 1073741824 (by omega) (by omega) wr
            obtain ⟨m, hm, hm2⟩ : ∃ m : Nat, x % 1073741824 = (m : Int) ∧ m < 1073741824 := ⟨(x % 1073741824).toNat, by omega, by omega⟩
            rw [hm] at W1
            have WR := writes_any m hm2 wr
            have W3 := fun w => within_any x 3 (by omega) (by omega) w
            obtain ⟨r, hr, hr3⟩ : ∃ r : Nat, x % 3 = (r : Int) ∧ r < 3 := ⟨(x % 3).toNat, by omega, by omega⟩
            rw [hr] at W3
            replace hr : Hid (x % 3 = (r : Int)) := hr
            replace Q5 : Hid _ := Q5
            replace hbn : Hid _ := hbn
            clear hx hcell hm hm2 hil
            go_wp2_with fail
            refine W1.mono ?_
            rintro e w14 ⟨rfl, rfl⟩
            clear W1
            go_wp2_with fail
            refine WR.mono ?_
            rintro e w15 ⟨uw, vw, rfl, hb15, hu15, -⟩
            clear WR cx
            have CM := Q5.out.commit (by have := HF.out; omega) hb15 hu15
            replace CM := CM.mono (fun e w' h => by
              obtain ⟨⟨rr, h1⟩, S', s', h2⟩ := h
              exact (⟨rr, h1, S', s', h2⟩ : ∃ rr, e = .returned rr ∧ ∃ (S' : St) (s' : Sto), Held w.heap.size p w w' (i + 1) b T W n u8 u9 S' s'))
            clear Q5 hb15 hu15
            go_wp2_with fail
            refine CM.mono ?_
            rintro e w16 ⟨rr, rfl, S16, s16, Q16⟩
            clear CM
            have cx := HCX.out _ _ _ _ _ _ _ _ _ Q16
            replace Q16 : Hid _ := Q16
            go_wp2_with fail
            refine (W3 w16).mono ?_
            rintro e w17 ⟨rfl, rfl⟩
            clear W3 cx HCX
            by_cases hr0 : r = 0
            · subst hr0
              have CL := Q16.out.clean
              replace CL := CL.mono (fun e w' h => by
                obtain ⟨⟨rr, h1⟩, S', s', h2⟩ := h
                exact (⟨rr, h1, b, n, W, S', s', hbn.out.imp id (fun q => ⟨q.1, q.2.1, by have := q.2.2; omega⟩), h2⟩ : ∃ rr, e = .returned rr ∧ Hid (∃ (b : Bool) (n : Nat) (W : Nat → ByteArray × Bool) (S : St) (s : Sto), ((b = false ∧ n = 0) ∨ (b = true ∧ n = 5 ∧ kk < ((i + 1 : Nat) : Int))) ∧ Held w.heap.size p w w' (i + 1) b T W n u8 u9 S s)))
              clear Q16 hbn hr3
              go_wp2_with fail
              refine CL.mono ?_
              rintro e w18 ⟨rr2, rfl, QC⟩
              clear CL
              obtain ⟨b, n, W, S9, s9, hbn, Q9⟩ := QC.out
              clear QC
              obtain ⟨ad1, c1, hu1⟩ := own_slice Q9.ru
              obtain ⟨ad2, c2, hu2⟩ := own_slice Q9.rv
              subst hu1 hu2
              replace Q9 : Hid (∃ (S : St) (s : Sto), Held w.heap.size p w w18 (i + 1) b T W n (.slice ad1 n c1) (.slice ad2 n c2) S s) := ⟨S9, s9, Q9⟩
              replace hbn : Hid _ := hbn
              go_wp2_with fail
              go_loopg [16] n (fun kx s16 wr => ∃ j : Nat, s16 = .int .i64 j ∧ j ≤ n ∧ n - j ≤ kx ∧ Hid (∃ (S : St) (s : Sto), Held w.heap.size p w wr (i + 1) b T W n (.slice ad1 n c1) (.slice ad2 n c2) S s))
              case atStart => exact ⟨0, rfl, Nat.zero_le _, by omega, Q9⟩
              case round =>
                clear Q9
                obtain ⟨j, rfl, hj, hgj, Qj⟩ := hrel
                obtain ⟨S6, s6, Q6⟩ := Qj.out
                clear Qj
                by_cases hjn : j < n
                · obtain ⟨hbt, hn5⟩ : b = true ∧ n = 5 := by
                    rcases hbn.out with ⟨_, h⟩ | ⟨h1, h2, _⟩
                    · omega
                    · exact ⟨h1, h2⟩
                  subst hbt
                  have hj5 : j < 5 := by omega
                  clear hn5
                  have hjI : (j : Int) < (n : Int) := by omega
                  have hj0 : (0 : Int) ≤ (j : Int) := by omega
                  have hj5I : (j : Int) < 5 := by omega
                  have SL := fun w => slice_key j hj5 w
                  have HJ : Hid (j < n ∧ n - j ≤ gk) := ⟨hjn, hgj⟩
                  have R1 := Q6.read hj5
                  obtain ⟨ga, cq, ea, -, -⟩ := Q6.ru.form (by omega)
                  obtain ⟨gb2, cq2, eb, -, -⟩ := Q6.rv.form (by omega)
                  injection ea with ea1 ea2 ea3
                  injection eb with eb1 eb2 eb3
                  subst ea1 eb1
                  have HG : Hid (∀ w8, Below wr.heap.size wr w8 → w8.cell? ⟨ga, j, none⟩ = some (.string (W j).1) ∧ w8.cell? ⟨gb2, j, none⟩ = some (.bool (W j).2) ∧ Hid (∃ (S : St) (s : Sto), Held w.heap.size p w w8 (i + 1) true T W n (.slice (some ⟨ga, 0, none⟩) n c1) (.slice (some ⟨gb2, 0, none⟩) n c2) S s)) := fun w8 hb => by
                    have Q8 := Q6.later hb
                    have x1 := Q8.ru.cells (g := ga) rfl _ _ (rowW_get W hjn)
                    have x2 := Q8.rv.cells (g := gb2) rfl _ _ (rowB_get W hjn)
                    rw [cell_add, Nat.zero_add] at x1 x2
                    exact ⟨x1, x2, _, _, Q8⟩
                  clear Q6 hj hgj hjn hj5 ea2 ea3 eb2 eb3
                  generalize (W j).1 = wj1 at *
                  generalize (W j).2 = wj2 at *
                  go_wp2_with fail
                  refine R1.mono ?_
                  rintro e w8 ⟨rfl, hb8⟩
                  clear R1
                  obtain ⟨x1, x2, Q8⟩ := HG.out w8 hb8
                  clear HG hb8 SL
                  go_wp2_with fail
                  obtain ⟨f1, f2⟩ := HJ.out
                  clear x1 x2
                  go_roundg (n - (j + 1))
                  case rel => exact ⟨j + 1, by go_num, by omega, Nat.le_refl _, Q8⟩
                  case measure => omega
                · have hjI : ¬ ((j : Int) < (n : Int)) := by omega
                  have QE : Hid (∃ (b : Bool) (n' : Nat) (W : Nat → ByteArray × Bool) (S : St) (s : Sto), ((b = false ∧ n' = 0) ∨ (b = true ∧ n' = 5 ∧ kk < ((i + 1 : Nat) : Int))) ∧ Held w.heap.size p w wr (i + 1) b T W n' (.slice ad1 n c1) (.slice ad2 n c2) S s) := ⟨b, n, W, S6, s6, hbn.out, Q6⟩
                  obtain ⟨f1, f2, f3⟩ := HF.out
                  clear Q6 hj hgj hjn hbn
                  go_wp2_with fail
                  go_roundg (ln + 1 - (i + 1))
                  case rel => exact ⟨i + 1, T, by go_num, rfl, by omega, Nat.le_refl _, by omega, QE⟩
                  case measure => omega
            · have hrI : ((r : Int) == 0) = false := by simp; omega
              have QC : Hid (∃ (b : Bool) (n : Nat) (W : Nat → ByteArray × Bool) (S : St) (s : Sto), ((b = false ∧ n = 0) ∨ (b = true ∧ n = 5 ∧ kk < ((i + 1 : Nat) : Int))) ∧ Held w.heap.size p w w17 (i + 1) b T W n u8 u9 S s) := ⟨b, n, W, _, _, hbn.out.imp id (fun q => ⟨q.1, q.2.1, by have := q.2.2; omega⟩), Q16.out⟩
              clear Q16 hbn hr3 hr0
              obtain ⟨b, n, W, S9, s9, hbn, Q9⟩ := QC.out
              clear QC
              obtain ⟨ad1, c1, hu1⟩ := own_slice Q9.ru
              obtain ⟨ad2, c2, hu2⟩ := own_slice Q9.rv
              subst hu1 hu2
              replace Q9 : Hid (∃ (S : St) (s : Sto), Held w.heap.size p w w17 (i + 1) b T W n (.slice ad1 n c1) (.slice ad2 n c2) S s) := ⟨S9, s9, Q9⟩
              replace hbn : Hid _ := hbn
              go_wp2_with fail
              go_loopg [16] n (fun kx s16 wr => ∃ j : Nat, s16 = .int .i64 j ∧ j ≤ n ∧ n - j ≤ kx ∧ Hid (∃ (S : St) (s : Sto), Held w.heap.size p w wr (i + 1) b T W n (.slice ad1 n c1) (.slice ad2 n c2) S s))
              case atStart => exact ⟨0, rfl, Nat.zero_le _, by omega, Q9⟩
              case round =>
                clear Q9
                obtain ⟨j, rfl, hj, hgj, Qj⟩ := hrel
                obtain ⟨S6, s6, Q6⟩ := Qj.out
                clear Qj
                by_cases hjn : j < n
                · obtain ⟨hbt, hn5⟩ : b = true ∧ n = 5 := by
                    rcases hbn.out with ⟨_, h⟩ | ⟨h1, h2, _⟩
                    · omega
                    · exact ⟨h1, h2⟩
                  subst hbt
                  have hj5 : j < 5 := by omega
                  clear hn5
                  have hjI : (j : Int) < (n : Int) := by omega
                  have hj0 : (0 : Int) ≤ (j : Int) := by omega
                  have hj5I : (j : Int) < 5 := by omega
                  have SL := fun w => slice_key j hj5 w
                  have HJ : Hid (j < n ∧ n - j ≤ gk) := ⟨hjn, hgj⟩
                  have R1 := Q6.read hj5
                  obtain ⟨ga, cq, ea, -, -⟩ := Q6.ru.form (by omega)
                  obtain ⟨gb2, cq2, eb, -, -⟩ := Q6.rv.form (by omega)
                  injection ea with ea1 ea2 ea3
                  injection eb with eb1 eb2 eb3
                  subst ea1 eb1
                  have HG : Hid (∀ w8, Below wr.heap.size wr w8 → w8.cell? ⟨ga, j, none⟩ = some (.string (W j).1) ∧ w8.cell? ⟨gb2, j, none⟩ = some (.bool (W j).2) ∧ Hid (∃ (S : St) (s : Sto), Held w.heap.size p w w8 (i + 1) true T W n (.slice (some ⟨ga, 0, none⟩) n c1) (.slice (some ⟨gb2, 0, none⟩) n c2) S s)) := fun w8 hb => by
                    have Q8 := Q6.later hb
                    have x1 := Q8.ru.cells (g := ga) rfl _ _ (rowW_get W hjn)
                    have x2 := Q8.rv.cells (g := gb2) rfl _ _ (rowB_get W hjn)
                    rw [cell_add, Nat.zero_add] at x1 x2
                    exact ⟨x1, x2, _, _, Q8⟩
                  clear Q6 hj hgj hjn hj5 ea2 ea3 eb2 eb3
                  generalize (W j).1 = wj1 at *
                  generalize (W j).2 = wj2 at *
                  go_wp2_with fail
                  refine R1.mono ?_
                  rintro e w8 ⟨rfl, hb8⟩
                  clear R1
                  obtain ⟨x1, x2, Q8⟩ := HG.out w8 hb8
                  clear HG hb8 SL
                  go_wp2_with fail
                  obtain ⟨f1, f2⟩ := HJ.out
                  clear x1 x2
                  go_roundg (n - (j + 1))
                  case rel => exact ⟨j + 1, by go_num, by omega, Nat.le_refl _, Q8⟩
                  case measure => omega
                · have hjI : ¬ ((j : Int) < (n : Int)) := by omega
                  have QE : Hid (∃ (b : Bool) (n' : Nat) (W : Nat → ByteArray × Bool) (S : St) (s : Sto), ((b = false ∧ n' = 0) ∨ (b = true ∧ n' = 5 ∧ kk < ((i + 1 : Nat) : Int))) ∧ Held w.heap.size p w wr (i + 1) b T W n' (.slice ad1 n c1) (.slice ad2 n c2) S s) := ⟨b, n, W, S6, s6, hbn.out, Q6⟩
                  obtain ⟨f1, f2, f3⟩ := HF.out
                  clear Q6 hj hgj hjn hbn
                  go_wp2_with fail
                  go_roundg (ln + 1 - (i + 1))
                  case rel => exact ⟨i + 1, T, by go_num, rfl, by omega, Nat.le_refl _, by omega, QE⟩
                  case measure => omega
          · have hilI : ¬ ((i : Int) < (ln : Int)) := by omega
            have QC : Hid (∃ (b : Bool) (n : Nat) (W : Nat → ByteArray × Bool) (S : St) (s : Sto), ((b = false ∧ n = 0) ∨ (b = true ∧ n = 5 ∧ kk < ((i + 1 : Nat) : Int))) ∧ Held w.heap.size p w wr (i + 1) b T W n u8 u9 S s) := by
              obtain ⟨b, n, W, S, s, hbn, h⟩ := QB.out
              exact ⟨b, n, W, S, s, hbn.imp id (fun q => ⟨q.1, q.2.1, by have := q.2.2; omega⟩), h.up⟩
            clear QB hil
            obtain ⟨b, n, W, S9, s9, hbn, Q9⟩ := QC.out
            clear QC
            obtain ⟨ad1, c1, hu1⟩ := own_slice Q9.ru
            obtain ⟨ad2, c2, hu2⟩ := own_slice Q9.rv
            subst hu1 hu2
            replace Q9 : Hid (∃ (S : St) (s : Sto), Held w.heap.size p w wr (i + 1) b T W n (.slice ad1 n c1) (.slice ad2 n c2) S s) := ⟨S9, s9, Q9⟩
            replace hbn : Hid _ := hbn
            go_wp2_with fail
            go_loopg [16] n (fun kx s16 wr => ∃ j : Nat, s16 = .int .i64 j ∧ j ≤ n ∧ n - j ≤ kx ∧ Hid (∃ (S : St) (s : Sto), Held w.heap.size p w wr (i + 1) b T W n (.slice ad1 n c1) (.slice ad2 n c2) S s))
            case atStart => exact ⟨0, rfl, Nat.zero_le _, by omega, Q9⟩
            case round =>
              clear Q9
              obtain ⟨j, rfl, hj, hgj, Qj⟩ := hrel
              obtain ⟨S6, s6, Q6⟩ := Qj.out
              clear Qj
              by_cases hjn : j < n
              · obtain ⟨hbt, hn5⟩ : b = true ∧ n = 5 := by
                  rcases hbn.out with ⟨_, h⟩ | ⟨h1, h2, _⟩
                  · omega
                  · exact ⟨h1, h2⟩
                subst hbt
                have hj5 : j < 5 := by omega
                clear hn5
                have hjI : (j : Int) < (n : Int) := by omega
                have hj0 : (0 : Int) ≤ (j : Int) := by omega
                have hj5I : (j : Int) < 5 := by omega
                have SL := fun w => slice_key j hj5 w
                have HJ : Hid (j < n ∧ n - j ≤ gk) := ⟨hjn, hgj⟩
                have R1 := Q6.read hj5
                obtain ⟨ga, cq, ea, -, -⟩ := Q6.ru.form (by omega)
                obtain ⟨gb2, cq2, eb, -, -⟩ := Q6.rv.form (by omega)
                injection ea with ea1 ea2 ea3
                injection eb with eb1 eb2 eb3
                subst ea1 eb1
                have HG : Hid (∀ w8, Below wr.heap.size wr w8 → w8.cell? ⟨ga, j, none⟩ = some (.string (W j).1) ∧ w8.cell? ⟨gb2, j, none⟩ = some (.bool (W j).2) ∧ Hid (∃ (S : St) (s : Sto), Held w.heap.size p w w8 (i + 1) true T W n (.slice (some ⟨ga, 0, none⟩) n c1) (.slice (some ⟨gb2, 0, none⟩) n c2) S s)) := fun w8 hb => by
                  have Q8 := Q6.later hb
                  have x1 := Q8.ru.cells (g := ga) rfl _ _ (rowW_get W hjn)
                  have x2 := Q8.rv.cells (g := gb2) rfl _ _ (rowB_get W hjn)
                  rw [cell_add, Nat.zero_add] at x1 x2
                  exact ⟨x1, x2, _, _, Q8⟩
                clear Q6 hj hgj hjn hj5 ea2 ea3 eb2 eb3
                generalize (W j).1 = wj1 at *
                generalize (W j).2 = wj2 at *
                go_wp2_with fail
                refine R1.mono ?_
                rintro e w8 ⟨rfl, hb8⟩
                clear R1
                obtain ⟨x1, x2, Q8⟩ := HG.out w8 hb8
                clear HG hb8 SL
                go_wp2_with fail
                obtain ⟨f1, f2⟩ := HJ.out
                clear x1 x2
                go_roundg (n - (j + 1))
                case rel => exact ⟨j + 1, by go_num, by omega, Nat.le_refl _, Q8⟩
                case measure => omega
              · have hjI : ¬ ((j : Int) < (n : Int)) := by omega
                have QE : Hid (∃ (b : Bool) (n' : Nat) (W : Nat → ByteArray × Bool) (S : St) (s : Sto), ((b = false ∧ n' = 0) ∨ (b = true ∧ n' = 5 ∧ kk < ((i + 1 : Nat) : Int))) ∧ Held w.heap.size p w wr (i + 1) b T W n' (.slice ad1 n c1) (.slice ad2 n c2) S s) := ⟨b, n, W, S6, s6, hbn.out, Q6⟩
                obtain ⟨f1, f2, f3⟩ := HF.out
                clear Q6 hj hgj hjn hbn
                go_wp2_with fail
                go_roundg (ln + 1 - (i + 1))
                case rel => exact ⟨i + 1, T, by go_num, rfl, by omega, Nat.le_refl _, by omega, QE⟩
                case measure => omega
      · have hex : Hid (Below w.heap.size w wr) := Q0.own.own.below
        have h50I : ¬ ((i : Int) < 50) := by omega
        clear Q0 hbn hi hg hi50 hin h50
        go_wp2_with fail
        go_ret
        exact ⟨rfl, hex.out⟩
    · have hex : Hid (Below w.heap.size w wr) := Q0.own.own.below
      have hinI : ¬ ((i : Int) ≤ (ln : Int)) := by omega
      clear Q0 hbn hi hg hi50 hin
      go_wp2_with fail
      go_ret
      exact ⟨rfl, hex.out⟩

/-! ### The row's step -/
set_option maxRecDepth 100000 in
theorem lifted (os : Os) (started : os.Started) (H : Type) (enc : TypeId × Value → H) :
    ReturnsInHanded {} Try.checked os 4 .any (Rows.storePinnedSpec.pre6 enc Try.prog Try.f4 Rows.storePinnedRow.domain false) (Rows.storePinnedSpec.post enc Try.prog Try.f4 false true false false) := by
  refine returnsInHanded_of_change (C := Try.checked) own started (by kernel_rfl) Try.func4
    (ChangeSpec.witness6 (enc := enc) (C := Try.checked) false ⟨#[], #[.slice none 0 0, .int .i64 0], []⟩ 8 (by kernel_rfl) (by kernel_rfl) (by kernel_rfl) (by kernel_rfl)) ?_
  intro W base args ds gs before hval0 hW hcnd _
  have hval : ∀ (j : Nat) t v, Try.f4.params[j]? = some t → args[j]? = some v → Value.okWide Try.prog W .any base t v := hval0
  have hW' := hW
  obtain ⟨p, q, hA0, hV, rfl, hfz, hnd⟩ := hW
  have hA : DataW.TrodAll enc Try.prog W 0 (fun _ => true) true Try.f4.params.toList args.toList ds p := hA0
  rw [Try.params4] at hA hval
  obtain ⟨v0, vs0, d0, ds0, p0, q0, hargs, rfl, rfl, h0, r0⟩ := trodAll_cons hA
  obtain ⟨v1, vs1, d1, ds1, p1, q1, rfl, rfl, rfl, h1, r1⟩ := trodAll_cons r0
  obtain ⟨rfl, rfl, rfl⟩ := trodAll_nil r1
  obtain rfl : args = #[v0, v1] := by cases args; simp_all
  obtain ⟨rfl, rfl⟩ := trodVars_none hV
  have k0 := h0
  obtain ⟨a0, s0, w0, l0⟩ := open_ints' (hval 0 22 v0 rfl rfl) h0
  obtain ⟨a1, rfl, rfl, rfl, w1⟩ := open_int Try.underlying3 (hval 1 3 v1 rfl rfl) h1
  clear hA0 hval0
  simp only [List.append_nil, List.nil_append] at hW'
  have hlt : ∀ x ∈ p0, x.block < W.heap.size := fun x hx => by simpa using hW'.lt x (by simpa [or_assoc] using hx)
  refine (walk v0 a0 w0 l0 a1 w1 W s0).mono fun e W' ⟨he, hg⟩ => ?_
  subst he
  exact ⟨_, rfl, _, _, _, [], _, [], hW', (trodAll_cons_mk (shut_bool Try.underlying4 _) trodAll_mk0), (trodAll_cons_mk (Below.trod laidOut (by kernel_rfl) (of_decide_eq_true (by kernel_rfl)) k0 hg (fun x hx => hlt x (by simp [hx]))) (trodAll_cons_mk (shut_int Try.underlying3 w1) trodAll_mk0)), rfl, hg.frame _, fun h => by cases h⟩

theorem row : Rows.StorePinnedSaid :=
  OpenClaim.holds_of_wide 4 Try.f4 rfl rfl rfl rfl rfl rfl rfl ⟨rfl, rfl, rfl, rfl, rfl⟩ rfl rfl rfl rfl rfl (by kernel_rfl) Try.func4 (by kernel_rfl)
    (of_decide_eq_true (by kernel_rfl)) (by unfold Func.isWrapper; first | (rw [if_pos (by decide +kernel)]; kernel_rfl) | (rw [if_neg (by decide +kernel)]; exact ⟨rfl, rfl⟩))
    (fun os started H enc _ => lifted os started H enc)

/-- The statement. -/
theorem proved : Rows.StorePinnedSaid :=
  row
#print axioms proved
end Go.Proofs.Ytcnajkclbmddgaa.storePinned
