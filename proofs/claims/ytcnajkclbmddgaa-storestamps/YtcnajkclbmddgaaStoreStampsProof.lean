/- For every list of numbers (nil too), with no condition, StoreStamps holds: stamps rise one by one, by commits alone, an empty one among them; it changes nothing that was there. -/
import Derived.Test.YtcnajkclbmddgaaRows
import Derived.WalkKit
import Derived.ProofKit
import Derived.OpenShut
import Derived.Carry
import Derived.BigQuiet
import Derived.BigRegion
import Derived.Deep.LoopGhost
import Derived.Lib.QuietBelow
import Derived.Test.YtcnajkclbmddgaaLawsP
namespace Go.Proofs.Ytcnajkclbmddgaa.storeStamps
open Go.ChangeShapes Go.WideShapes Go.ChangeAt Go.RowKit
open Go.ChangeMaps (open_string shut_string)
open Go.Sort (grow)
set_option linter.unusedVariables false
set_option linter.unusedSimpArgs false

theorem own : ownKnob Try.prog.godebug = none := by kernel_rfl

/-! ### The walk -/
set_option maxHeartbeats 8000000 in
set_option maxRecDepth 20000 in
theorem walk (v0 : Value) (a0 : List Int) (w0 : InRange a0) (l0 : a0.length ≤ maxLen) (w : World) (s0 : SliceIs w v0 a0) :
    Calls Try.prog 7 #[v0] w fun e w' => e = .returned (.bool true) ∧ Below w.heap.size w w' := by
  have K := known_any w
  obtain ⟨pn, cap, rfl, hns⟩ := s0
  go_enter Try.func7, Try.ntmps7
  go_wp2_with fail
  refine K.mono ?_
  rintro e w1 ⟨rfl, hb1⟩
  clear K
  have N := new_own w.heap.size w w1 10000 (by omega) hb1 hb1.size
  clear hb1
  go_wp2_with fail
  refine N.mono ?_
  rintro e w2 ⟨p, S, rfl, O, ht, hp, -, -⟩
  clear N
  go_wp2_with fail
  have hR : Hid (∃ (S : St) (s : Sto), Stamped w.heap.size p w w2 0 0 S s) := ⟨S, _, O.fresh (n := 0) hp rfl, by omega, rfl, rfl, by omega, by omega⟩
  clear O ht hp
  have hns : Hid _ := hns
  have hrg : Hid (InRange a0) := w0
  clear w0 l0
  generalize hln : a0.length = ln
  replace hln : Hid (a0.length = ln) := hln
  go_loopg [4, 5] ln (fun kx s4 s5 wr => ∃ (i : Nat) (t : Int), s5 = .int .i64 i ∧ s4 = .int .i64 t ∧ i ≤ ln ∧ ln - i ≤ kx ∧ i ≤ 50 ∧ Hid (∃ (S : St) (s : Sto), Stamped w.heap.size p w wr i t S s))
  case atStart => exact ⟨0, 0, rfl, rfl, Nat.zero_le _, by omega, by omega, hR⟩
  case round =>
    clear hR
    obtain ⟨i, t, rfl, rfl, hi, hg, hi50, Q⟩ := hrel
    by_cases hin : i < ln
    · have hinI : (i : Int) < (ln : Int) := by omega
      have hi0 : (0 : Int) ≤ (i : Int) := by omega
      by_cases h50 : i < 50
      · have h50I : (i : Int) < 50 := by omega
        obtain ⟨x, hx⟩ : ∃ x, a0[i]? = some x := ⟨_, List.getElem?_eq_getElem (by rw [hln.out]; exact hin)⟩
        obtain ⟨S, s, Q0⟩ := Q.out
        obtain ⟨gb, go, rfl, hcell⟩ := hns.out (by rintro rfl; simp at hx)
        have cx : wr.cell? ⟨gb, go + i, none⟩ = some (.int .i64 x) := by
          have := hcell i x hx
          rw [Q0.own.own.below.cell (block_lt this)]; exact this
        have W5 := within_any x 5 (by omega) (by omega) wr
        obtain ⟨r, hr, hr5⟩ : ∃ r : Nat, x % 5 = (r : Int) ∧ r < 5 := ⟨(x % 5).toNat, by omega, by omega⟩
        rw [hr] at W5
        replace hr : Hid (x % 5 = (r : Int)) := hr
        have W1 := within_any x 1073741824 (by omega) (by omega) wr
        obtain ⟨n, hn, hn2⟩ : ∃ n : Nat, x % 1073741824 = (n : Int) ∧ n < 1073741824 := ⟨(x % 1073741824).toNat, by omega, by omega⟩
        rw [hn] at W1
        have WR := writes_any n hn2 wr
        have HF : Hid (i < ln ∧ i < 50 ∧ ln - i ≤ gk) := ⟨hin, h50, hg⟩
        clear hx hcell hn hn2 hi hg hi50 hin h50 Q
        go_wp2_with fail
        refine W5.mono ?_
        rintro e w4 ⟨rfl, rfl⟩
        clear W5
        have hQ0 : Hid (Stamped w.heap.size p w w4 i t S s) := Q0
        have hle : Hid (0 ≤ t ∧ t ≤ i) := Q0.le
        clear Q0
        -- the end of a round
        have TAIL : Hid (∀ w8 t9 S8 s8, Stamped w.heap.size p w w8 (i + 1) t9 S8 s8 → Calls Try.prog 25 #[.pointer (some ⟨p, 0, none⟩)] w8 fun e w' => e = .returned (.int .i64 t9) ∧ w' = w8) := fun w8 t9 S8 s8 O8 => by
          have TN := now_own O8.own.own
          rw [O8.stamp] at TN
          exact TN
        rcases (by omega : (r = 0 ∨ r = 1) ∨ r = 2 ∨ r = 3 ∨ r = 4) with hr01 | rfl | rfl | rfl
        · rcases hr01 with rfl | rfl
          all_goals
            clear hr5
            go_wp2_with fail
            refine W1.mono ?_
            rintro e w5 ⟨rfl, rfl⟩
            clear W1
            go_wp2_with fail
            refine WR.mono ?_
            rintro e w6 ⟨u, v, rfl, hb6, hu, -⟩
            clear WR
            have CM := commit_row hQ0.out.own hb6 hu (by have := hQ0.out.tot; have := HF.out; omega) (by have := hQ0.out.stamp; have := hQ0.out.le; have := HF.out; omega)
            replace CM := CM.mono (fun e w' h => by
              obtain ⟨S', h1, h2, -, h4⟩ := h
              obtain ⟨h5, s', h6⟩ := hQ0.out.commit (by have := HF.out; omega) h2 h4
              rw [h5] at h1
              exact (⟨h1, ⟨S', s', h6⟩⟩ : e = .returned (.tuple #[.int .i64 (t + 1), .int .i64 0]) ∧ Hid (∃ S' s', Stamped w.heap.size p w w' (i + 1) (t + 1) S' s')))
            clear hu hb6 hQ0
            obtain ⟨t9, ht9, hb90, hb91⟩ : ∃ t9, t + 1 = t9 ∧ 0 ≤ t9 ∧ t9 < 1000 := ⟨_, rfl, by have := hle.out; have := HF.out; omega, by have := hle.out; have := HF.out; omega⟩
            rw [ht9] at CM
            replace hle : Hid (t9 ≤ i + 1) := by have := hle.out; exact (by omega : t9 ≤ (i : Int) + 1)
            go_wp2_with fail
            refine CM.mono ?_
            rintro e w8 ⟨rfl, Q8⟩
            clear CM
            obtain ⟨S8, s8, O8⟩ := Q8.out
            have TN := TAIL.out w8 t9 S8 s8 O8
            clear O8 TAIL
            go_wp2_with fail
            refine TN.mono ?_
            rintro e w9 ⟨rfl, rfl⟩
            clear TN
            obtain ⟨f1, f2, f3⟩ := HF.out
            go_wp2_with fail
            go_roundg (ln - (i + 1))
            case rel => exact ⟨i + 1, t9, by go_num, rfl, by omega, Nat.le_refl _, by omega, Q8⟩
            case measure => omega
        · clear W1 WR hr5
          have CM := commit_nil hQ0.out.own (by have := hQ0.out.tot; have := HF.out; omega) (by have := hQ0.out.stamp; have := hQ0.out.le; have := HF.out; omega)
          replace CM := CM.mono (fun e w' h => by
            obtain ⟨S', h1, h2, -, h4⟩ := h
            obtain ⟨h5, s', h6⟩ := hQ0.out.nil (by have := HF.out; omega) h2 h4
            rw [h5] at h1
            exact (⟨⟨_, h1⟩, ⟨S', s', h6⟩⟩ : (∃ e2, e = .returned (.tuple #[.int .i64 (t + 1), .int .i64 e2])) ∧ Hid (∃ S' s', Stamped w.heap.size p w w' (i + 1) (t + 1) S' s')))
          clear hQ0
          obtain ⟨t9, ht9, hb90, hb91⟩ : ∃ t9, t + 1 = t9 ∧ 0 ≤ t9 ∧ t9 < 1000 := ⟨_, rfl, by have := hle.out; have := HF.out; omega, by have := hle.out; have := HF.out; omega⟩
          rw [ht9] at CM
          go_wp2_with fail
          refine CM.mono ?_
          rintro e w8 ⟨⟨e2, rfl⟩, Q8⟩
          clear CM
          obtain ⟨S8, s8, O8⟩ := Q8.out
          have TN := TAIL.out w8 t9 S8 s8 O8
          clear O8 TAIL
          go_wp2_with fail
          refine TN.mono ?_
          rintro e w9 ⟨rfl, rfl⟩
          clear TN
          obtain ⟨f1, f2, f3⟩ := HF.out
          go_wp2_with fail
          go_roundg (ln - (i + 1))
          case rel => exact ⟨i + 1, t9, by go_num, rfl, by omega, Nat.le_refl _, by omega, Q8⟩
          case measure => omega
        · clear W1 WR hr5
          have CM := pin_own hQ0.out.own (by have := HF.out; omega)
          replace CM := CM.mono (fun e w' h => by
            obtain ⟨S', h1, h2, -, h4⟩ := h
            rw [hQ0.out.stamp] at h1
            exact (⟨h1, ⟨S', _, hQ0.out.same h2 h4 rfl rfl⟩⟩ : e = .returned (.int .i64 t) ∧ Hid (∃ S' s', Stamped w.heap.size p w w' (i + 1) t S' s')))
          clear hQ0
          go_wp2_with fail
          refine CM.mono ?_
          rintro e w8 ⟨rfl, Q8⟩
          clear CM
          obtain ⟨S8, s8, O8⟩ := Q8.out
          have TN := TAIL.out w8 t S8 s8 O8
          clear O8 TAIL
          go_wp2_with fail
          refine TN.mono ?_
          rintro e w9 ⟨rfl, rfl⟩
          clear TN
          obtain ⟨f1, f2, f3⟩ := HF.out
          go_wp2_with fail
          go_roundg (ln - (i + 1))
          case rel => exact ⟨i + 1, t, by go_num, rfl, by omega, Nat.le_refl _, by omega, Q8⟩
          case measure => omega
        · clear W1 WR hr5
          have CM := clean_own (hQ0.out.own.more (Nat.le_succ i))
          replace CM := CM.mono (fun e w' h => by
            obtain ⟨S', h1, h2, -, h4⟩ := h
            exact (⟨⟨_, h1⟩, ⟨S', _, hQ0.out.same h2 h4 rfl rfl⟩⟩ : (∃ v, e = .returned (.int .i64 v)) ∧ Hid (∃ S' s', Stamped w.heap.size p w w' (i + 1) t S' s')))
          clear hQ0
          go_wp2_with fail
          refine CM.mono ?_
          rintro e w8 ⟨⟨cv, rfl⟩, Q8⟩
          clear CM
          obtain ⟨S8, s8, O8⟩ := Q8.out
          have TN := TAIL.out w8 t S8 s8 O8
          clear O8 TAIL
          go_wp2_with fail
          refine TN.mono ?_
          rintro e w9 ⟨rfl, rfl⟩
          clear TN
          obtain ⟨f1, f2, f3⟩ := HF.out
          go_wp2_with fail
          go_roundg (ln - (i + 1))
          case rel => exact ⟨i + 1, t, by go_num, rfl, by omega, Nat.le_refl _, by omega, Q8⟩
          case measure => omega
      · have hex : Hid (Below w.heap.size w wr) := by
          obtain ⟨_, _, O⟩ := Q.out
          exact O.own.own.below
        have h50I : ¬ ((i : Int) < 50) := by omega
        clear Q hi hg hi50 hin h50
        go_wp2_with fail
        go_ret
        exact ⟨rfl, hex.out⟩
    · have hex : Hid (Below w.heap.size w wr) := by
        obtain ⟨_, _, O⟩ := Q.out
        exact O.own.own.below
      have hinI : ¬ ((i : Int) < (ln : Int)) := by omega
      clear Q hi hg hi50 hin
      go_wp2_with fail
      go_ret
      exact ⟨rfl, hex.out⟩

/-! ### The row's step -/
set_option maxRecDepth 100000 in
theorem lifted (os : Os) (started : os.Started) (H : Type) (enc : TypeId × Value → H) :
    ReturnsInHanded {} Try.checked os 7 .any (Rows.storeStampsSpec.pre6 enc Try.prog Try.f7 Rows.storeStampsRow.domain false) (Rows.storeStampsSpec.post enc Try.prog Try.f7 false true false false) := by
  refine returnsInHanded_of_change (C := Try.checked) own started (by kernel_rfl) Try.func7
    (ChangeSpec.witness6 (enc := enc) (C := Try.checked) false ⟨#[], #[.slice none 0 0], []⟩ 8 (by kernel_rfl) (by kernel_rfl) (by kernel_rfl) (by kernel_rfl)) ?_
  intro W base args ds gs before hval0 hW hcnd _
  have hval : ∀ (j : Nat) t v, Try.f7.params[j]? = some t → args[j]? = some v → Value.okWide Try.prog W .any base t v := hval0
  have hW' := hW
  obtain ⟨p, q, hA0, hV, rfl, hfz, hnd⟩ := hW
  have hA : DataW.TrodAll enc Try.prog W 0 (fun _ => true) true Try.f7.params.toList args.toList ds p := hA0
  rw [Try.params7] at hA hval
  obtain ⟨v0, vs0, d0, ds0, p0, q0, hargs, rfl, rfl, h0, r0⟩ := trodAll_cons hA
  obtain ⟨rfl, rfl, rfl⟩ := trodAll_nil r0
  obtain rfl : args = #[v0] := by cases args; simp_all
  obtain ⟨rfl, rfl⟩ := trodVars_none hV
  have k0 := h0
  obtain ⟨a0, s0, w0, l0⟩ := open_ints' (hval 0 22 v0 rfl rfl) h0
  clear hA0 hval0
  simp only [List.append_nil, List.nil_append] at hW'
  have hlt : ∀ x ∈ p0, x.block < W.heap.size := fun x hx => by simpa using hW'.lt x (by simpa [or_assoc] using hx)
  refine (walk v0 a0 w0 l0 W s0).mono fun e W' ⟨he, hg⟩ => ?_
  subst he
  exact ⟨_, rfl, _, _, _, [], _, [], hW', (trodAll_cons_mk (shut_bool Try.underlying4 _) trodAll_mk0), (trodAll_cons_mk (Below.trod laidOut (by kernel_rfl) (of_decide_eq_true (by kernel_rfl)) k0 hg (fun x hx => hlt x (by simp [hx]))) trodAll_mk0), rfl, hg.frame _, fun h => by cases h⟩

theorem row : Rows.StoreStampsSaid :=
  OpenClaim.holds_of_wide 7 Try.f7 rfl rfl rfl rfl rfl rfl rfl ⟨rfl, rfl, rfl, rfl, rfl⟩ rfl rfl rfl rfl rfl (by kernel_rfl) Try.func7 (by kernel_rfl)
    (of_decide_eq_true (by kernel_rfl)) (by unfold Func.isWrapper; first | (rw [if_pos (by decide +kernel)]; kernel_rfl) | (rw [if_neg (by decide +kernel)]; exact ⟨rfl, rfl⟩))
    (fun os started H enc _ => lifted os started H enc)

/-- The statement. -/
theorem proved : Rows.StoreStampsSaid :=
  row
#print axioms proved
end Go.Proofs.Ytcnajkclbmddgaa.storeStamps
