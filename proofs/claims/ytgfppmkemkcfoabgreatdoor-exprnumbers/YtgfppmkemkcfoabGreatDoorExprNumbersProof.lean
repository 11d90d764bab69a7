/- ExprNumbers: numbers of ten and of sixteen are read alike, 2^32 and more are none: by the contracts of Parse, of the reference Digits and Same, two loops over texts, and inductions in plain data. -/
import Derived.Test.YtgfppmkemkcfoabGreatDoorRows
import Derived.WalkKit
import Derived.ProofKit
import Derived.OpenShut
import Derived.LaidMore
import Derived.Stop.Joined
import Derived.SevenTiedAt
import Derived.Laws.BytesArg
import Derived.BigQuiet
import Derived.Lay
import Derived.MakeChecks
import Derived.Test.YtgfppmkemkcfoabGreatDoorTie
import Derived.Test.YtgfppmkemkcfoabGreatDoorCards
import Derived.Test.YtgfppmkemkcfoabGreatDoorLaid
import Derived.Test.YtgfppmkemkcfoabGreatDoorKnown
import Derived.Test.YtgfppmkemkcfoabGreatDoorWithin
import Derived.Test.YtgfppmkemkcfoabGreatDoorDeep
import Derived.Test.YtgfppmkemkcfoabGreatDoorNums
import Derived.Test.YtgfppmkemkcfoabGreatDoorDigits
namespace Go.Proofs.YtgfppmkemkcfoabGreatDoor.exprNumbers
open Go.ChangeShapes Go.WideShapes Go.ChangeAt Go.RowKit
open Go.ChangeMaps (open_string shut_string)
set_option linter.unusedVariables false
set_option linter.unusedSimpArgs false

theorem own : ownKnob Tryz.prog.godebug = none := by kernel_rfl

open Go.Proofs.YtgfppmkemkcfoabGreatDoor.Nm
theorem hexT_step (m : Nat) : (m < 16 → hexT m = [hexC m]) ∧ (¬ m < 16 → hexT m = hexT (m / 16) ++ [hexC (m % 16)]) := by
  constructor
  · intro h; rw [hexT, dif_pos h]
  · intro h; rw [hexT, dif_neg h]
def HexAt (v m : Nat) (hx : Bs) : Prop := (hx = [] ∧ m = v) ∨ (hx ≠ [] ∧ (m = 0 → hx = hexT v) ∧ (m ≠ 0 → hexT m ++ hx = hexT v))
theorem HexAt.step {v m : Nat} {hx : Bs} (h : HexAt v m hx) (hg : m ≠ 0 ∨ hx = []) : HexAt v (m / 16) (hexC (m % 16) :: hx) := by
  have hT : hexT m ++ hx = hexT v := by
    rcases h with ⟨rfl, rfl⟩ | ⟨h1, h2, h3⟩
    · simp
    · exact h3 (by rcases hg with hg | hg; exact hg; exact absurd hg h1)
  refine .inr ⟨by simp, fun h0 => ?_, fun h0 => ?_⟩
  · have : m < 16 := by omega
    rw [(hexT_step m).1 this] at hT
    rw [show m % 16 = m by omega, ← hT]; rfl
  · rw [(hexT_step m).2 (by omega)] at hT
    rw [← hT]; simp
theorem slice_hex (m : Nat) (w : World) : (Instr.slice 9 (.string ⟨#[48, 49, 50, 51, 52, 53, 54, 55, 56, 57, 97, 98, 99, 100, 101, 102]⟩) (some (.int .i64 ((m : Int) % 16))) (some (.int .i64 ((m : Int) % 16 + 1))) none).run Tryz.prog w = .ok (.string (bs [hexC (m % 16)])) w := by
  rw [run_slice_string (P := Tryz.prog) (t := 9) (h := Tryz.underlying9) (h0 := by omega) (h1 := by omega) (h2 := by simp [ByteArray.size]; omega)]
  have h : ∀ i : Fin 16, (ByteArray.extract ⟨#[48, 49, 50, 51, 52, 53, 54, 55, 56, 57, 97, 98, 99, 100, 101, 102]⟩ (((i.val : Nat) : Int)).toNat (((i.val : Nat) : Int) + 1).toNat) = bs [hexC i.val] := by decide +kernel
  have := h ⟨m % 16, by omega⟩
  simpa using this
theorem parse_num {t : ByteArray} (s : Bs) (v : Nat) (w : World) (T : Tab w) (hs : t = bs s) (hl : s.length ≤ 35184372088832) (hp : parseP s = some (.num v)) : Calls Tryz.prog 11 #[.string t] w fun e w' => Below w.heap.size w w' ∧ e = .returned (.tuple #[.agg #[.int .i64 1, .int .i64 v, .string ⟨#[]⟩, .slice none 0 0], .bool true]) := by
  subst hs
  have P := parse_any s hl w T
  rw [hp] at P
  refine P.mono ?_
  rintro e w1 ⟨hb, v', rfl, hx⟩
  have hx' : v' = .agg #[.int .i64 1, .int .i64 v, .string (bs []), .slice none 0 0] := hx
  subst hx'
  exact ⟨hb, rfl⟩
theorem parse_no {t : ByteArray} (s : Bs) (w : World) (T : Tab w) (hs : t = bs s) (hl : s.length ≤ 35184372088832) (hp : parseP s = none) : Calls Tryz.prog 11 #[.string t] w fun e w' => Below w.heap.size w w' ∧ e = .returned (.tuple #[.agg #[.int .i64 0, .int .i64 0, .string ⟨#[]⟩, .slice none 0 0], .bool false]) := by
  subst hs
  have P := parse_any s hl w T
  rw [hp] at P
  exact P
theorem zeros_app (k : Nat) (l : Bs) : (⟨#[48]⟩ : ByteArray) ++ bs (List.replicate k 48 ++ l) = bs (List.replicate (k + 1) 48 ++ l) := by
  rw [show (⟨#[48]⟩ : ByteArray) = bs [48] from rfl, dec_app]; simp [List.replicate_succ]
theorem ox_app (l : Bs) : (⟨#[48, 120]⟩ : ByteArray) ++ bs l = bs (48 :: 120 :: l) := by
  rw [show (⟨#[48, 120]⟩ : ByteArray) = bs [48, 120] from rfl, dec_app]; rfl
theorem hex_app (d : Nat) (hx : Bs) : bs [hexC d] ++ bs hx = bs (hexC d :: hx) := dec_app _ _
theorem hexT_len (v : Nat) (h : v < 8589934592) : (hexT v).length ≤ 20 := by
  have step : ∀ (k m : Nat), m < 16 ^ (k + 1) → (hexT m).length ≤ k + 1 := by
    intro k
    induction k with
    | zero => intro m hm; rw [(hexT_step m).1 (by simpa using hm)]; simp
    | succ k ih =>
      intro m hm
      by_cases c : m < 16
      · rw [(hexT_step m).1 c]; simp
      · rw [(hexT_step m).2 c]
        have := ih (m / 16) (by rw [Nat.div_lt_iff_lt_mul (by omega)]; rw [Nat.pow_succ] at hm; exact hm)
        simp; omega
  have := step 9 v (by simp; omega)
  omega
theorem HexAt.len {v m : Nat} {hx : Bs} (h : HexAt v m hx) (hv : v < 8589934592) : hx.length ≤ 20 := by
  have l := hexT_len v hv
  rcases h with ⟨rfl, _⟩ | ⟨_, h2, h3⟩
  · simp
  · by_cases c : m = 0
    · rw [h2 c]; exact l
    · have := congrArg List.length (h3 c)
      simp at this; omega

/-! ### The walk -/
set_option maxHeartbeats 20000000 in
set_option maxRecDepth 20000 in
theorem walk (a0 : Int) (w0 : (Lit.int .i64 a0).wf = true) (a1 : Int) (w1 : (Lit.int .i64 a1).wf = true) (w : World) (T : Tab w) :
    Calls Tryz.prog 5 #[.int .i64 a0, .int .i64 a1] w fun e w' => e = .returned (.bool true) ∧ Below w.heap.size w w' := by
  have K := known_any w T
  go_enter Tryz.func5, Tryz.ntmps5
  go_wp2_with fail
  refine K.mono ?_
  rintro e wk ⟨rfl, hb1⟩
  have T1 := T.later hb1
  clear K
  have I := within_any a0 8589934592 (by omega) (by omega) wk
  have r1 := Int.emod_nonneg a0 (show (8589934592 : Int) ≠ 0 by omega)
  have r2 := Int.emod_lt_of_pos a0 (show (0 : Int) < 8589934592 by omega)
  generalize a0 % 8589934592 = r at *
  obtain ⟨v, rfl⟩ : ∃ v : Nat, r = v := ⟨r.toNat, by omega⟩
  go_wp2_with fail
  refine I.mono ?_
  rintro e w' ⟨rfl, rfl⟩
  clear I
  go_wp2_with fail
  go_loopw [6, 7] (fun s i wr => ∃ (m : Nat) (hx : Bs), m ≤ v ∧ i = .int .i64 m ∧ s = .string (bs hx) ∧ wr = wk ∧ HexAt v m hx ∧ hx.length ≤ 100) (fun s i _ => (intOf i).toNat * 2 + (match s with | .string b => if b.size = 0 then 1 else 0 | _ => 0))
  case atStart => exact ⟨v, [], by omega, rfl, rfl, rfl, .inl ⟨rfl, rfl⟩, by simp⟩
  case round =>
    obtain ⟨m, hx, hm, rfl, rfl, rfl, hH, hL⟩ := hrel
    have hvN : v < 8589934592 := by omega
    have hL := hH.len hvN
    have SL := slice_hex m wr
    have A := run_string_add_sum (P := Tryz.prog) wr (bs [hexC (m % 16)]) (bs hx) (by rw [dec_size, dec_size]; simp; omega)
    rw [hex_app] at A
    by_cases h0 : 0 < m
    · have h0I : (0 : Int) < (m : Int) := by omega
      have hS := hH.step (.inl (by omega))
      have hSL := hS.len hvN
      clear hL
      go_wp2_with fail
      go_roundw
      case rel => exact ⟨m / 16, _, by omega, by simp, rfl, trivial, hS, by omega⟩
      case measure => simp [intOf, bs, ByteArray.size]; omega
    · obtain rfl : m = 0 := by omega
      by_cases hn : hx = []
      · subst hn
        have hS := hH.step (.inr rfl)
        have hSL := hS.len hvN
        have SL0 : (Instr.slice 9 (.string ⟨#[48, 49, 50, 51, 52, 53, 54, 55, 56, 57, 97, 98, 99, 100, 101, 102]⟩) (some (.int .i64 0)) (some (.int .i64 1)) none).run Tryz.prog wr = .ok (.string (bs [hexC 0])) wr := SL
        have A0 : (Op.stringOp .add (bs [hexC 0]) ⟨#[]⟩).run Tryz.prog wr = .ok (.string (bs [hexC 0])) wr := A
        clear hvN SL A hL hH
        simp only [show bs [] = ⟨#[]⟩ from rfl]
        go_wp2_with fail
        go_roundw
        case rel => exact ⟨0, [hexC 0], by omega, by simp, rfl, trivial, hS, by simp⟩
        case measure => simp [intOf, bs, ByteArray.size]
      · obtain rfl : hx = hexT v := by
          rcases hH with ⟨h, _⟩ | ⟨_, h, _⟩
          · exact absurd h hn
          · exact h rfl
        have hq : ((bs (hexT v)).toList == []) = false := by rw [ByteArray.toList_eq, bs_list]; simpa using hn
        have J := within_any a1 4 (by omega) (by omega)
        have z1 := Int.emod_nonneg a1 (show (4 : Int) ≠ 0 by omega)
        have z2 := Int.emod_lt_of_pos a1 (show (0 : Int) < 4 by omega)
        have hL20 := hexT_len v hvN
        have PH : Hid (∀ k, parseP (48 :: 120 :: (List.replicate k 48 ++ hexT v)) = if v ≤ 4294967295 then some (.num v) else none) := parse_hex v
        have PD : Hid (parseP (Go.Lib.decDigits v) = if v ≤ 4294967295 then some (.num v) else none) := parse_dec v
        have DL := dec_len v (by omega)
        have DG := digits_any v (by omega)
        clear hvN SL A hH hL
        generalize a1 % 4 = z at *
        generalize wr = wz at *
        go_wp2_with fail
        go_loopw [6, 8] (fun s i wr => ∃ k : Nat, (k : Int) ≤ z ∧ i = .int .i64 k ∧ s = .string (bs (List.replicate k 48 ++ hexT v)) ∧ wr = wz) (fun s i _ => 4 - (intOf i).toNat)
        case atStart => exact ⟨0, by simpa using z1, rfl, rfl, rfl⟩
        case round =>
          obtain ⟨k, hk, rfl, rfl, rfl⟩ := hrel
          have A := run_string_add_sum (P := Tryz.prog) wr ⟨#[48]⟩ (bs (List.replicate k 48 ++ hexT v)) (by rw [dec_size]; simp [ByteArray.size]; omega)
          rw [zeros_app] at A
          by_cases hkz : (k : Int) < z
          · go_wp2_with (go_at_call 10; refine (J _).mono ?_; rintro e w' ⟨rfl, rfl⟩)
            go_roundw
            case rel => refine ⟨_, _, _, _, _, _, _, _, _, _, ?_, rfl⟩; exact ⟨k + 1, by omega, by simp, rfl, trivial⟩
            case measure => simp [intOf]; omega
          · have B := run_string_add_sum (P := Tryz.prog) wr ⟨#[48, 120]⟩ (bs (List.replicate k 48 ++ hexT v)) (by rw [dec_size]; simp [ByteArray.size]; omega)
            rw [ox_app] at B
            obtain rfl : z = (k : Int) := by omega
            have hz1 : k < 4 := by omega
            have hkl : k ≤ 4 := by omega
            have L1 : Hid ((48 :: 120 :: (List.replicate k 48 ++ hexT v)).length ≤ 35184372088832) := (by simp; omega : _ ≤ _)
            have L2 : Hid ((Go.Lib.decDigits v).length ≤ 35184372088832) := (by omega : _ ≤ _)
            by_cases hc : (v : Int) ≤ 4294967295
            · have e1 : Hid (parseP (48 :: 120 :: (List.replicate k 48 ++ hexT v)) = some (.num v)) := (PH.out k).trans (if_pos (by omega))
              have e2 : Hid (parseP (Go.Lib.decDigits v) = some (.num v)) := PD.out.trans (if_pos (by omega))
              clear PH PD
              have hcH : Hid _ := hc
              clear hc hkl hz1 hL20 DL hn hq hkz hk z1 z2 r1 r2
              have P1 := parse_num (t := bs (48 :: 120 :: (List.replicate k 48 ++ hexT v))) _ v wr T1 rfl L1.out e1.out
              go_wp2_with (go_at_call 10; refine (J _).mono ?_; rintro e w' ⟨rfl, rfl⟩)
              refine P1.mono ?_
              rintro e w2 ⟨hb2, rfl⟩
              have n2 := below_new w2 (.cells #[.int .i64 1, .int .i64 (v : Int), .string ⟨#[]⟩, .slice none 0 0] 30)
              have b2 := hb1.trans (hb2.mono hb1.size)
              replace b2 := b2.trans (n2.mono b2.size)
              have T2 := (T1.later hb2).later n2
              have X2 := Blk.new w2 30 (.int .i64 1) (.int .i64 (v : Int)) (.string ⟨#[]⟩) (.slice none 0 0)
              clear P1 hb2 n2 B A J
              go_wp2_with fail
              generalize w2.alloc (.cells #[.int .i64 1, .int .i64 (v : Int), .string ⟨#[]⟩, .slice none 0 0] 30) = w3 at *
              refine (DG _).mono ?_
              rintro e w4 ⟨rfl, hb4⟩
              have T4 := T2.later hb4
              have X4 := X2.later hb4
              have b4 := b2.trans (hb4.mono b2.size)
              have P2 := parse_num (t := bs (Go.Lib.decDigits v)) _ v w4 T4 rfl L2.out e2.out
              clear T2 X2 hb4 b2 DG
              go_wp2_with fail
              refine P2.mono ?_
              rintro e w5 ⟨hb5, rfl⟩
              have n5 := below_new w5 (.cells #[.int .i64 1, .int .i64 (v : Int), .string ⟨#[]⟩, .slice none 0 0] 30)
              have b5 := b4.trans (hb5.mono b4.size)
              replace b5 := b5.trans (n5.mono b5.size)
              have X5 := (X4.later hb5).later n5
              have Y5 := Blk.new w5 30 (.int .i64 1) (.int .i64 (v : Int)) (.string ⟨#[]⟩) (.slice none 0 0)
              obtain ⟨x0, x1, x2, x3, _, _, _, _⟩ := id X5
              obtain ⟨y0, y1, y2, y3, _, _, _, _⟩ := id Y5
              clear P2 hb5 n5 X4 T4 b4
              have hc2 : (decide ((4294967296 : Int) ≤ (v : Int))) = false := by have := hcH.out; simp; omega
              clear L1 L2 e1 e2 hcH
              go_wp2_with fail
              have SM := same_nums (v : Int) (w5.alloc (.cells #[.int .i64 1, .int .i64 (v : Int), .string ⟨#[]⟩, .slice none 0 0] 30))
              clear x0 x1 x2 x3 y0 y1 y2 y3 Y5
              generalize w5.alloc (.cells #[.int .i64 1, .int .i64 (v : Int), .string ⟨#[]⟩, .slice none 0 0] 30) = w6 at *
              refine SM.mono ?_
              rintro e w7 ⟨rfl, hb7⟩
              have b7 := b5.trans (hb7.mono b5.size)
              have X7 := X5.later hb7
              obtain ⟨x0, x1, x2, x3, _, _, _, _⟩ := id X7
              clear SM X5 hb7 b5
              go_wp2_with fail
              go_ret
              exact ⟨rfl, b7⟩
            · have e1 : Hid (parseP (48 :: 120 :: (List.replicate k 48 ++ hexT v)) = none) := (PH.out k).trans (if_neg (by omega))
              have e2 : Hid (parseP (Go.Lib.decDigits v) = none) := PD.out.trans (if_neg (by omega))
              clear PH PD
              have hcH : Hid _ := hc
              clear hc hkl hz1 hL20 DL hn hq hkz hk z1 z2 r1 r2
              have P1 := parse_no (t := bs (48 :: 120 :: (List.replicate k 48 ++ hexT v))) _ wr T1 rfl L1.out e1.out
              go_wp2_with (go_at_call 10; refine (J _).mono ?_; rintro e w' ⟨rfl, rfl⟩)
              refine P1.mono ?_
              rintro e w2 ⟨hb2, rfl⟩
              have n2 := below_new w2 (.cells #[.int .i64 0, .int .i64 0, .string ⟨#[]⟩, .slice none 0 0] 30)
              have b2 := hb1.trans (hb2.mono hb1.size)
              replace b2 := b2.trans (n2.mono b2.size)
              have T2 := (T1.later hb2).later n2
              have X2 := Blk.new w2 30 (.int .i64 0) (.int .i64 0) (.string ⟨#[]⟩) (.slice none 0 0)
              clear P1 hb2 n2 B A J
              go_wp2_with fail
              generalize w2.alloc (.cells #[.int .i64 0, .int .i64 0, .string ⟨#[]⟩, .slice none 0 0] 30) = w3 at *
              refine (DG _).mono ?_
              rintro e w4 ⟨rfl, hb4⟩
              have T4 := T2.later hb4
              have X4 := X2.later hb4
              have b4 := b2.trans (hb4.mono b2.size)
              have P2 := parse_no (t := bs (Go.Lib.decDigits v)) _ w4 T4 rfl L2.out e2.out
              clear T2 X2 hb4 b2 DG
              go_wp2_with fail
              refine P2.mono ?_
              rintro e w5 ⟨hb5, rfl⟩
              have n5 := below_new w5 (.cells #[.int .i64 0, .int .i64 0, .string ⟨#[]⟩, .slice none 0 0] 30)
              have b5 := b4.trans (hb5.mono b4.size)
              replace b5 := b5.trans (n5.mono b5.size)
              have X5 := (X4.later hb5).later n5
              have Y5 := Blk.new w5 30 (.int .i64 0) (.int .i64 0) (.string ⟨#[]⟩) (.slice none 0 0)
              obtain ⟨x0, x1, x2, x3, _, _, _, _⟩ := id X5
              obtain ⟨y0, y1, y2, y3, _, _, _, _⟩ := id Y5
              clear P2 hb5 n5 X4 T4 b4
              have hc2 : (decide ((4294967296 : Int) ≤ (v : Int))) = true := by have : ¬ (v : Int) ≤ 4294967295 := hcH.out; simp; omega
              clear L1 L2 e1 e2 hcH
              go_wp2_with fail
              go_ret
              exact ⟨rfl, b5⟩

/-! ### The row's step -/
set_option maxRecDepth 100000 in
theorem lifted (os : Os) (started : os.Started) (H : Type) (enc : TypeId × Value → H) :
    ReturnsInHanded {} Tryz.checked os 5 .any (fun w args => (Rows.exprNumbersSpec.pre enc Tryz.prog Tryz.f5 [] false w args ∧ laidMetH Tryz.prog laid8 w) ∧ sizedMet enc Tryz.prog Tryz.f5 (OpenSpec.ofChange Rows.exprNumbersSpec) false w args)
      (Rows.exprNumbersSpec.post enc Tryz.prog Tryz.f5 false true false false) := by
  refine returnsInHanded_of_change_and (C := Tryz.checked) (X := fun w _ => laidMetH Tryz.prog laid8 w) (fun _ _ _ hh h => h.of_heap hh) own started (by kernel_rfl) Tryz.func5
    (ChangeSpec.witness_shaped (enc := enc) (C := Tryz.checked) (os := os) (X := fun w _ => laidMetH Tryz.prog laid8 w) false (World.laidAll Tryz.prog os laid8) #[.int .i64 0, .int .i64 0] 8 (World.laidAll_os _ _ _) (World.shaped_of_ZipB (by kernel_rfl) (by kernel_rfl)) (by kernel_rfl) (by kernel_rfl) (by kernel_rfl) (by rw [MakeChecks.laidMetH_plain _ _ _ (by kernel_rfl)]; exact laidMet_laidAll _ (by kernel_rfl) (by kernel_rfl))) ?_
  intro W base args ds gs before hval0 hW _ _ hL _
  have hval : ∀ (j : Nat) t v, Tryz.f5.params[j]? = some t → args[j]? = some v → Value.okWide Tryz.prog W .any base t v := hval0
  have hW' := hW
  obtain ⟨p, q, hA0, hV, rfl, hfz, hnd⟩ := hW
  have hA : DataW.TrodAll enc Tryz.prog W 0 (fun _ => true) true Tryz.f5.params.toList args.toList ds p := hA0
  rw [Tryz.params5] at hA hval
  obtain ⟨v0, vs0, d0, ds0, p0, q0, hargs, rfl, rfl, h0, r0⟩ := trodAll_cons hA
  obtain ⟨v1, vs1, d1, ds1, p1, q1, rfl, rfl, rfl, h1, r1⟩ := trodAll_cons r0
  obtain ⟨rfl, rfl, rfl⟩ := trodAll_nil r1
  obtain rfl : args = #[v0, v1] := by cases args; simp_all
  obtain ⟨rfl, rfl⟩ := trodVars_none hV
  obtain ⟨a0, rfl, rfl, rfl, w0⟩ := open_int Tryz.underlying3 (hval 0 3 v0 rfl rfl) h0
  obtain ⟨a1, rfl, rfl, rfl, w1⟩ := open_int Tryz.underlying3 (hval 1 3 v1 rfl rfl) h1
  clear hA0 hval0
  simp only [List.append_nil, List.nil_append] at hW'
  refine (walk a0 w0 a1 w1 W (tab_of_laid hL)).mono fun e W' ⟨he, hg⟩ => ?_
  subst he
  exact ⟨_, rfl, _, _, _, [], _, [], hW', (trodAll_cons_mk (shut_bool Tryz.underlying4 _) trodAll_mk0), (trodAll_cons_mk (shut_int Tryz.underlying3 w0) (trodAll_cons_mk (shut_int Tryz.underlying3 w1) trodAll_mk0)), rfl, hg.frame _, fun h => by cases h⟩

theorem row : Rows.ExprNumbersSaid :=
  OpenClaim.holds_of_wide 5 Tryz.f5 rfl rfl rfl rfl rfl rfl rfl ⟨rfl, rfl, rfl, rfl, rfl⟩ rfl rfl rfl rfl rfl (by kernel_rfl) Tryz.func5 (by kernel_rfl)
    (of_decide_eq_true (by kernel_rfl)) (by unfold Func.isWrapper; first | (rw [if_pos (by decide +kernel)]; kernel_rfl) | (rw [if_neg (by decide +kernel)]; exact ⟨rfl, rfl⟩))
    (fun os started H enc _ => lifted os started H enc)

/-- The statement. -/
theorem proved : Rows.ExprNumbersCardSaid :=
  Claim7.holds_tied_plain_at .later [] [.data, .data, .data, .data, .sentinel, .sentinel, .data, .pinned] true (true, "93293f4717e598465f0b5db06f45db689804f9e14aa8408f0afbb4dadb8a57d0") true
    row (fun _ h => by cases h) (by kernel_rfl) (fun _ h => by cases h) exprNumbers_row_tie rfl ⟨rfl, rfl⟩ (by kernel_rfl) rfl
    (fun f fn hf hfn => by
      obtain rfl : f = 5 := Option.some.inj ((show Tryz.prog.funcNamed "letterpress/letterpresslaw3.ExprNumbers" = some 5 by kernel_rfl).symm.trans hf) |>.symm
      obtain rfl : fn = Tryz.f5 := (Option.some.inj (Tryz.func5.symm.trans hfn)).symm
      exact ⟨by kernel_rfl, fun j t ht => by
        rw [Tryz.params5] at ht
        have hm : t ∈ [3, 3] := by simpa using Array.mem_of_getElem? ht
        have hall : ([3, 3].all fun u => !Tryz.prog.wantsStandIn u) = true := by kernel_rfl
        exact (show Tryz.prog.wantsStandIn t = false by simpa using List.all_eq_true.1 hall t hm)⟩)
    (by kernel_rfl)
#print axioms proved
end Go.Proofs.YtgfppmkemkcfoabGreatDoor.exprNumbers
