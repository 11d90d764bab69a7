/- ExprBlanks: for every row of raw expressions and every row of numbers, and at the laid values of the listed variables, the law answers true: blanks around signs change nothing. -/
import Derived.Test.YtopfnfmglnjljaaGreatDoorRows
import Derived.WalkKit
import Derived.ProofKit
import Derived.OpenShut
import Derived.LaidMore
import Derived.Stop.Joined
import Derived.SevenTiedAt
import Derived.Laws.BytesArg
import Derived.BigQuiet
import Derived.Lay
import Derived.MakeChecks
import Derived.Test.YtopfnfmglnjljaaGreatDoorTie
import Derived.Test.YtopfnfmglnjljaaGreatDoorCards
import Derived.Test.YtopfnfmglnjljaaGreatDoorLaid
import Derived.Test.YtopfnfmglnjljaaGreatDoorKnown
import Derived.Test.YtopfnfmglnjljaaGreatDoorWithin
import Derived.Test.YtopfnfmglnjljaaGreatDoorArgs
import Derived.Test.YtopfnfmglnjljaaGreatDoorFits
import Derived.Test.YtopfnfmglnjljaaGreatDoorRefText
import Derived.Test.YtopfnfmglnjljaaGreatDoorRefSame
namespace Go.Proofs.YtopfnfmglnjljaaGreatDoor.exprBlanks
open Go.ChangeShapes Go.WideShapes Go.ChangeAt Go.RowKit
open Go.ChangeMaps (open_string shut_string)
set_option linter.unusedVariables false
set_option linter.unusedSimpArgs false

theorem own : ownKnob Tryz.prog.godebug = none := by kernel_rfl

open Go.Proofs.YtopfnfmglnjljaaGreatDoor.Ly
theorem spread_app {s t s' t' : Bs} (h : Spread s t) (h' : Spread s' t') : Spread (s ++ s') (t ++ t') := by
  induction h with
  | nil => exact h'
  | same c _ ih => exact .same c ih
  | sign c m n hs _ ih => simpa using Spread.sign c m n hs ih
  | blank n _ ih => simpa using Spread.blank n ih
/-- One byte more. -/
theorem spread_step {S t u : Bs} {j : Nat} {c : UInt8} (h : Spread (S.take j) t) (hc : S[j]? = some c) (hu : Spread [c] u) : Spread (S.take (j + 1)) (t ++ u) := by
  rw [List.take_add_one, hc]
  exact spread_app h hu
theorem piece_same (c : UInt8) : Spread [c] [c] := .same c .nil
theorem piece_sign (c : UInt8) (h : signB c = true) : Spread [c] [32, 32, c, 32] := .sign c 2 1 h .nil
theorem piece_blank : Spread [32] [32, 32, 32] := .blank 2 .nil
theorem slice_one (S : Bs) (j : Nat) (c : UInt8) (hc : S[j]? = some c) (w : World) : (Instr.slice 9 (.string (bs S)) (some (.int .i64 (j : Int))) (some (.int .i64 ((j : Int) + 1))) none).run Tryz.prog w = .ok (.string (bs [c])) w := by
  obtain ⟨hj, hc⟩ := List.getElem?_eq_some_iff.1 hc
  rw [run_slice_string (P := Tryz.prog) (t := 9) (h := Tryz.underlying9) (h0 := by omega) (h1 := by omega) (h2 := by rw [dec_size]; omega)]
  have : ByteArray.extract (bs S) ((j : Int)).toNat ((j : Int) + 1).toNat = bs [c] := by
    apply ByteArray.ext
    have e1 : ((j : Int)).toNat = j := by omega
    have e2 : ((j : Int) + 1).toNat = j + 1 := by omega
    rw [e1, e2]
    simp only [bs, ByteArray.data_extract]
    apply Array.ext'
    simp only [Array.toList_extract, List.extract_eq_take_drop]
    rw [show j + 1 - j = 1 by omega]
    rw [List.drop_eq_getElem_cons hj]
    simp [hc]
  rw [this]
theorem cmps (c a : UInt8) : ((bs [c]).toList == [a]) = (c == a) := by
  rw [ByteArray.toList_eq, bs_list]; simp
theorem blank_app (c : UInt8) : (⟨#[32, 32]⟩ : ByteArray) ++ bs [c] = bs [32, 32, c] := dec_app [32, 32] [c]
theorem blank_app2 (c : UInt8) : bs [32, 32, c] ++ (⟨#[32]⟩ : ByteArray) = bs [32, 32, c, 32] := dec_app [32, 32, c] [32]

/-! ### The walk -/
set_option maxHeartbeats 20000000 in
set_option maxRecDepth 20000 in
theorem walk (v0 : Value) (a0 : Fo) (v1 : Value) (a1 : List Int) (w1 : InRange a1) (l1 : a1.length ≤ maxLen) (w : World) (T : Tab w) (s0 : RawsAt w v0 a0) (s1 : SliceIs w v1 a1) :
    Calls Tryz.prog 6 #[v0, v1] w fun e w' => e = .returned (.bool true) ∧ Below w.heap.size w w' := by
  have K := known_any w T
  obtain ⟨p, cap, rfl, hm, hA⟩ := id s0
  obtain ⟨p2, cap2, rfl, hc2⟩ := id s1
  clear hA
  go_enter Tryz.func6, Tryz.ntmps6
  go_wp2_with fail
  refine K.mono ?_
  rintro e U1 ⟨rfl, hb1⟩
  clear K
  have F := few_any a0 _ U1 (s0.later hb1)
  go_wp2_with fail
  refine F.mono ?_
  rintro e U2 ⟨hb2, fw, rfl, hfew⟩
  have B2 := hb1.trans (hb2.mono hb1.size)
  clear F hb1 hb2
  cases fw with
  | false =>
    clear hfew
    go_wp2_with fail
    go_ret
    exact ⟨rfl, B2⟩
  | true =>
    have hdeep := (hfew rfl).2
    have O := one_any a0 _ U2 (s0.later B2)
    have hsm := one_small a0
    have hwh := one_whole a0
    have hlen := one_len a0 hdeep
    have HS : Hid (∀ t, Spread (textP (oneP a0)) t → parseP (32 :: (t ++ [32, 32])) = some (oneP a0)) := fun t h => parse_one_spread a0 hdeep h
    clear hfew hdeep
    go_wp2_with fail
    refine O.mono ?_
    rintro e W3 ⟨hb3, v, rfl, hx⟩
    have B3 := B2.trans (hb3.mono B2.size)
    have X := rtext_any _ (oneP a0) hsm hwh (by omega) v W3 hx
    obtain ⟨ka, na, ta, qa, la, ma, rfl⟩ := hx.form
    clear O hb3
    go_wp2_with fail
    refine X.mono ?_
    rintro e W4 ⟨rfl, hb4⟩
    have B4 := B3.trans (hb4.mono B3.size)
    clear X hb4 hx B2 B3
    go_wp2_with fail
    have O2 := fun W h => one_any a0 (.slice p a0.len cap) W h
    have SM : ∀ (P Q : Nat → Prop) (va vb : Value) (W : World), ExAt P W va (oneP a0) → ExAt Q W vb (oneP a0) → Calls Tryz.prog 16 #[va, vb] W fun e w' => e = .returned (.bool true) ∧ Below W.heap.size W w' := fun P Q va vb W h1 h2 => by
      have := rsame_any P Q _ (oneP a0) (oneP a0) (Nat.lt_succ_self _) hsm hsm va vb W h1 h2
      simpa using this
    generalize hS : textP (oneP a0) = S at *
    clear hS
    generalize oneP a0 = x0 at *
    have hsz := bs_size S
    clear hsm hwh
    go_loopw [6, 7] (fun t i wr => ∃ (j : Nat) (tt : Bs), j ≤ S.length ∧ i = .int .i64 j ∧ t = .string (bs tt) ∧ wr = W4 ∧ tt.length ≤ 4 * j ∧ Hid (Spread (S.take j) tt)) (fun t i _ => S.length - (intOf i).toNat)
    case atStart => exact ⟨0, [], by omega, rfl, rfl, rfl, by simp, .nil⟩
    case round =>
      obtain ⟨j, tt, hj, rfl, rfl, rfl, htl, hsp⟩ := hrel
      by_cases hjn : j < S.length
      · obtain ⟨c, hc⟩ : ∃ c, S[j]? = some c := ⟨_, List.getElem?_eq_getElem hjn⟩
        have SL := slice_one S j c hc wr
        have hjI : (j : Int) < (S.length : Int) := by omega
        have A0 := run_string_add_sum (P := Tryz.prog) wr (bs tt) (bs [c]) (by rw [dec_size, dec_size]; simp; omega)
        rw [dec_app] at A0
        have E0 := spread_step hsp.out hc (piece_same c)
        have q4 : ((bs [32, 32, c, 32]).toList == [32]) = false := by rw [ByteArray.toList_eq, bs_list]; simp
        by_cases h40 : c = 40
        · subst h40
          have q40 : ((bs [40]).toList == [40]) = true := by rw [cmps]; decide
          have q41 : ((bs [40]).toList == [41]) = false := by rw [cmps]; decide
          have q43 : ((bs [40]).toList == [43]) = false := by rw [cmps]; decide
          have q45 : ((bs [40]).toList == [45]) = false := by rw [cmps]; decide
          have q42 : ((bs [40]).toList == [42]) = false := by rw [cmps]; decide
          have q38 : ((bs [40]).toList == [38]) = false := by rw [cmps]; decide
          have q124 : ((bs [40]).toList == [124]) = false := by rw [cmps]; decide
          have q32 : ((bs [40]).toList == [32]) = false := by rw [cmps]; decide
          by_cases hn : j < a1.length
          · have A1 := run_string_add_sum (P := Tryz.prog) wr ⟨#[32, 32]⟩ (bs [40]) (by rw [dec_size]; simp [ByteArray.size])
            rw [blank_app] at A1
            have A2 := run_string_add_sum (P := Tryz.prog) wr (bs [32, 32, 40]) ⟨#[32]⟩ (by rw [dec_size]; simp [ByteArray.size])
            rw [blank_app2] at A2
            have A3 := run_string_add_sum (P := Tryz.prog) wr (bs tt) (bs [32, 32, 40, 32]) (by rw [dec_size, dec_size]; simp; omega)
            rw [dec_app] at A3
            have E1 := spread_step hsp.out hc (piece_sign 40 (by decide))
            obtain ⟨z, hz⟩ : ∃ z, a1[j]? = some z := ⟨_, List.getElem?_eq_getElem hn⟩
            obtain ⟨b, o, rfl, hcell⟩ := hc2 (by intro h; rw [h] at hn; simp at hn)
            have cz := kept_cell B4 (hcell _ z hz)
            have J := within_any z 2 (by omega) (by omega) wr
            have hnI : (j : Int) < (a1.length : Int) := by omega
            rcases Int.emod_two_eq z with hm | hm
            · rw [hm] at J
              clear hcell hc2 hsp hc s1 s0 HS O2 SM A0 E0
              go_wp2_with (go_at_call 17; refine J.mono ?_; rintro e w' ⟨rfl, rfl⟩)
              go_roundw
              case rel => exact ⟨j + 1, tt ++ [32, 32, 40, 32], by omega, by simp, rfl, trivial, by simp; omega, E1⟩
              case measure => simp [intOf]; omega
            · rw [hm] at J
              clear hcell hc2 hsp hc s1 s0 HS O2 SM A1 A2 A3 E1
              go_wp2_with (go_at_call 17; refine J.mono ?_; rintro e w' ⟨rfl, rfl⟩)
              go_roundw
              case rel => exact ⟨j + 1, tt ++ [40], by omega, by simp, rfl, trivial, by simp; omega, E0⟩
              case measure => simp [intOf]; omega
          · have hnI : ¬ (j : Int) < (a1.length : Int) := by omega
            clear hc2 hsp hc s1 s0 HS O2 SM
            go_wp2_with fail
            go_roundw
            case rel => exact ⟨j + 1, tt ++ [40], by omega, by simp, rfl, trivial, by simp; omega, E0⟩
            case measure => simp [intOf]; omega
        · skip
          by_cases h41 : c = 41
          · subst h41
            have q40 : ((bs [41]).toList == [40]) = false := by rw [cmps]; decide
            have q41 : ((bs [41]).toList == [41]) = true := by rw [cmps]; decide
            have q43 : ((bs [41]).toList == [43]) = false := by rw [cmps]; decide
            have q45 : ((bs [41]).toList == [45]) = false := by rw [cmps]; decide
            have q42 : ((bs [41]).toList == [42]) = false := by rw [cmps]; decide
            have q38 : ((bs [41]).toList == [38]) = false := by rw [cmps]; decide
            have q124 : ((bs [41]).toList == [124]) = false := by rw [cmps]; decide
            have q32 : ((bs [41]).toList == [32]) = false := by rw [cmps]; decide
            by_cases hn : j < a1.length
            · have A1 := run_string_add_sum (P := Tryz.prog) wr ⟨#[32, 32]⟩ (bs [41]) (by rw [dec_size]; simp [ByteArray.size])
              rw [blank_app] at A1
              have A2 := run_string_add_sum (P := Tryz.prog) wr (bs [32, 32, 41]) ⟨#[32]⟩ (by rw [dec_size]; simp [ByteArray.size])
              rw [blank_app2] at A2
              have A3 := run_string_add_sum (P := Tryz.prog) wr (bs tt) (bs [32, 32, 41, 32]) (by rw [dec_size, dec_size]; simp; omega)
              rw [dec_app] at A3
              have E1 := spread_step hsp.out hc (piece_sign 41 (by decide))
              obtain ⟨z, hz⟩ : ∃ z, a1[j]? = some z := ⟨_, List.getElem?_eq_getElem hn⟩
              obtain ⟨b, o, rfl, hcell⟩ := hc2 (by intro h; rw [h] at hn; simp at hn)
              have cz := kept_cell B4 (hcell _ z hz)
              have J := within_any z 2 (by omega) (by omega) wr
              have hnI : (j : Int) < (a1.length : Int) := by omega
              rcases Int.emod_two_eq z with hm | hm
              · rw [hm] at J
                clear hcell hc2 hsp hc s1 s0 HS O2 SM A0 E0
                go_wp2_with (go_at_call 17; refine J.mono ?_; rintro e w' ⟨rfl, rfl⟩)
                go_roundw
                case rel => exact ⟨j + 1, tt ++ [32, 32, 41, 32], by omega, by simp, rfl, trivial, by simp; omega, E1⟩
                case measure => simp [intOf]; omega
              · rw [hm] at J
                clear hcell hc2 hsp hc s1 s0 HS O2 SM A1 A2 A3 E1
                go_wp2_with (go_at_call 17; refine J.mono ?_; rintro e w' ⟨rfl, rfl⟩)
                go_roundw
                case rel => exact ⟨j + 1, tt ++ [41], by omega, by simp, rfl, trivial, by simp; omega, E0⟩
                case measure => simp [intOf]; omega
            · have hnI : ¬ (j : Int) < (a1.length : Int) := by omega
              clear hc2 hsp hc s1 s0 HS O2 SM
              go_wp2_with fail
              go_roundw
              case rel => exact ⟨j + 1, tt ++ [41], by omega, by simp, rfl, trivial, by simp; omega, E0⟩
              case measure => simp [intOf]; omega
          · skip
            by_cases h43 : c = 43
            · subst h43
              have q40 : ((bs [43]).toList == [40]) = false := by rw [cmps]; decide
              have q41 : ((bs [43]).toList == [41]) = false := by rw [cmps]; decide
              have q43 : ((bs [43]).toList == [43]) = true := by rw [cmps]; decide
              have q45 : ((bs [43]).toList == [45]) = false := by rw [cmps]; decide
              have q42 : ((bs [43]).toList == [42]) = false := by rw [cmps]; decide
              have q38 : ((bs [43]).toList == [38]) = false := by rw [cmps]; decide
              have q124 : ((bs [43]).toList == [124]) = false := by rw [cmps]; decide
              have q32 : ((bs [43]).toList == [32]) = false := by rw [cmps]; decide
              by_cases hn : j < a1.length
              · have A1 := run_string_add_sum (P := Tryz.prog) wr ⟨#[32, 32]⟩ (bs [43]) (by rw [dec_size]; simp [ByteArray.size])
                rw [blank_app] at A1
                have A2 := run_string_add_sum (P := Tryz.prog) wr (bs [32, 32, 43]) ⟨#[32]⟩ (by rw [dec_size]; simp [ByteArray.size])
                rw [blank_app2] at A2
                have A3 := run_string_add_sum (P := Tryz.prog) wr (bs tt) (bs [32, 32, 43, 32]) (by rw [dec_size, dec_size]; simp; omega)
                rw [dec_app] at A3
                have E1 := spread_step hsp.out hc (piece_sign 43 (by decide))
                obtain ⟨z, hz⟩ : ∃ z, a1[j]? = some z := ⟨_, List.getElem?_eq_getElem hn⟩
                obtain ⟨b, o, rfl, hcell⟩ := hc2 (by intro h; rw [h] at hn; simp at hn)
                have cz := kept_cell B4 (hcell _ z hz)
                have J := within_any z 2 (by omega) (by omega) wr
                have hnI : (j : Int) < (a1.length : Int) := by omega
                rcases Int.emod_two_eq z with hm | hm
                · rw [hm] at J
                  clear hcell hc2 hsp hc s1 s0 HS O2 SM A0 E0
                  go_wp2_with (go_at_call 17; refine J.mono ?_; rintro e w' ⟨rfl, rfl⟩)
                  go_roundw
                  case rel => exact ⟨j + 1, tt ++ [32, 32, 43, 32], by omega, by simp, rfl, trivial, by simp; omega, E1⟩
                  case measure => simp [intOf]; omega
                · rw [hm] at J
                  clear hcell hc2 hsp hc s1 s0 HS O2 SM A1 A2 A3 E1
                  go_wp2_with (go_at_call 17; refine J.mono ?_; rintro e w' ⟨rfl, rfl⟩)
                  go_roundw
                  case rel => exact ⟨j + 1, tt ++ [43], by omega, by simp, rfl, trivial, by simp; omega, E0⟩
                  case measure => simp [intOf]; omega
              · have hnI : ¬ (j : Int) < (a1.length : Int) := by omega
                clear hc2 hsp hc s1 s0 HS O2 SM
                go_wp2_with fail
                go_roundw
                case rel => exact ⟨j + 1, tt ++ [43], by omega, by simp, rfl, trivial, by simp; omega, E0⟩
                case measure => simp [intOf]; omega
            · skip
              by_cases h45 : c = 45
              · subst h45
                have q40 : ((bs [45]).toList == [40]) = false := by rw [cmps]; decide
                have q41 : ((bs [45]).toList == [41]) = false := by rw [cmps]; decide
                have q43 : ((bs [45]).toList == [43]) = false := by rw [cmps]; decide
                have q45 : ((bs [45]).toList == [45]) = true := by rw [cmps]; decide
                have q42 : ((bs [45]).toList == [42]) = false := by rw [cmps]; decide
                have q38 : ((bs [45]).toList == [38]) = false := by rw [cmps]; decide
                have q124 : ((bs [45]).toList == [124]) = false := by rw [cmps]; decide
                have q32 : ((bs [45]).toList == [32]) = false := by rw [cmps]; decide
                by_cases hn : j < a1.length
                · have A1 := run_string_add_sum (P := Tryz.prog) wr ⟨#[32, 32]⟩ (bs [45]) (by rw [dec_size]; simp [ByteArray.size])
                  rw [blank_app] at A1
                  have A2 := run_string_add_sum (P := Tryz.prog) wr (bs [32, 32, 45]) ⟨#[32]⟩ (by rw [dec_size]; simp [ByteArray.size])
                  rw [blank_app2] at A2
                  have A3 := run_string_add_sum (P := Tryz.prog) wr (bs tt) (bs [32, 32, 45, 32]) (by rw [dec_size, dec_size]; simp; omega)
                  rw [dec_app] at A3
                  have E1 := spread_step hsp.out hc (piece_sign 45 (by decide))
                  obtain ⟨z, hz⟩ : ∃ z, a1[j]? = some z := ⟨_, List.getElem?_eq_getElem hn⟩
                  obtain ⟨b, o, rfl, hcell⟩ := hc2 (by intro h; rw [h] at hn; simp at hn)
                  have cz := kept_cell B4 (hcell _ z hz)
                  have J := within_any z 2 (by omega) (by omega) wr
                  have hnI : (j : Int) < (a1.length : Int) := by omega
                  rcases Int.emod_two_eq z with hm | hm
                  · rw [hm] at J
                    clear hcell hc2 hsp hc s1 s0 HS O2 SM A0 E0
                    go_wp2_with (go_at_call 17; refine J.mono ?_; rintro e w' ⟨rfl, rfl⟩)
                    go_roundw
                    case rel => exact ⟨j + 1, tt ++ [32, 32, 45, 32], by omega, by simp, rfl, trivial, by simp; omega, E1⟩
                    case measure => simp [intOf]; omega
                  · rw [hm] at J
                    clear hcell hc2 hsp hc s1 s0 HS O2 SM A1 A2 A3 E1
                    go_wp2_with (go_at_call 17; refine J.mono ?_; rintro e w' ⟨rfl, rfl⟩)
                    go_roundw
                    case rel => exact ⟨j + 1, tt ++ [45], by omega, by simp, rfl, trivial, by simp; omega, E0⟩
                    case measure => simp [intOf]; omega
                · have hnI : ¬ (j : Int) < (a1.length : Int) := by omega
                  clear hc2 hsp hc s1 s0 HS O2 SM
                  go_wp2_with fail
                  go_roundw
                  case rel => exact ⟨j + 1, tt ++ [45], by omega, by simp, rfl, trivial, by simp; omega, E0⟩
                  case measure => simp [intOf]; omega
              · skip
                by_cases h42 : c = 42
                · subst h42
                  have q40 : ((bs [42]).toList == [40]) = false := by rw [cmps]; decide
                  have q41 : ((bs [42]).toList == [41]) = false := by rw [cmps]; decide
                  have q43 : ((bs [42]).toList == [43]) = false := by rw [cmps]; decide
                  have q45 : ((bs [42]).toList == [45]) = false := by rw [cmps]; decide
                  have q42 : ((bs [42]).toList == [42]) = true := by rw [cmps]; decide
                  have q38 : ((bs [42]).toList == [38]) = false := by rw [cmps]; decide
                  have q124 : ((bs [42]).toList == [124]) = false := by rw [cmps]; decide
                  have q32 : ((bs [42]).toList == [32]) = false := by rw [cmps]; decide
                  by_cases hn : j < a1.length
                  · have A1 := run_string_add_sum (P := Tryz.prog) wr ⟨#[32, 32]⟩ (bs [42]) (by rw [dec_size]; simp [ByteArray.size])
                    rw [blank_app] at A1
                    have A2 := run_string_add_sum (P := Tryz.prog) wr (bs [32, 32, 42]) ⟨#[32]⟩ (by rw [dec_size]; simp [ByteArray.size])
                    rw [blank_app2] at A2
                    have A3 := run_string_add_sum (P := Tryz.prog) wr (bs tt) (bs [32, 32, 42, 32]) (by rw [dec_size, dec_size]; simp; omega)
                    rw [dec_app] at A3
                    have E1 := spread_step hsp.out hc (piece_sign 42 (by decide))
                    obtain ⟨z, hz⟩ : ∃ z, a1[j]? = some z := ⟨_, List.getElem?_eq_getElem hn⟩
                    obtain ⟨b, o, rfl, hcell⟩ := hc2 (by intro h; rw [h] at hn; simp at hn)
                    have cz := kept_cell B4 (hcell _ z hz)
                    have J := within_any z 2 (by omega) (by omega) wr
                    have hnI : (j : Int) < (a1.length : Int) := by omega
                    rcases Int.emod_two_eq z with hm | hm
                    · rw [hm] at J
                      clear hcell hc2 hsp hc s1 s0 HS O2 SM A0 E0
                      go_wp2_with (go_at_call 17; refine J.mono ?_; rintro e w' ⟨rfl, rfl⟩)
                      go_roundw
                      case rel => exact ⟨j + 1, tt ++ [32, 32, 42, 32], by omega, by simp, rfl, trivial, by simp; omega, E1⟩
                      case measure => simp [intOf]; omega
                    · rw [hm] at J
                      clear hcell hc2 hsp hc s1 s0 HS O2 SM A1 A2 A3 E1
                      go_wp2_with (go_at_call 17; refine J.mono ?_; rintro e w' ⟨rfl, rfl⟩)
                      go_roundw
                      case rel => exact ⟨j + 1, tt ++ [42], by omega, by simp, rfl, trivial, by simp; omega, E0⟩
                      case measure => simp [intOf]; omega
                  · have hnI : ¬ (j : Int) < (a1.length : Int) := by omega
                    clear hc2 hsp hc s1 s0 HS O2 SM
                    go_wp2_with fail
                    go_roundw
                    case rel => exact ⟨j + 1, tt ++ [42], by omega, by simp, rfl, trivial, by simp; omega, E0⟩
                    case measure => simp [intOf]; omega
                · skip
                  by_cases h38 : c = 38
                  · subst h38
                    have q40 : ((bs [38]).toList == [40]) = false := by rw [cmps]; decide
                    have q41 : ((bs [38]).toList == [41]) = false := by rw [cmps]; decide
                    have q43 : ((bs [38]).toList == [43]) = false := by rw [cmps]; decide
                    have q45 : ((bs [38]).toList == [45]) = false := by rw [cmps]; decide
                    have q42 : ((bs [38]).toList == [42]) = false := by rw [cmps]; decide
                    have q38 : ((bs [38]).toList == [38]) = true := by rw [cmps]; decide
                    have q124 : ((bs [38]).toList == [124]) = false := by rw [cmps]; decide
                    have q32 : ((bs [38]).toList == [32]) = false := by rw [cmps]; decide
                    by_cases hn : j < a1.length
                    · have A1 := run_string_add_sum (P := Tryz.prog) wr ⟨#[32, 32]⟩ (bs [38]) (by rw [dec_size]; simp [ByteArray.size])
                      rw [blank_app] at A1
                      have A2 := run_string_add_sum (P := Tryz.prog) wr (bs [32, 32, 38]) ⟨#[32]⟩ (by rw [dec_size]; simp [ByteArray.size])
                      rw [blank_app2] at A2
                      have A3 := run_string_add_sum (P := Tryz.prog) wr (bs tt) (bs [32, 32, 38, 32]) (by rw [dec_size, dec_size]; simp; omega)
                      rw [dec_app] at A3
                      have E1 := spread_step hsp.out hc (piece_sign 38 (by decide))
                      obtain ⟨z, hz⟩ : ∃ z, a1[j]? = some z := ⟨_, List.getElem?_eq_getElem hn⟩
                      obtain ⟨b, o, rfl, hcell⟩ := hc2 (by intro h; rw [h] at hn; simp at hn)
                      have cz := kept_cell B4 (hcell _ z hz)
                      have J := within_any z 2 (by omega) (by omega) wr
                      have hnI : (j : Int) < (a1.length : Int) := by omega
                      rcases Int.emod_two_eq z with hm | hm
                      · rw [hm] at J
                        clear hcell hc2 hsp hc s1 s0 HS O2 SM A0 E0
                        go_wp2_with (go_at_call 17; refine J.mono ?_; rintro e w' ⟨rfl, rfl⟩)
                        go_roundw
                        case rel => exact ⟨j + 1, tt ++ [32, 32, 38, 32], by omega, by simp, rfl, trivial, by simp; omega, E1⟩
                        case measure => simp [intOf]; omega
                      · rw [hm] at J
                        clear hcell hc2 hsp hc s1 s0 HS O2 SM A1 A2 A3 E1
                        go_wp2_with (go_at_call 17; refine J.mono ?_; rintro e w' ⟨rfl, rfl⟩)
                        go_roundw
                        case rel => exact ⟨j + 1, tt ++ [38], by omega, by simp, rfl, trivial, by simp; omega, E0⟩
                        case measure => simp [intOf]; omega
                    · have hnI : ¬ (j : Int) < (a1.length : Int) := by omega
                      clear hc2 hsp hc s1 s0 HS O2 SM
                      go_wp2_with fail
                      go_roundw
                      case rel => exact ⟨j + 1, tt ++ [38], by omega, by simp, rfl, trivial, by simp; omega, E0⟩
                      case measure => simp [intOf]; omega
                  · skip
                    by_cases h124 : c = 124
                    · subst h124
                      have q40 : ((bs [124]).toList == [40]) = false := by rw [cmps]; decide
                      have q41 : ((bs [124]).toList == [41]) = false := by rw [cmps]; decide
                      have q43 : ((bs [124]).toList == [43]) = false := by rw [cmps]; decide
                      have q45 : ((bs [124]).toList == [45]) = false := by rw [cmps]; decide
                      have q42 : ((bs [124]).toList == [42]) = false := by rw [cmps]; decide
                      have q38 : ((bs [124]).toList == [38]) = false := by rw [cmps]; decide
                      have q124 : ((bs [124]).toList == [124]) = true := by rw [cmps]; decide
                      have q32 : ((bs [124]).toList == [32]) = false := by rw [cmps]; decide
                      by_cases hn : j < a1.length
                      · have A1 := run_string_add_sum (P := Tryz.prog) wr ⟨#[32, 32]⟩ (bs [124]) (by rw [dec_size]; simp [ByteArray.size])
                        rw [blank_app] at A1
                        have A2 := run_string_add_sum (P := Tryz.prog) wr (bs [32, 32, 124]) ⟨#[32]⟩ (by rw [dec_size]; simp [ByteArray.size])
                        rw [blank_app2] at A2
                        have A3 := run_string_add_sum (P := Tryz.prog) wr (bs tt) (bs [32, 32, 124, 32]) (by rw [dec_size, dec_size]; simp; omega)
                        rw [dec_app] at A3
                        have E1 := spread_step hsp.out hc (piece_sign 124 (by decide))
                        obtain ⟨z, hz⟩ : ∃ z, a1[j]? = some z := ⟨_, List.getElem?_eq_getElem hn⟩
                        obtain ⟨b, o, rfl, hcell⟩ := hc2 (by intro h; rw [h] at hn; simp at hn)
                        have cz := kept_cell B4 (hcell _ z hz)
                        have J := within_any z 2 (by omega) (by omega) wr
                        have hnI : (j : Int) < (a1.length : Int) := by omega
                        rcases Int.emod_two_eq z with hm | hm
                        · rw [hm] at J
                          clear hcell hc2 hsp hc s1 s0 HS O2 SM A0 E0
                          go_wp2_with (go_at_call 17; refine J.mono ?_; rintro e w' ⟨rfl, rfl⟩)
                          go_roundw
                          case rel => exact ⟨j + 1, tt ++ [32, 32, 124, 32], by omega, by simp, rfl, trivial, by simp; omega, E1⟩
                          case measure => simp [intOf]; omega
                        · rw [hm] at J
                          clear hcell hc2 hsp hc s1 s0 HS O2 SM A1 A2 A3 E1
                          go_wp2_with (go_at_call 17; refine J.mono ?_; rintro e w' ⟨rfl, rfl⟩)
                          go_roundw
                          case rel => exact ⟨j + 1, tt ++ [124], by omega, by simp, rfl, trivial, by simp; omega, E0⟩
                          case measure => simp [intOf]; omega
                      · have hnI : ¬ (j : Int) < (a1.length : Int) := by omega
                        clear hc2 hsp hc s1 s0 HS O2 SM
                        go_wp2_with fail
                        go_roundw
                        case rel => exact ⟨j + 1, tt ++ [124], by omega, by simp, rfl, trivial, by simp; omega, E0⟩
                        case measure => simp [intOf]; omega
                    · skip
                      by_cases h32 : c = 32
                      · subst h32
                        have q40 : ((bs [32]).toList == [40]) = false := by rw [cmps]; decide
                        have q41 : ((bs [32]).toList == [41]) = false := by rw [cmps]; decide
                        have q43 : ((bs [32]).toList == [43]) = false := by rw [cmps]; decide
                        have q45 : ((bs [32]).toList == [45]) = false := by rw [cmps]; decide
                        have q42 : ((bs [32]).toList == [42]) = false := by rw [cmps]; decide
                        have q38 : ((bs [32]).toList == [38]) = false := by rw [cmps]; decide
                        have q124 : ((bs [32]).toList == [124]) = false := by rw [cmps]; decide
                        have q32 : ((bs [32]).toList == [32]) = true := by rw [cmps]; decide
                        by_cases hn : j < a1.length
                        · have A3 := run_string_add_sum (P := Tryz.prog) wr (bs tt) ⟨#[32, 32, 32]⟩ (by rw [dec_size]; simp [ByteArray.size]; omega)
                          rw [show (⟨#[32, 32, 32]⟩ : ByteArray) = bs [32, 32, 32] from rfl, dec_app] at A3
                          have A3' : (Op.stringOp .add (bs tt) ⟨#[32, 32, 32]⟩).run Tryz.prog wr = .ok (.string (bs (tt ++ [32, 32, 32]))) wr := A3
                          have E1 := spread_step hsp.out hc piece_blank
                          obtain ⟨z, hz⟩ : ∃ z, a1[j]? = some z := ⟨_, List.getElem?_eq_getElem hn⟩
                          obtain ⟨b, o, rfl, hcell⟩ := hc2 (by intro h; rw [h] at hn; simp at hn)
                          have cz := kept_cell B4 (hcell _ z hz)
                          have J := within_any z 3 (by omega) (by omega) wr
                          have hnI : (j : Int) < (a1.length : Int) := by omega
                          by_cases hm : z % 3 = 0
                          · rw [hm] at J
                            clear hcell hc2 hsp hc s1 s0 HS O2 SM A0 E0 A3
                            go_wp2_with (go_at_call 17; refine J.mono ?_; rintro e w' ⟨rfl, rfl⟩)
                            go_roundw
                            case rel => exact ⟨j + 1, tt ++ [32, 32, 32], by omega, by simp, rfl, trivial, by simp; omega, E1⟩
                            case measure => simp [intOf]; omega
                          · have hmb : (z % 3 == 0) = false := by simpa using hm
                            generalize z % 3 = z3 at *
                            clear hcell hc2 hsp hc s1 s0 HS O2 SM A3 A3' E1
                            go_wp2_with (go_at_call 17; refine J.mono ?_; rintro e w' ⟨rfl, rfl⟩)
                            go_roundw
                            case rel => exact ⟨j + 1, tt ++ [32], by omega, by simp, rfl, trivial, by simp; omega, E0⟩
                            case measure => simp [intOf]; omega
                        · have hnI : ¬ (j : Int) < (a1.length : Int) := by omega
                          clear hc2 hsp hc s1 s0 HS O2 SM
                          go_wp2_with fail
                          go_roundw
                          case rel => exact ⟨j + 1, tt ++ [32], by omega, by simp, rfl, trivial, by simp; omega, E0⟩
                          case measure => simp [intOf]; omega
                      · skip
                        have q40 : ((bs [c]).toList == [40]) = false := by rw [cmps]; simpa using h40
                        have q41 : ((bs [c]).toList == [41]) = false := by rw [cmps]; simpa using h41
                        have q43 : ((bs [c]).toList == [43]) = false := by rw [cmps]; simpa using h43
                        have q45 : ((bs [c]).toList == [45]) = false := by rw [cmps]; simpa using h45
                        have q42 : ((bs [c]).toList == [42]) = false := by rw [cmps]; simpa using h42
                        have q38 : ((bs [c]).toList == [38]) = false := by rw [cmps]; simpa using h38
                        have q124 : ((bs [c]).toList == [124]) = false := by rw [cmps]; simpa using h124
                        have q32 : ((bs [c]).toList == [32]) = false := by rw [cmps]; simpa using h32
                        clear hc2 hsp hc s1 s0 HS O2 SM
                        go_wp2_with fail
                        go_roundw
                        case rel => exact ⟨j + 1, tt ++ [c], by omega, by simp, rfl, trivial, by simp; omega, E0⟩
                        case measure => simp [intOf]; omega
      · obtain rfl : j = S.length := by omega
        rw [List.take_length] at hsp
        have hjI : ¬ (S.length : Int) < (S.length : Int) := by omega
        have hp := HS.out tt hsp.out
        have A1 := run_string_add_sum (P := Tryz.prog) wr ⟨#[32]⟩ (bs tt) (by rw [dec_size]; simp [ByteArray.size]; omega)
        rw [show (⟨#[32]⟩ : ByteArray) ++ bs tt = bs (32 :: tt) from dec_app [32] tt] at A1
        have A2 := run_string_add_sum (P := Tryz.prog) wr (bs (32 :: tt)) ⟨#[32, 32]⟩ (by rw [dec_size]; simp [ByteArray.size]; omega)
        rw [show bs (32 :: tt) ++ (⟨#[32, 32]⟩ : ByteArray) = bs (32 :: (tt ++ [32, 32])) from dec_app (32 :: tt) [32, 32]] at A2
        have P := parse_any (32 :: (tt ++ [32, 32])) (by simp; omega) wr (T.later B4)
        rw [hp] at P
        clear hp HS hsp hc2 s1
        generalize 32 :: (tt ++ [32, 32]) = txt at *
        go_wp2_with fail
        refine P.mono ?_
        rintro e W5 ⟨hb5, v5, rfl, hx5⟩
        obtain ⟨kb, nb, tb, qb, lb, mb, rfl⟩ := hx5.form
        have B5 := B4.trans (hb5.mono B4.size)
        have n6 := below_new W5 (.cells #[.int .i64 kb, .int .i64 nb, .string tb, .slice qb lb mb] 27)
        have X6 := Blk.new W5 27 (.int .i64 kb) (.int .i64 nb) (.string tb) (.slice qb lb mb)
        have B6 := B5.trans (n6.mono B5.size)
        have hx6 := hx5.below n6
        clear P hb5 hx5 A1 A2 B5 n6
        go_wp2_with fail
        generalize W5.alloc (.cells #[.int .i64 kb, .int .i64 nb, .string tb, .slice qb lb mb] 27) = W6 at *
        have R6 := s0.later B6
        have d6 : Below W6.heap.size W6 W6.drew := Below.drew (Below.refl _ _)
        have O6 := O2 _ (R6.later d6)
        have X6d := X6.later d6
        have hx6d := hx6.below d6
        have B6d := B6.trans (d6.mono B6.size)
        obtain ⟨x0c, x1c, x2c, x3c, _, _, _, _⟩ := id X6
        clear O2 R6 hx6 X6 B6 B4 T
        go_region_with (first
          | (go_at_call 10; refine O6.mono ?_; rintro e W7 ⟨hb7, v7, rfl, hx7⟩; obtain ⟨kc, nc, tc, qc, lc, mc, rfl⟩ := hx7.form; have B7 := B6d.trans (hb7.mono B6d.size); have X7 := X6d.later hb7; have hxx := hx6d.below hb7; obtain ⟨y0, y1, y2, y3, _, _, _, _⟩ := id X7)
          | (go_at_call 16; refine (SM _ _ _ _ _ hxx hx7).mono ?_; rintro e W8 ⟨rfl, hb8⟩))
        all_goals go_wp2_with fail
        all_goals go_ret
        all_goals exact ⟨rfl, B7.trans (hb8.mono B7.size)⟩

/-! ### The row's step -/
set_option maxRecDepth 100000 in
theorem lifted (os : Os) (started : os.Started) (H : Type) (enc : TypeId × Value → H) :
    ReturnsInHanded {} Tryz.checked os 6 .any (fun w args => (Rows.exprBlanksSpec.pre enc Tryz.prog Tryz.f6 [] false w args ∧ laidMetH Tryz.prog laid8 w) ∧ sizedMet enc Tryz.prog Tryz.f6 (OpenSpec.ofChange Rows.exprBlanksSpec) false w args)
      (Rows.exprBlanksSpec.post enc Tryz.prog Tryz.f6 false true false false) := by
  refine returnsInHanded_of_change_and (C := Tryz.checked) (X := fun w _ => laidMetH Tryz.prog laid8 w) (fun _ _ _ hh h => h.of_heap hh) own started (by kernel_rfl) Tryz.func6
    (ChangeSpec.witness_shaped (enc := enc) (C := Tryz.checked) (os := os) (X := fun w _ => laidMetH Tryz.prog laid8 w) false (World.laidAll Tryz.prog os laid8) #[.slice none 0 0, .slice none 0 0] 8 (World.laidAll_os _ _ _) (World.shaped_of_ZipB (by kernel_rfl) (by kernel_rfl)) (by kernel_rfl) (by kernel_rfl) (by kernel_rfl) (by rw [MakeChecks.laidMetH_plain _ _ _ (by kernel_rfl)]; exact laidMet_laidAll _ (by kernel_rfl) (by kernel_rfl))) ?_
  intro W base args ds gs before hval0 hW _ _ hL _
  have hval : ∀ (j : Nat) t v, Tryz.f6.params[j]? = some t → args[j]? = some v → Value.okWide Tryz.prog W .any base t v := hval0
  have hW' := hW
  obtain ⟨p, q, hA0, hV, rfl, hfz, hnd⟩ := hW
  have hA : DataW.TrodAll enc Tryz.prog W 0 (fun _ => true) true Tryz.f6.params.toList args.toList ds p := hA0
  rw [Tryz.params6] at hA hval
  obtain ⟨v0, vs0, d0, ds0, p0, q0, hargs, rfl, rfl, h0, r0⟩ := trodAll_cons hA
  obtain ⟨v1, vs1, d1, ds1, p1, q1, rfl, rfl, rfl, h1, r1⟩ := trodAll_cons r0
  obtain ⟨rfl, rfl, rfl⟩ := trodAll_nil r1
  obtain rfl : args = #[v0, v1] := by cases args; simp_all
  obtain ⟨rfl, rfl⟩ := trodVars_none hV
  have k0 := h0
  obtain ⟨a0, s0⟩ := open_raws (hval 0 22 v0 rfl rfl) h0
  have k1 := h1
  obtain ⟨a1, s1, w1, l1⟩ := open_ints' (hval 1 35 v1 rfl rfl) h1
  clear hA0 hval0
  simp only [List.append_nil, List.nil_append] at hW'
  have hlt : ∀ x ∈ p0 ++ p1, x.block < W.heap.size := fun x hx => by simpa using hW'.lt x (by simpa [or_assoc] using hx)
  refine (walk v0 a0 v1 a1 w1 l1 W (tab_of_laid hL) s0 s1).mono fun e W' ⟨he, hg⟩ => ?_
  subst he
  exact ⟨_, rfl, _, _, _, [], _, [], hW', (trodAll_cons_mk (shut_bool Tryz.underlying4 _) trodAll_mk0), (trodAll_cons_mk (Below.trod laidOut (by kernel_rfl) (of_decide_eq_true (by kernel_rfl)) k0 hg (fun x hx => hlt x (by simp [hx]))) (trodAll_cons_mk (Below.trod laidOut (by kernel_rfl) (of_decide_eq_true (by kernel_rfl)) k1 hg (fun x hx => hlt x (by simp [hx]))) trodAll_mk0)), rfl, hg.frame _, fun h => by cases h⟩

theorem row : Rows.ExprBlanksSaid :=
  OpenClaim.holds_of_wide 6 Tryz.f6 rfl rfl rfl rfl rfl rfl rfl ⟨rfl, rfl, rfl, rfl, rfl⟩ rfl rfl rfl rfl rfl (by kernel_rfl) Tryz.func6 (by kernel_rfl)
    (of_decide_eq_true (by kernel_rfl)) (by unfold Func.isWrapper; first | (rw [if_pos (by decide +kernel)]; kernel_rfl) | (rw [if_neg (by decide +kernel)]; exact ⟨rfl, rfl⟩))
    (fun os started H enc _ => lifted os started H enc)

/-- The statement. -/
theorem proved : Rows.ExprBlanksCardSaid :=
  Claim7.holds_tied_plain_at .later [] [.data, .data, .data, .data, .sentinel, .sentinel, .data, .pinned] true (true, "f08257e55a3ccc68d95a493c92da4daa60ab3f463c0a3b302d2eeb7255323afe") true
    row (fun _ h => by cases h) (by kernel_rfl) (fun _ h => by cases h) exprBlanks_row_tie rfl ⟨rfl, rfl⟩ (by kernel_rfl) rfl
    (fun f fn hf hfn => by
      obtain rfl : f = 6 := Option.some.inj ((show Tryz.prog.funcNamed "letterpress/letterpresslaw3.ExprBlanks" = some 6 by kernel_rfl).symm.trans hf) |>.symm
      obtain rfl : fn = Tryz.f6 := (Option.some.inj (Tryz.func6.symm.trans hfn)).symm
      exact ⟨by kernel_rfl, fun j t ht => by
        rw [Tryz.params6] at ht
        have hm : t ∈ [22, 35] := by simpa using Array.mem_of_getElem? ht
        have hall : ([22, 35].all fun u => !Tryz.prog.wantsStandIn u) = true := by kernel_rfl
        exact (show Tryz.prog.wantsStandIn t = false by simpa using List.all_eq_true.1 hall t hm)⟩)
    (by kernel_rfl)
#print axioms proved
end Go.Proofs.YtopfnfmglnjljaaGreatDoor.exprBlanks
