/- The contracts of number and leaf. -/
import Derived.Test.YtopfnfmglnjljaaGreatDoorHex
namespace Go.Proofs.YtopfnfmglnjljaaGreatDoor
open Go.ChangeShapes Go.WideShapes Go.ChangeAt Go.RowKit
set_option linter.unusedVariables false
set_option linter.unusedSimpArgs false

/-- An answer of ParseUint: a number and no error, or some number and an error. -/
def NumEnd (e : Ending) : Option Nat → Prop
  | some n => e = .returned (.tuple #[.int .u64 n, .nilIface])
  | none => ∃ x t v, e = .returned (.tuple #[.int .u64 x, .iface t v])

theorem run_ascii {s : Bs} (hr : ∀ c ∈ s, runB c = true) : ∀ c ∈ s, c.toNat < 128 := by
  intro c hc
  have := run_cases (hr c hc)
  omega

theorem intParse16' (s : Bs) (hr : ∀ c ∈ s, runB c = true) (hl : s.length ≤ 35184372088832) (w : World) :
    Calls Tryz.prog 128 #[.string (bs s), .int .i64 16, .int .i64 32] w fun e w' => Below w.heap.size w w' ∧ HexEnd e (hexP s) := by
  by_cases hn : s = []
  · subst hn
    have I := AnyPu.internal_strconv_ParseUint_empty { Tryz.laysPu14 with } 16 32 w
    refine I.mono ?_
    rintro e w' ⟨rfl, rfl⟩
    exact ⟨Below.refl _ _, 0, 2, .inr rfl, rfl⟩
  · have hh : hexP s = hexGoP 0 s := by unfold hexP; rw [if_neg hn]
    rw [hh]
    exact intParse16 s hr hn hl w

set_option maxHeartbeats 1600000 in
set_option maxRecDepth 100000 in
theorem parse16 (s : Bs) (hr : ∀ c ∈ s, runB c = true) (hl : s.length ≤ 35184372088832) (w : World) (T : Tab w) :
    Calls Tryz.prog 124 #[.string (bs s), .int .i64 16, .int .i64 32] w fun e w' => Below w.heap.size w w' ∧ NumEnd e (hexP s) := by
  have hsz := bs_size s
  have I := intParse16' s hr hl w
  cases hx : hexP s with
  | some n =>
    rw [hx] at I
    go_enter Tryz.func124, Tryz.ntmps124
    go_wp2_with (go_at_call 128; refine I.mono ?_; rintro e w1 ⟨hb, rfl⟩)
    go_ret2
    exact ⟨hb, rfl⟩
  | none =>
    rw [hx] at I
    go_enter Tryz.func124, Tryz.ntmps124
    go_wp2_with (go_at_call 128; refine I.mono ?_; rintro e w1 ⟨hb, x, k, hk, rfl⟩)
    have T1 := T.later hb
    rcases hk with rfl | rfl
    · obtain ⟨ev, h1, h2⟩ := T1.range
      have E := AnyPu.strconv_toError_range { Tryz.laysPu14 with } ⟨#[80, 97, 114, 115, 101, 85, 105, 110, 116]⟩ (bs s) 16 32 ev w1 (by omega) h1 h2
      go_wp2_with (go_at_call 129; refine E.mono ?_; rintro e w2 ⟨N, rfl, _, _, hb2⟩)
      go_ret2
      exact ⟨hb.trans (hb2.mono hb.size), _, _, _, rfl⟩
    · obtain ⟨ev, h1, h2⟩ := T1.synt
      have E := AnyPu.strconv_toError_syntax { Tryz.laysPu14 with } ⟨#[80, 97, 114, 115, 101, 85, 105, 110, 116]⟩ (bs s) 16 32 ev w1 (by omega) h1 h2
      go_wp2_with (go_at_call 129; refine E.mono ?_; rintro e w2 ⟨N, rfl, _, _, hb2⟩)
      go_ret2
      exact ⟨hb.trans (hb2.mono hb.size), _, _, _, rfl⟩

theorem parse10 (s : Bs) (hl : s.length ≤ 35184372088832) (w : World) (T : Tab w) :
    Calls Tryz.prog 124 #[.string (bs s), .int .i64 10, .int .i64 32] w fun e w' => Below w.heap.size w w' ∧ NumEnd e (decP s) := by
  have hsz := bs_size s
  unfold decP
  cases hx : Go.Lib.parseUintB 32 s with
  | ok u =>
    refine (Tryz.strconv_ParseUint_10_at32_ok (bs s) (by omega) u (by rw [bs_list]; exact hx) w).mono ?_
    rintro e w' ⟨rfl, hw⟩
    refine ⟨?_, rfl⟩
    rcases hw with rfl | rfl
    · exact Below.refl _ _
    · exact Lib.bytesWorld_below _ _ _
  | «syntax» =>
    obtain ⟨ev, h1, h2⟩ := T.synt
    refine (Tryz.strconv_ParseUint_10_at32_syntax (bs s) (by omega) (by rw [bs_list]; exact hx) ev w h1 h2).mono ?_
    rintro e w' ⟨N, rfl, _, _, hb⟩
    exact ⟨hb, _, _, _, rfl⟩
  | range =>
    obtain ⟨ev, h1, h2⟩ := T.range
    refine (Tryz.strconv_ParseUint_10_at32_range (bs s) (by omega) (by rw [bs_list]; exact hx) ev w h1 h2).mono ?_
    rintro e w' ⟨N, rfl, _, _, hb⟩
    exact ⟨hb, _, _, _, rfl⟩

/-- A number is below 2^32. -/
theorem hexGoP_lt : ∀ (s : Bs) (acc n : Nat), acc ≤ 4294967295 → hexGoP acc s = some n → n ≤ 4294967295
  | [], acc, n, h, e => by cases e; exact h
  | c :: s, acc, n, h, e => by
    unfold hexGoP at e
    split at e
    · cases e
    · split at e
      · cases e
      · exact hexGoP_lt s _ n (by omega) e

theorem parseUintM_lt : ∀ (s : Bs) (acc n : Nat), acc ≤ 4294967295 → Go.Lib.parseUintM 4294967295 acc s = .ok n → n ≤ 4294967295
  | [], acc, n, h, e => by cases e; exact h
  | c :: s, acc, n, h, e => by
    unfold Go.Lib.parseUintM at e
    split at e
    · split at e
      · cases e
      · split at e
        · cases e
        · exact parseUintM_lt s _ n (by omega) e
    · cases e

theorem numberP_lt {s : Bs} {n : Nat} (h : numberP s = some n) : n ≤ 4294967295 := by
  unfold numberP at h
  split at h
  · unfold hexP at h
    split at h
    · cases h
    · exact hexGoP_lt _ 0 n (by omega) h
  · unfold decP at h
    split at h
    · rename_i u hu
      cases h
      unfold Go.Lib.parseUintB at hu
      split at hu
      · cases hu
      · exact parseUintM_lt _ 0 n (by omega) hu
    · cases h

set_option maxHeartbeats 1600000 in
set_option maxRecDepth 100000 in
theorem number_any (s : Bs) (hr : ∀ c ∈ s, runB c = true) (hl : s.length ≤ 35184372088832) (w : World) (T : Tab w) :
    Calls Tryz.prog 117 #[.string (bs s)] w fun e w' => Below w.heap.size w w' ∧ e = .returned (.tuple #[.int .i64 (((numberP s).getD 0 : Nat) : Int), .bool (numberP s).isSome]) := by
  have K := fun W => Tryz.strings_CutPrefix (bs s) ⟨#[48, 120]⟩ W
  simp only [bs_list, show (⟨#[48, 120]⟩ : ByteArray).data.toList = [48, 120] from rfl] at K
  have hlt := fun n => numberP_lt (s := s) (n := n)
  unfold numberP at *
  cases hp : Go.Lib.hasPrefix s [48, 120] with
  | true =>
    rw [hp] at K hlt
    simp only [if_true] at hlt ⊢
    generalize hd : Go.Lib.trimPrefix s [48, 120] = dg at *
    have hsub : ∀ c ∈ dg, c ∈ s := by
      intro c hc
      rw [← hd] at hc
      unfold Go.Lib.trimPrefix at hc
      rw [if_pos hp] at hc
      exact List.mem_of_mem_drop hc
    have hlen : dg.length ≤ s.length := by
      rw [← hd]
      unfold Go.Lib.trimPrefix
      rw [if_pos hp, List.length_drop]
      omega
    have P := parse16 dg (fun c hc => hr c (hsub c hc)) (by omega) w T
    rw [show (⟨dg.toArray⟩ : ByteArray) = bs dg from rfl] at K
    clear hd hp hsub hlen hr
    cases hx : hexP dg with
    | some n =>
      rw [hx] at P
      have hn := hlt n hx
      have hnI : (n : Int) ≤ 4294967295 := by omega
      clear hlt hn
      go_enter Tryz.func117, Tryz.ntmps117
      go_wp2_with (first | (go_at_call 90; refine (K _).mono ?_; rintro e w' ⟨rfl, rfl⟩) | (go_at_call 124; refine P.mono ?_; rintro e w1 ⟨hb, rfl⟩))
      go_ret2
      exact ⟨hb, rfl⟩
    | none =>
      rw [hx] at P
      clear hlt
      go_enter Tryz.func117, Tryz.ntmps117
      go_wp2_with (first | (go_at_call 90; refine (K _).mono ?_; rintro e w' ⟨rfl, rfl⟩) | (go_at_call 124; refine P.mono ?_; rintro e w1 ⟨hb, x, tt, vv, rfl⟩))
      go_ret2
      exact ⟨hb, rfl⟩
  | false =>
    rw [hp] at K hlt
    simp only [Bool.false_eq_true, if_false] at hlt ⊢
    rw [show Go.Lib.trimPrefix s [48, 120] = s by unfold Go.Lib.trimPrefix; rw [if_neg (by simp [hp])], show (⟨s.toArray⟩ : ByteArray) = bs s from rfl] at K
    have P := parse10 s hl w T
    clear hp hr
    cases hx : decP s with
    | some n =>
      rw [hx] at P
      have hn := hlt n hx
      have hnI : (n : Int) ≤ 4294967295 := by omega
      clear hlt hn
      go_enter Tryz.func117, Tryz.ntmps117
      go_wp2_with (first | (go_at_call 90; refine (K _).mono ?_; rintro e w' ⟨rfl, rfl⟩) | (go_at_call 124; refine P.mono ?_; rintro e w1 ⟨hb, rfl⟩))
      go_ret2
      exact ⟨hb, rfl⟩
    | none =>
      rw [hx] at P
      clear hlt
      go_enter Tryz.func117, Tryz.ntmps117
      go_wp2_with (first | (go_at_call 90; refine (K _).mono ?_; rintro e w' ⟨rfl, rfl⟩) | (go_at_call 124; refine P.mono ?_; rintro e w1 ⟨hb, x, tt, vv, rfl⟩))
      go_ret2
      exact ⟨hb, rfl⟩
end Go.Proofs.YtopfnfmglnjljaaGreatDoor
