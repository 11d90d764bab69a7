/- The contract of strconv.ParseUint at base 16 and 32 bits, of texts of small letters, digits and '_'. -/
import Derived.Test.YtopfnfmglnjljaaGreatDoorWord
import Derived.Lib.ConvBytes
import Derived.BigGuard
namespace Go.Proofs.YtopfnfmglnjljaaGreatDoor
open Go.ChangeShapes Go.WideShapes Go.ChangeAt Go.RowKit
set_option linter.unusedVariables false
set_option linter.unusedSimpArgs false

theorem hexGoP_step {s : Bs} {j : Nat} {c : UInt8} (h : s[j]? = some c) (acc : Nat) : hexGoP acc (s.drop j) = match hexDig c with
    | none => none
    | some d => if 4294967295 < acc * 16 + d then none else hexGoP (acc * 16 + d) (s.drop (j + 1)) := by
  obtain ⟨h1, rfl⟩ := List.getElem?_eq_some_iff.1 h
  rw [List.drop_eq_getElem_cons h1]
  rfl

/-- What internal/strconv.ParseUint answers: a number, or that it is none. -/
def HexEnd (e : Ending) : Option Nat → Prop
  | some n => e = .returned (.tuple #[.int .u64 n, .nilIface])
  | none => ∃ x k, (k = 1 ∨ k = 2) ∧ e = .returned (.tuple #[.int .u64 x, .iface 163 (.int .i64 k)])

theorem lower_small : ∀ n : Fin 256, (97 ≤ n.val ∧ n.val ≤ 122) → bits .or .u8 (n.val : Int) 32 = n.val := by decide +kernel
theorem lower_line : bits .or .u8 95 32 = 127 := by decide +kernel

theorem lower_any (c r : Int) (h : bits .or .u8 c 32 = r) (w : World) : Calls Tryz.prog 131 #[.int .u8 c] w fun e w' => e = .returned (.int .u8 r) ∧ w' = w := by
  go_enter Tryz.func131, Tryz.ntmps131
  go_wp2
  go_ret
  exact ⟨by simp [h], rfl⟩

theorem run_cases {c : UInt8} (h : runB c = true) : (48 ≤ c.toNat ∧ c.toNat ≤ 57) ∨ (97 ≤ c.toNat ∧ c.toNat ≤ 102) ∨ (103 ≤ c.toNat ∧ c.toNat ≤ 122) ∨ c.toNat = 95 := by
  unfold runB letterB digitB at h
  simp at h
  omega

set_option maxHeartbeats 12800000 in
set_option maxRecDepth 100000 in
theorem intParse16 (s : Bs) (hr : ∀ c ∈ s, runB c = true) (hn : s ≠ []) (hl : s.length ≤ 35184372088832) (w : World) :
    Calls Tryz.prog 128 #[.string (bs s), .int .i64 16, .int .i64 32] w fun e w' => Below w.heap.size w w' ∧ HexEnd e (hexGoP 0 s) := by
  have hsz := bs_size s
  have hpos : 0 < s.length := by cases s with | nil => exact absurd rfl hn | cons a t => simp
  have hne : (bs s).toList.isEmpty = false := isEmpty_of (by omega)
  have hcv := Lib.run_convert_string_bytes (P := Tryz.prog) w 9 36 5 (bs s) (u := .string) Tryz.underlying9 Tryz.underlying36 Tryz.underlying5
  have hcl : ∀ j, j < s.length → (Lib.bytesWorld w 5 (bs s)).cell? ⟨w.heap.size, j, none⟩ = some (.int .u8 (s.getD j 0).toNat) := fun j hj => by
    have := Lib.bytesWorld_cell w 5 (bs s) j (by rw [hsz]; exact hj)
    rwa [bs_list] at this
  have hbl := Lib.bytesWorld_below w 5 (bs s)
  obtain ⟨W1, hW1⟩ : ∃ W1, W1 = Lib.bytesWorld w 5 (bs s) := ⟨_, rfl⟩
  rw [← hW1] at hcv hcl hbl
  clear hW1
  generalize hB : bs s = B at *
  clear hB
  have hmv : IntKind.u64.wrap (IntKind.u64.wrap 4294967296 - 1) = 4294967295 := by
    rw [IntKind.wrap_u64, IntKind.wrap_u64]
    decide
  go_enter Tryz.func128, Tryz.ntmps128
  go_wp2
  go_loopw [12, 13, 101] (fun vu vn vi wr => ∃ (k acc : Nat) (a : Int), vu = .bool false ∧ vn = .int .u64 a ∧ vi = .int .i64 k ∧ k ≤ s.length ∧ wr = W1 ∧ Hid (a = (acc : Int) ∧ acc ≤ 4294967295 ∧ hexGoP acc (s.drop k) = hexGoP 0 s)) (fun _ _ vi _ => s.length - (intOf vi).toNat)
  case atStart => exact ⟨0, 0, 0, rfl, rfl, rfl, by omega, rfl, rfl, by omega, rfl⟩
  case round =>
    obtain ⟨k, acc, a, rfl, rfl, rfl, hk, rfl, hh⟩ := hrel
    obtain ⟨ha, hacc, he⟩ := hh.out
    clear hh
    have a0 : 0 ≤ a := by omega
    have a1 : a ≤ 4294967295 := by omega
    by_cases hkn : k < s.length
    · obtain ⟨c, hc⟩ : ∃ c, s[k]? = some c := ⟨_, List.getElem?_eq_getElem hkn⟩
      have hcell := hcl k hkn
      have hget : s.getD k 0 = c := by simp [List.getD, hc]
      rw [hget] at hcell
      have hst := hexGoP_step hc acc
      rw [he] at hst
      have hkI : (k : Int) < (s.length : Int) := by omega
      have hmem := hr c (List.mem_of_getElem? hc)
      clear hcl hget hr hc he
      rcases run_cases hmem with ⟨d0, d1⟩ | ⟨d0, d1⟩ | ⟨d0, d1⟩ | d0
      · have hd : hexDig c = some (c.toNat - 48) := by unfold hexDig; rw [if_pos ⟨d0, d1⟩]
        rw [hd] at hst
        simp only at hst
        have i0 : (48 : Int) ≤ (c.toNat : Int) := by omega
        have i1 : (c.toNat : Int) ≤ 57 := by omega
        by_cases hov : 4294967295 < acc * 16 + (c.toNat - 48)
        · have iov : 4294967295 < a * 16 + ((c.toNat : Int) - 48) := by omega
          rw [if_pos hov] at hst
          have HE : Hid (hexGoP 0 s = none) := hst
          clear hst hov hacc ha hd hmem d0 d1
          go_wp2
          go_ret2
          rw [HE.out]
          exact ⟨hbl, _, 1, .inl rfl, rfl⟩
        · have iov : a * 16 + ((c.toNat : Int) - 48) ≤ 4294967295 := by omega
          rw [if_neg hov] at hst
          have HN : Hid (a * 16 + ((c.toNat : Int) - 48) = ((acc * 16 + (c.toNat - 48) : Nat) : Int) ∧ acc * 16 + (c.toNat - 48) ≤ 4294967295 ∧ hexGoP (acc * 16 + (c.toNat - 48)) (s.drop (k + 1)) = hexGoP 0 s) := ⟨by omega, by omega, hst.symm⟩
          clear hst hov hacc ha hd hmem d0 d1
          go_wp2
          go_roundw
          case rel => exact ⟨k + 1, acc * 16 + (c.toNat - 48), a * 16 + ((c.toNat : Int) - 48), rfl, (by first | rfl | go_num), (by first | rfl | go_num), by omega, by trivial, HN⟩
          case measure => simp [intOf]; omega
      · have hd : hexDig c = some (c.toNat - 87) := by unfold hexDig; rw [if_neg (by omega), if_pos ⟨d0, d1⟩]
        rw [hd] at hst
        simp only at hst
        have hlow := lower_small ⟨c.toNat, c.toNat_lt⟩ ⟨by simp; omega, by simp; omega⟩
        have L := fun W => lower_any (c.toNat : Int) _ hlow W
        have i0 : (97 : Int) ≤ (c.toNat : Int) := by omega
        have i1 : (c.toNat : Int) ≤ 102 := by omega
        simp only at L
        by_cases hov : 4294967295 < acc * 16 + (c.toNat - 87)
        · have iov : 4294967295 < a * 16 + ((c.toNat : Int) - 87) := by omega
          rw [if_pos hov] at hst
          have HE : Hid (hexGoP 0 s = none) := hst
          clear hst hov hacc ha hd hmem d0 d1 hlow
          go_wp2_with (go_at_call 131; refine (L _).mono ?_; rintro e w' ⟨rfl, rfl⟩)
          go_ret2
          rw [HE.out]
          exact ⟨hbl, _, 1, .inl rfl, rfl⟩
        · have iov : a * 16 + ((c.toNat : Int) - 97 + 10) ≤ 4294967295 := by omega
          rw [if_neg hov] at hst
          have HN : Hid (a * 16 + ((c.toNat : Int) - 97 + 10) = ((acc * 16 + (c.toNat - 87) : Nat) : Int) ∧ acc * 16 + (c.toNat - 87) ≤ 4294967295 ∧ hexGoP (acc * 16 + (c.toNat - 87)) (s.drop (k + 1)) = hexGoP 0 s) := ⟨by omega, by omega, hst.symm⟩
          clear hst hov hacc ha hd hmem d0 d1 hlow
          go_wp2_with (go_at_call 131; refine (L _).mono ?_; rintro e w' ⟨rfl, rfl⟩)
          go_roundw
          case rel => exact ⟨k + 1, acc * 16 + (c.toNat - 87), a * 16 + ((c.toNat : Int) - 97 + 10), rfl, (by first | rfl | go_num), (by first | rfl | go_num), by omega, by trivial, HN⟩
          case measure => simp [intOf]; omega
      · have hd : hexDig c = none := by unfold hexDig; rw [if_neg (by omega), if_neg (by omega)]
        rw [hd] at hst
        have HE : Hid (hexGoP 0 s = none) := hst
        have hlow := lower_small ⟨c.toNat, c.toNat_lt⟩ ⟨by simp; omega, by simp; omega⟩
        have L := fun W => lower_any (c.toNat : Int) _ hlow W
        have i0 : (103 : Int) ≤ (c.toNat : Int) := by omega
        have i1 : (c.toNat : Int) ≤ 122 := by omega
        simp only at L
        clear hst hacc ha hd hmem d0 d1 hlow
        go_wp2_with (go_at_call 131; refine (L _).mono ?_; rintro e w' ⟨rfl, rfl⟩)
        go_ret2
        rw [HE.out]
        exact ⟨hbl, _, 2, .inr rfl, rfl⟩
      · have hd : hexDig c = none := by unfold hexDig; rw [if_neg (by omega), if_neg (by omega)]
        rw [hd] at hst
        have HE : Hid (hexGoP 0 s = none) := hst
        have hcv2 : (c.toNat : Int) = 95 := by omega
        rw [hcv2] at hcell
        have L := fun W => lower_any 95 _ lower_line W
        clear hst hacc ha hd hmem d0 hcv2
        go_wp2_with (go_at_call 131; refine (L _).mono ?_; rintro e w' ⟨rfl, rfl⟩)
        go_ret2
        rw [HE.out]
        exact ⟨hbl, _, 2, .inr rfl, rfl⟩
    · have hkk : k = s.length := by omega
      subst hkk
      have hF : hexGoP acc (s.drop s.length) = some acc := by rw [List.drop_length]; rfl
      rw [hF] at he
      have HE : Hid (hexGoP 0 s = some acc) := he.symm
      subst ha
      clear hacc hF he a0 a1 hcl
      go_wp2
      go_ret2
      rw [HE.out]
      exact ⟨hbl, rfl⟩
end Go.Proofs.YtopfnfmglnjljaaGreatDoor
