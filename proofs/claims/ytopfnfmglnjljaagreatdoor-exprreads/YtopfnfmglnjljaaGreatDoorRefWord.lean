/- The reference's reader: Word, word (written by mkrefword.py). -/
import Derived.Test.YtopfnfmglnjljaaGreatDoorRefNum
namespace Go.Proofs.YtopfnfmglnjljaaGreatDoor.Rf
open Go.Proofs.YtopfnfmglnjljaaGreatDoor
open Go.ChangeShapes Go.WideShapes Go.ChangeAt Go.RowKit

set_option linter.unusedVariables false
set_option linter.unusedSimpArgs false

theorem run_kinds {c : UInt8} (h : runB c = true) : (97 ≤ c.toNat ∧ c.toNat ≤ 122) ∨ (48 ≤ c.toNat ∧ c.toNat ≤ 57) ∨ c.toNat = 95 := by
  simp only [runB, letterB, digitB, Bool.or_eq_true, Bool.and_eq_true, decide_eq_true_eq] at h
  omega

/-- So far a register's name: r, then digits. -/
def regGo (s : Bs) (j : Nat) : Bool := decide (s[0]? = some 114) && decide (1 < s.length) && ((s.take j).drop 1).all digitB

theorem reg_first (s : Bs) : regGo s 1 = (decide (s[0]? = some 114) && decide (1 < s.length)) ∧ regGo s 0 = (decide (s[0]? = some 114) && decide (1 < s.length)) := by
  unfold regGo
  constructor
  · cases s <;> simp
  · simp
theorem reg_step {s : Bs} {j : Nat} {c : UInt8} (hj : 0 < j) (h : s[j]? = some c) : regGo s (j + 1) = (regGo s j && digitB c) := by
  unfold regGo
  rw [List.take_add_one, h]
  obtain ⟨hl, _⟩ := List.getElem?_eq_some_iff.1 h
  rw [List.drop_append_of_le_length (by simp; omega)]
  simp [Bool.and_assoc]
theorem reg_end (c : UInt8) (t : Bs) : regGo (c :: t) (c :: t).length = (decide (c = 114) && !t.isEmpty && t.all digitB) := by
  unfold regGo
  rw [List.take_length]
  cases t <;> simp

set_option maxHeartbeats 4000000 in
set_option maxRecDepth 20000 in
theorem word_fn (s : Bs) (hl : s.length ≤ 35184372088832) (hrun : ∀ c ∈ s, runB c = true) (w : World) :
    Calls Tryz.prog 84 #[.string (bs s)] w fun e w' => e = .returned (.bool (wordP s)) ∧ w' = w := by
  obtain ⟨r, hr⟩ : ∃ r, r = wordP s := ⟨_, rfl⟩
  rw [← hr]
  have HR : Hid (r = wordP s) := hr
  clear hr
  have hsz := bs_size s
  by_cases h0 : s = []
  · subst h0
    obtain rfl : r = false := HR.out
    simp only [show bs [] = ⟨#[]⟩ from rfl]
    clear hsz HR
    go_enter Tryz.func84, Tryz.ntmps84
    go_wp2_with fail
    go_ret
    exact ⟨rfl, rfl⟩
  · have hp : 0 < s.length := by cases s <;> simp_all
    have i1 : ¬ (s.length : Int) < 1 := by omega
    by_cases h12 : s.length ≤ 12
    · have i2 : ¬ (12 : Int) < (s.length : Int) := by omega
      obtain ⟨a, ha⟩ : ∃ a, s[0]? = some a := ⟨_, List.getElem?_eq_getElem hp⟩
      have IX0 : (Instr.index 9 (.string (bs s)) (.int .i64 0)).run Tryz.prog w = .ok (.int .u8 a.toNat) w := index_at s 0 a ha w
      have hW : Hid (wordP s = (!digitB a && !regGo s s.length)) := by
        unfold Hid
        cases s with
        | nil => simp at hp
        | cons c t =>
          obtain rfl : c = a := by simpa using ha
          rw [reg_end]
          have h11 : decide ((c :: t).length ≤ 12) = true := decide_eq_true h12
          simp only [wordP, h11, Bool.true_and]
      obtain ⟨g0, hg0⟩ : ∃ g0, g0 = (decide (s[0]? = some 114) && decide (1 < s.length)) := ⟨_, rfl⟩
      have G1 : Hid (regGo s 0 = g0) := by rw [hg0]; exact (reg_first s).2
      have G2 : Hid (regGo s 1 = g0) := by rw [hg0]; exact (reg_first s).1
      have hag : Hid (g0 = (decide (a = 114) && decide (1 < s.length))) := by unfold Hid; rw [hg0, ha]; simp
      clear hg0
      have main : ∀ (K : Nat → Prop), True := fun _ => trivial
      clear main
      go_enter Tryz.func84, Tryz.ntmps84
      by_cases h114 : a = 114
      · have q1 : ((a.toNat : Int) == 114) = true := by rw [h114]; decide
        by_cases hm : 1 < s.length
        · have i3 : (1 : Int) < (s.length : Int) := by omega
          obtain rfl : g0 = true := by rw [hag.out, h114]; simp [hm]
          clear h114
          go_wp2_with fail
          go_loopw [3, 4] (fun g i wr => ∃ (j : Nat) (dg : Bool), j ≤ s.length ∧ i = .int .i64 j ∧ g = .bool dg ∧ wr = w ∧ Hid (dg = regGo s j) ∧ Hid (0 < j → digitB a = false)) (fun _ i _ => s.length - (intOf i).toNat)
          case atStart => exact ⟨0, true, by omega, rfl, rfl, rfl, G1.out.symm, fun h => by omega⟩
          case round =>
            obtain ⟨j, dg, hj, rfl, rfl, rfl, hD, hA⟩ := hrel
            by_cases hjn : j < s.length
            · obtain ⟨c, hc⟩ : ∃ c, s[j]? = some c := ⟨_, List.getElem?_eq_getElem hjn⟩
              have IX := index_at s j c hc wr
              have hjI : (j : Int) < (s.length : Int) := by omega
              have hru := run_kinds (hrun c (List.mem_of_getElem? hc))
              by_cases hj0 : j = 0
              · subst hj0
                obtain rfl : a = c := by rw [hc] at ha; exact (Option.some.inj ha).symm
                rcases hru with ⟨u1, u2⟩ | ⟨u1, u2⟩ | u1
                · have hdc : digitB a = false := by simp [digitB]; omega
                  have v1 : (48 : Int) ≤ (UInt8.toNat a : Int) := by omega
                  have v2 : ¬ (UInt8.toNat a : Int) ≤ 57 := by omega
                  have v3 : (97 : Int) ≤ (UInt8.toNat a : Int) := by omega
                  have v4 : (UInt8.toNat a : Int) ≤ 122 := by omega
                  go_wp2_with fail
                  first
                  | done
                  | (go_roundw
                     case rel => exact ⟨1, dg, by omega, by simp, rfl, trivial, hD.out.trans (G1.out.trans G2.out.symm), fun _ => hdc⟩
                     case measure => simp [intOf]; omega)
                · have hdc : digitB a = true := by simp [digitB]; omega
                  obtain rfl : r = false := by rw [HR.out, hW.out, hdc]; rfl
                  have v1 : (48 : Int) ≤ (UInt8.toNat a : Int) := by omega
                  have v2 : (UInt8.toNat a : Int) ≤ 57 := by omega
                  have v3 : ¬ (97 : Int) ≤ (UInt8.toNat a : Int) := by omega
                  have v4 : ((UInt8.toNat a : Int) == 95) = false := by simp; omega
                  clear HR
                  go_wp2_with fail
                  all_goals go_ret
                  all_goals exact ⟨rfl, rfl⟩
                · have hdc : digitB a = false := by simp [digitB]; omega
                  have v1 : (48 : Int) ≤ (UInt8.toNat a : Int) := by omega
                  have v2 : ¬ (UInt8.toNat a : Int) ≤ 57 := by omega
                  have v3 : ¬ (97 : Int) ≤ (UInt8.toNat a : Int) := by omega
                  have v4 : ((UInt8.toNat a : Int) == 95) = true := by simp; omega
                  go_wp2_with fail
                  first
                  | done
                  | (go_roundw
                     case rel => exact ⟨1, dg, by omega, by simp, rfl, trivial, hD.out.trans (G1.out.trans G2.out.symm), fun _ => hdc⟩
                     case measure => simp [intOf]; omega)
              · have hst := reg_step (by omega) hc
                have hjp : (0 : Int) < (j : Int) := by omega
                have hj0b : ((j : Int) == 0) = false := by simp; omega
                have hAj := hA.out (by omega)
                rcases hru with ⟨u1, u2⟩ | ⟨u1, u2⟩ | u1
                · have hdc : digitB c = false := by simp [digitB]; omega
                  have v1 : (48 : Int) ≤ (c.toNat : Int) := by omega
                  have v2 : ¬ (c.toNat : Int) ≤ 57 := by omega
                  have v3 : (97 : Int) ≤ (c.toNat : Int) := by omega
                  have v4 : (c.toNat : Int) ≤ 122 := by omega
                  have HS : Hid (false = regGo s (j + 1)) := by rw [hst, hdc]; simp [Hid]
                  clear hst
                  go_wp2_with fail
                  first
                  | done
                  | (go_roundw
                     case rel => exact ⟨j + 1, false, by omega, by simp, rfl, trivial, HS, fun _ => hAj⟩
                     case measure => simp [intOf]; omega)
                · have hdc : digitB c = true := by simp [digitB]; omega
                  have v1 : (48 : Int) ≤ (c.toNat : Int) := by omega
                  have v2 : (c.toNat : Int) ≤ 57 := by omega
                  have v3 : ¬ (97 : Int) ≤ (c.toNat : Int) := by omega
                  have v4 : ((c.toNat : Int) == 95) = false := by simp; omega
                  have HS : Hid (dg = regGo s (j + 1)) := by rw [hst, hdc, hD.out]; simp [Hid]
                  clear hst
                  go_wp2_with fail
                  first
                  | done
                  | (go_roundw
                     case rel => exact ⟨j + 1, dg, by omega, by simp, rfl, trivial, HS, fun _ => hAj⟩
                     case measure => simp [intOf]; omega)
                · have hdc : digitB c = false := by simp [digitB]; omega
                  have v1 : (48 : Int) ≤ (c.toNat : Int) := by omega
                  have v2 : ¬ (c.toNat : Int) ≤ 57 := by omega
                  have v3 : ¬ (97 : Int) ≤ (c.toNat : Int) := by omega
                  have v4 : ((c.toNat : Int) == 95) = true := by simp; omega
                  have HS : Hid (false = regGo s (j + 1)) := by rw [hst, hdc]; simp [Hid]
                  clear hst
                  go_wp2_with fail
                  first
                  | done
                  | (go_roundw
                     case rel => exact ⟨j + 1, false, by omega, by simp, rfl, trivial, HS, fun _ => hAj⟩
                     case measure => simp [intOf]; omega)
            · obtain rfl : j = s.length := by omega
              have hjI : ¬ (s.length : Int) < (s.length : Int) := by omega
              have hAj := hA.out hp
              have hrv : r = !dg := by rw [HR.out, hW.out, hAj, hD.out]; rfl
              clear HR hW hD
              subst hrv
              go_wp2_with fail
              go_ret
              exact ⟨rfl, rfl⟩
        · have i3 : ¬ (1 : Int) < (s.length : Int) := by omega
          obtain rfl : g0 = false := by rw [hag.out, h114]; simp [hm]
          clear h114
          go_wp2_with fail
          go_loopw [3, 4] (fun g i wr => ∃ (j : Nat) (dg : Bool), j ≤ s.length ∧ i = .int .i64 j ∧ g = .bool dg ∧ wr = w ∧ Hid (dg = regGo s j) ∧ Hid (0 < j → digitB a = false)) (fun _ i _ => s.length - (intOf i).toNat)
          case atStart => exact ⟨0, false, by omega, rfl, rfl, rfl, G1.out.symm, fun h => by omega⟩
          case round =>
            obtain ⟨j, dg, hj, rfl, rfl, rfl, hD, hA⟩ := hrel
            by_cases hjn : j < s.length
            · obtain ⟨c, hc⟩ : ∃ c, s[j]? = some c := ⟨_, List.getElem?_eq_getElem hjn⟩
              have IX := index_at s j c hc wr
              have hjI : (j : Int) < (s.length : Int) := by omega
              have hru := run_kinds (hrun c (List.mem_of_getElem? hc))
              by_cases hj0 : j = 0
              · subst hj0
                obtain rfl : a = c := by rw [hc] at ha; exact (Option.some.inj ha).symm
                rcases hru with ⟨u1, u2⟩ | ⟨u1, u2⟩ | u1
                · have hdc : digitB a = false := by simp [digitB]; omega
                  have v1 : (48 : Int) ≤ (UInt8.toNat a : Int) := by omega
                  have v2 : ¬ (UInt8.toNat a : Int) ≤ 57 := by omega
                  have v3 : (97 : Int) ≤ (UInt8.toNat a : Int) := by omega
                  have v4 : (UInt8.toNat a : Int) ≤ 122 := by omega
                  go_wp2_with fail
                  first
                  | done
                  | (go_roundw
                     case rel => exact ⟨1, dg, by omega, by simp, rfl, trivial, hD.out.trans (G1.out.trans G2.out.symm), fun _ => hdc⟩
                     case measure => simp [intOf]; omega)
                · have hdc : digitB a = true := by simp [digitB]; omega
                  obtain rfl : r = false := by rw [HR.out, hW.out, hdc]; rfl
                  have v1 : (48 : Int) ≤ (UInt8.toNat a : Int) := by omega
                  have v2 : (UInt8.toNat a : Int) ≤ 57 := by omega
                  have v3 : ¬ (97 : Int) ≤ (UInt8.toNat a : Int) := by omega
                  have v4 : ((UInt8.toNat a : Int) == 95) = false := by simp; omega
                  clear HR
                  go_wp2_with fail
                  all_goals go_ret
                  all_goals exact ⟨rfl, rfl⟩
                · have hdc : digitB a = false := by simp [digitB]; omega
                  have v1 : (48 : Int) ≤ (UInt8.toNat a : Int) := by omega
                  have v2 : ¬ (UInt8.toNat a : Int) ≤ 57 := by omega
                  have v3 : ¬ (97 : Int) ≤ (UInt8.toNat a : Int) := by omega
                  have v4 : ((UInt8.toNat a : Int) == 95) = true := by simp; omega
                  go_wp2_with fail
                  first
                  | done
                  | (go_roundw
                     case rel => exact ⟨1, dg, by omega, by simp, rfl, trivial, hD.out.trans (G1.out.trans G2.out.symm), fun _ => hdc⟩
                     case measure => simp [intOf]; omega)
              · have hst := reg_step (by omega) hc
                have hjp : (0 : Int) < (j : Int) := by omega
                have hj0b : ((j : Int) == 0) = false := by simp; omega
                have hAj := hA.out (by omega)
                rcases hru with ⟨u1, u2⟩ | ⟨u1, u2⟩ | u1
                · have hdc : digitB c = false := by simp [digitB]; omega
                  have v1 : (48 : Int) ≤ (c.toNat : Int) := by omega
                  have v2 : ¬ (c.toNat : Int) ≤ 57 := by omega
                  have v3 : (97 : Int) ≤ (c.toNat : Int) := by omega
                  have v4 : (c.toNat : Int) ≤ 122 := by omega
                  have HS : Hid (false = regGo s (j + 1)) := by rw [hst, hdc]; simp [Hid]
                  clear hst
                  go_wp2_with fail
                  first
                  | done
                  | (go_roundw
                     case rel => exact ⟨j + 1, false, by omega, by simp, rfl, trivial, HS, fun _ => hAj⟩
                     case measure => simp [intOf]; omega)
                · have hdc : digitB c = true := by simp [digitB]; omega
                  have v1 : (48 : Int) ≤ (c.toNat : Int) := by omega
                  have v2 : (c.toNat : Int) ≤ 57 := by omega
                  have v3 : ¬ (97 : Int) ≤ (c.toNat : Int) := by omega
                  have v4 : ((c.toNat : Int) == 95) = false := by simp; omega
                  have HS : Hid (dg = regGo s (j + 1)) := by rw [hst, hdc, hD.out]; simp [Hid]
                  clear hst
                  go_wp2_with fail
                  first
                  | done
                  | (go_roundw
                     case rel => exact ⟨j + 1, dg, by omega, by simp, rfl, trivial, HS, fun _ => hAj⟩
                     case measure => simp [intOf]; omega)
                · have hdc : digitB c = false := by simp [digitB]; omega
                  have v1 : (48 : Int) ≤ (c.toNat : Int) := by omega
                  have v2 : ¬ (c.toNat : Int) ≤ 57 := by omega
                  have v3 : ¬ (97 : Int) ≤ (c.toNat : Int) := by omega
                  have v4 : ((c.toNat : Int) == 95) = true := by simp; omega
                  have HS : Hid (false = regGo s (j + 1)) := by rw [hst, hdc]; simp [Hid]
                  clear hst
                  go_wp2_with fail
                  first
                  | done
                  | (go_roundw
                     case rel => exact ⟨j + 1, false, by omega, by simp, rfl, trivial, HS, fun _ => hAj⟩
                     case measure => simp [intOf]; omega)
            · obtain rfl : j = s.length := by omega
              have hjI : ¬ (s.length : Int) < (s.length : Int) := by omega
              have hAj := hA.out hp
              have hrv : r = !dg := by rw [HR.out, hW.out, hAj, hD.out]; rfl
              clear HR hW hD
              subst hrv
              go_wp2_with fail
              go_ret
              exact ⟨rfl, rfl⟩
      · have q1 : ((a.toNat : Int) == 114) = false := by
          have : a.toNat ≠ 114 := fun e => h114 (UInt8.toNat_inj.1 e)
          simp; omega
        obtain rfl : g0 = false := by rw [hag.out]; simp [h114]
        go_wp2_with fail
        go_loopw [3, 4] (fun g i wr => ∃ (j : Nat) (dg : Bool), j ≤ s.length ∧ i = .int .i64 j ∧ g = .bool dg ∧ wr = w ∧ Hid (dg = regGo s j) ∧ Hid (0 < j → digitB a = false)) (fun _ i _ => s.length - (intOf i).toNat)
        case atStart => exact ⟨0, false, by omega, rfl, rfl, rfl, G1.out.symm, fun h => by omega⟩
        case round =>
          obtain ⟨j, dg, hj, rfl, rfl, rfl, hD, hA⟩ := hrel
          by_cases hjn : j < s.length
          · obtain ⟨c, hc⟩ : ∃ c, s[j]? = some c := ⟨_, List.getElem?_eq_getElem hjn⟩
            have IX := index_at s j c hc wr
            have hjI : (j : Int) < (s.length : Int) := by omega
            have hru := run_kinds (hrun c (List.mem_of_getElem? hc))
            by_cases hj0 : j = 0
            · subst hj0
              obtain rfl : a = c := by rw [hc] at ha; exact (Option.some.inj ha).symm
              rcases hru with ⟨u1, u2⟩ | ⟨u1, u2⟩ | u1
              · have hdc : digitB a = false := by simp [digitB]; omega
                have v1 : (48 : Int) ≤ (UInt8.toNat a : Int) := by omega
                have v2 : ¬ (UInt8.toNat a : Int) ≤ 57 := by omega
                have v3 : (97 : Int) ≤ (UInt8.toNat a : Int) := by omega
                have v4 : (UInt8.toNat a : Int) ≤ 122 := by omega
                go_wp2_with fail
                first
                | done
                | (go_roundw
                   case rel => exact ⟨1, dg, by omega, by simp, rfl, trivial, hD.out.trans (G1.out.trans G2.out.symm), fun _ => hdc⟩
                   case measure => simp [intOf]; omega)
              · have hdc : digitB a = true := by simp [digitB]; omega
                obtain rfl : r = false := by rw [HR.out, hW.out, hdc]; rfl
                have v1 : (48 : Int) ≤ (UInt8.toNat a : Int) := by omega
                have v2 : (UInt8.toNat a : Int) ≤ 57 := by omega
                have v3 : ¬ (97 : Int) ≤ (UInt8.toNat a : Int) := by omega
                have v4 : ((UInt8.toNat a : Int) == 95) = false := by simp; omega
                clear HR
                go_wp2_with fail
                all_goals go_ret
                all_goals exact ⟨rfl, rfl⟩
              · have hdc : digitB a = false := by simp [digitB]; omega
                have v1 : (48 : Int) ≤ (UInt8.toNat a : Int) := by omega
                have v2 : ¬ (UInt8.toNat a : Int) ≤ 57 := by omega
                have v3 : ¬ (97 : Int) ≤ (UInt8.toNat a : Int) := by omega
                have v4 : ((UInt8.toNat a : Int) == 95) = true := by simp; omega
                go_wp2_with fail
                first
                | done
                | (go_roundw
                   case rel => exact ⟨1, dg, by omega, by simp, rfl, trivial, hD.out.trans (G1.out.trans G2.out.symm), fun _ => hdc⟩
                   case measure => simp [intOf]; omega)
            · have hst := reg_step (by omega) hc
              have hjp : (0 : Int) < (j : Int) := by omega
              have hj0b : ((j : Int) == 0) = false := by simp; omega
              have hAj := hA.out (by omega)
              rcases hru with ⟨u1, u2⟩ | ⟨u1, u2⟩ | u1
              · have hdc : digitB c = false := by simp [digitB]; omega
                have v1 : (48 : Int) ≤ (c.toNat : Int) := by omega
                have v2 : ¬ (c.toNat : Int) ≤ 57 := by omega
                have v3 : (97 : Int) ≤ (c.toNat : Int) := by omega
                have v4 : (c.toNat : Int) ≤ 122 := by omega
                have HS : Hid (false = regGo s (j + 1)) := by rw [hst, hdc]; simp [Hid]
                clear hst
                go_wp2_with fail
                first
                | done
                | (go_roundw
                   case rel => exact ⟨j + 1, false, by omega, by simp, rfl, trivial, HS, fun _ => hAj⟩
                   case measure => simp [intOf]; omega)
              · have hdc : digitB c = true := by simp [digitB]; omega
                have v1 : (48 : Int) ≤ (c.toNat : Int) := by omega
                have v2 : (c.toNat : Int) ≤ 57 := by omega
                have v3 : ¬ (97 : Int) ≤ (c.toNat : Int) := by omega
                have v4 : ((c.toNat : Int) == 95) = false := by simp; omega
                have HS : Hid (dg = regGo s (j + 1)) := by rw [hst, hdc, hD.out]; simp [Hid]
                clear hst
                go_wp2_with fail
                first
                | done
                | (go_roundw
                   case rel => exact ⟨j + 1, dg, by omega, by simp, rfl, trivial, HS, fun _ => hAj⟩
                   case measure => simp [intOf]; omega)
              · have hdc : digitB c = false := by simp [digitB]; omega
                have v1 : (48 : Int) ≤ (c.toNat : Int) := by omega
                have v2 : ¬ (c.toNat : Int) ≤ 57 := by omega
                have v3 : ¬ (97 : Int) ≤ (c.toNat : Int) := by omega
                have v4 : ((c.toNat : Int) == 95) = true := by simp; omega
                have HS : Hid (false = regGo s (j + 1)) := by rw [hst, hdc]; simp [Hid]
                clear hst
                go_wp2_with fail
                first
                | done
                | (go_roundw
                   case rel => exact ⟨j + 1, false, by omega, by simp, rfl, trivial, HS, fun _ => hAj⟩
                   case measure => simp [intOf]; omega)
          · obtain rfl : j = s.length := by omega
            have hjI : ¬ (s.length : Int) < (s.length : Int) := by omega
            have hAj := hA.out hp
            have hrv : r = !dg := by rw [HR.out, hW.out, hAj, hD.out]; rfl
            clear HR hW hD
            subst hrv
            go_wp2_with fail
            go_ret
            exact ⟨rfl, rfl⟩
    · have i2 : (12 : Int) < (s.length : Int) := by omega
      obtain rfl : r = false := by
        rw [HR.out]
        cases s with
        | nil => simp at hp
        | cons c t => unfold wordP; rw [decide_eq_false h12]; rfl
      clear HR hrun
      go_enter Tryz.func84, Tryz.ntmps84
      go_wp2_with fail
      go_ret
      exact ⟨rfl, rfl⟩
end Go.Proofs.YtopfnfmglnjljaaGreatDoor.Rf
