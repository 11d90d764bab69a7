/- The reference's reader: word. -/
import Derived.Test.YtopfnfmglnjljaaGreatDoorRefNum
namespace Go.Proofs.YtopfnfmglnjljaaGreatDoor.Rf
open Go.Proofs.YtopfnfmglnjljaaGreatDoor
open Go.ChangeShapes Go.WideShapes Go.ChangeAt Go.RowKit

set_option linter.unusedVariables false
set_option linter.unusedSimpArgs false

theorem run_kinds {c : UInt8} (h : runB c = true) : (97 ≤ c.toNat ∧ c.toNat ≤ 122) ∨ (48 ≤ c.toNat ∧ c.toNat ≤ 57) ∨ c.toNat = 95 := by
  simp only [runB, letterB, digitB, Bool.or_eq_true, Bool.and_eq_true, decide_eq_true_eq] at h
  omega

/-- So far a register's name: r, then digits. -/
def regGo (s : Bs) (j : Nat) : Bool := decide (s[0]? = some 114) && decide (1 < s.length) && ((s.take j).drop 1).all digitB

theorem reg_first (s : Bs) : regGo s 1 = (decide (s[0]? = some 114) && decide (1 < s.length)) ∧ regGo s 0 = (decide (s[0]? = some 114) && decide (1 < s.length)) := by
  unfold regGo
  constructor
  · cases s <;> simp
  · simp
theorem reg_step {s : Bs} {j : Nat} {c : UInt8} (hj : 0 < j) (h : s[j]? = some c) : regGo s (j + 1) = (regGo s j && digitB c) := by
  unfold regGo
  rw [List.take_add_one, h]
  obtain ⟨hl, _⟩ := List.getElem?_eq_some_iff.1 h
  rw [List.drop_append_of_le_length (by simp; omega)]
  simp [Bool.and_assoc]
theorem reg_end (c : UInt8) (t : Bs) : regGo (c :: t) (c :: t).length = (decide (c = 114) && !t.isEmpty && t.all digitB) := by
  unfold regGo
  rw [List.take_length]
  cases t <;> simp

set_option maxHeartbeats 4000000 in
set_option maxRecDepth 20000 in
theorem word_fn (s : Bs) (hl : s.length ≤ 35184372088832) (hrun : ∀ c ∈ s, runB c = true) (w : World) :
    Calls Tryz.prog 84 #[.string (bs s)] w fun e w' => e = .returned (.bool (wordP s)) ∧ w' = w := by
  obtain ⟨r, hr⟩ : ∃ r, r = wordP s := ⟨_, rfl⟩
  rw [← hr]
  have HR : Hid (r = wordP s) := hr
  clear hr
  have hsz := bs_size s
  by_cases h0 : s = []
  · subst h0
    obtain rfl : r = false := HR.out
    simp only [show bs [] = ⟨#[]⟩ from rfl]
    clear hsz HR
    go_enter Tryz.func84, Tryz.ntmps84
    go_wp2_with fail
    go_ret
    exact ⟨rfl, rfl⟩
  · have hp : 0 < s.length := by cases s <;> simp_all
    have i1 : ¬ (s.length : Int) < 1 := by omega
    by_cases h12 : s.length ≤ 12
    · have i2 : ¬ (12 : Int) < (s.length : Int) := by omega
      obtain ⟨a, ha⟩ : ∃ a, s[0]? = some a := ⟨_, List.getElem?_eq_getElem hp⟩
      have IX0 : (Instr.index 9 (.string (bs s)) (.int .i64 0)).run Tryz.prog w = .ok (.int .u8 a.toNat) w := index_at s 0 a ha w
      have hW : Hid (wordP s = (!digitB a && !regGo s s.length)) := by
        unfold Hid
        cases s with
        | nil => simp at hp
        | cons c t =>
          obtain rfl : c = a := by simpa using ha
          rw [reg_end]
          have h11 : decide ((c :: t).length ≤ 12) = true := decide_eq_true h12
          simp only [wordP, h11, Bool.true_and]
      obtain ⟨g0, hg0⟩ : ∃ g0, g0 = (decide (s[0]? = some 114) && decide (1 < s.length)) := ⟨_, rfl⟩
      have G1 : Hid (regGo s 0 = g0) := by rw [hg0]; exact (reg_first s).2
      have G2 : Hid (regGo s 1 = g0) := by rw [hg0]; exact (reg_first s).1
      have hag : Hid (g0 = (decide (a = 114) && decide (1 < s.length))) := by unfold Hid; rw [hg0, ha]; simp
      clear hg0
      have main : ∀ (K : Nat → Prop), True := fun _ => trivial
      clear main
      go_enter Tryz.func84, Tryz.ntmps84
      by_cases h114 : a = 114
      · have q1 : ((a.toNat : Int) == 114) = true := by rw [h114]; decide
        by_cases hm : 1 < s.length
        · have i3 : (1 : Int) < (s.length : Int) := by omega
          obtain rfl : g0 = true := by rw [hag.out, h114]; simp [hm]
          clear h114
          go_wp2_with fail
          go_loopw [3, 4] (fun g i wr => ∃ (j : Nat) (dg : Bool), j ≤ s.length ∧ i = .int .i64 j ∧ g = .bool dg ∧ wr = w ∧ Hid (dg = regGo s j) ∧ Hid (0 < j → digitB a = false)) (fun _ i _ => s.length - (intOf i).toNat)
          case atStart => exact ⟨0, true, by omega, rfl, rfl, rfl, G1.out.symm, fun h => by omega⟩
          case round =>
            obtain ⟨j, dg, hj, rfl, rfl, rfl, hD, hA⟩ := hrel
            by_cases hjn : j < s.length
            · obtain ⟨c, hc⟩ : ∃ c, s[j]? = some c := ⟨_, List.getElem?_eq_getElem hjn⟩
              have IX := index_at s j c hc wr
              have hjI : (j : Int) < (s.length : Int) := by omega
              have hru := run_kinds (hrun c (List.mem_of_getElem? hc))
              by_cases hj0 : j = 0
              · subst hj0
                obtain rfl : a = c := by rw [hc] at ha; exact (Option.some.inj ha).symm
                rcases hru with ⟨u1, u2⟩ | ⟨u1, u2⟩ | u1
                · have hdc : digitB a = false := by simp [digitB]; omega
                  have v1 : (48 : Int) ≤ (UInt8.toNat a : Int) := by omega
                  have v2 : ¬ (UInt8.toNat a : Int) ≤ 57 := by omega
                  have v3 : (97 : Int) ≤ (UInt8.toNat a : Int) := by omega
                  have v4 : (UInt8.toNat a : Int) ≤ 122 := by omega
                  go_wp2_with fail
                  first
                  | done
                  | (go_roundw
                     case rel => exact ⟨1, dg, by omega, by simp, rfl, trivial, hD.out.trans (G1.out.trans G2.out.symm), fun _ => hdc⟩
                     case measure => simp [intOf]; omega)
                · have hdc : digitB a = true := by simp [digitB]; omega
                  obtain rfl : r = false := by rw [HR.out, hW.out, hdc]; rfl
                  have v1 : (48 : Int) ≤ (UInt8.toNat a : Int) := by omega
                  have v2 : (UInt8.toNat a : Int) ≤ 57 := by omega
                  have v3 : ¬ (97 : Int) ≤ (UInt8.toNat a : Int) := by omega
                  have v4 : ((UInt8.toNat a : Int) == 95) = false := by simp; omega
                  clear HR
                  go_wp2_with fail
                  all_goals go_ret
                  all_goals exact ⟨rfl, rfl⟩
                · have hdc : digitB a = false := by simp [digitB]; omega
                  have v1 : (48 : Int) ≤ (UInt8.toNat a : Int) := by omega
                  have v2 : ¬ (UInt8.toNat a : Int) ≤ 57 := by omega
                  have v3 : ¬ (97 : Int) ≤ (UInt8.toNat a : Int) := by omega
                  have v4 : ((UInt8.toNat a : Int) == 95) = true := by simp; omega
                  go_wp2_with fail
                  first
                  | done
                  | (go_roundw
                     case rel => exact ⟨1, dg, by omega, by simp, rfl, trivial, hD.out.trans (G1.out.trans G2.out.symm), fun _ => hdc⟩
                     case measure => simp [intOf]; omega)
              · have hst := reg_step (by omega) hc
                have hjp : (0 : Int) < (j : Int) := by omega
                have hj0b : ((j : Int) == 0) = false := by simp; omega
                have hAj := hA.out (by omega)
                rcases hru with ⟨u1, u2⟩ | ⟨u1, u2⟩ | u1
                · have hdc : digitB c = false := by simp [digitB]; omega
                  have v1 : (48 : Int) ≤ (c.toNat : Int) := by omega
                  have v2 : ¬ (c.toNat : Int) ≤ 57 := by omega
                  have v3 : (97 : Int) ≤ (c.toNat : Int) := by omega
                  have v4 : (c.toNat : Int) ≤ 122 := by omega
                  have HS : Hid (false = regGo s (j + 1)) := by rw [hst, hdc]; simp [Hid]
                  clear hst
                  go_wp2_with fail
                  first
                  | done
                  | (go_roundw
                     case rel => exact ⟨j + 1, false, by omega, by simp, rfl, trivial, HS, fun _ => hAj⟩
                     case measure => simp [intOf]; omega)
                · have hdc : digitB c = true := by simp [digitB]; omega
                  have v1 : (48 : Int) ≤ (c.toNat : Int) := by omega
                  have v2 : (c.toNat : Int) ≤ 57 := by omega
                  have v3 : ¬ (97 : Int) ≤ (c.toNat : Int) := by omega
                  have v4 : ((c.toNat : Int) == 95) = false := by simp; omega
                  have HS : Hid (dg = regGo s (j + 1)) := by rw [hst, hdc, hD.out]; simp [Hid]
                  clear hst
                  go_wp2_with fail
                  first
                  | done
                  | (go_roundw
                     case rel => exact ⟨j + 1, dg, by omega, by simp, rfl, trivial, HS, fun _ => hAj⟩
                     case measure => simp [intOf]; omega)
                · have hdc : digitB c = false := by simp [digitB]; omega
                  have v1 : (48 : Int) ≤ (c.toNat : Int) := by omega
                  have v2 : ¬ (c.toNat : Int) ≤ 57 := by omega
                  have v3 : ¬ (97 : Int) ≤ (c.toNat : Int) := by omega
                  have v4 : ((c.toNat : Int) == 95) = true := by simp; omega
                  have HS : Hid (false = regGo s (j + 1)) := by rw [hst, hdc]; simp [Hid]
                  clear hst
                  go_wp2_with fail
                  first
                  | done
                  | (go_roundw
                     case rel => exact ⟨j + 1, false, by omega, by simp, rfl, trivial, HS, fun _ => hAj⟩
                     case measure => simp [intOf]; omega)
            · obtain rfl : j = s.length := by omega
              have hjI : ¬ (s.length : Int) < (s.length : Int) := by omega
              have hAj := hA.out hp
              have hrv : r = !dg := by rw [HR.out, hW.out, hAj, hD.out]; rfl
              clear HR hW hD
              subst hrv
              go_wp2_with fail
              go_ret
              exact ⟨rfl, rfl⟩
        · have i3 : ¬ (1 : Int) < (s.length : Int) := by omega
          obtain rfl : g0 = false := by rw [hag.out, h114]; simp [hm]
          clear h114
          go_wp2_with fail
          go_loopw [3, 4] (fun g i wr => ∃ (j : Nat) (dg : Bool), j ≤ s.length ∧ i = .int .i64 j ∧ g = .bool dg ∧ wr = w ∧ Hid (dg = regGo s j) ∧ Hid (0 < j → digitB a = false)) (fun _ i _ => s.length - (intOf i).toNat)
          case atStart => exact ⟨0, false, by omega, rfl, rfl, rfl, G1.out.symm, fun h => by omega⟩
          case round =>
            obtain ⟨j, dg, hj, rfl, rfl, rfl, hD, hA⟩ := hrel
            by_cases hjn : j < s.length
            · obtain ⟨c, hc⟩ : ∃ c, s[j]? = some c := ⟨_, List.getElem?_eq_getElem hjn⟩
              have IX := index_at s j c hc wr
              have hjI : (j : Int) < (s.length : Int) := by omega
              have hru := run_kinds (hrun c (List.mem_of_getElem? hc))
              by_cases hj0 : j = 0
              · subst hj0
                obtain rfl : a = c := by rw [hc] at ha; exact (Option.some.inj ha).symm
                rcases hru with ⟨u1, u2⟩ | ⟨u1, u2⟩ | u1
                · have hdc : digitB a = false := by simp [digitB]; omega
                  have v1 : (48 : Int) ≤ (UInt8.toNat a : Int) := by omega
                  have v2 : ¬ (UInt8.toNat a : Int) ≤ 57 := by omega
                  have v3 : (97 : Int) ≤ (UInt8.toNat a : Int) := by omega
                  have v4 : (UInt8.toNat a : Int) ≤ 122 := by omega
                  go_wp2_with fail
                  first
                  | done
                  | (go_roundw
                     case rel => exact ⟨1, dg, by omega, by simp, rfl, trivial, hD.out.trans (G1.out.trans G2.out.symm), fun _ => hdc⟩
                     case measure => simp [intOf]; omega)
                · have hdc : digitB a = true := by simp [digitB]; omega
                  obtain rfl : r = false := by rw [HR.out, hW.out, hdc]; rfl
                  have v1 : (48 : Int) ≤ (UInt8.toNat a : Int) := by omega
                  have v2 : (UInt8.toNat a : Int) ≤ 57 := by omega
                  have v3 : ¬ (97 : Int) ≤ (UInt8.toNat a : Int) := by omega
                  have v4 : ((UInt8.toNat a : Int) == 95) = false := by simp; omega
                  clear HR
                  go_wp2_with fail
                  all_goals go_ret
                  all_goals exact ⟨rfl, rfl⟩
                · have hdc : digitB a = false := by simp [digitB]; omega
                  have v1 : (48 : Int) ≤ (UInt8.toNat a : Int) := by omega
                  have v2 : ¬ (UInt8.toNat a : Int) ≤ 57 := by omega
                  have v3 : ¬ (97 : Int) ≤ (UInt8.toNat a : Int) := by omega
                  have v4 : ((UInt8.toNat a : Int) == 95) = true := by simp; omega
                  go_wp2_with fail
                  first
                  | done
                  | (go_roundw
                     case rel => exact ⟨1, dg, by omega, by simp, rfl, trivial, hD.out.trans (G1.out.trans G2.out.symm), fun _ => hdc⟩
                     case measure => simp [intOf]; omega)
              · have hst := reg_step (by omega) hc
                have hjp : (0 : Int) < (j : Int) := by omega
                have hj0b : ((j : Int) == 0) = false := by simp; omega
                have hAj := hA.out (by omega)
                rcases hru with ⟨u1, u2⟩ | ⟨u1, u2⟩ | u1
                · have hdc : digitB c = false := by simp [digitB]; omega
                  have v1 : (48 : Int) ≤ (c.toNat : Int) := by omega
                  have v2 : ¬ (c.toNat : Int) ≤ 57 := by omega
                  have v3 : (97 : Int) ≤ (c.toNat : Int) := by omega
                  have v4 : (c.toNat : Int) ≤ 122 := by omega
                  have HS : Hid (false = regGo s (j + 1)) := by rw [hst, hdc]; simp [Hid]
                  clear hst
                  go_wp2_with fail
                  first
                  | done
                  | (go_roundw
                     case rel => exact ⟨j + 1, false, by omega, by simp, rfl, trivial, HS, fun _ => hAj⟩
                     case measure => simp [intOf]; omega)
                · have hdc : digitB c = true := by simp [digitB]; omega
                  have v1 : (48 : Int) ≤ (c.toNat : Int) := by omega
                  have v2 : (c.toNat : Int) ≤ 57 := by omega
                  have v3 : ¬ (97 : Int) ≤ (c.toNat : Int) := by omega
                  have v4 : ((c.toNat : Int) == 95) = false := by simp; omega
                  have HS : Hid (dg = regGo s (j + 1)) := by rw [hst, hdc, hD.out]; simp [Hid]
                  clear hst
                  go_wp2_with fail
                  first
                  | done
                  | (go_roundw
                     case rel => exact ⟨j + 1, dg, by omega, by simp, rfl, trivial, HS, fun _ => hAj⟩
                     case measure => simp [intOf]; omega)
                · have hdc : digitB c = false := by simp [digitB]; omega
                  have v1 : (48 : Int) ≤ (c.toNat : Int) := by omega
                  have v2 : ¬ (c.toNat : Int) ≤ 57 := by omega
                  have v3 : ¬ (97 : Int) ≤ (c.toNat : Int) := by omega
                  have v4 : ((c.toNat : Int) == 95) = true := by simp; omega
                  have HS : Hid (false = regGo s (j + 1)) := by rw [hst, hdc]; simp [Hid]
                  clear hst
                  go_wp2_with fail
                  first
                  | done
                  | (go_roundw
                     case rel => exact ⟨j + 1, false, by omega, by simp, rfl, trivial, HS, fun _ => hAj⟩
                     case measure => simp [intOf]; omega)
            · obtain rfl : j = s.length := by omega
              have hjI : ¬ (s.length : Int) < (s.length : Int) := by omega
              have hAj := hA.out hp
              have hrv : r = !dg := by rw [HR.out, hW.out, hAj, hD.out]; rfl
              clear HR hW hD
              subst hrv
              go_wp2_with fail
              go_ret
              exact ⟨rfl, rfl⟩
      · have q1 : ((a.toNat : Int) == 114) = false := by
          have : a.toNat ≠ 114 := fun e => h114 (UInt8.toNat_inj.1 e)
          simp; omega
        obtain rfl : g0 = false := by rw [hag.out]; simp [h114]
        go_wp2_with fail
        go_loopw [3, 4] (fun g i wr => ∃ (j : Nat) (dg : Bool), j ≤ s.length ∧ i = .int .i64 j ∧ g = .bool dg ∧ wr = w ∧ Hid (dg = regGo s j) ∧ Hid (0 < j → digitB a = false)) (fun _ i _ => s.length - (intOf i).toNat)
        case atStart => exact ⟨0, false, by omega, rfl, rfl, rfl, G1.out.symm, fun h => by omega⟩
        case round =>
          obtain ⟨j, dg, hj, rfl, rfl, rfl, hD, hA⟩ := hrel
          by_cases hjn : j < s.length
          · obtain ⟨c, hc⟩ : ∃ c, s[j]? = some c := ⟨_, List.getElem?_eq_getElem hjn⟩
            have IX := index_at s j c hc wr
            have hjI : (j : Int) < (s.length : Int) := by omega
            have hru := run_kinds (hrun c (List.mem_of_getElem? hc))
            by_cases hj0 : j = 0
            · subst hj0
              obtain rfl : a = c := by rw [hc] at ha; exact (Option.some.inj ha).symm
              rcases hru with ⟨u1, u2⟩ | ⟨u1, u2⟩ | u1
              · have hdc : digitB a = false := by simp [digitB]; omega
                have v1 : (48 : Int) ≤ (UInt8.toNat a : Int) := by omega
                have v2 : ¬ (UInt8.toNat a : Int) ≤ 57 := by omega
                have v3 : (97 : Int) ≤ (UInt8.toNat a : Int) := by omega
                have v4 : (UInt8.toNat a : Int) ≤ 122 := by omega
                go_wp2_with fail
                first
                | done
                | (go_roundw
                   case rel => exact ⟨1, dg, by omega, by simp, rfl, trivial, hD.out.trans (G1.out.trans G2.out.symm), fun _ => hdc⟩
                   case measure => simp [intOf]; omega)
              · have hdc : digitB a = true := by simp [digitB]; omega
                obtain rfl : r = false := by rw [HR.out, hW.out, hdc]; rfl
                have v1 : (48 : Int) ≤ (UInt8.toNat a : Int) := by omega
                have v2 : (UInt8.toNat a : Int) ≤ 57 := by omega
                have v3 : ¬ (97 : Int) ≤ (UInt8.toNat a : Int) := by omega
                have v4 : ((UInt8.toNat a : Int) == 95) = false := by simp; omega
                clear HR
                go_wp2_with fail
                all_goals go_ret
                all_goals exact ⟨rfl, rfl⟩
              · have hdc : digitB a = false := by simp [digitB]; omega
                have v1 : (48 : Int) ≤ (UInt8.toNat a : Int) := by omega
                have v2 : ¬ (UInt8.toNat a : Int) ≤ 57 := by omega
                have v3 : ¬ (97 : Int) ≤ (UInt8.toNat a : Int) := by omega
                have v4 : ((UInt8.toNat a : Int) == 95) = true := by simp; omega
                go_wp2_with fail
                first
                | done
                | (go_roundw
                   case rel => exact ⟨1, dg, by omega, by simp, rfl, trivial, hD.out.trans (G1.out.trans G2.out.symm), fun _ => hdc⟩
                   case measure => simp [intOf]; omega)
            · have hst := reg_step (by omega) hc
              have hjp : (0 : Int) < (j : Int) := by omega
              have hj0b : ((j : Int) == 0) = false := by simp; omega
              have hAj := hA.out (by omega)
              rcases hru with ⟨u1, u2⟩ | ⟨u1, u2⟩ | u1
              · have hdc : digitB c = false := by simp [digitB]; omega
                have v1 : (48 : Int) ≤ (c.toNat : Int) := by omega
                have v2 : ¬ (c.toNat : Int) ≤ 57 := by omega
                have v3 : (97 : Int) ≤ (c.toNat : Int) := by omega
                have v4 : (c.toNat : Int) ≤ 122 := by omega
                have HS : Hid (false = regGo s (j + 1)) := by rw [hst, hdc]; simp [Hid]
                clear hst
                go_wp2_with fail
                first
                | done
                | (go_roundw
                   case rel => exact ⟨j + 1, false, by omega, by simp, rfl, trivial, HS, fun _ => hAj⟩
                   case measure => simp [intOf]; omega)
              · have hdc : digitB c = true := by simp [digitB]; omega
                have v1 : (48 : Int) ≤ (c.toNat : Int) := by omega
                have v2 : (c.toNat : Int) ≤ 57 := by omega
                have v3 : ¬ (97 : Int) ≤ (c.toNat : Int) := by omega
                have v4 : ((c.toNat : Int) == 95) = false := by simp; omega
                have HS : Hid (dg = regGo s (j + 1)) := by rw [hst, hdc, hD.out]; simp [Hid]
                clear hst
                go_wp2_with fail
                first
                | done
                | (go_roundw
                   case rel => exact ⟨j + 1, dg, by omega, by simp, rfl, trivial, HS, fun _ => hAj⟩
                   case measure => simp [intOf]; omega)
              · have hdc : digitB c = false := by simp [digitB]; omega
                have v1 : (48 : Int) ≤ (c.toNat : Int) := by omega
                have v2 : ¬ (c.toNat : Int) ≤ 57 := by omega
                have v3 : ¬ (97 : Int) ≤ (c.toNat : Int) := by omega
                have v4 : ((c.toNat : Int) == 95) = true := by simp; omega
                have HS : Hid (false = regGo s (j + 1)) := by rw [hst, hdc]; simp [Hid]
                clear hst
                go_wp2_with fail
                first
                | done
                | (go_roundw
                   case rel => exact ⟨j + 1, false, by omega, by simp, rfl, trivial, HS, fun _ => hAj⟩
                   case measure => simp [intOf]; omega)
          · obtain rfl : j = s.length := by omega
            have hjI : ¬ (s.length : Int) < (s.length : Int) := by omega
            have hAj := hA.out hp
            have hrv : r = !dg := by rw [HR.out, hW.out, hAj, hD.out]; rfl
            clear HR hW hD
            subst hrv
            go_wp2_with fail
            go_ret
            exact ⟨rfl, rfl⟩
    · have i2 : (12 : Int) < (s.length : Int) := by omega
      obtain rfl : r = false := by
        rw [HR.out]
        cases s with
        | nil => simp at hp
        | cons c t => unfold wordP; rw [decide_eq_false h12]; rfl
      clear HR hrun
      go_enter Tryz.func84, Tryz.ntmps84
      go_wp2_with fail
      go_ret
      exact ⟨rfl, rfl⟩
end Go.Proofs.YtopfnfmglnjljaaGreatDoor.Rf

namespace Go.Proofs.YtopfnfmglnjljaaGreatDoor.Rf
open Go.Proofs.YtopfnfmglnjljaaGreatDoor
open Go.ChangeShapes Go.WideShapes Go.ChangeAt Go.RowKit

set_option linter.unusedVariables false
set_option linter.unusedSimpArgs false

theorem run_in {S : Bs} {p q : Nat} (hpq : p ≤ q) (hq : q ≤ S.length) (h : ∀ i, p ≤ i → i < q → ∃ c, S[i]? = some c ∧ runB c = true) (he : ∀ c, S[q]? = some c → runB c = false) :
    (S.drop p).takeWhile runB = S.extract p q ∧ (S.drop p).dropWhile runB = S.drop q ∧ ∀ c ∈ S.extract p q, runB c = true := by
  have hm : ∀ c ∈ S.extract p q, runB c = true := by
    intro c hc
    obtain ⟨i, hi, e⟩ := List.getElem_of_mem hc
    simp only [List.extract_eq_take_drop, List.length_take, List.length_drop] at hi
    obtain ⟨c', h1, h2⟩ := h (p + i) (by omega) (by omega)
    have : (S.extract p q)[i]? = some c := by rw [List.getElem?_eq_getElem (by simp [List.extract_eq_take_drop]; omega), e]
    rw [List.extract_eq_take_drop, List.getElem?_take, if_pos (by omega), List.getElem?_drop, h1] at this
    cases this
    exact h2
  have hs : S.drop p = S.extract p q ++ S.drop q := by
    rw [List.extract_eq_take_drop]
    have := (List.take_append_drop (q - p) (S.drop p)).symm
    rw [List.drop_drop, show p + (q - p) = q by omega] at this
    exact this
  have ht := Ly.take_run (t := S.extract p q) (s := S.drop q) hm (fun c s' e => he c (by
    have := congrArg (·[0]?) e
    simpa using this))
  rw [hs]
  exact ⟨ht.1, ht.2, hm⟩

theorem slice_pq (S : Bs) (p q : Nat) (hpq : p ≤ q) (h : q ≤ S.length) (w : World) : (Instr.slice 9 (.string (bs S)) (some (.int .i64 (p : Int))) (some (.int .i64 (q : Int))) none).run Tryz.prog w = .ok (.string (bs (S.extract p q))) w := by
  have := slice_at S p (q - p) (by omega) w
  rw [show (p : Int) + ((q - p : Nat) : Int) = (q : Int) by omega, show p + (q - p) = q by omega] at this
  exact this

set_option maxHeartbeats 8000000 in
set_option maxRecDepth 20000 in
theorem word_any (b : Nat) (S : Bs) (hl : S.length ≤ 35184372088832) (p d : Nat) (w : World) (h : RR w b S p d false) :
    Calls Tryz.prog 69 #[.pointer (some ⟨b, 0, none⟩)] w fun e w' => Beside b w w' ∧ RRead w.heap.size b d S w' e (if wordP ((S.drop p).takeWhile runB) then some (.name ((S.drop p).takeWhile runB), (S.drop p).dropWhile runB) else none) := by
  obtain ⟨res, hres⟩ : ∃ res : Option (Ex × Bs), res = (if wordP ((S.drop p).takeWhile runB) then some (.name ((S.drop p).takeWhile runB), (S.drop p).dropWhile runB) else none) := ⟨_, rfl⟩
  rw [← hres]
  have HR : Hid (res = _) := hres
  clear hres
  have n0 := below_new w (.cells #[.int .i64 0, .int .i64 0, .string ⟨#[]⟩, .slice none 0 0] 27)
  have R0 := Blk.new w 27 (.int .i64 0) (.int .i64 0) (.string ⟨#[]⟩) (.slice none 0 0)
  have hbw := h.lt
  have h0 := h.later n0
  have hb0 := Beside.of n0 hbw
  have hsz := bs_size S
  obtain ⟨c0, c1, c2, c3, f0, f1, f2, f3, le⟩ := id h0
  go_enter Tryz.func69, Tryz.ntmps69
  go_wp2_with fail
  obtain ⟨W0, hW0⟩ : ∃ W, W = w.alloc (.cells #[.int .i64 0, .int .i64 0, .string ⟨#[]⟩, .slice none 0 0] 27) := ⟨_, rfl⟩
  rw [← hW0] at n0 R0 h0 hb0 c0 c1 c2 c3 f0 f1 f2 f3 ⊢
  clear hW0 c0 c1 c2 c3 f0 f1 f2 f3 n0
  go_loopw [] (fun wr => Beside b w wr ∧ Blk wr w.heap.size (.int .i64 0) (.int .i64 0) (.string ⟨#[]⟩) (.slice none 0 0) ∧ ∃ q : Nat, RR wr b S q d false ∧ p ≤ q ∧ Hid (∀ i, p ≤ i → i < q → ∃ c, S[i]? = some c ∧ runB c = true)) (fun wr => leftAt b S wr)
  case atStart => exact ⟨hb0, R0, p, h0, Nat.le_refl _, fun i h1 h2 => by omega⟩
  case round =>
    obtain ⟨hb, R, q, hR, hpq, hH⟩ := hrel
    obtain ⟨c0, c1, c2, c3, f0, f1, f2, f3, le⟩ := id hR
    have hlt := hR.lt
    have hlf : Hid (leftAt b S wr = S.length - q) := hR.left
    by_cases hqn : q < S.length
    · obtain ⟨c, hc⟩ : ∃ c, S[q]? = some c := ⟨_, List.getElem?_eq_getElem hqn⟩
      have IX := fun w => index_at S q c hc w
      have hI : (q : Int) < (S.length : Int) := by omega
      have hcc := c.toNat_lt
      have kinds : (97 ≤ c.toNat ∧ c.toNat ≤ 122) ∨ (48 ≤ c.toNat ∧ c.toNat ≤ 57) ∨ (c.toNat = 95) ∨ (123 ≤ c.toNat) ∨ (58 ≤ c.toNat ∧ c.toNat ≤ 96 ∧ c.toNat ≠ 95) ∨ (c.toNat ≤ 47) := by omega
      rcases kinds with hk | hk | hk | hk | hk | hk
      · have hrc : runB c = true := by
          simp only [runB, letterB, digitB, Bool.or_eq_true, Bool.and_eq_true, decide_eq_true_eq]; omega
        have v0 : (97 : Int) ≤ (c.toNat : Int) := by omega
        have v1 : (c.toNat : Int) ≤ 122 := by omega
        have v95 : ((c.toNat : Int) == 95) = false := by simp; omega
        clear hk hcc
        go_wp2_with fail
        dsimp only [List.append, List.cons_append, List.nil_append]
        go_big_quiet (fail)
        go_wp2_with fail
        have hR1 := (hR.later (below_drewN wr nq)).go (q + 1) (by omega)
        have R1 := (R.later (below_drewN wr nq)).other ⟨b, 1, none⟩ (.int .i64 ((q + 1 : Nat) : Int)) (Nat.ne_of_gt hbw)
        rw [show (((q + 1 : Nat) : Int)) = (q : Int) + 1 by omega] at hR1 R1
        exact ⟨⟨hb.trans ((Beside.of (below_drewN wr nq) hlt).trans (Beside.set (a := ⟨b, 1, none⟩) _ rfl _)), R1, q + 1, hR1, by omega, fun i h1 h2 => if h : i = q then ⟨c, by rw [h]; exact hc, hrc⟩ else hH.out i h1 (by omega)⟩, by rw [hlf.out, hR1.left]; omega⟩
      · have hrc : runB c = true := by
          simp only [runB, letterB, digitB, Bool.or_eq_true, Bool.and_eq_true, decide_eq_true_eq]; omega
        have v0 : (48 : Int) ≤ (c.toNat : Int) := by omega
        have v1 : (c.toNat : Int) ≤ 57 := by omega
        have v2 : decide ((97 : Int) ≤ (c.toNat : Int)) = false := by simp; omega
        have v95 : ((c.toNat : Int) == 95) = false := by simp; omega
        clear hk hcc
        go_wp2_with fail
        dsimp only [List.append, List.cons_append, List.nil_append]
        go_big_quiet (fail)
        go_wp2_with fail
        have hR1 := (hR.later (below_drewN wr nq)).go (q + 1) (by omega)
        have R1 := (R.later (below_drewN wr nq)).other ⟨b, 1, none⟩ (.int .i64 ((q + 1 : Nat) : Int)) (Nat.ne_of_gt hbw)
        rw [show (((q + 1 : Nat) : Int)) = (q : Int) + 1 by omega] at hR1 R1
        exact ⟨⟨hb.trans ((Beside.of (below_drewN wr nq) hlt).trans (Beside.set (a := ⟨b, 1, none⟩) _ rfl _)), R1, q + 1, hR1, by omega, fun i h1 h2 => if h : i = q then ⟨c, by rw [h]; exact hc, hrc⟩ else hH.out i h1 (by omega)⟩, by rw [hlf.out, hR1.left]; omega⟩
      · have hrc : runB c = true := by
          simp only [runB, letterB, digitB, Bool.or_eq_true, Bool.and_eq_true, decide_eq_true_eq]; omega
        have v0 : (48 : Int) ≤ (c.toNat : Int) := by omega
        have v1 : decide ((97 : Int) ≤ (c.toNat : Int)) = false := by simp; omega
        have v2 : decide ((c.toNat : Int) ≤ 57) = false := by simp; omega
        have v95 : ((c.toNat : Int) == 95) = true := by simp; omega
        clear hk hcc
        go_wp2_with fail
        dsimp only [List.append, List.cons_append, List.nil_append]
        go_big_quiet (fail)
        go_wp2_with fail
        have hR1 := (hR.later (below_drewN wr nq)).go (q + 1) (by omega)
        have R1 := (R.later (below_drewN wr nq)).other ⟨b, 1, none⟩ (.int .i64 ((q + 1 : Nat) : Int)) (Nat.ne_of_gt hbw)
        rw [show (((q + 1 : Nat) : Int)) = (q : Int) + 1 by omega] at hR1 R1
        exact ⟨⟨hb.trans ((Beside.of (below_drewN wr nq) hlt).trans (Beside.set (a := ⟨b, 1, none⟩) _ rfl _)), R1, q + 1, hR1, by omega, fun i h1 h2 => if h : i = q then ⟨c, by rw [h]; exact hc, hrc⟩ else hH.out i h1 (by omega)⟩, by rw [hlf.out, hR1.left]; omega⟩
      · have hrc : runB c = false := by
          cases hz : runB c with
          | false => rfl
          | true => simp only [runB, letterB, digitB, Bool.or_eq_true, Bool.and_eq_true, decide_eq_true_eq] at hz; omega
        have v0 : (97 : Int) ≤ (c.toNat : Int) := by omega
        have v1 : (48 : Int) ≤ (c.toNat : Int) := by omega
        have v2 : decide ((c.toNat : Int) ≤ 122) = false := by simp; omega
        have v3 : decide ((c.toNat : Int) ≤ 57) = false := by simp; omega
        have v95 : ((c.toNat : Int) == 95) = false := by simp; omega
        clear hk hcc
        go_wp2_with fail
        dsimp only [List.append, List.cons_append, List.nil_append]
        go_big_quiet (fail)
        have hR2 := hR.later (below_drewN wr nq)
        have R2 := R.later (below_drewN wr nq)
        have hb2 := hb.trans (Beside.of (below_drewN wr nq) hlt)
        generalize wr.drewN nq = W2 at *
        clear c0 c1 c2 c3 f0 f1 f2 f3 hR R hb
        obtain ⟨c0, c1, c2, c3, f0, f1, f2, f3, _⟩ := id hR2
        obtain ⟨x0, x1, x2, x3, g0, g1, g2, g3⟩ := id R2
        have hl2 := R2.lt
        have hE := run_in hpq le hH.out (fun c' hc' => by rw [hc] at hc'; cases hc'; exact hrc)
        have WF := fun W => word_fn (S.extract p q) (by simp [List.extract_eq_take_drop]; omega) hE.2.2 W
        have SL := fun W => slice_pq S p q hpq le W
        have E : Hid (res = if wordP (S.extract p q) then some (.name (S.extract p q), S.drop q) else none) := by
          have := HR.out
          rw [hE.1, hE.2.1] at this
          exact this
        clear hE HR hH
        generalize S.extract p q = wd at *
        generalize wordP wd = wb at *
        cases wb with
        | true =>
          go_wp2_with fail
          go_quiet (first | (go_at_call 84; exact Calls.quiet_of_same (WF _)))
          clear WF
          have hR3 := hR2.later (below_drewN W2 nq)
          have R3 := R2.later (below_drewN W2 nq)
          have hb3 := hb2.trans (Beside.of (below_drewN W2 nq) hR2.lt)
          generalize W2.drewN nq = W3 at *
          clear c0 c1 c2 c3 f0 f1 f2 f3 x0 x1 x2 x3 g0 g1 g2 g3 hR2 R2 hb2 hl2
          obtain ⟨c0, c1, c2, c3, f0, f1, f2, f3, _⟩ := id hR3
          obtain ⟨x0, x1, x2, x3, g0, g1, g2, g3⟩ := id R3
          have hl3 := R3.lt
          go_wp2_with fail
          go_region
          all_goals go_wp2_with fail
          have R5 := R3.put (.int .i64 2) (.int .i64 0) (.string (bs wd)) (.slice none 0 0)
          have d5 := Below.drew (Below.refl (put4 W3 w.heap.size (.int .i64 2) (.int .i64 0) (.string (bs wd)) (.slice none 0 0)).heap.size (put4 W3 w.heap.size (.int .i64 2) (.int .i64 0) (.string (bs wd)) (.slice none 0 0)))
          have hR5 := (hR3.put4 w.heap.size (.int .i64 2) (.int .i64 0) (.string (bs wd)) (.slice none 0 0) (Nat.ne_of_lt hbw)).later d5
          have hb5 := (hb3.putNew hbw (Nat.le_refl _) (.int .i64 2) (.int .i64 0) (.string (bs wd)) (.slice none 0 0)).trans (Beside.of d5 (by rw [put4_size]; exact hR3.lt))
          obtain ⟨y0, y1, y2, y3, _, _, _, _⟩ := R5
          unfold put4 at y0 y1 y2 y3
          exact bodyPost_ret (v := .agg #[.int .i64 2, .int .i64 0, .string (bs wd), .slice none 0 0]) (by simp [results, Tryz.results69, go_sem, y0, y1, y2, y3]) rfl (by
            rw [E.out]
            exact ⟨hb5, _, q, rfl, rfl, hR5, rfl⟩)
        | false =>
          go_wp2_with fail
          go_quiet (first | (go_at_call 84; exact Calls.quiet_of_same (WF _)))
          clear WF
          have hR3 := hR2.later (below_drewN W2 nq)
          have R3 := R2.later (below_drewN W2 nq)
          have hb3 := hb2.trans (Beside.of (below_drewN W2 nq) hR2.lt)
          generalize W2.drewN nq = W3 at *
          clear c0 c1 c2 c3 f0 f1 f2 f3 x0 x1 x2 x3 g0 g1 g2 g3 hR2 R2 hb2 hl2
          have hR4 := hR3.spoil
          have R4 := R3.other ⟨b, 3, none⟩ (.bool true) (Nat.ne_of_gt hbw)
          have hb4 := hb3.trans (Beside.set (a := ⟨b, 3, none⟩) W3 rfl (.bool true))
          obtain ⟨c0, c1, c2, c3, f0, f1, f2, f3, _⟩ := id hR3
          have hl3 := hR3.lt
          go_wp2_with fail
          generalize W3.setCell ⟨b, 3, none⟩ (.bool true) = W4 at *
          clear c0 c1 c2 c3 f0 f1 f2 f3
          obtain ⟨c0, c1, c2, c3, f0, f1, f2, f3, _⟩ := id hR4
          obtain ⟨x0, x1, x2, x3, g0, g1, g2, g3⟩ := id R4
          have hl4 := R4.lt
          go_region
          all_goals go_wp2_with fail
          have R5 := R4.put (.int .i64 2) (.int .i64 0) (.string (bs wd)) (.slice none 0 0)
          have d5 := Below.drew (Below.refl (put4 W4 w.heap.size (.int .i64 2) (.int .i64 0) (.string (bs wd)) (.slice none 0 0)).heap.size (put4 W4 w.heap.size (.int .i64 2) (.int .i64 0) (.string (bs wd)) (.slice none 0 0)))
          have hR5 := (hR4.put4 w.heap.size (.int .i64 2) (.int .i64 0) (.string (bs wd)) (.slice none 0 0) (Nat.ne_of_lt hbw)).later d5
          have hb5 := (hb4.putNew hbw (Nat.le_refl _) (.int .i64 2) (.int .i64 0) (.string (bs wd)) (.slice none 0 0)).trans (Beside.of d5 (by rw [put4_size]; exact hR4.lt))
          obtain ⟨y0, y1, y2, y3, _, _, _, _⟩ := R5
          unfold put4 at y0 y1 y2 y3
          exact bodyPost_ret (v := .agg #[.int .i64 2, .int .i64 0, .string (bs wd), .slice none 0 0]) (by simp [results, Tryz.results69, go_sem, y0, y1, y2, y3]) rfl (by
            rw [E.out]
            exact ⟨hb5, _, q, rfl, ⟨_, _, _, _, _, _, rfl⟩, hR5⟩)
      · have hrc : runB c = false := by
          cases hz : runB c with
          | false => rfl
          | true => simp only [runB, letterB, digitB, Bool.or_eq_true, Bool.and_eq_true, decide_eq_true_eq] at hz; omega
        have v0 : (48 : Int) ≤ (c.toNat : Int) := by omega
        have v1 : decide ((97 : Int) ≤ (c.toNat : Int)) = false := by simp; omega
        have v2 : decide ((c.toNat : Int) ≤ 57) = false := by simp; omega
        have v95 : ((c.toNat : Int) == 95) = false := by simp; omega
        clear hk hcc
        go_wp2_with fail
        dsimp only [List.append, List.cons_append, List.nil_append]
        go_big_quiet (fail)
        have hR2 := hR.later (below_drewN wr nq)
        have R2 := R.later (below_drewN wr nq)
        have hb2 := hb.trans (Beside.of (below_drewN wr nq) hlt)
        generalize wr.drewN nq = W2 at *
        clear c0 c1 c2 c3 f0 f1 f2 f3 hR R hb
        obtain ⟨c0, c1, c2, c3, f0, f1, f2, f3, _⟩ := id hR2
        obtain ⟨x0, x1, x2, x3, g0, g1, g2, g3⟩ := id R2
        have hl2 := R2.lt
        have hE := run_in hpq le hH.out (fun c' hc' => by rw [hc] at hc'; cases hc'; exact hrc)
        have WF := fun W => word_fn (S.extract p q) (by simp [List.extract_eq_take_drop]; omega) hE.2.2 W
        have SL := fun W => slice_pq S p q hpq le W
        have E : Hid (res = if wordP (S.extract p q) then some (.name (S.extract p q), S.drop q) else none) := by
          have := HR.out
          rw [hE.1, hE.2.1] at this
          exact this
        clear hE HR hH
        generalize S.extract p q = wd at *
        generalize wordP wd = wb at *
        cases wb with
        | true =>
          go_wp2_with fail
          go_quiet (first | (go_at_call 84; exact Calls.quiet_of_same (WF _)))
          clear WF
          have hR3 := hR2.later (below_drewN W2 nq)
          have R3 := R2.later (below_drewN W2 nq)
          have hb3 := hb2.trans (Beside.of (below_drewN W2 nq) hR2.lt)
          generalize W2.drewN nq = W3 at *
          clear c0 c1 c2 c3 f0 f1 f2 f3 x0 x1 x2 x3 g0 g1 g2 g3 hR2 R2 hb2 hl2
          obtain ⟨c0, c1, c2, c3, f0, f1, f2, f3, _⟩ := id hR3
          obtain ⟨x0, x1, x2, x3, g0, g1, g2, g3⟩ := id R3
          have hl3 := R3.lt
          go_wp2_with fail
          go_region
          all_goals go_wp2_with fail
          have R5 := R3.put (.int .i64 2) (.int .i64 0) (.string (bs wd)) (.slice none 0 0)
          have d5 := Below.drew (Below.refl (put4 W3 w.heap.size (.int .i64 2) (.int .i64 0) (.string (bs wd)) (.slice none 0 0)).heap.size (put4 W3 w.heap.size (.int .i64 2) (.int .i64 0) (.string (bs wd)) (.slice none 0 0)))
          have hR5 := (hR3.put4 w.heap.size (.int .i64 2) (.int .i64 0) (.string (bs wd)) (.slice none 0 0) (Nat.ne_of_lt hbw)).later d5
          have hb5 := (hb3.putNew hbw (Nat.le_refl _) (.int .i64 2) (.int .i64 0) (.string (bs wd)) (.slice none 0 0)).trans (Beside.of d5 (by rw [put4_size]; exact hR3.lt))
          obtain ⟨y0, y1, y2, y3, _, _, _, _⟩ := R5
          unfold put4 at y0 y1 y2 y3
          exact bodyPost_ret (v := .agg #[.int .i64 2, .int .i64 0, .string (bs wd), .slice none 0 0]) (by simp [results, Tryz.results69, go_sem, y0, y1, y2, y3]) rfl (by
            rw [E.out]
            exact ⟨hb5, _, q, rfl, rfl, hR5, rfl⟩)
        | false =>
          go_wp2_with fail
          go_quiet (first | (go_at_call 84; exact Calls.quiet_of_same (WF _)))
          clear WF
          have hR3 := hR2.later (below_drewN W2 nq)
          have R3 := R2.later (below_drewN W2 nq)
          have hb3 := hb2.trans (Beside.of (below_drewN W2 nq) hR2.lt)
          generalize W2.drewN nq = W3 at *
          clear c0 c1 c2 c3 f0 f1 f2 f3 x0 x1 x2 x3 g0 g1 g2 g3 hR2 R2 hb2 hl2
          have hR4 := hR3.spoil
          have R4 := R3.other ⟨b, 3, none⟩ (.bool true) (Nat.ne_of_gt hbw)
          have hb4 := hb3.trans (Beside.set (a := ⟨b, 3, none⟩) W3 rfl (.bool true))
          obtain ⟨c0, c1, c2, c3, f0, f1, f2, f3, _⟩ := id hR3
          have hl3 := hR3.lt
          go_wp2_with fail
          generalize W3.setCell ⟨b, 3, none⟩ (.bool true) = W4 at *
          clear c0 c1 c2 c3 f0 f1 f2 f3
          obtain ⟨c0, c1, c2, c3, f0, f1, f2, f3, _⟩ := id hR4
          obtain ⟨x0, x1, x2, x3, g0, g1, g2, g3⟩ := id R4
          have hl4 := R4.lt
          go_region
          all_goals go_wp2_with fail
          have R5 := R4.put (.int .i64 2) (.int .i64 0) (.string (bs wd)) (.slice none 0 0)
          have d5 := Below.drew (Below.refl (put4 W4 w.heap.size (.int .i64 2) (.int .i64 0) (.string (bs wd)) (.slice none 0 0)).heap.size (put4 W4 w.heap.size (.int .i64 2) (.int .i64 0) (.string (bs wd)) (.slice none 0 0)))
          have hR5 := (hR4.put4 w.heap.size (.int .i64 2) (.int .i64 0) (.string (bs wd)) (.slice none 0 0) (Nat.ne_of_lt hbw)).later d5
          have hb5 := (hb4.putNew hbw (Nat.le_refl _) (.int .i64 2) (.int .i64 0) (.string (bs wd)) (.slice none 0 0)).trans (Beside.of d5 (by rw [put4_size]; exact hR4.lt))
          obtain ⟨y0, y1, y2, y3, _, _, _, _⟩ := R5
          unfold put4 at y0 y1 y2 y3
          exact bodyPost_ret (v := .agg #[.int .i64 2, .int .i64 0, .string (bs wd), .slice none 0 0]) (by simp [results, Tryz.results69, go_sem, y0, y1, y2, y3]) rfl (by
            rw [E.out]
            exact ⟨hb5, _, q, rfl, ⟨_, _, _, _, _, _, rfl⟩, hR5⟩)
      · have hrc : runB c = false := by
          cases hz : runB c with
          | false => rfl
          | true => simp only [runB, letterB, digitB, Bool.or_eq_true, Bool.and_eq_true, decide_eq_true_eq] at hz; omega
        have v0 : decide ((97 : Int) ≤ (c.toNat : Int)) = false := by simp; omega
        have v1 : decide ((48 : Int) ≤ (c.toNat : Int)) = false := by simp; omega
        have v95 : ((c.toNat : Int) == 95) = false := by simp; omega
        clear hk hcc
        go_wp2_with fail
        dsimp only [List.append, List.cons_append, List.nil_append]
        go_big_quiet (fail)
        have hR2 := hR.later (below_drewN wr nq)
        have R2 := R.later (below_drewN wr nq)
        have hb2 := hb.trans (Beside.of (below_drewN wr nq) hlt)
        generalize wr.drewN nq = W2 at *
        clear c0 c1 c2 c3 f0 f1 f2 f3 hR R hb
        obtain ⟨c0, c1, c2, c3, f0, f1, f2, f3, _⟩ := id hR2
        obtain ⟨x0, x1, x2, x3, g0, g1, g2, g3⟩ := id R2
        have hl2 := R2.lt
        have hE := run_in hpq le hH.out (fun c' hc' => by rw [hc] at hc'; cases hc'; exact hrc)
        have WF := fun W => word_fn (S.extract p q) (by simp [List.extract_eq_take_drop]; omega) hE.2.2 W
        have SL := fun W => slice_pq S p q hpq le W
        have E : Hid (res = if wordP (S.extract p q) then some (.name (S.extract p q), S.drop q) else none) := by
          have := HR.out
          rw [hE.1, hE.2.1] at this
          exact this
        clear hE HR hH
        generalize S.extract p q = wd at *
        generalize wordP wd = wb at *
        cases wb with
        | true =>
          go_wp2_with fail
          go_quiet (first | (go_at_call 84; exact Calls.quiet_of_same (WF _)))
          clear WF
          have hR3 := hR2.later (below_drewN W2 nq)
          have R3 := R2.later (below_drewN W2 nq)
          have hb3 := hb2.trans (Beside.of (below_drewN W2 nq) hR2.lt)
          generalize W2.drewN nq = W3 at *
          clear c0 c1 c2 c3 f0 f1 f2 f3 x0 x1 x2 x3 g0 g1 g2 g3 hR2 R2 hb2 hl2
          obtain ⟨c0, c1, c2, c3, f0, f1, f2, f3, _⟩ := id hR3
          obtain ⟨x0, x1, x2, x3, g0, g1, g2, g3⟩ := id R3
          have hl3 := R3.lt
          go_wp2_with fail
          go_region
          all_goals go_wp2_with fail
          have R5 := R3.put (.int .i64 2) (.int .i64 0) (.string (bs wd)) (.slice none 0 0)
          have d5 := Below.drew (Below.refl (put4 W3 w.heap.size (.int .i64 2) (.int .i64 0) (.string (bs wd)) (.slice none 0 0)).heap.size (put4 W3 w.heap.size (.int .i64 2) (.int .i64 0) (.string (bs wd)) (.slice none 0 0)))
          have hR5 := (hR3.put4 w.heap.size (.int .i64 2) (.int .i64 0) (.string (bs wd)) (.slice none 0 0) (Nat.ne_of_lt hbw)).later d5
          have hb5 := (hb3.putNew hbw (Nat.le_refl _) (.int .i64 2) (.int .i64 0) (.string (bs wd)) (.slice none 0 0)).trans (Beside.of d5 (by rw [put4_size]; exact hR3.lt))
          obtain ⟨y0, y1, y2, y3, _, _, _, _⟩ := R5
          unfold put4 at y0 y1 y2 y3
          exact bodyPost_ret (v := .agg #[.int .i64 2, .int .i64 0, .string (bs wd), .slice none 0 0]) (by simp [results, Tryz.results69, go_sem, y0, y1, y2, y3]) rfl (by
            rw [E.out]
            exact ⟨hb5, _, q, rfl, rfl, hR5, rfl⟩)
        | false =>
          go_wp2_with fail
          go_quiet (first | (go_at_call 84; exact Calls.quiet_of_same (WF _)))
          clear WF
          have hR3 := hR2.later (below_drewN W2 nq)
          have R3 := R2.later (below_drewN W2 nq)
          have hb3 := hb2.trans (Beside.of (below_drewN W2 nq) hR2.lt)
          generalize W2.drewN nq = W3 at *
          clear c0 c1 c2 c3 f0 f1 f2 f3 x0 x1 x2 x3 g0 g1 g2 g3 hR2 R2 hb2 hl2
          have hR4 := hR3.spoil
          have R4 := R3.other ⟨b, 3, none⟩ (.bool true) (Nat.ne_of_gt hbw)
          have hb4 := hb3.trans (Beside.set (a := ⟨b, 3, none⟩) W3 rfl (.bool true))
          obtain ⟨c0, c1, c2, c3, f0, f1, f2, f3, _⟩ := id hR3
          have hl3 := hR3.lt
          go_wp2_with fail
          generalize W3.setCell ⟨b, 3, none⟩ (.bool true) = W4 at *
          clear c0 c1 c2 c3 f0 f1 f2 f3
          obtain ⟨c0, c1, c2, c3, f0, f1, f2, f3, _⟩ := id hR4
          obtain ⟨x0, x1, x2, x3, g0, g1, g2, g3⟩ := id R4
          have hl4 := R4.lt
          go_region
          all_goals go_wp2_with fail
          have R5 := R4.put (.int .i64 2) (.int .i64 0) (.string (bs wd)) (.slice none 0 0)
          have d5 := Below.drew (Below.refl (put4 W4 w.heap.size (.int .i64 2) (.int .i64 0) (.string (bs wd)) (.slice none 0 0)).heap.size (put4 W4 w.heap.size (.int .i64 2) (.int .i64 0) (.string (bs wd)) (.slice none 0 0)))
          have hR5 := (hR4.put4 w.heap.size (.int .i64 2) (.int .i64 0) (.string (bs wd)) (.slice none 0 0) (Nat.ne_of_lt hbw)).later d5
          have hb5 := (hb4.putNew hbw (Nat.le_refl _) (.int .i64 2) (.int .i64 0) (.string (bs wd)) (.slice none 0 0)).trans (Beside.of d5 (by rw [put4_size]; exact hR4.lt))
          obtain ⟨y0, y1, y2, y3, _, _, _, _⟩ := R5
          unfold put4 at y0 y1 y2 y3
          exact bodyPost_ret (v := .agg #[.int .i64 2, .int .i64 0, .string (bs wd), .slice none 0 0]) (by simp [results, Tryz.results69, go_sem, y0, y1, y2, y3]) rfl (by
            rw [E.out]
            exact ⟨hb5, _, q, rfl, ⟨_, _, _, _, _, _, rfl⟩, hR5⟩)
    · have hI : decide ((q : Int) < (S.length : Int)) = false := by simp; omega
      go_wp2_with fail
      dsimp only [List.append, List.cons_append, List.nil_append]
      go_big_quiet (fail)
      have hR2 := hR.later (below_drewN wr nq)
      have R2 := R.later (below_drewN wr nq)
      have hb2 := hb.trans (Beside.of (below_drewN wr nq) hlt)
      generalize wr.drewN nq = W2 at *
      clear c0 c1 c2 c3 f0 f1 f2 f3 hR R hb
      obtain ⟨c0, c1, c2, c3, f0, f1, f2, f3, _⟩ := id hR2
      obtain ⟨x0, x1, x2, x3, g0, g1, g2, g3⟩ := id R2
      have hl2 := R2.lt
      have hE := run_in hpq le hH.out (fun c' hc' => by rw [List.getElem?_eq_none (by omega)] at hc'; cases hc')
      have WF := fun W => word_fn (S.extract p q) (by simp [List.extract_eq_take_drop]; omega) hE.2.2 W
      have SL := fun W => slice_pq S p q hpq le W
      have E : Hid (res = if wordP (S.extract p q) then some (.name (S.extract p q), S.drop q) else none) := by
        have := HR.out
        rw [hE.1, hE.2.1] at this
        exact this
      clear hE HR hH
      generalize S.extract p q = wd at *
      generalize wordP wd = wb at *
      cases wb with
      | true =>
        go_wp2_with fail
        go_quiet (first | (go_at_call 84; exact Calls.quiet_of_same (WF _)))
        clear WF
        have hR3 := hR2.later (below_drewN W2 nq)
        have R3 := R2.later (below_drewN W2 nq)
        have hb3 := hb2.trans (Beside.of (below_drewN W2 nq) hR2.lt)
        generalize W2.drewN nq = W3 at *
        clear c0 c1 c2 c3 f0 f1 f2 f3 x0 x1 x2 x3 g0 g1 g2 g3 hR2 R2 hb2 hl2
        obtain ⟨c0, c1, c2, c3, f0, f1, f2, f3, _⟩ := id hR3
        obtain ⟨x0, x1, x2, x3, g0, g1, g2, g3⟩ := id R3
        have hl3 := R3.lt
        go_wp2_with fail
        go_region
        all_goals go_wp2_with fail
        have R5 := R3.put (.int .i64 2) (.int .i64 0) (.string (bs wd)) (.slice none 0 0)
        have d5 := Below.drew (Below.refl (put4 W3 w.heap.size (.int .i64 2) (.int .i64 0) (.string (bs wd)) (.slice none 0 0)).heap.size (put4 W3 w.heap.size (.int .i64 2) (.int .i64 0) (.string (bs wd)) (.slice none 0 0)))
        have hR5 := (hR3.put4 w.heap.size (.int .i64 2) (.int .i64 0) (.string (bs wd)) (.slice none 0 0) (Nat.ne_of_lt hbw)).later d5
        have hb5 := (hb3.putNew hbw (Nat.le_refl _) (.int .i64 2) (.int .i64 0) (.string (bs wd)) (.slice none 0 0)).trans (Beside.of d5 (by rw [put4_size]; exact hR3.lt))
        obtain ⟨y0, y1, y2, y3, _, _, _, _⟩ := R5
        unfold put4 at y0 y1 y2 y3
        exact bodyPost_ret (v := .agg #[.int .i64 2, .int .i64 0, .string (bs wd), .slice none 0 0]) (by simp [results, Tryz.results69, go_sem, y0, y1, y2, y3]) rfl (by
          rw [E.out]
          exact ⟨hb5, _, q, rfl, rfl, hR5, rfl⟩)
      | false =>
        go_wp2_with fail
        go_quiet (first | (go_at_call 84; exact Calls.quiet_of_same (WF _)))
        clear WF
        have hR3 := hR2.later (below_drewN W2 nq)
        have R3 := R2.later (below_drewN W2 nq)
        have hb3 := hb2.trans (Beside.of (below_drewN W2 nq) hR2.lt)
        generalize W2.drewN nq = W3 at *
        clear c0 c1 c2 c3 f0 f1 f2 f3 x0 x1 x2 x3 g0 g1 g2 g3 hR2 R2 hb2 hl2
        have hR4 := hR3.spoil
        have R4 := R3.other ⟨b, 3, none⟩ (.bool true) (Nat.ne_of_gt hbw)
        have hb4 := hb3.trans (Beside.set (a := ⟨b, 3, none⟩) W3 rfl (.bool true))
        obtain ⟨c0, c1, c2, c3, f0, f1, f2, f3, _⟩ := id hR3
        have hl3 := hR3.lt
        go_wp2_with fail
        generalize W3.setCell ⟨b, 3, none⟩ (.bool true) = W4 at *
        clear c0 c1 c2 c3 f0 f1 f2 f3
        obtain ⟨c0, c1, c2, c3, f0, f1, f2, f3, _⟩ := id hR4
        obtain ⟨x0, x1, x2, x3, g0, g1, g2, g3⟩ := id R4
        have hl4 := R4.lt
        go_region
        all_goals go_wp2_with fail
        have R5 := R4.put (.int .i64 2) (.int .i64 0) (.string (bs wd)) (.slice none 0 0)
        have d5 := Below.drew (Below.refl (put4 W4 w.heap.size (.int .i64 2) (.int .i64 0) (.string (bs wd)) (.slice none 0 0)).heap.size (put4 W4 w.heap.size (.int .i64 2) (.int .i64 0) (.string (bs wd)) (.slice none 0 0)))
        have hR5 := (hR4.put4 w.heap.size (.int .i64 2) (.int .i64 0) (.string (bs wd)) (.slice none 0 0) (Nat.ne_of_lt hbw)).later d5
        have hb5 := (hb4.putNew hbw (Nat.le_refl _) (.int .i64 2) (.int .i64 0) (.string (bs wd)) (.slice none 0 0)).trans (Beside.of d5 (by rw [put4_size]; exact hR4.lt))
        obtain ⟨y0, y1, y2, y3, _, _, _, _⟩ := R5
        unfold put4 at y0 y1 y2 y3
        exact bodyPost_ret (v := .agg #[.int .i64 2, .int .i64 0, .string (bs wd), .slice none 0 0]) (by simp [results, Tryz.results69, go_sem, y0, y1, y2, y3]) rfl (by
          rw [E.out]
          exact ⟨hb5, _, q, rfl, ⟨_, _, _, _, _, _, rfl⟩, hR5⟩)
end Go.Proofs.YtopfnfmglnjljaaGreatDoor.Rf
