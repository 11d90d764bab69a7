/- For every two numbers and either answer, with no condition, StorePins holds: a stamp that is pinned several times is held till it is unpinned as many times, and cleaned behind that; it changes nothing that was there. -/
import Derived.Test.YtcnajkclbmddgaaRows
import Derived.WalkKit
import Derived.ProofKit
import Derived.OpenShut
import Derived.Carry
import Derived.BigQuiet
import Derived.BigRegion
import Derived.Deep.LoopGhost
import Derived.Lib.QuietBelow
import Derived.Test.YtcnajkclbmddgaaLawsP
import Derived.Test.YtcnajkclbmddgaaLawsF
namespace Go.Proofs.Ytcnajkclbmddgaa.storePins
open Go.ChangeShapes Go.WideShapes Go.ChangeAt Go.RowKit
open Go.ChangeMaps (open_string shut_string)
open Go.Sort (grow)
set_option linter.unusedVariables false
set_option linter.unusedSimpArgs false

theorem own : ownKnob Try.prog.godebug = none := by kernel_rfl

def vO : Ver := ⟨⟨⟨#[97]⟩, ⟨#[111, 108, 100]⟩, false⟩, 1⟩
def wN (g : Bool) : Wr := ⟨⟨#[97]⟩, if g then ⟨#[]⟩ else ⟨#[110, 101, 119]⟩, g⟩
def s1 (m : Nat) : Sto := ⟨100, 1, [vO], List.replicate m 1⟩
def sP (g : Bool) (m : Nat) : Sto := ⟨100, 2, [vO, ⟨wN g, 2⟩], List.replicate m 1⟩

theorem s1_pin (m : Nat) : pinP (s1 m) = s1 (m + 1) := by unfold pinP s1; simp only [List.replicate_succ']
theorem s1_commit (g : Bool) (m : Nat) : commitP (s1 m) [wN g] = (sP g m, 2, 0) := by unfold commitP; rw [if_neg (by show ¬ (100 : Int) < ((1 : Nat) : Int) + ((1 : Nat) : Int); omega)]; rfl
theorem sP_unpin (g : Bool) (m : Nat) : unpinP (sP g m) 1 = sP g (m - 1) := by
  unfold unpinP sP
  cases m with
  | zero => rfl
  | succ m => simp [List.replicate_succ]
theorem fold_ones : ∀ m : Nat, (List.replicate m (1 : Int)).foldl min 1 = 1
  | 0 => rfl
  | m + 1 => by rw [List.replicate_succ, List.foldl_cons]; exact fold_ones m
theorem sP_low (g : Bool) (m : Nat) : lowP (sP g (m + 1)) = 1 := by
  unfold lowP sP
  rw [List.replicate_succ, List.foldl_cons]
  exact fold_ones m
theorem clean_held (g : Bool) (m : Nat) : cleanP (sP g (m + 1)) = (sP g (m + 1), 0) := by
  unfold cleanP
  rw [sP_low]
  cases g <;> kernel_rfl

/-! ### The walk -/
set_option maxHeartbeats 8000000 in
set_option maxRecDepth 20000 in
theorem walk (a0 : Int) (w0 : (Lit.int .i64 a0).wf = true) (a1 : Int) (w1 : (Lit.int .i64 a1).wf = true) (a2 : Bool) (w2 : a2 = a2) (w : World) :
    Calls Try.prog 8 #[.int .i64 a0, .int .i64 a1, .bool a2] w fun e w' => e = .returned (.bool true) ∧ Below w.heap.size w w' := by
  have K := known_any w
  have W4 := fun w => within_any a0 4 (by omega) (by omega) w
  obtain ⟨kk, hkk, hk4⟩ : ∃ kk : Nat, a0 % 4 = (kk : Int) ∧ kk < 4 := ⟨(a0 % 4).toNat, by omega, by omega⟩
  rw [hkk] at W4
  have W6 := fun w => within_any a1 6 (by omega) (by omega) w
  obtain ⟨jj, hjj, hj6⟩ : ∃ jj : Nat, a1 % 6 = (jj : Int) ∧ jj < 6 := ⟨(a1 % 6).toNat, by omega, by omega⟩
  rw [hjj] at W6
  replace hkk : Hid (a0 % 4 = (kk : Int)) := hkk
  replace hjj : Hid (a1 % 6 = (jj : Int)) := hjj
  obtain ⟨k1, hk1, hk1b, hk1c⟩ : ∃ k1 : Nat, 1 + (kk : Int) = (k1 : Int) ∧ 0 < k1 ∧ k1 ≤ 4 := ⟨1 + kk, by omega, by omega, by omega⟩
  have hkb : wrap64 (k1 : Int) = (k1 : Int) := IntWalk.wrap64_in _ (by omega)
  have HB : Hid (0 < k1 ∧ k1 ≤ 4 ∧ jj < 6) := ⟨hk1b, hk1c, hj6⟩
  clear w0 w1 w2 hk1b hk1c hj6 hk4
  go_enter Try.func8, Try.ntmps8
  go_wp2_with fail
  refine K.mono ?_
  rintro e w1 ⟨rfl, hb1⟩
  clear K
  have N := new_own w.heap.size w w1 100 (by omega) hb1 hb1.size
  clear hb1
  go_wp2_with fail
  refine N.mono ?_
  rintro e w2 ⟨p, S, rfl, O, ht, hp, -, -⟩
  clear N
  have OP := O.fresh (n := 0) hp rfl
  have CM := commit_oneP OP ⟨⟨#[97]⟩, ⟨#[111, 108, 100]⟩, false⟩ ⟨by show (1 : Nat) ≤ _; omega, by show (3 : Nat) ≤ _; omega⟩ (by rw [ht]; omega) (by show (0 : Int) ≤ _; omega)
  have hc1 : commitP ⟨100, 0, [], []⟩ [⟨⟨#[97]⟩, ⟨#[111, 108, 100]⟩, false⟩] = (s1 0, 1, 0) := by kernel_rfl
  rw [hc1] at CM
  replace CM := CM.mono (fun e w' h => by
    obtain ⟨S', h1, h2, h3⟩ := h
    exact (⟨h1, ⟨S', h2, by omega⟩⟩ : e = .returned (.tuple #[.int .i64 1, .int .i64 0]) ∧ Hid (∃ S', OwnP w.heap.size p w w' S' (s1 0) 0 ∧ S'.tot ≤ 1)))
  clear O OP ht hp hc1
  go_wp2_with fail
  refine CM.mono ?_
  rintro e w3 ⟨rfl, Q3⟩
  clear CM
  go_wp2_with fail
  refine (W4 w3).mono ?_
  rintro e w4 ⟨rfl, rfl⟩
  clear W4
  go_wp2_with fail
  refine (W6 w4).mono ?_
  rintro e w5 ⟨rfl, rfl⟩
  clear W6
  go_wp2_with fail
  clear hkb hk1
  go_loopg [10] k1 (fun kx s10 wr => ∃ i : Nat, s10 = .int .i64 i ∧ i ≤ k1 ∧ k1 - i ≤ kx ∧ Hid (∃ S', OwnP w.heap.size p w wr S' (s1 i) i ∧ S'.tot ≤ 1))
  case atStart => exact ⟨0, rfl, Nat.zero_le _, by omega, Q3⟩
  case round =>
    clear Q3
    obtain ⟨i, rfl, hi, hg, Q⟩ := hrel
    by_cases hik : i < k1
    · have hikI : (i : Int) < (k1 : Int) := by omega
      have hiB : wrap64 ((i : Int) + 1) = (i : Int) + 1 := IntWalk.wrap64_in _ (by have := HB.out; omega)
      have HI : Hid (i < k1 ∧ k1 - i ≤ gk) := ⟨hik, hg⟩
      obtain ⟨S', O', ht'⟩ := Q.out
      have PN := pin_own O' (by have := HB.out; omega)
      rw [s1_pin] at PN
      replace PN := PN.mono (fun e w' h => by
        obtain ⟨S2, h1, h2, -, h4⟩ := h
        exact (⟨⟨_, h1⟩, ⟨S2, h2, by omega⟩⟩ : (∃ v, e = .returned (.int .i64 v)) ∧ Hid (∃ S', OwnP w.heap.size p w w' S' (s1 (i + 1)) (i + 1) ∧ S'.tot ≤ 1)))
      clear O' ht' Q hi hg hik
      go_wp2_with fail
      refine PN.mono ?_
      rintro e w6 ⟨⟨v, rfl⟩, Q6⟩
      clear PN
      obtain ⟨f1, f2⟩ := HI.out
      go_wp2_with fail
      go_roundg (k1 - (i + 1))
      case rel => exact ⟨i + 1, by go_num, by omega, Nat.le_refl _, Q6⟩
      case measure => omega
    · obtain rfl : i = k1 := by omega
      clear hi hg hik
      obtain ⟨S0, O0, ht0⟩ := Q.out
      clear Q
      cases a2
      · have CM := commit_oneP (O0.later (below_new wr (.cells #[.string ⟨#[97]⟩, .string ⟨#[110, 101, 119]⟩, .bool false] 54))) ⟨⟨#[97]⟩, ⟨#[110, 101, 119]⟩, false⟩ ⟨by show (1 : Nat) ≤ _; omega, by show (3 : Nat) ≤ _; omega⟩ (by omega) (by show (1 : Int) ≤ _; omega)
        rw [show commitP (s1 i) [⟨⟨#[97]⟩, ⟨#[110, 101, 119]⟩, false⟩] = (sP false i, 2, 0) from s1_commit false i, show (wr.alloc (.cells #[.string ⟨#[97]⟩, .string ⟨#[110, 101, 119]⟩, .bool false] 54)).heap.size = wr.heap.size + 1 by simp] at CM
        replace CM := CM.mono (fun e w' h => by
          obtain ⟨S', h1, h2, h3⟩ := h
          exact (⟨h1, ⟨S', h2⟩⟩ : e = .returned (.tuple #[.int .i64 2, .int .i64 0]) ∧ Hid (∃ S', OwnP w.heap.size p w w' S' (sP false i) i)))
        clear O0 ht0
        go_wp2_with fail
        refine CM.mono ?_
        rintro e w7 ⟨rfl, Q7⟩
        clear CM
        go_wp2_with fail
        replace Q7 : Hid (∃ S', OwnP w.heap.size p w w7 S' (sP false (i - 0)) i) := Q7
        go_loopg [12] jj (fun kx s12 wr => ∃ j : Nat, s12 = .int .i64 j ∧ j ≤ jj ∧ jj - j ≤ kx ∧ Hid (∃ S', OwnP w.heap.size p w wr S' (sP false (i - j)) i))
        case atStart => exact ⟨0, rfl, Nat.zero_le _, by omega, Q7⟩
        case round =>
          clear Q7
          obtain ⟨j, rfl, hj, hgj, Q⟩ := hrel
          by_cases hjj2 : j < jj
          · have hjI : (j : Int) < (jj : Int) := by omega
            have hjB : wrap64 ((j : Int) + 1) = (j : Int) + 1 := IntWalk.wrap64_in _ (by have := HB.out; omega)
            have HI : Hid (j < jj ∧ jj - j ≤ gk) := ⟨hjj2, hgj⟩
            obtain ⟨S', O'⟩ := Q.out
            have PN := unpin_own O' (by have := HB.out; omega) 1
            rw [sP_unpin, show i - j - 1 = i - (j + 1) by omega] at PN
            replace PN := PN.mono (fun e w' h => by
              obtain ⟨h1, S2, h2, -, -⟩ := h
              exact (⟨h1, ⟨S2, h2⟩⟩ : e = .returned (.tuple #[]) ∧ Hid (∃ S', OwnP w.heap.size p w w' S' (sP false (i - (j + 1))) i)))
            clear O' Q hj hgj hjj2
            go_wp2_with fail
            refine PN.mono ?_
            rintro e w6 ⟨rfl, Q6⟩
            clear PN
            obtain ⟨f1, f2⟩ := HI.out
            go_wp2_with fail
            go_roundg (jj - (j + 1))
            case rel => exact ⟨j + 1, by go_num, by omega, Nat.le_refl _, Q6⟩
            case measure => omega
          · obtain rfl : j = jj := by omega
            clear hj hgj hjj2
            obtain ⟨S8, O8⟩ := Q.out
            clear Q
            by_cases hm : j < i
            · obtain ⟨m, hm1⟩ : ∃ m, i - j = m + 1 := ⟨i - j - 1, by omega⟩
              rw [hm1] at O8
              have CL := clean_own O8
              rw [clean_held] at CL
              have hmI : (j : Int) < (i : Int) := by omega
              clear O8
              go_wp2_with fail
              refine CL.mono ?_
              rintro e w9 ⟨S9, rfl, O9, -, -⟩
              clear CL
              have TN := now_own O9.own
              have RD := read_own O9.own ⟨#[97]⟩ 2 (by show (1 : Nat) ≤ _; unfold maxLen; omega)
              rw [show readP (sP false (m + 1)) ⟨#[97]⟩ 2 = (⟨#[110, 101, 119]⟩, true) from rfl] at RD
              rw [show (sP false (m + 1)).stamp = 2 from rfl] at TN
              replace O9 : Hid _ := O9
              go_wp2_with fail
              refine TN.mono ?_
              rintro e w10 ⟨rfl, rfl⟩
              clear TN
              go_wp2_with fail
              refine RD.mono ?_
              rintro e w11 ⟨rfl, hb11⟩
              clear RD
              have O11 := O9.out.later hb11
              clear O9 hb11
              have RD := read_own O11.own ⟨#[97]⟩ 1 (by show (1 : Nat) ≤ _; unfold maxLen; omega)
              rw [show readP (sP false (m + 1)) ⟨#[97]⟩ 1 = (⟨#[111, 108, 100]⟩, true) from rfl] at RD
              replace O11 : Hid _ := O11
              go_wp2_with fail
              refine RD.mono ?_
              rintro e w12 ⟨rfl, hb12⟩
              clear RD
              have O12 := O11.out.later hb12
              have CN := count_own O12.own
              rw [show (sP false (m + 1)).v.length = 2 from rfl] at CN
              have hex : Hid (Below w.heap.size w w12) := O12.own.below
              clear O11 O12 hb12
              go_wp2_with fail
              refine CN.mono ?_
              rintro e w13 ⟨rfl, rfl⟩
              clear CN
              go_wp2_with fail
              go_ret
              exact ⟨rfl, hex.out⟩
            · rw [show i - j = 0 by omega] at O8
              have CL := clean_own O8
              rw [show cleanP (sP false 0) = (⟨100, 2, [⟨wN false, 2⟩], []⟩, 1) by kernel_rfl] at CL
              have hmI : ¬ ((j : Int) < (i : Int)) := by omega
              clear O8 hm
              go_wp2_with fail
              refine CL.mono ?_
              rintro e w9 ⟨S9, rfl, O9, -, -⟩
              clear CL
              have TN := now_own O9.own
              have RD := read_own O9.own ⟨#[97]⟩ 2 (by show (1 : Nat) ≤ _; unfold maxLen; omega)
              rw [show readP ⟨100, 2, [⟨wN false, 2⟩], []⟩ ⟨#[97]⟩ 2 = (⟨#[110, 101, 119]⟩, true) from rfl] at RD
              replace O9 : Hid _ := O9
              go_wp2_with fail
              refine TN.mono ?_
              rintro e w10 ⟨rfl, rfl⟩
              clear TN
              go_wp2_with fail
              refine RD.mono ?_
              rintro e w11 ⟨rfl, hb11⟩
              clear RD
              have O11 := O9.out.later hb11
              clear O9 hb11
              have CN := count_own O11.own
              rw [show (⟨100, 2, [⟨wN false, 2⟩], []⟩ : Sto).v.length = 1 from rfl] at CN
              have hex : Hid (Below w.heap.size w w11) := O11.own.below
              clear O11
              go_wp2_with fail
              refine CN.mono ?_
              rintro e w13 ⟨rfl, rfl⟩
              clear CN
              go_wp2_with fail
              go_ret
              exact ⟨rfl, hex.out⟩
      · have CM := commit_oneP (O0.later (below_new wr (.cells #[.string ⟨#[97]⟩, .string ⟨#[]⟩, .bool true] 54))) ⟨⟨#[97]⟩, ⟨#[]⟩, true⟩ ⟨by show (1 : Nat) ≤ _; omega, by show (0 : Nat) ≤ _; omega⟩ (by omega) (by show (1 : Int) ≤ _; omega)
        rw [show commitP (s1 i) [⟨⟨#[97]⟩, ⟨#[]⟩, true⟩] = (sP true i, 2, 0) from s1_commit true i, show (wr.alloc (.cells #[.string ⟨#[97]⟩, .string ⟨#[]⟩, .bool true] 54)).heap.size = wr.heap.size + 1 by simp] at CM
        replace CM := CM.mono (fun e w' h => by
          obtain ⟨S', h1, h2, h3⟩ := h
          exact (⟨h1, ⟨S', h2⟩⟩ : e = .returned (.tuple #[.int .i64 2, .int .i64 0]) ∧ Hid (∃ S', OwnP w.heap.size p w w' S' (sP true i) i)))
        clear O0 ht0
        go_wp2_with fail
        refine CM.mono ?_
        rintro e w7 ⟨rfl, Q7⟩
        clear CM
        go_wp2_with fail
        replace Q7 : Hid (∃ S', OwnP w.heap.size p w w7 S' (sP true (i - 0)) i) := Q7
        go_loopg [12] jj (fun kx s12 wr => ∃ j : Nat, s12 = .int .i64 j ∧ j ≤ jj ∧ jj - j ≤ kx ∧ Hid (∃ S', OwnP w.heap.size p w wr S' (sP true (i - j)) i))
        case atStart => exact ⟨0, rfl, Nat.zero_le _, by omega, Q7⟩
        case round =>
          clear Q7
          obtain ⟨j, rfl, hj, hgj, Q⟩ := hrel
          by_cases hjj2 : j < jj
          · have hjI : (j : Int) < (jj : Int) := by omega
            have hjB : wrap64 ((j : Int) + 1) = (j : Int) + 1 := IntWalk.wrap64_in _ (by have := HB.out; omega)
            have HI : Hid (j < jj ∧ jj - j ≤ gk) := ⟨hjj2, hgj⟩
            obtain ⟨S', O'⟩ := Q.out
            have PN := unpin_own O' (by have := HB.out; omega) 1
            rw [sP_unpin, show i - j - 1 = i - (j + 1) by omega] at PN
            replace PN := PN.mono (fun e w' h => by
              obtain ⟨h1, S2, h2, -, -⟩ := h
              exact (⟨h1, ⟨S2, h2⟩⟩ : e = .returned (.tuple #[]) ∧ Hid (∃ S', OwnP w.heap.size p w w' S' (sP true (i - (j + 1))) i)))
            clear O' Q hj hgj hjj2
            go_wp2_with fail
            refine PN.mono ?_
            rintro e w6 ⟨rfl, Q6⟩
            clear PN
            obtain ⟨f1, f2⟩ := HI.out
            go_wp2_with fail
            go_roundg (jj - (j + 1))
            case rel => exact ⟨j + 1, by go_num, by omega, Nat.le_refl _, Q6⟩
            case measure => omega
          · obtain rfl : j = jj := by omega
            clear hj hgj hjj2
            obtain ⟨S8, O8⟩ := Q.out
            clear Q
            by_cases hm : j < i
            · obtain ⟨m, hm1⟩ : ∃ m, i - j = m + 1 := ⟨i - j - 1, by omega⟩
              rw [hm1] at O8
              have CL := clean_own O8
              rw [clean_held] at CL
              have hmI : (j : Int) < (i : Int) := by omega
              clear O8
              go_wp2_with fail
              refine CL.mono ?_
              rintro e w9 ⟨S9, rfl, O9, -, -⟩
              clear CL
              have TN := now_own O9.own
              have RD := read_own O9.own ⟨#[97]⟩ 2 (by show (1 : Nat) ≤ _; unfold maxLen; omega)
              rw [show readP (sP true (m + 1)) ⟨#[97]⟩ 2 = (⟨#[]⟩, false) from rfl] at RD
              rw [show (sP true (m + 1)).stamp = 2 from rfl] at TN
              replace O9 : Hid _ := O9
              go_wp2_with fail
              refine TN.mono ?_
              rintro e w10 ⟨rfl, rfl⟩
              clear TN
              go_wp2_with fail
              refine RD.mono ?_
              rintro e w11 ⟨rfl, hb11⟩
              clear RD
              have O11 := O9.out.later hb11
              clear O9 hb11
              have RD := read_own O11.own ⟨#[97]⟩ 1 (by show (1 : Nat) ≤ _; unfold maxLen; omega)
              rw [show readP (sP true (m + 1)) ⟨#[97]⟩ 1 = (⟨#[111, 108, 100]⟩, true) from rfl] at RD
              replace O11 : Hid _ := O11
              go_wp2_with fail
              refine RD.mono ?_
              rintro e w12 ⟨rfl, hb12⟩
              clear RD
              have O12 := O11.out.later hb12
              have CN := count_own O12.own
              rw [show (sP true (m + 1)).v.length = 2 from rfl] at CN
              have hex : Hid (Below w.heap.size w w12) := O12.own.below
              clear O11 O12 hb12
              go_wp2_with fail
              refine CN.mono ?_
              rintro e w13 ⟨rfl, rfl⟩
              clear CN
              go_wp2_with fail
              go_ret
              exact ⟨rfl, hex.out⟩
            · rw [show i - j = 0 by omega] at O8
              have CL := clean_own O8
              rw [show cleanP (sP true 0) = (⟨100, 2, [], []⟩, 2) by kernel_rfl] at CL
              have hmI : ¬ ((j : Int) < (i : Int)) := by omega
              clear O8 hm
              go_wp2_with fail
              refine CL.mono ?_
              rintro e w9 ⟨S9, rfl, O9, -, -⟩
              clear CL
              have TN := now_own O9.own
              have RD := read_own O9.own ⟨#[97]⟩ 2 (by show (1 : Nat) ≤ _; unfold maxLen; omega)
              rw [show readP ⟨100, 2, [], []⟩ ⟨#[97]⟩ 2 = (⟨#[]⟩, false) from rfl] at RD
              replace O9 : Hid _ := O9
              go_wp2_with fail
              refine TN.mono ?_
              rintro e w10 ⟨rfl, rfl⟩
              clear TN
              go_wp2_with fail
              refine RD.mono ?_
              rintro e w11 ⟨rfl, hb11⟩
              clear RD
              have O11 := O9.out.later hb11
              clear O9 hb11
              have CN := count_own O11.own
              rw [show (⟨100, 2, [], []⟩ : Sto).v.length = 0 from rfl] at CN
              have hex : Hid (Below w.heap.size w w11) := O11.own.below
              clear O11
              go_wp2_with fail
              refine CN.mono ?_
              rintro e w13 ⟨rfl, rfl⟩
              clear CN
              go_wp2_with fail
              go_ret
              exact ⟨rfl, hex.out⟩

/-! ### The row's step -/
set_option maxRecDepth 100000 in
theorem lifted (os : Os) (started : os.Started) (H : Type) (enc : TypeId × Value → H) :
    ReturnsInHanded {} Try.checked os 8 .any (Rows.storePinsSpec.pre6 enc Try.prog Try.f8 Rows.storePinsRow.domain false) (Rows.storePinsSpec.post enc Try.prog Try.f8 false true false false) := by
  refine returnsInHanded_of_change (C := Try.checked) own started (by kernel_rfl) Try.func8
    (ChangeSpec.witness6 (enc := enc) (C := Try.checked) false ⟨#[], #[.int .i64 0, .int .i64 0, .bool false], []⟩ 8 (by kernel_rfl) (by kernel_rfl) (by kernel_rfl) (by kernel_rfl)) ?_
  intro W base args ds gs before hval0 hW hcnd _
  have hval : ∀ (j : Nat) t v, Try.f8.params[j]? = some t → args[j]? = some v → Value.okWide Try.prog W .any base t v := hval0
  have hW' := hW
  obtain ⟨p, q, hA0, hV, rfl, hfz, hnd⟩ := hW
  have hA : DataW.TrodAll enc Try.prog W 0 (fun _ => true) true Try.f8.params.toList args.toList ds p := hA0
  rw [Try.params8] at hA hval
  obtain ⟨v0, vs0, d0, ds0, p0, q0, hargs, rfl, rfl, h0, r0⟩ := trodAll_cons hA
  obtain ⟨v1, vs1, d1, ds1, p1, q1, rfl, rfl, rfl, h1, r1⟩ := trodAll_cons r0
  obtain ⟨v2, vs2, d2, ds2, p2, q2, rfl, rfl, rfl, h2, r2⟩ := trodAll_cons r1
  obtain ⟨rfl, rfl, rfl⟩ := trodAll_nil r2
  obtain rfl : args = #[v0, v1, v2] := by cases args; simp_all
  obtain ⟨rfl, rfl⟩ := trodVars_none hV
  obtain ⟨a0, rfl, rfl, rfl, w0⟩ := open_int Try.underlying3 (hval 0 3 v0 rfl rfl) h0
  obtain ⟨a1, rfl, rfl, rfl, w1⟩ := open_int Try.underlying3 (hval 1 3 v1 rfl rfl) h1
  obtain ⟨a2, rfl, rfl, rfl⟩ := open_bool Try.underlying4 (hval 2 4 v2 rfl rfl) h2
  clear hA0 hval0
  simp only [List.append_nil, List.nil_append] at hW'
  refine (walk a0 w0 a1 w1 a2 rfl W).mono fun e W' ⟨he, hg⟩ => ?_
  subst he
  exact ⟨_, rfl, _, _, _, [], _, [], hW', (trodAll_cons_mk (shut_bool Try.underlying4 _) trodAll_mk0), (trodAll_cons_mk (shut_int Try.underlying3 w0) (trodAll_cons_mk (shut_int Try.underlying3 w1) (trodAll_cons_mk (shut_bool Try.underlying4 _) trodAll_mk0))), rfl, hg.frame _, fun h => by cases h⟩

theorem row : Rows.StorePinsSaid :=
  OpenClaim.holds_of_wide 8 Try.f8 rfl rfl rfl rfl rfl rfl rfl ⟨rfl, rfl, rfl, rfl, rfl⟩ rfl rfl rfl rfl rfl (by kernel_rfl) Try.func8 (by kernel_rfl)
    (of_decide_eq_true (by kernel_rfl)) (by unfold Func.isWrapper; first | (rw [if_pos (by decide +kernel)]; kernel_rfl) | (rw [if_neg (by decide +kernel)]; exact ⟨rfl, rfl⟩))
    (fun os started H enc _ => lifted os started H enc)

/-- The statement. -/
theorem proved : Rows.StorePinsSaid :=
  row
#print axioms proved
end Go.Proofs.Ytcnajkclbmddgaa.storePins
