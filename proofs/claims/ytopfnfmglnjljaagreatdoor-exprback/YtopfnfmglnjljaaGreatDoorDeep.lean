/- Signs and brackets in one another: what parseP says of them. Nothing of Go stands here. -/
import Derived.Test.YtopfnfmglnjljaaGreatDoorEval
namespace Go.Proofs.YtopfnfmglnjljaaGreatDoor.Dp
set_option linter.unusedVariables false
set_option linter.unusedSimpArgs false

/-- true: a sign ahead; false: a bracket. -/
def preT : List Bool → Bs
  | [] => []
  | true :: l => 45 :: 32 :: preT l
  | false :: l => 40 :: preT l

def postT : List Bool → Bs
  | [] => []
  | true :: l => postT l
  | false :: l => postT l ++ [41]

def deepX : List Bool → Ex
  | [] => .num 7
  | true :: l => .neg (deepX l)
  | false :: l => deepX l

/-- Behind an expression: nothing, or a bracket. -/
def Ends (r : Bs) : Prop := r = [] ∨ ∃ t, r = 41 :: t

theorem took_ends {r : Bs} (h : Ends r) (c : UInt8) (l : Bs) (hc : c ≠ 41) : tookP r (c :: l) = (r, false) := by
  obtain rfl | ⟨t, rfl⟩ := h
  · simp [tookP, skipP, Go.Lib.trimLeftB, Go.Lib.trimPrefix, Go.Lib.hasPrefix]
  · have e : (c == 41) = false := by simpa using hc
    simp [tookP, skipP, Go.Lib.trimLeftB, Go.Lib.trimPrefix, Go.Lib.hasPrefix, List.isPrefixOf, e]

theorem sign_head (k : Nat) : ∃ c l, signOf k = c :: l ∧ c ≠ 41 := by
  unfold signOf
  repeat' split
  all_goals exact ⟨_, _, rfl, by decide⟩

theorem between_ends {r : Bs} (h : Ends r) : ∀ ks, betweenP ks r = (none, r)
  | [] => rfl
  | k :: ks => by
    obtain ⟨c, l, e, hc⟩ := sign_head k
    unfold betweenP
    rw [e, took_ends h c l hc, if_neg (by simp)]
    exact between_ends h ks

theorem row_ends {p : Rd} {ks : List Nat} {s r : Bs} {x : Ex} (h : p s = some (x, r)) (hr : Ends r) : rowP p ks s = some (x, r) := by
  unfold rowP
  rw [h]
  simp only
  unfold rowGo
  rw [between_ends hr]

theorem row_none {p : Rd} {ks : List Nat} {s : Bs} (h : p s = none) : rowP p ks s = none := by
  unfold rowP
  rw [h]

theorem ors_ends {p : Rd} {s r : Bs} {x : Ex} (h : p s = some (x, r)) (hr : Ends r) : orsP p s = some (x, r) :=
  row_ends (row_ends (row_ends (row_ends (row_ends h hr) hr) hr) hr) hr

theorem ors_none {p : Rd} {s : Bs} (h : p s = none) : orsP p s = none :=
  row_none (row_none (row_none (row_none (row_none h))))

theorem took_blank (s t : Bs) : tookP (32 :: s) t = tookP s t := by
  simp [tookP, skipP, Go.Lib.trimLeftB]

theorem single_blank (d : Nat) (s : Bs) : singleP d (32 :: s) = singleP d s := by
  cases d <;> simp only [singleP, took_blank]

theorem took_head (c : UInt8) (s : Bs) (hc : c ≠ 32) : tookP (c :: s) [c] = (s, true) := by
  simp [tookP, skipP, Go.Lib.trimLeftB, Go.Lib.trimPrefix, Go.Lib.hasPrefix, hc]

theorem took_not (c a : UInt8) (s : Bs) (hc : c ≠ 32) (ha : c ≠ a) : tookP (c :: s) [a] = (c :: s, false) := by
  have e : (a == c) = false := by simpa using Ne.symm ha
  simp [tookP, skipP, Go.Lib.trimLeftB, Go.Lib.trimPrefix, Go.Lib.hasPrefix, hc, List.isPrefixOf, e]

theorem leaf7 : leafP [55] = some (.num 7) := by kernel_rfl

theorem take7 {r : Bs} (hr : Ends r) : (55 :: r).takeWhile runB = [55] ∧ (55 :: r).dropWhile runB = r := by
  have h1 : runB 55 = true := by decide
  have h2 : runB 41 = false := by decide
  obtain rfl | ⟨t, rfl⟩ := hr <;> simp [List.takeWhile, List.dropWhile, h1, h2]

theorem single7 (d : Nat) {r : Bs} (hr : Ends r) : singleP d (55 :: r) = some (.num 7, r) := by
  have a := took_not 55 45 r (by decide) (by decide)
  have b := took_not 55 40 r (by decide) (by decide)
  have c := took_not 55 46 r (by decide) (by decide)
  obtain ⟨t1, t2⟩ := take7 hr
  cases d <;> simp [singleP, a, b, c, t1, t2, leaf7]

theorem deep_some : ∀ (l : List Bool) (d : Nat) (r : Bs), l.length ≤ d → Ends r → singleP d (preT l ++ 55 :: (postT l ++ r)) = some (deepX l, r)
  | [], d, r, _, hr => by simpa [preT, postT, deepX] using single7 d hr
  | true :: l, d + 1, r, h, hr => by
    have a := took_head 45 (32 :: (preT l ++ 55 :: (postT l ++ r))) (by decide)
    have i := deep_some l d r (by simpa using h) hr
    simp only [preT, postT, deepX, List.cons_append, singleP, a, if_true, single_blank, i, Option.map_some]
  | false :: l, d + 1, r, h, hr => by
    have a := took_not 40 45 (preT l ++ 55 :: (postT l ++ 41 :: r)) (by decide) (by decide)
    have b := took_head 40 (preT l ++ 55 :: (postT l ++ 41 :: r)) (by decide)
    have i := ors_ends (deep_some l d (41 :: r) (by simpa using h) (.inr ⟨r, rfl⟩)) (.inr ⟨r, rfl⟩)
    have c := took_head 41 r (by decide)
    simp [preT, postT, deepX, singleP, a, b, i, c]

theorem deep_none : ∀ (l : List Bool) (d : Nat) (r : Bs), d < l.length → singleP d (preT l ++ r) = none
  | true :: l, 0, r, _ => by
    have a := took_head 45 (32 :: (preT l ++ r)) (by decide)
    simp [preT, singleP, a]
  | false :: l, 0, r, _ => by
    have a := took_not 40 45 (preT l ++ r) (by decide) (by decide)
    have b := took_head 40 (preT l ++ r) (by decide)
    simp [preT, singleP, a, b]
  | true :: l, d + 1, r, h => by
    have a := took_head 45 (32 :: (preT l ++ r)) (by decide)
    have i := deep_none l d r (by simpa using h)
    simp [preT, singleP, a, single_blank, i]
  | false :: l, d + 1, r, h => by
    have a := took_not 40 45 (preT l ++ r) (by decide) (by decide)
    have b := took_head 40 (preT l ++ r) (by decide)
    have i := ors_none (deep_none l d r (by simpa using h))
    simp [preT, singleP, a, b, i]

theorem parse_deep (l : List Bool) : (l.length ≤ 12 → parseP (preT l ++ 55 :: postT l) = some (deepX l)) ∧ (12 < l.length → parseP (preT l ++ 55 :: postT l) = none) := by
  constructor
  · intro h
    have i := ors_ends (deep_some l 12 [] h (.inl rfl)) (.inl rfl)
    rw [List.append_nil] at i
    unfold parseP
    rw [i]
    simp [skipP, Go.Lib.trimLeftB]
  · intro h
    unfold parseP
    rw [ors_none (deep_none l 12 _ h)]

theorem preT_append : ∀ l m, preT (l ++ m) = preT l ++ preT m
  | [], m => rfl
  | true :: l, m => by simp [preT, preT_append l m]
  | false :: l, m => by simp [preT, preT_append l m]

theorem postT_eq : ∀ l, postT l = List.replicate (l.countP (! ·)) 41
  | [] => rfl
  | true :: l => by simp [postT, postT_eq l]
  | false :: l => by simp [postT, postT_eq l, ← List.replicate_succ']
end Go.Proofs.YtopfnfmglnjljaaGreatDoor.Dp
