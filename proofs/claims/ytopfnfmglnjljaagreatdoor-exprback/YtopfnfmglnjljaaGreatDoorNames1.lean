/- An expression's names: as the program tells them, as the reference does; the reference's has. -/
import Derived.Test.YtopfnfmglnjljaaGreatDoorKids
import Derived.Deep.AppendLies
namespace Go.Proofs.YtopfnfmglnjljaaGreatDoor.Nn
open Go.Proofs.YtopfnfmglnjljaaGreatDoor
open Go.ChangeShapes Go.WideShapes Go.ChangeAt Go.RowKit
set_option linter.unusedVariables false
set_option linter.unusedSimpArgs false

/-- One more, if it is not there yet. -/
def addN (acc : List Bs) (s : Bs) : List Bs := if acc.contains s then acc else acc ++ [s]

/-- Behind these, from left to right. -/
def wordsN (acc : List Bs) : Ex → List Bs
  | .name s => addN acc s
  | .neg x => wordsN acc x
  | .two _ x y => wordsN (wordsN acc x) y
  | _ => acc

/-- The reference's. -/
def refN : Ex → List Bs
  | .name s => [s]
  | .neg x => (refN x).foldl addN []
  | .two _ x y => (refN y).foldl addN ((refN x).foldl addN [])
  | _ => []

theorem mem_add (acc : List Bs) (s t : Bs) : t ∈ addN acc s ↔ t ∈ acc ∨ t = s := by
  unfold addN
  split
  · rename_i h
    have h : s ∈ acc := by simpa using h
    constructor
    · exact .inl
    · rintro (h' | rfl)
      · exact h'
      · exact h
  · simp
theorem mem_fold (s : Bs) : ∀ (l acc : List Bs), (s ∈ acc ∨ s ∈ l) → s ∈ l.foldl addN acc
  | [], acc, h => by simpa using h
  | t :: l, acc, h => by
    refine mem_fold s l (addN acc t) ?_
    rw [mem_add]
    rcases h with h | h
    · exact .inl (.inl h)
    · rcases List.mem_cons.1 h with rfl | h
      · exact .inl (.inr rfl)
      · exact .inr h
theorem add_in {acc : List Bs} {s : Bs} (h : s ∈ acc) : addN acc s = acc := by unfold addN; rw [if_pos (by simpa using h)]
theorem fold_add (acc l : List Bs) (s : Bs) : (addN l s).foldl addN acc = addN (l.foldl addN acc) s := by
  by_cases h : s ∈ l
  · rw [add_in h, add_in (mem_fold s l acc (.inr h))]
  · have e : addN l s = l ++ [s] := by unfold addN; rw [if_neg (by simpa using h)]
    rw [e, List.foldl_append]
    rfl
theorem fold_fold : ∀ (m l acc : List Bs), (m.foldl addN l).foldl addN acc = m.foldl addN (l.foldl addN acc)
  | [], l, acc => rfl
  | s :: m, l, acc => by
    show (m.foldl addN (addN l s)).foldl addN acc = m.foldl addN (addN (l.foldl addN acc) s)
    rw [fold_fold m (addN l s) acc, fold_add]

theorem words_fold : ∀ (x : Ex) (acc : List Bs), (refN x).foldl addN acc = wordsN acc x
  | .zero, acc => rfl
  | .num _, acc => rfl
  | .here, acc => rfl
  | .name s, acc => rfl
  | .neg x, acc => by
    show ((refN x).foldl addN []).foldl addN acc = wordsN acc x
    rw [fold_fold]
    exact words_fold x acc
  | .two k x y, acc => by
    show ((refN y).foldl addN ((refN x).foldl addN [])).foldl addN acc = wordsN (wordsN acc x) y
    rw [fold_fold, fold_fold, ← words_fold x acc, ← words_fold y]
    rfl

theorem refN_words (x : Ex) : refN x = wordsN [] x := by
  cases x with
  | name s => simp [refN, wordsN, addN]
  | neg x => exact words_fold x []
  | two k x y => show (refN y).foldl addN ((refN x).foldl addN []) = _; rw [words_fold x, words_fold y]; rfl
  | _ => rfl

theorem refN_kids (x : Ex) (h : ∀ s, x ≠ .name s) : refN x = x.kids.foldl (fun acc c => (refN c).foldl addN acc) [] := by
  cases x with
  | name s => exact absurd rfl (h s)
  | _ => rfl

theorem add_len (acc : List Bs) (s : Bs) : (addN acc s).length ≤ acc.length + 1 := by unfold addN; split <;> simp
theorem words_len : ∀ (x : Ex) (acc : List Bs), (wordsN acc x).length ≤ acc.length + x.size
  | .zero, acc => by simp [wordsN]
  | .num _, acc => by simp [wordsN]
  | .here, acc => by simp [wordsN]
  | .name s, acc => by have := add_len acc s; simp [wordsN, Ex.size]; omega
  | .neg x, acc => by have := words_len x acc; simp [wordsN, Ex.size]; omega
  | .two k x y, acc => by have := words_len x acc; have := words_len y (wordsN acc x); simp [wordsN, Ex.size]; omega

/-- A slice of texts. -/
def StrsAt (w : World) (v : Value) (l : List Bs) : Prop :=
  ∃ p cap, v = .slice p l.length cap ∧ (l ≠ [] → ∃ g o, p = some ⟨g, o, none⟩ ∧ ∀ (i : Nat) s, l[i]? = some s → w.cell? ⟨g, o + i, none⟩ = some (.string (bs s)))
theorem StrsAt.later {w w' : World} {v : Value} {l : List Bs} (h : StrsAt w v l) (hb : Below w.heap.size w w') : StrsAt w' v l := by
  obtain ⟨p, cap, rfl, h⟩ := h
  refine ⟨p, cap, rfl, fun hn => ?_⟩
  obtain ⟨g, o, e, h2⟩ := h hn
  exact ⟨g, o, e, fun i s hs => kept_cell hb (h2 i s hs)⟩

def strs (l : List Bs) : List Value := l.map fun s => .string (bs s)

theorem strs_of_own {w : World} {base : Nat} {t : TypeId} {v : Value} {l : List Bs} (h : w.ownsRow base t 1 v l.length (strs l)) : StrsAt w v l := by
  rcases h.2 with ⟨rfl, h0⟩ | ⟨g, cap, cur, rfl, _, hb, hc, _, _, htk⟩
  · exact ⟨none, 0, by rw [h0], fun hn => absurd (List.length_eq_zero_iff.1 h0) hn⟩
  · refine ⟨_, _, rfl, fun hn => ⟨g, 0, rfl, fun i u hu => ?_⟩⟩
    rw [Nat.zero_add, World.cell?]
    have hu' : cur[i]? = some (.string (bs u)) := by
      have hi : i < l.length := (List.getElem?_eq_some_iff.1 hu).1
      have := congrArg (·[i]?) htk
      simp only [strs, List.getElem?_take, List.getElem?_map, hu, Option.map_some] at this
      rw [if_pos (by omega)] at this
      simpa using this
    simp [hb, hu']

set_option maxHeartbeats 1600000 in
set_option maxRecDepth 20000 in
theorem has_any (l : List Bs) (hl : l.length ≤ 1000000) (s : Bs) (v : Value) (w : World) (h : StrsAt w v l) :
    Calls Tryz.prog 31 #[v, .string (bs s)] w fun e w' => e = .returned (.bool (l.contains s)) ∧ w' = w := by
  obtain ⟨p, cap, rfl, hc⟩ := h
  obtain ⟨r, hr⟩ : ∃ r, r = l.contains s := ⟨_, rfl⟩
  rw [← hr]
  have HR : Hid (r = l.contains s) := hr
  clear hr
  go_enter Tryz.func31, Tryz.ntmps31
  go_wp2_with fail
  go_loopw [5] (fun i wr => ∃ j : Nat, j ≤ l.length ∧ i = .int .i64 j ∧ wr = w ∧ Hid ((l.take j).contains s = false)) (fun i _ => l.length - (intOf i).toNat)
  case atStart => exact ⟨0, by omega, rfl, rfl, by simp [Hid]⟩
  case round =>
    obtain ⟨j, hj, rfl, rfl, hI⟩ := hrel
    by_cases hjn : j < l.length
    · obtain ⟨t, ht⟩ : ∃ t, l[j]? = some t := ⟨_, List.getElem?_eq_getElem hjn⟩
      obtain ⟨g, o, rfl, hcc⟩ := hc (by rintro rfl; simp at hjn)
      have cz := hcc j t ht
      have hjI : (j : Int) < (l.length : Int) := by omega
      by_cases hts : t = s
      · subst hts
        obtain rfl : r = true := by rw [HR.out]; simp; exact List.mem_of_getElem? ht
        have e1 : ((bs t).toList == (bs t).toList) = true := by simp
        clear hc hcc HR
        go_wp2_with fail
        go_ret
        exact ⟨rfl, rfl⟩
      · have e1 : ((bs t).toList == (bs s).toList) = false := by simp only [ByteArray.toList_eq, bs_list]; simpa using hts
        have HS : Hid ((l.take (j + 1)).contains s = false) := by
          have := hI.out
          rw [Hid, List.take_add_one, ht]
          simp at this ⊢
          exact ⟨this, fun e => hts e.symm⟩
        clear hc hcc HR
        go_wp2_with fail
        go_roundw
        case rel => exact ⟨j + 1, by omega, by simp, trivial, HS⟩
        case measure => simp [intOf]; omega
    · obtain rfl : j = l.length := by omega
      have hjI : ¬ (l.length : Int) < (l.length : Int) := by omega
      obtain rfl : r = false := by have := hI.out; rw [List.take_length] at this; rw [HR.out, this]
      clear HR hc
      go_wp2_with fail
      go_ret
      exact ⟨rfl, rfl⟩
end Go.Proofs.YtopfnfmglnjljaaGreatDoor.Nn
