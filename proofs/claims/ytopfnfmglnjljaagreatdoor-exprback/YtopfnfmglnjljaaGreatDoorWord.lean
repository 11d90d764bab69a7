/- The contract of word. -/
import Derived.Test.YtopfnfmglnjljaaGreatDoorRun
namespace Go.Proofs.YtopfnfmglnjljaaGreatDoor
open Go.ChangeShapes Go.WideShapes Go.ChangeAt Go.RowKit
set_option linter.unusedVariables false
set_option linter.unusedSimpArgs false

def digitN (x : Nat) : Bool := digitR (x : Int)

theorem digitB_N (c : UInt8) : digitB c = digitN c.toNat := by
  unfold digitB digitN digitR
  congr 1 <;> (rw [decide_eq_decide]; omega)

theorem bs_get {s : Bs} {pos : Nat} {c : UInt8} (h : s[pos]? = some c) : ∃ hp : pos < (bs s).size, (bs s)[pos]'hp = c := by
  obtain ⟨h1, h2⟩ := List.getElem?_eq_some_iff.1 h
  refine ⟨by rw [bs_size]; exact h1, ?_⟩
  rw [← h2]
  exact (show s.toArray[pos]'(by simpa using h1) = s[pos] by simp)

theorem idx_all (t : Bs) (ha : ∀ c ∈ t, c.toNat < 128) : ∀ (f pos : Nat), t.length ≤ pos + f → (Lib.idxFuncFrom digitN false (bs t) f pos = -1 ↔ (t.drop pos).all digitB = true)
  | 0, pos, h => by
    have : t.drop pos = [] := List.drop_eq_nil_of_le (by omega)
    simp [Lib.idxFuncFrom, this]
  | f + 1, pos, h => by
    unfold Lib.idxFuncFrom
    by_cases hp : pos < t.length
    · obtain ⟨c, hc⟩ : ∃ c, t[pos]? = some c := ⟨_, List.getElem?_eq_getElem hp⟩
      obtain ⟨hp', e⟩ := bs_get hc
      have h128 := ha c (List.mem_of_getElem? hc)
      have hd := decode_ascii (bs t) pos hp' (by rw [e]; exact h128)
      rw [if_pos hp', hd, e]
      obtain ⟨h1, h2⟩ := List.getElem?_eq_some_iff.1 hc
      rw [List.drop_eq_getElem_cons h1, h2, List.all_cons, digitB_N]
      cases hD : digitN c.toNat with
      | true =>
        rw [if_neg (by simp), Bool.true_and]
        exact idx_all t ha f (pos + 1) (by omega)
      | false =>
        rw [if_pos rfl]
        simp
    · rw [if_neg (by rw [bs_size]; exact hp)]
      have : t.drop pos = [] := List.drop_eq_nil_of_le (by omega)
      simp [this]

theorem trim_all {t : Bs} (ha : ∀ c ∈ t, c.toNat < 128) (h : t.all digitB = true) : Lib.trimLeftF digitN (bs t) = ⟨#[]⟩ := by
  unfold Lib.trimLeftF Lib.idxFunc
  rw [if_pos ((idx_all t ha _ 0 (by rw [bs_size]; omega)).2 (by simpa using h))]

theorem trim_some {t : Bs} (ha : ∀ c ∈ t, c.toNat < 128) (h : t.all digitB = false) : 0 < (Lib.trimLeftF digitN (bs t)).size := by
  have hne : ¬ Lib.idxFuncFrom digitN false (bs t) (bs t).size 0 = -1 := fun e => by
    have := (idx_all t ha _ 0 (by rw [bs_size]; omega)).1 e
    rw [List.drop_zero, h] at this
    cases this
  have hr := Lib.idxFuncFrom_range digitN false (bs t) (bs t).size 0
  unfold Lib.trimLeftF Lib.idxFunc
  rw [if_neg hne]
  rcases hr with e | ⟨h1, h2⟩
  · exact absurd e hne
  · rw [ByteArray.size_extract]
    omega

theorem digit_runes (w : World) : PredAtRunes Tryz.prog 119 #[] digitN w := by
  intro W x _ _
  exact (digit_any (x : Int) W).mono fun e w' ⟨h1, h2⟩ => ⟨h1, 0, by rw [h2]; rfl⟩

theorem isEmpty_of {B : ByteArray} (h : 0 < B.size) : B.toList.isEmpty = false := by
  rw [ByteArray.toList_eq]
  have : B.data.toList.length = B.size := by show B.data.toList.length = B.data.size; rw [Array.length_toList]
  cases hl : B.data.toList with
  | nil => rw [hl] at this; simp at this; omega
  | cons a l => rfl

theorem r_prefix (c : UInt8) (t : Bs) : Go.Lib.hasPrefix (c :: t) [114] = decide (c = 114) := by
  unfold Go.Lib.hasPrefix
  simp [List.isPrefixOf]
  by_cases h : c = 114
  · subst h; simp
  · simp [h, Ne.symm h]

theorem r_trim (c : UInt8) (t : Bs) : Go.Lib.trimPrefix (c :: t) [114] = if c = 114 then t else c :: t := by
  unfold Go.Lib.trimPrefix
  rw [r_prefix]
  by_cases h : c = 114
  · subst h; rw [if_pos rfl]; rfl
  · rw [if_neg h, if_neg (by simpa using h)]

set_option maxHeartbeats 1600000 in
theorem word_any (s : Bs) (hs : ∀ c ∈ s, c.toNat < 128) (hl : s.length ≤ 35184372088832) (w : World) :
    Calls Tryz.prog 116 #[.string (bs s)] w fun e w' => e = .returned (.bool (wordP s)) ∧ Below w.heap.size w w' := by
  match s, hs, hl with
  | [], _, _ =>
    show Calls Tryz.prog 116 #[.string ⟨#[]⟩] w fun e w' => e = .returned (.bool false) ∧ Below w.heap.size w w'
    go_enter Tryz.func116, Tryz.ntmps116
    go_wp2
    go_ret
    exact ⟨rfl, Below.refl _ _⟩
  | c :: t, hs, hl =>
    have hsz : (bs (c :: t)).size = t.length + 1 := by rw [bs_size]; rfl
    obtain ⟨hp, hc⟩ := bs_get (s := c :: t) (pos := 0) (c := c) rfl
    have hne : (bs (c :: t)).toList.isEmpty = false := isEmpty_of (by omega)
    have D := fun W => digit_any (c.toNat : Int) W
    have hdd : digitR (c.toNat : Int) = digitB c := (digitB_N c).symm
    have hc128 : c.toNat < 128 := hs c (by simp)
    have ht : ∀ x ∈ t, x.toNat < 128 := fun x hx => hs x (by simp [hx])
    rw [hdd] at D
    have K := fun W => Tryz.strings_CutPrefix (bs (c :: t)) ⟨#[114]⟩ W
    have hT := fun W => Tryz.strings_TrimLeftFunc_runes 119 #[] (enters_of Tryz.func119 (by kernel_rfl) rfl) digitN (bs t) W (digit_runes W)
    simp only [bs_list, show (⟨#[114]⟩ : ByteArray).data.toList = [114] from rfl, r_prefix, r_trim] at K
    have hw : Hid (wordP (c :: t) = (decide (t.length + 1 ≤ 12) && !digitB c && !(decide (c = 114) && !t.isEmpty && t.all digitB))) := rfl
    clear hdd
    generalize hB : bs (c :: t) = B at *
    have HB : Hid (bs (c :: t) = B) := hB
    clear hB hs hl
    by_cases h12 : t.length + 1 ≤ 12
    · have h12' : (t.length : Int) + 1 ≤ 12 := by omega
      cases hdc : digitB c with
      | true =>
        rw [hdc] at D
        go_enter Tryz.func116, Tryz.ntmps116
        go_wp2_with (first | (go_at_call 119; refine (D _).mono ?_; rintro e w' ⟨rfl, rfl⟩))
        go_ret
        rw [hw.out, hdc]
        exact ⟨by simp, Below.refl _ _⟩
      | false =>
        rw [hdc] at D
        by_cases hr : c = 114
        · subst hr
          rw [show decide ((114 : UInt8) = 114) = true from rfl, if_pos rfl, show t.toArray = (bs t).data from rfl] at K
          match t, ht with
          | [], _ =>
            have e0 : (ByteArray.mk (bs []).data) = ⟨#[]⟩ := rfl
            rw [e0] at K
            go_enter Tryz.func116, Tryz.ntmps116
            go_wp2_with (first | (go_at_call 119; refine (D _).mono ?_; rintro e w' ⟨rfl, rfl⟩) | (go_at_call 90; refine (K _).mono ?_; rintro e w' ⟨rfl, rfl⟩))
            go_ret
            rw [hw.out, hdc]
            exact ⟨by simp, Below.refl _ _⟩
          | a :: t, ht =>
            have hne2 : (bs (a :: t)).toList.isEmpty = false := isEmpty_of (by rw [bs_size]; simp)
            cases hal : (a :: t).all digitB with
            | true =>
              rw [show (ByteArray.mk (bs (a :: t)).data) = bs (a :: t) from rfl] at K
              simp only [trim_all ht hal] at hT
              generalize bs (a :: t) = A at *
              go_enter Tryz.func116, Tryz.ntmps116
              go_wp2_with (first | (go_at_call 119; refine (D _).mono ?_; rintro e w' ⟨rfl, rfl⟩) | (go_at_call 90; refine (K _).mono ?_; rintro e w' ⟨rfl, rfl⟩) | (go_at_call 123; refine (hT _).mono ?_; rintro e w1 ⟨rfl, hb1⟩))
              go_ret
              rw [hw.out, hdc, hal]
              exact ⟨by simp, hb1⟩
            | false =>
              have hne3 := isEmpty_of (trim_some ht hal)
              rw [show (ByteArray.mk (bs (a :: t)).data) = bs (a :: t) from rfl] at K
              generalize Lib.trimLeftF digitN (bs (a :: t)) = A2 at *
              generalize bs (a :: t) = A at *
              go_enter Tryz.func116, Tryz.ntmps116
              go_wp2_with (first | (go_at_call 119; refine (D _).mono ?_; rintro e w' ⟨rfl, rfl⟩) | (go_at_call 90; refine (K _).mono ?_; rintro e w' ⟨rfl, rfl⟩) | (go_at_call 123; refine (hT _).mono ?_; rintro e w1 ⟨rfl, hb1⟩))
              go_ret
              rw [hw.out, hdc, hal]
              exact ⟨by simp; omega, hb1⟩
        · rw [decide_eq_false hr] at K hw
          go_enter Tryz.func116, Tryz.ntmps116
          go_wp2_with (first | (go_at_call 119; refine (D _).mono ?_; rintro e w' ⟨rfl, rfl⟩) | (go_at_call 90; refine (K _).mono ?_; rintro e w' ⟨rfl, rfl⟩))
          go_ret
          rw [hw.out, hdc]
          exact ⟨by simp; omega, Below.refl _ _⟩
    · have h12' : ¬ ((t.length : Int) + 1 ≤ 12) := by omega
      go_enter Tryz.func116, Tryz.ntmps116
      go_wp2_with (first | (go_at_call 119; refine (D _).mono ?_; rintro e w' ⟨rfl, rfl⟩))
      go_ret
      rw [hw.out, decide_eq_false h12]
      exact ⟨rfl, Below.refl _ _⟩
end Go.Proofs.YtopfnfmglnjljaaGreatDoor
