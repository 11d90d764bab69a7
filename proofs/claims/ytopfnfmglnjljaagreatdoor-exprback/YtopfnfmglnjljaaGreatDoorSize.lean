/- The law's own size and Few: raw expressions that are not too much. -/
import Derived.Test.YtopfnfmglnjljaaGreatDoorRaw
namespace Go.Proofs.YtopfnfmglnjljaaGreatDoor
open Go.ChangeShapes Go.WideShapes Go.ChangeAt Go.RowKit
set_option linter.unusedVariables false
set_option linter.unusedSimpArgs false

def Fo.drop : Nat → Fo → Fo
  | 0, l => l
  | _ + 1, .nil => .nil
  | j + 1, .cons _ _ _ r => r.drop j

/-- How many there are in all. -/
def Fo.count : Fo → Nat
  | .nil => 0
  | .cons _ _ l r => l.count + r.count + 1

/-- How deep they are in one another. -/
def Fo.deep : Fo → Nat
  | .nil => 0
  | .cons _ _ l r => max (l.deep + 1) r.deep

theorem Fo.drop_len : ∀ (l : Fo), l.drop l.len = .nil
  | .nil => rfl
  | .cons _ _ _ r => by simp [Fo.len, Fo.drop, Fo.drop_len r]

theorem Fo.drop_cons : ∀ (j : Nat) (l : Fo), j < l.len → ∃ k n c, l.drop j = .cons k n c (l.drop (j + 1)) ∧ c.count < l.count
  | _, .nil, h => by simp [Fo.len] at h
  | 0, .cons k n c r, _ => ⟨k, n, c, by simp [Fo.drop], by simp [Fo.count]; omega⟩
  | j + 1, .cons k n c r, h => by
    obtain ⟨k', n', c', e, hc⟩ := Fo.drop_cons j r (by simp [Fo.len] at h; omega)
    exact ⟨k', n', c', by simp [Fo.drop, e], by simp [Fo.count]; omega⟩

theorem RawAt.drop {w : World} {b : Nat} : ∀ (j : Nat) {l : Fo} {o : Nat}, RawAt w l b o → RawAt w (l.drop j) b (o + j * 3)
  | 0, _, _, h => by simpa [Fo.drop] using h
  | _ + 1, .nil, _, _ => trivial
  | j + 1, .cons _ _ _ r, o, ⟨_, _, _, h⟩ => by
    have := RawAt.drop j h
    rw [show o + 3 + j * 3 = o + (j + 1) * 3 by omega] at this
    exact this

set_option maxHeartbeats 1600000 in
set_option maxRecDepth 20000 in
theorem size_any : ∀ (N : Nat) (l : Fo), l.count < N → ∀ (d : Nat) (v : Value) (w : World), d ≤ 8 → RawsAt w v l →
    Calls Tryz.prog 23 #[v, .int .i64 d] w fun e w' => Below w.heap.size w w' ∧ ∃ m : Nat, e = .returned (.int .i64 m) ∧ m ≤ 1000 + 17 * (8 - d) ∧ (m ≤ 16 → l.count ≤ m ∧ l.deep ≤ 8 - d) := by
  intro N
  induction N with
  | zero => intro l h; omega
  | succ N ih =>
    intro l hN d v w hd hR
    by_cases h8 : d = 8
    · subst h8
      obtain ⟨p, cap, rfl, hm, hc⟩ := hR
      clear ih hc
      go_enter Tryz.func23, Tryz.ntmps23
      go_wp2_with fail
      go_ret
      exact ⟨Below.refl _ _, 1000, rfl, by omega, fun h => by omega⟩
    · have hd7 : (d : Int) ≤ 7 := by omega
      obtain ⟨p, cap, rfl, hm, hc⟩ := hR
      unfold maxLen at hm
      go_enter Tryz.func23, Tryz.ntmps23
      go_wp2_with fail
      go_loopw [5, 6] (fun n i wr => ∃ j m : Nat, j ≤ l.len ∧ i = .int .i64 j ∧ n = .int .i64 m ∧ Below w.heap.size w wr ∧ m ≤ 1000 + 17 * (8 - d) ∧ Hid (m ≤ 16 → l.count ≤ m + (l.drop j).count ∧ l.deep ≤ max (8 - d) (l.drop j).deep)) (fun n i _ => l.len - (intOf i).toNat)
      case atStart => exact ⟨0, 0, by omega, rfl, rfl, Below.refl _ _, by omega, fun _ => ⟨by simp [Fo.drop], by simp [Fo.drop]; omega⟩⟩
      case round =>
        obtain ⟨j, m, hj, rfl, rfl, hb, hmm, hI⟩ := hrel
        by_cases hjn : j < l.len
        · by_cases h16 : m ≤ 16
          · obtain ⟨k, n, c, e, hcc⟩ := Fo.drop_cons j l hjn
            obtain ⟨b, o, rfl, hA⟩ := hc (by omega)
            have hA2 := hA.drop j
            rw [e] at hA2
            obtain ⟨z0, z1, ⟨p', cap', z2, hm', h4⟩, _⟩ := hA2.later hb
            have R' : RawsAt wr (.slice p' c.len cap') c := ⟨p', cap', rfl, hm', h4⟩
            have S := ih c (by omega) (d + 1) _ wr (by omega) R'
            have hjI : (j : Int) < (l.len : Int) := by omega
            have hmI : (m : Int) ≤ 16 := by omega
            clear hc hA hA2 R' h4
            have hIo := hI.out
            rw [e] at hIo
            have HH : Hid ((m ≤ 16 → l.count ≤ m + (Fo.cons k n c (l.drop (j + 1))).count ∧ l.deep ≤ max (8 - d) (Fo.cons k n c (l.drop (j + 1))).deep) ∧ m ≤ 16 ∧ d ≠ 8) := ⟨hIo, h16, h8⟩
            clear hIo hI e
            go_wp2_with (go_at_call 23; refine S.mono ?_; rintro e w2 ⟨hb2, m2, rfl, hm2, hI2⟩)
            go_roundw
            case rel =>
              refine ⟨j + 1, m + 1 + m2, by omega, by simp, by simp, hb.trans (hb2.mono hb.size), by omega, fun h => ?_⟩
              obtain ⟨q1, q2⟩ := HH.out.1 h16
              obtain ⟨q3, q4⟩ := hI2 (by omega)
              simp only [Fo.count, Fo.deep] at q1 q2
              exact ⟨by omega, by omega⟩
            case measure => simp [intOf]; omega
          · have hmI : ¬ (m : Int) ≤ 16 := by omega
            have hjI : (j : Int) < (l.len : Int) := by omega
            clear hc
            go_wp2_with fail
            go_ret
            exact ⟨hb, m, rfl, hmm, fun h => by omega⟩
        · have hjI : ¬ (j : Int) < (l.len : Int) := by omega
          have hjn : j = l.len := by omega
          subst hjn
          clear hc
          go_wp2_with fail
          go_ret
          refine ⟨hb, m, rfl, hmm, fun h => ?_⟩
          have := hI.out h
          rw [Fo.drop_len] at this
          simp [Fo.count, Fo.deep] at this
          exact ⟨by omega, by omega⟩

set_option maxRecDepth 20000 in
theorem few_any (l : Fo) (v : Value) (w : World) (hR : RawsAt w v l) :
    Calls Tryz.prog 9 #[v] w fun e w' => Below w.heap.size w w' ∧ ∃ b : Bool, e = .returned (.bool b) ∧ (b = true → l.count ≤ 16 ∧ l.deep ≤ 8) := by
  have S : Calls Tryz.prog 23 #[v, .int .i64 0] w _ := size_any (l.count + 1) l (by omega) 0 v w (by omega) hR
  obtain ⟨p, cap, rfl, hm, hc⟩ := hR
  clear hc
  go_enter Tryz.func9, Tryz.ntmps9
  go_wp2_with (go_at_call 23; refine S.mono ?_; rintro e w2 ⟨hb2, m2, rfl, hm2, hI2⟩)
  go_ret
  exact ⟨hb2, decide ((m2 : Int) ≤ 16), rfl, fun h => by have := of_decide_eq_true h; have := hI2 (by omega); exact ⟨by omega, by omega⟩⟩
end Go.Proofs.YtopfnfmglnjljaaGreatDoor
