/- The law's walk. -/
import Derived.Test.YtlncljfljjaacaaGreatDoorTxW
namespace Go.Proofs.YtlncljfljjaacaaGreatDoor
open Go.ChangeShapes Go.WideShapes Go.ChangeAt Go.RowKit
set_option linter.unusedVariables false
set_option linter.unusedSimpArgs false

def intOfX : Value → Int
  | .int _ n => n
  | _ => 0

theorem joinP_len : ∀ l : List E.Bs, (∀ s ∈ l, s.length ≤ 4) → (E.joinP l).length ≤ 5 * l.length
  | [], _ => by simp [E.joinP]
  | s :: l, h => by
    have ih := joinP_len l (fun x hx => h x (by simp [hx]))
    have := h s (by simp)
    rw [E.joinP_cons]
    simp
    omega

theorem ba_bs (a : ByteArray) : a = E.bs a.data.toList := by cases a; simp [E.bs]

set_option maxHeartbeats 1000000 in
set_option maxRecDepth 20000 in
theorem txnNames_any (v0 : Value) (ns : List Int) (hns : ns.length ≤ maxLen) (raw : E.Bs) (w : World) (T : E.Tab w) (s0 : SliceIs w v0 ns) :
    Calls Tryz.prog 3 #[v0, .string (E.bs raw)] w fun e w' => e = .returned (.bool true) ∧ Below w.heap.size w w' := by
  obtain ⟨i0, hi0, hz0, hz2, hz3⟩ := info_parts E.info_str
  have hsz := E.bs_size raw
  have K := known_any w T
  obtain ⟨pn, cn, rfl, hm⟩ := id s0
  clear hm
  go_enter Tryz.func3, Tryz.ntmps3
  go_wp2_with fail
  refine K.mono ?_
  rintro e w1 ⟨rfl, hb1⟩
  clear K
  by_cases hr : raw.length ≤ 200
  case neg =>
    have hrI : (200 : Int) < (raw.length : Int) := by omega
    go_wp2
    go_ret
    exact ⟨rfl, hb1⟩
  have hrI : ¬ (200 : Int) < (raw.length : Int) := by omega
  go_wp2_with fail
  go_loopw [5, 6] (fun lv iv wr => ∃ (i : Nat) (acc : List E.Bs), iv = .int .i64 i ∧ i ≤ 12 ∧ i ≤ ns.length ∧ acc.length = i ∧ Hid (∀ s ∈ acc, s.length ≤ 4 ∧ ∀ c ∈ s, c ≠ 10) ∧ Below w.heap.size w wr ∧ wr.ownsRow w.heap.size 9 1 lv acc.length (E.strs acc)) (fun _ iv _ => 12 - (intOfX iv).toNat)
  case atStart => exact ⟨0, [], rfl, by omega, by omega, rfl, (fun s hs => by cases hs), hb1, ⟨rfl, .inl ⟨rfl, rfl⟩⟩⟩
  case round =>
    obtain ⟨i, acc, rfl, hi12, hin, hal, hI, hb, hown⟩ := hrel
    subst hal
    obtain ⟨pp, cp, rfl⟩ := E.row_slice hown
    rcases (by omega : (acc.length < ns.length ∧ acc.length < 12) ∨ ¬ acc.length < ns.length ∨ (acc.length < ns.length ∧ ¬ acc.length < 12)) with ⟨h1, h2⟩ | h1 | ⟨h1, h2⟩
    · obtain ⟨x, hx⟩ : ∃ x, ns[acc.length]? = some x := ⟨_, List.getElem?_eq_getElem h1⟩
      have hne : ns ≠ [] := by rintro rfl; simp at h1
      have s1 := s0.later hb
      obtain ⟨p', c', e', hA⟩ := s1
      obtain ⟨b, o, e2, hB⟩ := hA hne
      cases e'
      subst e2
      have cx := hB acc.length x hx
      have N := name_any x wr
      replace N := N.mono (fun e w' h => by
        obtain ⟨s, h1, h2, h3, h4⟩ := h
        exact (⟨s, h1, ⟨h2, h3⟩, h4⟩ : ∃ s : E.Bs, e = .returned (.string (E.bs s)) ∧ Hid (s.length ≤ 4 ∧ ∀ c ∈ s, c ≠ 10) ∧ Below wr.heap.size wr w'))
      have h1I : (acc.length : Int) < (ns.length : Int) := by omega
      have h2I : (acc.length : Int) < 12 := by omega
      clear hA hB
      go_wp2_with fail
      refine N.mono ?_
      rintro e w2 ⟨a, rfl, ha, hb2⟩
      have hown2 := hown.kept (E.grown_of_below hb2 none) (by cases hq : Value.ownBlock (.slice pp acc.length cp) <;> simp)
      have hbw2 := hb.trans (hb2.mono hb.size)
      have hsz2 := hbw2.size
      have hI2 : Hid (∀ s ∈ acc ++ [a], s.length ≤ 4 ∧ ∀ c ∈ s, c ≠ 10) := fun s hs => by
        rcases List.mem_append.1 hs with hs | hs
        · exact hI.out s hs
        · simp at hs; subst hs; exact ha.out
      clear N hb hb2 hown cx
      go_wp2_with (at_builtin; refine wpList_append_lies _ rfl _ _ 24 rfl w.heap.size 9 i0 (.string ⟨#[]⟩) 1 16 Tryz.underlying24 hi0 hz0 hz2 hz3 rfl (by decide) _ acc.length (E.strs acc) rfl (hown2.alloc _) ⟨w2.heap.size, 0, none⟩ 1 1 [.string (E.bs a)] rfl rfl (World.news_of_block (cs := #[.string (E.bs a)]) (t := 9) (fr := (0, 0)) (heap_alloc_new w2 _)) (by simp [Value.oneCell']) (by omega) (by unfold maxLen; omega) (by omega) (by simp; omega) (w2.heap.size + 1) (by simp) ?_; intro g cap w3 hown3 hgrow hat hlt3)
      have hb3 : Below w.heap.size w w3 := (hbw2.alloc hsz2 _).grown hgrow (by simp; omega) (fun k hk => (hown2.lt k hk).1)
      go_roundw
      case rel => exact ⟨acc.length + 1, acc ++ [a], by go_num, by omega, by omega, by simp, hI2, hb3, by simpa [E.strs] using hown3⟩
      case measure => simp [intOfX]; omega
    all_goals
      first
        | have h1I : ¬ (acc.length : Int) < (ns.length : Int) := by omega
        | (have h1I : (acc.length : Int) < (ns.length : Int) := by omega
           have h2I : ¬ (acc.length : Int) < 12 := by omega)
      have hjl := joinP_len acc (fun s hs => (hI.out s hs).1)
      have hpj := hid_of (E.parts_join acc (fun s hs => (hI.out s hs).2))
      have SL := E.strs_of_own hown
      have J := E.join_any acc (by omega) (by omega) _ wr SL
      clear hI hown
      go_wp2_with fail
      refine J.mono ?_
      rintro e w2 ⟨rfl, hb2⟩
      replace SL := SL.later hb2
      replace hb := hb.trans (hb2.mono hb.size)
      have RJ := E.rjoin_any acc (by omega) (by omega) _ w2 SL
      clear J hb2
      go_wp2_with fail
      refine RJ.mono ?_
      rintro e w3 ⟨rfl, rfl⟩
      have P := E.parts_any (E.joinP acc) (by omega) w3
      rw [hpj.out] at P
      clear RJ
      go_wp2_with fail
      refine P.mono ?_
      rintro e w4 ⟨v4, rfl, hb4, hown4⟩
      replace SL := SL.later hb4
      replace hb := hb.trans (hb4.mono hb.size)
      have S4 := E.strs_of_own hown4
      have W4 := E.strsEq_any acc acc (by omega) (by omega) _ _ w4 S4 SL
      clear P hb4 hown4
      go_wp2_with fail
      refine W4.mono ?_
      rintro e w5 ⟨rfl, hb5⟩
      replace hb := hb.trans (hb5.mono hb.size)
      have P2 := E.parts_any raw (by omega) w5
      have hpl := partsP_len' raw
      clear W4 S4 SL hb5
      go_wp2_with fail
      refine P2.mono ?_
      rintro e w6 ⟨v6, rfl, hb6, hown6⟩
      replace hb := hb.trans (hb6.mono hb.size)
      have S6 := E.strs_of_own hown6
      have P3 := E.rparts_any raw (by omega) w6
      clear P2 hb6 hown6
      go_wp2_with fail
      refine P3.mono ?_
      rintro e w7 ⟨v7, rfl, hb7, hown7⟩
      replace hb := hb.trans (hb7.mono hb.size)
      replace S6 := S6.later hb7
      have S7 := E.strs_of_own hown7
      have W7 := E.strsEq_any (E.partsP raw) (E.partsP raw) (by omega) (by omega) _ _ w7 S6 S7
      clear P3 hb7 hown7
      go_wp2_with fail
      refine W7.mono ?_
      rintro e w8 ⟨rfl, hb8⟩
      replace hb := hb.trans (hb8.mono hb.size)
      go_wp2_with fail
      go_ret
      exact ⟨by simp, hb⟩
end Go.Proofs.YtlncljfljjaacaaGreatDoor
