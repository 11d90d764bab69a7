/- The contracts of the reference's Parts; of the names that the laws take. -/
import Derived.Test.YtlncljfljjaacaaGreatDoorExF
namespace Go.Proofs.YtlncljfljjaacaaGreatDoor.E
open Go.ChangeShapes Go.WideShapes Go.ChangeAt Go.RowKit
set_option linter.unusedVariables false
set_option linter.unusedSimpArgs false

theorem bs_mid (s : Bs) (a i : Nat) (h : i ≤ s.length) : (bs s).extract a i = bs ((s.drop a).take (i - a)) := by
  apply ByteArray.ext
  simp [bs, ByteArray.extract, ByteArray.copySlice]

set_option maxHeartbeats 3200000 in
set_option maxRecDepth 20000 in
theorem rparts_any (s : Bs) (hl : s.length ≤ 1000000) (w : World) :
    Calls Tryz.prog 10 #[.string (bs s)] w fun e w' => ∃ v, e = .returned v ∧ Below w.heap.size w w' ∧ w'.ownsRow w.heap.size 9 1 v (partsP s).length (strs (partsP s)) := by
  obtain ⟨i0, hi0, hz0, hz2, hz3⟩ := info_parts info_str
  have hsz := bs_size s
  go_enter Tryz.func10, Tryz.ntmps10
  go_wp2_with fail
  go_loopw [3, 4, 5] (fun lv av iv wr => ∃ (a i : Nat) (acc : List Bs), av = .int .i64 a ∧ iv = .int .i64 i ∧ a ≤ i ∧ i ≤ s.length ∧ acc.length ≤ i ∧ Hid (acc ++ partsGo ((s.drop a).take (i - a)) (s.drop i) = partsP s ∧ ∀ c ∈ (s.drop a).take (i - a), c ≠ 10) ∧ Below w.heap.size w wr ∧ wr.ownsRow w.heap.size 9 1 lv acc.length (strs acc)) (fun _ _ iv _ => s.length - (intOf iv).toNat)
  case atStart => exact ⟨0, 0, [], rfl, rfl, by omega, by omega, by simp, ⟨rfl, by simp⟩, Below.refl _ _, ⟨rfl, .inl ⟨rfl, rfl⟩⟩⟩
  case round =>
    obtain ⟨a, i, acc, rfl, rfl, hai, hil, hac, hI, hb, hown⟩ := hrel
    obtain ⟨pp, cp, rfl⟩ := row_slice hown
    by_cases hin : i < s.length
    · have hiI : (i : Int) < (s.length : Int) := by omega
      have hiI2 : (i : Int) < ((bs s).size : Int) := by omega
      obtain ⟨p1, p2⟩ := ref_part s a i hai hin hI.out.2
      obtain ⟨c, hc⟩ : ∃ c, s[i]? = some c := ⟨_, List.getElem?_eq_getElem hin⟩
      have hcc : ∀ (h : i < (bs s).size), (bs s)[i]'h = c := by
        intro h
        rw [List.getElem?_eq_getElem hin] at hc
        have := Option.some.inj hc
        rw [← this]
        rfl
      have hmid := bs_mid s a i (by omega)
      have haiI : (a : Int) ≤ (i : Int) := by omega
      have hilI : (i : Int) ≤ (s.length : Int) := by omega
      by_cases h10 : c = 10
      · subst h10
        have e1 : (((10 : UInt8).toNat : Int) == 10) = true := rfl
        have q := p1 hc
        have HS : Hid ((acc ++ [(s.drop a).take (i - a)]) ++ partsGo ((s.drop (i + 1)).take (i + 1 - (i + 1))) (s.drop (i + 1)) = partsP s ∧ ∀ c ∈ (s.drop (i + 1)).take (i + 1 - (i + 1)), c ≠ 10) := by
          refine ⟨?_, by simp⟩
          rw [← hI.out.1, q]
          simp
        clear p1 p2 hI q hc
        generalize (s.drop a).take (i - a) = m at *
        go_wp2_with (at_builtin; refine wpList_append_lies _ rfl _ _ 24 rfl w.heap.size 9 i0 (.string ⟨#[]⟩) 1 16 Tryz.underlying24 hi0 hz0 hz2 hz3 rfl (by decide) _ acc.length (strs acc) rfl (hown.alloc _) ⟨wr.heap.size, 0, none⟩ 1 1 [.string (bs m)] rfl rfl (World.news_of_block (cs := #[.string (bs m)]) (t := 9) (fr := (0, 0)) (heap_alloc_new wr _)) (by simp [Value.oneCell']) (by omega) (by unfold maxLen; omega) (by omega) (by have := hb.size; simp; omega) (wr.heap.size + 1) (by simp) ?_; intro g cap w3 hown3 hgrow hat hlt3)
        have hb3 : Below w.heap.size w w3 := (hb.alloc hb.size _).grown hgrow (by have := hb.size; simp; omega) (fun k hk => (hown.lt k hk).1)
        go_roundw
        case rel => exact ⟨i + 1, i + 1, acc ++ [m], by go_num, by go_num, by omega, by omega, by simp; omega, HS, hb3, by simpa [strs] using hown3⟩
        case measure => simp [intOf]; omega
      · have e1 : ((c.toNat : Int) == 10) = false := by
          rw [beq_eq_false_iff_ne]
          intro e
          apply h10
          have : c.toNat = 10 := by omega
          exact UInt8.toNat_inj.1 this
        have q := p2 (by rw [hc]; simpa using h10)
        have HS : Hid (acc ++ partsGo ((s.drop a).take (i + 1 - a)) (s.drop (i + 1)) = partsP s ∧ ∀ c ∈ (s.drop a).take (i + 1 - a), c ≠ 10) := by
          refine ⟨?_, ?_⟩
          · rw [← hI.out.1, q]
          · intro x hx
            rw [show i + 1 - a = (i - a) + 1 by omega, List.take_add_one, List.getElem?_drop, show a + (i - a) = i by omega, hc] at hx
            rcases List.mem_append.1 hx with hx | hx
            · exact hI.out.2 x hx
            · simp at hx; subst hx; exact h10
        clear p1 p2 hI q hc hmid
        go_wp2
        go_roundw
        case rel => exact ⟨a, i + 1, acc, rfl, by go_num, by omega, by omega, by omega, HS, hb, hown⟩
        case measure => simp [intOf]; omega
    · obtain rfl : i = s.length := by omega
      have hiI : ¬ (s.length : Int) < (s.length : Int) := by omega
      have hE : acc = partsP s := by
        have := hI.out.1
        rw [List.drop_length] at this
        simpa [partsGo] using this
      clear hI
      go_wp2
      go_ret
      rw [← hE]
      exact ⟨_, rfl, hb, hown⟩
end Go.Proofs.YtlncljfljjaacaaGreatDoor.E
