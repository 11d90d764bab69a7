/- The law's own Syms: symbols, by numbers. -/
import Derived.Test.YtopfnfmglnjljaaGreatDoorSymsR
namespace Go.Proofs.YtopfnfmglnjljaaGreatDoor
open Go.ChangeShapes Go.WideShapes Go.ChangeAt Go.RowKit
open Orders
set_option linter.unusedVariables false
set_option linter.unusedSimpArgs false

set_option maxHeartbeats 1600000 in
set_option maxRecDepth 20000 in
theorem syms_any (ns : List Int) (v : Value) (w : World) (hS : SliceIs w v ns) (hR : InRange ns) (hm : ns.length ≤ maxLen) :
    Calls Tryz.prog 19 #[v] w fun e w' => Below w.heap.size w w' ∧ ∃ v, e = .returned v ∧ SymsAt w' v (symsP ns) := by
  obtain ⟨p, cap, rfl, hc⟩ := hS
  unfold maxLen at hm
  go_enter Tryz.func19, Tryz.ntmps19
  go_wp2_with fail
  go_loopw [3, 4] (fun s i wr => ∃ (j : Nat), j ≤ ns.length ∧ j ≤ 4 ∧ i = .int .i64 j ∧ Below w.heap.size w wr ∧ wr.ownsRow w.heap.size 51 2 s (symsGo ns j).length (flat (symsGo ns j))) (fun s i _ => 4 - (intOf i).toNat)
  case atStart => exact ⟨0, by omega, by omega, rfl, Below.refl _ _, rfl, .inl ⟨rfl, rfl⟩⟩
  case round =>
    obtain ⟨j, hj, hj4, rfl, hb, hown⟩ := hrel
    by_cases hjn : j < ns.length
    · by_cases hj3 : j < 4
      · obtain ⟨z, hz⟩ : ∃ z, ns[j]? = some z := ⟨_, List.getElem?_eq_getElem hjn⟩
        obtain ⟨b, o, rfl, hcc⟩ := hc (by rintro rfl; simp at hjn)
        have cz := kept_cell hb (hcc j z hz)
        have hjI : (j : Int) < (ns.length : Int) := by omega
        have hj4I : (j : Int) < 4 := by omega
        have hgd : ns.getD j 0 = z := by rw [List.getD_eq_getElem?_getD, hz]; rfl
        have hst : Hid (symsGo ns (j + 1) = symsGo ns j ++ (if 0 < z % 5 then [(rawNames.getD j [], symVals.getD ((z.tdiv 5) % 8).toNat 0)] else [])) := by rw [Hid, symsGo, hgd]
        have J5 := within_any z 5 (by omega) (by omega)
        have J8 := within_any (z.tdiv 5) 8 (by omega) (by omega)
        have hzR := hR z (List.mem_of_getElem? hz)
        clear hgd hz hcc hc
        by_cases h5 : 0 < z % 5
        · rw [if_pos h5] at hst
          generalize z % 5 = r5 at *
          have s1 := Int.emod_nonneg (z.tdiv 5) (show (8 : Int) ≠ 0 by omega)
          have s2 := Int.emod_lt_of_pos (z.tdiv 5) (show (0 : Int) < 8 by omega)
          generalize hq : z.tdiv 5 = q at *
          generalize q % 8 = s at *
          obtain ⟨s, rfl⟩ : ∃ t : Nat, s = (t : Int) := ⟨s.toNat, by omega⟩
          rw [Int.toNat_natCast] at hst
          have hN := names_cell j hj3
          have hV := vals_cell s (by omega)
          generalize rawNames.getD j [] = nm at *
          generalize symVals.getD s 0 = val at *
          obtain ⟨n, hsl0⟩ : ∃ n, n = (symsGo ns j).length := ⟨_, rfl⟩
          obtain ⟨xs, hfl0⟩ : ∃ xs, xs = flat (symsGo ns j) := ⟨_, rfl⟩
          rw [← hsl0, ← hfl0] at hown
          have hn4 : n ≤ 3 := by have := symsGo_len ns j; omega
          have hsl : Hid ((symsGo ns j).length = n) := hsl0.symm
          have hfl : Hid (flat (symsGo ns j) = xs) := hfl0.symm
          clear hsl0 hfl0
          have hob : ∀ b, u3.ownBlock = some b → w.heap.size ≤ b := fun b e => (hown.lt b e).1
          have hnone : u3.ownBlock = none ∨ u3.ownBlock ≠ none := by cases u3.ownBlock <;> simp
          obtain ⟨i0, hi0, hz00⟩ := Option.map_eq_some_iff.1 info_sym
          simp only [Prod.mk.injEq] at hz00
          obtain ⟨hz0, hz2, hz3⟩ := hz00
          go_wp2_with fail
          refine (J5 _).mono ?_
          rintro e w' ⟨rfl, rfl⟩
          clear J5
          go_wp2_with fail
          refine region_inv (by kernel_rfl) (fun u => { tmps := #[.slice (some ⟨b, o, none⟩) ns.length cap, undef, .slice none 0 0, u 17, .int .i64 j, .int .i64 j, .slice (some ⟨b, o, none⟩) ns.length cap, .int .i64 ns.length, .bool true, .bool true, .int .i64 j, .bool true, .bool true, u13, u14, .slice (some ⟨b, o, none⟩) ns.length cap, .int .i64 j, .pointer (some ⟨b, o + j, none⟩), .int .i64 z, .int .i64 r5, .bool true, u 0, u 1, u 2, u 3, u 4, u 5, u 6, u 7, u 8, u 9, u 10, u 11, u 12, u 13, u 14, u 15, u 16, undef], defers := [] }) (fun L u v => SPre wr u3 (SF u3 (.slice (some ⟨b, o, none⟩) ns.length cap) j b o s z q nm val) L u v ∨ SPost w n (xs ++ [.string (bs nm), .int .i64 val]) L u v) (by kernel_rfl) (fun k => ([u21, u22, u23, u24, u25, u26, u27, u28, u29, u30, u31, u32, u33, u34, u35, u36, u37, u3] : List Value).getD k undef) ?_ ?_ ?_
          · exact .inl ⟨rfl, rfl, rfl, below_drewN wr 1, (show Deps (fun _ => false) from fun _ h => by simp at h), fun _ _ h => by simp at h⟩
          · intro i op L u v ho hL hp hI
            have hi : i < 18 := by
              by_cases hi : i < 18
              · exact hi
              · rw [Array.getElem?_eq_none (by simp; omega)] at ho; cases ho
            rcases hI with hI | ⟨hall, hB, hown', h17⟩
            · have hn := SPre.next (F := SF u3 (.slice (some ⟨b, o, none⟩) ns.length cap) j b o s z q nm val) (fun v v' hb k x h => SF.later hb h) hI
              obtain ⟨h16, h17, h0, h3, h4, h5⟩ := hI
              have nd0 : ∀ d ∈ dep 0, L d = true := nofun
              have nd1 : ∀ d ∈ dep 1, L d = true := nofun
              have nd2 : ∀ d ∈ dep 2, L d = true := nofun
              have nd5 : ∀ d ∈ dep 5, L d = true := nofun
              have nd6 : ∀ d ∈ dep 6, L d = true := nofun
              have nd7 : ∀ d ∈ dep 7, L d = true := nofun
              match i, hi with
              | 0, _ =>
                cases ho
                exact step_value rfl rfl (run_move _ _ _ _ _ rfl h0) ⟨_, rfl, .inl (hn 0 (by omega) nd0 _ _ (Below.refl _ _) rfl)⟩
              | 1, _ =>
                cases ho
                refine step_called (R := fun x v' => x = .slice (some ⟨v.heap.size, 0, none⟩) 4 4 ∧ v' = v.alloc (.cells #[.string (bs [98, 97, 115, 101]), .string (bs [120]), .string (bs [101, 110, 100, 95, 49]), .string (bs [114])] 9)) rfl rfl (run_callNames _ _ _ _ rfl) ((names_any _).mono fun e w' h => ⟨_, h.1, rfl, h.2⟩) ?_
                rintro x v' ⟨rfl, rfl⟩
                exact ⟨_, rfl, .inl (hn 1 (by omega) nd1 _ _ (below_new _ _) ⟨_, rfl, new_cell _ j _ hN⟩)⟩
              | 2, _ =>
                cases ho
                exact step_value rfl rfl (run_move _ _ _ _ _ rfl rfl) ⟨_, rfl, .inl (hn 2 (by omega) nd2 _ _ (Below.refl _ _) rfl)⟩
              | 3, _ =>
                cases ho
                obtain ⟨g, e1, c1⟩ := (h5 1 (by omega) (hp ⟨1, Ground.data⟩ (by simp) rfl))
                have e2 := (h5 2 (by omega) (hp ⟨2, Ground.data⟩ (by simp) rfl))
                exact step_value rfl rfl (run_indexTexts _ _ _ _ _ g 4 4 j rfl e1 e2 hj3) ⟨_, rfl, .inl (hn 3 (by omega) (by intro d hd; simp [dep] at hd; rcases hd with rfl | rfl; exact (hp ⟨1, Ground.data⟩ (by simp) rfl); exact (hp ⟨2, Ground.data⟩ (by simp) rfl)) _ _ (Below.refl _ _) ⟨g, rfl, c1⟩)⟩
              | 4, _ =>
                cases ho
                obtain ⟨g, e1, c1⟩ := (h5 3 (by omega) (hp ⟨3, Ground.data⟩ (by simp) rfl))
                exact step_value rfl rfl (run_loadText _ _ _ _ _ _ rfl e1 c1) ⟨_, rfl, .inl (hn 4 (by omega) (by intro d hd; simp [dep] at hd; subst hd; exact (hp ⟨3, Ground.data⟩ (by simp) rfl)) _ _ (Below.refl _ _) rfl)⟩
              | 5, _ =>
                cases ho
                exact step_value rfl rfl (run_build8 _ _ _ rfl) ⟨_, rfl, .inl (hn 5 (by omega) nd5 _ _ (below_new _ _) ⟨_, rfl, new_cell _ s _ hV⟩)⟩
              | 6, _ =>
                cases ho
                exact step_value rfl rfl (run_move _ _ _ _ _ rfl rfl) ⟨_, rfl, .inl (hn 6 (by omega) nd6 _ _ (Below.refl _ _) rfl)⟩
              | 7, _ =>
                cases ho
                exact step_value rfl rfl (run_move _ _ _ _ _ rfl rfl) ⟨_, rfl, .inl (hn 7 (by omega) nd7 _ _ (Below.refl _ _) rfl)⟩
              | 8, _ =>
                cases ho
                have e1 := (h5 6 (by omega) (hp ⟨6, Ground.data⟩ (by simp) rfl))
                have e2 := (h5 7 (by omega) (hp ⟨7, Ground.data⟩ (by simp) rfl))
                exact step_value rfl rfl (run_indexInts _ _ _ _ _ b o ns.length cap j rfl e1 e2 hjn) ⟨_, rfl, .inl (hn 8 (by omega) (by intro d hd; simp [dep] at hd; rcases hd with rfl | rfl; exact (hp ⟨6, Ground.data⟩ (by simp) rfl); exact (hp ⟨7, Ground.data⟩ (by simp) rfl)) _ _ (Below.refl _ _) rfl)⟩
              | 9, _ =>
                cases ho
                have e1 := (h5 8 (by omega) (hp ⟨8, Ground.data⟩ (by simp) rfl))
                exact step_value rfl rfl (run_loadInt _ _ _ _ _ z rfl e1 (kept_cell h3 cz)) ⟨_, rfl, .inl (hn 9 (by omega) (by intro d hd; simp [dep] at hd; subst hd; exact (hp ⟨8, Ground.data⟩ (by simp) rfl)) _ _ (Below.refl _ _) rfl)⟩
              | 10, _ =>
                cases ho
                have e1 := (h5 9 (by omega) (hp ⟨9, Ground.data⟩ (by simp) rfl))
                exact step_value rfl rfl (run_quo5 _ _ _ _ z rfl e1 hzR) ⟨_, rfl, .inl (hn 10 (by omega) (by intro d hd; simp [dep] at hd; subst hd; exact (hp ⟨9, Ground.data⟩ (by simp) rfl)) _ _ (Below.refl _ _) (by show Value.int .i64 (z.tdiv 5) = .int .i64 q; rw [hq]))⟩
              | 11, _ =>
                cases ho
                have e1 := (h5 10 (by omega) (hp ⟨10, Ground.data⟩ (by simp) rfl))
                exact step_call rfl rfl (run_callWithin8 _ _ _ _ q _ rfl e1) (J8 _) ⟨_, rfl, .inl (hn 11 (by omega) (by intro d hd; simp [dep] at hd; rcases hd with rfl | rfl; exact (hp ⟨10, Ground.data⟩ (by simp) rfl); exact hp ⟨1, Ground.chain⟩ (by simp) rfl) _ _ (Below.refl _ _) rfl)⟩
              | 12, _ =>
                cases ho
                obtain ⟨g, e1, c1⟩ := (h5 5 (by omega) (hp ⟨5, Ground.data⟩ (by simp) rfl))
                have e2 := (h5 11 (by omega) (hp ⟨11, Ground.data⟩ (by simp) rfl))
                exact step_value rfl rfl (run_indexInts _ _ _ _ _ g 0 8 8 s rfl e1 e2 (by omega)) ⟨_, rfl, .inl (hn 12 (by omega) (by intro d hd; simp [dep] at hd; rcases hd with rfl | rfl; exact (hp ⟨5, Ground.data⟩ (by simp) rfl); exact (hp ⟨11, Ground.data⟩ (by simp) rfl)) _ _ (Below.refl _ _) ⟨g, by rw [Nat.zero_add], c1⟩)⟩
              | 13, _ =>
                cases ho
                obtain ⟨g, e1, c1⟩ := (h5 12 (by omega) (hp ⟨12, Ground.data⟩ (by simp) rfl))
                exact step_value rfl rfl (run_loadInt _ _ _ _ _ val rfl e1 c1) ⟨_, rfl, .inl (hn 13 (by omega) (by intro d hd; simp [dep] at hd; subst hd; exact (hp ⟨12, Ground.data⟩ (by simp) rfl)) _ _ (Below.refl _ _) rfl)⟩
              | 14, _ =>
                cases ho
                have e1 := (h5 4 (by omega) (hp ⟨4, Ground.data⟩ (by simp) rfl))
                have e2 := (h5 13 (by omega) (hp ⟨13, Ground.data⟩ (by simp) rfl))
                exact step_value rfl rfl (run_buildSym _ _ _ _ _ (bs nm) val rfl e1 e2) ⟨_, rfl, .inl (hn 14 (by omega) (by intro d hd; simp [dep] at hd; rcases hd with rfl | rfl; exact (hp ⟨4, Ground.data⟩ (by simp) rfl); exact (hp ⟨13, Ground.data⟩ (by simp) rfl)) _ _ (Below.refl _ _) rfl)⟩
              | 15, _ =>
                cases ho
                have e1 := (h5 14 (by omega) (hp ⟨14, Ground.data⟩ (by simp) rfl))
                exact step_value rfl rfl (run_buildSyms _ _ _ _ (bs nm) val rfl e1) ⟨_, rfl, .inl (hn 15 (by omega) (by intro d hd; simp [dep] at hd; subst hd; exact (hp ⟨14, Ground.data⟩ (by simp) rfl)) _ _ (below_new _ _) ⟨_, rfl, heap_alloc_new v _⟩)⟩
              | 16, _ =>
                cases ho
                have e0 := (h5 0 (by omega) (hp ⟨0, Ground.data⟩ (by simp) rfl))
                obtain ⟨g, e1, hg⟩ := (h5 15 (by omega) (hp ⟨15, Ground.data⟩ (by simp) rfl))
                have a15 : L 15 = true := (hp ⟨15, Ground.data⟩ (by simp) rfl)
                have a14 := h4 15 a15 14 (by simp [dep])
                have a13 := h4 14 a14 13 (by simp [dep])
                have a4 := h4 14 a14 4 (by simp [dep])
                have a12 := h4 13 a13 12 (by simp [dep])
                have a5 := h4 12 a12 5 (by simp [dep])
                have a11 := h4 12 a12 11 (by simp [dep])
                have a10 := h4 11 a11 10 (by simp [dep])
                have a1 := h4 11 a11 1 (by simp [dep])
                have a9 := h4 10 a10 9 (by simp [dep])
                have a8 := h4 9 a9 8 (by simp [dep])
                have a6 := h4 8 a8 6 (by simp [dep])
                have a7 := h4 8 a8 7 (by simp [dep])
                have a3 := h4 4 a4 3 (by simp [dep])
                have a2 := h4 3 a3 2 (by simp [dep])
                have a0 : L 0 = true := (hp ⟨0, Ground.data⟩ (by simp) rfl)
                have own' : v.ownsRow w.heap.size 51 2 u3 n xs := hown.kept (grown_of_below h3 none) hnone
                refine step_oper rfl rfl (wp_append_lies v (.tmp 21) (.tmp 36) 39 rfl w.heap.size 51 i0 _ 2 24 Tryz.underlying39 hi0 hz0 hz2 hz3 rfl (by omega) u3 n xs e0 own' ⟨g, 0, none⟩ 1 1 [.string (bs nm), .int .i64 val] e1 rfl (World.news_of_block hg) (by simp [Value.oneCell']) (by omega) (by unfold maxLen; omega) (by omega) (Nat.le_trans hb.size h3.size) v.heap.size rfl ?_)
                intro g' cap' w' hown'' hgrow hor hlt
                refine ⟨_, rfl, .inr ⟨fun k hk => ?_, below_grown (hb.trans (h3.mono hb.size)) (Nat.le_trans hb.size h3.size) hgrow hob, hown'', fun h => ?_⟩⟩
                · unfold updL
                  by_cases c : k = 16
                  · rw [if_pos c]
                  · rw [if_neg c]
                    rcases (by omega : k = 0 ∨ k = 1 ∨ k = 2 ∨ k = 3 ∨ k = 4 ∨ k = 5 ∨ k = 6 ∨ k = 7 ∨ k = 8 ∨ k = 9 ∨ k = 10 ∨ k = 11 ∨ k = 12 ∨ k = 13 ∨ k = 14 ∨ k = 15) with rfl | rfl | rfl | rfl | rfl | rfl | rfl | rfl | rfl | rfl | rfl | rfl | rfl | rfl | rfl | rfl
                    · exact a0
                    · exact a1
                    · exact a2
                    · exact a3
                    · exact a4
                    · exact a5
                    · exact a6
                    · exact a7
                    · exact a8
                    · exact a9
                    · exact a10
                    · exact a11
                    · exact a12
                    · exact a13
                    · exact a14
                    · exact a15
                · have h : L 17 = true := h
                  rw [h17] at h; cases h
              | 17, _ =>
                cases ho
                have p16 : L 16 = true := hp ⟨16, Ground.data⟩ (by simp) rfl
                rw [h16] at p16; cases p16
            · match i, hi with
              | 17, _ =>
                cases ho
                exact step_value rfl rfl (run_assign _ _ _ _ _ rfl rfl) ⟨_, rfl, .inr ⟨fun k hk => by unfold updL; rw [if_neg (by omega)]; exact hall k hk, hB, hown', fun _ => rfl⟩⟩
              | 0, _ => rw [hall 0 (by omega)] at hL; cases hL
              | 1, _ => rw [hall 1 (by omega)] at hL; cases hL
              | 2, _ => rw [hall 2 (by omega)] at hL; cases hL
              | 3, _ => rw [hall 3 (by omega)] at hL; cases hL
              | 4, _ => rw [hall 4 (by omega)] at hL; cases hL
              | 5, _ => rw [hall 5 (by omega)] at hL; cases hL
              | 6, _ => rw [hall 6 (by omega)] at hL; cases hL
              | 7, _ => rw [hall 7 (by omega)] at hL; cases hL
              | 8, _ => rw [hall 8 (by omega)] at hL; cases hL
              | 9, _ => rw [hall 9 (by omega)] at hL; cases hL
              | 10, _ => rw [hall 10 (by omega)] at hL; cases hL
              | 11, _ => rw [hall 11 (by omega)] at hL; cases hL
              | 12, _ => rw [hall 12 (by omega)] at hL; cases hL
              | 13, _ => rw [hall 13 (by omega)] at hL; cases hL
              | 14, _ => rw [hall 14 (by omega)] at hL; cases hL
              | 15, _ => rw [hall 15 (by omega)] at hL; cases hL
              | 16, _ => rw [hall 16 (by omega)] at hL; cases hL
          · intro L u v hL hI
            rcases hI with hI | ⟨hall, hB, hown', h17⟩
            · have := hL 16 (by simp); rw [hI.1] at this; cases this
            · have e17 := h17 (hL 17 (by simp))
              have own2 : v.ownsRow w.heap.size 51 2 (u 17) (symsGo ns (j + 1)).length (flat (symsGo ns (j + 1))) := by
                rw [hst.out, List.length_append, hsl.out, e17]
                have : flat (symsGo ns j ++ [(nm, val)]) = xs ++ [.string (bs nm), .int .i64 val] := by rw [← hfl.out]; simp [flat]
                rw [this]
                exact hown'
              clear hall h17 e17 hown' hown hst hsl hfl hob hnone hN hV J8 hL hi0 hz0 hz2 hz3
              go_wp2_with fail
              go_roundw
              case rel => exact ⟨j + 1, by omega, by omega, by simp, hB, own2⟩
              case measure => simp [intOf]; omega
        · rw [if_neg h5, List.append_nil] at hst
          generalize z % 5 = r5 at *
          go_wp2_with fail
          refine (J5 _).mono ?_
          rintro e w' ⟨rfl, rfl⟩
          clear J5 J8
          go_wp2_with fail
          go_roundw
          case rel => exact ⟨j + 1, by omega, by omega, by simp, hb, by rw [hst.out]; exact hown⟩
          case measure => simp [intOf]; omega
      · have hj4I : ¬ (j : Int) < 4 := by omega
        have hjI : (j : Int) < (ns.length : Int) := by omega
        clear hc
        have S := syms_of_own hown (by have := symsGo_len ns j; omega)
        have ej : symsP ns = symsGo ns j := by unfold symsP; rw [show min ns.length 4 = j by omega]
        have S2 : SymsAt wr u3 (symsP ns) := by rw [ej]; exact S
        clear hown S ej
        go_wp2_with fail
        go_ret
        exact ⟨hb, _, rfl, S2⟩
    · have hjI : ¬ (j : Int) < (ns.length : Int) := by omega
      clear hc
      have S := syms_of_own hown (by have := symsGo_len ns j; omega)
      have ej : symsP ns = symsGo ns j := by unfold symsP; rw [show min ns.length 4 = j by omega]
      have S2 : SymsAt wr u3 (symsP ns) := by rw [ej]; exact S
      clear hown S ej
      go_wp2_with fail
      go_ret
      exact ⟨hb, _, rfl, S2⟩
end Go.Proofs.YtopfnfmglnjljaaGreatDoor
