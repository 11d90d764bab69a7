/- The reference's Names. -/
import Derived.Test.YtopfnfmglnjljaaGreatDoorNames1
import Derived.Test.YtopfnfmglnjljaaGreatDoorSymsR
import Derived.Maps.AppendAt
import Derived.Test.YtopfnfmglnjljaaGreatDoorRefSame
namespace Go.Proofs.YtopfnfmglnjljaaGreatDoor.Nn
open Go.Proofs.YtopfnfmglnjljaaGreatDoor
open Go.ChangeShapes Go.WideShapes Go.ChangeAt Go.RowKit
set_option linter.unusedVariables false
set_option linter.unusedSimpArgs false

theorem info_str : (Tryz.prog.info? 9).map (fun i => (i.zero, i.size, i.bytes)) = some (some (.string ⟨#[]⟩), 1, 16) := by kernel_rfl

theorem hid_of {p : Prop} (h : p) : Hid p := h

/-- A slice of texts, in a block of its own. -/
def StrsIn (base : Nat) (w : World) (v : Value) (l : List Bs) : Prop :=
  ∃ p cap, v = .slice p l.length cap ∧ (l ≠ [] → ∃ g, base ≤ g ∧ p = some ⟨g, 0, none⟩ ∧ ∀ (i : Nat) s, l[i]? = some s → w.cell? ⟨g, i, none⟩ = some (.string (bs s)))
theorem StrsIn.at {base : Nat} {w : World} {v : Value} {l : List Bs} (h : StrsIn base w v l) : StrsAt w v l := by
  obtain ⟨p, cap, rfl, h⟩ := h
  refine ⟨p, cap, rfl, fun hn => ?_⟩
  obtain ⟨g, _, e, h2⟩ := h hn
  exact ⟨g, 0, e, fun i s hs => by rw [Nat.zero_add]; exact h2 i s hs⟩
theorem strsIn_of_own {w : World} {base : Nat} {t : TypeId} {v : Value} {l : List Bs} (h : w.ownsRow base t 1 v l.length (strs l)) : StrsIn base w v l := by
  rcases h.2 with ⟨rfl, h0⟩ | ⟨g, cap, cur, rfl, hg, hb, hc, _, _, htk⟩
  · exact ⟨none, 0, by rw [h0], fun hn => absurd (List.length_eq_zero_iff.1 h0) hn⟩
  · refine ⟨_, _, rfl, fun hn => ⟨g, hg, rfl, fun i u hu => ?_⟩⟩
    rw [World.cell?]
    have hu' : cur[i]? = some (.string (bs u)) := by
      have hi : i < l.length := (List.getElem?_eq_some_iff.1 hu).1
      have := congrArg (·[i]?) htk
      simp only [strs, List.getElem?_take, List.getElem?_map, hu, Option.map_some] at this
      rw [if_pos (by omega)] at this
      simpa using this
    simp [hb, hu']

set_option maxHeartbeats 1000000 in
set_option maxRecDepth 20000 in
theorem rnames_any (P : Nat → Prop) : ∀ (N : Nat) (x : Ex), x.size < N → Small x → x.size ≤ 100000 → ∀ (v : Value) (w : World), ExAt P w v x →
    Calls Tryz.prog 14 #[v] w fun e w' => Below w.heap.size w w' ∧ ∃ v', e = .returned v' ∧ StrsIn w.heap.size w' v' (refN x) := by
  intro N
  induction N with
  | zero => intro x h; omega
  | succ N ih =>
    intro x hN hsm hsz v w hx
    obtain ⟨p, rfl, hk⟩ := hx.opened
    have hl := x.kids_le
    by_cases hname : ∃ s, x = .name s
    · obtain ⟨s, rfl⟩ := hname
      have n0 := below_new w (.cells #[.int .i64 2, .int .i64 0, .string (bs s), .slice p 0 0] 27)
      have n1 := below_new (w.alloc (.cells #[.int .i64 2, .int .i64 0, .string (bs s), .slice p 0 0] 27)) (.cells #[.string (bs s)] 9)
      have B := n0.trans (n1.mono n0.size)
      have c1 := new_cell (w := w.alloc (.cells #[.int .i64 2, .int .i64 0, .string (bs s), .slice p 0 0] 27)) (t := 9) #[.string (bs s)] 0 (.string (bs s)) rfl
      clear hk hx ih
      simp only [Ex.kind, Ex.numb, Ex.text, Ex.kids, List.length_nil]
      go_enter Tryz.func14, Tryz.ntmps14
      go_wp2_with fail
      go_ret
      refine ⟨B, _, rfl, _, _, rfl, fun _ => ⟨_, ?_, rfl, fun i t ht => ?_⟩⟩
      · simp
      · match i, ht with
        | 0, ht => simp [refN] at ht; subst ht; simp
    · have hkind : ((x.kind : Int) == 2) = false := by
        cases x with
        | name s => exact absurd ⟨s, rfl⟩ hname
        | two k a b => have := hsm.1; simp [Ex.kind]; omega
        | _ => rfl
      have e0 := refN_kids x (fun s e => hname ⟨s, e⟩)
      have IH : ∀ (i : Nat) c, x.kids[i]? = some c → c.size ≤ 100000 ∧ ∀ (v : Value) (w : World), ExAt P w v c → Calls Tryz.prog 14 #[v] w fun e w' => Below w.heap.size w w' ∧ ∃ v', e = .returned v' ∧ StrsIn w.heap.size w' v' (refN c) :=
        fun i c hc => ⟨by have := Ex.kids_size hc; omega, ih c (by have := Ex.kids_size hc; omega) (hsm.kids i c hc) (by have := Ex.kids_size hc; omega)⟩
      have n0 := below_new w (.cells #[.int .i64 x.kind, .int .i64 x.numb, .string (bs x.text), .slice p x.kids.length x.kids.length] 27)
      have X0 := Blk.new w 27 (.int .i64 x.kind) (.int .i64 x.numb) (.string (bs x.text)) (.slice p x.kids.length x.kids.length)
      obtain ⟨i0, hi0, hz0, hz2, hz3⟩ := info_parts info_str
      obtain ⟨res, hres⟩ : ∃ res, res = refN x := ⟨_, rfl⟩
      rw [← hres] at e0 ⊢
      have HR : Hid (res = x.kids.foldl (fun acc c => (refN c).foldl addN acc) []) := e0
      have hbig : ∀ j, ((x.kids.take j).foldl (fun acc c => (refN c).foldl addN acc) []).length ≤ 200000 := by
        intro j
        match x.kids, hl, IH with
        | [], _, _ => simp
        | [a], _, IH =>
          have h1 := (IH 0 a rfl).1
          have l1 := words_len a []
          rw [← words_fold] at l1
          match j with
          | 0 => simp
          | j + 1 => simp at l1 ⊢; omega
        | [a, b], _, IH =>
          have h1 := (IH 0 a rfl).1
          have h2 := (IH 1 b rfl).1
          have l1 := words_len a []
          have l2 := words_len b (wordsN [] a)
          rw [← words_fold, ← words_fold] at l2
          rw [← words_fold] at l1
          match j with
          | 0 => simp
          | 1 => simp at l1 ⊢; omega
          | j + 2 => simp at l1 l2 ⊢; omega
      clear ih hx e0 hres hN hsm hname hsz
      generalize x.kids = ks at *
      generalize x.kind = kk at *
      generalize x.numb = nn at *
      generalize bs x.text = tt at *
      go_enter Tryz.func14, Tryz.ntmps14
      go_wp2_with fail
      have hWs : w.heap.size < (w.alloc (.cells #[.int .i64 kk, .int .i64 nn, .string tt, .slice p ks.length ks.length] 27)).heap.size := X0.lt
      generalize w.alloc (.cells #[.int .i64 kk, .int .i64 nn, .string tt, .slice p ks.length ks.length] 27) = W0 at *
      go_loopw [3, 4] (fun out i wr => ∃ (j : Nat) (acc : List Bs), j ≤ ks.length ∧ i = .int .i64 j ∧ Below W0.heap.size W0 wr ∧ wr.ownsRow W0.heap.size 9 1 out acc.length (strs acc) ∧ Hid (acc = (ks.take j).foldl (fun acc c => (refN c).foldl addN acc) [])) (fun out i _ => 2 - (intOf i).toNat)
      case atStart => exact ⟨0, [], by omega, rfl, Below.refl _ _, ⟨rfl, .inl ⟨rfl, rfl⟩⟩, rfl⟩
      case round =>
        obtain ⟨j, acc, hj, rfl, hb, hown, hI⟩ := hrel
        have X1 := X0.later hb
        obtain ⟨x0, x1, x2, x3, _, _, _, _⟩ := id X1
        have B1 := n0.trans (hb.mono n0.size)
        by_cases hjn : j < ks.length
        · obtain ⟨c, hc⟩ : ∃ c, ks[j]? = some c := ⟨_, List.getElem?_eq_getElem hjn⟩
          obtain ⟨k, c0, c1, c2, c3, rfl, z0, z1, z2, z3, hcx⟩ := hk j c hc
          replace z0 := kept_cell B1 z0
          replace z1 := kept_cell B1 z1
          replace z2 := kept_cell B1 z2
          replace z3 := kept_cell B1 z3
          have H := (IH j c hc).2 (.agg #[c0, c1, c2, c3]) wr (hcx.below B1)
          obtain ⟨ka, na, ta, qa, la, ma, hfx⟩ := hcx.form
          simp only [Value.agg.injEq, Array.mk.injEq, List.cons.injEq, and_true] at hfx
          obtain ⟨rfl, rfl, rfl, rfl⟩ := hfx
          have hjI : (j : Int) < (ks.length : Int) := by omega
          have hT : Hid ((refN c).foldl addN acc = (ks.take (j + 1)).foldl (fun acc c => (refN c).foldl addN acc) []) := by
            rw [Hid, List.take_add_one, hc, hI.out]
            simp
          have hbj := hbig j
          rw [← hI.out] at hbj
          have hbg := hbig (j + 1)
          rw [← hT.out] at hbg
          have hln : (refN c).length ≤ 100000 := by
            have := words_len c []
            rw [← refN_words] at this
            have := (IH j c hc).1
            simp at *
            omega
          clear hk IH hcx hc X1 hI hbig
          generalize refN c = l at *
          go_wp2_with fail
          refine H.mono ?_
          rintro e w2 ⟨hb2, lv, rfl, hS⟩
          have hob : ∀ g, u3.ownBlock = some g → g < wr.heap.size := fun g e => (hown.lt g e).2
          have own2 : w2.ownsRow W0.heap.size 9 1 u3 acc.length (strs acc) := hown.kept (grown_of_below hb2 none) (by cases u3.ownBlock <;> simp)
          have B2 := hb.trans (hb2.mono hb.size)
          obtain ⟨pl, capl, rfl, hL⟩ := hS
          obtain ⟨g, hg⟩ : ∃ g, l ≠ [] → pl = some ⟨g, 0, none⟩ ∧ wr.heap.size ≤ g ∧ ∀ (i : Nat) s, l[i]? = some s → w2.cell? ⟨g, i, none⟩ = some (.string (bs s)) := by
            by_cases hn : l = []
            · exact ⟨0, fun h => absurd hn h⟩
            · obtain ⟨g, h1, h2, h3⟩ := hL hn; exact ⟨g, fun _ => ⟨h2, h1, h3⟩⟩
          clear H hL hb2 hown x0 x1 x2 x3 z0 z1 z2 z3
          go_wp2_with fail
          go_loopw [3, 6] (fun out i V => ∃ (m : Nat) (acc' : List Bs), m ≤ l.length ∧ i = .int .i64 m ∧ Below W0.heap.size W0 V ∧ w2.heap.size ≤ V.heap.size ∧ V.ownsRow W0.heap.size 9 1 out acc'.length (strs acc') ∧ (l ≠ [] → out.ownBlock ≠ some g ∧ ∀ (i : Nat) s, l[i]? = some s → V.cell? ⟨g, i, none⟩ = some (.string (bs s))) ∧ acc'.length ≤ acc.length + m ∧ Hid (acc' = (l.take m).foldl addN acc)) (fun out i _ => l.length - (intOf i).toNat)
          case atStart => exact ⟨0, acc, by omega, rfl, B2, Nat.le_refl _, own2, fun hn => ⟨fun e => by have := hob g e; have := (hg hn).2.1; omega, (hg hn).2.2⟩, by omega, by simp [Hid]⟩
          case round =>
            obtain ⟨m, acc', hm, rfl, hbV, hszV, ownV, hgV, hal, hIm⟩ := hrel
            by_cases hmn : m < l.length
            · obtain ⟨s, hs⟩ : ∃ s, l[m]? = some s := ⟨_, List.getElem?_eq_getElem hmn⟩
              have hne : l ≠ [] := by rintro rfl; simp at hmn
              have hmI : (m : Int) < (l.length : Int) := by omega
              have epl := (hg hne).1
              have hgw := (hg hne).2.1
              clear hg
              subst epl
              obtain ⟨hgo, hgc⟩ := hgV hne
              have cs := hgc m s hs
              replace hgc := hid_of hgc
              have hgl := block_lt_of_cell cs
              have HA := has_any acc' (by omega) s _ _ (strs_of_own ownV)
              have hst : Hid ((l.take (m + 1)).foldl addN acc = addN acc' s) := by
                rw [Hid, List.take_add_one, hs, List.foldl_append, ← hIm.out]
                rfl
              clear hgV
              go_wp2_with fail
              refine HA.mono ?_
              rintro e w' ⟨rfl, rfl⟩
              clear HA
              cases hcn : acc'.contains s with
              | true =>
                have hst2 : Hid (acc' = (l.take (m + 1)).foldl addN acc) := by rw [Hid, hst.out]; unfold addN; rw [if_pos hcn]
                clear hst hIm hcn hs
                go_wp2_with fail
                go_roundw
                case rel => exact ⟨m + 1, acc', by omega, by simp, hbV, hszV, ownV, fun _ => ⟨hgo, hgc.out⟩, by omega, hst2⟩
                case measure => simp [intOf]; omega
              | false =>
                have hst2 : Hid (acc' ++ [s] = (l.take (m + 1)).foldl addN acc) := by rw [Hid, hst.out]; unfold addN; rw [if_neg (by rw [hcn]; simp)]
                clear hst hIm hcn hs
                have hsr : (strs (acc' ++ [s])) = strs acc' ++ [.string (bs s)] := by simp [strs]
                have hownA : (w'.alloc (.cells #[.string (bs s)] 9)).ownsRow W0.heap.size 9 1 u3 acc'.length (strs acc') := ownV.alloc _
                have hnews := cell_one_new w' (.string (bs s)) 9
                have honec : ∀ u ∈ [Value.string (bs s)], u.oneCell' = true := by simp [Value.oneCell']
                have h63 : acc'.length + 1 ≤ maxLen := by unfold maxLen; omega
                have hbyt : (acc'.length + 1) * 16 ≤ 140737488355328 := by omega
                have hbas : W0.heap.size ≤ (w'.alloc (.cells #[.string (bs s)] 9)).heap.size := Nat.le_trans hbV.size (by simp)
                have hsz1 : (w'.alloc (.cells #[.string (bs s)] 9)).heap.size = w'.heap.size + 1 := by simp
                go_wp2_with (at_builtin; refine wpList_append_lies _ rfl _ _ 32 rfl W0.heap.size 9 i0 (.string ⟨#[]⟩) 1 16 Tryz.underlying32 hi0 hz0 hz2 hz3 rfl (by decide) u3 acc'.length (strs acc') rfl hownA ⟨w'.heap.size, 0, none⟩ 1 1 [.string (bs s)] rfl rfl hnews honec (by omega) h63 hbyt hbas (w'.heap.size + 1) hsz1 ?_; intro g' cap' w1 hown1 hgrow hat hlt1)
                have hb1 : Below W0.heap.size W0 w1 := (hbV.alloc hbV.size _).grown hgrow hbas (fun k hk => (ownV.lt k hk).1)
                have hs1 := hgrow.size
                rw [hsz1] at hs1
                have hgc1 : ∀ (i : Nat) t, l[i]? = some t → w1.cell? ⟨g, i, none⟩ = some (.string (bs t)) := fun i t ht => by
                  have hbk : w1.heap[g]? = (w'.alloc (.cells #[.string (bs s)] 9)).heap[g]? := hgrow.block g (by omega) (fun e => hgo e.symm)
                  have hbk2 : (w'.alloc (.cells #[.string (bs s)] 9)).heap[g]? = w'.heap[g]? := (below_new w' _).block g hgl
                  rw [cell_of_block (w := w') (by exact hbk.trans hbk2)]
                  exact hgc.out i t ht
                have hgo1 : (Value.slice (some ⟨g', 0, none⟩) (acc'.length + 1) cap').ownBlock ≠ some g := by
                  show some g' ≠ some g
                  intro e
                  cases e
                  rcases hat with h | h
                  · exact hgo h
                  · omega
                have own1 : w1.ownsRow W0.heap.size 9 1 (.slice (some ⟨g', 0, none⟩) (acc'.length + 1) cap') (acc' ++ [s]).length (strs (acc' ++ [s])) := by
                  rw [hsr, List.length_append]; exact hown1
                replace hgc1 := hid_of hgc1
                clear hown1 hgrow hnews honec h63 hbyt hbas hsz1 hownA hsr hgc
                go_roundw
                case rel => exact ⟨m + 1, acc' ++ [s], by omega, by simp, hb1, by omega, own1, fun _ => ⟨hgo1, hgc1.out⟩, by simp; omega, hst2⟩
                case measure => simp [intOf]; omega
            · have hmI : ¬ (m : Int) < (l.length : Int) := by omega
              obtain rfl : m = l.length := by omega
              have hfin : Hid (acc' = (ks.take (j + 1)).foldl (fun acc c => (refN c).foldl addN acc) []) := by
                rw [Hid, ← hT.out, hIm.out, List.take_length]
              clear hg hgV hIm hT
              go_wp2_with fail
              go_roundw
              case rel => exact ⟨j + 1, acc', by omega, by simp, hbV, ownV, hfin⟩
              case measure => simp [intOf]; omega
        · have hjI : ¬ (j : Int) < (ks.length : Int) := by omega
          obtain rfl : j = ks.length := by omega
          have hS := strsIn_of_own hown
          have hacc : acc = res := by rw [hI.out, List.take_length, HR.out]
          clear hk IH hbig HR hI
          subst hacc
          go_wp2_with fail
          go_ret
          obtain ⟨p', cap', rfl, h⟩ := hS
          exact ⟨B1, _, rfl, p', cap', rfl, fun hn => by obtain ⟨g, h1, h2, h3⟩ := h hn; exact ⟨g, by omega, h2, h3⟩⟩
end Go.Proofs.YtopfnfmglnjljaaGreatDoor.Nn
