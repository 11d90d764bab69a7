/- The reference's Same, of any two expressions. -/
import Derived.Test.YtopfnfmglnjljaaGreatDoorKids
import Derived.Lib.QuietBelow
namespace Go.Proofs.YtopfnfmglnjljaaGreatDoor
open Go.ChangeShapes Go.WideShapes Go.ChangeAt Go.RowKit
open Go.Sort (grow)
set_option linter.unusedVariables false
set_option linter.unusedSimpArgs false

theorem Small.kids {x : Ex} (hsm : Small x) : ∀ (i : Nat) c, x.kids[i]? = some c → Small c := by
  intro i c hc
  cases x with
  | neg x => match i, hc with | 0, hc => simp [Ex.kids] at hc; subst hc; exact hsm
  | two k x y =>
    obtain ⟨_, _, h1, h2⟩ := hsm
    match i, hc with
    | 0, hc => simp [Ex.kids] at hc; subst hc; exact h1
    | 1, hc => simp [Ex.kids] at hc; subst hc; exact h2
  | _ => simp [Ex.kids] at hc

/-- Two are one, if their cells are. -/
theorem ex_eq {a b : Ex} (ha : Small a) (hb : Small b) : a = b ↔ a.kind = b.kind ∧ a.numb = b.numb ∧ a.text = b.text ∧ a.kids = b.kids := by
  constructor
  · rintro rfl; exact ⟨rfl, rfl, rfl, rfl⟩
  · rintro ⟨h1, h2, h3, h4⟩
    cases a with
    | two k x y =>
      obtain ⟨k1, k2, _, _⟩ := ha
      cases b with
      | two k' x' y' =>
        simp only [Ex.kind, Ex.kids, List.cons.injEq, and_true] at h1 h4
        obtain ⟨rfl, rfl⟩ := h4
        obtain rfl : k = k' := by omega
        rfl
      | _ => simp [Ex.kids] at h4
    | neg x => cases b <;> simp_all [Ex.kind, Ex.kids]
    | _ =>
      cases b with
      | two k' x' y' => simp [Ex.kids] at h4
      | neg x' => simp [Ex.kids] at h4
      | _ => simp_all [Ex.kind, Ex.numb, Ex.text]; try omega

set_option maxHeartbeats 1600000 in
set_option maxRecDepth 20000 in
theorem rsame_any (P Q : Nat → Prop) : ∀ (N : Nat) (a b : Ex), a.size < N → Small a → Small b → ∀ (va vb : Value) (w : World), ExAt P w va a → ExAt Q w vb b →
    Calls Tryz.prog 16 #[va, vb] w fun e w' => e = .returned (.bool (decide (a = b))) ∧ Below w.heap.size w w' := by
  intro N
  induction N with
  | zero => intro a b h; omega
  | succ N ih =>
    intro a b hN hsa hsb va vb w hxa hxb
    obtain ⟨p, rfl, hka⟩ := hxa.opened
    obtain ⟨q, rfl, hkb⟩ := hxb.opened
    have la := a.kids_le
    have lb := b.kids_le
    have eqv := ex_eq hsa hsb
    have IH : ∀ (i : Nat) c d, a.kids[i]? = some c → b.kids[i]? = some d → ∀ (va vb : Value) (w : World), ExAt P w va c → ExAt Q w vb d → Calls Tryz.prog 16 #[va, vb] w fun e w' => e = .returned (.bool (decide (c = d))) ∧ Below w.heap.size w w' :=
      fun i c d hc hd => ih c d (by have := Ex.kids_size hc; omega) (hsa.kids i c hc) (hsb.kids i d hd)
    have n0 := below_new w (.cells #[.int .i64 a.kind, .int .i64 a.numb, .string (bs a.text), .slice p a.kids.length a.kids.length] 27)
    have n1 := below_new (w.alloc (.cells #[.int .i64 a.kind, .int .i64 a.numb, .string (bs a.text), .slice p a.kids.length a.kids.length] 27)) (.cells #[.int .i64 b.kind, .int .i64 b.numb, .string (bs b.text), .slice q b.kids.length b.kids.length] 27)
    have X0 := (Blk.new w 27 (.int .i64 a.kind) (.int .i64 a.numb) (.string (bs a.text)) (.slice p a.kids.length a.kids.length)).later n1
    have Y0 := Blk.new (w.alloc (.cells #[.int .i64 a.kind, .int .i64 a.numb, .string (bs a.text), .slice p a.kids.length a.kids.length] 27)) 27 (.int .i64 b.kind) (.int .i64 b.numb) (.string (bs b.text)) (.slice q b.kids.length b.kids.length)
    rw [show (w.alloc (.cells #[.int .i64 a.kind, .int .i64 a.numb, .string (bs a.text), .slice p a.kids.length a.kids.length] 27)).heap.size = w.heap.size + 1 by simp] at Y0
    have B0 := n0.trans (n1.mono n0.size)
    have tt : a.text = b.text ↔ ((bs a.text).toList == (bs b.text).toList) = true := by simp only [ByteArray.toList_eq, bs_list]; simp
    clear ih hxa hxb hN hsa hsb n0 n1
    obtain ⟨r, hr⟩ : ∃ r, r = decide (a = b) := ⟨_, rfl⟩
    rw [← hr]
    have HR : Hid (r = true ↔ a.kind = b.kind ∧ a.numb = b.numb ∧ ((bs a.text).toList == (bs b.text).toList) = true ∧ a.kids = b.kids) := by
      unfold Hid; rw [hr, decide_eq_true_iff, eqv, tt]
    clear hr eqv tt
    generalize a.kids = ks at *
    generalize a.kind = kk at *
    generalize a.numb = nn at *
    generalize bs a.text = ta at *
    generalize b.kids = js at *
    generalize b.kind = kj at *
    generalize b.numb = nj at *
    generalize bs b.text = tb at *
    have rf : ¬ (kk = kj ∧ nn = nj ∧ (ta.toList == tb.toList) = true ∧ ks = js) → r = false := fun h => by cases r with | true => exact absurd (HR.out.1 rfl) h | false => rfl
    by_cases h1 : kk = kj
    · subst h1
      by_cases h2 : nn = nj
      · subst h2
        cases h3 : (ta.toList == tb.toList) with
        | true =>
          by_cases h4 : ks.length = js.length
          · have H4 : Hid (ks.length = js.length) := h4
            rw [← h4] at B0 Y0 X0 lb ⊢
            clear rf h4
            go_enter Tryz.func16, Tryz.ntmps16
            go_wp2_with fail
            obtain ⟨W0, hW⟩ : ∃ W, W = ((w.alloc (.cells #[.int .i64 kk, .int .i64 nn, .string ta, .slice p ks.length ks.length] 27)).alloc (.cells #[.int .i64 kk, .int .i64 nn, .string tb, .slice q ks.length ks.length] 27)) := ⟨_, rfl⟩
            rw [← hW] at B0 X0 Y0 ⊢
            clear hW
            go_loopw [5] (fun i wr => ∃ j : Nat, j ≤ ks.length ∧ i = .int .i64 j ∧ Below W0.heap.size W0 wr ∧ Hid (ks.take j = js.take j)) (fun i _ => 2 - (intOf i).toNat)
            case atStart => exact ⟨0, by omega, rfl, Below.refl _ _, rfl⟩
            case round =>
              obtain ⟨j, hj, rfl, hb, hI⟩ := hrel
              have X1 := X0.later hb
              have Y1 := Y0.later hb
              obtain ⟨x0, x1, x2, x3, _, _, _, _⟩ := id X1
              obtain ⟨y0, y1, y2, y3, _, _, _, _⟩ := id Y1
              have B1 := B0.trans (hb.mono B0.size)
              by_cases hjn : j < ks.length
              · have hjn2 : j < js.length := by have := H4.out; omega
                obtain ⟨c, hc⟩ : ∃ c, ks[j]? = some c := ⟨_, List.getElem?_eq_getElem hjn⟩
                obtain ⟨d, hd⟩ : ∃ d, js[j]? = some d := ⟨_, List.getElem?_eq_getElem hjn2⟩
                obtain ⟨k, c0, c1, c2, c3, rfl, z0, z1, z2, z3, hcx⟩ := hka j c hc
                obtain ⟨k', d0, d1, d2, d3, rfl, v0, v1, v2, v3, hdx⟩ := hkb j d hd
                replace z0 := kept_cell B1 z0
                replace z1 := kept_cell B1 z1
                replace z2 := kept_cell B1 z2
                replace z3 := kept_cell B1 z3
                replace v0 := kept_cell B1 v0
                replace v1 := kept_cell B1 v1
                replace v2 := kept_cell B1 v2
                replace v3 := kept_cell B1 v3
                have hcx1 := hcx.below B1
                have hdx1 := hdx.below B1
                have IH1 := IH j c d hc hd (.agg #[c0, c1, c2, c3]) (.agg #[d0, d1, d2, d3])
                obtain ⟨ka, na, ta', qa, la', ma, hfx⟩ := hcx.form
                simp only [Value.agg.injEq, Array.mk.injEq, List.cons.injEq, and_true] at hfx
                obtain ⟨rfl, rfl, rfl, rfl⟩ := hfx
                obtain ⟨kb, nb, tb', qb, lb', mb, hfy⟩ := hdx.form
                simp only [Value.agg.injEq, Array.mk.injEq, List.cons.injEq, and_true] at hfy
                obtain ⟨rfl, rfl, rfl, rfl⟩ := hfy
                have hjI : (j : Int) < (ks.length : Int) := by omega
                have hT : Hid ((ks.take (j + 1) = js.take (j + 1)) ↔ c = d) := by
                  unfold Hid
                  rw [List.take_add_one, List.take_add_one, hc, hd, hI.out]
                  simp
                obtain ⟨bb, hbb⟩ : ∃ bb, bb = decide (c = d) := ⟨_, rfl⟩
                rw [← hbb] at IH1
                have HB : Hid (bb = true ↔ c = d) := by unfold Hid; rw [hbb, decide_eq_true_iff]
                have HN : Hid (ks = js → c = d) := fun e => by subst e; rw [hc] at hd; exact Option.some.inj hd
                have e2 := cell_regrown x3
                have e3 := cell_regrown y3
                have e4 := cell_regrown z0
                have e5 := cell_regrown z1
                have e6 := cell_regrown z2
                have e7 := cell_regrown z3
                have e8 := cell_regrown v0
                have e9 := cell_regrown v1
                have e10 := cell_regrown v2
                have e11 := cell_regrown v3
                have Q0 := fun dd os => Calls.regrown_of (IH1 (grow (redrawn wr dd) os) (hcx1.below (below_regrown wr dd os)) (hdx1.below (below_regrown wr dd os)))
                clear hka hkb IH hcx hdx hc hd hbb IH1 X0 Y0
                go_wp2_with fail
                refine wp_region_quiet_below (by kernel_rfl) (by kernel_rfl) ?_
                repeat (quiet_step (first | with_reducible exact Q0 _ _))
                refine wpQuiet_nil ?_
                intro _ hw'
                obtain ⟨⟨dq, osq⟩, hw''⟩ := hw'
                subst hw''
                have hb3 := below_regrown wr dq osq
                clear Q0 e2 e3 e4 e5 e6 e7 e8 e9 e10 e11 z0 z1 z2 z3 v0 v1 v2 v3 x0 x1 x2 x3 y0 y1 y2 y3 hcx1 hdx1
                generalize grow (redrawn wr dq) osq = w3 at *
                cases bb with
                | true =>
                  go_wp2_with fail
                  go_roundw
                  case rel => exact ⟨j + 1, by omega, by simp, hb.trans (hb3.mono hb.size), hT.out.2 (HB.out.1 rfl)⟩
                  case measure => simp [intOf]; omega
                | false =>
                  have hrf : r = false := by
                    cases r with
                    | false => rfl
                    | true => have := HB.out.2 (HN.out (HR.out.1 rfl).2.2.2); cases this
                  clear HR HN HB hT
                  subst hrf
                  go_wp2_with fail
                  go_ret
                  exact ⟨rfl, B1.trans (hb3.mono B1.size)⟩
              · have hjI : ¬ (j : Int) < (ks.length : Int) := by omega
                obtain rfl : j = ks.length := by omega
                have hrt : r = true := HR.out.2 ⟨by simp, by simp, by first | exact h3 | simp, by have := hI.out; rw [List.take_length, H4.out, List.take_length] at this; exact this⟩
                clear HR hka hkb IH hI
                subst hrt
                go_wp2_with fail
                go_ret
                exact ⟨rfl, B1⟩
          · have hrf := rf (fun h => h4 (by rw [h.2.2.2]))
            have e4 : ((ks.length : Int) != (js.length : Int)) = true := by simp; omega
            clear rf HR h4
            subst hrf
            go_enter Tryz.func16, Tryz.ntmps16
            go_wp2_with fail
            go_ret
            exact ⟨rfl, B0⟩
        | false =>
          have hrf := rf (fun h => by have := h.2.2.1; rw [h3] at this; cases this)
          clear rf HR
          subst hrf
          go_enter Tryz.func16, Tryz.ntmps16
          go_wp2_with fail
          go_ret
          exact ⟨rfl, B0⟩
      · have hrf := rf (fun h => h2 h.2.1)
        have e2 : (nn != nj) = true := by simpa using h2
        clear rf HR
        subst hrf
        go_enter Tryz.func16, Tryz.ntmps16
        go_wp2_with fail
        go_ret
        exact ⟨rfl, B0⟩
    · have hrf := rf (fun h => h1 h.1)
      have e1 : (kk != kj) = true := by simpa using h1
      clear rf HR
      subst hrf
      go_enter Tryz.func16, Tryz.ntmps16
      go_wp2_with fail
      go_ret
      exact ⟨rfl, B0⟩
end Go.Proofs.YtopfnfmglnjljaaGreatDoor
