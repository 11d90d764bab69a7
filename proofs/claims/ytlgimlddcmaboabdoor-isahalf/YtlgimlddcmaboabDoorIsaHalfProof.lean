/- For whatever four bytes: what they are is told by the size that the highest four bits say. -/
import Derived.Test.YtlgimlddcmaboabDoorRows
import Derived.WalkKit
import Derived.ProofKit
import Derived.OpenShut
import Derived.LaidMore
import Derived.Stop.Joined
import Derived.SevenTiedAt
import Derived.Test.YtlgimlddcmaboabDoorTie
import Derived.Test.YtlgimlddcmaboabDoorCards
import Derived.Test.YtlgimlddcmaboabDoorDoor
namespace Go.Proofs.YtlgimlddcmaboabDoor.isaHalf
open Plain
open Go.ChangeShapes Go.WideShapes Go.ChangeAt Go.RowKit
set_option linter.unusedVariables false
set_option linter.unusedSimpArgs false

theorem own : ownKnob Tryd.prog.godebug = none := by kernel_rfl

theorem firstP_hit {size x : Int} : ∀ {n k op : Nat}, firstP size x n k = some op → hitP size x op = true
  | 0, _, _, h => by simp [firstP] at h
  | n + 1, k, op, h => by
    unfold firstP at h
    by_cases hh : hitP size x k = true
    · rw [if_pos hh] at h
      simp at h
      subst h
      exact hh
    · rw [if_neg hh] at h
      exact firstP_hit h

/-- What is told of some bits, and of their first sixteen alone. -/
theorem half_facts (a b c d : Int) :
    (isLong a = true ∧ decodeP [a, b] = none ∧ (decodeP [a, b, c, d] = none ∨ ∃ op fs, decodeP [a, b, c, d] = some (op, fs, 4) ∧ sizeP op = 4)) ∨
    (isLong a = false ∧ ((decodeP [a, b, c, d] = none ∧ decodeP [a, b] = none) ∨ ∃ op fs, decodeP [a, b, c, d] = some (op, fs, 2) ∧ decodeP [a, b] = some (op, fs, 2) ∧ sizeP op = 2)) := by
  have gen : ∀ (x size : Int), (firstP size x 66 0).map (fun op => ((op : Int), tells op x, size)) = none ∨ ∃ op fs, (firstP size x 66 0).map (fun op => ((op : Int), tells op x, size)) = some (op, fs, size) ∧ sizeP op = size := by
    intro x size
    cases hf : firstP size x 66 0 with
    | none => exact .inl rfl
    | some op =>
      refine .inr ⟨op, tells op x, rfl, ?_⟩
      have := firstP_hit hf
      unfold hitP at this
      rw [Bool.and_eq_true, decide_eq_true_eq] at this
      exact this.1
  cases hl : isLong a with
  | true =>
    have l2 : leadP [a, b] = (0, 0, false) := by simp [leadP, hl]
    have l4 : leadP [a, b, c, d] = (((a * 256 + b) * 256 + c) * 256 + d, 4, true) := by simp [leadP, hl]
    refine .inl ⟨rfl, by unfold decodeP; rw [l2]; rfl, ?_⟩
    have e : decodeP [a, b, c, d] = (firstP 4 (((a * 256 + b) * 256 + c) * 256 + d) 66 0).map (fun op => ((op : Int), tells op (((a * 256 + b) * 256 + c) * 256 + d), 4)) := by unfold decodeP; rw [l4]; rfl
    rw [e]
    exact gen _ 4
  | false =>
    have l2 : leadP [a, b] = (a * 256 + b, 2, true) := by simp [leadP, hl]
    have l4 : leadP [a, b, c, d] = (a * 256 + b, 2, true) := by simp [leadP, hl]
    have e2 : decodeP [a, b] = (firstP 2 (a * 256 + b) 66 0).map (fun op => ((op : Int), tells op (a * 256 + b), 2)) := by unfold decodeP; rw [l2]; rfl
    have e4 : decodeP [a, b, c, d] = (firstP 2 (a * 256 + b) 66 0).map (fun op => ((op : Int), tells op (a * 256 + b), 2)) := by unfold decodeP; rw [l4]; rfl
    refine .inr ⟨rfl, ?_⟩
    rw [e2, e4]
    rcases gen (a * 256 + b) 2 with h | ⟨op, fs, h, h2⟩
    · exact .inl ⟨h, h⟩
    · exact .inr ⟨op, fs, h, h, h2⟩

theorem wf_byte {n : Int} (h : (Lit.int .u8 n).wf = true) : 0 ≤ n ∧ n ≤ 255 := by
  simp only [Lit.wf, Bool.and_eq_true, decide_eq_true_eq] at h
  have e1 : IntKind.u8.min = 0 := by decide
  have e2 : IntKind.u8.max = 255 := by decide
  omega

/-! ### The walk -/
set_option maxHeartbeats 8000000 in
set_option maxRecDepth 20000 in
theorem walk (a0 : Int) (a1 : Int) (a2 : Int) (a3 : Int) (w0 : (Lit.int .u8 a0).wf = true) (w1 : (Lit.int .u8 a1).wf = true) (w2 : (Lit.int .u8 a2).wf = true) (w3 : (Lit.int .u8 a3).wf = true) (w : World) (T : Tab w) :
    Calls Tryd.prog 3 #[.int .u8 a0, .int .u8 a1, .int .u8 a2, .int .u8 a3] w fun e w' => e = .returned (.bool true) ∧ Below w.heap.size w w' := by
  obtain ⟨p0, p1⟩ := wf_byte w0
  obtain ⟨p2, p3⟩ := wf_byte w1
  obtain ⟨p4, p5⟩ := wf_byte w2
  obtain ⟨p6, p7⟩ := wf_byte w3
  have K0 := known_true w T
  have Z := fun op W => size_any op W
  have D1 : ∀ W, Below w.heap.size w W → Calls Tryd.prog 9 #[.slice (some ⟨W.heap.size, 0, none⟩) 4 4] (W.alloc (.cells #[.int .u8 a0, .int .u8 a1, .int .u8 a2, .int .u8 a3] 5)) fun e w' => Below w.heap.size w w' ∧ w'.cell? ⟨W.heap.size, 0, none⟩ = some (.int .u8 a0) ∧ w'.cell? ⟨W.heap.size, 1, none⟩ = some (.int .u8 a1) ∧ ∃ W0, Decoded W0 w' e (decodeP [a0, a1, a2, a3]) := by
    intro W hW
    have hb := hW.alloc hW.size (.cells #[.int .u8 a0, .int .u8 a1, .int .u8 a2, .int .u8 a3] 5)
    refine (decode_any (.slice (some ⟨W.heap.size, 0, none⟩) 4 4) [a0, a1, a2, a3] _ (T.later hb) ⟨some ⟨W.heap.size, 0, none⟩, 4, rfl, by simp, fun _ => ⟨W.heap.size, 0, rfl, fun i x hx => ?_⟩⟩ (by intro x hx; simp at hx; omega)).mono ?_
    · rw [Nat.zero_add]
      exact new_cell (w := W) (t := 5) #[.int .u8 a0, .int .u8 a1, .int .u8 a2, .int .u8 a3] i _ (by
        have e : (#[.int .u8 a0, .int .u8 a1, .int .u8 a2, .int .u8 a3] : Array Value) = (([a0, a1, a2, a3] : List Int).map fun b => Value.int .u8 b).toArray := rfl
        rw [e]; simp only [List.getElem?_toArray, List.getElem?_map, hx, Option.map_some])
    · rintro e w' ⟨hw', hD⟩
      exact ⟨hb.trans (hw'.mono hb.size), kept_cell hw' (new_cell (w := W) (t := 5) _ 0 _ rfl), kept_cell hw' (new_cell (w := W) (t := 5) _ 1 _ rfl), _, hD⟩
  have D2 : ∀ W g, Below w.heap.size w W → W.cell? ⟨g, 0, none⟩ = some (.int .u8 a0) → W.cell? ⟨g, 1, none⟩ = some (.int .u8 a1) → Calls Tryd.prog 9 #[.slice (some ⟨g, 0, none⟩) 2 4] W fun e w' => Below W.heap.size W w' ∧ ∃ W0, Decoded W0 w' e (decodeP [a0, a1]) := by
    intro W g hW c0 c1
    refine (decode_any (.slice (some ⟨g, 0, none⟩) 2 4) [a0, a1] W (T.later hW) ⟨some ⟨g, 0, none⟩, 4, rfl, by simp, fun _ => ⟨g, 0, rfl, fun i x hx => ?_⟩⟩ (by intro x hx; simp at hx; omega)).mono ?_
    · match i, hx with
      | 0, hx => simp at hx; subst hx; exact c0
      | 1, hx => simp at hx; subst hx; exact c1
      | i + 2, hx => simp at hx
    · rintro e w' ⟨hw', hD⟩
      exact ⟨hw', _, hD⟩
  rcases half_facts a0 a1 a2 a3 with ⟨hl, e2, e4 | ⟨op, fs, e4, hs⟩⟩ | ⟨hl, ⟨e4, e2⟩ | ⟨op, fs, e4, e2, hs⟩⟩
  · rw [e4] at D1
    rw [e2] at D2
    rcases long_cases hl with hn | hn | hn | hn
    all_goals
      go_enter Tryd.func3, Tryd.ntmps3
      go_wp2_with fail
      refine K0.mono ?_
      rintro e v1 ⟨rfl, hv1⟩
      go_wp2_with fail
      refine (D1 _ hv1).mono ?_
      rintro e v2 ⟨hv2, c0, c1, W0, rfl⟩
      have hbX := hv2.alloc hv2.size (.cells #[.int .i64 0, .slice none 0 0] 26)
      have E := D2 _ _ hbX (kept_alloc c0) (kept_alloc c1)
      have x0 := new_cell (w := v2) (t := 26) #[.int .i64 0, .slice none 0 0] 0 (.int .i64 0) rfl
      have x1 := new_cell (w := v2) (t := 26) #[.int .i64 0, .slice none 0 0] 1 (.slice none 0 0) rfl
      go_wp2_with fail
      refine E.mono ?_
      rintro e v3 ⟨hv3, W1, rfl⟩
      have y0 := kept_cell hv3 x0
      have y1 := kept_cell hv3 x1
      have hbY := hbX.trans (hv3.mono hbX.size)
      have hzz : v2.heap.size < v3.heap.size := Nat.lt_of_lt_of_le (by simp) hv3.size
      clear E x0 x1 hbX hv2 hv3 D1 D2 K0
      go_wp2
      all_goals go_ret
      all_goals exact ⟨by first | rfl | (simp; done) | (simp; omega), hbY.alloc hbY.size _⟩
  · rw [e4] at D1
    rw [e2] at D2
    rcases long_cases hl with hn | hn | hn | hn
    all_goals
      go_enter Tryd.func3, Tryd.ntmps3
      go_wp2_with fail
      refine K0.mono ?_
      rintro e v1 ⟨rfl, hv1⟩
      go_wp2_with fail
      refine (D1 _ hv1).mono ?_
      rintro e v2 ⟨hv2, c0, c1, W0, v, rfl, hS⟩
      obtain ⟨ps, pc, rfl, _⟩ := hS
      have hbX := hv2.alloc hv2.size (.cells #[.int .i64 op, .slice ps fs.length pc] 26)
      have E := D2 _ _ hbX (kept_alloc c0) (kept_alloc c1)
      have x0 := new_cell (w := v2) (t := 26) #[.int .i64 op, .slice ps fs.length pc] 0 (.int .i64 op) rfl
      have x1 := new_cell (w := v2) (t := 26) #[.int .i64 op, .slice ps fs.length pc] 1 (.slice ps fs.length pc) rfl
      go_wp2_with fail
      refine E.mono ?_
      rintro e v3 ⟨hv3, W1, rfl⟩
      have y0 := kept_cell hv3 x0
      have y1 := kept_cell hv3 x1
      have hbY := hbX.trans (hv3.mono hbX.size)
      have hzz : v2.heap.size < v3.heap.size := Nat.lt_of_lt_of_le (by simp) hv3.size
      have Zo := fun W => Z op W
      rw [hs] at Zo
      clear E x0 x1 hbX hv2 hv3 D1 D2 K0
      go_wp2_with (go_at_call 10; refine (Zo _).mono ?_; rintro e w' ⟨rfl, rfl⟩)
      all_goals go_ret
      all_goals exact ⟨by first | rfl | (simp; done) | (simp; omega), hbY.alloc hbY.size _⟩
  · rw [e4] at D1
    rw [e2] at D2
    have nn := hl
    unfold isLong at nn
    simp only [Bool.or_eq_false_iff, beq_eq_false_iff_ne] at nn
    obtain ⟨⟨⟨n1, n3⟩, n5⟩, n7⟩ := nn
    go_enter Tryd.func3, Tryd.ntmps3
    go_wp2_with fail
    refine K0.mono ?_
    rintro e v1 ⟨rfl, hv1⟩
    go_wp2_with fail
    refine (D1 _ hv1).mono ?_
    rintro e v2 ⟨hv2, c0, c1, W0, rfl⟩
    have hbX := hv2.alloc hv2.size (.cells #[.int .i64 0, .slice none 0 0] 26)
    have E := D2 _ _ hbX (kept_alloc c0) (kept_alloc c1)
    have x0 := new_cell (w := v2) (t := 26) #[.int .i64 0, .slice none 0 0] 0 (.int .i64 0) rfl
    have x1 := new_cell (w := v2) (t := 26) #[.int .i64 0, .slice none 0 0] 1 (.slice none 0 0) rfl
    go_wp2_with fail
    refine E.mono ?_
    rintro e v3 ⟨hv3, W1, rfl⟩
    have y0 := kept_cell hv3 x0
    have y1 := kept_cell hv3 x1
    have hbY := hbX.trans (hv3.mono hbX.size)
    have hzz : v2.heap.size < v3.heap.size := Nat.lt_of_lt_of_le (by simp) hv3.size
    clear E x0 x1 hbX hv2 hv3 D1 D2 K0
    go_wp2
    all_goals go_ret
    all_goals exact ⟨by first | rfl | (simp; done) | (simp; omega), hbY.alloc hbY.size _⟩
  · rw [e4] at D1
    rw [e2] at D2
    have nn := hl
    unfold isLong at nn
    simp only [Bool.or_eq_false_iff, beq_eq_false_iff_ne] at nn
    obtain ⟨⟨⟨n1, n3⟩, n5⟩, n7⟩ := nn
    go_enter Tryd.func3, Tryd.ntmps3
    go_wp2_with fail
    refine K0.mono ?_
    rintro e v1 ⟨rfl, hv1⟩
    go_wp2_with fail
    refine (D1 _ hv1).mono ?_
    rintro e v2 ⟨hv2, c0, c1, W0, v, rfl, hS⟩
    obtain ⟨ps, pc, rfl, _⟩ := hS
    have hbX := hv2.alloc hv2.size (.cells #[.int .i64 op, .slice ps fs.length pc] 26)
    have E := D2 _ _ hbX (kept_alloc c0) (kept_alloc c1)
    have x0 := new_cell (w := v2) (t := 26) #[.int .i64 op, .slice ps fs.length pc] 0 (.int .i64 op) rfl
    have x1 := new_cell (w := v2) (t := 26) #[.int .i64 op, .slice ps fs.length pc] 1 (.slice ps fs.length pc) rfl
    go_wp2_with fail
    refine E.mono ?_
    rintro e v3 ⟨hv3, W1, v, rfl, hS⟩
    obtain ⟨ps2, pc2, rfl, _⟩ := hS
    have y0 := kept_cell hv3 x0
    have y1 := kept_cell hv3 x1
    have hbY := hbX.trans (hv3.mono hbX.size)
    have hzz : v2.heap.size < v3.heap.size := Nat.lt_of_lt_of_le (by simp) hv3.size
    have Zo := fun W => Z op W
    rw [hs] at Zo
    clear E x0 x1 hbX hv2 hv3 D1 D2 K0
    go_wp2_with (go_at_call 10; refine (Zo _).mono ?_; rintro e w' ⟨rfl, rfl⟩)
    all_goals go_ret
    all_goals exact ⟨by first | rfl | (simp; done) | (simp; omega), hbY.alloc hbY.size _⟩

/-! ### The row's step -/
set_option maxRecDepth 100000 in
theorem lifted (os : Os) (started : os.Started) (H : Type) (enc : TypeId × Value → H) :
    ReturnsInHanded {} Tryd.checked os 3 .any (fun w args => (Rows.isaHalfSpec.pre enc Tryd.prog Tryd.f3 [] false w args ∧ laidMetH Tryd.prog laid4 w) ∧ sizedMet enc Tryd.prog Tryd.f3 (OpenSpec.ofChange Rows.isaHalfSpec) false w args)
      (Rows.isaHalfSpec.post enc Tryd.prog Tryd.f3 false true false false) := by
  refine returnsInHanded_of_change_and (C := Tryd.checked) (X := fun w _ => laidMetH Tryd.prog laid4 w) (fun _ _ _ hh h => h.of_heap hh) own started (by kernel_rfl) Tryd.func3
    (ChangeSpec.witness_shaped (enc := enc) (C := Tryd.checked) (os := os) (X := fun w _ => laidMetH Tryd.prog laid4 w) false (World.doorLaid Tryd.prog 400 os) #[.int .u8 0, .int .u8 0, .int .u8 0, .int .u8 0] 8 rfl (World.shaped_of_RefB (by kernel_rfl) (by kernel_rfl)) (by kernel_rfl) (by kernel_rfl) (by kernel_rfl) (door_met os _)) ?_
  intro W base args ds gs before hval0 hW _ _ hL _
  have hval : ∀ (j : Nat) t v, Tryd.f3.params[j]? = some t → args[j]? = some v → Value.okWide Tryd.prog W .any base t v := hval0
  have hW' := hW
  obtain ⟨p, q, hA0, hV, rfl, hfz, hnd⟩ := hW
  have hA : DataW.TrodAll enc Tryd.prog W 0 (fun _ => true) true Tryd.f3.params.toList args.toList ds p := hA0
  rw [Tryd.params3] at hA hval
  obtain ⟨v0, vs0, d0, ds0, p0, q0, hargs, rfl, rfl, h0, r0⟩ := trodAll_cons hA
  obtain ⟨v1, vs1, d1, ds1, p1, q1, rfl, rfl, rfl, h1, r1⟩ := trodAll_cons r0
  obtain ⟨v2, vs2, d2, ds2, p2, q2, rfl, rfl, rfl, h2, r2⟩ := trodAll_cons r1
  obtain ⟨v3, vs3, d3, ds3, p3, q3, rfl, rfl, rfl, h3, r3⟩ := trodAll_cons r2
  obtain ⟨rfl, rfl, rfl⟩ := trodAll_nil r3
  obtain rfl : args = #[v0, v1, v2, v3] := by cases args; simp_all
  obtain ⟨rfl, rfl⟩ := trodVars_none hV
  obtain ⟨a0, rfl, rfl, rfl, w0⟩ := open_int Tryd.underlying5 (hval 0 5 v0 rfl rfl) h0
  obtain ⟨a1, rfl, rfl, rfl, w1⟩ := open_int Tryd.underlying5 (hval 1 5 v1 rfl rfl) h1
  obtain ⟨a2, rfl, rfl, rfl, w2⟩ := open_int Tryd.underlying5 (hval 2 5 v2 rfl rfl) h2
  obtain ⟨a3, rfl, rfl, rfl, w3⟩ := open_int Tryd.underlying5 (hval 3 5 v3 rfl rfl) h3
  clear hA0 hval0
  simp only [List.append_nil] at hW'
  refine (walk a0 a1 a2 a3 w0 w1 w2 w3 W (tab_of_laid hL)).mono fun e W' ⟨he, hg⟩ => ?_
  subst he
  exact ⟨_, rfl, _, _, _, [], [], [], hW', (trodAll_cons_mk (shut_bool Tryd.underlying4 _) trodAll_mk0), (trodAll_cons_mk (shut_int Tryd.underlying5 w0) (trodAll_cons_mk (shut_int Tryd.underlying5 w1) (trodAll_cons_mk (shut_int Tryd.underlying5 w2) (trodAll_cons_mk (shut_int Tryd.underlying5 w3) trodAll_mk0)))), rfl, hg.frame _, fun h => by cases h⟩

theorem over : Rows.isaHalfRow.holds Tryd.pinned (OpenSpec.ofChange Rows.isaHalfSpec) :=
  OpenClaim.holds_of_wide 3 Tryd.f3 rfl rfl rfl rfl rfl rfl rfl ⟨rfl, rfl, rfl, rfl, rfl⟩ rfl rfl rfl rfl rfl (by kernel_rfl) Tryd.func3 (by kernel_rfl)
    (of_decide_eq_true (by kernel_rfl)) (by unfold Func.isWrapper; first | (rw [if_pos (by decide +kernel)]; kernel_rfl) | (rw [if_neg (by decide +kernel)]; exact ⟨rfl, rfl⟩))
    (fun os started H enc _ => lifted os started H enc)

theorem row : Rows.IsaHalfSaid :=
  over

/-- The statement. -/
theorem proved : Rows.IsaHalfCardSaid :=
  Claim7.holds_tied_plain_at .later [] [.listed, .data, .data, .data] true (true, "3c5c2bcea24cf93f59a84a958fa7d6663da854b10277eeb6ec24b69937c84ae2") false
    row (fun _ h => by cases h) (by kernel_rfl) (fun _ h => by cases h) isaHalf_row_tie rfl ⟨rfl, rfl⟩ (by kernel_rfl) rfl
    (fun f fn hf hfn => by
      obtain rfl : f = 3 := Option.some.inj ((show Tryd.prog.funcNamed "letterpress/letterpresslaw2.IsaHalf" = some 3 by kernel_rfl).symm.trans hf) |>.symm
      obtain rfl : fn = Tryd.f3 := (Option.some.inj (Tryd.func3.symm.trans hfn)).symm
      exact ⟨by kernel_rfl, fun j t ht => by
        rw [Tryd.params3] at ht
        have hm : t ∈ [5, 5, 5, 5] := by simpa using Array.mem_of_getElem? ht
        have hall : ([5, 5, 5, 5].all fun u => !Tryd.prog.wantsStandIn u) = true := by kernel_rfl
        exact (show Tryd.prog.wantsStandIn t = false by simpa using List.all_eq_true.1 hall t hm)⟩)
    (by kernel_rfl)
#print axioms proved
end Go.Proofs.YtlgimlddcmaboabDoor.isaHalf
