/- For whatever number and text: names, kinds and sizes are the document's, and each name is found by its number. -/
import Derived.Test.YtlgimlddcmaboaaDoorRows
import Derived.WalkKit
import Derived.ProofKit
import Derived.OpenShut
import Derived.LaidMore
import Derived.Stop.Joined
import Derived.SevenTiedAt
import Derived.Laws.BytesArg
import Derived.Test.YtlgimlddcmaboaaDoorTie
import Derived.Test.YtlgimlddcmaboaaDoorCards
import Derived.Test.YtlgimlddcmaboaaDoorDoor
import Derived.Test.YtlgimlddcmaboaaDoorNames
namespace Go.Proofs.YtlgimlddcmaboaaDoor.isaNames
open Plain
open Go.ChangeShapes Go.WideShapes Go.ChangeAt Go.RowKit
open Go.ChangeMaps (open_string shut_string)
set_option linter.unusedVariables false
set_option linter.unusedSimpArgs false

theorem own : ownKnob Tryd.prog.godebug = none := by kernel_rfl

theorem name_nonempty {k : Int} (h : isP k = true) : (bs (rowP k).name).toList ≠ [] ∧ findP (-1) (bs (rowP k).name) = some k.toNat := by
  unfold isP at h
  rw [Bool.and_eq_true, decide_eq_true_eq, decide_eq_true_eq] at h
  obtain ⟨n, rfl⟩ := Int.eq_ofNat_of_zero_le h.1
  obtain ⟨_, _, _, h4⟩ := rows2_row ⟨n, by omega⟩
  refine ⟨?_, find_names ⟨n, by omega⟩⟩
  rw [ByteArray.toList_eq]
  unfold bs
  simpa using h4

theorem name_empty {k : Int} (h : isP k = false) : bs (rowP k).name = bs [] := by
  have hout : k < 0 ∨ 66 ≤ k := by
    unfold isP at h
    rw [Bool.and_eq_false_iff, decide_eq_false_iff_not, decide_eq_false_iff_not] at h
    omega
  rw [rowP_out k hout]
  rfl

theorem find_empty : findP (-1) (bs []) = none := by decide +kernel

/-! ### The walk -/
set_option maxHeartbeats 8000000 in
set_option maxRecDepth 20000 in
theorem walk (a0 : Int) (a1 : ByteArray) (w0 : (Lit.int .i64 a0).wf = true) (w1 : a1.size ≤ maxLen) (w : World) (T : Tab w) :
    Calls Tryd.prog 6 #[.int .i64 a0, .string a1] w fun e w' => e = .returned (.bool true) ∧ Below w.heap.size w w' := by
  have K0 := known_true w T
  by_cases hbig : 100 < a1.size
  · go_enter Tryd.func6, Tryd.ntmps6
    go_wp2_with fail
    refine K0.mono ?_
    rintro e v1 ⟨rfl, hv1⟩
    go_wp2
    go_ret
    exact ⟨rfl, hv1⟩
  · have N := fun op W T' => name_any op W T'
    have N2 := fun op W => refName_any op W
    have KK := fun op W T' => kinds_any op W T'
    have KK2 := fun op W => refKinds_any op W
    have Z := fun op W => size_any op W
    have Z2 := fun op W => refSize_any op W
    have FI := fun nm W T' => isaFind_any nm W T'
    have FR := fun nm W => refFind_any nm W
    have fold : ∀ l : List UInt8, (⟨l.toArray⟩ : ByteArray) = bs l := fun _ => rfl
    simp only [fold] at N KK
    clear fold
    go_enter Tryd.func6, Tryd.ntmps6
    go_wp2_with fail
    refine K0.mono ?_
    rintro e v1 ⟨rfl, hv1⟩
    go_wp2_with (go_at_call 17; refine (within_any _ _ (by omega) (by omega) _).mono ?_; rintro e w' ⟨rfl, rfl⟩)
    have hb : Below w.heap.size w (v1.alloc (.cells #[.int .i64 (a0 % 70 - 2), .int .i64 a0] 3)) := hv1.alloc hv1.size _
    have c0 := new_cell (w := v1) (t := 3) #[.int .i64 (a0 % 70 - 2), .int .i64 a0] 0 (.int .i64 (a0 % 70 - 2)) rfl
    have c1 := new_cell (w := v1) (t := 3) #[.int .i64 (a0 % 70 - 2), .int .i64 a0] 1 (.int .i64 a0) rfl
    generalize v1.alloc (.cells #[.int .i64 (a0 % 70 - 2), .int .i64 a0] 3) = v2 at *
    generalize v1.heap.size = BB at *
    clear K0
    go_loopw [6] (fun i wr => ∃ j : Nat, j ≤ 2 ∧ i = .int .i64 j ∧ Below w.heap.size w wr ∧ wr.cell? ⟨BB, 0, none⟩ = some (.int .i64 (a0 % 70 - 2)) ∧ wr.cell? ⟨BB, 1, none⟩ = some (.int .i64 a0)) (fun i _ => 2 - (intOf i).toNat)
    case atStart => exact ⟨0, by omega, rfl, hb, c0, c1⟩
    case round =>
      clear hb c0 c1
      obtain ⟨j, hj, rfl, hb, c0, c1⟩ := hrel
      by_cases hlt : j < 2
      · obtain ⟨k, hk⟩ : ∃ k, wr.cell? ⟨BB, j, none⟩ = some (.int .i64 k) := by
          have : j = 0 ∨ j = 1 := by omega
          rcases this with rfl | rfl
          · exact ⟨_, c0⟩
          · exact ⟨_, c1⟩
        cases hi : isP k with
        | true =>
          obtain ⟨hne, hfd⟩ := name_nonempty hi
          have FK := fun W T' => FI (bs (rowP k).name) W T'
          rw [hfd] at FK
          simp only [pairV] at FK
          have hk0 : 0 ≤ k := by unfold isP at hi; simp at hi; omega
          have ek : ((k.toNat : Nat) : Int) = k := by omega
          rw [ek] at FK
          have hne2 : ((bs (rowP k).name).toList == []) = false := by simpa using hne
          clear hfd hi ek hk0 FI FR
          go_wp2_with (first | (go_at_call 20; refine (N _ _ (T.later hb)).mono ?_; rintro e w' ⟨rfl, hw'⟩; replace c0 := kept_cell hw' c0; replace c1 := kept_cell hw' c1; replace hb := hb.trans (hw'.mono hb.size); clear hw') | (go_at_call 21; refine (N2 _ _).mono ?_; rintro e w' ⟨rfl, hw'⟩; replace c0 := kept_cell hw' c0; replace c1 := kept_cell hw' c1; replace hb := hb.trans (hw'.mono hb.size); clear hw') | (go_at_call 22; refine (KK _ _ (T.later hb)).mono ?_; rintro e w' ⟨rfl, hw'⟩; replace c0 := kept_cell hw' c0; replace c1 := kept_cell hw' c1; replace hb := hb.trans (hw'.mono hb.size); clear hw') | (go_at_call 23; refine (KK2 _ _).mono ?_; rintro e w' ⟨rfl, hw'⟩; replace c0 := kept_cell hw' c0; replace c1 := kept_cell hw' c1; replace hb := hb.trans (hw'.mono hb.size); clear hw') | (go_at_call 24; refine (Z2 _ _).mono ?_; rintro e w' ⟨rfl, hw'⟩; replace c0 := kept_cell hw' c0; replace c1 := kept_cell hw' c1; replace hb := hb.trans (hw'.mono hb.size); clear hw') | (go_at_call 25; refine (FK _ (T.later hb)).mono ?_; rintro e w' ⟨hw', rfl⟩; replace c0 := kept_cell hw' c0; replace c1 := kept_cell hw' c1; replace hb := hb.trans (hw'.mono hb.size); clear hw') | (go_at_call 14; refine (Z _ _).mono ?_; rintro e w' ⟨rfl, rfl⟩))
          go_roundw
          case rel => exact ⟨j + 1, by omega, by go_num, hb, c0, c1⟩
          case measure => simp [intOf]; omega
        | false =>
          have hem := name_empty hi
          have FK := fun W T' => FI (bs []) W T'
          rw [find_empty] at FK
          simp only [pairV] at FK
          have Nk := fun W T' => N k W T'
          have N2k := fun W => N2 k W
          rw [hem] at Nk N2k
          have hee : (bs []).toList = [] := by rw [ByteArray.toList_eq]; rfl
          clear hem hi FI FR
          go_wp2_with (first | (go_at_call 20; refine (Nk _ (T.later hb)).mono ?_; rintro e w' ⟨rfl, hw'⟩; replace c0 := kept_cell hw' c0; replace c1 := kept_cell hw' c1; replace hb := hb.trans (hw'.mono hb.size); clear hw') | (go_at_call 21; refine (N2k _).mono ?_; rintro e w' ⟨rfl, hw'⟩; replace c0 := kept_cell hw' c0; replace c1 := kept_cell hw' c1; replace hb := hb.trans (hw'.mono hb.size); clear hw') | (go_at_call 22; refine (KK _ _ (T.later hb)).mono ?_; rintro e w' ⟨rfl, hw'⟩; replace c0 := kept_cell hw' c0; replace c1 := kept_cell hw' c1; replace hb := hb.trans (hw'.mono hb.size); clear hw') | (go_at_call 23; refine (KK2 _ _).mono ?_; rintro e w' ⟨rfl, hw'⟩; replace c0 := kept_cell hw' c0; replace c1 := kept_cell hw' c1; replace hb := hb.trans (hw'.mono hb.size); clear hw') | (go_at_call 24; refine (Z2 _ _).mono ?_; rintro e w' ⟨rfl, hw'⟩; replace c0 := kept_cell hw' c0; replace c1 := kept_cell hw' c1; replace hb := hb.trans (hw'.mono hb.size); clear hw') | (go_at_call 25; refine (FK _ (T.later hb)).mono ?_; rintro e w' ⟨hw', rfl⟩; replace c0 := kept_cell hw' c0; replace c1 := kept_cell hw' c1; replace hb := hb.trans (hw'.mono hb.size); clear hw') | (go_at_call 14; refine (Z _ _).mono ?_; rintro e w' ⟨rfl, rfl⟩))
          go_roundw
          case rel => exact ⟨j + 1, by omega, by go_num, hb, c0, c1⟩
          case measure => simp [intOf]; omega
      · have FK := fun W T' => FI a1 W T'
        have FRk := fun W => FR a1 W
        clear N N2 KK KK2 Z Z2 FI FR
        cases hp : findP (-1) a1 with
        | none =>
          rw [hp] at FK FRk
          simp only [pairV] at FK FRk
          clear hp
          go_wp2_with (first | (go_at_call 25; refine (FK _ (T.later hb)).mono ?_; rintro e w' ⟨hw', rfl⟩; replace hb := hb.trans (hw'.mono hb.size); clear hw') | (go_at_call 26; refine (FRk _).mono ?_; rintro e w' ⟨hw', rfl⟩; replace hb := hb.trans (hw'.mono hb.size); clear hw'))
          go_ret
          exact ⟨rfl, hb⟩
        | some r =>
          rw [hp] at FK FRk
          simp only [pairV] at FK FRk
          clear hp
          go_wp2_with (first | (go_at_call 25; refine (FK _ (T.later hb)).mono ?_; rintro e w' ⟨hw', rfl⟩; replace hb := hb.trans (hw'.mono hb.size); clear hw') | (go_at_call 26; refine (FRk _).mono ?_; rintro e w' ⟨hw', rfl⟩; replace hb := hb.trans (hw'.mono hb.size); clear hw'))
          go_ret
          exact ⟨rfl, hb⟩

/-! ### The row's step -/
set_option maxRecDepth 100000 in
theorem lifted (os : Os) (started : os.Started) (H : Type) (enc : TypeId × Value → H) :
    ReturnsInHanded {} Tryd.checked os 6 .any (fun w args => (Rows.isaNamesSpec.pre enc Tryd.prog Tryd.f6 [] false w args ∧ laidMetH Tryd.prog laid4 w) ∧ sizedMet enc Tryd.prog Tryd.f6 (OpenSpec.ofChange Rows.isaNamesSpec) false w args)
      (Rows.isaNamesSpec.post enc Tryd.prog Tryd.f6 false true false false) := by
  refine returnsInHanded_of_change_and (C := Tryd.checked) (X := fun w _ => laidMetH Tryd.prog laid4 w) (fun _ _ _ hh h => h.of_heap hh) own started (by kernel_rfl) Tryd.func6
    (ChangeSpec.witness_shaped (enc := enc) (C := Tryd.checked) (os := os) (X := fun w _ => laidMetH Tryd.prog laid4 w) false (World.doorLaid Tryd.prog 400 os) #[.int .i64 0, .string ByteArray.empty] 8 rfl (World.shaped_of_RefB (by kernel_rfl) (by kernel_rfl)) (by kernel_rfl) (by kernel_rfl) (by kernel_rfl) (door_met os _)) ?_
  intro W base args ds gs before hval0 hW _ _ hL _
  have hval : ∀ (j : Nat) t v, Tryd.f6.params[j]? = some t → args[j]? = some v → Value.okWide Tryd.prog W .any base t v := hval0
  have hW' := hW
  obtain ⟨p, q, hA0, hV, rfl, hfz, hnd⟩ := hW
  have hA : DataW.TrodAll enc Tryd.prog W 0 (fun _ => true) true Tryd.f6.params.toList args.toList ds p := hA0
  rw [Tryd.params6] at hA hval
  obtain ⟨v0, vs0, d0, ds0, p0, q0, hargs, rfl, rfl, h0, r0⟩ := trodAll_cons hA
  obtain ⟨v1, vs1, d1, ds1, p1, q1, rfl, rfl, rfl, h1, r1⟩ := trodAll_cons r0
  obtain ⟨rfl, rfl, rfl⟩ := trodAll_nil r1
  obtain rfl : args = #[v0, v1] := by cases args; simp_all
  obtain ⟨rfl, rfl⟩ := trodVars_none hV
  obtain ⟨a0, rfl, rfl, rfl, w0⟩ := open_int Tryd.underlying3 (hval 0 3 v0 rfl rfl) h0
  obtain ⟨a1, rfl, rfl, rfl, w1⟩ := open_string Tryd.underlying9 (hval 1 9 v1 rfl rfl) h1
  clear hA0 hval0
  simp only [List.append_nil] at hW'
  refine (walk a0 a1 w0 w1 W (tab_of_laid hL)).mono fun e W' ⟨he, hg⟩ => ?_
  subst he
  exact ⟨_, rfl, _, _, _, [], [], [], hW', (trodAll_cons_mk (shut_bool Tryd.underlying4 _) trodAll_mk0), (trodAll_cons_mk (shut_int Tryd.underlying3 w0) (trodAll_cons_mk (shut_string Tryd.underlying9 w1) trodAll_mk0)), rfl, hg.frame _, fun h => by cases h⟩

theorem row : Rows.IsaNamesSaid :=
  OpenClaim.holds_of_wide 6 Tryd.f6 rfl rfl rfl rfl rfl rfl rfl ⟨rfl, rfl, rfl, rfl, rfl⟩ rfl rfl rfl rfl rfl (by kernel_rfl) Tryd.func6 (by kernel_rfl)
    (of_decide_eq_true (by kernel_rfl)) (by unfold Func.isWrapper; first | (rw [if_pos (by decide +kernel)]; kernel_rfl) | (rw [if_neg (by decide +kernel)]; exact ⟨rfl, rfl⟩))
    (fun os started H enc _ => lifted os started H enc)

/-- The statement. -/
theorem proved : Rows.IsaNamesCardSaid :=
  Claim7.holds_tied_plain_at .later [] [.listed, .data, .data, .data] true (true, "f8a61b81d74079cffdfbdb9b506f022756fa9b39eb6237848ba27f725c41c242") false
    row (fun _ h => by cases h) (by kernel_rfl) (fun _ h => by cases h) isaNames_row_tie rfl ⟨rfl, rfl⟩ (by kernel_rfl) rfl
    (fun f fn hf hfn => by
      obtain rfl : f = 6 := Option.some.inj ((show Tryd.prog.funcNamed "letterpress/letterpresslaw2.IsaNames" = some 6 by kernel_rfl).symm.trans hf) |>.symm
      obtain rfl : fn = Tryd.f6 := (Option.some.inj (Tryd.func6.symm.trans hfn)).symm
      exact ⟨by kernel_rfl, fun j t ht => by
        rw [Tryd.params6] at ht
        have hm : t ∈ [3, 9] := by simpa using Array.mem_of_getElem? ht
        have hall : ([3, 9].all fun u => !Tryd.prog.wantsStandIn u) = true := by kernel_rfl
        exact (show Tryd.prog.wantsStandIn t = false by simpa using List.all_eq_true.1 hall t hm)⟩)
    (by kernel_rfl)
#print axioms proved
end Go.Proofs.YtlgimlddcmaboaaDoor.isaNames
