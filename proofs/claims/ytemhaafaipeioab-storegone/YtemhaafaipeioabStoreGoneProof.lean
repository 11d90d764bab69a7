/- For every number the law StoreGone returns true, and it reads afterwards as before: what is gone is not read, and has changed; written again it is read. -/
import Derived.Test.YtemhaafaipeioabRows
import Derived.WalkKit
import Derived.ProofKit
import Derived.OpenShut
import Derived.Carry
import Derived.BigQuiet
import Derived.BigRegion
import Derived.Deep.LoopGhost
import Derived.Lib.QuietBelow
import Derived.Test.YtemhaafaipeioabKnown
import Derived.Test.YtemhaafaipeioabArgs
import Derived.Test.YtemhaafaipeioabWithin
namespace Go.Proofs.Ytemhaafaipeioab.storeGone
open Go.ChangeShapes Go.WideShapes Go.ChangeAt Go.RowKit
open Go.ChangeMaps (open_string shut_string)
open Go.Sort (grow)
set_option linter.unusedVariables false
set_option linter.unusedSimpArgs false

theorem own : ownKnob Try.prog.godebug = none := by kernel_rfl

def wrG (i : Nat) : Wr := if i % 3 = 2 then ⟨⟨#[97]⟩, ⟨#[]⟩, true⟩ else ⟨⟨#[97]⟩, ⟨#[UInt8.ofNat (97 + i)]⟩, false⟩
def sG (i : Nat) : Sto := ⟨1000, i, (List.range i).map fun j => ⟨wrG j, (j : Int) + 1⟩, []⟩

theorem sG_key (j : Nat) : (wrG j).key = ⟨#[97]⟩ := by unfold wrG; split <;> rfl

theorem sG_commit (i : Nat) (h : i < 20) : commitP (sG i) [wrG i] = (sG (i + 1), (i : Int) + 1, 0) := by
  unfold commitP sG
  rw [if_neg (by simp; omega)]
  simp only [List.range_succ, List.map_append, List.map_cons, List.map_nil]
  rfl

theorem sG_last (i : Nat) (t : Int) (h : (i : Int) + 1 ≤ t) : lastP ⟨#[97]⟩ t (sG (i + 1)).v = some ⟨wrG i, (i : Int) + 1⟩ := by
  unfold sG
  simp only [List.range_succ, List.map_append, List.map_cons, List.map_nil]
  rw [lastP_snoc, if_pos]
  simp [Ver.hit, sG_key, h]

theorem sG_read (i : Nat) : readP (sG (i + 1)) ⟨#[97]⟩ ((i : Int) + 1) = ((wrG i).val, !(wrG i).gone) := by
  unfold readP
  rw [sG_last i _ (Int.le_refl _)]
  simp only
  unfold wrG
  split <;> rfl

theorem sG_changed (i : Nat) (t : Int) : changedP (sG (i + 1)) ⟨#[97]⟩ t = decide (t < (i : Int) + 1) := by
  unfold changedP
  rw [sG_last i _ (by show (i : Int) + 1 ≤ ((i + 1 : Nat) : Int); omega)]

theorem sG_other (i : Nat) (t : Int) : changedP (sG i) ⟨#[98]⟩ t = false := by
  unfold changedP
  cases h : lastP ⟨#[98]⟩ (sG i).stamp (sG i).v with
  | none => rfl
  | some x =>
    exfalso
    obtain ⟨h1, h2⟩ := lastP_some h
    obtain ⟨j, _, rfl⟩ := List.mem_map.1 h1
    unfold Ver.hit at h2
    simp [sG_key] at h2

theorem slice_abc (i : Nat) (h : i < 20) (w : World) : (Instr.slice 9 (.string ⟨#[97, 98, 99, 100, 101, 102, 103, 104, 105, 106, 107, 108, 109, 110, 111, 112, 113, 114, 115, 116]⟩) (some (.int .i64 (i : Int))) (some (.int .i64 ((i : Int) + 1))) none).run Try.prog w = .ok (.string ⟨#[UInt8.ofNat (97 + i)]⟩) w := by
  rw [run_slice_string (P := Try.prog) (t := 9) (h := Try.underlying9) (h0 := by omega) (h1 := by omega) (h2 := by simp [ByteArray.size]; omega)]
  have h : ∀ i : Fin 20, (ByteArray.extract ⟨#[97, 98, 99, 100, 101, 102, 103, 104, 105, 106, 107, 108, 109, 110, 111, 112, 113, 114, 115, 116]⟩ (((i.val : Nat) : Int)).toNat (((i.val : Nat) : Int) + 1).toNat) = ⟨#[UInt8.ofNat (97 + i.val)]⟩ := by decide +kernel
  rw [h ⟨i, by omega⟩]

/-! ### The walk -/
set_option maxHeartbeats 8000000 in
set_option maxRecDepth 20000 in
theorem walk (a0 : Int) (w0 : (Lit.int .i64 a0).wf = true) (w : World) :
    Calls Try.prog 5 #[.int .i64 a0] w fun e w' => e = .returned (.bool true) ∧ Below w.heap.size w w' := by
  have K := known_any w
  go_enter Try.func5, Try.ntmps5
  go_wp2_with fail
  refine K.mono ?_
  rintro e w1 ⟨rfl, hb1⟩
  clear K
  have N := new_own w.heap.size w w1 1000 (by omega) hb1 hb1.size
  clear hb1
  go_wp2_with fail
  refine N.mono ?_
  rintro e w2 ⟨p, S, rfl, O, ht, hp, -, -⟩
  clear N
  have WI := within_any a0 20 (by omega) (by omega) w2
  go_wp2_with fail
  refine WI.mono ?_
  rintro e w3 ⟨rfl, rfl⟩
  clear WI
  obtain ⟨k, hk, hk20⟩ : ∃ k : Nat, a0 % 20 = (k : Int) ∧ k < 20 := ⟨(a0 % 20).toNat, by omega, by omega⟩
  rw [hk]
  clear hk w0
  go_wp2_with fail
  have HQ : Hid (Own w.heap.size p w w3 S (sG 0) ∧ S.tot ≤ 0) := ⟨O, by omega⟩
  clear O ht hp
  go_loopg [5] k (fun kx s5 wr => ∃ (i : Nat) (S : St), s5 = .int .i64 i ∧ i ≤ k ∧ k - i ≤ kx ∧ Hid (Own w.heap.size p w wr S (sG i) ∧ S.tot ≤ i))
  case atStart => exact ⟨0, S, rfl, Nat.zero_le _, by omega, HQ⟩
  case round =>
    clear HQ
    obtain ⟨i, S, rfl, hi, hg, Q⟩ := hrel
    by_cases hik : i < k
    · have hikI : (i : Int) < (k : Int) := by omega
      have hi0 : (0 : Int) ≤ (i : Int) := by omega
      have hi20 : (i : Int) < 20 := by omega
      have SL := slice_abc i (by omega) wr
      obtain ⟨O, ht⟩ := Q.out
      have HF : Hid (i < k ∧ k < 20 ∧ k - i ≤ gk ∧ S.tot ≤ i) := ⟨hik, hk20, hg, ht⟩
      have HI : Hid (i < 20) := by have := HF.out; exact (by omega : i < 20)
      obtain ⟨cv, hcv⟩ : ∃ cv : ByteArray, cv = ⟨#[UInt8.ofNat (97 + i)]⟩ := ⟨_, rfl⟩
      rw [← hcv] at SL
      have hcs : Hid (cv.size = 1) := by rw [hcv]; rfl
      clear Q hi hg hik ht
      by_cases hm : i % 3 = 2
      · have hmI : (i : Int).tmod 3 = 2 := by rw [Int.tmod_eq_emod_of_nonneg hi0]; omega
        have hw : Hid (wrG i = ⟨⟨#[97]⟩, ⟨#[]⟩, true⟩) := if_pos hm
        clear hm hcv
        go_wp2_with fail
        have bn := (below_new wr (.cells #[.string ⟨#[97]⟩, .string ⟨#[]⟩, .bool true] 37))
        have hs1 : (wr.alloc (.cells #[.string ⟨#[97]⟩, .string ⟨#[]⟩, .bool true] 37)).heap.size = wr.heap.size + 1 := by simp
        have BW := Blk.new wr #[.string ⟨#[97]⟩, .string ⟨#[]⟩, .bool true] 37
        have hnl : ∀ b, wr.heap.size ≤ b → ¬ (S.lab b).isSome := fun b hb h => by
          have := O.store.lt b h
          omega
        replace O := O.later bn
        generalize wr.alloc (.cells #[.string ⟨#[97]⟩, .string ⟨#[]⟩, .bool true] 37) = W1 at *
        have bn1 := below_new W1 (.cells #[.string ⟨#[97]⟩, .string ⟨#[]⟩, .bool true] 37)
        have CM := commit_own (O.later bn1) (some ⟨W1.heap.size, 0, none⟩) 1 [wrG i] (by rw [hw.out]; exact ws_one W1 ⟨⟨#[97]⟩, ⟨#[]⟩, true⟩) (fun b o e => by
          injection e with e
          injection e with e1 e2
          exact hnl b (by omega)) (by
          intro x hx
          have hx : x = wrG i := by simpa using hx
          subst hx
          rw [hw.out]
          exact ⟨by show (1 : Nat) ≤ _; omega, by show (0 : Nat) ≤ _; omega⟩) (by have := HF.out; show S.tot + 1 ≤ _; omega) (by show ((i : Nat) : Int) ≤ _; omega)
        rw [sG_commit i HI.out, hs1] at CM
        simp only [List.length_cons, List.length_nil, Nat.zero_add] at CM
        have hnx : ¬ (S.lab wr.heap.size).isSome := hnl _ (Nat.le_refl _)
        replace BW := BW.of_block (bn1.block wr.heap.size (by omega))
        clear O hnl bn bn1
        refine CM.mono ?_
        rintro e w4 ⟨S1, rfl, O1, ST, ht1, -⟩
        clear CM
        replace BW := BW.of_block (ST.only.block wr.heap.size BW.lt hnx)
        have HF2 : Hid (S1.tot ≤ i + 1) := by have := HF.out; exact (by omega : S1.tot ≤ i + 1)
        clear ST hnx ht1 hs1
        generalize wr.heap.size = xb at *
        have R := read_own O1 ⟨#[97]⟩ ((i : Int) + 1) (by show (1 : Nat) ≤ _; unfold maxLen; omega)
        rw [sG_read, hw.out] at R
        simp only [Bool.not_true, Bool.not_false] at R
        go_wp2_with fail
        refine R.mono ?_
        rintro e w5 ⟨rfl, hb5⟩
        clear R
        replace O1 := O1.later hb5
        replace BW := BW.of_block (hb5.block xb BW.lt)
        clear hb5
        have d1 := BW.cell (i := 1) (v := .string ⟨#[]⟩) rfl
        have CH := changed_own O1 ⟨#[97]⟩ (i : Int) (by show (1 : Nat) ≤ _; unfold maxLen; omega)
        rw [sG_changed, decide_eq_true (show (i : Int) < (i : Int) + 1 by omega)] at CH
        go_wp2_with fail
        refine CH.mono ?_
        rintro e w6 ⟨rfl, n6, rfl⟩
        clear CH
        replace O1 := O1.later (below_drewN w5 n6)
        replace d1 : (w5.drewN n6).cell? ⟨xb, 1, none⟩ = some (.string ⟨#[]⟩) := d1
        generalize w5.drewN n6 = w6 at *
        have CH := changed_own O1 ⟨#[97]⟩ ((i : Int) + 1) (by show (1 : Nat) ≤ _; unfold maxLen; omega)
        rw [sG_changed, decide_eq_false (show ¬ (i : Int) + 1 < (i : Int) + 1 by omega)] at CH
        go_wp2_with fail
        refine CH.mono ?_
        rintro e w7 ⟨rfl, n7, rfl⟩
        clear CH
        replace O1 := O1.later (below_drewN w6 n7)
        generalize w6.drewN n7 = w7 at *
        have CH := changed_own O1 ⟨#[98]⟩ 0 (by show (1 : Nat) ≤ _; unfold maxLen; omega)
        rw [sG_other] at CH
        go_wp2_with fail
        refine CH.mono ?_
        rintro e w8 ⟨rfl, n8, rfl⟩
        clear CH
        replace O1 := O1.later (below_drewN w7 n8)
        generalize w7.drewN n8 = w8 at *
        have HQ : Hid (Own w.heap.size p w w8 S1 (sG (i + 1)) ∧ S1.tot ≤ i + 1) := ⟨O1, HF2.out⟩
        obtain ⟨f1, f2, f3, f4⟩ := HF.out
        clear O1 BW d1 SL hw hcs HF2
        go_wp2_with fail
        go_roundg (k - (i + 1))
        case rel => exact ⟨i + 1, S1, by go_num, by omega, Nat.le_refl _, HQ⟩
        case measure => omega
      · have hmI : ((i : Int) % 3 == 2) = false := by simp; omega
        have hmI3 : ((i : Int) % 3 != 2) = true := by simp; omega
        have hmI4 : ¬ ((i : Int) % 3 = 2) := by omega
        have hw : Hid (wrG i = ⟨⟨#[97]⟩, cv, false⟩) := by rw [hcv]; exact if_neg hm
        clear hm hcv
        go_wp2_with fail
        have bn := (below_new wr (.cells #[.string ⟨#[97]⟩, .string cv, .bool false] 37))
        have hs1 : (wr.alloc (.cells #[.string ⟨#[97]⟩, .string cv, .bool false] 37)).heap.size = wr.heap.size + 1 := by simp
        have BW := Blk.new wr #[.string ⟨#[97]⟩, .string cv, .bool false] 37
        have hnl : ∀ b, wr.heap.size ≤ b → ¬ (S.lab b).isSome := fun b hb h => by
          have := O.store.lt b h
          omega
        replace O := O.later bn
        generalize wr.alloc (.cells #[.string ⟨#[97]⟩, .string cv, .bool false] 37) = W1 at *
        have bn1 := below_new W1 (.cells #[.string ⟨#[97]⟩, .string cv, .bool false] 37)
        have CM := commit_own (O.later bn1) (some ⟨W1.heap.size, 0, none⟩) 1 [wrG i] (by rw [hw.out]; exact ws_one W1 ⟨⟨#[97]⟩, cv, false⟩) (fun b o e => by
          injection e with e
          injection e with e1 e2
          exact hnl b (by omega)) (by
          intro x hx
          have hx : x = wrG i := by simpa using hx
          subst hx
          rw [hw.out]
          exact ⟨by show (1 : Nat) ≤ _; omega, by show cv.size ≤ _; have := hcs.out; omega⟩) (by have := HF.out; show S.tot + 1 ≤ _; omega) (by show ((i : Nat) : Int) ≤ _; omega)
        rw [sG_commit i HI.out, hs1] at CM
        simp only [List.length_cons, List.length_nil, Nat.zero_add] at CM
        have hnx : ¬ (S.lab wr.heap.size).isSome := hnl _ (Nat.le_refl _)
        replace BW := BW.of_block (bn1.block wr.heap.size (by omega))
        clear O hnl bn bn1
        refine CM.mono ?_
        rintro e w4 ⟨S1, rfl, O1, ST, ht1, -⟩
        clear CM
        replace BW := BW.of_block (ST.only.block wr.heap.size BW.lt hnx)
        have HF2 : Hid (S1.tot ≤ i + 1) := by have := HF.out; exact (by omega : S1.tot ≤ i + 1)
        clear ST hnx ht1 hs1
        generalize wr.heap.size = xb at *
        have R := read_own O1 ⟨#[97]⟩ ((i : Int) + 1) (by show (1 : Nat) ≤ _; unfold maxLen; omega)
        rw [sG_read, hw.out] at R
        simp only [Bool.not_true, Bool.not_false] at R
        go_wp2_with fail
        refine R.mono ?_
        rintro e w5 ⟨rfl, hb5⟩
        clear R
        replace O1 := O1.later hb5
        replace BW := BW.of_block (hb5.block xb BW.lt)
        clear hb5
        have d1 := BW.cell (i := 1) (v := .string cv) rfl
        have CH := changed_own O1 ⟨#[97]⟩ (i : Int) (by show (1 : Nat) ≤ _; unfold maxLen; omega)
        rw [sG_changed, decide_eq_true (show (i : Int) < (i : Int) + 1 by omega)] at CH
        go_wp2_with fail
        refine CH.mono ?_
        rintro e w6 ⟨rfl, n6, rfl⟩
        clear CH
        replace O1 := O1.later (below_drewN w5 n6)
        replace d1 : (w5.drewN n6).cell? ⟨xb, 1, none⟩ = some (.string cv) := d1
        generalize w5.drewN n6 = w6 at *
        have CH := changed_own O1 ⟨#[97]⟩ ((i : Int) + 1) (by show (1 : Nat) ≤ _; unfold maxLen; omega)
        rw [sG_changed, decide_eq_false (show ¬ (i : Int) + 1 < (i : Int) + 1 by omega)] at CH
        go_wp2_with fail
        refine CH.mono ?_
        rintro e w7 ⟨rfl, n7, rfl⟩
        clear CH
        replace O1 := O1.later (below_drewN w6 n7)
        generalize w6.drewN n7 = w7 at *
        have CH := changed_own O1 ⟨#[98]⟩ 0 (by show (1 : Nat) ≤ _; unfold maxLen; omega)
        rw [sG_other] at CH
        go_wp2_with fail
        refine CH.mono ?_
        rintro e w8 ⟨rfl, n8, rfl⟩
        clear CH
        replace O1 := O1.later (below_drewN w7 n8)
        generalize w7.drewN n8 = w8 at *
        have HQ : Hid (Own w.heap.size p w w8 S1 (sG (i + 1)) ∧ S1.tot ≤ i + 1) := ⟨O1, HF2.out⟩
        obtain ⟨f1, f2, f3, f4⟩ := HF.out
        clear O1 BW d1 SL hw hcs HF2
        go_wp2_with fail
        go_roundg (k - (i + 1))
        case rel => exact ⟨i + 1, S1, by go_num, by omega, Nat.le_refl _, HQ⟩
        case measure => omega
    · obtain rfl : i = k := by omega
      have C := count_own Q.out.1
      have hl : (sG i).v.length = i := by simp [sG]
      rw [hl] at C
      have HB : Hid (Below w.heap.size w wr) := Q.out.1.below
      clear Q hi hg hik hl
      go_wp2_with fail
      refine C.mono ?_
      rintro e w4 ⟨rfl, rfl⟩
      clear C
      go_wp2_with fail
      go_ret
      exact ⟨by simp, HB.out⟩

/-! ### The row's step -/
set_option maxRecDepth 100000 in
theorem lifted (os : Os) (started : os.Started) (H : Type) (enc : TypeId × Value → H) :
    ReturnsInHanded {} Try.checked os 5 .any (Rows.storeGoneSpec.pre6 enc Try.prog Try.f5 Rows.storeGoneRow.domain false) (Rows.storeGoneSpec.post enc Try.prog Try.f5 false true false false) := by
  refine returnsInHanded_of_change (C := Try.checked) own started (by kernel_rfl) Try.func5
    (ChangeSpec.witness6 (enc := enc) (C := Try.checked) false ⟨#[], #[.int .i64 0], []⟩ 8 (by kernel_rfl) (by kernel_rfl) (by kernel_rfl) (by kernel_rfl)) ?_
  intro W base args ds gs before hval0 hW hcnd _
  have hval : ∀ (j : Nat) t v, Try.f5.params[j]? = some t → args[j]? = some v → Value.okWide Try.prog W .any base t v := hval0
  have hW' := hW
  obtain ⟨p, q, hA0, hV, rfl, hfz, hnd⟩ := hW
  have hA : DataW.TrodAll enc Try.prog W 0 (fun _ => true) true Try.f5.params.toList args.toList ds p := hA0
  rw [Try.params5] at hA hval
  obtain ⟨v0, vs0, d0, ds0, p0, q0, hargs, rfl, rfl, h0, r0⟩ := trodAll_cons hA
  obtain ⟨rfl, rfl, rfl⟩ := trodAll_nil r0
  obtain rfl : args = #[v0] := by cases args; simp_all
  obtain ⟨rfl, rfl⟩ := trodVars_none hV
  obtain ⟨a0, rfl, rfl, rfl, w0⟩ := open_int Try.underlying3 (hval 0 3 v0 rfl rfl) h0
  clear hA0 hval0
  simp only [List.append_nil, List.nil_append] at hW'
  refine (walk a0 w0 W).mono fun e W' ⟨he, hg⟩ => ?_
  subst he
  exact ⟨_, rfl, _, _, _, [], _, [], hW', (trodAll_cons_mk (shut_bool Try.underlying4 _) trodAll_mk0), (trodAll_cons_mk (shut_int Try.underlying3 w0) trodAll_mk0), rfl, hg.frame _, fun h => by cases h⟩

theorem row : Rows.StoreGoneSaid :=
  OpenClaim.holds_of_wide 5 Try.f5 rfl rfl rfl rfl rfl rfl rfl ⟨rfl, rfl, rfl, rfl, rfl⟩ rfl rfl rfl rfl rfl (by kernel_rfl) Try.func5 (by kernel_rfl)
    (of_decide_eq_true (by kernel_rfl)) (by unfold Func.isWrapper; first | (rw [if_pos (by decide +kernel)]; kernel_rfl) | (rw [if_neg (by decide +kernel)]; exact ⟨rfl, rfl⟩))
    (fun os started H enc _ => lifted os started H enc)

/-- The statement. -/
theorem proved : Rows.StoreGoneSaid :=
  row
#print axioms proved
end Go.Proofs.Ytemhaafaipeioab.storeGone
