/- The contract of single, and of Parse. -/
import Derived.Test.YtopfnfmglnjljaaGreatDoorInside
namespace Go.Proofs.YtopfnfmglnjljaaGreatDoor
open Go.ChangeShapes Go.WideShapes Go.ChangeAt Go.RowKit
set_option linter.unusedVariables false
set_option linter.unusedSimpArgs false

/-- What stands by itself, by what is behind a minus, a bracket. -/
def singleG (negQ brQ : Rd) : Rd := fun s =>
  if (tookP s [45]).2 then negQ (tookP s [45]).1
  else if (tookP (tookP s [45]).1 [40]).2 then brQ (tookP (tookP s [45]).1 [40]).1
  else if (tookP (tookP (tookP s [45]).1 [40]).1 [46]).2 then some (.here, (tookP (tookP (tookP s [45]).1 [40]).1 [46]).1)
  else (leafP ((tookP (tookP (tookP s [45]).1 [40]).1 [46]).1.takeWhile runB)).map fun x => (x, (tookP (tookP (tookP s [45]).1 [40]).1 [46]).1.dropWhile runB)

theorem singleP_zero : singleP 0 = singleG (fun _ => none) (fun _ => none) := by
  funext s
  unfold singleP singleG
  rfl
theorem singleP_succ (n : Nat) : singleP (n + 1) = singleG (negP (singleP n)) (brackP (orsP (singleP n))) := by
  funext s
  rw [singleP]
  unfold singleG negP brackP
  rfl

/-- inside, handed a reader of that number. -/
def InsideOk (b d : Nat) (g : FuncId) (p : Rd) : Prop :=
  ∀ (W : World) (s : Bs), Tab W → Rdr W b s d → s.length ≤ 35184372088832 → Calls Tryz.prog 107 #[.pointer (some ⟨b, 0, none⟩), .func (.func g) #[.pointer (some ⟨b, 0, none⟩)] #[]] W fun e W' => Beside b W W' ∧ Read W.heap.size b d W' e (p s)

theorem tookP_le (s t : Bs) : (tookP s t).1.length ≤ s.length := by
  have hk : (skipP s).length ≤ s.length := List.Sublist.length_le (List.dropWhile_sublist _)
  unfold tookP Go.Lib.trimPrefix
  simp only
  split
  · rw [List.length_drop]; omega
  · exact hk

theorem takeWhile_run : ∀ (s : Bs), ∀ c ∈ s.takeWhile runB, runB c = true
  | [], c, h => by simp at h
  | a :: s, c, h => by
    cases ha : runB a with
    | false => simp [List.takeWhile, ha] at h
    | true =>
      simp only [List.takeWhile, ha, List.mem_cons] at h
      rcases h with rfl | h
      · exact ha
      · exact takeWhile_run s c h

theorem leaf_read (b d : Nat) (run rest : Bs) (hr : ∀ c ∈ run, runB c = true) (hl : run.length ≤ 35184372088832) (w : World) (T : Tab w) (h : Rdr w b rest d) :
    Calls Tryz.prog 110 #[.string (bs run)] w fun e w' => Beside b w w' ∧ Read w.heap.size b d w' e ((leafP run).map fun x => (x, rest)) := by
  refine (leaf_any run hr hl w T).mono ?_
  rintro e w' ⟨hb, rfl⟩
  refine ⟨Beside.of hb h.lt, ?_⟩
  have h2 := h.later hb
  unfold leafP
  split
  · exact ⟨_, rfl, h2, rfl⟩
  · cases numberP run with
    | none => exact ⟨_, rest, rfl, h2, _, _, _, _, _, _, rfl⟩
    | some n => exact ⟨_, rfl, h2, rfl⟩

set_option maxHeartbeats 3200000 in
set_option maxRecDepth 100000 in
theorem single_ok (b d : Nat) (hg : gtop ≤ b) (negQ brQ : Rd) (hn : InsideOk b d 108 negQ) (hb : InsideOk b d 109 brQ) : PartOk b d 101 (singleG negQ brQ) := by
  intro w s T h hl
  have hbw := h.lt
  have h0 := below_new w (.cells #[.int .i64 0, .int .i64 0, .string ⟨#[]⟩, .slice none 0 0] 27)
  have R0 := Blk.new w 27 (.int .i64 0) (.int .i64 0) (.string ⟨#[]⟩) (.slice none 0 0)
  have hz0 : (w.alloc (.cells #[.int .i64 0, .int .i64 0, .string ⟨#[]⟩, .slice none 0 0] 27)).heap.size = w.heap.size + 1 := by simp
  have hB0 := (Beside.refl b w).alloc hbw (.cells #[.int .i64 0, .int .i64 0, .string ⟨#[]⟩, .slice none 0 0] 27)
  have T0 := T.later h0
  have H0 := h.later h0
  have K1 := took_any b s [45] d _ H0
  rw [show bs [45] = ⟨#[45]⟩ from rfl] at K1
  have l1 := tookP_le s [45]
  have hmf := hmf
  unfold singleG
  cases ht1 : (tookP s [45]).2 with
  | true =>
    rw [ht1] at K1
    rw [if_pos rfl]
    go_enter Tryz.func101, Tryz.ntmps101
    go_wp2_with fail
    generalize w.alloc (.cells #[.int .i64 0, .int .i64 0, .string ⟨#[]⟩, .slice none 0 0] 27) = w0 at *
    refine K1.mono ?_
    rintro e w1 ⟨rfl, hb1, hR1⟩
    have T1 := T0.beside hb1 hg
    have R1 := R0.beside hb1 (by omega)
    have hB1 := hB0.trans hb1
    have hs1 := hb1.size
    clear K1 R0 H0 T0
    have C := hn w1 _ T1 hR1 (by omega)
    go_wp2_with fail

    refine C.mono ?_
    rintro e w9 ⟨hb9, hr9⟩
    obtain ⟨k, j, t, q, l, c, rfl⟩ := hr9.form
    have R9 := R1.beside hb9 (by omega)
    obtain ⟨x0, x1, x2, x3, g0, g1, g2, g3⟩ := id R9
    have hl9 := R9.lt
    clear C
    go_wp2
    have R10 := R9.put (.int .i64 k) (.int .i64 j) (.string t) (.slice q l c)
    obtain ⟨y0, y1, y2, y3, _, _, _, _⟩ := R10
    have hE := (hr9.put (R := w.heap.size) (by omega) (by omega) (.int .i64 k) (.int .i64 j) (.string t) (.slice q l c)).low (m := w.heap.size) (by omega)
    have hF := (hB1.trans hb9).putNew hbw (Nat.le_refl _) (.int .i64 k) (.int .i64 j) (.string t) (.slice q l c)
    unfold put4 at y0 y1 y2 y3
    exact bodyPost_ret (v := .tuple #[.agg #[.int .i64 k, .int .i64 j, .string t, .slice q l c], .bool (negQ (tookP s [45]).1).isSome]) (by simp [results, Tryz.results101, go_sem, y0, y1, y2, y3]) rfl ⟨hF, hE⟩
  | false =>
    rw [ht1] at K1
    rw [if_neg (by simp)]
    have l2 := tookP_le (tookP s [45]).1 [40]
    cases ht2 : (tookP (tookP s [45]).1 [40]).2 with
    | true =>
      rw [if_pos rfl]
      go_enter Tryz.func101, Tryz.ntmps101
      go_wp2_with fail
      generalize w.alloc (.cells #[.int .i64 0, .int .i64 0, .string ⟨#[]⟩, .slice none 0 0] 27) = w0 at *
      refine K1.mono ?_
      rintro e w1 ⟨rfl, hb1, hR1⟩
      have T1 := T0.beside hb1 hg
      have R1 := R0.beside hb1 (by omega)
      have hB1 := hB0.trans hb1
      have hs1 := hb1.size
      clear K1 R0 H0 T0
      have K2 := took_any b (tookP s [45]).1 [40] d w1 hR1
      rw [show bs [40] = ⟨#[40]⟩ from rfl, ht2] at K2
      go_wp2_with fail
      refine K2.mono ?_
      rintro e w2 ⟨rfl, hb2, hR2⟩
      have T2 := T1.beside hb2 hg
      have R2 := R1.beside hb2 (by omega)
      have hB2 := hB1.trans hb2
      have hs2 := hb2.size
      clear K2 R1 hR1 T1
      have C := hb w2 _ T2 hR2 (by omega)
      go_wp2_with fail

      refine C.mono ?_
      rintro e w9 ⟨hb9, hr9⟩
      obtain ⟨k, j, t, q, l, c, rfl⟩ := hr9.form
      have R9 := R2.beside hb9 (by omega)
      obtain ⟨x0, x1, x2, x3, g0, g1, g2, g3⟩ := id R9
      have hl9 := R9.lt
      clear C
      go_wp2
      have R10 := R9.put (.int .i64 k) (.int .i64 j) (.string t) (.slice q l c)
      obtain ⟨y0, y1, y2, y3, _, _, _, _⟩ := R10
      have hE := (hr9.put (R := w.heap.size) (by omega) (by omega) (.int .i64 k) (.int .i64 j) (.string t) (.slice q l c)).low (m := w.heap.size) (by omega)
      have hF := (hB2.trans hb9).putNew hbw (Nat.le_refl _) (.int .i64 k) (.int .i64 j) (.string t) (.slice q l c)
      unfold put4 at y0 y1 y2 y3
      exact bodyPost_ret (v := .tuple #[.agg #[.int .i64 k, .int .i64 j, .string t, .slice q l c], .bool (brQ (tookP (tookP s [45]).1 [40]).1).isSome]) (by simp [results, Tryz.results101, go_sem, y0, y1, y2, y3]) rfl ⟨hF, hE⟩
    | false =>
      rw [if_neg (by simp)]
      have l3 := tookP_le (tookP (tookP s [45]).1 [40]).1 [46]
      cases ht3 : (tookP (tookP (tookP s [45]).1 [40]).1 [46]).2 with
      | true =>
        rw [if_pos rfl]
        go_enter Tryz.func101, Tryz.ntmps101
        go_wp2_with fail
        generalize w.alloc (.cells #[.int .i64 0, .int .i64 0, .string ⟨#[]⟩, .slice none 0 0] 27) = w0 at *
        refine K1.mono ?_
        rintro e w1 ⟨rfl, hb1, hR1⟩
        have T1 := T0.beside hb1 hg
        have R1 := R0.beside hb1 (by omega)
        have hB1 := hB0.trans hb1
        have hs1 := hb1.size
        clear K1 R0 H0 T0
        have K2 := took_any b (tookP s [45]).1 [40] d w1 hR1
        rw [show bs [40] = ⟨#[40]⟩ from rfl, ht2] at K2
        go_wp2_with fail
        refine K2.mono ?_
        rintro e w2 ⟨rfl, hb2, hR2⟩
        have T2 := T1.beside hb2 hg
        have R2 := R1.beside hb2 (by omega)
        have hB2 := hB1.trans hb2
        have hs2 := hb2.size
        clear K2 R1 hR1 T1
        have K3 := took_any b (tookP (tookP s [45]).1 [40]).1 [46] d w2 hR2
        rw [show bs [46] = ⟨#[46]⟩ from rfl, ht3] at K3
        go_wp2_with (go_at_call 78; refine K3.mono ?_; rintro e w3 ⟨rfl, hb3, hR3⟩; have R3 := R2.beside hb3 (by omega); obtain ⟨x0, x1, x2, x3, g0, g1, g2, g3⟩ := id R3; have hl3 := R3.lt)
        have R4 := R3.put (.int .i64 3) (.int .i64 0) (.string ⟨#[]⟩) (.slice none 0 0)
        obtain ⟨y0, y1, y2, y3, _, _, _, _⟩ := R4
        have hF := (hB2.trans hb3).putNew hbw (Nat.le_refl _) (.int .i64 3) (.int .i64 0) (.string ⟨#[]⟩) (.slice none 0 0)
        have hR4 := hR3.put4 w.heap.size (.int .i64 3) (.int .i64 0) (.string ⟨#[]⟩) (.slice none 0 0) (by omega)
        unfold put4 at y0 y1 y2 y3
        exact bodyPost_ret (v := .tuple #[.agg #[.int .i64 3, .int .i64 0, .string ⟨#[]⟩, .slice none 0 0], .bool true]) (by simp [results, Tryz.results101, go_sem, y0, y1, y2, y3]) rfl ⟨hF, _, rfl, hR4, rfl⟩
      | false =>
        rw [if_neg (by simp)]
        go_enter Tryz.func101, Tryz.ntmps101
        go_wp2_with fail
        generalize w.alloc (.cells #[.int .i64 0, .int .i64 0, .string ⟨#[]⟩, .slice none 0 0] 27) = w0 at *
        refine K1.mono ?_
        rintro e w1 ⟨rfl, hb1, hR1⟩
        have T1 := T0.beside hb1 hg
        have R1 := R0.beside hb1 (by omega)
        have hB1 := hB0.trans hb1
        have hs1 := hb1.size
        clear K1 R0 H0 T0
        have K2 := took_any b (tookP s [45]).1 [40] d w1 hR1
        rw [show bs [40] = ⟨#[40]⟩ from rfl, ht2] at K2
        go_wp2_with fail
        refine K2.mono ?_
        rintro e w2 ⟨rfl, hb2, hR2⟩
        have T2 := T1.beside hb2 hg
        have R2 := R1.beside hb2 (by omega)
        have hB2 := hB1.trans hb2
        have hs2 := hb2.size
        clear K2 R1 hR1 T1
        have K3 := took_any b (tookP (tookP s [45]).1 [40]).1 [46] d w2 hR2
        rw [show bs [46] = ⟨#[46]⟩ from rfl, ht3] at K3
        go_wp2_with fail
        refine K3.mono ?_
        rintro e w3 ⟨rfl, hb3, hR3⟩
        have T3 := T2.beside hb3 hg
        have R3 := R2.beside hb3 (by omega)
        have hB3 := hB2.trans hb3
        have hs3 := hb3.size
        have U := run_any b _ d w3 hR3 (by omega)
        clear K3 R2 hR2 T2
        generalize hsr : (tookP (tookP (tookP s [45]).1 [40]).1 [46]).1 = sr at *
        have hrr : ∀ c ∈ sr.takeWhile runB, runB c = true := takeWhile_run sr
        have hrl : (sr.takeWhile runB).length ≤ sr.length := List.Sublist.length_le (List.takeWhile_sublist _)
        go_wp2_with fail
        refine U.mono ?_
        rintro e w4 ⟨rfl, hb4, hR4⟩
        have T4 := T3.beside hb4 hg
        have R4 := R3.beside hb4 (by omega)
        have hB4 := hB3.trans hb4
        have hs4 := hb4.size
        have C := leaf_read b d (sr.takeWhile runB) (sr.dropWhile runB) hrr (by omega) w4 T4 hR4
        clear U
        go_wp2_with fail
        refine C.mono ?_
        rintro e w9 ⟨hb9, hr9⟩
        obtain ⟨k, j, t, q, l, c, rfl⟩ := hr9.form
        have R9 := R4.beside hb9 (by omega)
        obtain ⟨x0, x1, x2, x3, g0, g1, g2, g3⟩ := id R9
        have hl9 := R9.lt
        clear C
        go_wp2
        have R10 := R9.put (.int .i64 k) (.int .i64 j) (.string t) (.slice q l c)
        obtain ⟨y0, y1, y2, y3, _, _, _, _⟩ := R10
        have hE := (hr9.put (R := w.heap.size) (by omega) (by omega) (.int .i64 k) (.int .i64 j) (.string t) (.slice q l c)).low (m := w.heap.size) (by omega)
        have hF := (hB4.trans hb9).putNew hbw (Nat.le_refl _) (.int .i64 k) (.int .i64 j) (.string t) (.slice q l c)
        unfold put4 at y0 y1 y2 y3
        rw [hsr]
        exact bodyPost_ret (v := .tuple #[.agg #[.int .i64 k, .int .i64 j, .string t, .slice q l c], .bool ((leafP (sr.takeWhile runB)).map fun x => (x, sr.dropWhile runB)).isSome]) (by simp [results, Tryz.results101, go_sem, y0, y1, y2, y3]) rfl ⟨hF, hE⟩
end Go.Proofs.YtopfnfmglnjljaaGreatDoor
