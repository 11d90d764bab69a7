/- Stamps that are pinned: searched.
   A store's pins: the least one; one more.
   The first of the heap taken.
   take: the first of the heap.
   clear over the first versions of a history.
   Cleaning in plain words, a key at a time.
   clear over the first versions of a history: what lies there then.
   slices.Clone of versions.
   live and others at a history whose all have gone.
   The first versions of a history taken off.
   A history trimmed.
   A store of which one history is not where it belongs.
   The history that is due first, trimmed.
   Clean. -/
import Derived.Test.YtlncljfljjaacaaGreatDoorStB
import Derived.Deep.LoopGhost
import Derived.BigRegion
import Derived.WalkSmall
import Derived.Laws.CopyRow
import Derived.Test.YtlncljfljjaacaaGreatDoorStA
import Derived.Lib.SliceRun
namespace Go.Proofs.YtlncljfljjaacaaGreatDoor
open Go.ChangeShapes Go.WideShapes Go.ChangeAt Go.RowKit
set_option linter.unusedVariables false
set_option linter.unusedSimpArgs false

abbrev Pn := Int × Int
theorem encP_len : ∀ l, (encP l).length = l.length * 2
  | [] => rfl
  | x :: l => by simp [encP, encP_len l]; omega
theorem encP_append : ∀ l m, encP (l ++ m) = encP l ++ encP m
  | [], m => rfl
  | x :: l, m => by simp [encP, encP_append l m]
theorem encP_get : ∀ (l : List Pn) (j : Nat) (x : Pn), l[j]? = some x → (encP l)[j * 2]? = some (.int .i64 x.1) ∧ (encP l)[j * 2 + 1]? = some (.int .i64 x.2)
  | [], j, x, h => by simp at h
  | y :: l, 0, x, h => by simp at h; subst h; simp [encP]
  | y :: l, j + 1, x, h => by
    have := encP_get l j x (by simpa using h)
    rw [show (j + 1) * 2 = j * 2 + 2 by omega, show j * 2 + 2 + 1 = j * 2 + 1 + 2 by omega]
    simpa [encP] using this

/-- Pins in a slice. -/
def AtP (w : World) (a : Option Addr) (l : List Pn) : Prop :=
  0 < l.length → ∃ g o, a = some ⟨g, o, none⟩ ∧ g < w.heap.size ∧ ∀ j x, l[j]? = some x → w.cell? ⟨g, o + j * 2, none⟩ = some (.int .i64 x.1) ∧ w.cell? ⟨g, o + j * 2 + 1, none⟩ = some (.int .i64 x.2)

theorem own_atP {w : World} {base : Nat} {v : Value} {l : List Pn} (h : w.ownsRow base 110 2 v l.length (encP l)) : ∃ a c, v = .slice a l.length c ∧ l.length ≤ c ∧ AtP w a l := by
  rcases h.2 with ⟨rfl, h0⟩ | ⟨g, cap, cur, rfl, _, hg, hnc, _⟩
  · exact ⟨none, 0, by rw [h0], by rw [h0]; exact Nat.le_refl _, fun h1 => by omega⟩
  · refine ⟨_, _, rfl, hnc, fun _ => ⟨g, 0, rfl, (Array.getElem?_eq_some_iff.1 hg).1, fun j x hx => ?_⟩⟩
    obtain ⟨a1, a2⟩ := encP_get l j x hx
    have b1 := h.cells (g := g) rfl _ _ a1
    have b2 := h.cells (g := g) rfl _ _ a2
    rw [cell_add] at b1 b2
    exact ⟨b1, by rw [Nat.add_assoc]; exact b2⟩

def RiseP (l : List Pn) : Prop := l.Pairwise fun a b => a.1 < b.1
def upToN (t : Int) (l : List Pn) : Nat := l.countP fun x => decide (x.1 ≤ t)

theorem upToN_eq {t : Int} {l : List Pn} (n : Nat) (hn : n ≤ l.length) (h1 : ∀ i x, i < n → l[i]? = some x → x.1 ≤ t) (h2 : ∀ i x, n ≤ i → l[i]? = some x → t < x.1) : upToN t l = n := by
  unfold upToN
  have e : l = l.take n ++ l.drop n := (List.take_append_drop n l).symm
  rw [e, List.countP_append, List.countP_eq_length.2, List.countP_eq_zero.2]
  · simp; omega
  · intro x hx
    obtain ⟨i, hi⟩ := List.getElem?_of_mem hx
    rw [List.getElem?_drop] at hi
    have := h2 (n + i) x (by omega) hi
    simp; omega
  · intro x hx
    obtain ⟨i, hi⟩ := List.getElem?_of_mem hx
    have hil : i < n := by
      have := (List.getElem?_eq_some_iff.1 hi).1
      simp at this; omega
    rw [List.getElem?_take_of_lt hil] at hi
    have := h1 i x hil hi
    simp; omega

theorem riseP_get {l : List Pn} (hs : RiseP l) {i j : Nat} {x y : Pn} (hi : l[i]? = some x) (hj : l[j]? = some y) (h : i ≤ j) : x.1 ≤ y.1 := by
  by_cases e : i = j
  · subst e
    rw [hi] at hj
    cases hj
    exact Int.le_refl _
  · obtain ⟨hi1, hi2⟩ := List.getElem?_eq_some_iff.1 hi
    obtain ⟨hj1, hj2⟩ := List.getElem?_eq_some_iff.1 hj
    have := List.pairwise_iff_getElem.1 hs i j hi1 hj1 (by omega)
    rw [hi2, hj2] at this
    omega

theorem past_p (w : World) (a b : Int) : Sem.run Tryz.prog (method 556 110 (.agg #[.int .i64 a, .int .i64 b]) "letterpress/store.past") w = .ok (89, .agg #[.int .i64 a]) w := by kernel_rfl

set_option maxHeartbeats 800000 in
set_option maxRecDepth 20000 in
theorem psearch_any (a : Option Addr) (c : Nat) (l : List Pn) (t : Int) (w : World) (A : AtP w a l) (hs : RiseP l) (hf : l.length < 1000000) :
    Calls Tryz.prog 88 #[.slice a l.length c, .int .i64 t, .func (.methodOf 110 "letterpress/store.past") #[] #[]] w fun e w' => (∃ b, e = .returned (.tuple #[.int .i64 (upToN t l : Nat), .bool b])) ∧ Below w.heap.size w w' := by
  have A : Aside _ := A
  have S : Aside _ := hs
  clear hs
  generalize hn : l.length = n at hf
  have HN : Aside (l.length = n) := hn
  clear hn
  generalize hu : upToN t l = u
  have HU : Aside (upToN t l = u) := hu
  clear hu
  have SB : Aside (Below w.heap.size w w) := Below.refl _ _
  have hf : n < 1000000 := hf
  go_enter Tryz.func88, Tryz.ntmps88
  go_wp2
  go_loopg [9, 10] n (fun kx s9 s10 wr => ∃ lo hi : Nat, s9 = .int .i64 lo ∧ s10 = .int .i64 hi ∧ lo ≤ hi ∧ hi ≤ n ∧ hi - lo ≤ kx ∧ Aside (Below w.heap.size w wr) ∧
    Aside ((∀ i x, i < lo → l[i]? = some x → x.1 ≤ t) ∧ (∀ i x, hi ≤ i → l[i]? = some x → t < x.1)))
  case atStart => exact ⟨0, n, rfl, rfl, Nat.zero_le _, Nat.le_refl _, by omega, SB, (⟨fun i x hi => absurd hi (Nat.not_lt_zero _), fun i x h1 h2 => by have := (List.getElem?_eq_some_iff.1 h2).1; have := HN.out; omega⟩ : (∀ i x, i < 0 → l[i]? = some x → x.1 ≤ t) ∧ (∀ i x, n ≤ i → l[i]? = some x → t < x.1))⟩
  case round =>
    clear SB
    obtain ⟨lo, hi, rfl, rfl, hlh, hin, hg, S1, I⟩ := hrel
    by_cases hlt : lo < hi
    · have hltI : (lo : Int) < (hi : Int) := by omega
      obtain ⟨g, o, rfl, hgl, hcell⟩ := A.out (by have := HN.out; omega)
      have hml : (lo + hi) / 2 < l.length := by have := HN.out; omega
      obtain ⟨x, hx⟩ : ∃ x, l[(lo + hi) / 2]? = some x := ⟨_, List.getElem?_eq_getElem hml⟩
      have X : Aside (l[(lo + hi) / 2]? = some x) := hx
      obtain ⟨c0, c1⟩ := hcell _ _ hx
      have hcw : ∀ i, wr.cell? ⟨g, i, none⟩ = w.cell? ⟨g, i, none⟩ := fun i => cell_of_block (S1.out.block g hgl)
      rw [← hcw] at c0 c1
      generalize hm : (lo + hi) / 2 = m at c0 c1 X hml
      have hmn : m < n := by omega
      have hmnI : (m : Int) < (n : Int) := by omega
      have hm0 : (0 : Int) ≤ (m : Int) := by omega
      have P := past_any x.1 t wr
      have PM := past_p wr x.1 x.2
      clear hcell hcw hx hml
      have HF : Aside (n < 1000000 ∧ lo ≤ hi ∧ hi ≤ n ∧ hi - lo ≤ gk ∧ (lo + hi) / 2 = m ∧ m < n ∧ lo < hi) := ⟨hf, hlh, hin, hg, hm, hmn, hlt⟩
      have hmid := (mid_eq lo hi n hin hlh hf).trans (congrArg (fun z : Nat => (z : Int)) hm)
      obtain ⟨q, hq, hmid⟩ : ∃ q, IntKind.u64.wrap (wrap64 (↑lo + ↑hi)) = q ∧ wrap64 (q / 2) = (m : Int) := ⟨_, rfl, hmid⟩
      clear hm hg hf hlh hin hmn hlt
      go_wp2_with fail
      refine P.mono ?_
      rintro e w2 ⟨rfl, hb⟩
      have S2 : Aside (Below w.heap.size w w2) := S1.out.trans (hb.mono S1.out.size)
      clear P PM c0 c1 hb S1 hq
      by_cases hyx : t < x.1
      · have hp : pastP x.1 t = 1 := by simp [pastP, hyx]
        rw [hp]
        have I2 : Aside ((∀ i x, i < lo → l[i]? = some x → x.1 ≤ t) ∧ (∀ i x, m ≤ i → l[i]? = some x → t < x.1)) := by
          refine ⟨I.out.1, fun i y h1 h2 => ?_⟩
          have := riseP_get S.out X.out h2 h1
          omega
        clear I X hp hyx
        go_wp2_with fail
        obtain ⟨h1, h3, h4, h5, h6, h7, h8⟩ := HF.out
        clear hmid hmnI hm0
        go_roundg (m - lo)
        case rel => exact ⟨lo, m, rfl, rfl, by omega, by omega, Nat.le_refl _, S2, I2⟩
        case measure => omega
      · have hp : pastP x.1 t = -1 := by simp [pastP, hyx]
        rw [hp]
        have I2 : Aside ((∀ i x, i < m + 1 → l[i]? = some x → x.1 ≤ t) ∧ (∀ i x, hi ≤ i → l[i]? = some x → t < x.1)) := by
          refine ⟨fun i y h1 h2 => ?_, I.out.2⟩
          have := riseP_get S.out h2 X.out (by omega)
          omega
        clear I X hp hyx
        go_wp2_with fail
        obtain ⟨h1, h3, h4, h5, h6, h7, h8⟩ := HF.out
        clear hmid hmnI hm0
        go_roundg (hi - (m + 1))
        case rel => exact ⟨m + 1, hi, by simp [IntWalk.wrap64_in], rfl, by omega, by omega, Nat.le_refl _, S2, I2⟩
        case measure => omega
    · obtain rfl : lo = hi := by omega
      have hun : u = lo := by
        rw [← HU.out]
        exact upToN_eq lo (by have := HN.out; omega) I.out.1 I.out.2
      subst hun
      clear I HU hg hlt hlh
      by_cases hln : u < n
      · have hlnI : (u : Int) < (n : Int) := by omega
        have hu0 : (0 : Int) ≤ (u : Int) := by omega
        obtain ⟨g, o, rfl, hgl, hcell⟩ := A.out (by have := HN.out; omega)
        obtain ⟨x, hx⟩ : ∃ x, l[u]? = some x := ⟨_, List.getElem?_eq_getElem (by have := HN.out; omega)⟩
        obtain ⟨c0, c1⟩ := hcell _ _ hx
        have hcw : ∀ i, wr.cell? ⟨g, i, none⟩ = w.cell? ⟨g, i, none⟩ := fun i => cell_of_block (S1.out.block g hgl)
        rw [← hcw] at c0 c1
        have P := past_any x.1 t wr
        have PM := past_p wr x.1 x.2
        clear hcell hcw hx hln hin hf
        go_wp2_with fail
        refine P.mono ?_
        rintro e w2 ⟨rfl, hb⟩
        have S2 : Below w.heap.size w w2 := S1.out.trans (hb.mono S1.out.size)
        clear P PM c0 c1 hb S1
        generalize pastP x.1 t = pv
        go_wp2_with fail
        exact bodyPost_ret (v := .tuple #[.int .i64 u, .bool (pv == 0)]) (by simp [results, Tryz.results88, go_sem]) rfl ⟨⟨_, rfl⟩, S2⟩
      · obtain rfl : u = n := by omega
        clear hln hin hf
        go_wp2_with fail
        exact bodyPost_ret (v := .tuple #[.int .i64 u, .bool false]) (by simp [results, Tryz.results88, go_sem]) rfl ⟨⟨_, rfl⟩, S1.out⟩
end Go.Proofs.YtlncljfljjaacaaGreatDoor

namespace Go.Proofs.YtlncljfljjaacaaGreatDoor
open Go.ChangeShapes Go.WideShapes Go.ChangeAt Go.RowKit
set_option linter.unusedVariables false
set_option linter.unusedSimpArgs false

/-- Its pins turned. -/
def St.pinned (S : St) (v : Value) (l : List Pn) : St := { S with pinV := v, pins := l, lab := fun b => if v.ownBlock = some b then some .pin else S.lab b }

theorem StoreAt.pinned {w w' : World} {S : St} {v : Value} {l : List Pn} (A : StoreAt w S) (B : Blk w' S.p (S.cs.setIfInBounds 4 v) 66) (D : w'.ownsRow 0 110 2 v l.length (encP l)) (O : Only (fun b => b = S.p ∨ S.pinV.ownBlock = some b) w w')
    (R : ∀ g, v.ownBlock = some g → S.pinV.ownBlock = some g ∨ w.heap.size ≤ g) (hl : l.length ≤ 900000) : StoreAt w' (S.pinned v l) := by
  have hlt : ∀ b r, S.lab b = some r → b < w.heap.size := fun b r e => A.lt b (by rw [e]; rfl)
  have hnew : ∀ g, v.ownBlock = some g → S.lab g = some .pin ∨ w.heap.size ≤ g := fun g hg => (R g hg).imp (A.labPin g) id
  have hkeep : ∀ b r, S.lab b = some r → r ≠ .st → r ≠ .pin → w'.heap[b]? = w.heap[b]? := fun b r e n1 n2 => O.block b (hlt b r e) (by
    rintro (e' | e')
    · rw [e', A.labP] at e; exact n1 (Option.some.inj e).symm
    · rw [A.labPin b e'] at e; exact n2 (Option.some.inj e).symm)
  have hlab : ∀ b r, S.lab b = some r → r ≠ .pin → (S.pinned v l).lab b = some r := fun b r e n => by
    show (if v.ownBlock = some b then _ else _) = _
    rw [if_neg, e]
    intro e'
    rcases hnew b e' with x | x
    · rw [x] at e; exact n (Option.some.inj e).symm
    · have := hlt b r e; omega
  have hH : ∀ k h, S.hs k = some h → HistAt w' h := fun k h e =>
    (A.his k h e).1.of_block (hkeep _ _ (A.labHis k h e) (by simp) (by simp)) (fun g hg => hkeep _ _ (A.labRow k h g e hg) (by simp) (by simp))
  refine { blk := B, map := A.map.of_block (hkeep _ _ A.labM (by simp) (by simp)), his := fun k h e => ⟨hH k h e, (A.his k h e).2⟩, pinR := D, dueD := ⟨row_thru A.dueD.row (fun g hg => hkeep _ _ (A.labDue g hg) (by simp) (by simp)), fun b m => ⟨(A.dueD.his b m).1, by obtain ⟨k, e⟩ := A.dueIn b m; exact hH k _ e, (A.dueD.his b m).2.2⟩, A.dueD.few⟩, dueIn := A.dueIn, labP := hlab _ _ A.labP (by simp), labM := hlab _ _ A.labM (by simp), labPin := fun g hg => if_pos hg, labDue := fun g hg => hlab _ _ (A.labDue g hg) (by simp), labHis := fun k h e => hlab _ _ (A.labHis k h e) (by simp), labRow := fun k h g e hg => hlab _ _ (A.labRow k h g e hg) (by simp), lt := ?_, few := ⟨A.few.1, A.few.2.1, A.few.2.2.1, hl⟩, all := A.all }
  intro b hb
  have hb : (if v.ownBlock = some b then some Role.pin else S.lab b).isSome := hb
  by_cases n : v.ownBlock = some b
  · exact (D.lt b n).2
  · rw [if_neg n] at hb
    exact Nat.lt_of_lt_of_le (A.lt b hb) O.size

theorem Step.pinned {w w' : World} {S : St} {v : Value} {l : List Pn} (A : StoreAt w S) (O : Only (fun b => b = S.p ∨ S.pinV.ownBlock = some b) w w') (R : ∀ g, v.ownBlock = some g → S.pinV.ownBlock = some g ∨ w.heap.size ≤ g) : Step w w' S (S.pinned v l) := by
  refine ⟨O.mono (fun b _ e => ?_), fun b hb => ?_, rfl⟩
  · rcases e with e | e
    · rw [e, A.labP]; rfl
    · rw [A.labPin b e]; rfl
  · have hb : (if v.ownBlock = some b then some Role.pin else S.lab b).isSome := hb
    by_cases n : v.ownBlock = some b
    · rcases R b n with x | x
      · left; rw [A.labPin b x]; rfl
      · exact .inr x
    · rw [if_neg n] at hb; exact .inl hb

def St.low (S : St) : Int := match S.pins with | x :: _ => x.1 | [] => S.now

set_option maxHeartbeats 800000 in
theorem low_any (S : St) (w : World) (A : StoreAt w S) : Calls Tryz.prog 91 #[.pointer (some ⟨S.p, 0, none⟩)] w fun e w' => e = .returned (.int .i64 S.low) ∧ ∃ n, w' = w.drewN n := by
  have c1 := A.blk.cell (i := 1) (v := .int .i64 S.now) rfl
  have c4 := A.blk.cell (i := 4) (v := S.pinV) rfl
  obtain ⟨a, c, e, -, P⟩ := own_atP A.pinR
  rw [e] at c4
  have el : S.low = match S.pins with | x :: _ => x.1 | [] => S.now := rfl
  cases hp : S.pins with
  | nil =>
    rw [hp] at el c4
    simp only at el
    rw [el]
    clear A P e el hp
    go_enter Tryz.func91, Tryz.ntmps91
    go_wp2_with fail
    go_ret
    exact ⟨rfl, 0, rfl⟩
  | cons x l =>
    rw [hp] at el c4 P
    simp only at el
    rw [el]
    obtain ⟨g, o, rfl, _, hc⟩ := P (by simp)
    obtain ⟨d1, d2⟩ := hc 0 x rfl
    simp only [Nat.zero_mul, Nat.add_zero] at d1
    have hln : (0 : Int) < ((x :: l).length : Int) := by simp
    generalize (x :: l).length = ln at *
    clear A P e el hp hc
    go_enter Tryz.func91, Tryz.ntmps91
    go_wp2_with fail
    go_ret
    exact ⟨rfl, 0, rfl⟩
end Go.Proofs.YtlncljfljjaacaaGreatDoor

namespace Go.Proofs.YtlncljfljjaacaaGreatDoor
open Go.ChangeShapes Go.WideShapes Go.ChangeAt Go.RowKit
open Go.Sort (grow)
set_option linter.unusedVariables false
set_option linter.unusedSimpArgs false

set_option maxHeartbeats 1600000 in
set_option maxRecDepth 20000 in
/-- The last of the row is taken off. -/
theorem popm_any (p g cap b : Nat) (cs : Array Value) (l : List Nat) (w : World) (B : Blk w p cs 66) (hc : cs[5]? = some (.slice (some ⟨g, 0, none⟩) (l.length + 1) cap)) (hrow : w.ownsRow 0 135 1 (.slice (some ⟨g, 0, none⟩) (l.length + 1) cap) (l.length + 1) (ptrs (l ++ [b]))) (hne : g ≠ p) (hf : l.length < 1000000) :
    Calls Tryz.prog 398 #[.pointer (some ⟨p, 5, none⟩)] w fun e w' => e = .returned (.iface 135 (.pointer (some ⟨b, 0, none⟩))) ∧
      Blk w' p (cs.setIfInBounds 5 (.slice (some ⟨g, 0, none⟩) l.length cap)) 66 ∧ w'.ownsRow 0 135 1 (.slice (some ⟨g, 0, none⟩) l.length cap) l.length (ptrs l) ∧ Only (fun k => k = p ∨ k = g) w w' := by
  have c1 := B.cell hc
  have f1 := B.thawed 5
  have hlast : (ptrs (l ++ [b]))[l.length]? = some (ptrV b) := ptrs_get (by simp)
  have c2 := hrow.cells (g := g) rfl _ _ hlast
  rw [cell_add, Nat.zero_add] at c2
  unfold ptrV at c2
  have f2 := hrow.frozenAt l.length
  have hsub : ((l.length + 1 : Nat) : Int) - 1 = (l.length : Int) := by omega
  have hcap : l.length + 1 ≤ cap := by
    rcases hrow.2 with ⟨h, _⟩ | ⟨g', cap', cur, h, _, _, hn, _⟩
    · cases h
    · cases h; exact hn
  obtain ⟨R1, G1⟩ := hrow.stored l.length (.pointer none)
  have hset : (ptrs (l ++ [b])).set l.length (.pointer none) = ptrs l ++ [.pointer none] := by
    unfold ptrs
    simp [List.set_append]
  rw [hset] at R1
  have R2 := ownsRow_pop (xs := ptrs l) (last := [.pointer none]) (by simp [ptrs_len]) R1
  have B1 : Blk (w.setCell ⟨g, l.length, none⟩ (.pointer none)) p cs 66 := B.of_block (Below.heap_setCell _ _ _ _ (Ne.symm hne))
  have HR : Hid (w.ownsRow 0 135 1 (.slice (some ⟨g, 0, none⟩) (l.length + 1) cap) (l.length + 1) (ptrs (l ++ [b])) ∧ (w.setCell ⟨g, l.length, none⟩ (.pointer none)).ownsRow 0 135 1 (.slice (some ⟨g, 0, none⟩) l.length cap) l.length (ptrs l) ∧ Blk (w.setCell ⟨g, l.length, none⟩ (.pointer none)) p cs 66 ∧ l.length < 1000000) := ⟨hrow, R2, B1, hf⟩
  have d1 : (w.setCell ⟨g, l.length, none⟩ (.pointer none)).cell? ⟨p, 5, none⟩ = some (.slice (some ⟨g, 0, none⟩) (l.length + 1) cap) := B1.cell hc
  have df1 : (w.setCell ⟨g, l.length, none⟩ (.pointer none)).frozen? ⟨p, 5, none⟩ = false := B1.thawed 5
  have hlnI : (l.length : Int) < ((l.length + 1 : Nat) : Int) := by omega
  have hcapI : ((l.length + 1 : Nat) : Int) ≤ (cap : Int) := by omega
  have hbig : ((l.length + 1 : Nat) : Int) < 2000000 := by omega
  have h0 : (0 : Int) ≤ (l.length : Int) := by omega
  clear hrow R1 R2 G1 hset hlast B B1 hc hf hcap
  generalize l.length = n at *
  generalize hn1 : n + 1 = n1 at *
  clear hn1
  go_enter Tryz.func398, Tryz.ntmps398
  go_wp2_with fail
  go_ret
  obtain ⟨-, R2, B2, -⟩ := HR.out
  refine ⟨rfl, B2.set 5 _, ownsRow_setCell_other R2 (a := ⟨p, 5, none⟩) (by simpa [Value.ownBlock] using hne) _, rfl, rfl, rfl, by simp [World.setCell], fun k hk hn => ?_⟩
  exact (Below.heap_setCell _ _ _ _ (fun e => hn (.inl e))).trans (Below.heap_setCell _ _ _ _ (fun e => hn (.inr e)))

set_option maxHeartbeats 3200000 in
set_option maxRecDepth 20000 in
theorem heapPop_any (p : Nat) (cs : Array Value) (v : Value) (l : List Nat) (hi : Nat → Hi) (w : World) (B : Blk w p cs 66) (hc : cs[5]? = some v) (D : DueAt w v l hi) (A : Apt p v l hi) (HH : HeapOn (keyL (nx hi) l) l.length) (h0 : 0 < l.length) :
    Calls Tryz.prog 140 #[.iface 199 (.pointer (some ⟨p, 5, none⟩))] w fun e w' => (∃ r, e = .returned r) ∧
      ∃ v' l', (l' ++ [l.getD 0 0]).Perm l ∧ HeapOn (keyL (nx hi) l') l'.length ∧ Blk w' p (cs.setIfInBounds 5 v') 66 ∧ DueAt w' v' l' hi ∧ Only (fun k => k = p ∨ v.ownBlock = some k) w w' ∧ ∀ g, v'.ownBlock = some g → v.ownBlock = some g := by
  have hq := B.cell hc
  have hfew := D.few
  obtain ⟨g, cap, rfl, _, hg⟩ := D.row.form h0
  have hgp : g ≠ p := fun e => A.own (by rw [← e]; rfl)
  have LM := len_m w ⟨p, 5, none⟩ _ hq
  have LN := len_any (.slice (some ⟨g, 0, none⟩) l.length cap) l.length w ⟨_, _, rfl⟩
  have SM := swap_m w ⟨p, 5, none⟩ _ hq
  have SW := swap_any _ l 0 (l.length - 1) w D.row hfew h0 (by omega)
  rw [show ((0 : Nat) : Int) = 0 from rfl] at SW
  have hpl := B.lt
  -- behind the swap
  have K1 : Hid (∀ w1, w1.ownsRow 0 135 1 (.slice (some ⟨g, 0, none⟩) l.length cap) l.length (ptrs (swapL l 0 (l.length - 1))) → Only (fun k => (Value.slice (some ⟨g, 0, none⟩) l.length cap).ownBlock = some k) w w1 →
      w1.cell? ⟨p, 5, none⟩ = some (.slice (some ⟨g, 0, none⟩) l.length cap) ∧ Calls Tryz.prog 169 #[.iface 199 (.pointer (some ⟨p, 5, none⟩)), .int .i64 0, .int .i64 ((l.length - 1 : Nat) : Int)] w1 fun e w' => (∃ r, e = .returned (.bool r)) ∧
        ∃ l', l'.Perm (swapL l 0 (l.length - 1)) ∧ HeapOn (keyL (nx hi) l') (l.length - 1) ∧ l'.getD (l.length - 1) 0 = l.getD 0 0 ∧ w'.ownsRow 0 135 1 (.slice (some ⟨g, 0, none⟩) l.length cap) l.length (ptrs l') ∧ Only (fun k => (Value.slice (some ⟨g, 0, none⟩) l.length cap).ownBlock = some k) w1 w') := by
    intro w1 R1 O1
    have hsp := swapL_perm (l := l) (i := 0) (j := l.length - 1) h0 (by omega)
    have D1 := D.swapped (q := ⟨p, 5, none⟩) A.apart hsp R1 O1
    have hq1 : w1.cell? ⟨p, 5, none⟩ = some (.slice (some ⟨g, 0, none⟩) l.length cap) := O1.cell hq (fun e => A.own e)
    refine ⟨hq1, (down_any ⟨p, 5, none⟩ _ _ hi (l.length - 1) w1 hq1 D1 (A.apart.perm hsp) (by rw [swapL_len]; exact h0) (by rw [swapL_len]; omega) (pop_inv h0 HH)).mono ?_⟩
    rintro e w2 ⟨hr, l', hp, hh, hl, hrow, ho⟩
    rw [swapL_len] at hrow
    refine ⟨hr, l', hp, hh, ?_, hrow, ho⟩
    rw [hl, swapL_get h0 (by omega), if_pos rfl]
  have K2 : Hid (∀ w2 l', Blk w2 p cs 66 → l'.length = l.length → w2.ownsRow 0 135 1 (.slice (some ⟨g, 0, none⟩) l.length cap) l.length (ptrs l') → Calls Tryz.prog 398 #[.pointer (some ⟨p, 5, none⟩)] w2 fun e w' => (∃ r, e = .returned r) ∧
      Blk w' p (cs.setIfInBounds 5 (.slice (some ⟨g, 0, none⟩) (l.length - 1) cap)) 66 ∧ w'.ownsRow 0 135 1 (.slice (some ⟨g, 0, none⟩) (l.length - 1) cap) (l.length - 1) (ptrs (l'.take (l.length - 1))) ∧ Only (fun k => k = p ∨ k = g) w2 w') := by
    intro w2 l' B2 hll hrow
    have hl0 : l' = l'.take (l.length - 1) ++ [l'.getD (l.length - 1) 0] := by
      conv => lhs; rw [← List.take_append_drop (l.length - 1) l']
      congr 1
      have : l.length - 1 < l'.length := by omega
      rw [List.drop_eq_getElem_cons this, List.getD_eq_getElem?_getD, List.getElem?_eq_getElem this, List.drop_eq_nil_of_le (by omega)]
      rfl
    have hln : (l'.take (l.length - 1)).length = l.length - 1 := by rw [List.length_take]; omega
    have e1 : l.length = (l'.take (l.length - 1)).length + 1 := by omega
    have := popm_any p g cap (l'.getD (l.length - 1) 0) cs (l'.take (l.length - 1)) w2 B2 (by rw [← e1]; exact hc) (by rw [← e1, ← hl0]; exact hrow) hgp (by omega)
    rw [hln] at this
    exact this.mono (fun e w' h => ⟨⟨_, h.1⟩, h.2⟩)
  have PM := fun w => pop_m w ⟨p, 5, none⟩
  have K3 : Hid (∀ w1 w2 w3 l', Only (fun k => (Value.slice (some ⟨g, 0, none⟩) l.length cap).ownBlock = some k) w w1 → l'.Perm (swapL l 0 (l.length - 1)) → HeapOn (keyL (nx hi) l') (l.length - 1) → l'.getD (l.length - 1) 0 = l.getD 0 0 → Only (fun k => (Value.slice (some ⟨g, 0, none⟩) l.length cap).ownBlock = some k) w1 w2 →
      Blk w3 p (cs.setIfInBounds 5 (.slice (some ⟨g, 0, none⟩) (l.length - 1) cap)) 66 → w3.ownsRow 0 135 1 (.slice (some ⟨g, 0, none⟩) (l.length - 1) cap) (l.length - 1) (ptrs (l'.take (l.length - 1))) → Only (fun k => k = p ∨ k = g) w2 w3 →
      ∃ v' l', (l' ++ [l.getD 0 0]).Perm l ∧ HeapOn (keyL (nx hi) l') l'.length ∧ Blk w3 p (cs.setIfInBounds 5 v') 66 ∧ DueAt w3 v' l' hi ∧ Only (fun k => k = p ∨ (Value.slice (some ⟨g, 0, none⟩) l.length cap).ownBlock = some k) w w3 ∧ ∀ g', v'.ownBlock = some g' → (Value.slice (some ⟨g, 0, none⟩) l.length cap).ownBlock = some g') := by
    intro w1 w2 w3 l' O1 hp hh hl O2 B3 R3 O3
    have hsp := swapL_perm (l := l) (i := 0) (j := l.length - 1) h0 (by omega)
    have hpl := hp.trans hsp
    have hll := hpl.length_eq
    have hln : (l'.take (l.length - 1)).length = l.length - 1 := by rw [List.length_take]; omega
    have hl0 : l' = l'.take (l.length - 1) ++ [l.getD 0 0] := by
      conv => lhs; rw [← List.take_append_drop (l.length - 1) l']
      congr 1
      have h1 : l.length - 1 < l'.length := by omega
      rw [List.drop_eq_getElem_cons h1, ← hl, List.getD_eq_getElem?_getD, List.getElem?_eq_getElem h1, List.drop_eq_nil_of_le (by omega)]
      rfl
    have OO : Only (fun k => k = p ∨ (Value.slice (some ⟨g, 0, none⟩) l.length cap).ownBlock = some k) w w3 := by
      refine ⟨O3.os.trans (O2.os.trans O1.os), O3.tape.trans (O2.tape.trans O1.tape), O3.output.trans (O2.output.trans O1.output), Nat.le_trans O1.size (Nat.le_trans O2.size O3.size), fun k hk hn => ?_⟩
      have hk1 := Nat.lt_of_lt_of_le hk O1.size
      rw [O3.block k (Nat.lt_of_lt_of_le hk1 O2.size) (by
        rintro (e | e)
        · exact hn (.inl e)
        · exact hn (.inr (by rw [e]; rfl))), O2.block k hk1 (fun e => hn (.inr e)), O1.block k hk (fun e => hn (.inr e))]
    refine ⟨_, l'.take (l.length - 1), by rw [← hl0]; exact hpl, ?_, B3, ⟨by rw [hln]; exact R3, fun b hb => ?_, by rw [hln]; omega⟩, OO, fun g' hg' => hg'⟩
    · rw [hln]
      intro k k0 kn
      have e : ∀ j, j < l.length - 1 → keyL (nx hi) (l'.take (l.length - 1)) j = keyL (nx hi) l' j := fun j hj => by
        unfold keyL
        rw [List.getD_eq_getElem?_getD, List.getD_eq_getElem?_getD, List.getElem?_take_of_lt hj]
      rw [e _ kn, e _ (by omega)]
      exact hh k k0 kn
    · have hbl : b ∈ l := hpl.mem_iff.1 (List.mem_of_mem_take hb)
      obtain ⟨h1, h2, h3⟩ := D.his b hbl
      obtain ⟨a1, a2, a3⟩ := A.his b hbl
      refine ⟨h1, h2.only OO ?_ ?_, h3⟩
      · rw [h1]
        rintro (e | e)
        · exact a1 e
        · exact (a3 b e).1 rfl
      · rintro g' hg' (e | e)
        · exact a2 (by rw [hg', e])
        · exact (a3 g' e).2 hg'
  have hsub : (l.length : Int) - 1 = ((l.length - 1 : Nat) : Int) := by omega
  have hbd : ((l.length - 1 : Nat) : Int) < 1000000 := by omega
  have hbd0 : (0 : Int) ≤ ((l.length - 1 : Nat) : Int) := by omega
  have K4 : Hid (Blk w p cs 66 ∧ (Value.slice (some ⟨g, 0, none⟩) l.length cap).ownBlock ≠ some p ∧ p < w.heap.size ∧ ∀ l' : List Nat, l'.Perm (swapL l 0 (l.length - 1)) → l'.length = l.length) := ⟨B, A.own, hpl, fun l' hp => by rw [hp.length_eq, swapL_len]⟩
  clear B hc D A HH h0 hfew hgp hpl hg
  generalize hsw : swapL l 0 (l.length - 1) = sl at *
  clear hsw
  generalize l.length - 1 = n1 at *
  generalize l.getD 0 0 = l00 at *
  generalize l.length = ln at *
  go_enter Tryz.func140, Tryz.ntmps140
  go_wp2_with fail
  refine LN.mono ?_
  rintro e w0 ⟨rfl, rfl⟩
  clear LN LM
  go_wp2_with fail
  refine SW.mono ?_
  rintro e w1 ⟨rfl, R1, O1⟩
  clear SW SM
  obtain ⟨hq1, DN⟩ := K1.out w1 R1 O1
  clear R1
  go_wp2_with fail
  refine DN.mono ?_
  rintro e w2 ⟨⟨r, rfl⟩, l', hp, hh, hl, hrow, ho⟩
  clear DN hq1
  have B2 : Blk w2 p cs 66 := (K4.out.1.of_block (O1.block p K4.out.2.2.1 K4.out.2.1)).of_block (ho.block p (Nat.lt_of_lt_of_le K4.out.2.2.1 O1.size) K4.out.2.1)
  have P := K2.out w2 l' B2 (K4.out.2.2.2 l' hp) hrow
  have HX : Hid _ := And.intro O1 (And.intro hp (And.intro hh (And.intro hl ho)))
  clear O1 hp hh hl ho hrow B2
  go_wp2_with fail
  refine P.mono ?_
  rintro e w3 ⟨⟨r2, rfl⟩, B3, R3, O3⟩
  clear P PM
  obtain ⟨O1, hp, hh, hl, ho⟩ := HX.out
  have RR : Hid _ := K3.out w1 w2 w3 l' O1 hp hh hl ho B3 R3 O3
  clear O1 hp hh hl ho B3 R3 O3 HX K1 K2 K3 K4
  go_wp2_with fail
  go_ret
  exact ⟨⟨_, rfl⟩, RR.out⟩
end Go.Proofs.YtlncljfljjaacaaGreatDoor

namespace Go.Proofs.YtlncljfljjaacaaGreatDoor
open Go.ChangeShapes Go.WideShapes Go.ChangeAt Go.RowKit
set_option linter.unusedVariables false
set_option linter.unusedSimpArgs false

set_option maxHeartbeats 1600000 in
set_option maxRecDepth 20000 in
theorem take_any (p : Nat) (cs : Array Value) (v : Value) (l : List Nat) (hi : Nat → Hi) (w : World) (B : Blk w p cs 66) (hc : cs[5]? = some v) (D : DueAt w v l hi) (A : Apt p v l hi) (HH : HeapOn (keyL (nx hi) l) l.length) (h0 : 0 < l.length) :
    Calls Tryz.prog 111 #[.pointer (some ⟨p, 5, none⟩)] w fun e w' => e = .returned (.pointer (some ⟨l.getD 0 0, 0, none⟩)) ∧
      ∃ v' l', (l' ++ [l.getD 0 0]).Perm l ∧ HeapOn (keyL (nx hi) l') l'.length ∧ Blk w' p (cs.setIfInBounds 5 v') 66 ∧ DueAt w' v' l' hi ∧ Only (fun k => k = p ∨ v.ownBlock = some k) w w' ∧ ∀ g, v'.ownBlock = some g → v.ownBlock = some g := by
  have P := heapPop_any p cs v l hi w B hc D A HH h0
  have c1 := B.cell hc
  obtain ⟨g, cap, rfl, _, hg⟩ := D.row.form h0
  obtain ⟨b, hb⟩ : ∃ b, l[0]? = some b := ⟨_, List.getElem?_eq_getElem h0⟩
  have c2 := D.row.cells (g := g) rfl _ _ (ptrs_get hb)
  rw [cell_add, Nat.zero_add] at c2
  unfold ptrV at c2
  have e : l.getD 0 0 = b := by rw [List.getD_eq_getElem?_getD, hb]; rfl
  rw [e] at P ⊢
  have h0I : (0 : Int) < (l.length : Int) := by omega
  clear B hc D A HH h0 hb e
  generalize l.length = ln at *
  go_enter Tryz.func111, Tryz.ntmps111
  go_wp2_with fail
  refine P.mono ?_
  rintro e w1 ⟨⟨r, rfl⟩, h⟩
  clear P
  go_wp2_with fail
  go_ret
  exact ⟨rfl, h⟩
end Go.Proofs.YtlncljfljjaacaaGreatDoor

namespace Go.Proofs.YtlncljfljjaacaaGreatDoor
open Go.ChangeShapes Go.WideShapes Go.ChangeAt Go.RowKit
set_option linter.unusedVariables false
set_option linter.unusedSimpArgs false

theorem zero_ver (w : World) : (zeroValue 152).run Tryz.prog w = .ok (.agg #[.int .i64 0, .string ⟨#[]⟩, .bool false]) w := by kernel_rfl

def zc : Array Value := #[.int .i64 0, .string ⟨#[]⟩, .bool false]
theorem zc_len (n : Nat) : (Builtin.zeroCells zc n).toList.length = n * 3 := by
  unfold Builtin.zeroCells
  simp [zc]
theorem zc_one (n : Nat) : ∀ v ∈ (Builtin.zeroCells zc n).toList, v.oneCell' = true := by
  intro v hv
  unfold Builtin.zeroCells at hv
  simp only [Array.toList_map, List.mem_map] at hv
  obtain ⟨i, _, rfl⟩ := hv
  have h3 : i % zc.size < 3 := Nat.mod_lt _ (by decide)
  generalize i % zc.size = m at h3
  match m, h3 with
  | 0, _ => rfl
  | 1, _ => rfl
  | 2, _ => rfl

/-- What clear lays over cells from o on, n versions. -/
theorem run_clear (g o n c : Nat) (cur : Array Value) (w : World) (hb : w.heap[g]? = some (.cells cur 152 (0, 0))) (hl : o + n * 3 ≤ cur.size) (ty : TypeId) :
    ∃ cur' : Array Value, (Builtin.clear_ #[153] ty #[.slice (some ⟨g, o, none⟩) n c]).run Tryz.prog w = .ok (.tuple #[]) (w.setRow g cur') ∧ cur'.size = cur.size ∧ ∀ i, o + n * 3 ≤ i → cur'[i]? = cur[i]? := by
  cases n with
  | zero =>
    refine ⟨cur, ?_, rfl, fun _ _ => rfl⟩
    rw [setRow_self w g cur _ (0, 0) hb]
    simp [Builtin.clear_, run_underlying Tryz.underlying153, Result.andThen]
  | succ n =>
    have h := run_storeCells_at (P := Tryz.prog) g o 152 (Builtin.zeroCells zc (n + 1)).toList 0 cur w hb (by rw [zc_len]; omega) (zc_one _)
    refine ⟨(cur.toList.take (o + 0) ++ (Builtin.zeroCells zc (n + 1)).toList ++ cur.toList.drop (o + 0 + (Builtin.zeroCells zc (n + 1)).toList.length)).toArray, ?_, ?_, ?_⟩
    · have hz := zero_ver w
      have hzc : (Value.agg #[.int .i64 0, .string ⟨#[]⟩, .bool false]).cells = zc := rfl
      simp [Builtin.clear_, run_underlying Tryz.underlying153, Result.andThen, hz, hzc, h]
    · have hsz : (Builtin.zeroCells zc (n + 1)).size = (n + 1) * 3 := by rw [← Array.length_toList]; exact zc_len _
      simp only [List.size_toArray, List.length_append, List.length_take, List.length_drop, Array.length_toList, hsz]
      omega
    · intro i hi
      have hsz : (Builtin.zeroCells zc (n + 1)).size = (n + 1) * 3 := by rw [← Array.length_toList]; exact zc_len _
      simp only [List.getElem?_toArray, Nat.add_zero]
      rw [List.getElem?_append_right (by simp only [List.length_append, List.length_take, Array.length_toList, hsz]; omega), List.getElem?_drop]
      simp only [List.length_append, List.length_take, Array.length_toList, hsz]
      rw [Array.getElem?_toList]
      congr 1
      omega
end Go.Proofs.YtlncljfljjaacaaGreatDoor

namespace Go.Proofs.YtlncljfljjaacaaGreatDoor
set_option linter.unusedVariables false
set_option linter.unusedSimpArgs false

/-- How many of a key's versions go, cleaned up to low. -/
def trimN (low : Int) (l : List Vr) : Nat :=
  match upToP low l with
  | 0 => 0
  | k + 1 => match l[k]? with
    | some x => if x.gone then k + 1 else k
    | none => 0

theorem upTo_cons (t : Int) (x : Vr) (l : List Vr) : upToP t (x :: l) = upToP t l + if x.at' ≤ t then 1 else 0 := by
  unfold upToP
  rw [List.countP_cons]
  by_cases h : x.at' ≤ t <;> simp [h]

theorem trimN_zero {low : Int} {l : List Vr} (h : upToP low l = 0) : trimN low l = 0 := by unfold trimN; rw [h]

theorem trimN_le (low : Int) (l : List Vr) : trimN low l ≤ upToP low l := by
  unfold trimN
  cases h : upToP low l with
  | zero => exact Nat.le_refl _
  | succ k =>
    simp only
    cases l[k]? with
    | none => exact Nat.zero_le _
    | some x => simp only; split <;> omega

theorem trimN_one {low : Int} {x : Vr} {l : List Vr} (hx : x.at' ≤ low) (h : upToP low l = 0) : trimN low (x :: l) = if x.gone then 1 else 0 := by
  unfold trimN
  rw [upTo_cons, h, if_pos hx]
  rfl

theorem trimN_more {low : Int} {x : Vr} {l : List Vr} (hx : x.at' ≤ low) (h : 0 < upToP low l) : trimN low (x :: l) = trimN low l + 1 := by
  unfold trimN
  rw [upTo_cons, if_pos hx]
  obtain ⟨m, hm⟩ : ∃ m, upToP low l = m + 1 := ⟨upToP low l - 1, by omega⟩
  have hle := upTo_le low l
  rw [hm]
  obtain ⟨y, hy⟩ : ∃ y, l[m]? = some y := ⟨_, List.getElem?_eq_getElem (by omega)⟩
  simp only [List.getElem?_cons_succ, hy]
  split <;> omega

theorem rise_zero {low : Int} {x : Vr} {l : List Vr} (hs : Rise (x :: l)) (hx : low < x.at') : upToP low l = 0 := by
  unfold upToP
  rw [List.countP_eq_zero]
  intro y hy
  have := (List.pairwise_cons.1 hs).1 y hy
  simp; omega

theorem vers_cons (k : ByteArray) (x : Ver) (l : List Ver) : vers k (x :: l) = if x.w.key = k then toVr x :: vers k l else vers k l := by
  unfold vers
  by_cases h : x.w.key = k <;> simp [h]

theorem last_none_iff (k : ByteArray) (low : Int) (l : List Ver) : lastP k low l = none ↔ upToP low (vers k l) = 0 := by
  constructor
  · intro h
    unfold upToP
    rw [List.countP_eq_zero]
    intro y hy
    obtain ⟨x, hx, hk, rfl⟩ := vers_mem hy
    have := lastP_none h x hx
    unfold Ver.hit at this
    simp only [hk, decide_true, Bool.true_and, decide_eq_false_iff_not] at this
    have e : (toVr x).at' = x.at' := rfl
    rw [e]
    simpa using this
  · intro h
    cases hl : lastP k low l with
    | none => rfl
    | some x =>
      obtain ⟨hm, hh⟩ := lastP_some hl
      unfold Ver.hit at hh
      simp only [Bool.and_eq_true, decide_eq_true_eq] at hh
      unfold upToP at h
      rw [List.countP_eq_zero] at h
      have hy : toVr x ∈ vers k l := by
        unfold vers
        exact List.mem_map.2 ⟨x, List.mem_filter.2 ⟨hm, by simpa using hh.1⟩, rfl⟩
      have e : (toVr x).at' = x.at' := rfl
      have := h _ hy
      rw [e] at this
      simp at this
      omega

/-- Cleaned below low: of one key alone. -/
def keepK (low : Int) (k : ByteArray) : List Ver → List Ver
  | [] => []
  | x :: l => if x.w.key = k ∧ ¬ (low < x.at' ∨ (lastP k low l = none ∧ x.w.gone = false)) then keepK low k l else x :: keepK low k l

theorem keepK_mem {low : Int} {k : ByteArray} : ∀ {v : List Ver} {x : Ver}, x ∈ keepK low k v → x ∈ v
  | [], x, h => by simp [keepK] at h
  | y :: l, x, h => by
    unfold keepK at h
    split at h
    · exact List.mem_cons_of_mem _ (keepK_mem h)
    · rcases List.mem_cons.1 h with rfl | h
      · simp
      · exact List.mem_cons_of_mem _ (keepK_mem h)

theorem rising_keepK {low : Int} {k : ByteArray} : ∀ {v : List Ver}, Rising v → Rising (keepK low k v)
  | [], _ => by simp [keepK, Rising]
  | y :: l, hs => by
    have hs' := List.pairwise_cons.1 hs
    have ih := rising_keepK (low := low) (k := k) hs'.2
    unfold keepK
    split
    · exact ih
    · exact List.pairwise_cons.2 ⟨fun x hx => hs'.1 x (keepK_mem hx), ih⟩

theorem vers_keepK_other {low : Int} {k k' : ByteArray} (h : k' ≠ k) : ∀ v : List Ver, vers k' (keepK low k v) = vers k' v
  | [] => rfl
  | x :: l => by
    have ih := vers_keepK_other (low := low) h l
    unfold keepK
    split
    · rename_i hc
      rw [vers_cons, if_neg (by rw [hc.1]; exact Ne.symm h), ih]
    · rw [vers_cons, vers_cons, ih]

theorem vers_keepK {low : Int} {k : ByteArray} : ∀ v : List Ver, Rising v → vers k (keepK low k v) = (vers k v).drop (trimN low (vers k v)) ∧ (keepK low k v).length + trimN low (vers k v) = v.length
  | [], _ => ⟨rfl, rfl⟩
  | x :: l, hs => by
    have hs' := List.pairwise_cons.1 hs
    obtain ⟨ih1, ih2⟩ := vers_keepK (low := low) (k := k) l hs'.2
    have hr := rise_vers (k := k) hs
    rw [vers_cons] at hr ⊢
    by_cases hk : x.w.key = k
    · rw [if_pos hk] at hr ⊢
      by_cases hlt : low < x.at'
      · have h0 : upToP low (vers k l) = 0 := rise_zero hr hlt
        have h1 : trimN low (toVr x :: vers k l) = 0 := trimN_zero (by rw [upTo_cons, h0, if_neg (by show ¬ x.at' ≤ low; omega)])
        rw [trimN_zero h0] at ih1 ih2
        unfold keepK
        rw [if_neg (by simp [hlt]), vers_cons, if_pos hk, ih1, h1]
        exact ⟨rfl, by simp; omega⟩
      · have hle : (toVr x).at' ≤ low := by show x.at' ≤ low; omega
        by_cases hn : lastP k low l = none
        · have h0 := (last_none_iff k low l).1 hn
          rw [trimN_zero h0] at ih1 ih2
          rw [trimN_one hle h0]
          have hg : (toVr x).gone = x.w.gone := rfl
          rw [hg]
          unfold keepK
          cases hgg : x.w.gone with
          | true =>
            rw [if_pos ⟨hk, by simp [hlt]⟩, ih1]
            exact ⟨by simp, by simp; omega⟩
          | false =>
            rw [if_neg (by simp [hn]), vers_cons, if_pos hk, ih1]
            exact ⟨by simp, by simp; omega⟩
        · have h0 : 0 < upToP low (vers k l) := by
            rcases Nat.eq_zero_or_pos (upToP low (vers k l)) with h | h
            · exact absurd ((last_none_iff k low l).2 h) hn
            · exact h
          rw [trimN_more hle h0]
          unfold keepK
          rw [if_pos ⟨hk, by simp [hlt, hn]⟩, ih1]
          exact ⟨by simp, by simp; omega⟩
    · rw [if_neg hk]
      unfold keepK
      rw [if_neg (by simp [hk]), vers_cons, if_neg hk]
      exact ⟨ih1, by simp; omega⟩

theorem last_keepK_other {low t : Int} {k k' : ByteArray} (h : k' ≠ k) : ∀ v : List Ver, lastP k' t (keepK low k v) = lastP k' t v
  | [] => rfl
  | x :: l => by
    have ih := last_keepK_other (low := low) (t := t) h l
    unfold keepK
    split
    · rename_i hc
      have hh : x.hit k' t = false := by unfold Ver.hit; simp [hc.1, Ne.symm h]
      rw [ih]
      conv => rhs; unfold lastP
      rw [hh]
      cases lastP k' t l <;> rfl
    · unfold lastP
      rw [ih]

theorem keepP_keepK {low : Int} {k : ByteArray} : ∀ v : List Ver, keepP low (keepK low k v) = keepP low v
  | [] => rfl
  | x :: l => by
    have ih := keepP_keepK (low := low) (k := k) l
    rw [keepP_cons low x l]
    by_cases hk : x.w.key = k
    · by_cases hc : low < x.at' ∨ (lastP k low l = none ∧ x.w.gone = false)
      · unfold keepK
        rw [if_neg (fun h => h.2 hc), keepP_cons, ih, hk, if_pos hc, if_pos]
        rcases hc with hc | hc
        · exact .inl hc
        · refine .inr ⟨?_, hc.2⟩
          cases hl : lastP k low (keepK low k l) with
          | none => rfl
          | some y =>
            obtain ⟨hm, hh⟩ := lastP_some hl
            have := lastP_none hc.1 y (keepK_mem hm)
            rw [hh] at this
            cases this
      · unfold keepK
        rw [if_pos ⟨hk, hc⟩, ih, hk, if_neg hc]
    · unfold keepK
      rw [if_neg (fun h => hk h.1), keepP_cons, ih, last_keepK_other hk]

theorem keepP_all {low : Int} : ∀ v : List Ver, Rising v → (∀ k, trimN low (vers k v) = 0) → keepP low v = v
  | [], _, _ => rfl
  | x :: l, hs, h => by
    have hs' := List.pairwise_cons.1 hs
    have hr := rise_vers (k := x.w.key) hs
    have hx := h x.w.key
    rw [vers_cons, if_pos rfl] at hr hx
    have hc : (low < x.at' ∨ (lastP x.w.key low l = none ∧ x.w.gone = false)) ∧ upToP low (vers x.w.key l) = 0 := by
      by_cases hlt : low < x.at'
      · exact ⟨.inl hlt, rise_zero hr hlt⟩
      · have hle : (toVr x).at' ≤ low := by show x.at' ≤ low; omega
        rcases Nat.eq_zero_or_pos (upToP low (vers x.w.key l)) with h0 | h0
        · rw [trimN_one hle h0] at hx
          have hg : (toVr x).gone = x.w.gone := rfl
          rw [hg] at hx
          refine ⟨.inr ⟨(last_none_iff _ _ _).2 h0, ?_⟩, h0⟩
          cases hgg : x.w.gone with
          | true => rw [hgg] at hx; simp at hx
          | false => rfl
        · rw [trimN_more hle h0] at hx
          omega
    rw [keepP_cons, if_pos hc.1, keepP_all l hs'.2 (fun k => ?_)]
    by_cases hk : x.w.key = k
    · subst hk
      exact trimN_zero hc.2
    · have := h k
      rwa [vers_cons, if_neg hk] at this

theorem next_two (x y : Vr) (l : List Vr) : nextP (x :: y :: l) = if x.gone then x.at' else y.at' := rfl

theorem trim_quiet {low : Int} {l : List Vr} (hs : Rise l) (h : waitsP l = true → low < nextP l) : trimN low l = 0 := by
  match l, hs, h with
  | [], _, _ => rfl
  | [x], hs, h =>
    by_cases hle : x.at' ≤ low
    · rw [trimN_one hle rfl]
      cases hg : x.gone with
      | false => rfl
      | true =>
        have := h hg
        have e : nextP [x] = x.at' := rfl
        omega
    · exact trimN_zero (by rw [upTo_cons, if_neg hle]; rfl)
  | x :: y :: l, hs, h =>
    have hn := h rfl
    have hp := List.pairwise_cons.1 hs
    have hxy := hp.1 y (by simp)
    by_cases hle : x.at' ≤ low
    · rw [next_two] at hn
      cases hg : x.gone with
      | true => rw [hg] at hn; simp at hn; omega
      | false =>
        rw [hg] at hn
        simp at hn
        have h0 : upToP low (y :: l) = 0 := by rw [upTo_cons, rise_zero hp.2 hn, if_neg (by omega)]
        rw [trimN_one hle h0, hg]
        rfl
    · exact trimN_zero (by rw [upTo_cons, rise_zero hs (by omega), if_neg hle])

theorem trim_some {low : Int} {l : List Vr} (hs : Rise l) (hw : waitsP l = true) (h : nextP l ≤ low) : 0 < trimN low l := by
  match l, hs, hw, h with
  | [x], hs, hw, h =>
    have hle : x.at' ≤ low := h
    rw [trimN_one hle rfl]
    have hg : x.gone = true := hw
    simp [hg]
  | x :: y :: l, hs, hw, h =>
    have hp := List.pairwise_cons.1 hs
    have hxy := hp.1 y (by simp)
    rw [next_two] at h
    cases hg : x.gone with
    | true =>
      rw [hg] at h
      simp at h
      rcases Nat.eq_zero_or_pos (upToP low (y :: l)) with h0 | h0
      · rw [trimN_one h h0, hg]; simp
      · rw [trimN_more h h0]; omega
    | false =>
      rw [hg] at h
      simp at h
      rw [trimN_more (by omega) (by rw [upTo_cons, if_pos h]; omega)]
      omega
end Go.Proofs.YtlncljfljjaacaaGreatDoor

namespace Go.Proofs.YtlncljfljjaacaaGreatDoor
open Go.ChangeShapes Go.WideShapes Go.ChangeAt Go.RowKit
set_option linter.unusedVariables false
set_option linter.unusedSimpArgs false

def zv : Vr := ⟨0, ⟨#[]⟩, false⟩

theorem zc_enc : ∀ n, (Builtin.zeroCells zc n).toList = encVs (List.replicate n zv)
  | 0 => by simp [Builtin.zeroCells, encVs]
  | n + 1 => by
    have ih := zc_enc n
    rw [List.replicate_succ', encVs_append, ← ih]
    unfold Builtin.zeroCells
    have e : (n + 1) * zc.size = n * 3 + 1 + 1 + 1 := by show (n + 1) * 3 = _; omega
    have e2 : n * zc.size = n * 3 := rfl
    simp only [Array.toList_map, Array.toList_range, e, e2, List.range_succ, List.map_append, List.map_cons, List.map_nil, List.append_assoc]
    have h0 : zc[n * 3 % zc.size]! = .int .i64 0 := by
      have : n * 3 % zc.size = 0 := by show n * 3 % 3 = 0; omega
      rw [this]; rfl
    have h1 : zc[(n * 3 + 1) % zc.size]! = .string ⟨#[]⟩ := by
      have : (n * 3 + 1) % zc.size = 1 := by show (n * 3 + 1) % 3 = 1; omega
      rw [this]; rfl
    have h2 : zc[(n * 3 + 1 + 1) % zc.size]! = .bool false := by
      have : (n * 3 + 1 + 1) % zc.size = 2 := by show (n * 3 + 1 + 1) % 3 = 2; omega
      rw [this]; rfl
    rw [h0, h1, h2]
    rfl

/-- What a history's row holds behind its first ones were cleared. -/
def cleared (off n : Nat) (all : List Vr) : List Vr := all.take off ++ List.replicate n zv ++ all.drop (off + n)
theorem cleared_len {off n : Nat} {all : List Vr} (h : off + n ≤ all.length) : (cleared off n all).length = all.length := by
  unfold cleared
  simp only [List.length_append, List.length_take, List.length_replicate, List.length_drop]
  omega
theorem cleared_drop {off n : Nat} {all : List Vr} (h : off + n ≤ all.length) : (cleared off n all).drop (off + n) = all.drop (off + n) := by
  unfold cleared
  rw [List.drop_append_of_le_length (by simp; omega), List.drop_eq_nil_of_le (by simp; omega), List.nil_append]

theorem encVs_inj3 {off n : Nat} {all : List Vr} (h : off + n ≤ all.length) (R : List Value) :
    (encVs all ++ R).take (off * 3) ++ encVs (List.replicate n zv) ++ (encVs all ++ R).drop (off * 3 + n * 3) = encVs (cleared off n all) ++ R := by
  have e : all = all.take off ++ ((all.drop off).take n ++ all.drop (off + n)) := by
    rw [← List.drop_drop, List.take_append_drop, List.take_append_drop]
  have l1 : (encVs (all.take off)).length = off * 3 := by rw [encVs_len, List.length_take]; congr 1; omega
  have l2 : (encVs ((all.drop off).take n)).length = n * 3 := by rw [encVs_len, List.length_take, List.length_drop]; congr 1; omega
  unfold cleared
  rw [encVs_append, encVs_append]
  have e2 : encVs all = encVs (all.take off) ++ (encVs ((all.drop off).take n) ++ encVs (all.drop (off + n))) := by
    conv => lhs; rw [e]
    rw [encVs_append, encVs_append]
  rw [e2]
  generalize encVs (all.take off) = A at *
  generalize encVs ((all.drop off).take n) = M at *
  generalize encVs (all.drop (off + n)) = D at *
  rw [List.append_assoc A (M ++ D) R, List.append_assoc M D R, List.take_append_of_le_length (by omega), List.take_of_length_le (by omega), ← List.append_assoc A M (D ++ R), List.drop_append_of_le_length (by simp; omega), List.drop_eq_nil_of_le (by simp; omega)]
  simp

theorem run_clear2 (g off n c : Nat) (cur : Array Value) (all : List Vr) (R : List Value) (w : World) (hb : w.heap[g]? = some (.cells cur 152 (0, 0))) (hc : cur.toList = encVs all ++ R) (hl : off + n ≤ all.length) (ty : TypeId) :
    (Builtin.clear_ #[153] ty #[.slice (some ⟨g, off * 3, none⟩) n c]).run Tryz.prog w = .ok (.tuple #[]) (w.setRow g (encVs (cleared off n all) ++ R).toArray) := by
  have hsz : cur.size = all.length * 3 + R.length := by rw [← Array.length_toList, hc, List.length_append, encVs_len]
  have hX := encVs_inj3 hl R
  rw [← hc] at hX
  cases n with
  | zero =>
    have e : (encVs (cleared off 0 all) ++ R).toArray = cur := by
      rw [← hX]
      simp [encVs]
    rw [e, setRow_self w g cur _ (0, 0) hb]
    simp [Builtin.clear_, run_underlying Tryz.underlying153, Result.andThen]
  | succ n =>
    have h := run_storeCells_at (P := Tryz.prog) g (off * 3) 152 (Builtin.zeroCells zc (n + 1)).toList 0 cur w hb (by rw [zc_len, hsz]; omega) (zc_one _)
    have hz := zero_ver w
    have hzc : (Value.agg #[.int .i64 0, .string ⟨#[]⟩, .bool false]).cells = zc := rfl
    rw [← hX]
    rw [zc_enc] at h
    have hzl : (encVs (List.replicate (n + 1) zv)).length = (n + 1) * 3 := by rw [encVs_len]; simp
    rw [hzl] at h
    have hze : Builtin.zeroCells zc (n + 1) = (encVs (List.replicate (n + 1) zv)).toArray := by rw [← zc_enc]
    simp [Builtin.clear_, run_underlying Tryz.underlying153, Result.andThen, hz, hzc, hze, h]
end Go.Proofs.YtlncljfljjaacaaGreatDoor

namespace Go.Proofs.YtlncljfljjaacaaGreatDoor
open Go.ChangeShapes Go.WideShapes Go.ChangeAt Go.RowKit
set_option linter.unusedVariables false
set_option linter.unusedSimpArgs false

theorem encVs_one : ∀ (l : List Vr), ∀ u ∈ encVs l, u.oneCell' = true
  | [], u, h => by simp [encVs] at h
  | x :: l, u, h => by
    simp only [encVs, List.mem_cons] at h
    rcases h with rfl | rfl | rfl | h
    · rfl
    · rfl
    · rfl
    · exact encVs_one l u h

set_option maxHeartbeats 1600000 in
set_option maxRecDepth 20000 in
theorem cloneV_any (g o c : Nat) (l : List Vr) (w : World) (hf : l.length < 1000000) (hc : ∀ j u, (encVs l)[j]? = some u → w.cell? ⟨g, o + j, none⟩ = some u) :
    Calls Tryz.prog 170 #[.slice (some ⟨g, o, none⟩) l.length c] w fun e w' => ∃ v', e = .returned v' ∧ w'.ownsRow w.heap.size 152 3 v' l.length (encVs l) ∧ v' ≠ .slice none 0 0 ∧ Below w.heap.size w w' := by
  have A : Aside (∀ j u, (encVs l)[j]? = some u → w.cell? ⟨g, o + j, none⟩ = some u) := hc
  have hlen := encVs_len l
  have hone := encVs_one l
  replace hf : Hid (l.length < 1000000) := hf
  clear hc
  obtain ⟨i0, hi0, hz0, hz2, hz3⟩ := info_parts info_ver
  have q22 : ∀ (w : World) (a : Option Addr) (n c n' c' : Nat), (binOp .eql 153 (.slice a n c) (.slice none n' c')).run Tryz.prog w = .ok (.bool a.isNone) w := fun w a n c n' c' => Lib.run_eql_slice_nil w _ _ a n c n' c' Tryz.underlying153
  generalize encVs l = news at *
  generalize l.length = n at *
  go_enter Tryz.func170, Tryz.ntmps170
  go_wp2_with (at_builtin; refine wpList_append_own _ rfl _ _ 153 rfl w.heap.size 152 i0 (.agg #[.int .i64 0, .string ⟨#[]⟩, .bool false]) 3 32 Tryz.underlying153 hi0 hz0 hz2 hz3 rfl (by decide) _ _ _ rfl (World.ownsRow_made w #[] 0 (Nat.le_refl _) (Nat.zero_le _) (by simp)) ⟨g, o, none⟩ n c news rfl ?qc1 ?qc2 ?qc3 ?qc4 ?qc5 ?qc6 ?_)
  case qc1 => exact hlen
  case qc2 =>
    intro j u hj
    rw [cell_add]
    exact kept_alloc (A.out j u hj)
  case qc3 => exact hone
  case qc4 => have := hf.out; unfold maxLen; omega
  case qc5 => have := hf.out; omega
  case qc6 => simp
  intro v' w1 hown hgrow hnil
  go_wp2
  go_ret
  refine ⟨v', rfl, by simpa using hown, ?_, ?_⟩
  · exact hnil
  · exact ((Below.refl _ w).alloc (Nat.le_refl _) _).grown hgrow (by simp) (by intro k hk; simp [Value.ownBlock] at hk; omega)
end Go.Proofs.YtlncljfljjaacaaGreatDoor

namespace Go.Proofs.YtlncljfljjaacaaGreatDoor
open Go.ChangeShapes Go.WideShapes Go.ChangeAt Go.RowKit
set_option linter.unusedVariables false
set_option linter.unusedSimpArgs false

/-- The slice of a row from off on. -/
def tailV (g off n c : Nat) : Value := .slice (some ⟨g, if c = off then 0 else off * 3, none⟩) (n - off) (c - off)

set_option maxHeartbeats 800000 in
theorem live2_any (b g off n c : Nat) (k : ByteArray) (w : World) (B : Blk w b #[.string k, .slice (some ⟨g, 0, none⟩) n c, .int .i64 off] 161) (ho : off ≤ n) (hc : n ≤ c) (hm : n < 1000000) :
    Calls Tryz.prog 107 #[.pointer (some ⟨b, 0, none⟩)] w fun e w' => e = .returned (tailV g off n c) ∧ ∃ m, w' = w.drewN m := by
  have c1 := B.cell (i := 1) (v := .slice (some ⟨g, 0, none⟩) n c) rfl
  have c2 := B.cell (i := 2) (v := .int .i64 off) rfl
  clear B
  unfold tailV
  by_cases hco : c = off
  · rw [if_pos hco, show c - off = 0 by omega]
    go_enter Tryz.func107, Tryz.ntmps107
    go_wp2
    go_region
    go_wp2
    go_ret
    exact ⟨rfl, 1, rfl⟩
  · rw [if_neg hco]
    go_enter Tryz.func107, Tryz.ntmps107
    go_wp2
    go_region
    go_wp2
    go_ret
    exact ⟨rfl, 1, rfl⟩

/-- All of it have gone. -/
def Spent (w : World) (b : Nat) (k : ByteArray) : Prop := ∃ g c, Blk w b #[.string k, .slice (some ⟨g, 0, none⟩) 0 c, .int .i64 (0 : Nat)] 161

theorem Spent.of_block {w w' : World} {b : Nat} {k : ByteArray} (h : Spent w b k) (e : w'.heap[b]? = w.heap[b]?) : Spent w' b k := by
  obtain ⟨g, c, h⟩ := h
  exact ⟨g, c, h.of_block e⟩

set_option maxHeartbeats 800000 in
theorem waits0_any (b : Nat) (k : ByteArray) (w : World) (H : Spent w b k) :
    Calls Tryz.prog 113 #[.pointer (some ⟨b, 0, none⟩)] w fun e w' => e = .returned (.bool false) ∧ ∃ n, w' = w.drewN n := by
  obtain ⟨g, c, B⟩ := H
  have L := live2_any b g 0 0 c k w B (Nat.le_refl _) (Nat.zero_le _) (by omega)
  unfold tailV at L
  simp only [Nat.sub_zero, Nat.zero_sub] at L
  clear B
  generalize (if c = 0 then 0 else 0 * 3) = o at L
  go_enter Tryz.func113, Tryz.ntmps113
  go_wp2_with fail
  refine L.mono ?_
  rintro e w1 ⟨rfl, n, rfl⟩
  clear L
  go_wp2_with fail
  go_ret
  exact ⟨rfl, n, rfl⟩

set_option maxHeartbeats 800000 in
theorem empty0_any (b : Nat) (k : ByteArray) (w : World) (H : Spent w b k) :
    Calls Tryz.prog 115 #[.pointer (some ⟨b, 0, none⟩)] w fun e w' => e = .returned (.bool true) ∧ ∃ n, w' = w.drewN n := by
  obtain ⟨g, c, B⟩ := H
  have L := live2_any b g 0 0 c k w B (Nat.le_refl _) (Nat.zero_le _) (by omega)
  unfold tailV at L
  simp only [Nat.sub_zero, Nat.zero_sub] at L
  clear B
  generalize (if c = 0 then 0 else 0 * 3) = o at L
  go_enter Tryz.func115, Tryz.ntmps115
  go_wp2_with fail
  refine L.mono ?_
  rintro e w1 ⟨rfl, n, rfl⟩
  clear L
  go_wp2_with fail
  go_ret
  exact ⟨rfl, n, rfl⟩
end Go.Proofs.YtlncljfljjaacaaGreatDoor

namespace Go.Proofs.YtlncljfljjaacaaGreatDoor
open Go.ChangeShapes Go.WideShapes Go.ChangeAt Go.RowKit
set_option linter.unusedVariables false
set_option linter.unusedSimpArgs false

def Dropped (w w' : World) (h : Hi) (n : Nat) : Prop :=
  (n < h.live.length ∧ ∃ row all off, HistAt w' { h with row := row, all := all, off := off } ∧ all.drop off = h.live.drop n ∧ all.length ≤ h.all.length ∧ ∀ g, row.ownBlock = some g → h.row.ownBlock = some g ∨ w.heap.size ≤ g) ∨ (n = h.live.length ∧ Spent w' h.blk h.key)

theorem setRow_Blk {w : World} {g b : Nat} {cs : Array Value} {t : TypeId} (B : Blk w b cs t) (h : b ≠ g) (cur : Array Value) : Blk (w.setRow g cur) b cs t := B.of_block (setRow_other w g b cur h)

theorem ownsRow_form0 {w : World} {base : Nat} {e : TypeId} {size : Nat} {v : Value} {n : Nat} {xs : List Value} (h : w.ownsRow base e size v n xs) (hv : v ≠ .slice none 0 0) : ∃ g c, v = .slice (some ⟨g, 0, none⟩) n c ∧ base ≤ g := by
  rcases h.2 with ⟨h1, _⟩ | ⟨g, c, cur, h1, h2, _⟩
  · exact absurd h1 hv
  · exact ⟨g, c, h1, h2⟩

theorem own_base {w : World} {a b : Nat} {e : TypeId} {size : Nat} {v : Value} {n : Nat} {xs : List Value} (h : w.ownsRow a e size v n xs) (hb : b ≤ a) : w.ownsRow b e size v n xs := by
  obtain ⟨h1, h2⟩ := h
  refine ⟨h1, ?_⟩
  rcases h2 with h2 | ⟨g, c, cur, e1, e2, r⟩
  · exact .inl h2
  · exact .inr ⟨g, c, cur, e1, Nat.le_trans hb e2, r⟩

set_option maxHeartbeats 3200000 in
set_option maxRecDepth 20000 in
theorem drop_any (h : Hi) (n : Nat) (w : World) (H : HistAt w h) (h0 : 0 < h.live.length) (hn : n ≤ h.live.length) :
    Calls Tryz.prog 141 #[.pointer (some ⟨h.blk, 0, none⟩), .int .i64 n] w fun e w' => e = .returned (.tuple #[]) ∧ Only (fun k => k = h.blk ∨ h.row.ownBlock = some k) w w' ∧ Dropped w w' h n := by
  have L := live_any h w H
  obtain ⟨blk, key, row, all, off⟩ := h
  unfold Dropped
  unfold Hi.live at *
  simp only at *
  have hB : Blk w blk #[.string key, row, .int .i64 off] 161 := H.blk
  have hrow := H.row
  have hfew := H.few
  have hkey := H.key
  simp only at hrow hfew hkey
  clear H
  rw [List.length_drop] at *
  obtain ⟨hl, hr⟩ := hrow
  rcases hr with ⟨rfl, hz⟩ | ⟨g, cap, cur, rfl, _, hg, hnc, hcm, hcs, htk⟩
  · omega
  have hgb : blk ≠ g := by
    rintro rfl
    rw [hB] at hg
    simp at hg
  obtain ⟨R, hR⟩ : ∃ R, cur.toList = encVs all ++ R := ⟨cur.toList.drop (all.length * 3), by rw [← htk, List.take_append_drop]⟩
  have hle : off + n ≤ all.length := by omega
  have CL := fun (W : World) (hb : W.heap[g]? = some (.cells cur 152 (0, 0))) ty => run_clear2 g off n (cap - off) cur all R W hb hR hle ty
  have hcur2 : (encVs (cleared off n all) ++ R).toArray.size = cap * 3 := by
    have : cur.toList.length = all.length * 3 + R.length := by rw [hR, List.length_append, encVs_len]
    rw [Array.length_toList] at this
    simp only [List.size_toArray, List.length_append, encVs_len, cleared_len hle]
    omega
  have htk2 : (encVs (cleared off n all) ++ R).toArray.toList.take ((cleared off n all).length * 3) = encVs (cleared off n all) := by
    simp only [List.take_left' (encVs_len _)]
  have hclen := cleared_len hle
  have hcdrop := cleared_drop hle
  generalize cleared off n all = all2 at *
  generalize (encVs all2 ++ R).toArray = cur2 at *
  -- the row behind clear, in whatever world holds it
  have HROW : Hid (∀ W : World, W.heap[g]? = some (.cells cur2 152 (0, 0)) → W.ownsRow 0 152 3 (.slice (some ⟨g, 0, none⟩) all.length cap) all2.length (encVs all2)) := fun W hW =>
    ⟨encVs_len _, .inr ⟨g, cap, cur2, by rw [hclen], Nat.zero_le _, hW, by rw [hclen]; exact hnc, hcm, hcur2, htk2⟩⟩
  have HF : Hid (off < all.length ∧ n ≤ all.length - off ∧ all.length < 1000000 ∧ key.size ≤ maxLen ∧ all.length ≤ cap ∧ all2.length = all.length ∧ all2.drop (off + n) = all.drop (off + n)) := ⟨by omega, hn, hfew, hkey, hnc, hclen, hcdrop⟩
  have hLV : liveV off (.slice (some ⟨g, 0, none⟩) all.length cap) = .slice (some ⟨g, off * 3, none⟩) (all.length - off) (cap - off) := rfl
  rw [hLV] at L
  have hdd : (all.drop off).drop n = all.drop (off + n) := by rw [List.drop_drop]
  rw [hdd]
  have hgl : g < w.heap.size := (Array.getElem?_eq_some_iff.1 hg).1
  have hbl : blk < w.heap.size := hB.lt
  have hXX : Hid (g < w.heap.size ∧ blk < w.heap.size) := ⟨hgl, hbl⟩
  have hnI : (n : Int) ≤ ((all.length - off : Nat) : Int) := by omega
  have hnC : (n : Int) ≤ ((cap - off : Nat) : Int) := by omega
  have hn0 : (0 : Int) ≤ (n : Int) := by omega
  clear hLV hdd hfew hkey hnc hcm hcs htk hclen hcdrop hcur2 htk2 hR hn h0 hgl hbl hl hle
  generalize hof : off + n = of at *
  have hoI : (off : Int) + (n : Int) = (of : Int) := by omega
  have hoB : (of : Int) < 1000000 := by have := HF.out; omega
  have hoB0 : (0 : Int) ≤ (of : Int) := by omega
  replace hof : Hid (off + n = of) := hof
  go_enter Tryz.func141, Tryz.ntmps141
  go_wp2_with fail
  refine L.mono ?_
  rintro e w1 ⟨rfl, m, rfl⟩
  clear L
  have B1 : Blk (w.drewN m) blk #[.string key, .slice (some ⟨g, 0, none⟩) all.length cap, .int .i64 off] 161 := hB
  have hg1 : (w.drewN m).heap[g]? = some (.cells cur 152 (0, 0)) := hg
  have O1 : Hid (Only (fun k => k = blk ∨ (Value.slice (some ⟨g, 0, none⟩) all.length cap).ownBlock = some k) w (w.drewN m)) := ⟨rfl, rfl, rfl, Nat.le_refl _, fun _ _ _ => rfl⟩
  replace CL := fun ty => CL _ hg1 ty
  generalize w.drewN m = w1 at *
  clear hB hg
  have B2 := setRow_Blk B1 hgb cur2
  have hg2 : (w1.setRow g cur2).heap[g]? = some (.cells cur2 152 (0, 0)) := setRow_heap w1 g cur cur2 _ _ hg1
  have O2 : Hid (Only (fun k => k = blk ∨ (Value.slice (some ⟨g, 0, none⟩) all.length cap).ownBlock = some k) w (w1.setRow g cur2)) :=
    ⟨O1.out.os, O1.out.tape, O1.out.output, by simp; exact O1.out.size, fun k hk hn => (setRow_other w1 g k cur2 (fun e => hn (.inr (by rw [e]; rfl)))).trans (O1.out.block k hk hn)⟩
  have c2 := B2.cell (i := 2) (v := .int .i64 off) rfl
  have f2 := B2.thawed 2
  go_wp2_with fail
  have B3 : Blk ((w1.setRow g cur2).setCell ⟨blk, 2, none⟩ (.int .i64 of)) blk #[.string key, .slice (some ⟨g, 0, none⟩) all.length cap, .int .i64 of] 161 := B2.set 2 _
  have hg3 : ((w1.setRow g cur2).setCell ⟨blk, 2, none⟩ (.int .i64 of)).heap[g]? = some (.cells cur2 152 (0, 0)) := (Below.heap_setCell _ _ _ _ (Ne.symm hgb)).trans hg2
  have O3 : Hid (Only (fun k => k = blk ∨ (Value.slice (some ⟨g, 0, none⟩) all.length cap).ownBlock = some k) w ((w1.setRow g cur2).setCell ⟨blk, 2, none⟩ (.int .i64 of))) :=
    ⟨O2.out.os, O2.out.tape, O2.out.output, by have := O2.out.size; simp [World.setCell] at this ⊢; exact this, fun k hk hn => (Below.heap_setCell _ _ _ _ (fun e => hn (.inl e))).trans (O2.out.block k hk hn)⟩
  clear c2 f2 B1 hg1 O1 B2 hg2 O2 CL hnI hnC hn0 hoI
  generalize (w1.setRow g cur2).setCell ⟨blk, 2, none⟩ (.int .i64 of) = w3 at *
  have c1 := B3.cell (i := 1) (v := .slice (some ⟨g, 0, none⟩) all.length cap) rfl
  have c2 := B3.cell (i := 2) (v := .int .i64 of) rfl
  have hlI : (all.length : Int) < 1000000 := by have := HF.out; omega
  by_cases hge : (all.length : Int) ≤ 2 * (of : Int)
  · go_region
    clear c1 c2 hge
    have L := live2_any blk g of all.length cap key w3.drew B3 (by have := HF.out; have := hof.out; omega) (by have := HF.out; omega) (by have := HF.out; omega)
    have C : Hid (∀ w4, w4.heap[g]? = some (.cells cur2 152 (0, 0)) → Calls Tryz.prog 170 #[tailV g of all.length cap] w4 fun e w' => ∃ v', e = .returned v' ∧ w'.ownsRow w4.heap.size 152 3 v' (all.length - of) (encVs (all.drop of)) ∧ v' ≠ .slice none 0 0 ∧ Below w4.heap.size w4 w') := by
      intro w4 hg4
      obtain ⟨f1, f2, f3, f4, f5, f6, f7⟩ := HF.out
      have R4 := HROW.out w4 hg4
      have hlen : (all.drop of).length = all.length - of := List.length_drop
      have := cloneV_any g (if cap = of then 0 else of * 3) (cap - of) (all.drop of) w4 (by omega) (fun j u hj => by
        have hjl := (List.getElem?_eq_some_iff.1 hj).1
        rw [encVs_len, hlen] at hjl
        rw [if_neg (by omega)]
        have e2 : encVs all2 = encVs (all2.take of) ++ encVs (all.drop of) := by rw [← f7, ← encVs_append, List.take_append_drop]
        have h3 : (encVs all2)[of * 3 + j]? = some u := by
          rw [e2, List.getElem?_append_right (by rw [encVs_len, List.length_take]; omega), encVs_len, List.length_take]
          rw [show of * 3 + j - min of all2.length * 3 = j by omega]
          exact hj
        have := R4.cells (g := g) rfl _ _ h3
        rw [cell_add, Nat.zero_add] at this
        exact this)
      unfold tailV
      rw [hlen] at this
      exact this
    go_wp2_with fail
    refine L.mono ?_
    rintro e w4 ⟨rfl, m4, rfl⟩
    clear L
    replace C := C.out (w3.drew.drewN m4) hg3
    have B4 : Blk (w3.drew.drewN m4) blk #[.string key, .slice (some ⟨g, 0, none⟩) all.length cap, .int .i64 of] 161 := B3
    have O4 : Hid (Only (fun k => k = blk ∨ (Value.slice (some ⟨g, 0, none⟩) all.length cap).ownBlock = some k) w (w3.drew.drewN m4)) := ⟨O3.out.os, O3.out.tape, O3.out.output, O3.out.size, O3.out.block⟩
    generalize w3.drew.drewN m4 = w4 at *
    clear B3 hg3 O3
    unfold tailV at C ⊢
    generalize (if cap = of then 0 else of * 3) = oo at *
    go_wp2_with fail
    refine C.mono ?_
    rintro e w5 ⟨v', rfl, R5, hnil, hb5⟩
    clear C
    have hb4 : blk < w4.heap.size := B4.lt
    have B5 := B4.of_block (hb5.block blk hb4)
    obtain ⟨g2, cc2, rfl, hg2⟩ := ownsRow_form0 R5 hnil
    have O5 : Hid (Only (fun k => k = blk ∨ (Value.slice (some ⟨g, 0, none⟩) all.length cap).ownBlock = some k) w w5) :=
      ⟨hb5.os.trans O4.out.os, hb5.tape.trans O4.out.tape, hb5.output.trans O4.out.output, Nat.le_trans O4.out.size hb5.size, fun k hk hn => (hb5.block k (Nat.lt_of_lt_of_le hk O4.out.size)).trans (O4.out.block k hk hn)⟩
    have hne2 : blk ≠ g2 := by omega
    have hge2 : w.heap.size ≤ g2 := Nat.le_trans O4.out.size hg2
    have B6 := (B5.set 1 (.slice (some ⟨g2, 0, none⟩) (all.length - of) cc2)).set 2 (.int .i64 (0 : Nat))
    have R6 := ownsRow_setCell_other (ownsRow_setCell_other R5 (a := ⟨blk, 1, none⟩) (by simpa [Value.ownBlock] using Ne.symm hne2) (.slice (some ⟨g2, 0, none⟩) (all.length - of) cc2)) (a := ⟨blk, 2, none⟩) (by simpa [Value.ownBlock] using Ne.symm hne2) (.int .i64 (0 : Nat))
    have c1 := B5.cell (i := 1) (v := .slice (some ⟨g, 0, none⟩) all.length cap) rfl
    have f1 := B5.thawed 1
    have c2 := B5.cell (i := 2) (v := .int .i64 of) rfl
    have f2 := B5.thawed 2
    clear hb5 hb4 B4 O4
    go_wp2_with fail
    go_end0
    obtain ⟨f1, f2, f3, f4, f5, f6, f7⟩ := HF.out
    have hofn := hof.out
    refine ⟨rfl, ⟨O5.out.os, O5.out.tape, O5.out.output, by have := O5.out.size; simp [World.setCell] at this ⊢; exact this, fun k hk hn => (Below.heap_setCell _ _ _ _ (fun e => hn (.inl e))).trans ((Below.heap_setCell _ _ _ _ (fun e => hn (.inl e))).trans (O5.out.block k hk hn))⟩, ?_⟩
    by_cases he : of = all.length
    · right
      have e0 : all.length - of = 0 := by omega
      refine ⟨by omega, g2, cc2, ?_⟩
      rw [e0] at B6 ⊢
      exact B6
    · left
      have hlen : (all.drop of).length = all.length - of := List.length_drop
      refine ⟨by omega, .slice (some ⟨g2, 0, none⟩) (all.length - of) cc2, all.drop of, 0, ⟨B6, ?_, .inl ?_, ?_, f4⟩, rfl, ?_, fun g' h => .inr ?_⟩
      · dsimp only
        rw [hlen]
        exact own_base R6 (Nat.zero_le _)
      · show 0 < (all.drop of).length
        omega
      · show (all.drop of).length < 1000000
        omega
      · show (all.drop of).length ≤ all.length
        omega
      · simp [Value.ownBlock] at h
        omega
  · go_region
    go_wp2_with fail
    go_end0
    obtain ⟨f1, f2, f3, f4, f5, f6, f7⟩ := HF.out
    have := hof.out
    refine ⟨rfl, ⟨O3.out.os, O3.out.tape, O3.out.output, O3.out.size, O3.out.block⟩, .inl ⟨by omega, .slice (some ⟨g, 0, none⟩) all.length cap, all2, of, ⟨B3, ?_, .inl ?_, ?_, f4⟩, f7, by omega, fun g' h => .inl h⟩⟩
    · exact HROW.out w3.drew hg3
    · show of < all2.length
      omega
    · show all2.length < 1000000
      omega
end Go.Proofs.YtlncljfljjaacaaGreatDoor

namespace Go.Proofs.YtlncljfljjaacaaGreatDoor
open Go.ChangeShapes Go.WideShapes Go.ChangeAt Go.RowKit
set_option linter.unusedVariables false
set_option linter.unusedSimpArgs false

theorem Dropped.later {w0 w w' : World} {h : Hi} {n : Nat} (D : Dropped w w' h n) (hb : Below w0.heap.size w0 w) : Dropped w0 w' h n := by
  rcases D with ⟨h1, row, all, off, h2, h3, h4, h5⟩ | D
  · exact .inl ⟨h1, row, all, off, h2, h3, h4, fun g hg => (h5 g hg).imp id (fun x => Nat.le_trans hb.size x)⟩
  · exact .inr D

theorem Only.behind {F : Nat → Prop} {w0 w w' : World} (O : Only F w w') (hb : Below w0.heap.size w0 w) : Only F w0 w' :=
  ⟨O.os.trans hb.os, O.tape.trans hb.tape, O.output.trans hb.output, Nat.le_trans hb.size O.size, fun k hk hn => (O.block k (Nat.lt_of_lt_of_le hk hb.size) hn).trans (hb.block k hk)⟩

set_option maxHeartbeats 1600000 in
set_option maxRecDepth 20000 in
theorem trim_any (h : Hi) (low : Int) (w : World) (H : HistAt w h) (hs : Rise h.live) (h0 : 0 < h.live.length) :
    Calls Tryz.prog 112 #[.pointer (some ⟨h.blk, 0, none⟩), .int .i64 low] w fun e w' => e = .returned (.int .i64 (trimN low h.live : Nat)) ∧ Only (fun k => k = h.blk ∨ h.row.ownBlock = some k) w w' ∧ Dropped w w' h (trimN low h.live) := by
  have U := upTo_any h low w H hs
  have hle := upTo_le low h.live
  have hfew := live_len H.few
  have HL : Hid (∀ w1, Below w.heap.size w w1 → Calls Tryz.prog 107 #[.pointer (some ⟨h.blk, 0, none⟩)] w1 fun e w' => e = .returned (liveV h.off h.row) ∧ ∃ n, w' = w1.drewN n) := fun w1 hb => live_any h w1 (H.below hb)
  have HA : Hid (∀ w1, Below w.heap.size w w1 → LiveAt w1 (liveV h.off h.row) h.live) := fun w1 hb => (H.below hb).liveAt
  have HD : Hid (∀ w1, Below w.heap.size w w1 → trimN low h.live ≤ h.live.length → Calls Tryz.prog 141 #[.pointer (some ⟨h.blk, 0, none⟩), .int .i64 (trimN low h.live : Nat)] w1 fun e w' => e = .returned (.tuple #[]) ∧ Only (fun k => k = h.blk ∨ h.row.ownBlock = some k) w w' ∧ Dropped w w' h (trimN low h.live)) := fun w1 hb hn =>
    (drop_any h _ w1 (H.below hb) h0 hn).mono fun e w' ⟨h1, h2, h3⟩ => ⟨h1, h2.behind hb, h3.later hb⟩
  have hT : Hid (trimN low h.live ≤ h.live.length) := Nat.le_trans (trimN_le low h.live) hle
  have hzero : upToP low h.live = 0 → trimN low h.live = 0 := trimN_zero
  have hmore : ∀ k, upToP low h.live = k + 1 → ∃ x, h.live[k]? = some x ∧ trimN low h.live = if x.gone then k + 1 else k := by
    intro k hk
    have hkl : k < h.live.length := by omega
    refine ⟨h.live[k], List.getElem?_eq_getElem hkl, ?_⟩
    unfold trimN
    rw [hk]
    simp only [List.getElem?_eq_getElem hkl]
  generalize Dropped w = DD at *
  generalize (fun k => k = h.blk ∨ h.row.ownBlock = some k) = FF at *
  generalize hbk : h.blk = hb at *
  generalize liveV h.off h.row = lv at HL HA
  generalize upToP low h.live = u at *
  generalize hl : h.live = l at *
  generalize htn : trimN low l = tn at *
  clear H hs h0 hl htn hbk
  go_enter Tryz.func112, Tryz.ntmps112
  go_wp2_with fail
  refine U.mono ?_
  rintro e w1 ⟨rfl, hb1⟩
  clear U
  by_cases hu0 : u = 0
  · subst hu0
    obtain rfl := hzero rfl
    have D := HD.out w1 hb1 hT.out
    clear HD HL HA hzero hmore hT hle hfew
    rw [show ((0 : Nat) : Int) = 0 from rfl] at D
    go_wp2_with fail
    refine D.mono ?_
    rintro e w2 ⟨rfl, h2, h3⟩
    go_wp2_with fail
    go_ret
    exact ⟨rfl, h2, h3⟩
  · obtain ⟨k, hk⟩ : ∃ k, u = k + 1 := ⟨u - 1, by omega⟩
    obtain ⟨x, hx, ht⟩ := hmore k hk
    have L := HL.out w1 hb1
    have hk1 : (u : Int) - 1 = (k : Int) := by omega
    have hkp : (0 : Int) < (u : Int) := by omega
    have hkI : (k : Int) < 1000000 := by omega
    have hk0 : (0 : Int) ≤ (k : Int) := by omega
    have HK : Hid (k < l.length ∧ u = k + 1 ∧ l.length < 1000000) := ⟨by omega, hk, hfew⟩
    clear HL hzero hmore hle hfew hu0 hk
    replace ht : Hid (tn = if x.gone then k + 1 else k) := ht
    have HX : Hid _ := And.intro hk1 (And.intro hkI (And.intro hk0 hx))
    clear hk1 hkI hk0 hx
    go_wp2_with fail
    refine L.mono ?_
    rintro e w2 ⟨rfl, n, rfl⟩
    clear L
    have hb2 : Below w.heap.size w (w1.drewN n) := hb1.trans ((below_drewN w1 n).mono hb1.size)
    have A := HA.out _ hb2
    have D := HD.out _ hb2 hT.out
    clear hb1 HA HD hT
    generalize w1.drewN n = w2 at *
    obtain ⟨hk1, hkI, hk0, hx⟩ := HX.out
    obtain ⟨q1, q2, q3⟩ := HK.out
    have hkl : (k : Int) < (l.length : Int) := by omega
    have hll : (l.length : Int) < 1000000 := by omega
    rcases A with ⟨rfl, _⟩ | ⟨g, o, c, rfl, _, _, hg, hcell⟩
    · simp at hx
    · obtain ⟨a1, a2, a3⟩ := hcell k x hx
      clear hcell hx q1 q3 HX HK hb2 hg a1 a2 hkp
      generalize l.length = ln at *
      replace q2 : Hid (u = k + 1) := q2
      cases hgn : x.gone with
      | true =>
        rw [hgn] at a3
        have e : tn = u := by rw [ht.out, if_pos hgn, q2.out]
        rw [e] at D
        replace e : Hid (tn = _) := e
        clear hgn ht q2
        go_wp2_with fail
        refine D.mono ?_
        rintro e w3 ⟨rfl, h2, h3⟩
        go_wp2_with fail
        go_ret
        exact ⟨by rw [e.out]; rfl, h2, by rw [e.out]; exact h3⟩
      | false =>
        rw [hgn] at a3
        have e : tn = k := by rw [ht.out, if_neg (by rw [hgn]; decide)]
        rw [e] at D
        replace e : Hid (tn = _) := e
        clear hgn ht q2
        go_wp2_with fail
        refine D.mono ?_
        rintro e w3 ⟨rfl, h2, h3⟩
        go_wp2_with fail
        go_ret
        exact ⟨by rw [e.out]; rfl, h2, by rw [e.out]; exact h3⟩
end Go.Proofs.YtlncljfljjaacaaGreatDoor

namespace Go.Proofs.YtlncljfljjaacaaGreatDoor
open Go.ChangeShapes Go.WideShapes Go.ChangeAt Go.RowKit
set_option linter.unusedVariables false
set_option linter.unusedSimpArgs false

theorem heap_congr {f g : Nat → Int} {l : List Nat} (h : ∀ b ∈ l, f b = g b) (H : HeapOn (keyL f l) l.length) : HeapOn (keyL g l) l.length := by
  intro k k0 kn
  have e : ∀ j, j < l.length → keyL g l j = keyL f l j := fun j hj => by
    unfold keyL
    rw [h _ (by rw [List.getD_eq_getElem?_getD, List.getElem?_eq_getElem hj]; exact List.getElem_mem hj)]
  rw [e _ kn, e _ (by omega)]
  exact H k k0 kn

structure Half (w : World) (S : St) (k : ByteArray) (h : Hi) : Prop where
  store : StoreAt w S
  heap : HeapOn (keyL (nx S.hb) S.due) S.due.length
  nodup : S.due.Nodup
  hs : S.hs k = some h
  ne : ∀ k2 h2, S.hs k2 = some h2 → h2.live ≠ []
  wait : ∀ k2 h2, S.hs k2 = some h2 → waitsP h2.live = true → h2.blk ∈ S.due ∨ k2 = k
  notin : h.blk ∉ S.due
  len : S.due.length + 1 ≤ S.tot

theorem Half.later {w w' : World} {S : St} {k : ByteArray} {h : Hi} (M : Half w S k h) (hb : Below w.heap.size w w') : Half w' S k h :=
  { M with store := M.store.below hb }

theorem Half.done {w : World} {S : St} {k : ByteArray} {h : Hi} (M : Half w S k h) (d : waitsP h.live = false) : Good S := by
  refine ⟨M.ne, M.nodup, fun k2 h2 e hw => ?_, M.heap⟩
  rcases M.wait k2 h2 e hw with h3 | rfl
  · exact h3
  · rw [M.hs] at e
    cases e
    rw [d] at hw; cases hw

theorem Half.put {w : World} {S : St} {k : ByteArray} {h : Hi} (M : Half w S k h) (d : waitsP h.live = true) :
    Calls Tryz.prog 114 #[.pointer (some ⟨S.p, 5, none⟩), .pointer (some ⟨h.blk, 0, none⟩)] w fun e w' => e = .returned (.tuple #[]) ∧ ∃ v l, StoreAt w' (S.dued v l) ∧ Step w w' S (S.dued v l) ∧ Good (S.dued v l) := by
  have hbb := (M.store.his _ _ M.hs).2.2
  have I : ∀ b ∈ S.due ++ [h.blk], ∃ k, S.hs k = some (S.hb b) ∧ (S.hb b).blk = b := by
    intro b m
    rcases List.mem_append.1 m with m | m
    · obtain ⟨k, e⟩ := M.store.dueIn b m
      exact ⟨k, e, (M.store.dueD.his b m).1⟩
    · obtain rfl : b = h.blk := by simpa using m
      exact ⟨k, by rw [hbb]; exact M.hs, by rw [hbb]⟩
  have hH := (M.store.his _ _ M.hs).1
  refine (put_any S.p h.blk S.cs S.dueV S.due S.hb w M.store.blk rfl M.store.dueD (M.store.apt I) ⟨by rw [hbb], by rw [hbb]; exact hH, by rw [hbb]; exact d⟩ M.heap (by have := M.len; have := M.store.few; omega)).mono ?_
  rintro e w' ⟨rfl, v', l', hp, hh, B, D, O, R⟩
  refine ⟨rfl, v', l', M.store.dued B D O R (fun b m => ?_) ?_, Step.dued M.store O R, ⟨M.ne, ?_, ?_, hh⟩⟩
  · obtain ⟨k, e, _⟩ := I b (hp.mem_iff.1 m)
    exact ⟨k, e⟩
  · rw [hp.length_eq]; simp; exact M.len
  · show l'.Nodup
    rw [hp.nodup_iff, List.nodup_append]
    refine ⟨M.nodup, by simp, fun a ha b hb => ?_⟩
    obtain rfl : b = h.blk := by simpa using hb
    rintro rfl
    exact M.notin ha
  · intro k2 h2 e hw
    show h2.blk ∈ l'
    rw [hp.mem_iff]
    rcases M.wait k2 h2 e hw with h3 | rfl
    · exact List.mem_append_left _ h3
    · have e : S.hs k2 = some h2 := e
      rw [M.hs] at e
      have := Option.some.inj e
      rw [← this]
      simp

/-- The first of the heap was taken. -/
theorem half_take {w w1 : World} {S : St} {v : Value} {l : List Nat} (A : StoreAt w S) (G : Good S) (h0 : 0 < S.due.length) (hp : (l ++ [S.due.getD 0 0]).Perm S.due) (hh : HeapOn (keyL (nx S.hb) l) l.length) (B : Blk w1 S.p (S.cs.setIfInBounds 5 v) 66)
    (D : DueAt w1 v l S.hb) (O : Only (fun b => b = S.p ∨ S.dueV.ownBlock = some b) w w1) (R : ∀ g, v.ownBlock = some g → S.dueV.ownBlock = some g) :
    ∃ k, Half w1 (S.dued v l) k (S.hb (S.due.getD 0 0)) ∧ Step w w1 S (S.dued v l) ∧ (S.hb (S.due.getD 0 0)).blk = S.due.getD 0 0 ∧ waitsP (S.hb (S.due.getD 0 0)).live = true := by
  have hm : S.due.getD 0 0 ∈ S.due := by
    rw [List.getD_eq_getElem?_getD, List.getElem?_eq_getElem h0]
    exact List.getElem_mem h0
  generalize S.due.getD 0 0 = b at *
  obtain ⟨k, hk⟩ := A.dueIn b hm
  obtain ⟨d1, d2, d3⟩ := A.dueD.his b hm
  have hnd : (l ++ [b]).Nodup := hp.nodup_iff.2 G.nodup
  have hnd' := List.nodup_append.1 hnd
  have hlen : l.length + 1 = S.due.length := by have := hp.length_eq; simpa using this
  have hle : l.length + 1 ≤ S.tot := by have := A.few.2.1; omega
  have hbl : b ∉ l := fun h => hnd'.2.2 b h b (by simp) rfl
  refine ⟨k, ⟨A.dued B D O (fun g hg => .inl (R g hg)) (fun x hx => A.dueIn x (hp.mem_iff.1 (List.mem_append_left _ hx))) (by omega), hh, hnd'.1, hk, G.ne, fun k2 h2 e hw => ?_, ?_, hle⟩, Step.dued A O (fun g hg => .inl (R g hg)), d1, d3⟩
  · have := hp.mem_iff.2 (G.wait k2 h2 e hw)
    rcases List.mem_append.1 this with h | h
    · exact .inl h
    · right
      have h : h2.blk = b := by simpa using h
      have l1 := A.labHis k2 h2 e
      have l2 := A.labHis k _ hk
      rw [d1] at l2
      rw [h, l2] at l1
      injection l1 with l1
      injection l1 with l1
      exact l1.symm
  · rw [d1]; exact hbl

/-- A history turned. -/
theorem Half.turn {w w' : World} {S : St} {k : ByteArray} {h h' : Hi} (M : Half w S k h) (H : HistAt w' h') (e1 : h'.blk = h.blk) (e2 : h'.key = h.key)
    (O : Only (fun b => b = h.blk ∨ h.row.ownBlock = some b) w w') (R : ∀ g, h'.row.ownBlock = some g → h.row.ownBlock = some g ∨ w.heap.size ≤ g) (hl : h'.all.length ≤ h.all.length) (hne : h'.live ≠ []) :
    Half w' (S.turn k h' S.tot) k h' ∧ Step w w' S (S.turn k h' S.tot) := by
  have hhs : ∀ k2 h2, (S.turn k h' S.tot).hs k2 = some h2 → (k2 = k ∧ h2 = h') ∨ (k2 ≠ k ∧ S.hs k2 = some h2) := fun k2 h2 e => by
    have e : (if k2 = k then some h' else S.hs k2) = some h2 := e
    by_cases n : k2 = k
    · rw [if_pos n] at e; exact .inl ⟨n, (Option.some.inj e).symm⟩
    · rw [if_neg n] at e; exact .inr ⟨n, e⟩
  refine ⟨⟨M.store.turn M.hs H e1 e2 O R (fun m => absurd m M.notin) (Nat.le_refl _) (Nat.le_trans hl (M.store.all _ _ M.hs)) M.store.few.2.2.1, ?_, M.nodup, if_pos rfl, ?_, ?_, by rw [e1]; exact M.notin, M.len⟩, Step.turn M.store M.hs O R⟩
  · refine heap_congr (fun b hb => ?_) M.heap
    unfold nx
    show nextP (S.hb b).live = nextP (if b = h'.blk then h' else S.hb b).live
    rw [if_neg]
    rintro rfl
    rw [e1] at hb
    exact M.notin hb
  · intro k2 h2 e
    rcases hhs k2 h2 e with ⟨_, rfl⟩ | ⟨_, e⟩
    · exact hne
    · exact M.ne k2 h2 e
  · intro k2 h2 e hw
    rcases hhs k2 h2 e with ⟨n, rfl⟩ | ⟨_, e⟩
    · exact .inr n
    · exact M.wait k2 h2 e hw

/-- A key forgotten. -/
def St.forget (S : St) (k : ByteArray) : St := { S with hs := fun k' => if k' = k then none else S.hs k' }

theorem Half.forget {w w' : World} {S : St} {k : ByteArray} {h : Hi} (M : Half w S k h) (K : KMap w' S.m S.n (fput S.f k none)) (O : Only (fun b => (b = h.blk ∨ h.row.ownBlock = some b) ∨ b = S.m) w w') :
    StoreAt w' (S.forget k) ∧ Good (S.forget k) ∧ Step w w' S (S.forget k) := by
  have A := M.store
  have hlt : ∀ b r, S.lab b = some r → b < w.heap.size := fun b r e => A.lt b (by rw [e]; rfl)
  have hkeep : ∀ b r, S.lab b = some r → r ≠ .his k → r ≠ .row k → r ≠ .mp → w'.heap[b]? = w.heap[b]? := fun b r e n1 n2 n3 => O.block b (hlt b r e) (by
    rintro ((e' | e') | e')
    · rw [e', A.labHis k h M.hs] at e; exact n1 (Option.some.inj e).symm
    · rw [A.labRow k h b M.hs e'] at e; exact n2 (Option.some.inj e).symm
    · rw [e', A.labM] at e; exact n3 (Option.some.inj e).symm)
  have hhs : ∀ k2 h2, (S.forget k).hs k2 = some h2 → k2 ≠ k ∧ S.hs k2 = some h2 := fun k2 h2 e => by
    have e : (if k2 = k then none else S.hs k2) = some h2 := e
    by_cases n : k2 = k
    · rw [if_pos n] at e; cases e
    · rw [if_neg n] at e; exact ⟨n, e⟩
  have hH : ∀ k2 h2, k2 ≠ k → S.hs k2 = some h2 → HistAt w' h2 := fun k2 h2 n e =>
    (A.his k2 h2 e).1.of_block (hkeep _ _ (A.labHis k2 h2 e) (by simpa using n) (by simp) (by simp)) (fun g hg => hkeep _ _ (A.labRow k2 h2 g e hg) (by simp) (by simpa using n) (by simp))
  have hdk : ∀ b ∈ S.due, ∀ k2, S.hs k2 = some (S.hb b) → k2 ≠ k := fun b m k2 e => by
    rintro rfl
    rw [M.hs] at e
    have := (A.dueD.his b m).1
    rw [← Option.some.inj e] at this
    exact M.notin (by rw [this]; exact m)
  refine ⟨?_, ⟨fun k2 h2 e => M.ne k2 h2 (hhs k2 h2 e).2, M.nodup, fun k2 h2 e hw => ?_, M.heap⟩, ?_⟩
  · refine { blk := A.blk.of_block (hkeep _ _ A.labP (by simp) (by simp) (by simp)), map := ?_, his := fun k2 h2 e => ?_, pinR := row_thru A.pinR (fun g hg => hkeep _ _ (A.labPin g hg) (by simp) (by simp) (by simp)), dueD := ⟨row_thru A.dueD.row (fun g hg => hkeep _ _ (A.labDue g hg) (by simp) (by simp) (by simp)), fun b m => ?_, A.dueD.few⟩, dueIn := fun b m => ?_, labP := A.labP, labM := A.labM, labPin := A.labPin, labDue := A.labDue, labHis := fun k2 h2 e => A.labHis k2 h2 (hhs k2 h2 e).2, labRow := fun k2 h2 g e => A.labRow k2 h2 g (hhs k2 h2 e).2, lt := fun b e => Nat.lt_of_lt_of_le (A.lt b e) O.size, few := A.few, all := fun k2 h2 e => A.all k2 h2 (hhs k2 h2 e).2 }
    · have : (S.forget k).f = fput S.f k none := by
        funext k2
        unfold St.f fput
        show Option.map Hi.blk (if k2 = k then none else S.hs k2) = _
        split <;> rfl
      rw [this]
      exact K
    · obtain ⟨n, e⟩ := hhs k2 h2 e
      exact ⟨hH k2 h2 n e, (A.his k2 h2 e).2⟩
    · obtain ⟨k2, e⟩ := A.dueIn b m
      exact ⟨(A.dueD.his b m).1, hH k2 _ (hdk b m k2 e) e, (A.dueD.his b m).2.2⟩
    · obtain ⟨k2, e⟩ := A.dueIn b m
      refine ⟨k2, ?_⟩
      show (if k2 = k then none else S.hs k2) = _
      rw [if_neg (hdk b m k2 e)]
      exact e
  · obtain ⟨n, e⟩ := hhs k2 h2 e
    rcases M.wait k2 h2 e hw with h3 | h3
    · exact h3
    · exact absurd h3 n
  · refine ⟨O.mono (fun b _ e => ?_), fun b e => .inl e, rfl⟩
    rcases e with (e | e) | e
    · rw [e, A.labHis k h M.hs]; rfl
    · rw [A.labRow k h b M.hs e]; rfl
    · rw [e, A.labM]; rfl

/-- Of one key the first n have gone. -/
structure Trimmed (S S' : St) (k : ByteArray) (n : Nat) : Prop where
  lim : S'.lim = S.lim
  now : S'.now = S.now
  cnt : S'.cnt = S.cnt
  tot : S'.tot = S.tot
  pins : S'.pins = S.pins
  same : S'.live k = (S.live k).drop n
  other : ∀ k2, k2 ≠ k → S'.live k2 = S.live k2
end Go.Proofs.YtlncljfljjaacaaGreatDoor

namespace Go.Proofs.YtlncljfljjaacaaGreatDoor
open Go.ChangeShapes Go.WideShapes Go.ChangeAt Go.RowKit
open Go.ChangeMaps Go.MapKept
set_option linter.unusedVariables false
set_option linter.unusedSimpArgs false

def FirstEnd (S : St) (low : Int) (w : World) (e : Ending) (w' : World) : Prop :=
  ∃ S' k, e = .returned (.int .i64 (trimN low (S.live k) : Nat)) ∧ StoreAt w' S' ∧ Step w w' S S' ∧ Good S' ∧ Trimmed S S' k (trimN low (S.live k)) ∧ S.live k = (S.hb (S.due.getD 0 0)).live

theorem live_of {S : St} {k : ByteArray} {h : Hi} (e : S.hs k = some h) : S.live k = h.live := by unfold St.live; rw [e]

set_option maxHeartbeats 3200000 in
set_option maxRecDepth 20000 in
theorem trimFirst_any (S : St) (low : Int) (w : World) (A : StoreAt w S) (G : Good S) (h0 : 0 < S.due.length) (hr : ∀ k, Rise (S.live k)) :
    Calls Tryz.prog 93 #[.pointer (some ⟨S.p, 0, none⟩), .int .i64 low] w (FirstEnd S low w) := by
  have TK := take_any S.p S.cs S.dueV S.due S.hb w A.blk rfl A.dueD (A.apt (fun b m => by
    obtain ⟨k, e⟩ := A.dueIn b m
    exact ⟨k, e, (A.dueD.his b m).1⟩)) G.heap h0
  have HA : Hid (StoreAt w S ∧ Good S ∧ 0 < S.due.length ∧ ∀ k, Rise (S.live k)) := ⟨A, G, h0, hr⟩
  clear A G h0 hr
  obtain ⟨FE, hFE⟩ : ∃ FE, FE = FirstEnd S low w := ⟨_, rfl⟩
  rw [← hFE]
  replace hFE : Hid (FE = FirstEnd S low w) := hFE
  go_enter Tryz.func93, Tryz.ntmps93
  go_wp2_with fail
  refine TK.mono ?_
  rintro e w1 ⟨rfl, v, l, hp, hh, B, D, O, R⟩
  clear TK
  obtain ⟨A, G, h0, hr⟩ := HA.out
  obtain ⟨k, M, T, hb, hw⟩ := half_take A G h0 hp hh B D O R
  have hlk : S.live k = (S.hb (S.due.getD 0 0)).live := live_of M.hs
  have hrk := hr k
  rw [hlk] at hrk
  have HFE : Hid (∀ S' w' (n : Nat), n = trimN low (S.live k) → StoreAt w' S' → Step (S := S.dued v l) (S' := S') w1 w' → Good S' → Trimmed (S.dued v l) S' k n → FE (.returned (.int .i64 n)) w') := by
    intro S' w' n hn a1 a2 a3 a4
    rw [hFE.out]
    subst hn
    exact ⟨S', k, rfl, a1, T.trans a2, a3, ⟨a4.lim, a4.now, a4.cnt, a4.tot, a4.pins, a4.same, a4.other⟩, hlk⟩
  rw [← hb]
  rw [hlk] at HFE
  clear hp hh B D O R A G h0 hr hlk HA T hFE
  generalize S.hb (S.due.getD 0 0) = h at *
  clear hb
  have hpp : (S.dued v l).p = S.p := rfl
  generalize S.dued v l = S1 at *
  rw [← hpp]
  clear hpp
  have hne : 0 < h.live.length := List.length_pos_iff.2 (M.ne k h M.hs)
  have TR := trim_any h low w1 (M.store.his _ _ M.hs).1 hrk hne
  replace hw : Hid (waitsP h.live = true) := hw
  replace hne : Hid (0 < h.live.length) := hne
  replace M : Hid (Half w1 S1 k h) := M
  replace hrk : Hid (Rise h.live) := hrk
  generalize trimN low h.live = tn at *
  go_wp2_with fail
  refine TR.mono ?_
  rintro e w2 ⟨rfl, O2, D2⟩
  clear TR
  have hT0 : ∀ tot S2, S2 = S1.turn k h tot → True := fun _ _ _ => trivial
  rcases D2 with ⟨hlt, row, all, off, H2, hd2, hl2, R2⟩ | ⟨heq, SP⟩
  · have hlv : ({ h with row := row, all := all, off := off } : Hi).live = h.live.drop tn := hd2
    have hln : 0 < ({ h with row := row, all := all, off := off } : Hi).live.length := by rw [hlv, List.length_drop]; omega
    obtain ⟨M2, T2⟩ := M.out.turn H2 rfl rfl O2 R2 hl2 (List.length_pos_iff.1 hln)
    have hp2 : (S1.turn k { h with row := row, all := all, off := off } S1.tot).p = S1.p := rfl
    have TRM : Hid (Trimmed S1 (S1.turn k { h with row := row, all := all, off := off } S1.tot) k tn) := by
      refine ⟨rfl, rfl, rfl, rfl, rfl, ?_, fun k2 n => ?_⟩
      · rw [live_of M2.hs, live_of M.out.hs]; exact hlv
      · unfold St.live
        show (match (if k2 = k then _ else S1.hs k2) with | some h => h.live | none => []) = _
        rw [if_neg n]
        cases S1.hs k2 <;> rfl
    generalize S1.turn k { h with row := row, all := all, off := off } S1.tot = S2 at *
    have hblk : ({ h with row := row, all := all, off := off } : Hi).blk = h.blk := rfl
    generalize ({ h with row := row, all := all, off := off } : Hi) = h2 at *
    clear hd2 hl2 R2 O2 hlt hT0 hlv
    have W := waits_any h2 w2 H2
    rw [← hblk, ← hp2]
    clear hblk hp2 M hw hne hrk
    replace hln : Hid (0 < h2.live.length) := hln
    replace M2 : Hid (Half w2 S2 k h2) := M2
    replace T2 : Hid (Step w1 w2 S1 S2) := T2
    clear H2
    cases hwt : waitsP h2.live with
    | true =>
      rw [hwt] at W
      go_wp2_with fail
      refine W.mono ?_
      rintro e w3 ⟨rfl, n3, rfl⟩
      clear W
      have P := (M2.out.later (below_drewN w2 n3)).put hwt
      clear hwt
      go_wp2_with fail
      refine P.mono ?_
      rintro e w4 ⟨rfl, v4, l4, A4, T4, G4⟩
      clear P
      have E4 := empty_any h2 w4 (A4.his k h2 M2.out.hs).1
      have he : h2.live.isEmpty = false := by
        have := hln.out
        cases hq : h2.live with
        | nil => rw [hq] at this; simp at this
        | cons => rfl
      rw [he] at E4
      have HE : Hid (∀ n, FE (.returned (.int .i64 tn)) (w4.drewN n)) := fun n =>
        HFE.out _ _ tn rfl (A4.drewN n) ((T2.out.trans (Step.of_below (below_drewN w2 n3) S2)).trans (T4.trans (Step.of_below (below_drewN w4 n) _))) G4 ⟨TRM.out.lim, TRM.out.now, TRM.out.cnt, TRM.out.tot, TRM.out.pins, TRM.out.same, TRM.out.other⟩
      clear A4 T4 G4 he
      go_wp2_with fail
      refine E4.mono ?_
      rintro e w5 ⟨rfl, n5, rfl⟩
      clear E4
      go_wp2_with fail
      exact HE.out n5
    | false =>
      rw [hwt] at W
      go_wp2_with fail
      refine W.mono ?_
      rintro e w3 ⟨rfl, n3, rfl⟩
      clear W
      have G3 := M2.out.done hwt
      have A3 := M2.out.store.drewN n3
      clear hwt
      have T3 : Step w1 (w2.drewN n3) S1 S2 := T2.out.trans (Step.of_below (below_drewN w2 n3) S2)
      generalize w2.drewN n3 = w3 at *
      have E4 := empty_any h2 w3 (A3.his k h2 M2.out.hs).1
      have he : h2.live.isEmpty = false := by
        have := hln.out
        cases hq : h2.live with
        | nil => rw [hq] at this; simp at this
        | cons => rfl
      rw [he] at E4
      have HE : Hid (∀ n, FE (.returned (.int .i64 tn)) (w3.drewN n)) := fun n =>
        HFE.out _ _ tn rfl (A3.drewN n) (T3.trans (Step.of_below (below_drewN w3 n) _)) G3 TRM.out
      clear A3 G3 he T3
      go_wp2_with fail
      refine E4.mono ?_
      rintro e w5 ⟨rfl, n5, rfl⟩
      clear E4
      go_wp2_with fail
      exact HE.out n5
  · replace heq : Hid (tn = h.live.length) := heq
    have W := waits0_any h.blk h.key w2 SP
    go_wp2_with fail
    refine W.mono ?_
    rintro e w3 ⟨rfl, n3, rfl⟩
    clear W
    have SP3 : Spent (w2.drewN n3) h.blk h.key := SP
    have O3 : Only (fun k => k = h.blk ∨ h.row.ownBlock = some k) w1 (w2.drewN n3) := ⟨O2.os, O2.tape, O2.output, O2.size, O2.block⟩
    generalize w2.drewN n3 = w3 at *
    clear SP O2
    have E4 := empty0_any h.blk h.key w3 SP3
    go_wp2_with fail
    refine E4.mono ?_
    rintro e w4 ⟨rfl, n4, rfl⟩
    clear E4
    have SP4 : Spent (w3.drewN n4) h.blk h.key := SP3
    have O4 : Only (fun k => k = h.blk ∨ h.row.ownBlock = some k) w1 (w3.drewN n4) := ⟨O3.os, O3.tape, O3.output, O3.size, O3.block⟩
    generalize w3.drewN n4 = w4 at *
    clear SP3 O3
    have A1 := M.out.store
    have hml := A1.map.lt
    have hkh := (A1.his k h M.out.hs).2.1
    have hkl := (A1.his k h M.out.hs).1.key
    have lk1 := A1.labHis k h M.out.hs
    have hmb : S1.m ≠ h.blk := ne_role A1.labM lk1 (by simp)
    have hmk : ¬ (S1.m = h.blk ∨ h.row.ownBlock = some S1.m) := by
      rintro (e | e)
      · exact hmb e
      · have := A1.labRow k h _ M.out.hs e
        rw [A1.labM] at this
        cases this
    have hpk : ¬ (S1.p = h.blk ∨ h.row.ownBlock = some S1.p) := by
      rintro (e | e)
      · exact ne_role A1.labP lk1 (by simp) e
      · have := A1.labRow k h _ M.out.hs e
        rw [A1.labP] at this
        cases this
    have K4 : KMap w4.drew S1.m S1.n S1.f := A1.map.of_block (O4.block S1.m hml hmk)
    have B4 : Blk w4 S1.p S1.cs 66 := A1.blk.of_block (O4.block S1.p A1.blk.lt hpk)
    have c3 : w4.drew.cell? ⟨S1.p, 3, none⟩ = some (.map (some S1.m)) := B4.cell (i := 3) rfl
    obtain ⟨g5, cc5, BS⟩ := SP4
    have c0 : w4.drew.cell? ⟨h.blk, 0, none⟩ = some (.string h.key) := BS.cell (i := 0) rfl
    have c3' : w4.cell? ⟨S1.p, 3, none⟩ = some (.map (some S1.m)) := c3
    have c0' : w4.cell? ⟨h.blk, 0, none⟩ = some (.string h.key) := c0
    obtain ⟨ob, hdel, KM⟩ := K4.del (k := h.key) hkl 0
    have hEND : Hid (FE (.returned (.int .i64 tn)) (setBlock w4.drew S1.m ob)) := by
      rw [hkh] at KM
      have OO : Only (fun b => (b = h.blk ∨ h.row.ownBlock = some b) ∨ b = S1.m) w1 (setBlock w4.drew S1.m ob) :=
        ⟨O4.os, O4.tape, O4.output, by simp [setBlock]; exact O4.size, fun b hb hn => (setBlock_other _ _ (fun e => hn (.inr e))).trans (O4.block b hb (fun e => hn (.inl e)))⟩
      obtain ⟨r1, r2, r3⟩ := M.out.forget KM OO
      refine HFE.out _ _ tn rfl r1 r3 r2 ⟨rfl, rfl, rfl, rfl, rfl, ?_, fun k2 n => ?_⟩
      · rw [live_of M.out.hs, heq.out, List.drop_length]
        show (match (if k = k then none else S1.hs k) with | some h => h.live | none => []) = _
        rw [if_pos rfl]
      · unfold St.live
        show (match (if k2 = k then none else S1.hs k2) with | some h => h.live | none => []) = _
        rw [if_neg n]
        cases S1.hs k2 <;> rfl
    clear KM hmb hmk hpk K4 B4 A1 hml hkh hkl lk1 BS O4 heq HFE hT0
    go_wp2_with fail
    go_region
    go_wp2_with fail
    exact hEND.out
end Go.Proofs.YtlncljfljjaacaaGreatDoor

namespace Go.Proofs.YtlncljfljjaacaaGreatDoor
open Go.ChangeShapes Go.WideShapes Go.ChangeAt Go.RowKit
open Go.ChangeMaps Go.MapKept
set_option linter.unusedVariables false
set_option linter.unusedSimpArgs false

theorem heap_min {K : Nat → Int} {n : Nat} (H : HeapOn K n) : ∀ j, j < n → K 0 ≤ K j := by
  intro j
  induction j using Nat.strongRecOn with
  | ind j ih =>
    intro hj
    rcases Nat.eq_zero_or_pos j with rfl | h0
    · exact Int.le_refl _
    · have h1 := H j h0 hj
      have h2 := ih ((j - 1) / 2) (by omega) (by omega)
      omega

/-- Under way: some have gone. -/
structure Swept (S Si : St) (low : Int) (v vi : List Ver) (went : Nat) : Prop where
  lim : Si.lim = S.lim
  now : Si.now = S.now
  cnt : Si.cnt = S.cnt
  tot : Si.tot = S.tot
  pins : Si.pins = S.pins
  live : ∀ k, Si.live k = vers k vi
  rising : Rising vi
  keep : keepP low vi = keepP low v
  len : vi.length + went = v.length
  mem : ∀ x ∈ vi, x ∈ v

theorem Swept.step {S Si Sj : St} {low : Int} {v vi : List Ver} {went : Nat} {k : ByteArray} (W : Swept S Si low v vi went) (T : Trimmed Si Sj k (trimN low (Si.live k))) : Swept S Sj low v (keepK low k vi) (went + trimN low (Si.live k)) := by
  obtain ⟨h1, h2⟩ := vers_keepK (low := low) (k := k) vi W.rising
  refine ⟨T.lim.trans W.lim, T.now.trans W.now, T.cnt.trans W.cnt, T.tot.trans W.tot, T.pins.trans W.pins, fun k2 => ?_, rising_keepK W.rising, (keepP_keepK vi).trans W.keep, ?_, fun x hx => W.mem x (keepK_mem hx)⟩
  · by_cases e : k2 = k
    · subst e
      rw [T.same, W.live, h1]
    · rw [T.other k2 e, W.live, vers_keepK_other e]
  · have := W.len
    rw [W.live]
    omega

theorem Swept.quiet {S Si : St} {low : Int} {v vi : List Ver} {went : Nat} (W : Swept S Si low v vi went) (G : Good Si) {w : World} (A : StoreAt w Si) (h : 0 < Si.due.length → low < (nextP (Si.hb (Si.due.getD 0 0)).live)) : vi = keepP low v := by
  rw [← W.keep]
  refine (keepP_all vi W.rising (fun k => ?_)).symm
  have hr : Rise (vers k vi) := rise_vers W.rising
  rw [← W.live] at hr ⊢
  refine trim_quiet hr (fun hw => ?_)
  unfold St.live at hw ⊢
  cases hh : Si.hs k with
  | none => rw [hh] at hw; cases hw
  | some h2 =>
    rw [hh] at hw
    have hm := G.wait k h2 hh hw
    obtain ⟨j, hj, he⟩ := List.getElem_of_mem hm
    have h3 := heap_min G.heap j hj
    have h4 := h (by omega)
    have e0 : keyL (nx Si.hb) Si.due 0 = nextP (Si.hb (Si.due.getD 0 0)).live := rfl
    have ej : keyL (nx Si.hb) Si.due j = nextP h2.live := by
      unfold keyL nx
      rw [List.getD_eq_getElem?_getD, List.getElem?_eq_getElem hj, Option.getD_some, he, (A.his k h2 hh).2.2]
    rw [e0, ej] at h3
    simp only
    omega

theorem Swept.some {S Si : St} {low : Int} {v vi : List Ver} {went : Nat} (W : Swept S Si low v vi went) {k : ByteArray} (hw : waitsP (Si.live k) = true) (h : nextP (Si.live k) ≤ low) : 0 < trimN low (Si.live k) ∧ trimN low (Si.live k) ≤ vi.length := by
  have hr : Rise (vers k vi) := rise_vers W.rising
  obtain ⟨h1, h2⟩ := vers_keepK (low := low) (k := k) vi W.rising
  rw [← W.live] at hr h2
  exact ⟨trim_some hr hw h, by omega⟩

theorem Swept.start {S : St} {s : Sto} {low : Int} (H : Abs S s) : Swept S S low s.v s.v 0 := ⟨rfl, rfl, rfl, rfl, rfl, H.live, H.rising, rfl, rfl, fun x h => h⟩

/-- Cleaned. -/
theorem Swept.abs {S Si : St} {s : Sto} {low : Int} {vi : List Ver} {went : Nat} (H : Abs S s) (W : Swept S Si low s.v vi went) (he : vi = keepP low s.v) : Abs (Si.nums Si.now (Si.cnt - went)) { s with v := keepP low s.v } := by
  subst he
  have hl := W.len
  exact ⟨W.lim.trans H.all, W.now.trans H.stamp, by show Si.cnt - went = _; rw [W.cnt, H.cnt]; simp only; omega, fun k => W.live k, W.rising, fun x hx => H.le x (W.mem x hx), fun x hx => H.size x (W.mem x hx), by have := H.tot; have : Si.tot = S.tot := W.tot; show _ ≤ Si.tot; simp only; omega, H.nonneg⟩

def CleanEnd (S : St) (s : Sto) (low : Int) (w : World) (e : Ending) (w' : World) : Prop :=
  ∃ (S' : St) (n : Nat), e = .returned (.int .i64 n) ∧ (n : Int) = (s.v.length : Int) - ((keepP low s.v).length : Int) ∧ StoreAt w' S' ∧ Step w w' S S' ∧ Good S' ∧ Abs S' { s with v := keepP low s.v } ∧ S'.tot = S.tot ∧ S'.pins = S.pins

theorem clean_end {S Si : St} {s : Sto} {low : Int} {w wr : World} {vi : List Ver} {went : Nat} (H : Abs S s) (A : StoreAt wr Si) (T : Step w wr S Si) (G : Good Si) (W : Swept S Si low s.v vi went) (he : vi = keepP low s.v) :
    CleanEnd S s low w (.returned (.int .i64 went)) (wr.setCell ⟨S.p, 2, none⟩ (.int .i64 (Si.cnt - went))) := by
  have hp : Si.p = S.p := T.p
  rw [← hp]
  have hO : Only (fun b => b = Si.p) wr (wr.setCell ⟨Si.p, 2, none⟩ (.int .i64 (Si.cnt - went))) := ⟨rfl, rfl, rfl, by simp [World.setCell], fun k h1 h2 => Below.heap_setCell _ _ _ _ h2⟩
  have hB : Blk (wr.setCell ⟨Si.p, 2, none⟩ (.int .i64 (Si.cnt - went))) Si.p (Si.nums Si.now (Si.cnt - went)).cs 66 := A.blk.set 2 _
  refine ⟨Si.nums Si.now (Si.cnt - went), went, rfl, ?_, A.nums _ _ hB hO, T.trans (Step.nums A _ _ hO), G.nums _ _, W.abs H he, W.tot, W.pins⟩
  have := W.len
  rw [← he]
  omega

set_option maxHeartbeats 3200000 in
set_option maxRecDepth 20000 in
theorem clean_any (S : St) (s : Sto) (w : World) (A : StoreAt w S) (G : Good S) (H : Abs S s) :
    Calls Tryz.prog 65 #[.pointer (some ⟨S.p, 0, none⟩)] w (CleanEnd S s S.low w) := by
  have LW := low_any S w A
  have hcnt : Hid (S.cnt = s.v.length ∧ s.v.length ≤ 900000) := ⟨H.cnt, by have := H.tot; have := A.few; omega⟩
  have hQ : Hid (∀ n, StoreAt (w.drewN n) S ∧ Step w (w.drewN n) S S ∧ Good S ∧ Swept S S S.low s.v s.v 0) := fun n => ⟨A.drewN n, Step.of_below (below_drewN w n) S, G, Swept.start H⟩
  have hX : Hid (∀ wr Si vi went, StoreAt wr Si → Step w wr S Si → Good Si → Swept S Si S.low s.v vi went → vi = keepP S.low s.v → CleanEnd S s S.low w (.returned (.int .i64 went)) (wr.setCell ⟨S.p, 2, none⟩ (.int .i64 (Si.cnt - went)))) := fun wr Si vi went a b c d e => clean_end H a b c d e
  generalize CleanEnd S s S.low w = FE at *
  generalize S.low = low at *
  clear A G H
  go_enter Tryz.func65, Tryz.ntmps65
  go_wp2_with fail
  refine LW.mono ?_
  rintro e w1 ⟨rfl, n1, rfl⟩
  clear LW
  replace hQ : Hid _ := hQ.out n1
  generalize w.drewN n1 = w1 at *
  go_wp2_with fail
  go_loopg [3] s.v.length (fun kx s3 wr => ∃ (Si : St) (vi : List Ver) (went : Nat), s3 = .int .i64 went ∧ vi.length ≤ kx ∧ Hid (StoreAt wr Si ∧ Step w wr S Si ∧ Good Si ∧ Swept S Si low s.v vi went))
  case atStart => exact ⟨S, s.v, 0, rfl, Nat.le_refl _, hQ⟩
  case round =>
    clear hQ
    obtain ⟨Si, vi, went, rfl, hg, Q⟩ := hrel
    obtain ⟨A, T, G, W⟩ := Q.out
    have hp : Si.p = S.p := T.p
    have c5 := A.blk.cell (i := 5) (v := Si.dueV) rfl
    have hcn : Hid (Si.cnt = s.v.length ∧ vi.length + went = s.v.length ∧ s.v.length ≤ 900000) := ⟨W.cnt.trans hcnt.out.1, W.len, hcnt.out.2⟩
    obtain ⟨rest, hr1, hr2, hr3⟩ : ∃ rest : Nat, Si.cnt - (went : Int) = (rest : Int) ∧ (rest : Int) ≤ 900000 ∧ (went : Int) ≤ 900000 := ⟨vi.length, by have := hcn.out; omega, by have := hcn.out; omega, by have := hcn.out; omega⟩
    rw [hp] at c5
    rcases Nat.eq_zero_or_pos Si.due.length with hd | hd
    · -- nothing waits
      have hE := W.quiet G A (fun h => by omega)
      have FX : Hid _ := hX.out wr Si vi went A T G W hE
      have c2 := A.blk.cell (i := 2) (v := .int .i64 Si.cnt) rfl
      have f2 := A.blk.thawed 2
      rw [hp] at c2 f2
      obtain ⟨a, c, hv⟩ := own_slice A.dueD.row
      rw [hd] at hv
      rw [hv] at c5
      rw [hr1] at FX
      clear Q A T G W hE hcn hd hv hp hg
      generalize Si.cnt = cn at *
      go_wp2_with fail
      exact FX.out
    · obtain ⟨g, cap, hv, _, hgl⟩ := A.dueD.row.form hd
      obtain ⟨b, hb⟩ : ∃ b, Si.due[0]? = some b := ⟨_, List.getElem?_eq_getElem hd⟩
      have cb := A.dueD.row.cells (g := g) (by rw [hv]; rfl) _ _ (ptrs_get hb)
      rw [cell_add, Nat.zero_add] at cb
      have hb0 : Si.due.getD 0 0 = b := by rw [List.getD_eq_getElem?_getD, hb]; rfl
      obtain ⟨d1, d2, d3⟩ := A.dueD.his b (List.mem_of_getElem? hb)
      have NX := next_any (Si.hb b) wr d2 d3
      rw [d1] at NX
      rw [hv] at c5
      have hdI : (0 : Int) < (Si.due.length : Int) := by omega
      have HD : Hid (0 < Si.due.length ∧ Si.due.getD 0 0 = b ∧ waitsP (Si.hb b).live = true) := ⟨hd, hb0, d3⟩
      unfold ptrV at cb
      obtain ⟨nv, hnv⟩ : ∃ nv, nextP (Si.hb b).live = nv := ⟨_, rfl⟩
      rw [hnv] at NX
      replace hnv : Hid (nextP (Si.hb b).live = nv) := hnv
      have c2 := A.blk.cell (i := 2) (v := .int .i64 Si.cnt) rfl
      have f2 := A.blk.thawed 2
      rw [hp] at c2 f2
      replace hp : Hid (Si.p = S.p) := hp
      clear A T G W hd hb hb0 d1 d2 d3 hv hgl
      generalize Si.due.length = dl at hdI c5
      by_cases hle : nv ≤ low
      · clear c2 f2 hr1 hr2
        have RST : Hid (∀ n, Calls Tryz.prog 93 #[.pointer (some ⟨S.p, 0, none⟩), .int .i64 low] (wr.drewN n) fun e w' => ∃ (S' : St) (tn : Nat), e = .returned (.int .i64 tn) ∧ 0 < tn ∧ went + tn ≤ s.v.length ∧ ∃ vi' : List Ver, vi'.length + tn = vi.length ∧ Hid (StoreAt w' S' ∧ Step w w' S S' ∧ Good S' ∧ Swept S S' low s.v vi' (went + tn))) := by
          intro n
          obtain ⟨A, T, G, W⟩ := Q.out
          have TF := trimFirst_any Si low (wr.drewN n) (A.drewN n) G HD.out.1 (fun k => by rw [W.live]; exact rise_vers W.rising)
          rw [hp.out] at TF
          refine TF.mono ?_
          rintro e w' ⟨S', k, rfl, a1, a2, a3, a4, a5⟩
          rw [HD.out.2.1] at a5
          obtain ⟨q1, q2⟩ := W.some (k := k) (by rw [a5]; exact HD.out.2.2) (by rw [a5, hnv.out]; exact hle)
          have W' := W.step a4
          obtain ⟨_, q3⟩ := vers_keepK (low := low) (k := k) vi W.rising
          rw [← W.live] at q3
          exact ⟨S', _, rfl, q1, by have := W'.len; omega, _, q3, a1, (T.trans (Step.of_below (below_drewN wr n) Si)).trans a2, a3, W'⟩
        clear Q
        go_wp2_with fail
        refine NX.mono ?_
        rintro e w2 ⟨rfl, n2, rfl⟩
        clear NX
        have TF := RST.out n2
        clear RST c5 cb
        generalize wr.drewN n2 = w2 at *
        go_wp2_with fail
        refine TF.mono ?_
        rintro e w3 ⟨S', tn, rfl, ht0, htl, vi', hvl, Q'⟩
        clear TF
        have hadd : (went : Int) + (tn : Int) = ((went + tn : Nat) : Int) := by omega
        have hb1 : ((went + tn : Nat) : Int) ≤ 900000 := by have := hcn.out; omega
        have hb0 : (0 : Int) ≤ ((went + tn : Nat) : Int) := by omega
        replace hvl : Hid (vi'.length + tn = vi.length ∧ 0 < tn ∧ vi.length ≤ gk) := ⟨hvl, ht0, hg⟩
        clear hr3 ht0 htl hcn hnv hg
        generalize went + tn = we at *
        go_wp2_with fail
        clear hadd hb1 hb0
        go_roundg vi'.length
        case rel => exact ⟨S', vi', we, rfl, Nat.le_refl _, Q'⟩
        case measure => have := hvl.out; omega
      · have FX : Hid (∀ n, FE (.returned (.int .i64 went)) ((wr.drewN n).setCell ⟨S.p, 2, none⟩ (.int .i64 rest))) := by
          intro n
          obtain ⟨A, T, G, W⟩ := Q.out
          have hE := W.quiet G A (fun _ => by rw [HD.out.2.1, hnv.out]; omega)
          have := hX.out (wr.drewN n) Si vi went (A.drewN n) (T.trans (Step.of_below (below_drewN wr n) Si)) G W hE
          rw [hr1] at this
          exact this
        clear Q hcn hnv hg HD hp hX
        generalize Si.cnt = cn at *
        go_wp2_with fail
        refine NX.mono ?_
        rintro e w2 ⟨rfl, n2, rfl⟩
        clear NX
        replace FX : Hid _ := FX.out n2
        have c2' : (wr.drewN n2).cell? ⟨S.p, 2, none⟩ = some (.int .i64 cn) := c2
        have f2' : (wr.drewN n2).frozen? ⟨S.p, 2, none⟩ = false := f2
        clear c2 f2 c5 cb
        generalize wr.drewN n2 = w2 at *
        go_wp2_with fail
        exact FX.out
end Go.Proofs.YtlncljfljjaacaaGreatDoor
