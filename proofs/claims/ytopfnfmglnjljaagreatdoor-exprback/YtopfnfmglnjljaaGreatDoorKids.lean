/- An expression's parts, one by one; the reference's Here. -/
import Derived.Test.YtopfnfmglnjljaaGreatDoorWithin
namespace Go.Proofs.YtopfnfmglnjljaaGreatDoor
open Go.ChangeShapes Go.WideShapes Go.ChangeAt Go.RowKit
set_option linter.unusedVariables false
set_option linter.unusedSimpArgs false

def Ex.kids : Ex → List Ex
  | .neg x => [x]
  | .two _ x y => [x, y]
  | _ => []

def Ex.kind : Ex → Int
  | .zero => 0
  | .num _ => 1
  | .name _ => 2
  | .here => 3
  | .neg _ => 4
  | .two k _ _ => k

def Ex.numb : Ex → Int
  | .num n => n
  | _ => 0

def Ex.text : Ex → Bs
  | .name s => s
  | _ => []

def Ex.size : Ex → Nat
  | .neg x => x.size + 1
  | .two _ x y => x.size + y.size + 1
  | _ => 1

theorem Ex.kids_size {x c : Ex} {i : Nat} (h : x.kids[i]? = some c) : c.size < x.size := by
  cases x with
  | neg x => match i, h with | 0, h => simp [Ex.kids] at h; subst h; simp [Ex.size]
  | two k x y =>
    match i, h with
    | 0, h => simp [Ex.kids] at h; subst h; simp [Ex.size]; omega
    | 1, h => simp [Ex.kids] at h; subst h; simp [Ex.size]; omega
  | _ => simp [Ex.kids] at h

theorem Ex.kids_le (x : Ex) : x.kids.length ≤ 2 := by cases x <;> simp [Ex.kids]

/-- An expression's own cells, and its parts'. -/
theorem ExAt.opened {P : Nat → Prop} {w : World} {v : Value} {x : Ex} (h : ExAt P w v x) : ∃ p, v = .agg #[.int .i64 x.kind, .int .i64 x.numb, .string (bs x.text), .slice p x.kids.length x.kids.length] ∧
    ∀ (i : Nat) c, x.kids[i]? = some c → ∃ k c0 c1 c2 c3, p = some ⟨k, 0, none⟩ ∧ w.cell? ⟨k, i * 4, none⟩ = some c0 ∧ w.cell? ⟨k, i * 4 + 1, none⟩ = some c1 ∧ w.cell? ⟨k, i * 4 + 2, none⟩ = some c2 ∧ w.cell? ⟨k, i * 4 + 3, none⟩ = some c3 ∧ ExAt P w (.agg #[c0, c1, c2, c3]) c := by
  cases x with
  | neg x =>
    obtain ⟨k, c0, c1, c2, c3, rfl, hP, z0, z1, z2, z3, hx⟩ := h
    refine ⟨_, rfl, fun i c hc => ?_⟩
    match i, hc with
    | 0, hc => simp [Ex.kids] at hc; subst hc; exact ⟨k, _, _, _, _, rfl, z0, z1, z2, z3, hx⟩
  | two op x y =>
    obtain ⟨k, c0, c1, c2, c3, d0, d1, d2, d3, rfl, hP, z0, z1, z2, z3, y0, y1, y2, y3, hx, hy⟩ := h
    refine ⟨_, rfl, fun i c hc => ?_⟩
    match i, hc with
    | 0, hc => simp [Ex.kids] at hc; subst hc; exact ⟨k, _, _, _, _, rfl, z0, z1, z2, z3, hx⟩
    | 1, hc => simp [Ex.kids] at hc; subst hc; exact ⟨k, _, _, _, _, rfl, y0, y1, y2, y3, hy⟩
  | _ => simp only [ExAt] at h; subst h; exact ⟨_, rfl, fun i c hc => by simp [Ex.kids] at hc⟩

/-- Is the place asked for? -/
def hereP : Ex → Bool
  | .here => true
  | .neg x => hereP x
  | .two _ x y => hereP x || hereP y
  | _ => false

theorem hereP_kids (x : Ex) (hx : 5 ≤ x.kind ∨ x.kind ≤ 4) (h3 : ∀ k a b, x = .two k a b → k ≠ 3) : hereP x = ((x.kind == 3) || x.kids.any hereP) := by
  cases x with
  | two k a b =>
    have : ((k : Int) == 3) = false := by have := h3 k a b rfl; simp; omega
    simp [hereP, Ex.kind, Ex.kids, this]
  | _ => simp [hereP, Ex.kind, Ex.kids]

set_option maxHeartbeats 1600000 in
set_option maxRecDepth 20000 in
theorem here_any (P : Nat → Prop) : ∀ (N : Nat) (x : Ex), x.size < N → Small x → ∀ (v : Value) (w : World), ExAt P w v x →
    Calls Tryz.prog 22 #[v] w fun e w' => e = .returned (.bool (hereP x)) ∧ Below w.heap.size w w' := by
  intro N
  induction N with
  | zero => intro x h; omega
  | succ N ih =>
    intro x hN hsm v w hx
    obtain ⟨p, rfl, hk⟩ := hx.opened
    have hl := x.kids_le
    have e0 := hereP_kids x (by omega) (by rintro k a b rfl; obtain ⟨h, _⟩ := hsm; omega)
    have hks : ∀ (i : Nat) c, x.kids[i]? = some c → Small c := by
      intro i c hc
      cases x with
      | neg x => match i, hc with | 0, hc => simp [Ex.kids] at hc; subst hc; exact hsm
      | two k x y =>
        obtain ⟨_, _, h1, h2⟩ := hsm
        match i, hc with
        | 0, hc => simp [Ex.kids] at hc; subst hc; exact h1
        | 1, hc => simp [Ex.kids] at hc; subst hc; exact h2
      | _ => simp [Ex.kids] at hc
    have IH : ∀ (i : Nat) c, x.kids[i]? = some c → ∀ (v : Value) (w : World), ExAt P w v c → Calls Tryz.prog 22 #[v] w fun e w' => e = .returned (.bool (hereP c)) ∧ Below w.heap.size w w' :=
      fun i c hc => ih c (by have := Ex.kids_size hc; omega) (hks i c hc)
    have n0 := below_new w (.cells #[.int .i64 x.kind, .int .i64 x.numb, .string (bs x.text), .slice p x.kids.length x.kids.length] 27)
    have X0 := Blk.new w 27 (.int .i64 x.kind) (.int .i64 x.numb) (.string (bs x.text)) (.slice p x.kids.length x.kids.length)
    rw [e0]
    clear ih hx e0 hN hsm hks
    generalize x.kids = ks at *
    generalize x.kind = kk at *
    generalize x.numb = nn at *
    generalize bs x.text = tt at *
    go_enter Tryz.func22, Tryz.ntmps22
    go_wp2_with fail
    have hW : Hid (w.heap.size < (w.alloc (.cells #[.int .i64 kk, .int .i64 nn, .string tt, .slice p ks.length ks.length] 27)).heap.size) := X0.lt
    generalize w.alloc (.cells #[.int .i64 kk, .int .i64 nn, .string tt, .slice p ks.length ks.length] 27) = W0 at *
    go_loopw [3, 4] (fun s i wr => ∃ (j : Nat) (b : Bool), j ≤ ks.length ∧ i = .int .i64 j ∧ s = .bool b ∧ Below W0.heap.size W0 wr ∧ Hid (b = ((kk == 3) || (ks.take j).any hereP))) (fun s i _ => 2 - (intOf i).toNat)
    case atStart => exact ⟨0, kk == 3, by omega, rfl, rfl, Below.refl _ _, by simp [Hid]⟩
    case round =>
      obtain ⟨j, b, hj, rfl, rfl, hb, hI⟩ := hrel
      have X1 := X0.later hb
      obtain ⟨x0, x1, x2, x3, _, _, _, _⟩ := id X1
      have B1 := n0.trans (hb.mono n0.size)
      by_cases hjn : j < ks.length
      · obtain ⟨c, hc⟩ : ∃ c, ks[j]? = some c := ⟨_, List.getElem?_eq_getElem hjn⟩
        obtain ⟨k, c0, c1, c2, c3, rfl, z0, z1, z2, z3, hcx⟩ := hk j c hc
        replace z0 := kept_cell B1 z0
        replace z1 := kept_cell B1 z1
        replace z2 := kept_cell B1 z2
        replace z3 := kept_cell B1 z3
        have H := IH j c hc (.agg #[c0, c1, c2, c3]) wr (hcx.below B1)
        obtain ⟨ka, na, ta, qa, la, ma, hfx⟩ := hcx.form
        simp only [Value.agg.injEq, Array.mk.injEq, List.cons.injEq, and_true] at hfx
        obtain ⟨rfl, rfl, rfl, rfl⟩ := hfx
        have hjI : (j : Int) < (ks.length : Int) := by omega
        have hT : Hid ((ks.take (j + 1)).any hereP = ((ks.take j).any hereP || hereP c)) := by
          rw [List.take_add_one, hc]; simp [Hid, List.any_append]
        generalize hereP c = hc1 at *
        clear hk IH hcx hc X1 n0 X0
        cases b with
        | true =>
          go_wp2_with fail
          go_roundw
          case rel => exact ⟨j + 1, true, by omega, by simp, rfl, hb, by have := hI.out; rw [Hid, hT.out, ← Bool.or_assoc, ← this]; rfl⟩
          case measure => simp [intOf]; omega
        | false =>
          go_wp2_with fail
          refine H.mono ?_
          rintro e w2 ⟨rfl, hb2⟩
          go_wp2_with fail
          go_roundw
          case rel => exact ⟨j + 1, hc1, by omega, by simp, rfl, hb.trans (hb2.mono hb.size), by have := hI.out; rw [Hid, hT.out, ← Bool.or_assoc, ← this]; rfl⟩
          case measure => simp [intOf]; omega
      · have hjI : ¬ (j : Int) < (ks.length : Int) := by omega
        obtain rfl : j = ks.length := by omega
        clear hk IH
        go_wp2_with fail
        go_ret
        have := hI.out
        rw [List.take_length] at this
        exact ⟨by rw [this]; rfl, B1⟩
end Go.Proofs.YtopfnfmglnjljaaGreatDoor
