/- What an argument []Raw holds: rows of raw expressions, each with a row of its own. -/
import Derived.Test.YtopfnfmglnjljaaGreatDoorBase
import Derived.OpenShut
namespace Go.Proofs.YtopfnfmglnjljaaGreatDoor
open Go.ChangeShapes Go.WideShapes Go.ChangeAt Go.RowKit
set_option linter.unusedVariables false
set_option linter.unusedSimpArgs false

/-- Raw expressions in a row: the first one's numbers, its own row, the others. -/
inductive Fo
  | nil
  | cons (k n : Int) (l r : Fo)

def Fo.len : Fo → Nat
  | .nil => 0
  | .cons _ _ _ r => r.len + 1

/-- Three cells each, from here on. -/
def RawAt (w : World) : Fo → Nat → Nat → Prop
  | .nil, _, _ => True
  | .cons k n l r, b, o => w.cell? ⟨b, o, none⟩ = some (.int .i64 k) ∧ w.cell? ⟨b, o + 1, none⟩ = some (.int .i64 n) ∧
      (∃ p cap, w.cell? ⟨b, o + 2, none⟩ = some (.slice p l.len cap) ∧ l.len ≤ maxLen ∧ (0 < l.len → ∃ b' o', p = some ⟨b', o', none⟩ ∧ RawAt w l b' o')) ∧ RawAt w r b (o + 3)

def RawsAt (w : World) (v : Value) (l : Fo) : Prop :=
  ∃ p cap, v = .slice p l.len cap ∧ l.len ≤ maxLen ∧ (0 < l.len → ∃ b o, p = some ⟨b, o, none⟩ ∧ RawAt w l b o)

theorem RawAt.later {w w' : World} (hb : Below w.heap.size w w') : ∀ {l : Fo} {b o : Nat}, RawAt w l b o → RawAt w' l b o
  | .nil, _, _, _ => trivial
  | .cons _ _ _ _, _, _, ⟨h1, h2, ⟨p, cap, h3, hm, h4⟩, h5⟩ =>
    ⟨kept_cell hb h1, kept_cell hb h2, ⟨p, cap, kept_cell hb h3, hm, fun hl => by obtain ⟨b', o', e, h⟩ := h4 hl; exact ⟨b', o', e, h.later hb⟩⟩, h5.later hb⟩

theorem RawsAt.later {w w' : World} {v : Value} {l : Fo} (h : RawsAt w v l) (hb : Below w.heap.size w w') : RawsAt w' v l := by
  obtain ⟨p, cap, rfl, hm, h⟩ := h
  exact ⟨p, cap, rfl, hm, fun hl => by obtain ⟨b', o', e, h⟩ := h hl; exact ⟨b', o', e, h.later hb⟩⟩

/-- The row's elements, one by one, from a function's. -/
theorem RawAt.build (w : World) (b : Nat) : ∀ (m o : Nat), (∀ i, i < m → ∃ (k n : Int) (c : Value) (l : Fo), w.cell? ⟨b, o + i * 3, none⟩ = some (.int .i64 k) ∧ w.cell? ⟨b, o + i * 3 + 1, none⟩ = some (.int .i64 n) ∧ w.cell? ⟨b, o + i * 3 + 2, none⟩ = some c ∧ RawsAt w c l) →
    ∃ l : Fo, l.len = m ∧ RawAt w l b o
  | 0, _, _ => ⟨.nil, rfl, trivial⟩
  | m + 1, o, h => by
    obtain ⟨k, n, c, l, h1, h2, h3, p, cap, rfl, hm, h4⟩ := h 0 (by omega)
    obtain ⟨r, hr, hR⟩ := RawAt.build w b m (o + 3) (fun i hi => by
      have := h (i + 1) (by omega)
      rw [show o + (i + 1) * 3 = o + 3 + i * 3 by omega] at this
      exact this)
    rw [Nat.zero_mul, Nat.add_zero] at h1 h2 h3
    exact ⟨.cons k n l r, by simp [Fo.len, hr], h1, h2, ⟨p, cap, h3, hm, h4⟩, hR⟩

set_option maxRecDepth 20000 in
theorem raws_of_trod {H : Type} {enc : TypeId × Value → H} {W : World} : ∀ (fuel : Nat) (c : Value) (x : DataW H × List MemPlace), DataW.trod enc Tryz.prog W 0 (fun _ => true) true fuel 22 [c] = some x →
    ∃ l : Fo, RawsAt W c l := by
  intro fuel
  induction fuel using Nat.strongRecOn with
  | _ fuel ih =>
    intro c x h
    rcases DataW.trod_slice Tryz.underlying22 h with ⟨hcs, _⟩ | ⟨a, len, cap, elems, rest, n, rfl, hcs, hx, hb, hl, hm, hlen, hel, hsp, hns⟩
    · cases hcs
      exact ⟨.nil, none, 0, rfl, by simp [Fo.len], fun h => by simp [Fo.len] at h⟩
    · cases hcs
      have k3 : Tryz.prog.cellsOf 54 = 3 := by kernel_rfl
      have k1 : Tryz.prog.cellsOf 3 = 1 := by kernel_rfl
      have k2 : Tryz.prog.cellsOf 22 = 1 := by kernel_rfl
      rw [k3] at hel
      have each : ∀ i, i < len → ∃ (k m : Int) (c : Value) (l : Fo), W.cell? (a.add (i * 3)) = some (.int .i64 k) ∧ W.cell? ((a.add (i * 3)).add 1) = some (.int .i64 m) ∧ W.cell? ((a.add (i * 3)).add 2) = some c ∧ RawsAt W c l := by
        intro i hi
        have he := hel i hi
        obtain ⟨y, hy⟩ : ∃ y, elems[i]? = some y := ⟨_, List.getElem?_eq_getElem (by omega)⟩
        rw [hy, Option.bind_eq_some_iff] at he
        obtain ⟨cs, hcs, ht⟩ := he
        obtain ⟨xs, m, rfl, _, hcl, hxl, hf⟩ := DataW.trod_struct Tryz.underlying54 ht
        rw [k3] at hcl
        obtain ⟨c0, c1, c2, rfl⟩ : ∃ c0 c1 c2, cs = [c0, c1, c2] := by
          match cs, hcl with
          | [a, b, c], _ => exact ⟨a, b, c, rfl⟩
        have l3 : xs.length = 3 := hxl
        obtain ⟨x0, x1, x2, rfl⟩ : ∃ x0 x1 x2, xs = [x0, x1, x2] := by
          match xs, l3 with
          | [a, b, c], _ => exact ⟨a, b, c, rfl⟩
        have f0 := hf 0 _ rfl
        have f1 := hf 1 _ rfl
        have f2 := hf 2 _ rfl
        simp [k1, k2] at f0 f1 f2
        obtain ⟨k, e0, _, _⟩ := DataW.trod_int Tryz.underlying3 f0
        obtain ⟨n', e1, _, _⟩ := DataW.trod_int Tryz.underlying3 f1
        obtain ⟨l, hl⟩ := ih m (by omega) c2 _ f2
        cases e0
        cases e1
        obtain ⟨_, _, hcell⟩ := World.cells?_some hcs
        have q0 := hcell 0 (by simp)
        have q1 := hcell 1 (by simp)
        have q2 := hcell 2 (by simp)
        refine ⟨k, n', c2, l, ?_, ?_, ?_, hl⟩
        · simpa [Addr.add] using q0
        · simpa [Addr.add] using q1
        · simpa [Addr.add] using q2
      by_cases h0 : 0 < len
      · obtain ⟨b, off, spot⟩ := a
        have hspot : spot = none := by
          obtain ⟨k, m, c, l, h1, _⟩ := each 0 h0
          simpa [Addr.add] using World.cell?_spot h1
        subst hspot
        obtain ⟨l, hll, hR⟩ := RawAt.build W b len off (fun i hi => by
          obtain ⟨k, m, c, l, h1, h2, h3, h4⟩ := each i hi
          rw [add_plain] at h1
          rw [add_plain, add_plain] at h2 h3
          exact ⟨k, m, c, l, h1, h2, h3, h4⟩)
        exact ⟨l, _, cap, by rw [hll], by omega, fun _ => ⟨b, off, rfl, hR⟩⟩
      · obtain rfl : len = 0 := by omega
        exact ⟨.nil, _, cap, rfl, by simp [Fo.len], fun h => by simp [Fo.len] at h⟩

set_option maxRecDepth 20000 in
theorem open_raws {H : Type} {enc : TypeId × Value → H} {W : World} {v : Value} {d : DataW H} {ps : List MemPlace} {r : Reach} {b0 : Nat}
    (hv : Value.okWide Tryz.prog W r b0 22 v) (h : DataW.Trod enc Tryz.prog W 0 (fun _ => true) true 22 v d ps) :
    ∃ l : Fo, RawsAt W v l := by
  obtain ⟨a0, len, cap, rfl⟩ := okWide_slice Tryz.underlying22 hv
  obtain ⟨fuel, hf⟩ := h
  exact raws_of_trod fuel _ _ (by simpa [Value.cells] using hf)
end Go.Proofs.YtopfnfmglnjljaaGreatDoor
