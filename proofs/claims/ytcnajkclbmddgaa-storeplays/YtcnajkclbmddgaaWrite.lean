/- One write. -/
import Derived.Test.YtcnajkclbmddgaaGood
namespace Go.Proofs.Ytcnajkclbmddgaa
open Go.ChangeShapes Go.WideShapes Go.ChangeAt Go.RowKit
open Go.Sort (grow)
set_option linter.unusedVariables false
set_option linter.unusedSimpArgs false

def wrV (x : Wr) : Value := .agg #[.string x.key, .string x.val, .bool x.gone]
def vrOf (now : Int) (x : Wr) : Vr := ⟨now, if x.gone then ByteArray.empty else x.val, x.gone⟩

/-- Behind a write: the key has one version more. -/
structure Wrote (S S' : St) (x : Wr) : Prop where
  lim : S'.lim = S.lim
  now : S'.now = S.now
  cnt : S'.cnt = S.cnt
  tot : S'.tot = S.tot + 1
  pins : S'.pins = S.pins
  same : S'.live x.key = S.live x.key ++ [vrOf S.now x]
  other : ∀ k, k ≠ x.key → S'.live k = S.live k

/-- Behind the key's history was made longer. -/
theorem wrote_mid {w w1 : World} {S S1 : St} {x : Wr} {h : Hi} (A : StoreAt w S) (G : Good S) (H1 : StoreAt w1 S1) (E1 : S1.hs x.key = some h)
    (E : (S.hs x.key = some h ∧ S1 = S.more) ∨ (S.hs x.key = none ∧ S1 = S.grow x.key h ∧ h.all = [] ∧ h.off = 0)) {w2 : World} {row : Value}
    (H2 : HistAt w2 { h with row := row, all := h.all ++ [vrOf S.now x] }) (O2 : Only (fun k => k = h.blk ∨ h.row.ownBlock = some k) w1 w2) (R2 : ∀ g, row.ownBlock = some g → h.row.ownBlock = some g ∨ w1.heap.size ≤ g) :
    let h' : Hi := { h with row := row, all := h.all ++ [vrOf S.now x] }
    let S2 := S1.turn x.key h' S1.tot
    StoreAt w2 S2 ∧ Step w1 w2 S1 S2 ∧ h'.live = h.live ++ [vrOf S.now x] ∧ Wrote S S2 x ∧ HeapOn (keyL (nx S2.hb) S2.due) S2.due.length ∧ S2.due.Nodup ∧ S2.hs x.key = some h' ∧ S2.hb h.blk = h' ∧
      (∀ k h2, S2.hs k = some h2 → h2.live ≠ []) ∧ (∀ k h2, S2.hs k = some h2 → waitsP h2.live = true → h2.blk ∈ S2.due ∨ (k = x.key ∧ waitsP h.live = false)) ∧ (waitsP h.live = false → h.blk ∉ S2.due) ∧ S2.due.length + 1 ≤ S2.tot ∧ (waitsP h.live = true → h.blk ∈ S2.due) := by
  intro h' S2
  have hoff := (H1.his _ _ E1).1.off_le
  have hL : h'.live = h.live ++ [vrOf S.now x] := live_add h row _ hoff
  have hdue : S1.due = S.due := by rcases E with ⟨_, rfl⟩ | ⟨_, rfl, _⟩ <;> rfl
  have htot : S1.tot = S.tot + 1 := by rcases E with ⟨_, rfl⟩ | ⟨_, rfl, _⟩ <;> rfl
  have hlive : h.live = S.live x.key := by
    unfold St.live
    rcases E with ⟨e, _⟩ | ⟨e, _, a, _⟩
    · rw [e]
    · rw [e]; unfold Hi.live; rw [a]; simp
  have hlen : h.all.length ≤ S.tot := by
    rcases E with ⟨e, _⟩ | ⟨e, _, a, _⟩
    · exact A.all _ _ e
    · rw [a]; exact Nat.zero_le _
  have hW : h.blk ∈ S1.due → waitsP h.live = true := fun m => by
    have := (H1.dueD.his _ m).2.2
    rw [(H1.his _ _ E1).2.2] at this
    exact this
  have hS2 : StoreAt w2 S2 := H1.turn E1 H2 rfl rfl O2 R2 (fun m => by rw [hL]; exact waits_snoc _ (hW m)) (Nat.le_refl _) (by show (h.all ++ [vrOf S.now x]).length ≤ _; rw [htot]; simp; omega) H1.few.2.2.1
  have hhs : ∀ k h2, S2.hs k = some h2 → (k = x.key ∧ h2 = h') ∨ (k ≠ x.key ∧ S.hs k = some h2 ∧ S1.hs k = some h2) := fun k h2 e => by
    have e : (if k = x.key then some h' else S1.hs k) = some h2 := e
    by_cases n : k = x.key
    · rw [if_pos n] at e; exact .inl ⟨n, (Option.some.inj e).symm⟩
    · rw [if_neg n] at e
      refine .inr ⟨n, ?_, e⟩
      rcases E with ⟨_, rfl⟩ | ⟨_, rfl, _⟩
      · exact e
      · have e : (if k = x.key then some h else S.hs k) = some h2 := e
        rwa [if_neg n] at e
  have hkey : ∀ b ∈ S1.due, nx S2.hb b = nx S.hb b := fun b m => by
    unfold nx
    by_cases n : b = h.blk
    · subst n
      have : S2.hb h.blk = h' := if_pos rfl
      rw [this, hL, next_snoc _ (hW m)]
      congr 1
      have e1 := (H1.his _ _ E1).2.2
      rcases E with ⟨e, rfl⟩ | ⟨e, rfl, a, _⟩
      · rw [(A.his _ _ e).2.2]
      · exfalso
        have := hW m
        unfold Hi.live at this
        rw [a] at this
        simp [waitsP] at this
    · have : S2.hb b = S1.hb b := if_neg n
      rw [this]
      rcases E with ⟨e, rfl⟩ | ⟨e, rfl, a, _⟩
      · rfl
      · have : (S.grow x.key h).hb b = S.hb b := if_neg n
        rw [this]
  refine ⟨hS2, Step.turn H1 E1 O2 R2, hL, ⟨?_, ?_, ?_, htot, ?_, ?_, ?_⟩, ?_, ?_, if_pos rfl, if_pos rfl, ?_, ?_, ?_, ?_, ?_⟩
  · rcases E with ⟨_, rfl⟩ | ⟨_, rfl, _⟩ <;> rfl
  · rcases E with ⟨_, rfl⟩ | ⟨_, rfl, _⟩ <;> rfl
  · rcases E with ⟨_, rfl⟩ | ⟨_, rfl, _⟩ <;> rfl
  · rcases E with ⟨_, rfl⟩ | ⟨_, rfl, _⟩ <;> rfl
  · show (match (if x.key = x.key then some h' else S1.hs x.key) with | some h => h.live | none => []) = _
    rw [if_pos rfl]
    show h'.live = _
    rw [hL, hlive]
  · intro k n
    show (match (if k = x.key then some h' else S1.hs k) with | some h => h.live | none => []) = _
    rw [if_neg n]
    unfold St.live
    rcases E with ⟨_, rfl⟩ | ⟨_, rfl, _⟩
    · rfl
    · have : (S.grow x.key h).hs k = S.hs k := if_neg n
      rw [this]
      cases S.hs k <;> rfl
  · show HeapOn (keyL (nx S2.hb) S1.due) S1.due.length
    intro k k0 kn
    have e : ∀ j, j < S1.due.length → keyL (nx S2.hb) S1.due j = keyL (nx S.hb) S.due j := fun j hj => by
      unfold keyL
      rw [hkey _ (by rw [List.getD_eq_getElem?_getD, List.getElem?_eq_getElem hj]; exact List.getElem_mem hj), hdue]
    rw [e _ kn, e _ (by omega)]
    exact G.heap k k0 (by rw [← hdue]; exact kn)
  · show S1.due.Nodup
    rw [hdue]; exact G.nodup
  · intro k h2 e
    rcases hhs k h2 e with ⟨_, rfl⟩ | ⟨_, e, _⟩
    · rw [hL]; simp
    · exact G.ne k h2 e
  · intro k h2 e hw
    rcases hhs k h2 e with ⟨rfl, rfl⟩ | ⟨_, e, _⟩
    · cases hw0 : waitsP h.live with
      | false => exact .inr ⟨rfl, rfl⟩
      | true =>
        left
        show h.blk ∈ S1.due
        rw [hdue]
        rcases E with ⟨e2, _⟩ | ⟨e2, _, a, _⟩
        · exact G.wait _ _ e2 hw0
        · exfalso
          unfold Hi.live at hw0
          rw [a] at hw0
          simp [waitsP] at hw0
    · left
      show h2.blk ∈ S1.due
      rw [hdue]
      exact G.wait k h2 e hw
  · intro hw0 m
    rw [hW m] at hw0
    cases hw0
  · show S1.due.length + 1 ≤ S1.tot
    rw [hdue, htot]
    have := A.few.2.1
    omega
  · intro hw0
    show h.blk ∈ S1.due
    rw [hdue]
    rcases E with ⟨e2, _⟩ | ⟨e2, _, a, _⟩
    · exact G.wait _ _ e2 hw0
    · exfalso
      unfold Hi.live at hw0
      rw [a] at hw0
      simp [waitsP] at hw0
end Go.Proofs.Ytcnajkclbmddgaa
