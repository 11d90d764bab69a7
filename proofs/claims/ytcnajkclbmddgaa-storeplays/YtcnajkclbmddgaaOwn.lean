/- A store that a law has made: its calls. -/
import Derived.Test.YtcnajkclbmddgaaAbs
namespace Go.Proofs.Ytcnajkclbmddgaa
open Go.ChangeShapes Go.WideShapes Go.ChangeAt Go.RowKit
set_option linter.unusedVariables false
set_option linter.unusedSimpArgs false

structure Own (B p : Nat) (w0 w : World) (S : St) (s : Sto) : Prop where
  ptr : S.p = p
  below : Below B w0 w
  size : B ≤ w.heap.size
  store : StoreAt w S
  good : Good S
  abs : Abs S s
  ge : ∀ b, (S.lab b).isSome → B ≤ b

theorem Step.below {B : Nat} {w0 w w' : World} {S S' : St} (T : Step w w' S S') (hb : Below B w0 w) (hB : B ≤ w.heap.size) (ge : ∀ b, (S.lab b).isSome → B ≤ b) : Below B w0 w' :=
  hb.trans ⟨T.only.os, T.only.tape, T.only.output, T.only.size, fun k hk => T.only.block k (by omega) (fun e => by have := ge k e; omega)⟩
theorem Step.ge {B : Nat} {w w' : World} {S S' : St} (T : Step w w' S S') (hB : B ≤ w.heap.size) (ge : ∀ b, (S.lab b).isSome → B ≤ b) : ∀ b, (S'.lab b).isSome → B ≤ b :=
  fun b e => (T.lab b e).elim (ge b) (fun h => by omega)

theorem Own.later {B p : Nat} {w0 w w' : World} {S : St} {s : Sto} (O : Own B p w0 w S s) (h : Below w.heap.size w w') : Own B p w0 w' S s :=
  ⟨O.ptr, O.below.trans (h.mono O.size), Nat.le_trans O.size h.size, O.store.below h, O.good, O.abs, O.ge⟩

theorem Own.moved {B p : Nat} {w0 w w' : World} {S S' : St} {s s' : Sto} (O : Own B p w0 w S s) (T : Step w w' S S') (A : StoreAt w' S') (G : Good S') (H : Abs S' s') : Own B p w0 w' S' s' :=
  ⟨T.p.trans O.ptr, T.below O.below O.size O.ge, Nat.le_trans O.size T.only.size, A, G, H, T.ge O.size O.ge⟩

theorem new_own (B : Nat) (w0 w : World) (lim : Int) (hl : 0 ≤ lim ∧ lim ≤ 1000000) (hb : Below B w0 w) (hB : B ≤ w.heap.size) :
    Calls Try.prog 11 #[.int .i64 lim] w fun e w' => ∃ p S, e = .returned (.pointer (some ⟨p, 0, none⟩)) ∧ Own B p w0 w' S ⟨lim, 0, [], []⟩ ∧ S.tot = 0 ∧ S.pins = [] ∧ Below w.heap.size w w' ∧ ∀ b, (S.lab b).isSome → w.heap.size ≤ b := by
  refine (new_any lim w).mono ?_
  rintro e w' ⟨p, m, rfl, A, hb', hp, hm⟩
  have hge : ∀ b, ((St.new p m lim).lab b).isSome → w.heap.size ≤ b := fun b e => by
    have e : (if b = p then some Role.st else if b = m then some Role.mp else none : Option Role).isSome := e
    split at e
    · omega
    · split at e
      · omega
      · cases e
  exact ⟨p, St.new p m lim, rfl, ⟨rfl, hb.trans (hb'.mono hB), Nat.le_trans hB hb'.size, A, Good.new _ _ _, Abs.new _ _ _ hl, fun b e => Nat.le_trans hB (hge b e)⟩, rfl, rfl, hb', hge⟩

theorem now_own {B p : Nat} {w0 w : World} {S : St} {s : Sto} (O : Own B p w0 w S s) : Calls Try.prog 25 #[.pointer (some ⟨p, 0, none⟩)] w fun e w' => e = .returned (.int .i64 s.stamp) ∧ w' = w := by
  rw [← O.abs.stamp, ← O.ptr]; exact now_any S w O.store
theorem count_own {B p : Nat} {w0 w : World} {S : St} {s : Sto} (O : Own B p w0 w S s) : Calls Try.prog 29 #[.pointer (some ⟨p, 0, none⟩)] w fun e w' => e = .returned (.int .i64 (s.v.length : Nat)) ∧ w' = w := by
  rw [← O.abs.cnt, ← O.ptr]; exact count_any S w O.store

theorem read_own {B p : Nat} {w0 w : World} {S : St} {s : Sto} (O : Own B p w0 w S s) (k : ByteArray) (t : Int) (hk : k.size ≤ maxLen) :
    Calls Try.prog 24 #[.pointer (some ⟨p, 0, none⟩), .string k, .int .i64 t] w fun e w' => e = .returned (.tuple #[.string (readP s k t).1, .bool (readP s k t).2]) ∧ Below w.heap.size w w' := by
  rw [← O.abs.read k t, ← O.ptr]
  refine read_any S k t w O.store hk (by rw [O.abs.live]; exact rise_vers O.abs.rising) (fun x hx => ?_)
  rw [O.abs.live] at hx
  obtain ⟨y, hy, _, rfl⟩ := vers_mem hx
  unfold toVr
  simp only
  split
  · exact Nat.zero_le _
  · exact O.abs.size y hy

theorem changed_own {B p : Nat} {w0 w : World} {S : St} {s : Sto} (O : Own B p w0 w S s) (k : ByteArray) (t : Int) (hk : k.size ≤ maxLen) :
    Calls Try.prog 27 #[.pointer (some ⟨p, 0, none⟩), .string k, .int .i64 t] w fun e w' => e = .returned (.bool (changedP s k t)) ∧ ∃ n, w' = w.drewN n := by
  rw [← O.abs.changed k t, ← O.ptr]
  exact changed_any S k t w O.store hk (O.good.ne k)

theorem commit_own {B p : Nat} {w0 w : World} {S : St} {s : Sto} (O : Own B p w0 w S s) (a : Option Addr) (c : Nat) (ws : List Wr) (W : WsAt w a ws) (hap : ∀ g o, a = some ⟨g, o, none⟩ → ¬ (S.lab g).isSome)
    (hsz : ∀ x ∈ ws, x.key.size ≤ 281474976710656 ∧ x.val.size ≤ 281474976710656) (ht : S.tot + ws.length ≤ 900000) (hn : s.stamp ≤ 1000000) :
    Calls Try.prog 14 #[.pointer (some ⟨p, 0, none⟩), .slice a ws.length c] w fun e w' => ∃ S', e = .returned (.tuple #[.int .i64 (commitP s ws).2.1, .int .i64 (commitP s ws).2.2]) ∧ Own B p w0 w' S' (commitP s ws).1 ∧ Step w w' S S' ∧ S'.tot ≤ S.tot + ws.length ∧ S'.pins = S.pins := by
  have h1 := O.abs.nonneg
  have P := commit_any S a c ws w O.store O.good W hap hsz ht (by rw [O.abs.all]; exact h1.2) (by rw [O.abs.stamp]; exact ⟨h1.1, hn⟩) (by rw [O.abs.cnt]; have := O.abs.tot; omega)
  rw [O.ptr] at P
  refine P.mono ?_
  rintro e w' (⟨hf, rfl, n, rfl⟩ | ⟨hf, rfl, S', A, T, G, D⟩)
  · rw [O.abs.full hf]
    exact ⟨S, rfl, O.later (below_drewN w n), Step.of_below (below_drewN w n) S, by omega, rfl⟩
  · obtain ⟨h2, h3⟩ := O.abs.commit D hf (fun x hx => (hsz x hx).2)
    rw [h3]
    exact ⟨S', rfl, O.moved T A G h2, T, by rw [D.tot]; exact Nat.le_refl _, D.pins⟩
end Go.Proofs.Ytcnajkclbmddgaa
