/- Two stores side by side: the program's and the reference's. -/
import Derived.Test.YtcnajkclbmddgabRefS
namespace Go.Proofs.Ytcnajkclbmddgab
open Go.ChangeShapes Go.WideShapes Go.ChangeAt Go.RowKit
set_option linter.unusedVariables false
set_option linter.unusedSimpArgs false

def Foot (q : Nat) (v pv : Value) (k : Nat) : Prop := k = q ∨ v.ownBlock = some k ∨ pv.ownBlock = some k

structure Pair (B p q n : Nat) (w0 w : World) (S : St) (s : Sto) (v pv : Value) (x : Sto) : Prop where
  own : OwnP B p w0 w S s n
  ref : RefAt w q v pv x
  far : ∀ k, Foot q v pv k → ¬ (S.lab k).isSome ∧ B ≤ k

theorem Pair.later {B p q n : Nat} {w0 w w' : World} {S : St} {s x : Sto} {v pv : Value} (P : Pair B p q n w0 w S s v pv x) (hb : Below w.heap.size w w') : Pair B p q n w0 w' S s v pv x := ⟨P.own.later hb, P.ref.later hb, P.far⟩

theorem Pair.step {B p q n m : Nat} {w0 w w' : World} {S S' : St} {s s' x : Sto} {v pv : Value} (P : Pair B p q n w0 w S s v pv x) (O : OwnP B p w0 w' S' s' m) (T : Step w w' S S') : Pair B p q m w0 w' S' s' v pv x :=
  ⟨O, P.ref.frame (fun k hk => T.only.block k (P.ref.lt k hk) (P.far k hk).1), fun k hk => ⟨T.unl (P.ref.lt k hk) (P.far k hk).1, (P.far k hk).2⟩⟩

/-- The store where something else has turned. -/
theorem OwnP.beside {B p n : Nat} {w0 w w' : World} {S : St} {s : Sto} {F : Nat → Prop} (O : OwnP B p w0 w S s n) (h : Only F w w') (hF : ∀ k, F k → ¬ (S.lab k).isSome ∧ B ≤ k) : OwnP B p w0 w' S s n :=
  ⟨⟨O.own.ptr, O.own.below.trans ⟨h.os, h.tape, h.output, h.size, fun k hk => h.block k (by have := O.own.size; omega) (fun e => by have := (hF k e).2; omega)⟩, Nat.le_trans O.own.size h.size, O.own.store.only h (fun b hb e => (hF b e).1 hb), O.own.good, O.own.abs, O.own.ge⟩, O.pin, O.few⟩

theorem Pair.told {B p q n : Nat} {w0 w w' : World} {S : St} {s x x' : Sto} {v pv v' pv' : Value} (P : Pair B p q n w0 w S s v pv x) (R : RefAt w' q v' pv' x') (O : Only (Foot q v pv) w w') (h1 : ∀ g, v'.ownBlock = some g → Foot q v pv g ∨ w.heap.size ≤ g) (h2 : ∀ g, pv'.ownBlock = some g → Foot q v pv g ∨ w.heap.size ≤ g) : Pair B p q n w0 w' S s v' pv' x' := by
  refine ⟨P.own.beside O P.far, R, fun k hk => ?_⟩
  have hnew : w.heap.size ≤ k → ¬ (S.lab k).isSome ∧ B ≤ k := fun h => ⟨fun e => by have := P.own.own.store.lt k e; omega, Nat.le_trans P.own.own.size h⟩
  rcases hk with rfl | hk | hk
  · exact P.far _ (.inl rfl)
  · exact (h1 k hk).elim (P.far k) hnew
  · exact (h2 k hk).elim (P.far k) hnew

theorem Pair.rcommit {B p q n m : Nat} {w0 w : World} {S : St} {s x : Sto} {v pv : Value} (P : Pair B p q n w0 w S s v pv x) {a : Option Addr} {c : Nat} (W : WrAt w a (writesP m)) (hap : ∀ g o, a = some ⟨g, o, none⟩ → ¬ Foot q v pv g) (hf : x.v.length ≤ 800000) (hb : 0 ≤ x.all ∧ x.all ≤ 1000000 ∧ 0 ≤ x.stamp ∧ x.stamp ≤ 1000000) :
    Calls Try.prog 11 #[.pointer (some ⟨q, 0, none⟩), .slice a (writesP m).length c] w fun e w' => e = .returned (.tuple #[.int .i64 (commitP x (writesP m)).2.1, .int .i64 (commitP x (writesP m)).2.2]) ∧ ∃ v', Pair B p q n w0 w' S s v' pv (commitP x (writesP m)).1 := by
  have hl := writes_len m
  refine (rcommit_any q v pv x a c (writesP m) w P.ref W (fun g o e => ⟨fun h => hap g o e (.inl h), fun h => hap g o e (.inr (.inl h))⟩) (by omega) hb).mono ?_
  rintro e w' ⟨rfl, v', R, O, h⟩
  exact ⟨rfl, v', P.told R (O.mono (fun k _ e => e.elim .inl (fun e => .inr (.inl e)))) (fun g hg => (h g hg).imp (fun e => .inr (.inl e)) id) (fun g hg => .inl (.inr (.inr hg)))⟩

theorem Pair.start {B p : Nat} {w0 w w' : World} {S : St} {s : Sto} {lim : Int} (O : OwnP B p w0 w S s 0) (R : RefAt w' w.heap.size (.slice none 0 0) (.slice none 0 0) ⟨lim, 0, [], []⟩) (hb : Below w.heap.size w w') : Pair B p w.heap.size 0 w0 w' S s (.slice none 0 0) (.slice none 0 0) ⟨lim, 0, [], []⟩ := by
  refine ⟨O.later hb, R, fun k hk => ?_⟩
  rcases hk with rfl | hk | hk
  · exact ⟨fun e => by have := O.own.store.lt _ e; omega, O.own.size⟩
  · cases hk
  · cases hk

set_option maxHeartbeats 3200000 in
set_option maxRecDepth 20000 in
theorem same_any {B p q n : Nat} {w0 : World} {S : St} {s : Sto} {v pv : Value} (low : Int) (w : World) (P : Pair B p q n w0 w S s v pv s) (hst : 0 ≤ s.stamp ∧ s.stamp ≤ 1000) :
    Calls Try.prog 17 #[.pointer (some ⟨p, 0, none⟩), .pointer (some ⟨q, 0, none⟩), .int .i64 low] w fun e w' => e = .returned (.bool true) ∧ Below w.heap.size w w' := by
  have NS := fun w1 (h : Below w.heap.size w w1) => now_own (P.later h).own.own
  have NX := fun w1 (h : Below w.heap.size w w1) => rnow_any q v pv s w1 (P.later h).ref
  have CS := count_own P.own.own
  have CX := rcount_any q v pv s w P.ref
  have HP : Hid (∀ w1, Below w.heap.size w w1 → Pair B p q n w0 w1 S s v pv s) := fun w1 h => P.later h
  obtain ⟨st, hst1⟩ : ∃ st, s.stamp = st := ⟨_, rfl⟩
  rw [hst1] at NS NX hst
  generalize s.v.length = vl at *
  replace hst : Hid (0 ≤ st ∧ st ≤ 1000) := hst
  have NS0 := NS w (Below.refl _ _)
  have NX0 := NX w (Below.refl _ _)
  replace NS : Hid _ := NS
  replace NX : Hid _ := NX
  have hb0 : Hid (Below w.heap.size w w) := Below.refl _ _
  clear P hst1
  go_enter Try.func17, Try.ntmps17
  go_wp2_with fail
  refine NS0.mono ?_
  rintro e w1 ⟨rfl, rfl⟩
  clear NS0
  go_wp2_with fail
  refine NX0.mono ?_
  rintro e w2 ⟨rfl, rfl⟩
  clear NX0
  go_wp2_with fail
  refine CS.mono ?_
  rintro e w3 ⟨rfl, rfl⟩
  clear CS
  go_wp2_with fail
  refine CX.mono ?_
  rintro e w4 ⟨rfl, rfl⟩
  clear CX
  go_wp2_with fail
  go_loopg [7] 5 (fun kx s7 wr => ∃ k : Nat, s7 = .int .i64 k ∧ k ≤ 5 ∧ 5 - k ≤ kx ∧ Hid (Below w4.heap.size w4 wr))
  case atStart => exact ⟨0, rfl, by omega, by omega, hb0⟩
  case round =>
    clear hb0
    obtain ⟨k, rfl, hk, hg, hb⟩ := hrel
    by_cases hk5 : k < 5
    · have hk5I : (k : Int) < 5 := by omega
      have hk0 : (0 : Int) ≤ (k : Int) := by omega
      have SL := fun w => slice_key k hk5 w
      have HK : Hid (k < 5 ∧ 5 - k ≤ gk) := ⟨hk5, hg⟩
      have NX1 := NX.out wr hb.out
      have hs6 : wrap64 (st - 6) = st - 6 := IntWalk.wrap64_in _ (by have := hst.out; omega)
      clear hk hg hk5
      go_wp2_with fail
      refine NX1.mono ?_
      rintro e w5 ⟨rfl, rfl⟩
      clear NX1 SL
      go_wp2_with fail
      obtain ⟨t0, ht0, ht1⟩ : ∃ t0, max low (st - 6) = t0 ∧ st - 6 ≤ t0 := ⟨_, rfl, Int.le_max_right _ _⟩
      rw [ht0]
      clear ht0 hs6
      replace ht1 : Hid (st - 6 ≤ t0) := ht1
      go_loopg [9] 8 (fun kx s9 wr => ∃ t : Int, s9 = .int .i64 t ∧ Hid (st - 6 ≤ t ∧ st + 1 - t ≤ (kx : Int) ∧ Below w4.heap.size w4 wr))
      case atStart => exact ⟨t0, rfl, ht1.out, by have := ht1.out; omega, hb.out⟩
      case round =>
        clear hb ht1
        obtain ⟨t, rfl, HT⟩ := hrel
        have NX1 := NX.out wr HT.out.2.2
        by_cases hle : t ≤ st
        · have PP := HP.out wr HT.out.2.2
          have RS := read_own PP.own.own (letK k) t (by show (1 : Nat) ≤ _; unfold maxLen; omega)
          have HR : Hid (∀ w1, Below w4.heap.size w4 w1 → Calls Try.prog 28 #[.pointer (some ⟨q, 0, none⟩), .string (letK k), .int .i64 t] w1 fun e w' => e = .returned (.tuple #[.string (readP s (letK k) t).1, .bool (readP s (letK k) t).2]) ∧ w' = w1) := fun w1 h => rread_any q v pv s (letK k) t w1 (HP.out w1 h).ref
          have HCS : Hid (∀ w1, Below w4.heap.size w4 w1 → Calls Try.prog 21 #[.pointer (some ⟨p, 0, none⟩), .string (letK k), .int .i64 t] w1 fun e w' => e = .returned (.bool (changedP s (letK k) t)) ∧ ∃ n, w' = w1.drewN n) := fun w1 h => changed_own (HP.out w1 h).own.own (letK k) t (by show (1 : Nat) ≤ _; unfold maxLen; omega)
          have HCX : Hid (∀ w1, Below w4.heap.size w4 w1 → Calls Try.prog 29 #[.pointer (some ⟨q, 0, none⟩), .string (letK k), .int .i64 t] w1 fun e w' => e = .returned (.bool (changedP s (letK k) t)) ∧ w' = w1) := fun w1 h => rchanged_any q v pv s (letK k) t w1 (HP.out w1 h).ref
          generalize readP s (letK k) t = rd at *
          generalize changedP s (letK k) t = ch at *
          clear PP
          have htB : wrap64 (t + 1) = t + 1 := IntWalk.wrap64_in _ (by have := HT.out; have := hst.out; omega)
          have hle' : Hid (t ≤ st) := hle
          go_wp2_with fail
          refine NX1.mono ?_
          rintro e w6 ⟨rfl, rfl⟩
          clear NX1
          go_wp2_with fail
          refine RS.mono ?_
          rintro e w7 ⟨rfl, hb7⟩
          clear RS
          have hb8 : Below w4.heap.size w4 w7 := HT.out.2.2.trans (hb7.mono HT.out.2.2.size)
          have RX := HR.out w7 hb8
          have CS := HCS.out w7 hb8
          replace hb8 : Hid (Below w4.heap.size w4 w7) := hb8
          clear HR HCS hb7
          go_wp2_with fail
          refine RX.mono ?_
          rintro e w8 ⟨rfl, rfl⟩
          clear RX
          go_wp2_with fail
          refine CS.mono ?_
          rintro e w9 ⟨rfl, n9, rfl⟩
          clear CS
          have hb9 : Below w4.heap.size w4 (w8.drewN n9) := hb8.out.trans ((below_drewN w8 n9).mono hb8.out.size)
          have CX := HCX.out _ hb9
          replace hb9 : Hid (Below w4.heap.size w4 (w8.drewN n9)) := hb9
          generalize w8.drewN n9 = w10 at *
          clear HCX hb8
          go_wp2_with fail
          refine CX.mono ?_
          rintro e w11 ⟨rfl, rfl⟩
          clear CX
          go_wp2_with fail
          obtain ⟨g1, g2, -⟩ := HT.out
          have hl := hle'.out
          have hkx : 0 < gk := by omega
          clear htB hle
          go_roundg (gk - 1)
          case rel => exact ⟨t + 1, by first | rfl | (rw [IntWalk.wrap64_in _ (by have := hst.out; omega)]), by omega, by omega, hb9.out⟩
          case measure => omega
        · have hbE : Hid (Below w4.heap.size w4 wr) := HT.out.2.2
          clear HT
          go_wp2_with fail
          refine NX1.mono ?_
          rintro e w6 ⟨rfl, rfl⟩
          clear NX1
          obtain ⟨f1, f2⟩ := HK.out
          go_wp2_with fail
          clear hle
          go_roundg (5 - (k + 1))
          case rel => exact ⟨k + 1, by go_num, by omega, Nat.le_refl _, hbE⟩
          case measure => omega
    · obtain rfl : k = 5 := by omega
      clear hk hg hk5
      go_wp2_with fail
      go_ret
      exact ⟨rfl, hb.out⟩

structure Trio (B p q po n m : Nat) (w0 w : World) (S : St) (s : Sto) (v pv : Value) (x : Sto) (So : St) (so : Sto) : Prop where
  pair : Pair B p q n w0 w S s v pv x
  oth : OwnP B po w0 w So so m
  apt : ∀ b, (S.lab b).isSome → ¬ (So.lab b).isSome
  far : ∀ k, Foot q v pv k → ¬ (So.lab k).isSome

theorem Trio.later {B p q po n m : Nat} {w0 w w' : World} {S So : St} {s x so : Sto} {v pv : Value} (Q : Trio B p q po n m w0 w S s v pv x So so) (hb : Below w.heap.size w w') : Trio B p q po n m w0 w' S s v pv x So so :=
  ⟨Q.pair.later hb, Q.oth.later hb, Q.apt, Q.far⟩

theorem Trio.s_step {B p q po n n' m : Nat} {w0 w w' : World} {S S' So : St} {s s' x so : Sto} {v pv : Value} (Q : Trio B p q po n m w0 w S s v pv x So so) (O : OwnP B p w0 w' S' s' n') (T : Step w w' S S') : Trio B p q po n' m w0 w' S' s' v pv x So so :=
  ⟨Q.pair.step O T, Q.oth.beside T.only (fun k hk => ⟨Q.apt k hk, Q.pair.own.own.ge k hk⟩), fun b hb h => by
    rcases T.lab b hb with e | e
    · exact Q.apt b e h
    · have := Q.oth.own.store.lt b h; omega, Q.far⟩

theorem Trio.x_step {B p q po n m : Nat} {w0 w w' : World} {S So : St} {s x x' so : Sto} {v pv v' : Value} (Q : Trio B p q po n m w0 w S s v pv x So so) (R : RefTold w w' q v pv x' v') : Trio B p q po n m w0 w' S s v' pv x' So so := by
  obtain ⟨r1, r2, r3⟩ := R
  have OF : Only (Foot q v pv) w w' := r2.mono (fun k _ e => e.elim .inl (fun e => .inr (.inl e)))
  refine ⟨Q.pair.told r1 OF (fun g hg => (r3 g hg).imp (fun e => .inr (.inl e)) id) (fun g hg => .inl (.inr (.inr hg))), Q.oth.beside OF (fun k hk => ⟨Q.far k hk, (Q.pair.far k hk).2⟩), Q.apt, fun k hk h => ?_⟩
  rcases hk with rfl | hk | hk
  · exact Q.far _ (.inl rfl) h
  · rcases r3 k hk with e | e
    · exact Q.far k (.inr (.inl e)) h
    · have := Q.oth.own.store.lt k h; omega
  · exact Q.far k (.inr (.inr hk)) h

theorem Trio.o_step {B p q po n m m' : Nat} {w0 w w' : World} {S So So' : St} {s x so so' : Sto} {v pv : Value} (Q : Trio B p q po n m w0 w S s v pv x So so) (O : OwnP B po w0 w' So' so' m') (T : Step w w' So So') : Trio B p q po n m' w0 w' S s v pv x So' so' := by
  have hge : ∀ k, (So.lab k).isSome → ¬ (S.lab k).isSome ∧ B ≤ k := fun k hk => ⟨fun e => Q.apt k e hk, Q.oth.own.ge k hk⟩
  have hnew : ∀ b, (So'.lab b).isSome → (So.lab b).isSome ∨ w.heap.size ≤ b := T.lab
  refine ⟨⟨Q.pair.own.beside T.only hge, Q.pair.ref.frame (fun k hk => T.only.block k (Q.pair.ref.lt k hk) (Q.far k hk)), Q.pair.far⟩, O, fun b hb h => ?_, fun k hk h => ?_⟩
  · rcases hnew b h with e | e
    · exact Q.apt b hb e
    · have := Q.pair.own.own.store.lt b hb; omega
  · rcases hnew k h with e | e
    · exact Q.far k hk e
    · have := Q.pair.ref.lt k hk; omega

structure Apart3 (B p q po : Nat) (w0 w : World) (i m k : Nat) (v pv : Value) (S : St) (s x : Sto) (So : St) (so : Sto) : Prop where
  trio : Trio B p q po 0 m w0 w S s v pv x So so
  eq : x = s
  tot : S.tot ≤ 3 * i
  stamp : 0 ≤ s.stamp ∧ s.stamp ≤ i
  all : s.all = 1000
  otot : So.tot ≤ 3 * k
  ostamp : so.stamp ≤ k

theorem Apart3.later {B p q po : Nat} {w0 w w' : World} {i m k : Nat} {v pv : Value} {S So : St} {s x so : Sto} (Q : Apart3 B p q po w0 w i m k v pv S s x So so) (hb : Below w.heap.size w w') : Apart3 B p q po w0 w' i m k v pv S s x So so := { Q with trio := Q.trio.later hb }

theorem commit_facts (s : Sto) (ws : List Wr) : (commitP s ws).1.stamp ≤ s.stamp + 1 ∧ s.stamp ≤ (commitP s ws).1.stamp ∧ (commitP s ws).1.all = s.all := by
  unfold commitP
  split
  · exact ⟨by show s.stamp ≤ s.stamp + 1; omega, Int.le_refl _, rfl⟩
  · exact ⟨Int.le_refl _, by show s.stamp ≤ s.stamp + 1; omega, rfl⟩

/-- Committed in both. -/
theorem Apart3.commit {B p q po : Nat} {w0 w4 w5 : World} {i j k m : Nat} {v pv : Value} {S So : St} {s x so : Sto} (Q : Apart3 B p q po w0 w4 i j k v pv S s x So so) (hi : i ≤ 40) (hb5 : Below w4.heap.size w4 w5) {a b : Value} (ha : w5.ownsRow w4.heap.size 45 3 a (writesP m).length (wrsCells (writesP m))) (hb : w5.ownsRow w4.heap.size 55 3 b (writesP m).length (wrsCells (writesP m))) :
    Calls Try.prog 10 #[.pointer (some ⟨p, 0, none⟩), a] w5 fun e w' => (∃ r, e = .returned r) ∧ Calls Try.prog 11 #[.pointer (some ⟨q, 0, none⟩), b] w' fun e w' => (∃ r, e = .returned r) ∧ ∃ (v' : Value) (S' : St) (s' x' : Sto), Apart3 B p q po w0 w' (i + 1) j k v' pv S' s' x' So so := by
  have h1 := Q.tot
  have h2 := Q.stamp
  have h3 := Q.all
  have Q5 := Q.later hb5
  obtain ⟨ab, cb, rfl, WA, hab⟩ := wr_own hb
  refine (commit_row Q.trio.pair.own hb5 ha (by omega) (by omega)).mono ?_
  rintro e w6 ⟨S', rfl, O', T, ht⟩
  refine ⟨⟨_, rfl⟩, ?_⟩
  have Q6 := Q5.trio.s_step O' T
  have hbl : ∀ g o, ab = some ⟨g, o, none⟩ → w4.heap.size ≤ g ∧ g < w5.heap.size := fun g o e => hb.lt g (hab g o e)
  have hgl : ∀ g o, ab = some ⟨g, o, none⟩ → w6.heap[g]? = w5.heap[g]? := fun g o e => T.only.block g (hbl g o e).2 (fun h => by have := Q.trio.pair.own.own.store.lt g h; have := (hbl g o e).1; omega)
  have W6 : WrAt w6 ab (writesP m) := fun j y hy => by
    obtain ⟨g, e, hl, k0, k1, k2⟩ := WA j y hy
    have hh := hgl g 0 e
    refine ⟨g, e, Nat.lt_of_lt_of_le hl T.only.size, ?_, ?_, ?_⟩
    · rw [cell_of_block (a := ⟨g, j * 3, none⟩) hh]; exact k0
    · rw [cell_of_block (a := ⟨g, j * 3 + 1, none⟩) hh]; exact k1
    · rw [cell_of_block (a := ⟨g, j * 3 + 2, none⟩) hh]; exact k2
  have hvl : x.v.length ≤ S.tot := by rw [Q.eq]; exact Q.trio.pair.own.own.abs.tot
  have hl := writes_len m
  refine (rcommit_any q v pv x ab cb (writesP m) w6 Q6.pair.ref W6 (fun g o e => ?_) (by omega) (by rw [Q.eq]; omega)).mono ?_
  · have hg := (hbl g o e).1
    have hF : ¬ Foot q v pv g := fun h => by have := Q.trio.pair.ref.lt g h; omega
    exact ⟨fun h => hF (.inl h), fun h => hF (.inr (.inl h))⟩
  · rintro e w' ⟨rfl, v', R⟩
    obtain ⟨c1, c2, c3⟩ := commit_facts s (writesP m)
    exact ⟨⟨_, rfl⟩, v', S', _, _, Q6.x_step R, by rw [Q.eq], by omega, by omega, c3.trans h3, Q.otot, Q.ostamp⟩

theorem Apart3.ocommit {B p q po : Nat} {w0 w4 w5 : World} {i j k m : Nat} {v pv : Value} {S So : St} {s x so : Sto} (Q : Apart3 B p q po w0 w4 i j k v pv S s x So so) (hk : k ≤ 40) (hb5 : Below w4.heap.size w4 w5) {a : Value} (ha : w5.ownsRow w4.heap.size 45 3 a (writesP m).length (wrsCells (writesP m))) :
    Calls Try.prog 10 #[.pointer (some ⟨po, 0, none⟩), a] w5 fun e w' => (∃ r, e = .returned r) ∧ ∃ (So' : St) (so' : Sto), Apart3 B p q po w0 w' i j (k + 1) v pv S s x So' so' := by
  have h1 := Q.otot
  have h2 := Q.ostamp
  refine (commit_row Q.trio.oth hb5 ha (by omega) (by omega)).mono ?_
  rintro e w6 ⟨S', rfl, O', T, ht⟩
  obtain ⟨c1, c2, c3⟩ := commit_facts so (writesP m)
  exact ⟨⟨_, rfl⟩, S', _, (Q.later hb5).trio.o_step O' T, Q.eq, Q.tot, Q.stamp, Q.all, by omega, by omega⟩

theorem Apart3.oclean {B p q po : Nat} {w0 w : World} {i j k : Nat} {v pv : Value} {S So : St} {s x so : Sto} (Q : Apart3 B p q po w0 w i j k v pv S s x So so) :
    Calls Try.prog 15 #[.pointer (some ⟨po, 0, none⟩)] w fun e w' => (∃ r, e = .returned r) ∧ ∃ (So' : St) (so' : Sto), Apart3 B p q po w0 w' i j k v pv S s x So' so' := by
  refine (clean_own Q.trio.oth).mono ?_
  rintro e w6 ⟨S', rfl, O', T, ht⟩
  exact ⟨⟨_, rfl⟩, S', _, Q.trio.o_step O' T, Q.eq, Q.tot, Q.stamp, Q.all, by rw [ht]; exact Q.otot, Q.ostamp⟩

theorem Apart3.opin {B p q po : Nat} {w0 w : World} {i j k : Nat} {v pv : Value} {S So : St} {s x so : Sto} (Q : Apart3 B p q po w0 w i j k v pv S s x So so) (hj : j ≤ 100) :
    Calls Try.prog 12 #[.pointer (some ⟨po, 0, none⟩)] w fun e w' => (∃ r, e = .returned r) ∧ ∃ (So' : St) (so' : Sto), Apart3 B p q po w0 w' i (j + 1) k v pv S s x So' so' := by
  refine (pin_own Q.trio.oth (by omega)).mono ?_
  rintro e w6 ⟨S', rfl, O', T, ht⟩
  exact ⟨⟨_, rfl⟩, S', _, Q.trio.o_step O' T, Q.eq, Q.tot, Q.stamp, Q.all, by rw [ht]; exact Q.otot, Q.ostamp⟩

theorem Apart3.start {B p po : Nat} {w0 w1 w2 w3 : World} {S So : St} (O : Own B p w0 w1 S ⟨1000, 0, [], []⟩) (hp : S.pins = []) (ht : S.tot = 0) (hb12 : Below w1.heap.size w1 w2) (R : RefAt w2 w1.heap.size (.slice none 0 0) (.slice none 0 0) ⟨1000, 0, [], []⟩) (hb23 : Below w2.heap.size w2 w3) (Oo : Own B po w0 w3 So ⟨5, 0, [], []⟩) (hop : So.pins = []) (hot : So.tot = 0) (hge : ∀ b, (So.lab b).isSome → w2.heap.size ≤ b) :
    Apart3 B p w1.heap.size po w0 w3 0 0 0 (.slice none 0 0) (.slice none 0 0) S ⟨1000, 0, [], []⟩ ⟨1000, 0, [], []⟩ So ⟨5, 0, [], []⟩ := by
  have P := (Pair.start (O.fresh (n := 0) hp rfl) R hb12).later hb23
  have Oo' : OwnP B po w0 w3 So ⟨5, 0, [], []⟩ 0 := Oo.fresh (n := 0) hop rfl
  refine ⟨⟨P, Oo', fun b hb h => ?_, fun k hk h => ?_⟩, rfl, by omega, ⟨Int.le_refl _, Int.le_refl _⟩, rfl, by omega, Int.le_refl _⟩
  · have h1 := O.store.lt b hb
    have h2 := hge b h
    have h3 := hb12.size
    omega
  · have h1 := R.lt k hk
    have h2 := hge k h
    omega
end Go.Proofs.Ytcnajkclbmddgab
