/- Two stores side by side: the program's and the reference's. -/
import Derived.Test.YtcnajkclbmddgaaRefS
namespace Go.Proofs.Ytcnajkclbmddgaa
open Go.ChangeShapes Go.WideShapes Go.ChangeAt Go.RowKit
set_option linter.unusedVariables false
set_option linter.unusedSimpArgs false

def Foot (q : Nat) (v pv : Value) (k : Nat) : Prop := k = q ∨ v.ownBlock = some k ∨ pv.ownBlock = some k

structure Pair (B p q n : Nat) (w0 w : World) (S : St) (s : Sto) (v pv : Value) (x : Sto) : Prop where
  own : OwnP B p w0 w S s n
  ref : RefAt w q v pv x
  far : ∀ k, Foot q v pv k → ¬ (S.lab k).isSome ∧ B ≤ k

theorem Pair.later {B p q n : Nat} {w0 w w' : World} {S : St} {s x : Sto} {v pv : Value} (P : Pair B p q n w0 w S s v pv x) (hb : Below w.heap.size w w') : Pair B p q n w0 w' S s v pv x := ⟨P.own.later hb, P.ref.later hb, P.far⟩

theorem Pair.step {B p q n m : Nat} {w0 w w' : World} {S S' : St} {s s' x : Sto} {v pv : Value} (P : Pair B p q n w0 w S s v pv x) (O : OwnP B p w0 w' S' s' m) (T : Step w w' S S') : Pair B p q m w0 w' S' s' v pv x :=
  ⟨O, P.ref.frame (fun k hk => T.only.block k (P.ref.lt k hk) (P.far k hk).1), fun k hk => ⟨T.unl (P.ref.lt k hk) (P.far k hk).1, (P.far k hk).2⟩⟩

/-- The store where something else has turned. -/
theorem OwnP.beside {B p n : Nat} {w0 w w' : World} {S : St} {s : Sto} {F : Nat → Prop} (O : OwnP B p w0 w S s n) (h : Only F w w') (hF : ∀ k, F k → ¬ (S.lab k).isSome ∧ B ≤ k) : OwnP B p w0 w' S s n :=
  ⟨⟨O.own.ptr, O.own.below.trans ⟨h.os, h.tape, h.output, h.size, fun k hk => h.block k (by have := O.own.size; omega) (fun e => by have := (hF k e).2; omega)⟩, Nat.le_trans O.own.size h.size, O.own.store.only h (fun b hb e => (hF b e).1 hb), O.own.good, O.own.abs, O.own.ge⟩, O.pin, O.few⟩

theorem Pair.told {B p q n : Nat} {w0 w w' : World} {S : St} {s x x' : Sto} {v pv v' pv' : Value} (P : Pair B p q n w0 w S s v pv x) (R : RefAt w' q v' pv' x') (O : Only (Foot q v pv) w w') (h1 : ∀ g, v'.ownBlock = some g → Foot q v pv g ∨ w.heap.size ≤ g) (h2 : ∀ g, pv'.ownBlock = some g → Foot q v pv g ∨ w.heap.size ≤ g) : Pair B p q n w0 w' S s v' pv' x' := by
  refine ⟨P.own.beside O P.far, R, fun k hk => ?_⟩
  have hnew : w.heap.size ≤ k → ¬ (S.lab k).isSome ∧ B ≤ k := fun h => ⟨fun e => by have := P.own.own.store.lt k e; omega, Nat.le_trans P.own.own.size h⟩
  rcases hk with rfl | hk | hk
  · exact P.far _ (.inl rfl)
  · exact (h1 k hk).elim (P.far k) hnew
  · exact (h2 k hk).elim (P.far k) hnew

theorem Pair.rcommit {B p q n m : Nat} {w0 w : World} {S : St} {s x : Sto} {v pv : Value} (P : Pair B p q n w0 w S s v pv x) {a : Option Addr} {c : Nat} (W : WrAt w a (writesP m)) (hap : ∀ g o, a = some ⟨g, o, none⟩ → ¬ Foot q v pv g) (hf : x.v.length ≤ 800000) (hb : 0 ≤ x.all ∧ x.all ≤ 1000000 ∧ 0 ≤ x.stamp ∧ x.stamp ≤ 1000000) :
    Calls Try.prog 15 #[.pointer (some ⟨q, 0, none⟩), .slice a (writesP m).length c] w fun e w' => e = .returned (.tuple #[.int .i64 (commitP x (writesP m)).2.1, .int .i64 (commitP x (writesP m)).2.2]) ∧ ∃ v', Pair B p q n w0 w' S s v' pv (commitP x (writesP m)).1 := by
  have hl := writes_len m
  refine (rcommit_any q v pv x a c (writesP m) w P.ref W (fun g o e => ⟨fun h => hap g o e (.inl h), fun h => hap g o e (.inr (.inl h))⟩) (by omega) hb).mono ?_
  rintro e w' ⟨rfl, v', R, O, h⟩
  exact ⟨rfl, v', P.told R (O.mono (fun k _ e => e.elim .inl (fun e => .inr (.inl e)))) (fun g hg => (h g hg).imp (fun e => .inr (.inl e)) id) (fun g hg => .inl (.inr (.inr hg)))⟩

theorem Pair.start {B p : Nat} {w0 w w' : World} {S : St} {s : Sto} {lim : Int} (O : OwnP B p w0 w S s 0) (R : RefAt w' w.heap.size (.slice none 0 0) (.slice none 0 0) ⟨lim, 0, [], []⟩) (hb : Below w.heap.size w w') : Pair B p w.heap.size 0 w0 w' S s (.slice none 0 0) (.slice none 0 0) ⟨lim, 0, [], []⟩ := by
  refine ⟨O.later hb, R, fun k hk => ?_⟩
  rcases hk with rfl | hk | hk
  · exact ⟨fun e => by have := O.own.store.lt _ e; omega, O.own.size⟩
  · cases hk
  · cases hk

set_option maxHeartbeats 3200000 in
set_option maxRecDepth 20000 in
theorem same_any {B p q n : Nat} {w0 : World} {S : St} {s : Sto} {v pv : Value} (low : Int) (w : World) (P : Pair B p q n w0 w S s v pv s) (hst : 0 ≤ s.stamp ∧ s.stamp ≤ 1000) :
    Calls Try.prog 23 #[.pointer (some ⟨p, 0, none⟩), .pointer (some ⟨q, 0, none⟩), .int .i64 low] w fun e w' => e = .returned (.bool true) ∧ Below w.heap.size w w' := by
  have NS := fun w1 (h : Below w.heap.size w w1) => now_own (P.later h).own.own
  have NX := fun w1 (h : Below w.heap.size w w1) => rnow_any q v pv s w1 (P.later h).ref
  have CS := count_own P.own.own
  have CX := rcount_any q v pv s w P.ref
  have HP : Hid (∀ w1, Below w.heap.size w w1 → Pair B p q n w0 w1 S s v pv s) := fun w1 h => P.later h
  obtain ⟨st, hst1⟩ : ∃ st, s.stamp = st := ⟨_, rfl⟩
  rw [hst1] at NS NX hst
  generalize s.v.length = vl at *
  replace hst : Hid (0 ≤ st ∧ st ≤ 1000) := hst
  have NS0 := NS w (Below.refl _ _)
  have NX0 := NX w (Below.refl _ _)
  replace NS : Hid _ := NS
  replace NX : Hid _ := NX
  have hb0 : Hid (Below w.heap.size w w) := Below.refl _ _
  clear P hst1
  go_enter Try.func23, Try.ntmps23
  go_wp2_with fail
  refine NS0.mono ?_
  rintro e w1 ⟨rfl, rfl⟩
  clear NS0
  go_wp2_with fail
  refine NX0.mono ?_
  rintro e w2 ⟨rfl, rfl⟩
  clear NX0
  go_wp2_with fail
  refine CS.mono ?_
  rintro e w3 ⟨rfl, rfl⟩
  clear CS
  go_wp2_with fail
  refine CX.mono ?_
  rintro e w4 ⟨rfl, rfl⟩
  clear CX
  go_wp2_with fail
  go_loopg [7] 5 (fun kx s7 wr => ∃ k : Nat, s7 = .int .i64 k ∧ k ≤ 5 ∧ 5 - k ≤ kx ∧ Hid (Below w4.heap.size w4 wr))
  case atStart => exact ⟨0, rfl, by omega, by omega, hb0⟩
  case round =>
    clear hb0
    obtain ⟨k, rfl, hk, hg, hb⟩ := hrel
    by_cases hk5 : k < 5
    · have hk5I : (k : Int) < 5 := by omega
      have hk0 : (0 : Int) ≤ (k : Int) := by omega
      have SL := fun w => slice_key k hk5 w
      have HK : Hid (k < 5 ∧ 5 - k ≤ gk) := ⟨hk5, hg⟩
      have NX1 := NX.out wr hb.out
      have hs6 : wrap64 (st - 6) = st - 6 := IntWalk.wrap64_in _ (by have := hst.out; omega)
      clear hk hg hk5
      go_wp2_with fail
      refine NX1.mono ?_
      rintro e w5 ⟨rfl, rfl⟩
      clear NX1 SL
      go_wp2_with fail
      obtain ⟨t0, ht0, ht1⟩ : ∃ t0, max low (st - 6) = t0 ∧ st - 6 ≤ t0 := ⟨_, rfl, Int.le_max_right _ _⟩
      rw [ht0]
      clear ht0 hs6
      replace ht1 : Hid (st - 6 ≤ t0) := ht1
      go_loopg [9] 8 (fun kx s9 wr => ∃ t : Int, s9 = .int .i64 t ∧ Hid (st - 6 ≤ t ∧ st + 1 - t ≤ (kx : Int) ∧ Below w4.heap.size w4 wr))
      case atStart => exact ⟨t0, rfl, ht1.out, by have := ht1.out; omega, hb.out⟩
      case round =>
        clear hb ht1
        obtain ⟨t, rfl, HT⟩ := hrel
        have NX1 := NX.out wr HT.out.2.2
        by_cases hle : t ≤ st
        · have PP := HP.out wr HT.out.2.2
          have RS := read_own PP.own.own (letK k) t (by show (1 : Nat) ≤ _; unfold maxLen; omega)
          have HR : Hid (∀ w1, Below w4.heap.size w4 w1 → Calls Try.prog 26 #[.pointer (some ⟨q, 0, none⟩), .string (letK k), .int .i64 t] w1 fun e w' => e = .returned (.tuple #[.string (readP s (letK k) t).1, .bool (readP s (letK k) t).2]) ∧ w' = w1) := fun w1 h => rread_any q v pv s (letK k) t w1 (HP.out w1 h).ref
          have HCS : Hid (∀ w1, Below w4.heap.size w4 w1 → Calls Try.prog 27 #[.pointer (some ⟨p, 0, none⟩), .string (letK k), .int .i64 t] w1 fun e w' => e = .returned (.bool (changedP s (letK k) t)) ∧ ∃ n, w' = w1.drewN n) := fun w1 h => changed_own (HP.out w1 h).own.own (letK k) t (by show (1 : Nat) ≤ _; unfold maxLen; omega)
          have HCX : Hid (∀ w1, Below w4.heap.size w4 w1 → Calls Try.prog 28 #[.pointer (some ⟨q, 0, none⟩), .string (letK k), .int .i64 t] w1 fun e w' => e = .returned (.bool (changedP s (letK k) t)) ∧ w' = w1) := fun w1 h => rchanged_any q v pv s (letK k) t w1 (HP.out w1 h).ref
          generalize readP s (letK k) t = rd at *
          generalize changedP s (letK k) t = ch at *
          clear PP
          have htB : wrap64 (t + 1) = t + 1 := IntWalk.wrap64_in _ (by have := HT.out; have := hst.out; omega)
          have hle' : Hid (t ≤ st) := hle
          go_wp2_with fail
          refine NX1.mono ?_
          rintro e w6 ⟨rfl, rfl⟩
          clear NX1
          go_wp2_with fail
          refine RS.mono ?_
          rintro e w7 ⟨rfl, hb7⟩
          clear RS
          have hb8 : Below w4.heap.size w4 w7 := HT.out.2.2.trans (hb7.mono HT.out.2.2.size)
          have RX := HR.out w7 hb8
          have CS := HCS.out w7 hb8
          replace hb8 : Hid (Below w4.heap.size w4 w7) := hb8
          clear HR HCS hb7
          go_wp2_with fail
          refine RX.mono ?_
          rintro e w8 ⟨rfl, rfl⟩
          clear RX
          go_wp2_with fail
          refine CS.mono ?_
          rintro e w9 ⟨rfl, n9, rfl⟩
          clear CS
          have hb9 : Below w4.heap.size w4 (w8.drewN n9) := hb8.out.trans ((below_drewN w8 n9).mono hb8.out.size)
          have CX := HCX.out _ hb9
          replace hb9 : Hid (Below w4.heap.size w4 (w8.drewN n9)) := hb9
          generalize w8.drewN n9 = w10 at *
          clear HCX hb8
          go_wp2_with fail
          refine CX.mono ?_
          rintro e w11 ⟨rfl, rfl⟩
          clear CX
          go_wp2_with fail
          obtain ⟨g1, g2, -⟩ := HT.out
          have hl := hle'.out
          have hkx : 0 < gk := by omega
          clear htB hle
          go_roundg (gk - 1)
          case rel => exact ⟨t + 1, by first | rfl | (rw [IntWalk.wrap64_in _ (by have := hst.out; omega)]), by omega, by omega, hb9.out⟩
          case measure => omega
        · have hbE : Hid (Below w4.heap.size w4 wr) := HT.out.2.2
          clear HT
          go_wp2_with fail
          refine NX1.mono ?_
          rintro e w6 ⟨rfl, rfl⟩
          clear NX1
          obtain ⟨f1, f2⟩ := HK.out
          go_wp2_with fail
          clear hle
          go_roundg (5 - (k + 1))
          case rel => exact ⟨k + 1, by go_num, by omega, Nat.le_refl _, hbE⟩
          case measure => omega
    · obtain rfl : k = 5 := by omega
      clear hk hg hk5
      go_wp2_with fail
      go_ret
      exact ⟨rfl, hb.out⟩

structure Trio (B p q po n m : Nat) (w0 w : World) (S : St) (s : Sto) (v pv : Value) (x : Sto) (So : St) (so : Sto) : Prop where
  pair : Pair B p q n w0 w S s v pv x
  oth : OwnP B po w0 w So so m
  apt : ∀ b, (S.lab b).isSome → ¬ (So.lab b).isSome
  far : ∀ k, Foot q v pv k → ¬ (So.lab k).isSome

theorem Trio.later {B p q po n m : Nat} {w0 w w' : World} {S So : St} {s x so : Sto} {v pv : Value} (Q : Trio B p q po n m w0 w S s v pv x So so) (hb : Below w.heap.size w w') : Trio B p q po n m w0 w' S s v pv x So so :=
  ⟨Q.pair.later hb, Q.oth.later hb, Q.apt, Q.far⟩

theorem Trio.s_step {B p q po n n' m : Nat} {w0 w w' : World} {S S' So : St} {s s' x so : Sto} {v pv : Value} (Q : Trio B p q po n m w0 w S s v pv x So so) (O : OwnP B p w0 w' S' s' n') (T : Step w w' S S') : Trio B p q po n' m w0 w' S' s' v pv x So so :=
  ⟨Q.pair.step O T, Q.oth.beside T.only (fun k hk => ⟨Q.apt k hk, Q.pair.own.own.ge k hk⟩), fun b hb h => by
    rcases T.lab b hb with e | e
    · exact Q.apt b e h
    · have := Q.oth.own.store.lt b h; omega, Q.far⟩

theorem Trio.x_step {B p q po n m : Nat} {w0 w w' : World} {S So : St} {s x x' so : Sto} {v pv v' : Value} (Q : Trio B p q po n m w0 w S s v pv x So so) (R : RefTold w w' q v pv x' v') : Trio B p q po n m w0 w' S s v' pv x' So so := by
  obtain ⟨r1, r2, r3⟩ := R
  have OF : Only (Foot q v pv) w w' := r2.mono (fun k _ e => e.elim .inl (fun e => .inr (.inl e)))
  refine ⟨Q.pair.told r1 OF (fun g hg => (r3 g hg).imp (fun e => .inr (.inl e)) id) (fun g hg => .inl (.inr (.inr hg))), Q.oth.beside OF (fun k hk => ⟨Q.far k hk, (Q.pair.far k hk).2⟩), Q.apt, fun k hk h => ?_⟩
  rcases hk with rfl | hk | hk
  · exact Q.far _ (.inl rfl) h
  · rcases r3 k hk with e | e
    · exact Q.far k (.inr (.inl e)) h
    · have := Q.oth.own.store.lt k h; omega
  · exact Q.far k (.inr (.inr hk)) h

theorem Trio.o_step {B p q po n m m' : Nat} {w0 w w' : World} {S So So' : St} {s x so so' : Sto} {v pv : Value} (Q : Trio B p q po n m w0 w S s v pv x So so) (O : OwnP B po w0 w' So' so' m') (T : Step w w' So So') : Trio B p q po n m' w0 w' S s v pv x So' so' := by
  have hge : ∀ k, (So.lab k).isSome → ¬ (S.lab k).isSome ∧ B ≤ k := fun k hk => ⟨fun e => Q.apt k e hk, Q.oth.own.ge k hk⟩
  have hnew : ∀ b, (So'.lab b).isSome → (So.lab b).isSome ∨ w.heap.size ≤ b := T.lab
  refine ⟨⟨Q.pair.own.beside T.only hge, Q.pair.ref.frame (fun k hk => T.only.block k (Q.pair.ref.lt k hk) (Q.far k hk)), Q.pair.far⟩, O, fun b hb h => ?_, fun k hk h => ?_⟩
  · rcases hnew b h with e | e
    · exact Q.apt b hb e
    · have := Q.pair.own.own.store.lt b hb; omega
  · rcases hnew k h with e | e
    · exact Q.far k hk e
    · have := Q.pair.ref.lt k hk; omega

structure Apart3 (B p q po : Nat) (w0 w : World) (i m k : Nat) (v pv : Value) (S : St) (s x : Sto) (So : St) (so : Sto) : Prop where
  trio : Trio B p q po 0 m w0 w S s v pv x So so
  eq : x = s
  tot : S.tot ≤ 3 * i
  stamp : 0 ≤ s.stamp ∧ s.stamp ≤ i
  all : s.all = 1000
  otot : So.tot ≤ 3 * k
  ostamp : so.stamp ≤ k

theorem Apart3.later {B p q po : Nat} {w0 w w' : World} {i m k : Nat} {v pv : Value} {S So : St} {s x so : Sto} (Q : Apart3 B p q po w0 w i m k v pv S s x So so) (hb : Below w.heap.size w w') : Apart3 B p q po w0 w' i m k v pv S s x So so := { Q with trio := Q.trio.later hb }

theorem commit_facts (s : Sto) (ws : List Wr) : (commitP s ws).1.stamp ≤ s.stamp + 1 ∧ s.stamp ≤ (commitP s ws).1.stamp ∧ (commitP s ws).1.all = s.all := by
  unfold commitP
  split
  · exact ⟨by show s.stamp ≤ s.stamp + 1; omega, Int.le_refl _, rfl⟩
  · exact ⟨Int.le_refl _, by show s.stamp ≤ s.stamp + 1; omega, rfl⟩

/-- Committed in both. -/
theorem Apart3.commit {B p q po : Nat} {w0 w4 w5 : World} {i j k m : Nat} {v pv : Value} {S So : St} {s x so : Sto} (Q : Apart3 B p q po w0 w4 i j k v pv S s x So so) (hi : i ≤ 40) (hb5 : Below w4.heap.size w4 w5) {a b : Value} (ha : w5.ownsRow w4.heap.size 54 3 a (writesP m).length (wrsCells (writesP m))) (hb : w5.ownsRow w4.heap.size 63 3 b (writesP m).length (wrsCells (writesP m))) :
    Calls Try.prog 14 #[.pointer (some ⟨p, 0, none⟩), a] w5 fun e w' => (∃ r, e = .returned r) ∧ Calls Try.prog 15 #[.pointer (some ⟨q, 0, none⟩), b] w' fun e w' => (∃ r, e = .returned r) ∧ ∃ (v' : Value) (S' : St) (s' x' : Sto), Apart3 B p q po w0 w' (i + 1) j k v' pv S' s' x' So so := by
  have h1 := Q.tot
  have h2 := Q.stamp
  have h3 := Q.all
  have Q5 := Q.later hb5
  obtain ⟨ab, cb, rfl, WA, hab⟩ := wr_own hb
  refine (commit_row Q.trio.pair.own hb5 ha (by omega) (by omega)).mono ?_
  rintro e w6 ⟨S', rfl, O', T, ht⟩
  refine ⟨⟨_, rfl⟩, ?_⟩
  have Q6 := Q5.trio.s_step O' T
  have hbl : ∀ g o, ab = some ⟨g, o, none⟩ → w4.heap.size ≤ g ∧ g < w5.heap.size := fun g o e => hb.lt g (hab g o e)
  have hgl : ∀ g o, ab = some ⟨g, o, none⟩ → w6.heap[g]? = w5.heap[g]? := fun g o e => T.only.block g (hbl g o e).2 (fun h => by have := Q.trio.pair.own.own.store.lt g h; have := (hbl g o e).1; omega)
  have W6 : WrAt w6 ab (writesP m) := fun j y hy => by
    obtain ⟨g, e, hl, k0, k1, k2⟩ := WA j y hy
    have hh := hgl g 0 e
    refine ⟨g, e, Nat.lt_of_lt_of_le hl T.only.size, ?_, ?_, ?_⟩
    · rw [cell_of_block (a := ⟨g, j * 3, none⟩) hh]; exact k0
    · rw [cell_of_block (a := ⟨g, j * 3 + 1, none⟩) hh]; exact k1
    · rw [cell_of_block (a := ⟨g, j * 3 + 2, none⟩) hh]; exact k2
  have hvl : x.v.length ≤ S.tot := by rw [Q.eq]; exact Q.trio.pair.own.own.abs.tot
  have hl := writes_len m
  refine (rcommit_any q v pv x ab cb (writesP m) w6 Q6.pair.ref W6 (fun g o e => ?_) (by omega) (by rw [Q.eq]; omega)).mono ?_
  · have hg := (hbl g o e).1
    have hF : ¬ Foot q v pv g := fun h => by have := Q.trio.pair.ref.lt g h; omega
    exact ⟨fun h => hF (.inl h), fun h => hF (.inr (.inl h))⟩
  · rintro e w' ⟨rfl, v', R⟩
    obtain ⟨c1, c2, c3⟩ := commit_facts s (writesP m)
    exact ⟨⟨_, rfl⟩, v', S', _, _, Q6.x_step R, by rw [Q.eq], by omega, by omega, c3.trans h3, Q.otot, Q.ostamp⟩

theorem Apart3.ocommit {B p q po : Nat} {w0 w4 w5 : World} {i j k m : Nat} {v pv : Value} {S So : St} {s x so : Sto} (Q : Apart3 B p q po w0 w4 i j k v pv S s x So so) (hk : k ≤ 40) (hb5 : Below w4.heap.size w4 w5) {a : Value} (ha : w5.ownsRow w4.heap.size 54 3 a (writesP m).length (wrsCells (writesP m))) :
    Calls Try.prog 14 #[.pointer (some ⟨po, 0, none⟩), a] w5 fun e w' => (∃ r, e = .returned r) ∧ ∃ (So' : St) (so' : Sto), Apart3 B p q po w0 w' i j (k + 1) v pv S s x So' so' := by
  have h1 := Q.otot
  have h2 := Q.ostamp
  refine (commit_row Q.trio.oth hb5 ha (by omega) (by omega)).mono ?_
  rintro e w6 ⟨S', rfl, O', T, ht⟩
  obtain ⟨c1, c2, c3⟩ := commit_facts so (writesP m)
  exact ⟨⟨_, rfl⟩, S', _, (Q.later hb5).trio.o_step O' T, Q.eq, Q.tot, Q.stamp, Q.all, by omega, by omega⟩

theorem Apart3.oclean {B p q po : Nat} {w0 w : World} {i j k : Nat} {v pv : Value} {S So : St} {s x so : Sto} (Q : Apart3 B p q po w0 w i j k v pv S s x So so) :
    Calls Try.prog 21 #[.pointer (some ⟨po, 0, none⟩)] w fun e w' => (∃ r, e = .returned r) ∧ ∃ (So' : St) (so' : Sto), Apart3 B p q po w0 w' i j k v pv S s x So' so' := by
  refine (clean_own Q.trio.oth).mono ?_
  rintro e w6 ⟨S', rfl, O', T, ht⟩
  exact ⟨⟨_, rfl⟩, S', _, Q.trio.o_step O' T, Q.eq, Q.tot, Q.stamp, Q.all, by rw [ht]; exact Q.otot, Q.ostamp⟩

theorem Apart3.opin {B p q po : Nat} {w0 w : World} {i j k : Nat} {v pv : Value} {S So : St} {s x so : Sto} (Q : Apart3 B p q po w0 w i j k v pv S s x So so) (hj : j ≤ 100) :
    Calls Try.prog 16 #[.pointer (some ⟨po, 0, none⟩)] w fun e w' => (∃ r, e = .returned r) ∧ ∃ (So' : St) (so' : Sto), Apart3 B p q po w0 w' i (j + 1) k v pv S s x So' so' := by
  refine (pin_own Q.trio.oth (by omega)).mono ?_
  rintro e w6 ⟨S', rfl, O', T, ht⟩
  exact ⟨⟨_, rfl⟩, S', _, Q.trio.o_step O' T, Q.eq, Q.tot, Q.stamp, Q.all, by rw [ht]; exact Q.otot, Q.ostamp⟩

theorem Apart3.start {B p po : Nat} {w0 w1 w2 w3 : World} {S So : St} (O : Own B p w0 w1 S ⟨1000, 0, [], []⟩) (hp : S.pins = []) (ht : S.tot = 0) (hb12 : Below w1.heap.size w1 w2) (R : RefAt w2 w1.heap.size (.slice none 0 0) (.slice none 0 0) ⟨1000, 0, [], []⟩) (hb23 : Below w2.heap.size w2 w3) (Oo : Own B po w0 w3 So ⟨5, 0, [], []⟩) (hop : So.pins = []) (hot : So.tot = 0) (hge : ∀ b, (So.lab b).isSome → w2.heap.size ≤ b) :
    Apart3 B p w1.heap.size po w0 w3 0 0 0 (.slice none 0 0) (.slice none 0 0) S ⟨1000, 0, [], []⟩ ⟨1000, 0, [], []⟩ So ⟨5, 0, [], []⟩ := by
  have P := (Pair.start (O.fresh (n := 0) hp rfl) R hb12).later hb23
  have Oo' : OwnP B po w0 w3 So ⟨5, 0, [], []⟩ 0 := Oo.fresh (n := 0) hop rfl
  refine ⟨⟨P, Oo', fun b hb h => ?_, fun k hk h => ?_⟩, rfl, by omega, ⟨Int.le_refl _, Int.le_refl _⟩, rfl, by omega, Int.le_refl _⟩
  · have h1 := O.store.lt b hb
    have h2 := hge b h
    have h3 := hb12.size
    omega
  · have h1 := R.lt k hk
    have h2 := hge k h
    omega

/-- One pin more. -/
theorem ref_pin {w w6 : World} {q gg cap : Nat} {v pv : Value} {s : Sto} {t : Int} (R : RefAt w q v pv s)
    (hown6 : w6.ownsRow 0 3 1 (.slice (some ⟨gg, 0, none⟩) (s.p.length + 1) cap) (s.p.length + 1) (s.p.map (Value.int .i64) ++ [.int .i64 t]))
    (O6 : Only (fun b => pv.ownBlock = some b) w w6) (hat : pv.ownBlock = some gg ∨ w.heap.size ≤ gg) :
    RefAt (w6.setCell ⟨q, 3, none⟩ (.slice (some ⟨gg, 0, none⟩) (s.p.length + 1) cap)) q v (.slice (some ⟨gg, 0, none⟩) (s.p.length + 1) cap) { s with p := s.p ++ [t] } ∧
      Only (fun k => k = q ∨ pv.ownBlock = some k) w (w6.setCell ⟨q, 3, none⟩ (.slice (some ⟨gg, 0, none⟩) (s.p.length + 1) cap)) := by
  have hql := R.blk.lt
  have hgq : gg ≠ q := by
    rintro rfl
    rcases hat with h | h
    · exact R.qp h
    · omega
  have B6 : Blk w6 q #[.int .i64 s.all, .int .i64 s.stamp, v, pv] 42 := R.blk.of_block (O6.block q hql R.qp)
  have hv6 := row_thru R.rv (fun g hg => O6.block g (R.rv.lt g hg).2 (fun e => R.vp g hg e))
  have R7 := ownsRow_setCell_other hown6 (a := ⟨q, 3, none⟩) (by simpa [Value.ownBlock] using hgq) (.slice (some ⟨gg, 0, none⟩) (s.p.length + 1) cap)
  have P7 := ownsRow_setCell_other hv6 (a := ⟨q, 3, none⟩) (fun e => R.qv e) (.slice (some ⟨gg, 0, none⟩) (s.p.length + 1) cap)
  have e : (s.p ++ [t]).map (Value.int .i64) = s.p.map (Value.int .i64) ++ [.int .i64 t] := by rw [List.map_append]; rfl
  have hlen : (s.p ++ [t]).length = s.p.length + 1 := by simp
  refine ⟨⟨B6.set 3 _, P7, ?_, R.qv, ?_, ?_, R.few⟩, O6.os, O6.tape, O6.output, by simp [World.setCell]; exact O6.size, fun k hk hn => (Below.heap_setCell _ _ _ _ (fun e => hn (.inl e))).trans (O6.block k hk (fun e => hn (.inr e)))⟩
  · show World.ownsRow _ 0 _ 1 _ (s.p ++ [t]).length ((s.p ++ [t]).map (Value.int .i64))
    rw [hlen, e]
    exact R7
  · simpa [Value.ownBlock] using hgq
  · intro g hg e2
    simp [Value.ownBlock] at e2
    subst e2
    rcases hat with h | h
    · exact R.vp _ hg h
    · have := (R.rv.lt _ hg).2; omega

set_option maxHeartbeats 3200000 in
set_option maxRecDepth 20000 in
theorem rpin_any (q : Nat) (v pv : Value) (s : Sto) (w : World) (R : RefAt w q v pv s) (hf : s.p.length < 900000) :
    Calls Try.prog 17 #[.pointer (some ⟨q, 0, none⟩)] w fun e w' => e = .returned (.int .i64 s.stamp) ∧ ∃ pv', RefAt w' q v pv' (pinP s) ∧ Only (fun k => k = q ∨ pv.ownBlock = some k) w w' ∧ ∀ g, pv'.ownBlock = some g → pv.ownBlock = some g ∨ w.heap.size ≤ g := by
  have c1 := R.blk.cell (i := 1) (v := .int .i64 s.stamp) rfl
  have c3 := R.blk.cell (i := 3) (v := pv) rfl
  have f3 := R.blk.thawed 3
  have hql := R.blk.lt
  obtain ⟨ap, cp, hpv⟩ := own_slice R.rp
  have hrow : Hid (w.ownsRow 0 3 1 pv s.p.length (s.p.map (Value.int .i64))) := R.rp
  have HEND : Hid (∀ (w6 : World) (gg cap : Nat), w6.ownsRow 0 3 1 (.slice (some ⟨gg, 0, none⟩) (s.p.length + 1) cap) (s.p.length + 1) (s.p.map (Value.int .i64) ++ [.int .i64 s.stamp]) → (w.drew.alloc (.cells #[.int .i64 s.stamp] 3)).grownBy w6 pv.ownBlock → (pv.ownBlock = some gg ∨ gg = w.heap.size + 1) →
      w6.cell? ⟨q, 3, none⟩ = some pv ∧ w6.frozen? ⟨q, 3, none⟩ = false ∧ (w6.setCell ⟨q, 3, none⟩ (.slice (some ⟨gg, 0, none⟩) (s.p.length + 1) cap)).cell? ⟨q, 1, none⟩ = some (.int .i64 s.stamp) ∧ Hid (∃ pv', RefAt (w6.setCell ⟨q, 3, none⟩ (.slice (some ⟨gg, 0, none⟩) (s.p.length + 1) cap)) q v pv' (pinP s) ∧ Only (fun k => k = q ∨ pv.ownBlock = some k) w (w6.setCell ⟨q, 3, none⟩ (.slice (some ⟨gg, 0, none⟩) (s.p.length + 1) cap)) ∧ ∀ g, pv'.ownBlock = some g → pv.ownBlock = some g ∨ w.heap.size ≤ g)) := by
    intro w6 gg cap h1 h2 h3
    have b1 : Below w.heap.size w (w.drew.alloc (.cells #[.int .i64 s.stamp] 3)) := ((Below.refl _ _).drew).alloc (Nat.le_refl _) _
    have O6 : Only (fun b => pv.ownBlock = some b) w w6 := ⟨h2.os.trans b1.os, h2.tape.trans b1.tape, h2.output.trans b1.output, Nat.le_trans b1.size h2.size, fun k hk hn => (h2.block k (Nat.lt_of_lt_of_le hk b1.size) (fun e => hn e.symm)).trans (b1.block k hk)⟩
    have B6 := R.blk.of_block (O6.block q hql R.qp)
    obtain ⟨r1, r2⟩ := ref_pin (t := s.stamp) R h1 O6 (h3.imp id (fun h => by omega))
    refine ⟨B6.cell (i := 3) rfl, B6.thawed 3, r1.blk.cell (i := 1) rfl, _, r1, r2, fun g hg => ?_⟩
    simp [Value.ownBlock] at hg
    subst hg
    exact h3.imp id (fun h => by omega)
  obtain ⟨i0, ii0, iz0, iz2, iz3⟩ := info_parts info_int
  replace hf : Hid (s.p.length < 900000) := hf
  have hne : pv.ownBlock ≠ some q := R.qp
  clear R
  generalize s.p.length = ln at *
  subst hpv
  have hrow1 : w.drew.ownsRow 0 3 1 (.slice ap ln cp) ln (s.p.map (Value.int .i64)) := hrow.out.drew
  have c1d : w.drew.cell? ⟨q, 1, none⟩ = some (.int .i64 s.stamp) := c1
  have c3d : w.drew.cell? ⟨q, 3, none⟩ = some (.slice ap ln cp) := c3
  have f3d : w.drew.frozen? ⟨q, 3, none⟩ = false := f3
  go_enter Try.func17, Try.ntmps17
  go_wp2_with fail
  go_region_law
    (first
      | (refine step_append_lies _ (by rfl) _ _ _ (by rfl) 0 3 i0 _ 1 8 Try.underlying22 ii0 iz0 iz2 iz3 rfl (by omega) (.slice ap ln cp) ln (s.p.map (Value.int .i64)) (by rfl) (hrow1.alloc _)
          ⟨w.heap.size, 0, none⟩ 1 1 [.int .i64 s.stamp] (by rfl) (by rfl) (World.news_of_block (cs := #[.int .i64 s.stamp]) (t := 3) (fr := (0, 0)) (heap_alloc_new w.drew _)) (by simp [Value.oneCell']) (by omega) (by have := hf.out; unfold maxLen; omega) (by have := hf.out; omega) (Nat.zero_le _) (w.heap.size + 1) (by simp) ?_; intro gg cap w6 hown6 hgrow hat hlt6; obtain ⟨x6, th6, x7, RR⟩ := HEND.out w6 gg cap hown6 ⟨hgrow.os, hgrow.tape, hgrow.output, hgrow.size, hgrow.block⟩ hat))
  all_goals
    clear c1d c3d f3d c1 c3 f3 x6 th6 hown6 hgrow hrow1
    go_wp2_with fail
    go_ret
    exact ⟨rfl, RR.out⟩

/-- An append whose run is known, at a plain region's list. -/
theorem wpList_run {ops : Array Oper} {rest : List Oper} {o : Oper} {a : Act} {Q : Exit → Act → World → Prop} {w w' : World} (hgd : o.guard = none) (s x : Operand) (t : TypeId)
    (ho : o.op = .call { callee := .builtin .append, args := #[s, x], argTypes := #[t, t] }) (v u r : Value) (hs : a.eval s = v) (hx : a.eval x = u)
    (hrun : (Builtin.append_ #[t, t] o.type #[v, u]).run Try.prog w = .ok r w') (h : wpList Try.prog ops Q rest (a.put o.dst r) w') : wpList Try.prog ops Q (o :: rest) a w := by
  refine wpList_plain hgd fun K hK => ?_
  unfold Oper.wp execOp
  simp only [ho, resolve, invoke, builtin, Sem.run_bind, Sem.run_pure, Result.andThen_ok, List.map_toArray, List.map_cons, List.map_nil, hs, hx, hrun]
  exact hK _ _ h

theorem own_ints {w : World} {v : Value} {l : List Int} (h : w.ownsRow 0 3 1 v l.length (l.map (Value.int .i64))) : ∃ a c, v = .slice a l.length c ∧ ∀ j x, l[j]? = some x → ∃ g, a = some ⟨g, 0, none⟩ ∧ w.cell? ⟨g, j, none⟩ = some (.int .i64 x) := by
  obtain ⟨a, c, rfl⟩ := own_slice h
  refine ⟨a, c, rfl, fun j x hx => ?_⟩
  have hj := (List.getElem?_eq_some_iff.1 hx).1
  obtain ⟨g, cap, hvv, -, -⟩ := h.form (by omega)
  injection hvv with e1 e2 e3
  subst e1
  have b := h.cells (g := g) rfl _ _ (show (l.map (Value.int .i64))[j]? = some (.int .i64 x) by rw [List.getElem?_map, hx]; rfl)
  rw [cell_add, Nat.zero_add] at b
  exact ⟨g, rfl, b⟩

def lowI (s : Sto) (i : Nat) : Int := (s.p.take i).foldl min s.stamp
theorem lowI_step {s : Sto} {i : Nat} {x : Int} (hx : s.p[i]? = some x) : lowI s (i + 1) = min (lowI s i) x := by
  unfold lowI
  rw [List.take_add_one, hx, List.foldl_append]
  rfl
theorem lowI_all (s : Sto) : lowI s s.p.length = lowP s := by unfold lowI lowP; rw [List.take_length]

/-- What is kept, laid in the place of what was. -/
theorem RefAt.kept {w w' : World} {q : Nat} {v pv u : Value} {s : Sto} {l : List Ver} (R : RefAt w q v pv s) (hb : Below w.heap.size w w') (U : w'.ownsRow w.heap.size 66 4 u l.length (encR l)) (hl : l.length ≤ s.v.length) : RefAt (w'.setCell ⟨q, 2, none⟩ u) q u pv { s with v := l } := by
  have R' := R.later hb
  have hql := R.blk.lt
  have huq : u.ownBlock ≠ some q := fun e => by have := (U.lt q e).1; omega
  refine ⟨R'.blk.set 2 u, own_base (ownsRow_setCell_other U (a := ⟨q, 2, none⟩) (fun e => huq e) u) (Nat.zero_le _), ownsRow_setCell_other R'.rp (a := ⟨q, 2, none⟩) (fun e => R.qp e) u, huq, R.qp, fun g hg e => ?_, ?_⟩
  · have h1 := (U.lt g hg).1
    have h2 := (R.rp.lt g e).2
    omega
  · have := R.few
    show l.length < 1000000
    omega

theorem keep_more {wz wr : World} {u : Value} {n : Nat} {xs : List Value} (hb : Below wz.heap.size wz wr) (hrow : wr.ownsRow wz.heap.size 66 4 u n xs) (hn : n < 900000) (x : Ver) :
    ∃ g c w6, (Builtin.append_ #[40, 40] 40 #[u, .slice (some ⟨wr.heap.size + 1, 0, none⟩) 1 1]).run Try.prog ((wr.alloc (.cells #[.string x.w.key, .string x.w.val, .bool x.w.gone, .int .i64 x.at'] 66)).alloc (.cells #[.string x.w.key, .string x.w.val, .bool x.w.gone, .int .i64 x.at'] 66)) = .ok (.slice (some ⟨g, 0, none⟩) (n + 1) c) w6 ∧
      w6.ownsRow wz.heap.size 66 4 (.slice (some ⟨g, 0, none⟩) (n + 1) c) (n + 1) (xs ++ [.string x.w.key, .string x.w.val, .bool x.w.gone, .int .i64 x.at']) ∧ Below wz.heap.size wz w6 := by
  obtain ⟨i1, a1, a2, a3, a4⟩ := info_parts info_rver
  have hs1 : (wr.alloc (.cells #[.string x.w.key, .string x.w.val, .bool x.w.gone, .int .i64 x.at'] 66)).heap.size = wr.heap.size + 1 := by simp
  have hB2 : Below wz.heap.size wz ((wr.alloc (.cells #[.string x.w.key, .string x.w.val, .bool x.w.gone, .int .i64 x.at'] 66)).alloc (.cells #[.string x.w.key, .string x.w.val, .bool x.w.gone, .int .i64 x.at'] 66)) := (hb.alloc hb.size _).alloc (by have := hb.size; simp; omega) _
  have hN := World.news_of_block (cs := #[.string x.w.key, .string x.w.val, .bool x.w.gone, .int .i64 x.at']) (t := 66) (fr := (0, 0)) (heap_alloc_new (wr.alloc (.cells #[.string x.w.key, .string x.w.val, .bool x.w.gone, .int .i64 x.at'] 66)) (.cells #[.string x.w.key, .string x.w.val, .bool x.w.gone, .int .i64 x.at'] 66))
  rw [hs1] at hN
  obtain ⟨g, c, w6, r1, R1, G1, o1, l1⟩ := run_append_lies (P := Try.prog) _ 40 40 wz.heap.size 66 i1 _ 4 48 Try.underlying40 a1 a2 a3 a4 rfl (by decide) u n xs ((hrow.alloc _).alloc (.cells #[.string x.w.key, .string x.w.val, .bool x.w.gone, .int .i64 x.at'] 66)) ⟨wr.heap.size + 1, 0, none⟩ 1 1 [.string x.w.key, .string x.w.val, .bool x.w.gone, .int .i64 x.at'] rfl hN (by simp [Value.oneCell']) Nat.one_pos (by unfold maxLen; omega) (by omega) hB2.size _ rfl
  exact ⟨g, c, w6, r1, R1, hB2.grown G1 hB2.size (fun k hk => (hrow.lt k hk).1)⟩

theorem keepI_len (low : Int) (l : List Ver) : ∀ i, (keepI low l i).length ≤ i
  | 0 => Nat.le_refl _
  | i + 1 => by
    have ih := keepI_len low l i
    cases hx : l[i]? with
    | none =>
      have e : keepI low l (i + 1) = keepI low l i ++ (match l[i]? with | some x => if stays low l i x then [x] else [] | none => []) := rfl
      rw [e, hx, List.append_nil]
      omega
    | some x =>
      rw [keepI_step hx, List.length_append]
      split
      · simp; omega
      · simp; omega

set_option maxHeartbeats 3200000 in
set_option maxRecDepth 20000 in
theorem rclean_any (q : Nat) (v pv : Value) (s : Sto) (w : World) (R : RefAt w q v pv s) (hf : s.v.length < 900000) (hpf : s.p.length < 900000) :
    Calls Try.prog 22 #[.pointer (some ⟨q, 0, none⟩)] w fun e w' => e = .returned (.int .i64 (cleanP s).2) ∧ ∃ v', RefAt w' q v' pv (cleanP s).1 ∧ Only (fun k => k = q) w w' ∧ ∀ g, v'.ownBlock = some g → w.heap.size ≤ g := by
  have c1 := R.blk.cell (i := 1) (v := .int .i64 s.stamp) rfl
  have c3 := R.blk.cell (i := 3) (v := pv) rfl
  obtain ⟨ap, cp, hpv, hpc⟩ := own_ints R.rp
  replace hpc : Hid _ := hpc
  have HR : Hid (RefAt w q v pv s) := R
  have hql := R.blk.lt
  clear R
  have hcl : Hid (cleanP s = ({ s with v := keepP (lowP s) s.v }, (s.v.length : Int) - ((keepP (lowP s) s.v).length : Int))) := rfl
  have hla : Hid (lowI s s.p.length = lowP s) := lowI_all s
  generalize hpl : s.p.length = pl at *
  replace hpl : Hid (s.p.length = pl) := hpl
  replace hf : Hid (s.v.length < 900000) := hf
  replace hpf : Hid (pl < 900000) := hpf
  rw [hpv] at c3
  go_enter Try.func22, Try.ntmps22
  go_wp2_with fail
  go_loopg [3, 4] pl (fun kx s3 s4 wr => ∃ i : Nat, s4 = .int .i64 i ∧ s3 = .int .i64 (lowI s i) ∧ i ≤ pl ∧ pl - i ≤ kx ∧ Hid (wr = w))
  case atStart => exact ⟨0, rfl, rfl, Nat.zero_le _, by omega, (rfl : w = w)⟩
  case round =>
    obtain ⟨i, rfl, rfl, hi, hg, hw⟩ := hrel
    obtain rfl := hw.out
    clear hw
    by_cases hin : i < pl
    · have hinI : (i : Int) < (pl : Int) := by omega
      have hi0 : (0 : Int) ≤ (i : Int) := by omega
      obtain ⟨x, hx⟩ : ∃ x, s.p[i]? = some x := ⟨_, List.getElem?_eq_getElem (by rw [hpl.out]; exact hin)⟩
      obtain ⟨g, rfl, d0⟩ := hpc.out i x hx
      have hst : Hid (lowI s (i + 1) = min (lowI s i) x) := lowI_step hx
      have HF : Hid (i < pl ∧ pl - i ≤ gk ∧ i < 900000) := ⟨hin, hg, by have := hpf.out; omega⟩
      clear hi hg hin hpc hx
      go_wp2_with fail
      obtain ⟨f1, f2, f3⟩ := HF.out
      clear d0
      go_roundg (pl - (i + 1))
      case rel => exact ⟨i + 1, by first | rfl | (rw [IntWalk.wrap64_in _ (by omega)]; rfl), by rw [hst.out], by omega, Nat.le_refl _, (rfl : wr = wr)⟩
      case measure => omega
    · obtain rfl : i = pl := by omega
      obtain ⟨low, hlow⟩ : ∃ low, lowP s = low := ⟨_, rfl⟩
      have hlo : lowI s i = low := hla.out.trans hlow
      rw [hlow] at hcl
      rw [hlo]
      clear hla hlo hlow hpc hpf hpl hi hg
      have hQ : Hid (Below wr.heap.size wr wr ∧ wr.ownsRow wr.heap.size 66 4 (.slice none 0 0) (keepI low s.v 0).length (encR (keepI low s.v 0))) := ⟨Below.refl _ _, World.ownsRow_nil _ _ _ _⟩
      have hkall : Hid (keepI low s.v s.v.length = keepP low s.v) := keepI_all low s.v
      have hinI : ¬ ((i : Int) < (i : Int)) := by omega
      clear hin
      obtain ⟨ii, jj0, jz0, jz2, jz3⟩ := info_parts info_rver
      have c2w := HR.out.blk.cell (i := 2) (v := v) rfl
      obtain ⟨av, cv, hv, hvc⟩ := own_vers HR.out.rv
      replace hvc : Hid _ := hvc
      rw [hv] at c2w
      replace hv : Hid (v = .slice av s.v.length cv) := hv
      generalize hl : s.v = l at *
      replace hl : Hid (s.v = l) := hl
      generalize hvl : l.length = vl at *
      replace hvl : Hid (l.length = vl) := hvl
      go_wp2_with fail
      generalize hwz : wr = wz at *
      replace hwz : Hid (wr = wz) := hwz
      go_loopg [5, 6] vl (fun kx s5 s6 w2 => ∃ j : Nat, s6 = .int .i64 j ∧ j ≤ vl ∧ vl - j ≤ kx ∧ Hid (Below wz.heap.size wz w2 ∧ w2.ownsRow wz.heap.size 66 4 s5 (keepI low l j).length (encR (keepI low l j))))
      case atStart => exact ⟨0, rfl, Nat.zero_le _, by omega, hQ⟩
      case round =>
        clear hQ
        obtain ⟨j, rfl, hj, hgj, Q⟩ := hrel
        by_cases hjl : j < vl
        · have hjI : (j : Int) < (vl : Int) := by omega
          have hj0 : (0 : Int) ≤ (j : Int) := by omega
          obtain ⟨x, hx⟩ : ∃ x, l[j]? = some x := ⟨_, List.getElem?_eq_getElem (by rw [hvl.out]; exact hjl)⟩
          obtain ⟨g, rfl, d0, d1, d2, d3⟩ := hvc.out j x hx
          have hb := Q.out.1
          replace c2w := kept_cell hb c2w
          replace d0 := kept_cell hb d0
          replace d1 := kept_cell hb d1
          replace d2 := kept_cell hb d2
          replace d3 := kept_cell hb d3
          have NW := rnewest_any q v pv s x.w.key low (wr.alloc (.cells #[.string x.w.key, .string x.w.val, .bool x.w.gone, .int .i64 x.at'] 66)) (HR.out.later (hb.alloc hb.size _))
          rw [hl.out, hvl.out] at NW
          have HF : Hid (j < vl ∧ vl - j ≤ gk ∧ j < 900000) := ⟨hjl, hgj, by have := hf.out; omega⟩
          have hbb : bestP x.w.key low l l.length = bestP x.w.key low l vl := by rw [hvl.out]
          clear hb hj hgj hjl hkall hcl hvc
          by_cases hlt : low < x.at'
          · have h900 := HF.out.2.2
            clear NW
            have hkp0 : keepI low l (j + 1) = keepI low l j ++ [x] := by
              have : stays low l j x = true := by simp [stays, hlt]
              rw [keepI_step hx, if_pos this]
            have hkp : Hid (keepI low l (j + 1) = keepI low l j ++ [x]) := hkp0
            clear hkp0
            obtain ⟨g6, c6, w6, r6, R6, b6⟩ := keep_more Q.out.1 Q.out.2 (by have := keepI_len low l j; omega) x
            have Q6 : Hid (Below wz.heap.size wz w6 ∧ w6.ownsRow wz.heap.size 66 4 (.slice (some ⟨g6, 0, none⟩) ((keepI low l j).length + 1) c6) (keepI low l (j + 1)).length (encR (keepI low l (j + 1)))) := by
              rw [hkp.out, encR_append, List.length_append]
              exact ⟨b6, R6⟩
            clear R6 b6 Q hkp hx
            clear h900 hbb
            go_wp2_with (at_builtin; refine wpList_run (by rfl) _ _ _ (by rfl) _ _ _ (by rfl) (by rfl) r6 ?_)
            clear r6
            obtain ⟨f1, f2, f3⟩ := HF.out
            go_wp2_with fail
            go_roundg (vl - (j + 1))
            case rel => exact ⟨j + 1, by first | rfl | (rw [IntWalk.wrap64_in _ (by omega)]; rfl), by omega, Nat.le_refl _, Q6⟩
            case measure => omega
          · obtain ⟨bb, hbbv⟩ : ∃ bb, bestP x.w.key low l vl = bb := ⟨_, rfl⟩
            rw [hbbv] at NW hbb
            by_cases hbj : bb = (j : Int)
            · cases hg : x.w.gone with
              | false =>
                have h900 := HF.out.2.2
                have hxg : Hid (x.w.gone = false) := hg
                have hkp0 : keepI low l (j + 1) = keepI low l j ++ [x] := by
                  have : stays low l j x = true := by simp [stays, hlt, hbb, hbj, hg]
                  rw [keepI_step hx, if_pos this]
                have hkp : Hid (keepI low l (j + 1) = keepI low l j ++ [x]) := hkp0
                clear hkp0
                obtain ⟨g6, c6, w6, r6, R6, b6⟩ := keep_more Q.out.1 Q.out.2 (by have := keepI_len low l j; omega) x
                have Q6 : Hid (Below wz.heap.size wz w6 ∧ w6.ownsRow wz.heap.size 66 4 (.slice (some ⟨g6, 0, none⟩) ((keepI low l j).length + 1) c6) (keepI low l (j + 1)).length (encR (keepI low l (j + 1)))) := by
                  rw [hkp.out, encR_append, List.length_append]
                  exact ⟨b6, R6⟩
                clear R6 b6 Q hkp hx
                clear h900 hbb hbbv
                have hbq : (bb == (j : Int)) = true := by simp [hbj]
                clear hbj
                rw [hg] at d2 NW r6
                clear hg
                go_wp2_with fail
                refine NW.mono ?_
                rintro e w5 ⟨rfl, rfl⟩
                clear NW
                go_wp2_with (at_builtin; refine wpList_run (by rfl) _ _ _ (by rfl) _ _ _ (by rfl) (by rfl) r6 ?_)
                clear r6
                obtain ⟨f1, f2, f3⟩ := HF.out
                go_wp2_with fail
                go_roundg (vl - (j + 1))
                case rel => exact ⟨j + 1, by first | rfl | (rw [IntWalk.wrap64_in _ (by omega)]; rfl), by omega, Nat.le_refl _, Q6⟩
                case measure => omega
              | true =>
                have hkp : keepI low l (j + 1) = keepI low l j := by
                  have : stays low l j x = false := by simp [stays, hlt, hg]
                  rw [keepI_step hx, if_neg (by rw [this]; decide), List.append_nil]
                have Q6 : Hid (Below wz.heap.size wz (wr.alloc (.cells #[.string x.w.key, .string x.w.val, .bool x.w.gone, .int .i64 x.at'] 66)) ∧ (wr.alloc (.cells #[.string x.w.key, .string x.w.val, .bool x.w.gone, .int .i64 x.at'] 66)).ownsRow wz.heap.size 66 4 u5 (keepI low l (j + 1)).length (encR (keepI low l (j + 1)))) := by
                  rw [hkp]
                  exact ⟨Q.out.1.alloc Q.out.1.size _, Q.out.2.alloc _⟩
                clear Q hkp hx
                clear hbb hbbv
                have hbq : (bb == (j : Int)) = true := by simp [hbj]
                clear hbj
                rw [hg] at d2 NW Q6
                clear hg
                go_wp2_with fail
                refine NW.mono ?_
                rintro e w5 ⟨rfl, rfl⟩
                clear NW
                obtain ⟨f1, f2, f3⟩ := HF.out
                go_wp2_with fail
                go_roundg (vl - (j + 1))
                case rel => exact ⟨j + 1, by first | rfl | (rw [IntWalk.wrap64_in _ (by omega)]; rfl), by omega, Nat.le_refl _, Q6⟩
                case measure => omega
            · have h900 := HF.out.2.2
              have hkp : keepI low l (j + 1) = keepI low l j := by
                have : stays low l j x = false := by simp [stays, hlt, hbb, hbj]
                rw [keepI_step hx, if_neg (by rw [this]; decide), List.append_nil]
              have Q6 : Hid (Below wz.heap.size wz (wr.alloc (.cells #[.string x.w.key, .string x.w.val, .bool x.w.gone, .int .i64 x.at'] 66)) ∧ (wr.alloc (.cells #[.string x.w.key, .string x.w.val, .bool x.w.gone, .int .i64 x.at'] 66)).ownsRow wz.heap.size 66 4 u5 (keepI low l (j + 1)).length (encR (keepI low l (j + 1)))) := by
                rw [hkp]
                exact ⟨Q.out.1.alloc Q.out.1.size _, Q.out.2.alloc _⟩
              clear Q hkp hx
              clear hbb hbbv
              have hbq : (bb == (j : Int)) = false := by simp [hbj]
              clear hbj h900
              go_wp2_with fail
              refine NW.mono ?_
              rintro e w5 ⟨rfl, rfl⟩
              clear NW
              obtain ⟨f1, f2, f3⟩ := HF.out
              go_wp2_with fail
              go_roundg (vl - (j + 1))
              case rel => exact ⟨j + 1, by first | rfl | (rw [IntWalk.wrap64_in _ (by omega)]; rfl), by omega, Nat.le_refl _, Q6⟩
              case measure => omega
        · obtain rfl : j = vl := by omega
          obtain ⟨hb, hrow⟩ := Q.out
          rw [hkall.out] at hrow
          obtain ⟨au, cu, hu⟩ := own_slice hrow
          have hkl := keepP_len low l
          rw [hvl.out] at hkl
          have hfu := HR.out.blk
          have hlt2q : q < wz.heap.size := HR.out.blk.lt
          have R9 := HR.out.kept hb hrow (by rw [hl.out, hvl.out]; exact hkl)
          have hO : Only (fun k => k = q) wz (wr.setCell ⟨q, 2, none⟩ u5) := ⟨hb.os, hb.tape, hb.output, by simp [World.setCell]; exact hb.size, fun k h1 h2 => (Below.heap_setCell _ _ _ _ h2).trans (hb.block k h1)⟩
          have HE : Hid (∃ v', RefAt (wr.setCell ⟨q, 2, none⟩ u5) q v' pv { s with v := keepP low l } ∧ Only (fun k => k = q) wz (wr.setCell ⟨q, 2, none⟩ u5) ∧ ∀ g, v'.ownBlock = some g → wz.heap.size ≤ g) := ⟨u5, R9, hO, fun g hg => (hrow.lt g hg).1⟩
          have c2x : wr.cell? ⟨q, 2, none⟩ = some (.slice av j cv) := kept_cell hb c2w
          have f2x : wr.frozen? ⟨q, 2, none⟩ = false := (hfu.of_block (hb.block q hlt2q)).thawed 2
          have hsub : wrap64 ((j : Int) - ((keepP low l).length : Int)) = (j : Int) - ((keepP low l).length : Int) := IntWalk.wrap64_in _ (by have := hf.out; omega)
          subst hu
          have hc1 : Hid ((cleanP s).1 = { s with v := keepP low l } ∧ (cleanP s).2 = (j : Int) - ((keepP low l).length : Int)) := by rw [hcl.out]; exact ⟨rfl, rfl⟩
          have hjj : ¬ ((j : Int) < (j : Int)) := by omega
          clear Q hb hrow R9 hO hfu hlt2q hj hgj hjl hkall hcl hvc hkl c2w
          generalize (keepP low l).length = kl at *
          go_wp2_with fail
          go_ret
          rw [hc1.out.1, hc1.out.2]
          have HE2 := HE.out
          rw [← hwz.out, hpv] at HE2
          exact ⟨rfl, HE2⟩

theorem keep_twice {low : Int} : ∀ l : List Ver, keepP low (keepP low l) = keepP low l
  | [] => rfl
  | x :: l => by
    have ih := keep_twice (low := low) l
    rw [keepP_cons]
    by_cases hc : low < x.at' ∨ (lastP x.w.key low l = none ∧ x.w.gone = false)
    · rw [if_pos hc, keepP_cons, if_pos, ih]
      refine hc.imp id (fun h => ⟨?_, h.2⟩)
      cases hl : lastP x.w.key low (keepP low l) with
      | none => rfl
      | some y =>
        obtain ⟨hm, hh⟩ := lastP_some hl
        have := lastP_none h.1 y (keepP_mem hm)
        rw [hh] at this
        cases this
    · rw [if_neg hc, ih]

theorem clean_twice (s : Sto) : cleanP (cleanP s).1 = ((cleanP s).1, 0) := by
  have hl : lowP (cleanP s).1 = lowP s := rfl
  have e : cleanP (cleanP s).1 = ({ (cleanP s).1 with v := keepP (lowP (cleanP s).1) (cleanP s).1.v }, ((cleanP s).1.v.length : Int) - ((keepP (lowP (cleanP s).1) (cleanP s).1.v).length : Int)) := rfl
  have e2 : (cleanP s).1.v = keepP (lowP s) s.v := rfl
  rw [e, hl, e2, keep_twice, Int.sub_self]
  rfl

structure Both (B p q : Nat) (w0 w : World) (i : Nat) (al : Int) (v pv : Value) (S : St) (s x : Sto) : Prop where
  pair : Pair B p q i w0 w S s v pv x
  eq : x = s
  tot : S.tot ≤ 3 * i
  stamp : 0 ≤ s.stamp ∧ s.stamp ≤ i
  all : s.all = al
  le : 0 ≤ al ∧ al ≤ 1000

theorem Both.later {B p q : Nat} {w0 w w' : World} {i : Nat} {al : Int} {v pv : Value} {S : St} {s x : Sto} (Q : Both B p q w0 w i al v pv S s x) (hb : Below w.heap.size w w') : Both B p q w0 w' i al v pv S s x := { Q with pair := Q.pair.later hb }

theorem OwnP.upto {B p n m : Nat} {w0 w : World} {S : St} {s : Sto} {v pv : Value} {x : Sto} {q : Nat} (P : Pair B p q n w0 w S s v pv x) (h : n ≤ m) : Pair B p q m w0 w S s v pv x := ⟨P.own.more h, P.ref, P.far⟩

theorem Both.up {B p q : Nat} {w0 w : World} {i : Nat} {al : Int} {v pv : Value} {S : St} {s x : Sto} (Q : Both B p q w0 w i al v pv S s x) : Both B p q w0 w (i + 1) al v pv S s x :=
  ⟨OwnP.upto Q.pair (Nat.le_succ i), Q.eq, by have := Q.tot; omega, by have := Q.stamp; omega, Q.all, Q.le⟩

theorem Both.commit {B p q : Nat} {w0 w4 w5 : World} {i m : Nat} {al : Int} {v pv : Value} {S : St} {s x : Sto} (Q : Both B p q w0 w4 i al v pv S s x) (hi : i ≤ 200) (hb5 : Below w4.heap.size w4 w5) {a b : Value} (ha : w5.ownsRow w4.heap.size 54 3 a (writesP m).length (wrsCells (writesP m))) (hb : w5.ownsRow w4.heap.size 63 3 b (writesP m).length (wrsCells (writesP m))) :
    ∃ r1 r2 : Int, Calls Try.prog 14 #[.pointer (some ⟨p, 0, none⟩), a] w5 fun e w' => e = .returned (.tuple #[.int .i64 r1, .int .i64 r2]) ∧ Calls Try.prog 15 #[.pointer (some ⟨q, 0, none⟩), b] w' fun e w' => e = .returned (.tuple #[.int .i64 r1, .int .i64 r2]) ∧ ∃ (v' : Value) (S' : St) (s' x' : Sto), Both B p q w0 w' (i + 1) al v' pv S' s' x' := by
  have h1 := Q.tot
  have h2 := Q.stamp
  have h3 := Q.all
  have h4 := Q.le
  have Q5 := Q.later hb5
  obtain ⟨ab, cb, rfl, WA, hab⟩ := wr_own hb
  refine ⟨(commitP s (writesP m)).2.1, (commitP s (writesP m)).2.2, (commit_row Q.pair.own hb5 ha (by omega) (by omega)).mono ?_⟩
  rintro e w6 ⟨S', rfl, O', T, ht⟩
  refine ⟨rfl, ?_⟩
  have Q6 := Q5.pair.step O' T
  have hbl : ∀ g o, ab = some ⟨g, o, none⟩ → w4.heap.size ≤ g ∧ g < w5.heap.size := fun g o e => hb.lt g (hab g o e)
  have hgl : ∀ g o, ab = some ⟨g, o, none⟩ → w6.heap[g]? = w5.heap[g]? := fun g o e => T.only.block g (hbl g o e).2 (fun h => by have := Q.pair.own.own.store.lt g h; have := (hbl g o e).1; omega)
  have W6 : WrAt w6 ab (writesP m) := fun j y hy => by
    obtain ⟨g, e, hl, k0, k1, k2⟩ := WA j y hy
    have hh := hgl g 0 e
    refine ⟨g, e, Nat.lt_of_lt_of_le hl T.only.size, ?_, ?_, ?_⟩
    · rw [cell_of_block (a := ⟨g, j * 3, none⟩) hh]; exact k0
    · rw [cell_of_block (a := ⟨g, j * 3 + 1, none⟩) hh]; exact k1
    · rw [cell_of_block (a := ⟨g, j * 3 + 2, none⟩) hh]; exact k2
  have hvl : x.v.length ≤ S.tot := by rw [Q.eq]; exact Q.pair.own.own.abs.tot
  have hl := writes_len m
  refine (rcommit_any q v pv x ab cb (writesP m) w6 Q6.ref W6 (fun g o e => ?_) (by omega) (by rw [Q.eq]; omega)).mono ?_
  · have hg := (hbl g o e).1
    have hF : ¬ Foot q v pv g := fun h => by have := Q.pair.ref.lt g h; omega
    exact ⟨fun h => hF (.inl h), fun h => hF (.inr (.inl h))⟩
  · rintro e w' ⟨rfl, v', r1, r2, r3⟩
    obtain ⟨c1, c2, c3⟩ := commit_facts s (writesP m)
    have OF : Only (Foot q v pv) w6 w' := r2.mono (fun k _ e => e.elim .inl (fun e => .inr (.inl e)))
    exact ⟨by rw [Q.eq], v', S', _, _, OwnP.upto (Q6.told r1 OF (fun g hg => (r3 g hg).imp (fun e => .inr (.inl e)) id) (fun g hg => .inl (.inr (.inr hg)))) (Nat.le_succ i), by rw [Q.eq], by omega, by omega, c3.trans h3, h4⟩

theorem Both.pin {B p q : Nat} {w0 w : World} {i : Nat} {al : Int} {v pv : Value} {S : St} {s x : Sto} (Q : Both B p q w0 w i al v pv S s x) (hi : i ≤ 100) :
    ∃ st : Int, Calls Try.prog 16 #[.pointer (some ⟨p, 0, none⟩)] w fun e w' => e = .returned (.int .i64 st) ∧ Calls Try.prog 17 #[.pointer (some ⟨q, 0, none⟩)] w' fun e w' => e = .returned (.int .i64 st) ∧ ∃ (pv' : Value) (S' : St) (s' x' : Sto), Both B p q w0 w' (i + 1) al v pv' S' s' x' := by
  refine ⟨s.stamp, (pin_own Q.pair.own (by omega)).mono ?_⟩
  rintro e w6 ⟨S', rfl, O', T, ht⟩
  refine ⟨rfl, ?_⟩
  have Q6 := Q.pair.step O' T
  have hpl : x.p.length ≤ i := by rw [Q.eq]; exact Q.pair.own.few.2
  refine (rpin_any q v pv x w6 Q6.ref (by omega)).mono ?_
  rintro e w' ⟨rfl, pv', r1, r2, r3⟩
  have OF : Only (Foot q v pv) w6 w' := r2.mono (fun k _ e => e.elim .inl (fun e => .inr (.inr e)))
  exact ⟨by rw [Q.eq], pv', S', _, _, Q6.told r1 OF (fun g hg => .inl (.inr (.inl hg))) (fun g hg => (r3 g hg).imp (fun e => .inr (.inr e)) id), by rw [Q.eq], by rw [ht]; have := Q.tot; omega, by have := Q.stamp; exact ⟨this.1, by show s.stamp ≤ ((i + 1 : Nat) : Int); omega⟩, Q.all, Q.le⟩

theorem Both.clean {B p q : Nat} {w0 w : World} {i : Nat} {al : Int} {v pv : Value} {S : St} {s x : Sto} (Q : Both B p q w0 w i al v pv S s x) (hi : i ≤ 100) :
    ∃ c : Int, Calls Try.prog 21 #[.pointer (some ⟨p, 0, none⟩)] w fun e w' => e = .returned (.int .i64 c) ∧ Calls Try.prog 22 #[.pointer (some ⟨q, 0, none⟩)] w' fun e w' => e = .returned (.int .i64 c) ∧ ∃ (v' : Value) (S' : St), Both B p q w0 w' i al v' pv S' (cleanP s).1 (cleanP s).1 := by
  refine ⟨(cleanP s).2, (clean_own Q.pair.own).mono ?_⟩
  rintro e w6 ⟨S', rfl, O', T, ht⟩
  refine ⟨rfl, ?_⟩
  have Q6 := Q.pair.step O' T
  have hpl : x.p.length ≤ i := by rw [Q.eq]; exact Q.pair.own.few.2
  have hvl : x.v.length ≤ S.tot := by rw [Q.eq]; exact Q.pair.own.own.abs.tot
  have h1 := Q.tot
  refine (rclean_any q v pv x w6 Q6.ref (by omega) (by omega)).mono ?_
  rintro e w' ⟨rfl, v', r1, r2, r3⟩
  have OF : Only (Foot q v pv) w6 w' := r2.mono (fun k _ e => .inl e)
  have P := Q6.told r1 OF (fun g hg => .inr (r3 g hg)) (fun g hg => .inl (.inr (.inr hg)))
  rw [Q.eq] at P ⊢
  exact ⟨rfl, v', S', P, rfl, by rw [ht]; exact h1, Q.stamp, Q.all, Q.le⟩

/-- Cleaned once more: nothing goes. -/
theorem Both.again {B p q : Nat} {w0 w : World} {i : Nat} {al : Int} {v pv : Value} {S : St} {s : Sto} (Q : Both B p q w0 w i al v pv S (cleanP s).1 (cleanP s).1) :
    Calls Try.prog 21 #[.pointer (some ⟨p, 0, none⟩)] w fun e w' => e = .returned (.int .i64 0) ∧ ∃ S', Both B p q w0 w' i al v pv S' (cleanP s).1 (cleanP s).1 := by
  refine (clean_own Q.pair.own).mono ?_
  rintro e w6 ⟨S', rfl, O', T, ht⟩
  rw [clean_twice] at O' ⊢
  exact ⟨rfl, S', Q.pair.step O' T, rfl, by rw [ht]; exact Q.tot, Q.stamp, Q.all, Q.le⟩

theorem Both.same {B p q : Nat} {w0 w : World} {i : Nat} {al : Int} {v pv : Value} {S : St} {s x : Sto} (Q : Both B p q w0 w i al v pv S s x) (hi : i ≤ 100) (low : Int) :
    Calls Try.prog 23 #[.pointer (some ⟨p, 0, none⟩), .pointer (some ⟨q, 0, none⟩), .int .i64 low] w fun e w' => e = .returned (.bool true) ∧ Both B p q w0 w' i al v pv S s x := by
  have hP := Q.pair
  rw [Q.eq] at hP
  exact (same_any low w hP (by have := Q.stamp; omega)).mono fun e w' h => ⟨h.1, Q.later h.2⟩

theorem Both.start {B p : Nat} {w0 w1 w2 : World} {S : St} {al : Int} (O : Own B p w0 w1 S ⟨al, 0, [], []⟩) (hp : S.pins = []) (ht : S.tot = 0) (hb12 : Below w1.heap.size w1 w2) (R : RefAt w2 w1.heap.size (.slice none 0 0) (.slice none 0 0) ⟨al, 0, [], []⟩) (hal : 0 ≤ al ∧ al ≤ 1000) :
    Both B p w1.heap.size w0 w2 0 al (.slice none 0 0) (.slice none 0 0) S ⟨al, 0, [], []⟩ ⟨al, 0, [], []⟩ :=
  ⟨Pair.start (O.fresh (n := 0) hp rfl) R hb12, rfl, by omega, ⟨Int.le_refl _, Int.le_refl _⟩, rfl, hal⟩

theorem Both.below {B p q : Nat} {w0 w : World} {i : Nat} {al : Int} {v pv : Value} {S : St} {s x : Sto} (Q : Both B p q w0 w i al v pv S s x) : Below B w0 w := Q.pair.own.own.below

theorem erase_first : ∀ (l : List Int) (i : Nat) (t : Int), l[i]? = some t → (∀ j, j < i → l[j]? ≠ some t) → l.erase t = l.take i ++ l.drop (i + 1)
  | [], i, t, h, _ => by simp at h
  | y :: l, 0, t, h, _ => by simp at h; subst h; simp
  | y :: l, i + 1, t, h, hn => by
    have hy : y ≠ t := fun e => hn 0 (by omega) (by simp [e])
    rw [List.erase_cons_tail (by simpa using hy), erase_first l i t (by simpa using h) (fun j hj => by have := hn (j + 1) (by omega); simpa using this)]
    simp

/-- The two appends that leave one pin out. -/
theorem unpin_runs {w : World} {q g cp i : Nat} {v : Value} {s : Sto} {t : Int} (R : RefAt w q v (.slice (some ⟨g, 0, none⟩) s.p.length cp) s) (hi : s.p[i]? = some t) (hn : ∀ j, j < i → s.p[j]? ≠ some t) (hf : s.p.length < 900000) :
    ∃ (v1 v2 : Value) (w2 w3 : World), (Builtin.append_ #[22, 22] 22 #[.slice (some ⟨w.heap.size, 0, none⟩) 0 0, .slice (some ⟨g, 0, none⟩) i cp]).run Try.prog (w.drew.alloc (.cells #[] 3)) = .ok v1 w2 ∧
      (Builtin.append_ #[22, 22] 22 #[v1, .slice (if cp = i + 1 then some ⟨g, 0, none⟩ else some ⟨g, i + 1, none⟩) (s.p.length - (i + 1)) (cp - (i + 1))]).run Try.prog w2 = .ok v2 w3 ∧
      w2.cell? ⟨q, 3, none⟩ = some (.slice (some ⟨g, 0, none⟩) s.p.length cp) ∧ w3.cell? ⟨q, 3, none⟩ = some (.slice (some ⟨g, 0, none⟩) s.p.length cp) ∧ w3.frozen? ⟨q, 3, none⟩ = false ∧ (∃ a n c, v2 = .slice a n c) ∧
      Hid (∃ pv', RefAt (w3.setCell ⟨q, 3, none⟩ v2) q v pv' (unpinP s t) ∧ Only (fun k => k = q) w (w3.setCell ⟨q, 3, none⟩ v2) ∧ ∀ g, pv'.ownBlock = some g → w.heap.size ≤ g) := by
  obtain ⟨i0, ii0, iz0, iz2, iz3⟩ := info_parts info_int
  have hil := (List.getElem?_eq_some_iff.1 hi).1
  have hql := R.blk.lt
  have hgl := (R.rp.lt g rfl).2
  have hqg : g ≠ q := fun e => R.qp (by rw [← e]; rfl)
  have hone : ∀ l : List Int, ∀ u ∈ l.map (Value.int .i64), u.oneCell' = true := fun l u hu => by
    obtain ⟨x, -, rfl⟩ := List.mem_map.1 hu
    rfl
  have hcell : ∀ j x, s.p[j]? = some x → w.cell? ⟨g, j, none⟩ = some (.int .i64 x) := fun j x hx => by
    have := R.rp.cells (g := g) rfl j _ (by rw [List.getElem?_map, hx]; rfl)
    rw [cell_add, Nat.zero_add] at this
    exact this
  have hB1 : Below w.heap.size w (w.drew.alloc (.cells #[] 3)) := ((Below.refl _ _).drew).alloc (Nat.le_refl _) _
  have hs1 : (w.drew.alloc (.cells #[] 3)).heap.size = w.heap.size + 1 := by simp
  have O0 : (w.drew.alloc (.cells #[] 3)).ownsRow 0 3 1 (.slice (some ⟨w.heap.size, 0, none⟩) 0 0) 0 [] := ⟨rfl, .inr ⟨w.heap.size, 0, #[], rfl, Nat.zero_le _, heap_alloc_new w.drew _, Nat.le_refl _, Nat.zero_le _, rfl, rfl⟩⟩
  obtain ⟨v1, w2, r1, R1, G1, -, o1⟩ := run_append_own_at (P := Try.prog) _ 0 22 22 3 i0 _ 1 8 Try.underlying22 ii0 iz0 iz2 iz3 rfl (by decide) _ 0 [] O0 ⟨g, 0, none⟩ i cp ((s.p.take i).map (Value.int .i64)) (by simp; omega) (fun j u hj => by
      have hj1 := (List.getElem?_eq_some_iff.1 hj).1
      simp only [List.length_map, List.length_take] at hj1
      rw [List.getElem?_map, List.getElem?_take_of_lt (by omega)] at hj
      cases hx : s.p[j]? with
      | none => rw [hx] at hj; cases hj
      | some x =>
        rw [hx] at hj
        cases hj
        rw [cell_add, Nat.zero_add, hB1.cell hgl]
        exact hcell j x hx) (hone _) (by unfold maxLen; omega) (by omega) (Nat.zero_le _)
  have B2 : ∀ k, k < w.heap.size → w2.heap[k]? = w.heap[k]? := fun k hk => (G1.block k (by omega) (by simp [Value.ownBlock]; omega)).trans (hB1.block k hk)
  have hs2 : w.heap.size ≤ w2.heap.size := by have := G1.size; omega
  have hv1 : ∀ b, v1.ownBlock = some b → w.heap.size ≤ b := fun b hb => by
    rcases o1 with e | e
    · rw [e] at hb; simp [Value.ownBlock] at hb; omega
    · rw [e] at hb; simp at hb; omega
  obtain ⟨v2, w3, r2, R2, G2, -, o2⟩ := run_append_own_at (P := Try.prog) w2 0 22 22 3 i0 _ 1 8 Try.underlying22 ii0 iz0 iz2 iz3 rfl (by decide) v1 (0 + i) _ R1 ⟨g, if cp = i + 1 then 0 else i + 1, none⟩ (s.p.length - (i + 1)) (cp - (i + 1)) ((s.p.drop (i + 1)).map (Value.int .i64)) (by simp) (fun j u hj => by
      have hj1 := (List.getElem?_eq_some_iff.1 hj).1
      simp only [List.length_map, List.length_drop] at hj1
      rw [List.getElem?_map, List.getElem?_drop] at hj
      cases hx : s.p[i + 1 + j]? with
      | none => rw [hx] at hj; cases hj
      | some x =>
        rw [hx] at hj
        cases hj
        have hle : s.p.length ≤ cp := by
          rcases R.rp.2 with ⟨h, _⟩ | ⟨g', cap', cur, h, _, _, hn, _⟩
          · cases h
          · cases h; exact hn
        rw [if_neg (by omega), cell_add, cell_of_block (a := ⟨g, i + 1 + j, none⟩) (B2 g hgl)]
        exact hcell _ x hx) (hone _) (by unfold maxLen; omega) (by omega) (Nat.zero_le _)
  have B3 : ∀ k, k < w.heap.size → w3.heap[k]? = w.heap[k]? := fun k hk => (G2.block k (by omega) (fun e => by have := hv1 k e.symm; omega)).trans (B2 k hk)
  have hv2 : ∀ b, v2.ownBlock = some b → w.heap.size ≤ b := fun b hb => by
    rcases o2 with e | e
    · rw [e] at hb; exact hv1 b hb
    · rw [e] at hb; simp at hb; omega
  have K2 := R.blk.of_block (B2 q hql)
  have K3 := R.blk.of_block (B3 q hql)
  have hlen : (s.p.erase t).length = 0 + i + (s.p.length - (i + 1)) := by rw [erase_first _ _ _ hi hn]; simp; omega
  have hxs : [] ++ (s.p.take i).map (Value.int .i64) ++ (s.p.drop (i + 1)).map (Value.int .i64) = (s.p.erase t).map (Value.int .i64) := by rw [erase_first _ _ _ hi hn, List.nil_append, List.map_append]
  rw [hxs, ← hlen] at R2
  have eo : (some ⟨g, if cp = i + 1 then 0 else i + 1, none⟩ : Option Addr) = if cp = i + 1 then some ⟨g, 0, none⟩ else some ⟨g, i + 1, none⟩ := by split <;> rfl
  rw [eo] at r2
  refine ⟨v1, v2, w2, w3, r1, r2, K2.cell (i := 3) rfl, K3.cell (i := 3) rfl, K3.thawed 3, (by obtain ⟨a, c, e⟩ := own_slice R2; exact ⟨_, _, _, e⟩), v2, ⟨K3.set 3 v2, ?_, ?_, R.qv, fun e => by have := hv2 q e; omega, fun k hk e => by have h1 := hv2 k e; have h2 := (R.rv.lt k hk).2; omega, R.few⟩, ⟨G2.os.trans (G1.os.trans hB1.os), G2.tape.trans (G1.tape.trans hB1.tape), G2.output.trans (G1.output.trans hB1.output), by simp [World.setCell]; have := G2.size; omega, fun k hk hne => (Below.heap_setCell _ _ _ _ hne).trans (B3 k hk)⟩, hv2⟩
  · exact ownsRow_setCell_other (row_thru R.rv (fun k hk => B3 k (R.rv.lt k hk).2)) (a := ⟨q, 3, none⟩) (fun e => R.qv e) v2
  · exact ownsRow_setCell_other R2 (a := ⟨q, 3, none⟩) (fun e => by have := hv2 q e; omega) v2
set_option maxHeartbeats 3200000 in
set_option maxRecDepth 20000 in
theorem runpin_any (q : Nat) (v pv : Value) (s : Sto) (t : Int) (w : World) (R : RefAt w q v pv s) (hf : s.p.length < 900000) :
    Calls Try.prog 20 #[.pointer (some ⟨q, 0, none⟩), .int .i64 t] w fun e w' => e = .returned (.tuple #[]) ∧ ∃ pv', RefAt w' q v pv' (unpinP s t) ∧ Only (fun k => k = q) w w' ∧ ∀ g, pv'.ownBlock = some g → pv.ownBlock = some g ∨ w.heap.size ≤ g := by
  have c3 := R.blk.cell (i := 3) (v := pv) rfl
  obtain ⟨ap, cp, hpv, hpc⟩ := own_ints R.rp
  have hql := R.blk.lt
  have HN : Hid ((∀ j, j < s.p.length → s.p[j]? ≠ some t) → ∃ pv', RefAt w q v pv' (unpinP s t) ∧ Only (fun k => k = q) w w ∧ ∀ g, pv'.ownBlock = some g → pv.ownBlock = some g ∨ w.heap.size ≤ g) := fun h => by
    have e : unpinP s t = s := by
      unfold unpinP
      rw [List.erase_of_not_mem (fun hm => by
        obtain ⟨j, hj, e⟩ := List.getElem_of_mem hm
        exact h j hj (by rw [List.getElem?_eq_getElem hj, e]))]
    rw [e]
    exact ⟨pv, R, Only.refl _ _, fun g hg => .inl hg⟩
  have HC : Hid (∀ i, s.p[i]? = some t → (∀ j, j < i → s.p[j]? ≠ some t) → ∃ g, ap = some ⟨g, 0, none⟩ ∧ s.p.length ≤ cp ∧ ∃ (v1 v2 : Value) (w2 w3 : World), (Builtin.append_ #[22, 22] 22 #[.slice (some ⟨w.heap.size, 0, none⟩) 0 0, .slice (some ⟨g, 0, none⟩) i cp]).run Try.prog (w.drew.alloc (.cells #[] 3)) = .ok v1 w2 ∧
      (Builtin.append_ #[22, 22] 22 #[v1, .slice (if cp = i + 1 then some ⟨g, 0, none⟩ else some ⟨g, i + 1, none⟩) (s.p.length - (i + 1)) (cp - (i + 1))]).run Try.prog w2 = .ok v2 w3 ∧
      w2.cell? ⟨q, 3, none⟩ = some (.slice (some ⟨g, 0, none⟩) s.p.length cp) ∧ w3.cell? ⟨q, 3, none⟩ = some (.slice (some ⟨g, 0, none⟩) s.p.length cp) ∧ w3.frozen? ⟨q, 3, none⟩ = false ∧ (∃ a n c, v2 = .slice a n c) ∧
      Hid (∃ pv', RefAt (w3.setCell ⟨q, 3, none⟩ v2) q v pv' (unpinP s t) ∧ Only (fun k => k = q) w (w3.setCell ⟨q, 3, none⟩ v2) ∧ ∀ g, pv'.ownBlock = some g → pv.ownBlock = some g ∨ w.heap.size ≤ g)) := fun i h1 h2 => by
    obtain ⟨g, rfl, -⟩ := hpc i t h1
    subst hpv
    obtain ⟨v1, v2, w2, w3, r1, r2, r3, r4, r5, r6, pv', a, b, c⟩ := unpin_runs R h1 h2 hf
    refine ⟨g, rfl, ?_, v1, v2, w2, w3, r1, r2, r3, r4, r5, r6, pv', a, b, fun g hg => .inr (c g hg)⟩
    rcases R.rp.2 with ⟨h, _⟩ | ⟨g', cap', cur, h, _, _, hn, _⟩
    · cases h
    · cases h; exact hn
  replace hpc : Hid _ := hpc
  replace hf : Hid (s.p.length < 900000) := hf
  clear R
  rw [hpv] at c3
  replace hpv : Hid _ := hpv
  generalize hpl : s.p.length = pl at *
  replace hpl : Hid (s.p.length = pl) := hpl
  go_enter Try.func20, Try.ntmps20
  go_wp2_with fail
  go_loopg [4] pl (fun kx s4 wr => ∃ i : Nat, s4 = .int .i64 i ∧ i ≤ pl ∧ pl - i ≤ kx ∧ Hid (wr = w ∧ ∀ j, j < i → s.p[j]? ≠ some t))
  case atStart => exact ⟨0, rfl, Nat.zero_le _, by omega, rfl, fun j hj => by omega⟩
  case round =>
    obtain ⟨i, rfl, hi, hg, hw⟩ := hrel
    obtain ⟨rfl, hno⟩ := hw.out
    replace hno : Hid _ := hno
    clear hw
    by_cases hip : i < pl
    · have hiI : (i : Int) < (pl : Int) := by omega
      have hi0 : (0 : Int) ≤ (i : Int) := by omega
      obtain ⟨y, hy⟩ : ∃ y, s.p[i]? = some y := ⟨_, List.getElem?_eq_getElem (by rw [hpl.out]; exact hip)⟩
      obtain ⟨g, rfl, d0⟩ := hpc.out i y hy
      by_cases hyt : y = t
      · subst hyt
        obtain ⟨g', e, hle, v1, v2, w2, w3, r1, r2, r3, r4, r5, ⟨a2, n2, c2, rfl⟩, HE⟩ := HC.out i hy hno.out
        injection e with e
        injection e with e1
        subst e1
        have hpb : pl < 900000 := by have := hf.out; have := hpl.out; omega
        clear HC hno hpc hy hg hf hpl HN
        generalize hj : i + 1 = j at *
        have hjl : ((j : Nat) : Int) ≤ (pl : Int) := by omega
        have hj0 : (0 : Int) ≤ (j : Int) := by omega
        have hlc : (pl : Int) ≤ (cp : Int) := by omega
        have hic : (i : Int) ≤ (cp : Int) := by omega
        have hjw : IntKind.i64.wrap ((i : Int) + 1) = (j : Int) := by
          rw [IntWalk.i64_in _ (by omega)]
          omega
        go_wp2_with fail
        go_region_law
          (first
            | (refine step_run_app (by rfl) _ _ _ (by rfl) _ _ _ (by rfl) (by rfl) r1 ?_)
            | (refine step_run_app (by rfl) _ _ _ (by rfl) _ _ _ (by rfl) (by rfl) r2 ?_))
        all_goals
          clear r1 r2 r3 r4 r5
          go_wp2_with fail
          all_goals exact bodyPost_ret (v := .tuple #[]) (by simp [results, Try.results20, go_sem]) rfl ⟨rfl, HE.out⟩
      · have hyI : (y == t) = false := by simpa using hyt
        have hno2 : Hid (wr = wr ∧ ∀ j, j < i + 1 → s.p[j]? ≠ some t) := ⟨rfl, fun j hj => by
          rcases Nat.lt_or_ge j i with h | h
          · exact hno.out j h
          · obtain rfl : j = i := by omega
            rw [hy]
            exact fun e => hyt (Option.some.inj e)⟩
        clear HC HN hno hpc hy hyt
        go_wp2_with fail
        clear d0
        go_roundg (pl - (i + 1))
        case rel => exact ⟨i + 1, by first | rfl | (rw [IntWalk.wrap64_in _ (by have := hf.out; have := hpl.out; omega)]; rfl), by omega, Nat.le_refl _, rfl, hno2.out.2⟩
        case measure => omega
    · have hiI : ¬ ((i : Int) < (pl : Int)) := by omega
      have HE := HN.out (fun j hj => hno.out j (by have := hpl.out; omega))
      replace HE : Hid _ := HE
      clear HC HN hno hpc hi hg hip
      go_wp2_with fail
      go_end0
      exact ⟨rfl, HE.out⟩

theorem Both.unpin {B p q : Nat} {w0 w : World} {i : Nat} {al : Int} {v pv : Value} {S : St} {s x : Sto} (Q : Both B p q w0 w i al v pv S s x) (hi : i ≤ 100) (t : Int) :
    Calls Try.prog 19 #[.pointer (some ⟨p, 0, none⟩), .int .i64 t] w fun e w' => e = .returned (.tuple #[]) ∧ Calls Try.prog 20 #[.pointer (some ⟨q, 0, none⟩), .int .i64 t] w' fun e w' => e = .returned (.tuple #[]) ∧ ∃ (pv' : Value) (S' : St) (s' x' : Sto), Both B p q w0 w' i al v pv' S' s' x' := by
  refine (unpin_own Q.pair.own (by omega) t).mono ?_
  rintro e w6 ⟨rfl, S', O', T, ht⟩
  refine ⟨rfl, ?_⟩
  have Q6 := Q.pair.step O' T
  have hpl : x.p.length ≤ i := by rw [Q.eq]; exact Q.pair.own.few.2
  refine (runpin_any q v pv x t w6 Q6.ref (by omega)).mono ?_
  rintro e w' ⟨rfl, pv', r1, r2, r3⟩
  have OF : Only (Foot q v pv) w6 w' := r2.mono (fun k _ e => .inl e)
  exact ⟨rfl, pv', S', _, _, Q6.told r1 OF (fun g hg => .inl (.inr (.inl hg))) (fun g hg => (r3 g hg).imp (fun e => .inr (.inr e)) id), by rw [Q.eq], by rw [ht]; exact Q.tot, Q.stamp, Q.all, Q.le⟩
end Go.Proofs.Ytcnajkclbmddgaa
