/- The law's own writes: one to three keys, none twice. -/
import Derived.Test.YtcnajkclbmddgaaWithin
import Derived.Lib.QuietBelow
import Derived.BigQuiet
import Derived.BigRegion
import Derived.Deep.LoopGhost
namespace Go.Proofs.Ytcnajkclbmddgaa
open Go.ChangeShapes Go.WideShapes Go.ChangeAt Go.RowKit
open Go.Sort (grow)
set_option linter.unusedVariables false
set_option linter.unusedSimpArgs false

def letK (m : Nat) : ByteArray := ⟨#[UInt8.ofNat (97 + m % 5)]⟩
def letV (m : Nat) : ByteArray := ⟨#[UInt8.ofNat (118 + m % 5)]⟩
def oneW (n i : Nat) : Wr := ⟨letK (n / 3 + i), if (n / (41 + i)) % 4 = 0 then ⟨#[]⟩ else letV (n / (17 + i)), decide ((n / (41 + i)) % 4 = 0)⟩
def writesP (n : Nat) : List Wr := (List.range (n % 3 + 1)).map (oneW n)

theorem slice_key (m : Nat) (h : m < 5) (w : World) : (Instr.slice 9 (.string ⟨#[97, 98, 99, 100, 101]⟩) (some (.int .i64 (m : Int))) (some (.int .i64 ((m : Int) + 1))) none).run Try.prog w = .ok (.string (letK m)) w := by
  rw [run_slice_string (P := Try.prog) (t := 9) (h := Try.underlying9) (h0 := by omega) (h1 := by omega) (h2 := by simp [ByteArray.size]; omega)]
  have h : ∀ i : Fin 5, (ByteArray.extract ⟨#[97, 98, 99, 100, 101]⟩ (((i.val : Nat) : Int)).toNat (((i.val : Nat) : Int) + 1).toNat) = letK i.val := by decide +kernel
  rw [h ⟨m, by omega⟩]
theorem slice_val (m : Nat) (h : m < 5) (w : World) : (Instr.slice 9 (.string ⟨#[118, 119, 120, 121, 122]⟩) (some (.int .i64 (m : Int))) (some (.int .i64 ((m : Int) + 1))) none).run Try.prog w = .ok (.string (letV m)) w := by
  rw [run_slice_string (P := Try.prog) (t := 9) (h := Try.underlying9) (h0 := by omega) (h1 := by omega) (h2 := by simp [ByteArray.size]; omega)]
  have h : ∀ i : Fin 5, (ByteArray.extract ⟨#[118, 119, 120, 121, 122]⟩ (((i.val : Nat) : Int)).toNat (((i.val : Nat) : Int) + 1).toNat) = letV i.val := by decide +kernel
  rw [h ⟨m, by omega⟩]

theorem info_wr : (Try.prog.info? 54).map (fun i => (i.zero, i.size, i.bytes)) = some (some (.agg #[.string ⟨#[]⟩, .string ⟨#[]⟩, .bool false]), 3, 40) := by kernel_rfl
theorem info_rwr : (Try.prog.info? 63).map (fun i => (i.zero, i.size, i.bytes)) = some (some (.agg #[.string ⟨#[]⟩, .string ⟨#[]⟩, .bool false]), 3, 40) := by kernel_rfl

theorem dis_step {u v : Value} {gu c n H : Nat} (hat : u.ownBlock = some gu ∨ gu = H) (hd : ∀ g, u.ownBlock = some g → v.ownBlock ≠ some g) (hH : v.ownBlock = some H → False) : ∀ g, (Value.slice (some ⟨gu, 0, none⟩) n c).ownBlock = some g → v.ownBlock ≠ some g := by
  intro g hg e
  simp [Value.ownBlock] at hg
  subst hg
  rcases hat with h | h
  · exact hd _ h e
  · subst h; exact hH e

def wrCells (x : Wr) : List Value := [.string x.key, .string x.val, .bool x.gone]
def wrsCells (l : List Wr) : List Value := l.flatMap wrCells

theorem wrs_len (l : List Wr) : (wrsCells l).length = l.length * 3 := by
  unfold wrsCells
  induction l with
  | nil => rfl
  | cons x l ih => rw [List.flatMap_cons, List.length_append, ih]; simp [wrCells]; omega

theorem iwrap (a : Int) (h0 : 0 ≤ a) (h1 : a < 2000000000) : IntKind.i64.wrap a = a := by rw [IntKind.wrap_i64]; omega

theorem nums (n i q : Nat) (hn : n < 1073741824) (hi : i < 3) (hq : q = n / 3) : ∃ s m d d' x x' c c' : Nat,
    ((0 : Int) ≤ (q : Int) ∧ (q : Int) < 1073741824) ∧ ((q : Int) + i = (s : Int) ∧ (0 : Int) ≤ (s : Int)) ∧ (s : Int) % 5 = (m : Int) ∧ ((0 : Int) ≤ (m : Int) ∧ (m : Int) < 5) ∧ (17 + (i : Int) = (d : Int) ∧ (d : Int) < 100) ∧ (41 + (i : Int) = (d' : Int) ∧ (d' : Int) < 100) ∧
    ¬ ((d : Int) = 0) ∧ ¬ ((d' : Int) = 0) ∧ (0 : Int) ≤ (d : Int) ∧ (0 : Int) ≤ (d' : Int) ∧ (n : Int) / (d : Int) = (x : Int) ∧ (n : Int) / (d' : Int) = (x' : Int) ∧ ((0 : Int) ≤ (x : Int) ∧ (x : Int) < 1073741824) ∧ ((0 : Int) ≤ (x' : Int) ∧ (x' : Int) < 1073741824) ∧
    (x : Int) % 5 = (c : Int) ∧ (x' : Int) % 4 = (c' : Int) ∧ ((0 : Int) ≤ (c : Int) ∧ (c : Int) < 5) ∧ m < 5 ∧ c < 5 ∧ letK m = letK (n / 3 + i) ∧ letV c = letV (n / (17 + i)) ∧
    oneW n i = ⟨letK (n / 3 + i), if c' = 0 then ⟨#[]⟩ else letV (n / (17 + i)), decide (c' = 0)⟩ := by
  have hx := Nat.div_le_self n (17 + i)
  have hx' := Nat.div_le_self n (41 + i)
  have hq3 := Nat.div_le_self n 3
  refine ⟨q + i, (q + i) % 5, 17 + i, 41 + i, n / (17 + i), n / (41 + i), n / (17 + i) % 5, n / (41 + i) % 4, by omega, by omega, by omega, by omega, by omega, by omega, by omega, by omega, by omega, by omega, by simp, by simp, ⟨Int.natCast_nonneg _, by omega⟩, ⟨Int.natCast_nonneg _, by omega⟩, by omega, by omega, by omega, by omega, by omega, ?_, ?_, rfl⟩
  · unfold letK; rw [hq, Nat.mod_mod]
  · unfold letV; rw [Nat.mod_mod]

set_option maxHeartbeats 4000000 in
set_option maxRecDepth 20000 in
theorem writes_any (n : Nat) (hn : n < 1073741824) (w : World) :
    Calls Try.prog 13 #[.int .i64 (n : Int)] w fun e w' => ∃ u v, e = .returned (.tuple #[u, v]) ∧ Below w.heap.size w w' ∧
      w'.ownsRow w.heap.size 54 3 u (writesP n).length (wrsCells (writesP n)) ∧ w'.ownsRow w.heap.size 63 3 v (writesP n).length (wrsCells (writesP n)) := by
  have HN : Hid (n < 1073741824) := hn
  have hn0 : (0 : Int) ≤ (n : Int) := by omega
  have WI := fun (a m : Int) (h1 : 0 < m) (h2 : m ≤ 4611686018427387904) (w : World) => within_any a m h1 h2 w
  clear hn
  go_enter Try.func13, Try.ntmps13
  go_wp2_with fail
  obtain ⟨k, hk⟩ : ∃ k : Nat, n % 3 = k := ⟨_, rfl⟩
  have hkI : (n : Int) % 3 = (k : Int) := by omega
  have hk3 : k < 3 := by omega
  have hwr : Hid (writesP n = (List.range (k + 1)).map (oneW n)) := by rw [← hk]; rfl
  have hb0 : Hid (Below w.heap.size w w) := Below.refl _ _
  clear hk
  go_loopg [4, 5, 6] (k + 1) (fun kx s4 s5 s6 wr => ∃ i : Nat, s6 = .int .i64 i ∧ i ≤ k + 1 ∧ k + 1 - i ≤ kx ∧ Hid (Below w.heap.size w wr) ∧
    Hid (wr.ownsRow w.heap.size 54 3 s4 i (wrsCells ((List.range i).map (oneW n))) ∧ wr.ownsRow w.heap.size 63 3 s5 i (wrsCells ((List.range i).map (oneW n))) ∧ ∀ g, s4.ownBlock = some g → s5.ownBlock ≠ some g))
  case atStart => exact ⟨0, rfl, by omega, by omega, hb0, World.ownsRow_nil _ _ _ _, World.ownsRow_nil _ _ _ _, fun g h => by cases h⟩
  case round =>
    clear hb0
    obtain ⟨i, rfl, hi, hg, hb, R⟩ := hrel
    have W1 := WI n 3 (by omega) (by omega) wr
    rw [hkI] at W1
    by_cases hik : i < k + 1
    · have hikI : (i : Int) ≤ (k : Int) := by omega
      have hi0 : (0 : Int) ≤ (i : Int) := by omega
      have hi3 : (i : Int) < 3 := by omega
      have hnI : (n : Int) < 1073741824 := by have := HN.out; omega
      obtain ⟨q, hq, hq2⟩ : ∃ q : Nat, (n : Int) / 3 = (q : Int) ∧ q = n / 3 := ⟨n / 3, by omega, rfl⟩
      have HF : Hid (n < 1073741824 ∧ i < k + 1 ∧ k < 3 ∧ k + 1 - i ≤ gk ∧ q = n / 3) := ⟨HN.out, hik, hk3, hg, hq2⟩
      obtain ⟨s, m, d, d', x, x', c, c', ⟨a1, a2⟩, ⟨hs, s0⟩, hm, ⟨a4, a5⟩, ⟨hd, d9⟩, ⟨hd', d9'⟩, dn, dn', dp, dp', hx, hx', ⟨b1, b2⟩, ⟨b1', b2'⟩, hc, hc', ⟨c4, c5⟩, hm3, hc3, ek, ev, eo⟩ := nums n i q HN.out (by omega) hq2
      have SK := slice_key m hm3 wr
      rw [ek] at SK
      obtain ⟨kt, hkt⟩ : ∃ kt, kt = letK (n / 3 + i) := ⟨_, rfl⟩
      rw [← hkt] at SK
      have SV := fun (w : World) => slice_val c hc3 w
      rw [ev] at SV
      obtain ⟨vt, hvt⟩ : ∃ vt, vt = letV (n / (17 + i)) := ⟨_, rfl⟩
      rw [← hvt] at SV
      have WV := fun (w : World) => WI (x : Int) 5 (by omega) (by omega) w
      rw [hc] at WV
      have WG := fun (w : World) => WI (x' : Int) 4 (by omega) (by omega) w
      rw [hc'] at WG
      have HO : Hid (oneW n i = ⟨kt, if c' = 0 then ⟨#[]⟩ else vt, decide (c' = 0)⟩) := by rw [hkt, hvt]; exact eo
      clear hi hg hk3 hik hq2 hm3 hc3 ek ev eo hkt hvt WI
      go_wp2_with fail
      refine W1.mono ?_
      rintro e w1 ⟨rfl, rfl⟩
      clear W1
      go_wp2_with fail
      have Q0 := fun dd os => Calls.regrown_of ((WV (grow (redrawn w1 dd) os)).mono (fun e w' (h : w' = _ ∧ e = _) => (⟨h.2, h.1 ▸ Below.refl _ _⟩ : _ ∧ Below (grow (redrawn w1 dd) os).heap.size (grow (redrawn w1 dd) os) w')))
      have y4 : ((d : Int) == 0) = false := by simp; omega
      have y5 : (n : Int).tdiv (d : Int) = (x : Int) := by rw [Int.tdiv_eq_ediv_of_nonneg hn0]; exact hx
      have y1 := iwrap d dp (by omega)
      have y2 := iwrap x b1 (by omega)
      have y3 := iwrap ((c : Int) + 1) (by omega) (by omega)
      have Q1 := fun w => (WV w).mono (fun e w' (h : w' = w ∧ e = _) => And.intro h.2 h.1)
      clear Q0
      go_big_quiet ((go_at_call 10; exact Calls.quiet_of_same (Q1 _)))
      go_wp2_with fail
      refine (WG _).mono ?_
      rintro e w3 ⟨rfl, rfl⟩
      have hb4 : Below w.heap.size w (w1.drewN nq) := hb.out.trans ((below_drewN w1 nq).mono hb.out.size)
      have hR4 : Hid ((w1.drewN nq).ownsRow w.heap.size 54 3 u4 i (wrsCells ((List.range i).map (oneW n))) ∧ (w1.drewN nq).ownsRow w.heap.size 63 3 u5 i (wrsCells ((List.range i).map (oneW n))) ∧ ∀ g, u4.ownBlock = some g → u5.ownBlock ≠ some g) := R.out
      clear R hb WG WV Q1 SK SV y1 y2 y3 y4 y5
      generalize w1.drewN nq = w4 at *
      clear hx hx' b1 b2 b1' b2' hc c4 c5 hq a1 a2 hs s0 hm a4 a5 hd d9 hd' d9' dn dn' dp dp' hkI
      obtain ⟨hu0, hv0, hdis⟩ := hR4.out
      obtain ⟨iu, hu1, hu2, hu3, hu4⟩ := info_parts info_wr
      obtain ⟨iv, hv1, hv2, hv3, hv4⟩ := info_parts info_rwr
      have hne : u5.ownBlock = none ∨ u5.ownBlock ≠ u4.ownBlock := by
        cases e : u4.ownBlock with
        | none => cases u5.ownBlock <;> simp
        | some g => exact .inr (hdis g e)
      have hsz0 := hb4.size
      replace hdis : Hid _ := hdis
      replace hne : Hid _ := hne
      by_cases hg0 : c' = 0
      · rw [hg0] at HO ⊢
        have HO : Hid (oneW n i = ⟨kt, ⟨#[]⟩, true⟩) := HO.out
        have hsz1 : w.heap.size ≤ (w4.alloc (.cells #[.string kt, .string ⟨#[]⟩, .bool true] 54)).heap.size := by simp; omega
        have hbA : Below w.heap.size w (w4.alloc (.cells #[.string kt, .string ⟨#[]⟩, .bool true] 54)) := hb4.alloc hb4.size _
        have hu := hu0.alloc (.cells #[.string kt, .string ⟨#[]⟩, .bool true] 54)
        have hv := hv0.alloc (.cells #[.string kt, .string ⟨#[]⟩, .bool true] 54)
        have hnw := World.news_of_block (cs := #[.string kt, .string ⟨#[]⟩, .bool true]) (t := 54) (fr := (0, 0)) (heap_alloc_new w4 _)
        have honec : Hid (∀ u ∈ [Value.string kt, .string ⟨#[]⟩, .bool true], u.oneCell' = true) := by show ∀ u ∈ _, _; simp [Value.oneCell']
        have h63 : i + 1 ≤ maxLen := by have := HF.out; unfold maxLen; omega
        have hby : (i + 1) * 40 ≤ 140737488355328 := by have := HF.out; omega
        have hs14 : (w4.alloc (.cells #[.string kt, .string ⟨#[]⟩, .bool true] 54)).heap.size = w4.heap.size + 1 := by simp
        replace h63 : Hid (i + 1 ≤ maxLen) := h63
        replace hby : Hid ((i + 1) * 40 ≤ 140737488355328) := hby
        have hnn : Hid _ := hnw
        replace hs14 : Hid _ := hs14
        clear hnw
        go_wp2_with (first | (at_builtin; refine wpList_append_lies _ rfl _ _ 30 rfl w.heap.size 63 iv _ 3 40 Try.underlying30 hv1 hv2 hv3 hv4 rfl (by decide) u5 i _ (by rfl) hvB ⟨w5.heap.size, 0, none⟩ 1 1 [.string kt, .string ⟨#[]⟩, .bool true] (by rfl) rfl hnn5.out honec.out Nat.one_pos h63.out hby.out hsz2 (w5.heap.size + 1) hs15.out ?_; intro gv cv w6 hown6 hgrow6 hat6 hlt6) | (at_builtin; refine wpList_append_lies _ rfl _ _ 29 rfl w.heap.size 54 iu _ 3 40 Try.underlying29 hu1 hu2 hu3 hu4 rfl (by decide) u4 i _ (by rfl) hu ⟨w4.heap.size, 0, none⟩ 1 1 [.string kt, .string ⟨#[]⟩, .bool true] (by rfl) rfl hnn.out honec.out Nat.one_pos h63.out hby.out hsz1 (w4.heap.size + 1) hs14.out ?_; intro gu cu w5 hown5 hgrow5 hat5 hlt5; have hb5 : Below w.heap.size w w5 := hbA.grown hgrow5 hsz1 (fun k hk => (hu.lt k hk).1); have hv5 := hv.kept hgrow5 hne.out; have hne5 : Hid (∀ g, (Value.slice (some ⟨gu, 0, none⟩) (i + 1) cu).ownBlock = some g → u5.ownBlock ≠ some g) := dis_step hat5 hdis.out (fun e => by have := (hv0.lt _ e).2; omega); clear hgrow5 hat5 hu hv; have hsz2 : w.heap.size ≤ (w5.alloc (.cells #[.string kt, .string ⟨#[]⟩, .bool true] 63)).heap.size := (by have := hb5.size; simp; omega); have hbB : Below w.heap.size w (w5.alloc (.cells #[.string kt, .string ⟨#[]⟩, .bool true] 63)) := hb5.alloc hb5.size _; have hvB := hv5.alloc (.cells #[.string kt, .string ⟨#[]⟩, .bool true] 63); have hs15 : Hid ((w5.alloc (.cells #[.string kt, .string ⟨#[]⟩, .bool true] 63)).heap.size = w5.heap.size + 1) := (by show _ = _; simp); have hnn5 : Hid _ := World.news_of_block (cs := #[.string kt, .string ⟨#[]⟩, .bool true]) (t := 63) (fr := (0, 0)) (heap_alloc_new w5 _); have huB := hown5.alloc (.cells #[.string kt, .string ⟨#[]⟩, .bool true] 63)))
        have hb6 : Hid (Below w.heap.size w w6) := hbB.grown hgrow6 hsz2 (fun k hk => (hvB.lt k hk).1)
        have hu6 := huB.kept hgrow6 (.inr (fun e => hne5.out gu rfl (by rw [← e]; rfl)))
        have R6 : Hid (w6.ownsRow w.heap.size 54 3 (.slice (some ⟨gu, 0, none⟩) (i + 1) cu) (i + 1) (wrsCells ((List.range (i + 1)).map (oneW n))) ∧ w6.ownsRow w.heap.size 63 3 (.slice (some ⟨gv, 0, none⟩) (i + 1) cv) (i + 1) (wrsCells ((List.range (i + 1)).map (oneW n))) ∧ ∀ g, (Value.slice (some ⟨gu, 0, none⟩) (i + 1) cu).ownBlock = some g → (Value.slice (some ⟨gv, 0, none⟩) (i + 1) cv).ownBlock ≠ some g) := by
          have e : wrsCells ((List.range (i + 1)).map (oneW n)) = wrsCells ((List.range i).map (oneW n)) ++ [.string kt, .string ⟨#[]⟩, .bool true] := by
            rw [List.range_succ, List.map_append]
            unfold wrsCells
            rw [List.flatMap_append]
            simp [HO.out, wrCells]
          refine ⟨by rw [e]; exact hu6, by rw [e]; exact hown6, fun g hg e2 => ?_⟩
          simp [Value.ownBlock] at hg e2
          subst hg
          subst e2
          rcases hat6 with h | h
          · exact hne5.out _ rfl h
          · omega
        clear hu6 hown6 hgrow6 hat6 huB hvB hown5 hv5 hne5 hb5 hbB hsz2
        obtain ⟨f1, f2, f3, f4, f5⟩ := HF.out
        go_wp2_with fail
        go_roundg (k + 1 - (i + 1))
        case rel => exact ⟨i + 1, by go_num, by omega, Nat.le_refl _, hb6, R6⟩
        case measure => omega
      · have hg1 : ((c' : Int) == 0) = false := by simp; omega
        have HO : Hid (oneW n i = ⟨kt, vt, false⟩) := by show oneW n i = _; rw [HO.out]; simp [hg0]
        have hsz1 : w.heap.size ≤ (w4.alloc (.cells #[.string kt, .string vt, .bool false] 54)).heap.size := by simp; omega
        have hbA : Below w.heap.size w (w4.alloc (.cells #[.string kt, .string vt, .bool false] 54)) := hb4.alloc hb4.size _
        have hu := hu0.alloc (.cells #[.string kt, .string vt, .bool false] 54)
        have hv := hv0.alloc (.cells #[.string kt, .string vt, .bool false] 54)
        have hnw := World.news_of_block (cs := #[.string kt, .string vt, .bool false]) (t := 54) (fr := (0, 0)) (heap_alloc_new w4 _)
        have honec : Hid (∀ u ∈ [Value.string kt, .string vt, .bool false], u.oneCell' = true) := by show ∀ u ∈ _, _; simp [Value.oneCell']
        have h63 : i + 1 ≤ maxLen := by have := HF.out; unfold maxLen; omega
        have hby : (i + 1) * 40 ≤ 140737488355328 := by have := HF.out; omega
        have hs14 : (w4.alloc (.cells #[.string kt, .string vt, .bool false] 54)).heap.size = w4.heap.size + 1 := by simp
        replace h63 : Hid (i + 1 ≤ maxLen) := h63
        replace hby : Hid ((i + 1) * 40 ≤ 140737488355328) := hby
        have hnn : Hid _ := hnw
        replace hs14 : Hid _ := hs14
        clear hnw
        go_wp2_with (first | (at_builtin; refine wpList_append_lies _ rfl _ _ 30 rfl w.heap.size 63 iv _ 3 40 Try.underlying30 hv1 hv2 hv3 hv4 rfl (by decide) u5 i _ (by rfl) hvB ⟨w5.heap.size, 0, none⟩ 1 1 [.string kt, .string vt, .bool false] (by rfl) rfl hnn5.out honec.out Nat.one_pos h63.out hby.out hsz2 (w5.heap.size + 1) hs15.out ?_; intro gv cv w6 hown6 hgrow6 hat6 hlt6) | (at_builtin; refine wpList_append_lies _ rfl _ _ 29 rfl w.heap.size 54 iu _ 3 40 Try.underlying29 hu1 hu2 hu3 hu4 rfl (by decide) u4 i _ (by rfl) hu ⟨w4.heap.size, 0, none⟩ 1 1 [.string kt, .string vt, .bool false] (by rfl) rfl hnn.out honec.out Nat.one_pos h63.out hby.out hsz1 (w4.heap.size + 1) hs14.out ?_; intro gu cu w5 hown5 hgrow5 hat5 hlt5; have hb5 : Below w.heap.size w w5 := hbA.grown hgrow5 hsz1 (fun k hk => (hu.lt k hk).1); have hv5 := hv.kept hgrow5 hne.out; have hne5 : Hid (∀ g, (Value.slice (some ⟨gu, 0, none⟩) (i + 1) cu).ownBlock = some g → u5.ownBlock ≠ some g) := dis_step hat5 hdis.out (fun e => by have := (hv0.lt _ e).2; omega); clear hgrow5 hat5 hu hv; have hsz2 : w.heap.size ≤ (w5.alloc (.cells #[.string kt, .string vt, .bool false] 63)).heap.size := (by have := hb5.size; simp; omega); have hbB : Below w.heap.size w (w5.alloc (.cells #[.string kt, .string vt, .bool false] 63)) := hb5.alloc hb5.size _; have hvB := hv5.alloc (.cells #[.string kt, .string vt, .bool false] 63); have hs15 : Hid ((w5.alloc (.cells #[.string kt, .string vt, .bool false] 63)).heap.size = w5.heap.size + 1) := (by show _ = _; simp); have hnn5 : Hid _ := World.news_of_block (cs := #[.string kt, .string vt, .bool false]) (t := 63) (fr := (0, 0)) (heap_alloc_new w5 _); have huB := hown5.alloc (.cells #[.string kt, .string vt, .bool false] 63)))
        have hb6 : Hid (Below w.heap.size w w6) := hbB.grown hgrow6 hsz2 (fun k hk => (hvB.lt k hk).1)
        have hu6 := huB.kept hgrow6 (.inr (fun e => hne5.out gu rfl (by rw [← e]; rfl)))
        have R6 : Hid (w6.ownsRow w.heap.size 54 3 (.slice (some ⟨gu, 0, none⟩) (i + 1) cu) (i + 1) (wrsCells ((List.range (i + 1)).map (oneW n))) ∧ w6.ownsRow w.heap.size 63 3 (.slice (some ⟨gv, 0, none⟩) (i + 1) cv) (i + 1) (wrsCells ((List.range (i + 1)).map (oneW n))) ∧ ∀ g, (Value.slice (some ⟨gu, 0, none⟩) (i + 1) cu).ownBlock = some g → (Value.slice (some ⟨gv, 0, none⟩) (i + 1) cv).ownBlock ≠ some g) := by
          have e : wrsCells ((List.range (i + 1)).map (oneW n)) = wrsCells ((List.range i).map (oneW n)) ++ [.string kt, .string vt, .bool false] := by
            rw [List.range_succ, List.map_append]
            unfold wrsCells
            rw [List.flatMap_append]
            simp [HO.out, wrCells]
          refine ⟨by rw [e]; exact hu6, by rw [e]; exact hown6, fun g hg e2 => ?_⟩
          simp [Value.ownBlock] at hg e2
          subst hg
          subst e2
          rcases hat6 with h | h
          · exact hne5.out _ rfl h
          · omega
        clear hu6 hown6 hgrow6 hat6 huB hvB hown5 hv5 hne5 hb5 hbB hsz2
        obtain ⟨f1, f2, f3, f4, f5⟩ := HF.out
        go_wp2_with fail
        go_roundg (k + 1 - (i + 1))
        case rel => exact ⟨i + 1, by go_num, by omega, Nat.le_refl _, hb6, R6⟩
        case measure => omega
    · obtain rfl : i = k + 1 := by omega
      have hkI2 : ¬ (((k + 1 : Nat) : Int) ≤ (k : Int)) := by omega
      have HE : Hid (Below w.heap.size w wr ∧ wr.ownsRow w.heap.size 54 3 u4 (writesP n).length (wrsCells (writesP n)) ∧ wr.ownsRow w.heap.size 63 3 u5 (writesP n).length (wrsCells (writesP n))) := by
        rw [hwr.out, List.length_map, List.length_range]
        exact ⟨hb.out, R.out.1, R.out.2.1⟩
      clear R hb hi hg hik WI
      go_wp2_with fail
      refine W1.mono ?_
      rintro e w1 ⟨rfl, rfl⟩
      clear W1
      go_wp2_with fail
      exact bodyPost_ret (v := .tuple #[u4, u5]) (by simp [results, Try.results13, go_sem]) rfl ⟨u4, u5, rfl, HE.out⟩
end Go.Proofs.Ytcnajkclbmddgaa
