/- A try is settled: its writes are committed. -/
import Derived.Test.YtlncljfljjaacaaGreatDoorTxM
import Derived.Test.YtlncljfljjaacaaGreatDoorTxJ
namespace Go.Proofs.YtlncljfljjaacaaGreatDoor
open Go.ChangeShapes Go.WideShapes Go.ChangeAt Go.RowKit
set_option linter.unusedVariables false
set_option linter.unusedSimpArgs false

set_option maxHeartbeats 3200000 in
set_option maxRecDepth 20000 in
theorem settleOk_any {B p m : Nat} {w0 w : World} {S : St} {s : Sto} (O : OwnP B p w0 w S s m) (tb x b : Nat) (k : Int) (n t : E.Bs) (tries : Int) (next : Value) (Tb : Blk w tb (txCs p b k n t tries (.pointer (some ⟨x, 0, none⟩)) next) 77) (hnt : ¬ (S.lab tb).isSome)
    (cs : Array Value) (at' : Int) (g c : Nat) (L : List Lk) (hL : LkOk L) (X : Blk w x cs 96) (h0 : cs[0]? = some (.pointer (some ⟨p, 0, none⟩))) (h11 : cs[11]? = some (.int .i64 at')) (h12 : cs[12]? = some (.slice (some ⟨g, 0, none⟩) L.length c)) (hr : w.ownsRow 0 113 3 (.slice (some ⟨g, 0, none⟩) L.length c) L.length (lkCells L))
    (ga : Nat) (ws : List Wr) (ca : Nat) (hne : 0 < ws.length) (hga : ga < w.heap.size) (W : WsAt w (some ⟨ga, 0, none⟩) ws) (hap : ¬ (S.lab ga).isSome) (hsz : ∀ y ∈ ws, y.key.size ≤ 281474976710656 ∧ y.val.size ≤ 281474976710656) (ht : S.tot + ws.length ≤ 900000) (hn : s.stamp ≤ 1000000) (hwl : ws.length ≤ 100)
    (hst : staleP s at' L = false) (hok : (commitP s ws).2.2 = 0) :
    Calls Tryz.prog 62 #[.pointer (some ⟨tb, 0, none⟩), .agg (respV 0), .slice (some ⟨ga, 0, none⟩) ws.length ca] w fun e w' => e = .returned (.tuple #[.agg #[.int .i64 0, .string ⟨#[]⟩, .slice none 0 0, .slice none 0 0, .int .i64 (commitP s ws).2.1, .bool true], .bool true]) ∧ ∃ S', OwnP B p w0 w' S' (commitP s ws).1 m ∧ Step w w' S S' ∧ S'.tot ≤ S.tot + ws.length := by
  have hbA := E.below_new w (.cells (respV 0) 42)
  have hbB := hbA.trans ((E.below_new (w.alloc (.cells (respV 0) 42)) (.cells doneZ 44)).mono hbA.size)
  have PB := (Blk.new w (respV 0) 42).of_block (w' := (w.alloc (.cells (respV 0) 42)).alloc (.cells doneZ 44)) (Below.heap_alloc _ _ _ (by simp))
  have RB : Blk ((w.alloc (.cells (respV 0) 42)).alloc (.cells doneZ 44)) (w.heap.size + 1) doneZ 44 := Blk.new' (by simp)
  have hPn : ¬ (S.lab w.heap.size).isSome := fun e => by have := O.own.store.lt _ e; omega
  have hRn : ¬ (S.lab (w.heap.size + 1)).isSome := fun e => by have := O.own.store.lt _ e; omega
  have htl := Tb.lt
  have hxl := X.lt
  have TB := Tb.of_block (hbB.block tb htl)
  have c7w : w.cell? ⟨tb, 7, none⟩ = some (.pointer (some ⟨x, 0, none⟩)) := Tb.cell rfl
  have IS := isStale_any (O.later hbB) x cs at' g c L hL (X.of_block (hbB.block x hxl)) h0 h11 h12 (row_thru hr (fun g' hg' => by cases hg'; exact hbB.block g (hr.lt g rfl).2))
  rw [hst] at IS
  have WB := W.step (w' := (w.alloc (.cells (respV 0) 42)).alloc (.cells doneZ 44)) (fun g' o' e' hg' => hbB.block g' hg') hbB.size
  have OB := hid_of (O.later hbB)
  unfold respV doneZ at *
  generalize hwB : (w.alloc (.cells #[.int .i64 0, .string ⟨#[]⟩, .slice none 0 0, .slice none 0 0] 42)).alloc (.cells #[.int .i64 0, .string ⟨#[]⟩, .slice none 0 0, .slice none 0 0, .int .i64 0, .bool false] 44) = wB at *
  have hszB : Hid (wB.heap.size = w.heap.size + 2) := by show _ = _; rw [← hwB]; simp
  have hBs : Hid (B ≤ w.heap.size) := hid_of O.own.size
  replace hwB := hid_of hwB
  have hlen : ((ws.length : Int) == 0) = false := by rw [beq_eq_false_iff_ne]; omega
  have c7 : wB.cell? ⟨tb, 7, none⟩ = some (.pointer (some ⟨x, 0, none⟩)) := TB.cell rfl
  have htB := TB.lt
  replace TB := hid_of TB
  replace PB := hid_of PB
  replace RB := hid_of RB
  replace WB := hid_of WB
  replace hbB := hid_of hbB
  replace hap := hid_of hap
  have hgB : Hid (ga < wB.heap.size) := Nat.lt_of_lt_of_le hga hbB.out.size
  clear hbA X hr W O Tb h0 h11 h12 hL hst
  have hst' := hne
  clear hst'
  replace ht := hid_of ht
  replace hn := hid_of hn
  replace hsz := hid_of hsz
  replace hok := hid_of hok
  replace hwl := hid_of hwl
  go_enter Tryz.func62, Tryz.ntmps62
  go_wp2_with fail
  rw [hwB.out]
  refine IS.mono ?_
  rintro e w1 ⟨rfl, hb1⟩
  clear IS
  have O1 := OB.out.later hb1
  have T1 := TB.out.of_block (hb1.block tb htB)
  have P1 := PB.out.of_block (hb1.block _ PB.out.lt)
  have R1 := RB.out.of_block (hb1.block _ RB.out.lt)
  have W1 := WB.out.step (w' := w1) (fun g' o' e' hg' => hb1.block g' hg') hb1.size
  have CM := commit_ownP O1 (some ⟨ga, 0, none⟩) ca ws W1 (fun g' o' e' => by cases e'; exact hap.out) hsz.out ht.out hn.out
  rw [hok.out] at CM
  have d0 : w1.cell? ⟨tb, 0, none⟩ = some (.pointer (some ⟨p, 0, none⟩)) := T1.cell rfl
  have ht1 := T1.lt
  replace CM := CM.mono (fun e w' h => by
    obtain ⟨S', h1, h2, h3, h4⟩ := h
    exact (⟨h1, S', h2, h3, h4⟩ : e = .returned (.tuple #[.int .i64 (commitP s ws).2.1, .int .i64 0]) ∧ Hid (∃ S', OwnP B p w0 w' S' (commitP s ws).1 m ∧ Step w1 w' S S' ∧ S'.tot ≤ S.tot + ws.length)))
  have hb2 := hid_of (hbB.out.trans (hb1.mono hbB.out.size))
  have hb12 := hid_of hb1.size
  replace P1 := hid_of P1
  replace R1 := hid_of R1
  obtain ⟨st', hst2⟩ : ∃ st', st' = (commitP s ws).2.1 := ⟨_, rfl⟩
  rw [← hst2] at CM
  replace hst2 := hid_of hst2
  clear OB TB PB RB WB c7 O1 T1 W1 hb1 hbB
  go_wp2_with fail
  refine CM.mono ?_
  rintro e w2 ⟨rfl, H⟩
  clear CM
  have P2 : Blk w2 w.heap.size #[.int .i64 0, .string ⟨#[]⟩, .slice none 0 0, .slice none 0 0] 42 := by
    obtain ⟨S', h1, h2, h3⟩ := H.out
    exact P1.out.of_block (h2.only.block _ P1.out.lt hPn)
  have R2 : Blk w2 (w.heap.size + 1) #[.int .i64 0, .string ⟨#[]⟩, .slice none 0 0, .slice none 0 0, .int .i64 0, .bool false] 44 := by
    obtain ⟨S', h1, h2, h3⟩ := H.out
    exact R1.out.of_block (h2.only.block _ R1.out.lt hRn)
  have q0 : w2.cell? ⟨w.heap.size, 0, none⟩ = some (.int .i64 0) := P2.cell rfl
  have q1 : w2.cell? ⟨w.heap.size, 1, none⟩ = some (.string ⟨#[]⟩) := P2.cell rfl
  have q2 : w2.cell? ⟨w.heap.size, 2, none⟩ = some (.slice none 0 0) := P2.cell rfl
  have q3 : w2.cell? ⟨w.heap.size, 3, none⟩ = some (.slice none 0 0) := P2.cell rfl
  have y0 : w2.cell? ⟨w.heap.size + 1, 0, none⟩ = some (.int .i64 0) := R2.cell rfl
  have y1 : w2.cell? ⟨w.heap.size + 1, 1, none⟩ = some (.string ⟨#[]⟩) := R2.cell rfl
  have y2 : w2.cell? ⟨w.heap.size + 1, 2, none⟩ = some (.slice none 0 0) := R2.cell rfl
  have y3 : w2.cell? ⟨w.heap.size + 1, 3, none⟩ = some (.slice none 0 0) := R2.cell rfl
  have y4 : w2.cell? ⟨w.heap.size + 1, 4, none⟩ = some (.int .i64 0) := R2.cell rfl
  have y5 : w2.cell? ⟨w.heap.size + 1, 5, none⟩ = some (.bool false) := R2.cell rfl
  have z0 := R2.thawed 0
  have z1 := R2.thawed 1
  have z2 := R2.thawed 2
  have z3 := R2.thawed 3
  have z4 := R2.thawed 4
  have z5 := R2.thawed 5
  have hP2 := P2.lt
  have hR2 := R2.lt
  replace R2 := hid_of R2
  clear P2 P1 R1
  go_wp2_with fail
  have Z := put6_blk R2.out (.int .i64 0) (.string ⟨#[]⟩) (.slice none 0 0) (.slice none 0 0) (.int .i64 st') (.bool true)
  have u0 := Z.cell (i := 0) rfl
  have u1 := Z.cell (i := 1) rfl
  have u2 := Z.cell (i := 2) rfl
  have u3 := Z.cell (i := 3) rfl
  have u4 := Z.cell (i := 4) rfl
  have u5 := Z.cell (i := 5) rfl
  unfold put6 at u0 u1 u2 u3 u4 u5
  simp at u0 u1 u2 u3 u4 u5
  have P := put6_only w2 (w.heap.size + 1) (.int .i64 0) (.string ⟨#[]⟩) (.slice none 0 0) (.slice none 0 0) (.int .i64 st') (.bool true)
  obtain ⟨S', O2, T2, htot⟩ := H.out
  have hs1 := hszB.out
  have hb2s := hb12.out
  have hB := hBs.out
  have key : ∃ S', OwnP B p w0 (put6 w2 (w.heap.size + 1) (.int .i64 0) (.string ⟨#[]⟩) (.slice none 0 0) (.slice none 0 0) (.int .i64 st') (.bool true)) S' (commitP s ws).1 m ∧ Step w (put6 w2 (w.heap.size + 1) (.int .i64 0) (.string ⟨#[]⟩) (.slice none 0 0) (.slice none 0 0) (.int .i64 st') (.bool true)) S S' ∧ S'.tot ≤ S.tot + ws.length := by
    refine ⟨S', O2.frame P (fun i _ h => ?_), ⟨((Only.of_below' hb2.out _).trans T2.only (fun _ _ h => h)).trans P (fun i hi h => by omega), fun i e => ?_, T2.p⟩, htot⟩
    · subst h
      refine ⟨by omega, fun e => ?_⟩
      rcases T2.lab _ e with h | h
      · exact hRn h
      · omega
    · rcases T2.lab i e with h | h
      · exact .inl h
      · have := hb2.out.size; right; omega
  refine bodyPost_ret (v := .tuple #[.agg #[.int .i64 0, .string ⟨#[]⟩, .slice none 0 0, .slice none 0 0, .int .i64 st', .bool true], .bool true]) (by simp [results, Tryz.results62, go_sem, u0, u1, u2, u3, u4, u5]) rfl ⟨by rw [hst2.out], key⟩
end Go.Proofs.YtlncljfljjaacaaGreatDoor
