/- What a Put comes to. -/
import Derived.Test.YtlncljfljjaacaaGreatDoorTxL
import Derived.Test.YtlncljfljjaacaaGreatDoorTxG
namespace Go.Proofs.YtlncljfljjaacaaGreatDoor
open Go.ChangeShapes Go.WideShapes Go.ChangeAt Go.RowKit
set_option linter.unusedVariables false
set_option linter.unusedSimpArgs false

theorem info_wrt : (Tryz.prog.info? 128).map (fun i => (i.zero, i.size, i.bytes)) = some (some (.agg #[.string ⟨#[]⟩, .string ⟨#[]⟩, .bool false]), 3, 40) := by kernel_rfl

def txWr (k v : E.Bs) (gone : Bool) : Wr := ⟨E.bs k, E.bs v, gone⟩
def respV (e : Int) : Array Value := #[.int .i64 e, .string ⟨#[]⟩, .slice none 0 0, .slice none 0 0]

set_option maxHeartbeats 800000 in
theorem told_any (e : Int) (w : World) : Calls Tryz.prog 33 #[.int .i64 e] w fun r w' => r = .returned (.agg (respV e)) ∧ Below w.heap.size w w' := by
  unfold respV
  go_enter Tryz.func33, Tryz.ntmps33
  go_wp2
  go_returns
  exact ⟨rfl, by go_grown⟩

set_option maxHeartbeats 3200000 in
set_option maxRecDepth 20000 in
/-- A name that is new, where there is none yet. -/
theorem tputB_any (x : Nat) (cs : Array Value) (k : Int) (n t : E.Bs) (na : Option Addr) (nc : Nat) (w : World) (X : Blk w x cs 96) (h2 : cs[2]? = some (.int .i64 k)) (hk : k ≠ 5) (h3 : cs[3]? = some (.string (E.bs n))) (h4 : cs[4]? = some (.string (E.bs t))) (h6 : cs[6]? = some (.string ⟨#[100]⟩)) (h7 : cs[7]? = some (.string ⟨#[102]⟩)) (h8 : cs[8]? = some (.int .i64 8)) (h14 : cs[14]? = some (.slice na 0 nc)) (hN : w.ownsRow 0 9 1 (.slice na 0 nc) 0 []) (hn : n.length ≤ 1000) :
    Calls Tryz.prog 51 #[.pointer (some ⟨x, 0, none⟩)] w fun e w' => ∃ g c v, e = .returned (.tuple #[.agg (respV 0), .slice (some ⟨g, 0, none⟩) 2 c]) ∧ Only (fun i => i = x ∨ na.map Addr.block = some i) w w' ∧ Blk w' x (cs.setIfInBounds 14 v) 96 ∧ w'.ownsRow w.heap.size 128 3 (.slice (some ⟨g, 0, none⟩) 2 c) 2 [.string (E.bs (102 :: n)), .string (E.bs t), .bool false, .string ⟨#[100]⟩, .string (E.bs (E.joinP [n])), .bool false] := by
  have hxl := X.lt
  obtain ⟨i0, hi0, hz0, hz2, hz3⟩ := info_parts E.info_str
  have hbA := E.below_new w (.cells (respV 0) 42)
  have XA := X.of_block (hbA.block x hxl)
  have RA := hid_of' (Blk.new w (respV 0) 42)
  have NA := row_thru hN (fun g hg => hbA.block g (hN.lt g hg).2)
  have hnx : ∀ g, (Value.slice na 0 nc).ownBlock = some g → g ≠ x := fun g hg e => by
    subst e
    rcases hN.2 with ⟨h1, _⟩ | ⟨g', cap, cur, h1, _, h3', _⟩
    · rw [h1] at hg; cases hg
    · rw [h1] at hg
      cases hg
      unfold Blk at X
      rw [X] at h3'
      injection h3' with h3'
      injection h3' with _ h4'
      exact absurd h4' (by decide)
  have hmap : (Value.slice na 0 nc).ownBlock = na.map Addr.block := by cases na <;> rfl
  have hNlt : Hid (∀ i, (Value.slice na 0 nc).ownBlock = some i → i < w.heap.size) := fun i hi => (hN.lt i hi).2
  unfold respV at *
  generalize hwA : w.alloc (.cells #[.int .i64 0, .string ⟨#[]⟩, .slice none 0 0, .slice none 0 0] 42) = wA at *
  have hbR : Hid (w.heap.size + 1 ≤ wA.heap.size) := by show _ ≤ _; rw [← hwA]; simp
  replace hwA := hid_of' hwA
  have V := value_any x cs k t wA XA h2 h4 hk
  have W := twrite_any x cs n t wA XA h3 h6 h7 h8 hn
  replace hbA := hid_of' hbA
  replace NA := hid_of' NA
  replace XA := hid_of' XA
  replace hnx := hid_of' hnx
  replace hmap := hid_of' hmap
  have h3 := hid_of' h3
  have h6 := hid_of' h6
  have h14 := hid_of' h14
  have h8 := hid_of' h8
  clear X h2 h4 h7 hk hN
  go_enter Tryz.func51, Tryz.ntmps51
  go_wp2_with fail
  rw [hwA.out]
  refine V.mono ?_
  rintro e w0 ⟨rfl, rfl⟩
  clear V
  go_wp2_with fail
  refine W.mono ?_
  rintro e w1 ⟨rfl, hb1⟩
  clear W
  have hb2 := hb1.trans ((E.below_new w1 (.cells #[.string (E.bs (102 :: n)), .string (E.bs t), .bool false] 128)).mono hb1.size)
  have G2 := hid_of' (Blk.new w1 #[.string (E.bs (102 :: n)), .string (E.bs t), .bool false] 128)
  have hg1 := hb1.size
  go_wp2_with fail
  generalize hw2 : w1.alloc (.cells #[.string (E.bs (102 :: n)), .string (E.bs t), .bool false] 128) = w2 at *
  replace hw2 := hid_of' hw2
  have X2 := XA.out.of_block (hb2.block x XA.out.lt)
  have N2 := row_thru NA.out (fun g hg => hb2.block g (NA.out.lt g hg).2)
  have R2 := hid_of' (RA.out.of_block (hb2.block w.heap.size RA.out.lt))
  have I := isNamed_any x cs n [] (.slice na 0 nc) w2 X2 h3.out h14.out (E.strs_of_own N2) (by simp)
  rw [show decide (n ∈ ([] : List E.Bs)) = false by simp] at I
  replace hb2 := hid_of' hb2
  replace X2 := hid_of' X2
  replace N2 := hid_of' N2
  clear hb1 XA NA RA
  refine I.mono ?_
  rintro e w3 ⟨rfl, rfl⟩
  clear I
  have X3 : Blk w2.drew x cs 96 := X2.out
  have c14 : w2.drew.cell? ⟨x, 14, none⟩ = some (.slice na 0 nc) := X3.cell h14.out
  have c3 : w2.drew.cell? ⟨x, 3, none⟩ = some (.string (E.bs n)) := X3.cell h3.out
  have c8 : w2.drew.cell? ⟨x, 8, none⟩ = some (.int .i64 8) := X3.cell h8.out
  have hx3 := X3.lt
  replace X3 := hid_of' X3
  have e14 : w2.drew.drew.cell? ⟨x, 14, none⟩ = some (.slice na 0 nc) := c14
  have e8 : w2.drew.drew.cell? ⟨x, 8, none⟩ = some (.int .i64 8) := c8
  have ex3 : x < w2.drew.drew.heap.size := hx3
  go_wp2_with fail
  go_region
  go_wp2_with fail
  have hb4 : Hid (Below w0.heap.size w0 w2.drew.drew) := hb2.out.drew.drew
  have N4 : w2.drew.drew.drew.ownsRow 0 9 1 (.slice na 0 nc) 0 [] := row_thru N2.out (fun _ _ => rfl)
  have X4 : Hid (Blk w2.drew.drew.drew x cs 96) := X2.out
  have G4 : Hid (Blk w2.drew.drew.drew w1.heap.size #[.string (E.bs (102 :: n)), .string (E.bs t), .bool false] 128) := G2.out
  have R4 : Hid (Blk w2.drew.drew.drew w.heap.size #[.int .i64 0, .string ⟨#[]⟩, .slice none 0 0, .slice none 0 0] 42) := R2.out
  clear c14 c3 c8 e14 e8 hx3 ex3 X3 X2 N2 G2 R2 hb2
  generalize w2.drew.drew = w4 at *
  have c14 : w4.drew.cell? ⟨x, 14, none⟩ = some (.slice na 0 nc) := X4.out.cell h14.out
  have c3 : w4.drew.cell? ⟨x, 3, none⟩ = some (.string (E.bs n)) := X4.out.cell h3.out
  have c14' : w4.cell? ⟨x, 14, none⟩ = some (.slice na 0 nc) := X4.out.cell h14.out
  have c3' : w4.cell? ⟨x, 3, none⟩ = some (.string (E.bs n)) := X4.out.cell h3.out
  have hx4 : x < w4.heap.size := X4.out.lt
  go_region_law
    (first
      | (refine step_append_lies _ (by rfl) _ _ _ (by rfl) 0 9 i0 _ 1 16 Tryz.underlying24 hi0 hz0 hz2 hz3 rfl (by omega) _ 0 [] (by rfl) (N4.alloc _) ⟨w4.heap.size, 0, none⟩ 1 1 [.string (E.bs n)] (by rfl) (by rfl) (World.news_of_block (cs := #[.string (E.bs n)]) (t := 9) (fr := (0, 0)) (heap_alloc_new w4.drew _)) (by simp [Value.oneCell']) (by omega) (by unfold maxLen; omega) (by omega) (by simp) (w4.heap.size + 1) (by simp) ?_; intro g5 cap5 w5 hown5 hgrow5 hat5 hlt5; have X5 := (X4.out.of_block (w' := w4.drew.alloc (.cells #[.string (E.bs n)] 9)) (Below.heap_alloc _ _ _ hx4)).of_block (hgrow5.block x (by simp; exact Nat.lt_succ_of_lt hx4) (fun e => hnx.out x e.symm rfl)); have d14 : w5.cell? ⟨x, 14, none⟩ = some (.slice na 0 nc) := X5.cell h14.out; have f14 := X5.thawed 14; have hx5 := X5.lt))
  all_goals
    have hgx5 : g5 ≠ x := row_ne hown5 X5 (by decide)
    have hnlt : ∀ i, na.map Addr.block = some i → i < w.heap.size := fun i hi => by
      have h1 := (N4.lt i (by rw [hmap.out]; exact hi)).2
      exact hNlt.out i (by rw [hmap.out]; exact hi)
    have OA : Only (fun i => na.map Addr.block = some i) w4 w5 := ⟨hgrow5.os, hgrow5.tape, hgrow5.output, Nat.le_trans (by simp) hgrow5.size, fun i hi hn => by
      rw [hgrow5.block i (by simp; omega) (fun h => hn (by rw [← hmap.out]; exact h.symm))]
      exact Below.heap_alloc _ _ _ hi⟩
    have hG4l := G4.out.lt
    have G6 := G4.out.of_block (w' := w5.setCell ⟨x, 14, none⟩ (.slice (some ⟨g5, 0, none⟩) 1 cap5)) ((set_block _ _ _ _ _ (by have := hbA.out.size; omega)).trans (OA.block _ hG4l (fun h => by have := hnlt _ h; have := hbA.out.size; omega)))
    have R6 := R4.out.of_block (w' := w5.setCell ⟨x, 14, none⟩ (.slice (some ⟨g5, 0, none⟩) 1 cap5)) ((set_block _ _ _ _ _ (by omega)).trans (OA.block _ R4.out.lt (fun h => by have := hnlt _ h; omega)))
    have X6 := X5.set 14 (.slice (some ⟨g5, 0, none⟩) 1 cap5)
    have N6 := E.owns_of_block' hown5 (w' := w5.setCell ⟨x, 14, none⟩ (.slice (some ⟨g5, 0, none⟩) 1 cap5)) (fun g' hg' => by cases hg'; exact set_block _ _ _ _ _ hgx5)
    have O46 := (OA.mono (G := fun i => i = x ∨ na.map Addr.block = some i) (fun i _ h => .inr h)).trans (Only.setR w5 x 14 (.slice (some ⟨g5, 0, none⟩) 1 cap5)) (fun i _ h => .inl h)
    have d14' : (w5.setCell ⟨x, 14, none⟩ (.slice (some ⟨g5, 0, none⟩) 1 cap5)).cell? ⟨x, 14, none⟩ = some (.slice (some ⟨g5, 0, none⟩) 1 cap5) := X6.cell (by rw [Array.getElem?_setIfInBounds_self_of_lt ((Array.getElem?_eq_some_iff.1 h14.out).1)])
    have hx6 := X6.lt
    replace G6 := hid_of' G6
    replace R6 := hid_of' R6
    replace X6 := hid_of' X6
    replace N6 := hid_of' N6
    replace O46 := hid_of' O46
    clear hown5 hgrow5 hat5 hlt5 X5 d14 f14 hx5 c14 c3 c14' c3' N4 X4 G4 R4 OA hgx5 hx4
    generalize w5.setCell ⟨x, 14, none⟩ (.slice (some ⟨g5, 0, none⟩) 1 cap5) = w6 at *
    go_wp2_with fail
    refine (sort1_any _ _ _).mono ?_
    rintro e w7 ⟨rfl, rfl⟩
    go_wp2_with fail
    refine (told_any 0 _).mono ?_
    rintro e w8 ⟨rfl, hb8⟩
    have X8 := X6.out.of_block (hb8.block x hx6)
    have N8 := row_thruA N6.out (fun g' hg' => hb8.block g' (N6.out.lt g' hg').2)
    have G8 := G6.out.of_block (hb8.block _ G6.out.lt)
    have R8 := R6.out.of_block (hb8.block _ R6.out.lt)
    have WN := writeNames_any x _ [n] (.slice (some ⟨g5, 0, none⟩) 1 cap5) w8 X8 (by rw [Array.getElem?_setIfInBounds_ne (by decide)]; exact h6.out) (by rw [Array.getElem?_setIfInBounds_self_of_lt ((Array.getElem?_eq_some_iff.1 h14.out).1)]) (E.strs_of_own N8) (by simp [E.joinP]; omega) (by simp)
    have hx8 := X8.lt
    replace X8 := hid_of' X8
    replace G8 := hid_of' G8
    replace R8 := hid_of' R8
    have O48 := hid_of' (O46.out.trans (Only.of_below' hb8 (fun i => i = x ∨ na.map Addr.block = some i)) (fun _ _ h => h))
    clear N8 N6 G6 R6 X6 hb8 d14' hx6
    unfold respV
    go_wp2_with fail
    refine WN.mono ?_
    rintro e w9 ⟨rfl, hb9⟩
    clear WN
    have X9 := hid_of' (X8.out.of_block (hb9.block x hx8))
    have G9 := G8.out.of_block (hb9.block _ G8.out.lt)
    have R9 := R8.out.of_block (hb9.block _ R8.out.lt)
    have O49 := hid_of' (O48.out.trans (Only.of_below' hb9 (fun i => i = x ∨ na.map Addr.block = some i)) (fun _ _ h => h))
    have hs9 := O49.out.size
    have hs4 := hb4.out.size
    have hsA := hbA.out.size
    obtain ⟨j0, hj0, jz0, jz2, jz3⟩ := info_parts info_wrt
    have hrow : w9.ownsRow w.heap.size 128 3 (.slice (some ⟨w1.heap.size, 0, none⟩) 1 1) 1 [.string (E.bs (102 :: n)), .string (E.bs t), .bool false] := ⟨rfl, .inr ⟨_, 1, _, rfl, by omega, G9, Nat.le_refl _, by unfold maxLen; omega, rfl, rfl⟩⟩
    have hRg : w.heap.size ≠ w1.heap.size := by have := hbR.out; omega
    clear X8 G8 R8 O48 hb9 hx8 G9
    go_wp2_with (at_builtin; (refine wpList_append_lies _ rfl _ _ 117 rfl w.heap.size 128 j0 (.agg #[.string ⟨#[]⟩, .string ⟨#[]⟩, .bool false]) 3 40 Tryz.underlying117 hj0 jz0 jz2 jz3 rfl (by decide) _ 1 _ rfl (hrow.alloc _) ⟨w9.heap.size, 0, none⟩ 1 1 [.string ⟨#[100]⟩, .string (E.bs (E.joinP [n])), .bool false] rfl rfl (World.news_of_block (cs := #[.string ⟨#[100]⟩, .string (E.bs (E.joinP [n])), .bool false]) (t := 128) (fr := (0, 0)) (heap_alloc_new w9 _)) (by simp [Value.oneCell']) (by omega) (by unfold maxLen; omega) (by omega) (by simp; omega) (w9.heap.size + 1) (by simp) ?_; intro g10 cap10 w10 hown10 hgrow10 hat10 hlt10; have R10 := (R9.of_block (w' := w9.alloc (.cells #[.string ⟨#[100]⟩, .string (E.bs (E.joinP [n])), .bool false] 128)) (Below.heap_alloc _ _ _ R9.lt)).of_block (hgrow10.block w.heap.size (by have := R9.lt; simp; omega) (fun e => hRg (Option.some.inj e))); have y0 : w10.cell? ⟨w.heap.size, 0, none⟩ = some (.int .i64 0) := R10.cell rfl; have y1 : w10.cell? ⟨w.heap.size, 1, none⟩ = some (.string ⟨#[]⟩) := R10.cell rfl; have y2 : w10.cell? ⟨w.heap.size, 2, none⟩ = some (.slice none 0 0) := R10.cell rfl; have y3 : w10.cell? ⟨w.heap.size, 3, none⟩ = some (.slice none 0 0) := R10.cell rfl; have z0 := R10.thawed 0; have z1 := R10.thawed 1; have z2 := R10.thawed 2; have z3 := R10.thawed 3; have hR10 := R10.lt))
    have hg10 : g10 ≠ w.heap.size := row_ne hown10 R10 (by decide)
    have hrw : ∀ i, i < w9.heap.size → i ≠ w1.heap.size → w10.heap[i]? = w9.heap[i]? := fun i hi hn =>
      (hgrow10.block i (by simp; omega) (fun e => hn (Option.some.inj e))).trans (Below.heap_alloc _ _ _ hi)
    have hs10 : w9.heap.size + 1 ≤ w10.heap.size := Nat.le_trans (by simp) hgrow10.size
    have O10 : Only (fun i => i = w1.heap.size) w9 w10 := ⟨hgrow10.os, hgrow10.tape, hgrow10.output, by omega, hrw⟩
    have hxw : x ≠ w.heap.size := by omega
    have hx9 := X9.out.lt
    have X10 := X9.out.of_block (hrw x hx9 (by omega))
    have S0 := Only.setR w10 w.heap.size 0 (.int .i64 0)
    have S1 := S0.trans (Only.setR _ w.heap.size 1 (.string ⟨#[]⟩)) (fun _ _ h => h)
    have S2 := S1.trans (Only.setR _ w.heap.size 2 (.slice none 0 0)) (fun _ _ h => h)
    have S3 := S2.trans (Only.setR _ w.heap.size 3 (.slice none 0 0)) (fun _ _ h => h)
    have Z := (((R10.set 0 (.int .i64 0)).set 1 (.string ⟨#[]⟩)).set 2 (.slice none 0 0)).set 3 (.slice none 0 0)
    have u0 := Z.cell (i := 0) rfl
    have u1 := Z.cell (i := 1) rfl
    have u2 := Z.cell (i := 2) rfl
    have u3 := Z.cell (i := 3) rfl
    simp at u0 u1 u2 u3
    have OF : Only (fun i => i = x ∨ na.map Addr.block = some i) w _ := ((((Only.of_below' hbA.out (fun i => i = x ∨ na.map Addr.block = some i)).trans (Only.of_below hb4.out) (fun i hi h => by omega)).trans O49.out (fun _ _ h => h)).trans O10 (fun i hi h => by omega)).trans S3 (fun i hi h => by omega)
    have XF := X10.of_block (S3.block x X10.lt hxw)
    have RF := E.owns_of_block' hown10 (fun g' hg' => by cases hg'; exact S3.block g10 hlt10 hg10)
    refine bodyPost_ret (v := .tuple #[.agg #[.int .i64 0, .string ⟨#[]⟩, .slice none 0 0, .slice none 0 0], .slice (some ⟨g10, 0, none⟩) 2 cap10]) (by simp [results, Tryz.results51, go_sem, u0, u1, u2, u3]) rfl ⟨g10, cap10, _, rfl, OF, XF, RF⟩
end Go.Proofs.YtlncljfljjaacaaGreatDoor
