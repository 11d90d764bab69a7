/- ExprReads: for every row of raw expressions, every place, byte, cut, row of numbers and text, and at the laid values of the listed variables, the law answers true: whether a text is an expression, and which, is told alike by the program and the reference. -/
import Derived.Test.YtopfnfmglnjljaaGreatDoorRows
import Derived.WalkKit
import Derived.ProofKit
import Derived.OpenShut
import Derived.LaidMore
import Derived.Stop.Joined
import Derived.SevenTiedAt
import Derived.Laws.BytesArg
import Derived.BigQuiet
import Derived.Lay
import Derived.MakeChecks
import Derived.Test.YtopfnfmglnjljaaGreatDoorTie
import Derived.Test.YtopfnfmglnjljaaGreatDoorCards
import Derived.Test.YtopfnfmglnjljaaGreatDoorLaid
import Derived.Test.YtopfnfmglnjljaaGreatDoorKnown
import Derived.Test.YtopfnfmglnjljaaGreatDoorWithin
import Derived.Test.YtopfnfmglnjljaaGreatDoorArgs
import Derived.Test.YtopfnfmglnjljaaGreatDoorFits
import Derived.Test.YtopfnfmglnjljaaGreatDoorRefText
import Derived.Test.YtopfnfmglnjljaaGreatDoorRefSame
import Derived.Test.YtopfnfmglnjljaaGreatDoorReads
namespace Go.Proofs.YtopfnfmglnjljaaGreatDoor.exprReads
open Go.ChangeShapes Go.WideShapes Go.ChangeAt Go.RowKit
open Go.ChangeMaps (open_string shut_string)
set_option linter.unusedVariables false
set_option linter.unusedSimpArgs false

theorem own : ownKnob Tryz.prog.godebug = none := by kernel_rfl

theorem raw_len (a : ByteArray) : a.data.toList.length = a.size := by cases a; rfl
open Go.Proofs.YtopfnfmglnjljaaGreatDoor.Ly Go.Proofs.YtopfnfmglnjljaaGreatDoor.Rf
theorem u8_some (x : Int) : ∃ c : UInt8, x % 256 = (c.toNat : Int) := by
  refine ⟨UInt8.ofNat (x % 256).toNat, ?_⟩
  rw [UInt8.toNat_ofNat']
  omega
/-- What may be laid in. -/
def pieces : List Bs := [[49], [32], [43], [45], [42], [40], [41], [120], [60, 60], [62, 62], [38], [124], [46], [48, 120, 49, 102], [114, 51], [49, 50], [32, 55, 32], [60], [97, 95, 98], [48, 120]]
theorem pieces_len (r : Nat) : (pieces.getD r []).length ≤ 4 := by
  by_cases h : r < 20
  · have : ∀ i : Fin 20, (pieces.getD i.val []).length ≤ 4 := by decide
    exact this ⟨r, h⟩
  · rw [List.getD_eq_getElem?_getD, List.getElem?_eq_none (by simp [pieces]; omega)]; simp
theorem pieces_cell (r : Nat) (h : r < 20) : (#[.string ⟨#[49]⟩, .string ⟨#[32]⟩, .string ⟨#[43]⟩, .string ⟨#[45]⟩, .string ⟨#[42]⟩, .string ⟨#[40]⟩, .string ⟨#[41]⟩, .string ⟨#[120]⟩, .string ⟨#[60, 60]⟩, .string ⟨#[62, 62]⟩, .string ⟨#[38]⟩, .string ⟨#[124]⟩, .string ⟨#[46]⟩, .string ⟨#[48, 120, 49, 102]⟩, .string ⟨#[114, 51]⟩, .string ⟨#[49, 50]⟩, .string ⟨#[32, 55, 32]⟩, .string ⟨#[60]⟩, .string ⟨#[97, 95, 98]⟩, .string ⟨#[48, 120]⟩] : Array Value)[r]? = some (.string (bs (pieces.getD r []))) := by
  have e : (#[.string ⟨#[49]⟩, .string ⟨#[32]⟩, .string ⟨#[43]⟩, .string ⟨#[45]⟩, .string ⟨#[42]⟩, .string ⟨#[40]⟩, .string ⟨#[41]⟩, .string ⟨#[120]⟩, .string ⟨#[60, 60]⟩, .string ⟨#[62, 62]⟩, .string ⟨#[38]⟩, .string ⟨#[124]⟩, .string ⟨#[46]⟩, .string ⟨#[48, 120, 49, 102]⟩, .string ⟨#[114, 51]⟩, .string ⟨#[49, 50]⟩, .string ⟨#[32, 55, 32]⟩, .string ⟨#[60]⟩, .string ⟨#[97, 95, 98]⟩, .string ⟨#[48, 120]⟩] : Array Value) = (pieces.map fun s => Value.string (bs s)).toArray := rfl
  rw [e]
  simp only [List.getElem?_toArray, List.getElem?_map, List.getD_eq_getElem?_getD]
  rw [List.getElem?_eq_getElem (by simp [pieces]; omega)]
  simp

/-! ### The walk -/
set_option maxHeartbeats 20000000 in
set_option maxRecDepth 20000 in
theorem walk (v0 : Value) (a0 : Fo) (a1 : Int) (w1 : (Lit.int .i64 a1).wf = true) (a2 : Int) (w2 : (Lit.int .u8 a2).wf = true) (a3 : Int) (w3 : (Lit.int .i64 a3).wf = true) (v4 : Value) (a4 : List Int) (w4 : InRange a4) (l4 : a4.length ≤ maxLen) (a5 : ByteArray) (w5 : a5.size ≤ maxLen) (w : World) (T : Tab w) (s0 : RawsAt w v0 a0) (s4 : SliceIs w v4 a4) :
    Calls Tryz.prog 4 #[v0, .int .i64 a1, .int .u8 a2, .int .i64 a3, v4, .string a5] w fun e w' => e = .returned (.bool true) ∧ Below w.heap.size w w' := by
  have K := known_any w T
  obtain ⟨p, cap, rfl, hm, hA⟩ := id s0
  obtain ⟨p2, cap2, rfl, hc2⟩ := id s4
  clear hA
  go_enter Tryz.func4, Tryz.ntmps4
  go_wp2_with fail
  refine K.mono ?_
  rintro e U1 ⟨rfl, hb1⟩
  clear K
  have F := few_any a0 _ U1 (s0.later hb1)
  go_wp2_with fail
  refine F.mono ?_
  rintro e U2 ⟨hb2, fw, rfl, hfew⟩
  have B2 := hb1.trans (hb2.mono hb1.size)
  clear F hb1 hb2
  cases fw with
  | false =>
    clear hfew
    go_wp2_with fail
    go_ret
    exact ⟨rfl, B2⟩
  | true =>
    by_cases h100 : a5.size ≤ 100
    · have h100I : ¬ (100 : Int) < (a5.size : Int) := by omega
      have hdeep := (hfew rfl).2
      have O := one_any a0 _ U2 (s0.later B2)
      have hsm := one_small a0
      have hwh := one_whole a0
      have hlen := one_len a0 hdeep
      have hne := told_ne _ (fit_told _ (one_fit a0))
      clear hfew hdeep
      go_wp2_with fail
      refine O.mono ?_
      rintro e W3 ⟨hb3, v, rfl, hx⟩
      have B3 := B2.trans (hb3.mono B2.size)
      have X := rtext_any _ (oneP a0) hsm hwh (by omega) v W3 hx
      obtain ⟨ka, na, ta, qa, la, ma, rfl⟩ := hx.form
      clear O hb3
      go_wp2_with fail
      refine X.mono ?_
      rintro e W4 ⟨rfl, hb4⟩
      have B4 := B3.trans (hb4.mono B3.size)
      clear X hb4 hx B2 B3 hsm hwh
      generalize textP (oneP a0) = S at *
      have hpos : 0 < S.length := by cases S with
        | nil => exact absurd rfl hne
        | cons => simp
      clear hne
      have hsz := bs_size S
      have CV := Lib.run_convert_string_bytes (P := Tryz.prog) W4 9 36 5 (bs S) Tryz.underlying9 Tryz.underlying36 Tryz.underlying5
      have nb := bytes_below W4 5 (bs S)
      have cb := fun j hj => bytes_cell W4 5 S j hj
      have fb := fun j (hj : j < S.length) => bytes_thawed W4 5 (bs S) j (by rw [bs_size]; exact hj)
      have zb : (Lib.bytesWorld W4 5 (bs S)).heap.size = W4.heap.size + 1 := Lib.bytesWorld_size _ _ _
      rw [hsz] at CV
      generalize grownCap W4 S.length 0 5 = capb at *
      generalize Lib.bytesWorld W4 5 (bs S) = W5 at *
      have B5 := B4.trans (nb.mono B4.size)
      have I1 := within_any a1 (S.length : Int) (by omega) (by omega) W5
      have r1 := Int.emod_nonneg a1 (show (S.length : Int) ≠ 0 by omega)
      have r2 := Int.emod_lt_of_pos a1 (show (0 : Int) < (S.length : Int) by omega)
      generalize a1 % (S.length : Int) = kk1 at *
      obtain ⟨k1, rfl⟩ : ∃ k : Nat, kk1 = k := ⟨kk1.toNat, by omega⟩
      have hk1 : k1 < S.length := by omega
      have x1 := cb k1 hk1
      have f1 := fb k1 hk1
      have hlt5 : W4.heap.size < W5.heap.size := by omega
      obtain ⟨z1, hz1⟩ : ∃ z : Int, ((S.getD k1 0).toNat : Int) = z := ⟨_, rfl⟩
      rw [hz1] at x1
      clear hz1
      obtain ⟨c1, hc1⟩ := u8_some (z1 + a2)
      have XB : Hid (∀ (j : Nat) x, (S.set k1 c1)[j]? = some x → (W5.setCell ⟨W4.heap.size, k1, none⟩ (.int .u8 (c1.toNat : Int))).cell? ⟨W4.heap.size, j, none⟩ = some (.int .u8 (x.toNat : Int))) := fun j x hj => by
        rw [List.getElem?_set] at hj
        by_cases e : k1 = j
        · subst e
          rw [if_pos rfl, if_pos hk1] at hj
          cases hj
          exact World.cell?_setCell_same _ _ _ x1
        · rw [if_neg e] at hj
          rw [World.cell?_setCell_other _ _ _ _ (fun h => e (by cases h; rfl))]
          obtain ⟨hjl, hj⟩ := List.getElem?_eq_some_iff.1 hj
          rw [cb j hjl, List.getD_eq_getElem?_getD, List.getElem?_eq_getElem hjl, hj]
          rfl
      have hxl : Hid ((S.set k1 c1).length = S.length) := List.length_set
      have B6 : Below w.heap.size w (W5.setCell ⟨W4.heap.size, k1, none⟩ (.int .u8 (c1.toNat : Int))) := B5.setCell (p := ⟨W4.heap.size, k1, none⟩) B4.size _
      clear cb fb hc2
      go_wp2_with fail
      refine I1.mono ?_
      rintro e w' ⟨rfl, rfl⟩
      have hk1I : (k1 : Int) < (S.length : Int) := by omega
      clear I1
      go_wp2_with fail
      generalize W5.setCell ⟨W4.heap.size, k1, none⟩ (.int .u8 (c1.toNat : Int)) = W6 at *
      clear x1 f1 hc1 B5 nb CV zb hlt5
      have I2 := within_any a3 ((S.length : Int) + 1) (by omega) (by omega) W6
      have r3 := Int.emod_nonneg a3 (show (S.length : Int) + 1 ≠ 0 by omega)
      have r4 := Int.emod_lt_of_pos a3 (show (0 : Int) < (S.length : Int) + 1 by omega)
      generalize a3 % ((S.length : Int) + 1) = kk2 at *
      obtain ⟨k2, rfl⟩ : ∃ k : Nat, kk2 = k := ⟨kk2.toNat, by omega⟩
      have hk2 : k2 ≤ S.length := by omega
      refine I2.mono ?_
      rintro e w' ⟨rfl, rfl⟩
      clear I2 r1 r2 r3 r4 hk1I hk1
      go_wp2_with fail
      have s6 := s4.later B6
      obtain ⟨p3, cap3, e3, hc3⟩ := id s6
      cases e3
      clear s4
      go_loopw [16, 17] (fun more i wr => ∃ (j : Nat) (m : Bs), j ≤ a4.length ∧ j ≤ 20 ∧ i = .int .i64 j ∧ more = .string (bs m) ∧ m.length ≤ 4 * j ∧ Below W6.heap.size W6 wr) (fun more i _ => 20 - (intOf i).toNat)
      case atStart => exact ⟨0, [], by omega, by omega, rfl, rfl, by simp, Below.refl _ _⟩
      case round =>
        obtain ⟨j, m, hj1, hj2, rfl, rfl, hml, hb7⟩ := hrel
        by_cases hjn : j < a4.length
        · have hjI : (j : Int) < (a4.length : Int) := by omega
          by_cases hj20 : j < 20
          · have hj20I : (j : Int) < 20 := by omega
            obtain ⟨z, hz⟩ : ∃ z, a4[j]? = some z := ⟨_, List.getElem?_eq_getElem hjn⟩
            obtain ⟨b, o, rfl, hcell⟩ := hc3 (by intro h; rw [h] at hjn; simp at hjn)
            have cz := kept_cell hb7 (hcell _ z hz)
            have J := fun W => within_any z 20 (by omega) (by omega) W
            have q1 := Int.emod_nonneg z (show (20 : Int) ≠ 0 by omega)
            have q2 := Int.emod_lt_of_pos z (show (0 : Int) < 20 by omega)
            generalize z % 20 = rr at *
            obtain ⟨r, rfl⟩ : ∃ k : Nat, rr = k := ⟨rr.toNat, by omega⟩
            have hr : r < 20 := by omega
            have PC := pieces_cell r hr
            have PL := pieces_len r
            have A := fun W => run_string_add_sum (P := Tryz.prog) W (bs m) (bs (pieces.getD r [])) (by rw [dec_size, dec_size]; omega)
            simp only [dec_app] at A
            generalize pieces.getD r [] = pc at *
            have hbl : b < wr.heap.size := block_lt_of_cell cz
            have n8 := below_new wr (.cells #[.string ⟨#[49]⟩, .string ⟨#[32]⟩, .string ⟨#[43]⟩, .string ⟨#[45]⟩, .string ⟨#[42]⟩, .string ⟨#[40]⟩, .string ⟨#[41]⟩, .string ⟨#[120]⟩, .string ⟨#[60, 60]⟩, .string ⟨#[62, 62]⟩, .string ⟨#[38]⟩, .string ⟨#[124]⟩, .string ⟨#[46]⟩, .string ⟨#[48, 120, 49, 102]⟩, .string ⟨#[114, 51]⟩, .string ⟨#[49, 50]⟩, .string ⟨#[32, 55, 32]⟩, .string ⟨#[60]⟩, .string ⟨#[97, 95, 98]⟩, .string ⟨#[48, 120]⟩] 9)
            have B8 := hb7.trans (n8.mono hb7.size)
            have hrI : (r : Int) < 20 := by omega
            clear hcell hc3 s6 XB n8
            go_wp2_with fail
            refine (J _).mono ?_
            rintro e w' ⟨rfl, rfl⟩
            clear J cz
            generalize hWn : wr.alloc _ = W8 at *
            have c8 : W8.cell? ⟨wr.heap.size, r, none⟩ = some (.string (bs pc)) := by rw [← hWn]; exact new_cell _ r _ PC
            clear hWn PC
            go_wp2_with fail
            go_roundw
            case rel => exact ⟨j + 1, m ++ pc, by omega, by omega, by simp, rfl, by simp; omega, B8⟩
            case measure => simp [intOf]; omega
          · have hj20I : ¬ (j : Int) < 20 := by omega
            go_wp2_with fail
            obtain ⟨xs, hx0⟩ : ∃ xs, xs = S.set k1 c1 := ⟨_, rfl⟩
            rw [← hx0] at XB hxl
            clear hx0
            have hxs : xs.length = S.length := hxl
            have tl : (S.take k2).length ≤ S.length := by simp; omega
            have dl : (S.drop k2).length ≤ S.length := by simp
            have X9 : ∀ v, Below wr.drew.heap.size wr.drew v → ∀ (j : Nat) x, xs[j]? = some x → v.cell? ⟨W4.heap.size, j, none⟩ = some (.int .u8 (x.toNat : Int)) := fun v hv j x hj => kept_cell hv (kept_cell (Below.drew (Below.refl _ _)) (kept_cell hb7 (XB.out j x hj)))
            refine Orders.region_inv (by kernel_rfl) (fun u => { tmps := #[Value.slice p a0.len cap, Value.int IntKind.i64 a1, Value.int IntKind.u8 a2, Value.int IntKind.i64 a3, Value.slice p2 a4.length cap2, Value.string a5, undef, undef, undef, undef, undef, undef, Value.bool false, Value.string (bs S), Value.slice (some ⟨W4.heap.size, 0, none⟩) (List.length S) capb, Value.int IntKind.i64 ↑k2, Value.string (bs m), Value.int IntKind.i64 ↑j, u 20, undef, undef, undef, undef, undef, Value.bool true, Value.bool false, Value.slice p a0.len cap, Value.bool true, Value.bool false, Value.bool false, Value.string a5, Value.int IntKind.i64 ↑a5.size, Value.bool (decide ((100 : Int) < (a5.size : Int))), Value.bool (decide ((100 : Int) < (a5.size : Int))), Value.slice p a0.len cap, Value.agg #[Value.int IntKind.i64 ka, Value.int IntKind.i64 na, Value.string ta, Value.slice qa la ma], Value.string (bs S), Value.string (bs S), Value.slice (some ⟨W4.heap.size, 0, none⟩) (List.length S) capb, Value.slice (some ⟨W4.heap.size, 0, none⟩) (List.length S) capb, Value.int IntKind.i64 a1, Value.slice (some ⟨W4.heap.size, 0, none⟩) (List.length S) capb, Value.int IntKind.i64 ↑(List.length S), Value.int IntKind.i64 ↑k1, Value.pointer (some ⟨W4.heap.size, k1, none⟩), Value.int IntKind.u8 z1, Value.int IntKind.u8 a2, Value.int IntKind.u8 ((z1 + a2) % 256), Value.pointer (some ⟨W4.heap.size, k1, none⟩), Value.int IntKind.i64 a3, Value.string (bs S), Value.int IntKind.i64 ↑(List.length S), Value.int IntKind.i64 (↑(List.length S) + 1), Value.int IntKind.i64 ↑k2, Value.int IntKind.i64 ↑j, Value.slice p2 a4.length cap2, Value.int IntKind.i64 ↑a4.length, Value.bool true, Value.bool true, Value.int IntKind.i64 ↑j, Value.bool false, Value.bool false, u62, u63, u64, u65, u66, u67, u68, u69, u70, u71, u72, u73, u 0, u 1, u 2, u 3, u 4, u 5, u 6, u 7, u 8, u 9, u 10, u 11, u 12, u 13, u 14, u 15, u 16, u 17, u 18, u 19, undef, undef, undef, undef, undef, undef, undef, undef, undef, undef, undef, undef, undef, undef, undef, undef, undef, undef, undef, undef, undef, undef, undef, undef, undef, undef, undef, undef, undef, undef, undef], defers := [] }) (RowsI wr.drew (fun k => ([.slice (some ⟨W4.heap.size, 0, none⟩) S.length capb, .string (bs xs), .string (bs S), .int .i64 (k2 : Int), .string (bs (S.take k2)), .string (bs S), .int .i64 (k2 : Int), .string (bs (S.take k2)), .string (bs m), .string (bs (S.take k2 ++ m)), .string (bs S), .int .i64 (k2 : Int), .string (bs (S.drop k2)), .string (bs (S.take k2 ++ m ++ S.drop k2)), .string a5, .string (bs m), .string (bs m), .string (bs ([40] ++ m)), .string (bs ([40] ++ m ++ [41]))] : List Value).getD k undef) (.cells #[.string (bs xs), .string (bs (S.take k2)), .string (bs (S.take k2 ++ m ++ S.drop k2)), .string a5, .string (bs m), .string (bs ([40] ++ m ++ [41]))] 9)) (by kernel_rfl) (fun _ => undef) ?_ ?_ ?_
            · exact ⟨nofun, .inl ⟨rfl, rfl⟩, nofun⟩
            · intro i op L u v ho hL hp hI
              have hi : i < 21 := by
                by_cases hi : i < 21
                · exact hi
                · rw [Array.getElem?_eq_none (by simp; omega)] at ho; cases ho
              have hbv := hI.below
              match i, hi with
              | 0, _ =>
                cases ho
                exact Orders.step_value rfl rfl (run_move _ _ _ _ _ rfl rfl) ⟨_, rfl, hI.put 0 (by omega) rfl⟩
              | 1, _ =>
                cases ho
                have e0 : u 0 = .slice (some ⟨W4.heap.size, 0, none⟩) S.length capb := hI.1 0 (by omega) (hp ⟨0, Ground.data⟩ (by simp) rfl)
                rw [← hxs] at e0
                exact Orders.step_value rfl rfl (run_textOf _ _ _ _ W4.heap.size capb xs rfl e0 (X9 v hbv)) ⟨_, rfl, hI.put 1 (by omega) rfl⟩
              | 2, _ =>
                cases ho
                exact Orders.step_value rfl rfl (run_move _ _ _ _ _ rfl rfl) ⟨_, rfl, hI.put 2 (by omega) rfl⟩
              | 3, _ =>
                cases ho
                exact Orders.step_value rfl rfl (run_move _ _ _ _ _ rfl rfl) ⟨_, rfl, hI.put 3 (by omega) rfl⟩
              | 4, _ =>
                cases ho
                have e0 : u 2 = .string (bs S) := hI.1 2 (by omega) (hp ⟨2, Ground.data⟩ (by simp) rfl)
                have e1 : u 3 = .int .i64 (k2 : Int) := hI.1 3 (by omega) (hp ⟨3, Ground.data⟩ (by simp) rfl)
                exact Orders.step_value rfl rfl (run_sliceTo _ _ _ _ _ S k2 rfl e0 e1 hk2) ⟨_, rfl, hI.put 4 (by omega) rfl⟩
              | 5, _ =>
                cases ho
                exact Orders.step_value rfl rfl (run_move _ _ _ _ _ rfl rfl) ⟨_, rfl, hI.put 5 (by omega) rfl⟩
              | 6, _ =>
                cases ho
                exact Orders.step_value rfl rfl (run_move _ _ _ _ _ rfl rfl) ⟨_, rfl, hI.put 6 (by omega) rfl⟩
              | 7, _ =>
                cases ho
                have e0 : u 5 = .string (bs S) := hI.1 5 (by omega) (hp ⟨5, Ground.data⟩ (by simp) rfl)
                have e1 : u 6 = .int .i64 (k2 : Int) := hI.1 6 (by omega) (hp ⟨6, Ground.data⟩ (by simp) rfl)
                exact Orders.step_value rfl rfl (run_sliceTo _ _ _ _ _ S k2 rfl e0 e1 hk2) ⟨_, rfl, hI.put 7 (by omega) rfl⟩
              | 8, _ =>
                cases ho
                exact Orders.step_value rfl rfl (run_move _ _ _ _ _ rfl rfl) ⟨_, rfl, hI.put 8 (by omega) rfl⟩
              | 9, _ =>
                cases ho
                have e0 : u 7 = .string (bs (S.take k2)) := hI.1 7 (by omega) (hp ⟨7, Ground.data⟩ (by simp) rfl)
                have e1 : u 8 = .string (bs m) := hI.1 8 (by omega) (hp ⟨8, Ground.data⟩ (by simp) rfl)
                exact Orders.step_value rfl rfl (run_addText _ _ _ _ _ (S.take k2) m rfl e0 e1 (by omega)) ⟨_, rfl, hI.put 9 (by omega) rfl⟩
              | 10, _ =>
                cases ho
                exact Orders.step_value rfl rfl (run_move _ _ _ _ _ rfl rfl) ⟨_, rfl, hI.put 10 (by omega) rfl⟩
              | 11, _ =>
                cases ho
                exact Orders.step_value rfl rfl (run_move _ _ _ _ _ rfl rfl) ⟨_, rfl, hI.put 11 (by omega) rfl⟩
              | 12, _ =>
                cases ho
                have e0 : u 10 = .string (bs S) := hI.1 10 (by omega) (hp ⟨10, Ground.data⟩ (by simp) rfl)
                have e1 : u 11 = .int .i64 (k2 : Int) := hI.1 11 (by omega) (hp ⟨11, Ground.data⟩ (by simp) rfl)
                exact Orders.step_value rfl rfl (run_sliceFrom _ _ _ _ _ S k2 rfl e0 e1 hk2) ⟨_, rfl, hI.put 12 (by omega) rfl⟩
              | 13, _ =>
                cases ho
                have e0 : u 9 = .string (bs (S.take k2 ++ m)) := hI.1 9 (by omega) (hp ⟨9, Ground.data⟩ (by simp) rfl)
                have e1 : u 12 = .string (bs (S.drop k2)) := hI.1 12 (by omega) (hp ⟨12, Ground.data⟩ (by simp) rfl)
                exact Orders.step_value rfl rfl (run_addText _ _ _ _ _ (S.take k2 ++ m) (S.drop k2) rfl e0 e1 (by rw [List.length_append]; omega)) ⟨_, rfl, hI.put 13 (by omega) rfl⟩
              | 14, _ =>
                cases ho
                exact Orders.step_value rfl rfl (run_move _ _ _ _ _ rfl rfl) ⟨_, rfl, hI.put 14 (by omega) rfl⟩
              | 15, _ =>
                cases ho
                exact Orders.step_value rfl rfl (run_move _ _ _ _ _ rfl rfl) ⟨_, rfl, hI.put 15 (by omega) rfl⟩
              | 16, _ =>
                cases ho
                exact Orders.step_value rfl rfl (run_move _ _ _ _ _ rfl rfl) ⟨_, rfl, hI.put 16 (by omega) rfl⟩
              | 17, _ =>
                cases ho
                have e1 : u 16 = .string (bs m) := hI.1 16 (by omega) (hp ⟨16, Ground.data⟩ (by simp) rfl)
                exact Orders.step_value rfl rfl (run_addText _ _ _ _ _ [40] m rfl rfl e1 (by simp; omega)) ⟨_, rfl, hI.put 17 (by omega) rfl⟩
              | 18, _ =>
                cases ho
                have e0 : u 17 = .string (bs ([40] ++ m)) := hI.1 17 (by omega) (hp ⟨17, Ground.data⟩ (by simp) rfl)
                exact Orders.step_value rfl rfl (run_addText _ _ _ _ _ ([40] ++ m) [41] rfl e0 rfl (by simp; omega)) ⟨_, rfl, hI.put 18 (by omega) rfl⟩
              | 19, _ =>
                cases ho
                have e0 : u 1 = .string (bs xs) := hI.1 1 (by omega) (hp ⟨1, Ground.data⟩ (by simp) rfl)
                have e1 : u 4 = .string (bs (S.take k2)) := hI.1 4 (by omega) (hp ⟨4, Ground.data⟩ (by simp) rfl)
                have e2 : u 13 = .string (bs (S.take k2 ++ m ++ S.drop k2)) := hI.1 13 (by omega) (hp ⟨13, Ground.data⟩ (by simp) rfl)
                have e3 : u 14 = .string a5 := hI.1 14 (by omega) (hp ⟨14, Ground.data⟩ (by simp) rfl)
                have e4 : u 15 = .string (bs m) := hI.1 15 (by omega) (hp ⟨15, Ground.data⟩ (by simp) rfl)
                have e5 : u 18 = .string (bs ([40] ++ m ++ [41])) := hI.1 18 (by omega) (hp ⟨18, Ground.data⟩ (by simp) rfl)
                obtain ⟨rfl, hI'⟩ := hI.lay hL
                exact Orders.step_value rfl rfl (run_build6 _ _ _ _ _ _ _ _ _ _ _ _ _ _ _ rfl e0 e1 e2 e3 e4 e5) ⟨_, rfl, hI'⟩
              | 20, _ =>
                cases ho
                obtain ⟨e0, hI'⟩ := hI.set (hp ⟨19, Ground.data⟩ (by simp) rfl)
                exact Orders.step_value rfl rfl (run_assign _ _ _ _ _ rfl e0) ⟨_, rfl, hI'⟩
            · intro L u v hall hI
              obtain ⟨-, h2, h3⟩ := hI
              have e20 := (h3 (hall 20 (by decide))).1
              rcases h2 with ⟨h2, _⟩ | ⟨-, -, hv⟩
              · rw [hall 19 (by decide)] at h2; cases h2
              have d9 : Below wr.heap.size wr wr.drew := Below.drew (Below.refl _ _)
              have n9 := below_new wr.drew (.cells #[.string (bs xs), .string (bs (S.take k2)), .string (bs (S.take k2 ++ m ++ S.drop k2)), .string a5, .string (bs m), .string (bs ([40] ++ m ++ [41]))] 9)
              have CR : Hid (∀ i : Nat, i < 6 → ∃ s : Bs, s.length ≤ 100000 ∧ v.cell? ⟨wr.drew.heap.size, i, none⟩ = some (.string (bs s))) := fun i hi => by
                rw [hv]
                match i, hi with
                | 0, _ => exact ⟨xs, by omega, new_cell _ 0 _ rfl⟩
                | 1, _ => exact ⟨S.take k2, by omega, new_cell _ 1 _ rfl⟩
                | 2, _ => exact ⟨S.take k2 ++ m ++ S.drop k2, by simp only [List.length_append]; omega, new_cell _ 2 _ rfl⟩
                | 3, _ => exact ⟨a5.data.toList, by rw [raw_len]; omega, new_cell _ 3 _ (by rw [← bs_of]; rfl)⟩
                | 4, _ => exact ⟨m, by omega, new_cell _ 4 _ rfl⟩
                | 5, _ => exact ⟨[40] ++ m ++ [41], by simp; omega, new_cell _ 5 _ rfl⟩
              have B9 : Below w.heap.size w v := by rw [hv]; exact ((B6.trans (hb7.mono B6.size)).trans (d9.mono (Nat.le_trans B6.size hb7.size))).trans (n9.mono (Nat.le_trans B6.size (Nat.le_trans hb7.size d9.size)))
              have hsz9 : wr.drew.heap.size < v.heap.size := by rw [hv]; simp
              generalize wr.drew.heap.size = g9 at *
              clear X9 hall h3 hv n9 d9 XB hb7 hc3 s6
              simp only [e20]
              go_wp2_with fail
              go_loopw [19] (fun i V => ∃ j : Nat, j ≤ 6 ∧ i = .int .i64 j ∧ Below v.heap.size v V) (fun i _ => 6 - (intOf i).toNat)
              case atStart => exact ⟨0, by omega, rfl, Below.refl _ _⟩
              case round =>
                obtain ⟨i, hi6, rfl, hbV⟩ := hrel
                have BV := B9.trans (hbV.mono B9.size)
                by_cases hi : i < 6
                · have hiI : (i : Int) < 6 := by omega
                  obtain ⟨s, hs, cs⟩ := CR.out i hi
                  have cs := kept_cell hbV cs
                  have hgl : g9 < _ := block_lt_of_cell cs
                  have PA := parse_any s (by omega) _ (T.later BV)
                  have RA := fun W => rparse_any s (by omega) W
                  have SM := fun n m v u W h1 h2 => same_parsed (s := s) n m v u W h1 h2
                  go_wp2_with fail
                  refine PA.mono ?_
                  rintro e V1 ⟨hb10, hP⟩
                  obtain ⟨kx, jx, tx, qx, lx, cx, rfl, hx⟩ := parsed_form hP
                  have n11 := below_new V1 (.cells #[.int .i64 kx, .int .i64 jx, .string tx, .slice qx lx cx] 27)
                  have X11 := Blk.new V1 27 (.int .i64 kx) (.int .i64 jx) (.string tx) (.slice qx lx cx)
                  have hx11 := hx.below n11
                  have cs11 := kept_cell n11 (kept_cell hb10 cs)
                  have hbV1 := hbV.trans (hb10.mono hbV.size)
                  have B11 := hbV1.trans (n11.mono hbV1.size)
                  clear PA hP hx hb10 cs n11 hbV1
                  obtain ⟨bb, hbb⟩ : ∃ bb, bb = (parseP s).isSome := ⟨_, rfl⟩
                  rw [← hbb]
                  have hbbv : Hid ((parseP s).isSome = bb) := hbb.symm
                  clear hbb
                  go_wp2_with fail
                  generalize V1.alloc (.cells #[.int .i64 kx, .int .i64 jx, .string tx, .slice qx lx cx] 27) = V2 at *
                  refine (RA V2).mono ?_
                  rintro e V3 ⟨hb12, hQ⟩
                  obtain ⟨ky, jy, ty, qy, ly, cy, rfl, hy⟩ := parsed_form hQ
                  rw [hbbv.out]
                  have n13 := below_new V3 (.cells #[.int .i64 ky, .int .i64 jy, .string ty, .slice qy ly cy] 27)
                  have Y13 := Blk.new V3 27 (.int .i64 ky) (.int .i64 jy) (.string ty) (.slice qy ly cy)
                  have X13 := (X11.later hb12).later n13
                  have hx13 := (hx11.below hb12).below n13
                  have hy13 := hy.below n13
                  have B12 := B11.trans (hb12.mono B11.size)
                  have B13 := B12.trans (n13.mono B12.size)
                  have S1 := SM _ _ _ _ _ hx13 hy13
                  clear RA SM hQ hy hb12 n13 X11 hx11 hy13 hx13 B11 B12 cs11
                  obtain ⟨x0, x1, x2, x3, _, _, _, _⟩ := id X13
                  obtain ⟨y0, y1, y2, y3, _, _, _, _⟩ := id Y13
                  go_wp2_with fail
                  generalize V3.alloc (.cells #[.int .i64 ky, .int .i64 jy, .string ty, .slice qy ly cy] 27) = V4 at *
                  refine S1.mono ?_
                  rintro e V5 ⟨rfl, hb14⟩
                  clear S1 x0 x1 x2 x3 y0 y1 y2 y3 X13 Y13
                  go_wp2_with fail
                  go_roundw
                  case rel => exact ⟨i + 1, by omega, by simp, B13.trans (hb14.mono B13.size)⟩
                  case measure => simp [intOf]; omega
                · have hiI : ¬ (i : Int) < 6 := by omega
                  go_wp2_with fail
                  go_ret
                  exact ⟨rfl, BV⟩
        · have hjI : ¬ (j : Int) < (a4.length : Int) := by omega
          go_wp2_with fail
          obtain ⟨xs, hx0⟩ : ∃ xs, xs = S.set k1 c1 := ⟨_, rfl⟩
          rw [← hx0] at XB hxl
          clear hx0
          have hxs : xs.length = S.length := hxl
          have tl : (S.take k2).length ≤ S.length := by simp; omega
          have dl : (S.drop k2).length ≤ S.length := by simp
          have X9 : ∀ v, Below wr.drew.heap.size wr.drew v → ∀ (j : Nat) x, xs[j]? = some x → v.cell? ⟨W4.heap.size, j, none⟩ = some (.int .u8 (x.toNat : Int)) := fun v hv j x hj => kept_cell hv (kept_cell (Below.drew (Below.refl _ _)) (kept_cell hb7 (XB.out j x hj)))
          refine Orders.region_inv (by kernel_rfl) (fun u => { tmps := #[Value.slice p a0.len cap, Value.int IntKind.i64 a1, Value.int IntKind.u8 a2, Value.int IntKind.i64 a3, Value.slice p2 a4.length cap2, Value.string a5, undef, undef, undef, undef, undef, undef, Value.bool false, Value.string (bs S), Value.slice (some ⟨W4.heap.size, 0, none⟩) (List.length S) capb, Value.int IntKind.i64 ↑k2, Value.string (bs m), Value.int IntKind.i64 ↑j, u 20, undef, undef, undef, undef, undef, Value.bool true, Value.bool false, Value.slice p a0.len cap, Value.bool true, Value.bool false, Value.bool false, Value.string a5, Value.int IntKind.i64 ↑a5.size, Value.bool (decide ((100 : Int) < (a5.size : Int))), Value.bool (decide ((100 : Int) < (a5.size : Int))), Value.slice p a0.len cap, Value.agg #[Value.int IntKind.i64 ka, Value.int IntKind.i64 na, Value.string ta, Value.slice qa la ma], Value.string (bs S), Value.string (bs S), Value.slice (some ⟨W4.heap.size, 0, none⟩) (List.length S) capb, Value.slice (some ⟨W4.heap.size, 0, none⟩) (List.length S) capb, Value.int IntKind.i64 a1, Value.slice (some ⟨W4.heap.size, 0, none⟩) (List.length S) capb, Value.int IntKind.i64 ↑(List.length S), Value.int IntKind.i64 ↑k1, Value.pointer (some ⟨W4.heap.size, k1, none⟩), Value.int IntKind.u8 z1, Value.int IntKind.u8 a2, Value.int IntKind.u8 ((z1 + a2) % 256), Value.pointer (some ⟨W4.heap.size, k1, none⟩), Value.int IntKind.i64 a3, Value.string (bs S), Value.int IntKind.i64 ↑(List.length S), Value.int IntKind.i64 (↑(List.length S) + 1), Value.int IntKind.i64 ↑k2, Value.int IntKind.i64 ↑j, Value.slice p2 a4.length cap2, Value.int IntKind.i64 ↑a4.length, Value.bool false, Value.bool false, undef, undef, Value.bool false, u62, u63, u64, u65, u66, u67, u68, u69, u70, u71, u72, u73, u 0, u 1, u 2, u 3, u 4, u 5, u 6, u 7, u 8, u 9, u 10, u 11, u 12, u 13, u 14, u 15, u 16, u 17, u 18, u 19, undef, undef, undef, undef, undef, undef, undef, undef, undef, undef, undef, undef, undef, undef, undef, undef, undef, undef, undef, undef, undef, undef, undef, undef, undef, undef, undef, undef, undef, undef, undef], defers := [] }) (RowsI wr.drew (fun k => ([.slice (some ⟨W4.heap.size, 0, none⟩) S.length capb, .string (bs xs), .string (bs S), .int .i64 (k2 : Int), .string (bs (S.take k2)), .string (bs S), .int .i64 (k2 : Int), .string (bs (S.take k2)), .string (bs m), .string (bs (S.take k2 ++ m)), .string (bs S), .int .i64 (k2 : Int), .string (bs (S.drop k2)), .string (bs (S.take k2 ++ m ++ S.drop k2)), .string a5, .string (bs m), .string (bs m), .string (bs ([40] ++ m)), .string (bs ([40] ++ m ++ [41]))] : List Value).getD k undef) (.cells #[.string (bs xs), .string (bs (S.take k2)), .string (bs (S.take k2 ++ m ++ S.drop k2)), .string a5, .string (bs m), .string (bs ([40] ++ m ++ [41]))] 9)) (by kernel_rfl) (fun _ => undef) ?_ ?_ ?_
          · exact ⟨nofun, .inl ⟨rfl, rfl⟩, nofun⟩
          · intro i op L u v ho hL hp hI
            have hi : i < 21 := by
              by_cases hi : i < 21
              · exact hi
              · rw [Array.getElem?_eq_none (by simp; omega)] at ho; cases ho
            have hbv := hI.below
            match i, hi with
            | 0, _ =>
              cases ho
              exact Orders.step_value rfl rfl (run_move _ _ _ _ _ rfl rfl) ⟨_, rfl, hI.put 0 (by omega) rfl⟩
            | 1, _ =>
              cases ho
              have e0 : u 0 = .slice (some ⟨W4.heap.size, 0, none⟩) S.length capb := hI.1 0 (by omega) (hp ⟨0, Ground.data⟩ (by simp) rfl)
              rw [← hxs] at e0
              exact Orders.step_value rfl rfl (run_textOf _ _ _ _ W4.heap.size capb xs rfl e0 (X9 v hbv)) ⟨_, rfl, hI.put 1 (by omega) rfl⟩
            | 2, _ =>
              cases ho
              exact Orders.step_value rfl rfl (run_move _ _ _ _ _ rfl rfl) ⟨_, rfl, hI.put 2 (by omega) rfl⟩
            | 3, _ =>
              cases ho
              exact Orders.step_value rfl rfl (run_move _ _ _ _ _ rfl rfl) ⟨_, rfl, hI.put 3 (by omega) rfl⟩
            | 4, _ =>
              cases ho
              have e0 : u 2 = .string (bs S) := hI.1 2 (by omega) (hp ⟨2, Ground.data⟩ (by simp) rfl)
              have e1 : u 3 = .int .i64 (k2 : Int) := hI.1 3 (by omega) (hp ⟨3, Ground.data⟩ (by simp) rfl)
              exact Orders.step_value rfl rfl (run_sliceTo _ _ _ _ _ S k2 rfl e0 e1 hk2) ⟨_, rfl, hI.put 4 (by omega) rfl⟩
            | 5, _ =>
              cases ho
              exact Orders.step_value rfl rfl (run_move _ _ _ _ _ rfl rfl) ⟨_, rfl, hI.put 5 (by omega) rfl⟩
            | 6, _ =>
              cases ho
              exact Orders.step_value rfl rfl (run_move _ _ _ _ _ rfl rfl) ⟨_, rfl, hI.put 6 (by omega) rfl⟩
            | 7, _ =>
              cases ho
              have e0 : u 5 = .string (bs S) := hI.1 5 (by omega) (hp ⟨5, Ground.data⟩ (by simp) rfl)
              have e1 : u 6 = .int .i64 (k2 : Int) := hI.1 6 (by omega) (hp ⟨6, Ground.data⟩ (by simp) rfl)
              exact Orders.step_value rfl rfl (run_sliceTo _ _ _ _ _ S k2 rfl e0 e1 hk2) ⟨_, rfl, hI.put 7 (by omega) rfl⟩
            | 8, _ =>
              cases ho
              exact Orders.step_value rfl rfl (run_move _ _ _ _ _ rfl rfl) ⟨_, rfl, hI.put 8 (by omega) rfl⟩
            | 9, _ =>
              cases ho
              have e0 : u 7 = .string (bs (S.take k2)) := hI.1 7 (by omega) (hp ⟨7, Ground.data⟩ (by simp) rfl)
              have e1 : u 8 = .string (bs m) := hI.1 8 (by omega) (hp ⟨8, Ground.data⟩ (by simp) rfl)
              exact Orders.step_value rfl rfl (run_addText _ _ _ _ _ (S.take k2) m rfl e0 e1 (by omega)) ⟨_, rfl, hI.put 9 (by omega) rfl⟩
            | 10, _ =>
              cases ho
              exact Orders.step_value rfl rfl (run_move _ _ _ _ _ rfl rfl) ⟨_, rfl, hI.put 10 (by omega) rfl⟩
            | 11, _ =>
              cases ho
              exact Orders.step_value rfl rfl (run_move _ _ _ _ _ rfl rfl) ⟨_, rfl, hI.put 11 (by omega) rfl⟩
            | 12, _ =>
              cases ho
              have e0 : u 10 = .string (bs S) := hI.1 10 (by omega) (hp ⟨10, Ground.data⟩ (by simp) rfl)
              have e1 : u 11 = .int .i64 (k2 : Int) := hI.1 11 (by omega) (hp ⟨11, Ground.data⟩ (by simp) rfl)
              exact Orders.step_value rfl rfl (run_sliceFrom _ _ _ _ _ S k2 rfl e0 e1 hk2) ⟨_, rfl, hI.put 12 (by omega) rfl⟩
            | 13, _ =>
              cases ho
              have e0 : u 9 = .string (bs (S.take k2 ++ m)) := hI.1 9 (by omega) (hp ⟨9, Ground.data⟩ (by simp) rfl)
              have e1 : u 12 = .string (bs (S.drop k2)) := hI.1 12 (by omega) (hp ⟨12, Ground.data⟩ (by simp) rfl)
              exact Orders.step_value rfl rfl (run_addText _ _ _ _ _ (S.take k2 ++ m) (S.drop k2) rfl e0 e1 (by rw [List.length_append]; omega)) ⟨_, rfl, hI.put 13 (by omega) rfl⟩
            | 14, _ =>
              cases ho
              exact Orders.step_value rfl rfl (run_move _ _ _ _ _ rfl rfl) ⟨_, rfl, hI.put 14 (by omega) rfl⟩
            | 15, _ =>
              cases ho
              exact Orders.step_value rfl rfl (run_move _ _ _ _ _ rfl rfl) ⟨_, rfl, hI.put 15 (by omega) rfl⟩
            | 16, _ =>
              cases ho
              exact Orders.step_value rfl rfl (run_move _ _ _ _ _ rfl rfl) ⟨_, rfl, hI.put 16 (by omega) rfl⟩
            | 17, _ =>
              cases ho
              have e1 : u 16 = .string (bs m) := hI.1 16 (by omega) (hp ⟨16, Ground.data⟩ (by simp) rfl)
              exact Orders.step_value rfl rfl (run_addText _ _ _ _ _ [40] m rfl rfl e1 (by simp; omega)) ⟨_, rfl, hI.put 17 (by omega) rfl⟩
            | 18, _ =>
              cases ho
              have e0 : u 17 = .string (bs ([40] ++ m)) := hI.1 17 (by omega) (hp ⟨17, Ground.data⟩ (by simp) rfl)
              exact Orders.step_value rfl rfl (run_addText _ _ _ _ _ ([40] ++ m) [41] rfl e0 rfl (by simp; omega)) ⟨_, rfl, hI.put 18 (by omega) rfl⟩
            | 19, _ =>
              cases ho
              have e0 : u 1 = .string (bs xs) := hI.1 1 (by omega) (hp ⟨1, Ground.data⟩ (by simp) rfl)
              have e1 : u 4 = .string (bs (S.take k2)) := hI.1 4 (by omega) (hp ⟨4, Ground.data⟩ (by simp) rfl)
              have e2 : u 13 = .string (bs (S.take k2 ++ m ++ S.drop k2)) := hI.1 13 (by omega) (hp ⟨13, Ground.data⟩ (by simp) rfl)
              have e3 : u 14 = .string a5 := hI.1 14 (by omega) (hp ⟨14, Ground.data⟩ (by simp) rfl)
              have e4 : u 15 = .string (bs m) := hI.1 15 (by omega) (hp ⟨15, Ground.data⟩ (by simp) rfl)
              have e5 : u 18 = .string (bs ([40] ++ m ++ [41])) := hI.1 18 (by omega) (hp ⟨18, Ground.data⟩ (by simp) rfl)
              obtain ⟨rfl, hI'⟩ := hI.lay hL
              exact Orders.step_value rfl rfl (run_build6 _ _ _ _ _ _ _ _ _ _ _ _ _ _ _ rfl e0 e1 e2 e3 e4 e5) ⟨_, rfl, hI'⟩
            | 20, _ =>
              cases ho
              obtain ⟨e0, hI'⟩ := hI.set (hp ⟨19, Ground.data⟩ (by simp) rfl)
              exact Orders.step_value rfl rfl (run_assign _ _ _ _ _ rfl e0) ⟨_, rfl, hI'⟩
          · intro L u v hall hI
            obtain ⟨-, h2, h3⟩ := hI
            have e20 := (h3 (hall 20 (by decide))).1
            rcases h2 with ⟨h2, _⟩ | ⟨-, -, hv⟩
            · rw [hall 19 (by decide)] at h2; cases h2
            have d9 : Below wr.heap.size wr wr.drew := Below.drew (Below.refl _ _)
            have n9 := below_new wr.drew (.cells #[.string (bs xs), .string (bs (S.take k2)), .string (bs (S.take k2 ++ m ++ S.drop k2)), .string a5, .string (bs m), .string (bs ([40] ++ m ++ [41]))] 9)
            have CR : Hid (∀ i : Nat, i < 6 → ∃ s : Bs, s.length ≤ 100000 ∧ v.cell? ⟨wr.drew.heap.size, i, none⟩ = some (.string (bs s))) := fun i hi => by
              rw [hv]
              match i, hi with
              | 0, _ => exact ⟨xs, by omega, new_cell _ 0 _ rfl⟩
              | 1, _ => exact ⟨S.take k2, by omega, new_cell _ 1 _ rfl⟩
              | 2, _ => exact ⟨S.take k2 ++ m ++ S.drop k2, by simp only [List.length_append]; omega, new_cell _ 2 _ rfl⟩
              | 3, _ => exact ⟨a5.data.toList, by rw [raw_len]; omega, new_cell _ 3 _ (by rw [← bs_of]; rfl)⟩
              | 4, _ => exact ⟨m, by omega, new_cell _ 4 _ rfl⟩
              | 5, _ => exact ⟨[40] ++ m ++ [41], by simp; omega, new_cell _ 5 _ rfl⟩
            have B9 : Below w.heap.size w v := by rw [hv]; exact ((B6.trans (hb7.mono B6.size)).trans (d9.mono (Nat.le_trans B6.size hb7.size))).trans (n9.mono (Nat.le_trans B6.size (Nat.le_trans hb7.size d9.size)))
            have hsz9 : wr.drew.heap.size < v.heap.size := by rw [hv]; simp
            generalize wr.drew.heap.size = g9 at *
            clear X9 hall h3 hv n9 d9 XB hb7 hc3 s6
            simp only [e20]
            go_wp2_with fail
            go_loopw [19] (fun i V => ∃ j : Nat, j ≤ 6 ∧ i = .int .i64 j ∧ Below v.heap.size v V) (fun i _ => 6 - (intOf i).toNat)
            case atStart => exact ⟨0, by omega, rfl, Below.refl _ _⟩
            case round =>
              obtain ⟨i, hi6, rfl, hbV⟩ := hrel
              have BV := B9.trans (hbV.mono B9.size)
              by_cases hi : i < 6
              · have hiI : (i : Int) < 6 := by omega
                obtain ⟨s, hs, cs⟩ := CR.out i hi
                have cs := kept_cell hbV cs
                have hgl : g9 < _ := block_lt_of_cell cs
                have PA := parse_any s (by omega) _ (T.later BV)
                have RA := fun W => rparse_any s (by omega) W
                have SM := fun n m v u W h1 h2 => same_parsed (s := s) n m v u W h1 h2
                go_wp2_with fail
                refine PA.mono ?_
                rintro e V1 ⟨hb10, hP⟩
                obtain ⟨kx, jx, tx, qx, lx, cx, rfl, hx⟩ := parsed_form hP
                have n11 := below_new V1 (.cells #[.int .i64 kx, .int .i64 jx, .string tx, .slice qx lx cx] 27)
                have X11 := Blk.new V1 27 (.int .i64 kx) (.int .i64 jx) (.string tx) (.slice qx lx cx)
                have hx11 := hx.below n11
                have cs11 := kept_cell n11 (kept_cell hb10 cs)
                have hbV1 := hbV.trans (hb10.mono hbV.size)
                have B11 := hbV1.trans (n11.mono hbV1.size)
                clear PA hP hx hb10 cs n11 hbV1
                obtain ⟨bb, hbb⟩ : ∃ bb, bb = (parseP s).isSome := ⟨_, rfl⟩
                rw [← hbb]
                have hbbv : Hid ((parseP s).isSome = bb) := hbb.symm
                clear hbb
                go_wp2_with fail
                generalize V1.alloc (.cells #[.int .i64 kx, .int .i64 jx, .string tx, .slice qx lx cx] 27) = V2 at *
                refine (RA V2).mono ?_
                rintro e V3 ⟨hb12, hQ⟩
                obtain ⟨ky, jy, ty, qy, ly, cy, rfl, hy⟩ := parsed_form hQ
                rw [hbbv.out]
                have n13 := below_new V3 (.cells #[.int .i64 ky, .int .i64 jy, .string ty, .slice qy ly cy] 27)
                have Y13 := Blk.new V3 27 (.int .i64 ky) (.int .i64 jy) (.string ty) (.slice qy ly cy)
                have X13 := (X11.later hb12).later n13
                have hx13 := (hx11.below hb12).below n13
                have hy13 := hy.below n13
                have B12 := B11.trans (hb12.mono B11.size)
                have B13 := B12.trans (n13.mono B12.size)
                have S1 := SM _ _ _ _ _ hx13 hy13
                clear RA SM hQ hy hb12 n13 X11 hx11 hy13 hx13 B11 B12 cs11
                obtain ⟨x0, x1, x2, x3, _, _, _, _⟩ := id X13
                obtain ⟨y0, y1, y2, y3, _, _, _, _⟩ := id Y13
                go_wp2_with fail
                generalize V3.alloc (.cells #[.int .i64 ky, .int .i64 jy, .string ty, .slice qy ly cy] 27) = V4 at *
                refine S1.mono ?_
                rintro e V5 ⟨rfl, hb14⟩
                clear S1 x0 x1 x2 x3 y0 y1 y2 y3 X13 Y13
                go_wp2_with fail
                go_roundw
                case rel => exact ⟨i + 1, by omega, by simp, B13.trans (hb14.mono B13.size)⟩
                case measure => simp [intOf]; omega
              · have hiI : ¬ (i : Int) < 6 := by omega
                go_wp2_with fail
                go_ret
                exact ⟨rfl, BV⟩
    · have h100I : (100 : Int) < (a5.size : Int) := by omega
      clear hfew
      go_wp2_with fail
      go_ret
      exact ⟨rfl, B2⟩

/-! ### The row's step -/
set_option maxRecDepth 100000 in
theorem lifted (os : Os) (started : os.Started) (H : Type) (enc : TypeId × Value → H) :
    ReturnsInHanded {} Tryz.checked os 4 .any (fun w args => (Rows.exprReadsSpec.pre enc Tryz.prog Tryz.f4 [] false w args ∧ laidMetH Tryz.prog laid8 w) ∧ sizedMet enc Tryz.prog Tryz.f4 (OpenSpec.ofChange Rows.exprReadsSpec) false w args)
      (Rows.exprReadsSpec.post enc Tryz.prog Tryz.f4 false true false false) := by
  refine returnsInHanded_of_change_and (C := Tryz.checked) (X := fun w _ => laidMetH Tryz.prog laid8 w) (fun _ _ _ hh h => h.of_heap hh) own started (by kernel_rfl) Tryz.func4
    (ChangeSpec.witness_shaped (enc := enc) (C := Tryz.checked) (os := os) (X := fun w _ => laidMetH Tryz.prog laid8 w) false (World.laidAll Tryz.prog os laid8) #[.slice none 0 0, .int .i64 0, .int .u8 0, .int .i64 0, .slice none 0 0, .string ByteArray.empty] 8 (World.laidAll_os _ _ _) (World.shaped_of_ZipB (by kernel_rfl) (by kernel_rfl)) (by kernel_rfl) (by kernel_rfl) (by kernel_rfl) (by rw [MakeChecks.laidMetH_plain _ _ _ (by kernel_rfl)]; exact laidMet_laidAll _ (by kernel_rfl) (by kernel_rfl))) ?_
  intro W base args ds gs before hval0 hW _ _ hL _
  have hval : ∀ (j : Nat) t v, Tryz.f4.params[j]? = some t → args[j]? = some v → Value.okWide Tryz.prog W .any base t v := hval0
  have hW' := hW
  obtain ⟨p, q, hA0, hV, rfl, hfz, hnd⟩ := hW
  have hA : DataW.TrodAll enc Tryz.prog W 0 (fun _ => true) true Tryz.f4.params.toList args.toList ds p := hA0
  rw [Tryz.params4] at hA hval
  obtain ⟨v0, vs0, d0, ds0, p0, q0, hargs, rfl, rfl, h0, r0⟩ := trodAll_cons hA
  obtain ⟨v1, vs1, d1, ds1, p1, q1, rfl, rfl, rfl, h1, r1⟩ := trodAll_cons r0
  obtain ⟨v2, vs2, d2, ds2, p2, q2, rfl, rfl, rfl, h2, r2⟩ := trodAll_cons r1
  obtain ⟨v3, vs3, d3, ds3, p3, q3, rfl, rfl, rfl, h3, r3⟩ := trodAll_cons r2
  obtain ⟨v4, vs4, d4, ds4, p4, q4, rfl, rfl, rfl, h4, r4⟩ := trodAll_cons r3
  obtain ⟨v5, vs5, d5, ds5, p5, q5, rfl, rfl, rfl, h5, r5⟩ := trodAll_cons r4
  obtain ⟨rfl, rfl, rfl⟩ := trodAll_nil r5
  obtain rfl : args = #[v0, v1, v2, v3, v4, v5] := by cases args; simp_all
  obtain ⟨rfl, rfl⟩ := trodVars_none hV
  have k0 := h0
  obtain ⟨a0, s0⟩ := open_raws (hval 0 22 v0 rfl rfl) h0
  obtain ⟨a1, rfl, rfl, rfl, w1⟩ := open_int Tryz.underlying3 (hval 1 3 v1 rfl rfl) h1
  obtain ⟨a2, rfl, rfl, rfl, w2⟩ := open_int Tryz.underlying5 (hval 2 5 v2 rfl rfl) h2
  obtain ⟨a3, rfl, rfl, rfl, w3⟩ := open_int Tryz.underlying3 (hval 3 3 v3 rfl rfl) h3
  have k4 := h4
  obtain ⟨a4, s4, w4, l4⟩ := open_ints' (hval 4 35 v4 rfl rfl) h4
  obtain ⟨a5, rfl, rfl, rfl, w5⟩ := open_string Tryz.underlying9 (hval 5 9 v5 rfl rfl) h5
  clear hA0 hval0
  simp only [List.append_nil, List.nil_append] at hW'
  have hlt : ∀ x ∈ p0 ++ p4, x.block < W.heap.size := fun x hx => by simpa using hW'.lt x (by simpa [or_assoc] using hx)
  refine (walk v0 a0 a1 w1 a2 w2 a3 w3 v4 a4 w4 l4 a5 w5 W (tab_of_laid hL) s0 s4).mono fun e W' ⟨he, hg⟩ => ?_
  subst he
  exact ⟨_, rfl, _, _, _, [], _, [], hW', (trodAll_cons_mk (shut_bool Tryz.underlying4 _) trodAll_mk0), (trodAll_cons_mk (Below.trod laidOut (by kernel_rfl) (of_decide_eq_true (by kernel_rfl)) k0 hg (fun x hx => hlt x (by simp [hx]))) (trodAll_cons_mk (shut_int Tryz.underlying3 w1) (trodAll_cons_mk (shut_int Tryz.underlying5 w2) (trodAll_cons_mk (shut_int Tryz.underlying3 w3) (trodAll_cons_mk (Below.trod laidOut (by kernel_rfl) (of_decide_eq_true (by kernel_rfl)) k4 hg (fun x hx => hlt x (by simp [hx]))) (trodAll_cons_mk (shut_string Tryz.underlying9 w5) trodAll_mk0)))))), rfl, hg.frame _, fun h => by cases h⟩

theorem row : Rows.ExprReadsSaid :=
  OpenClaim.holds_of_wide 4 Tryz.f4 rfl rfl rfl rfl rfl rfl rfl ⟨rfl, rfl, rfl, rfl, rfl⟩ rfl rfl rfl rfl rfl (by kernel_rfl) Tryz.func4 (by kernel_rfl)
    (of_decide_eq_true (by kernel_rfl)) (by unfold Func.isWrapper; first | (rw [if_pos (by decide +kernel)]; kernel_rfl) | (rw [if_neg (by decide +kernel)]; exact ⟨rfl, rfl⟩))
    (fun os started H enc _ => lifted os started H enc)

/-- The statement. -/
theorem proved : Rows.ExprReadsCardSaid :=
  Claim7.holds_tied_plain_at .later [] [.data, .data, .data, .data, .sentinel, .sentinel, .data, .pinned] true (true, "f08257e55a3ccc68d95a493c92da4daa60ab3f463c0a3b302d2eeb7255323afe") true
    row (fun _ h => by cases h) (by kernel_rfl) (fun _ h => by cases h) exprReads_row_tie rfl ⟨rfl, rfl⟩ (by kernel_rfl) rfl
    (fun f fn hf hfn => by
      obtain rfl : f = 4 := Option.some.inj ((show Tryz.prog.funcNamed "letterpress/letterpresslaw3.ExprReads" = some 4 by kernel_rfl).symm.trans hf) |>.symm
      obtain rfl : fn = Tryz.f4 := (Option.some.inj (Tryz.func4.symm.trans hfn)).symm
      exact ⟨by kernel_rfl, fun j t ht => by
        rw [Tryz.params4] at ht
        have hm : t ∈ [22, 3, 5, 3, 35, 9] := by simpa using Array.mem_of_getElem? ht
        have hall : ([22, 3, 5, 3, 35, 9].all fun u => !Tryz.prog.wantsStandIn u) = true := by kernel_rfl
        exact (show Tryz.prog.wantsStandIn t = false by simpa using List.all_eq_true.1 hall t hm)⟩)
    (by kernel_rfl)
#print axioms proved
end Go.Proofs.YtopfnfmglnjljaaGreatDoor.exprReads
