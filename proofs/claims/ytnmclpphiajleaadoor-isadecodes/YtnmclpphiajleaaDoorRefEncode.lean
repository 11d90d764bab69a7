/- The contracts of the reference's hex and Encode. -/
import Derived.Test.YtnmclpphiajleaaDoorRefRight
import Derived.BigQuiet
namespace Go.Proofs.YtnmclpphiajleaaDoor
open Go.ChangeShapes Go.WideShapes Go.ChangeAt Go.RowKit
open Plain
set_option linter.unusedVariables false
set_option linter.unusedSimpArgs false

def hexD (c : UInt8) : Int := if c.toNat < 97 then (c.toNat : Int) - 48 else (c.toNat : Int) - 87
def hexGo : List UInt8 → Int → Int
  | [], n => n
  | c :: s, n => hexGo s (16 * n + hexD c)
def isHex (c : UInt8) : Bool := (decide (48 ≤ c.toNat) && decide (c.toNat ≤ 57)) || (decide (97 ≤ c.toNat) && decide (c.toNat ≤ 102))

theorem hex_rows : ∀ k : Fin 66, hexGo (hexOf (k.val : Int)) 0 = (rowP (k.val : Int)).bits ∧ (hexOf (k.val : Int)).all isHex = true ∧ (hexOf (k.val : Int)).length = (2 * sizeP (k.val : Int)).toNat := by decide +kernel

theorem hex_row {op : Int} (h : isP op = true) : hexGo (hexOf op) 0 = (rowP op).bits ∧ (hexOf op).all isHex = true ∧ (hexOf op).length = (2 * sizeP op).toNat := by
  unfold isP at h
  rw [Bool.and_eq_true, decide_eq_true_eq, decide_eq_true_eq] at h
  obtain ⟨k, rfl⟩ := Int.eq_ofNat_of_zero_le h.1
  exact hex_rows ⟨k, by omega⟩

theorem hexGo_step {s : List UInt8} {j : Nat} {c : UInt8} (h : s[j]? = some c) (n : Int) : hexGo (s.drop j) n = hexGo (s.drop (j + 1)) (16 * n + hexD c) := by
  obtain ⟨h1, rfl⟩ := List.getElem?_eq_some_iff.1 h
  rw [List.drop_eq_getElem_cons h1]
  rfl

set_option maxHeartbeats 1600000 in
set_option maxRecDepth 20000 in
theorem hex_any (s : List UInt8) (hs : s.length ≤ 8) (hx : s.all isHex = true) (w : World) :
    Calls Tryd.prog 18 #[.string (bs s)] w fun e w' => w = w' ∧ e = .returned (.int .i64 (hexGo s 0)) := by
  have hsz : (bs s).size = s.length := by unfold bs; simp [ByteArray.size]
  go_enter Tryd.func18, Tryd.ntmps18
  go_wp2
  go_loopw [3, 4, 5] (fun n i d wr => ∃ (j : Nat) (acc : Int), j ≤ s.length ∧ i = .int .i64 j ∧ n = .int .i64 acc ∧ wr = w ∧ 0 ≤ acc ∧ acc < 16 ^ j ∧ hexGo (s.drop j) acc = hexGo s 0) (fun _ i _ _ => s.length - (intOf i).toNat)
  case atStart => exact ⟨0, 0, by omega, rfl, rfl, rfl, by omega, by simp, rfl⟩
  case round =>
    obtain ⟨j, acc, hj, rfl, rfl, rfl, a0, a1, he⟩ := hrel
    have hpow : (16 : Int) ^ j ≤ 16 ^ 8 := by
      have hj8 : j ≤ 8 := by omega
      have := Nat.pow_le_pow_right (show 0 < 16 by omega) hj8
      exact_mod_cast this
    have a2 : acc < 4294967296 := by
      have : (16 : Int) ^ 8 = 4294967296 := by decide
      omega
    by_cases hjn : j < s.length
    · obtain ⟨c, hc⟩ : ∃ c, s[j]? = some c := ⟨_, List.getElem?_eq_getElem hjn⟩
      have hjb : j < (bs s).size := by rw [hsz]; exact hjn
      have hbc : (bs s)[j] = c := by
        have h := (List.getElem?_eq_some_iff.1 hc).2
        exact (show s.toArray[j]'(by simpa using hjn) = c by simpa using h)
      have hx1 := List.all_eq_true.1 hx c (List.mem_of_getElem? hc)
      have hstep : Hid (hexGo (s.drop (j + 1)) (16 * acc + hexD c) = hexGo s 0) := (hexGo_step hc acc).symm.trans he
      have hjI : (j : Int) < (s.length : Int) := by omega
      have hb16 : Hid ((16 : Int) ^ (j + 1) = 16 ^ j * 16) := Int.pow_succ 16 j
      have hcr : (48 ≤ c.toNat ∧ c.toNat ≤ 57) ∨ (97 ≤ c.toNat ∧ c.toNat ≤ 102) := by
        unfold isHex at hx1
        simp only [Bool.or_eq_true, Bool.and_eq_true, decide_eq_true_eq] at hx1
        exact hx1
      have hdr : Hid (∀ d : Int, 0 ≤ d → d ≤ 15 → 16 * acc + d < 16 ^ (j + 1)) := by
        show ∀ d : Int, _
        intro d d0 d1
        rw [hb16.out]
        generalize (16 : Int) ^ j = P at *
        omega
      clear he hc hx hx1 hpow hb16
      rcases hcr with ⟨m0, m1⟩ | ⟨m0, m1⟩
      · have hlt : ¬ (97 : Int) ≤ (c.toNat : Int) := by omega
        have hd : hexD c = (c.toNat : Int) - 48 := by unfold hexD; rw [if_pos (by omega)]
        have e2 : Hid (((c.toNat : Int) - 48) % 256 = hexD c) := by show _ = _; rw [hd]; omega
        have e3 : Hid (0 ≤ hexD c ∧ hexD c ≤ 15) := by show _ ∧ _; rw [hd]; omega
        clear hd
        go_wp2
        go_roundw
        case rel => exact ⟨j + 1, 16 * acc + ((c.toNat : Int) - 48) % 256, by omega, by go_num, by go_num, by trivial, by omega, by rw [e2.out]; exact hdr.out _ e3.out.1 e3.out.2, by rw [e2.out]; exact hstep.out⟩
        case measure => simp [intOf]; omega
      · have hlt : (97 : Int) ≤ (c.toNat : Int) := by omega
        have hd : hexD c = (c.toNat : Int) - 87 := by unfold hexD; rw [if_neg (by omega)]
        have e2 : Hid (((c.toNat : Int) - 97) % 256 + 10 = hexD c) := by show _ = _; rw [hd]; omega
        have e3 : Hid (0 ≤ hexD c ∧ hexD c ≤ 15) := by show _ ∧ _; rw [hd]; omega
        clear hd
        go_wp2
        go_roundw
        case rel => exact ⟨j + 1, 16 * acc + (((c.toNat : Int) - 97) % 256 + 10), by omega, by go_num, by go_num, by trivial, by omega, by rw [e2.out]; exact hdr.out _ e3.out.1 e3.out.2, by rw [e2.out]; exact hstep.out⟩
        case measure => simp [intOf]; omega
    · have hjn : j = s.length := by omega
      subst hjn
      have he' : acc = hexGo s 0 := by rw [List.drop_length] at he; exact he
      go_wp2
      go_ret
      exact ⟨rfl, by rw [← he']; rfl⟩

theorem code_bounds (k : K) (v : Int) : 0 ≤ (k.code v).1 ∧ (k.code v).1 < 4294967296 := by
  obtain ⟨c, e, h⟩ := code_mask k v
  rw [e]
  have := lt_of_mask h (mask_lt k)
  omega

set_option maxHeartbeats 3200000 in
set_option maxRecDepth 20000 in
theorem refEncode_yes (op : Int) (sl : Value) (fs : List Int) (w : World) (hF : SliceIs w sl fs) (hR : InRange fs) (hm : fs.length ≤ maxLen) (h : (codedP op fs).2 = true) :
    Calls Tryd.prog 5 #[.agg #[.int .i64 op, sl]] w fun e w' => ∃ v, e = .returned (.tuple #[v, .bool true]) ∧ Below w.heap.size w w' ∧ BytesAt w' v (bytesP (sizeP op) (codedP op fs).1) := by
  have ha := (Below.refl w.heap.size w).alloc (Nat.le_refl _) (.cells #[.int .i64 op, sl] 28)
  have c0 := new_cell (w := w) (t := 28) #[.int .i64 op, sl] 0 (.int .i64 op) rfl
  have c1 := new_cell (w := w) (t := 28) #[.int .i64 op, sl] 1 sl rfl
  replace hF := hF.later ha
  have R := refRight_any op sl fs _ hF hR hm
  obtain ⟨p, cap, rfl, hj⟩ := id hF
  clear hj
  rw [h] at R
  have F := fun W => find_any op (bs [32]) W
  rw [show bs [32] = ⟨#[32]⟩ from rfl] at F
  have wd : Hid (wordsP (rowP op).kinds = (rowP op).ks.map K.name) := rows_words _ (rowP_mem op)
  obtain ⟨_, _, hk100, hn3, r0, r1⟩ := rows_fields _ (rowP_mem op)
  have hi := coded_size h
  obtain ⟨hx1, hx2, hx3⟩ := hex_row hi
  have hx4 : (hexOf op).length ≤ 8 := by rw [hx3]; rcases sizeP_is hi with e | e <;> rw [e] <;> decide
  have Hx := fun W => hex_any (hexOf op) hx4 hx2 W
  rw [hx1] at Hx
  have hco : codedP op fs = codeGo (rowP op).ks fs (rowP op).bits := by
    unfold codedP at h ⊢
    split
    · rfl
    · rename_i hn; rw [if_neg hn] at h; cases h
  have hl : fs.length = (rowP op).ks.length := by
    unfold codedP at h
    split at h
    · rename_i hn; exact hn.2
    · cases h
  have hall : ∀ (i : Nat) (k : K) (f : Int), (rowP op).ks[i]? = some k → fs[i]? = some f → (k.code f).2 = true := by
    rw [hco] at h
    exact (codeGo_iff _ _ _ hl).1 h
  have hl' : Hid (fs.length = (rowP op).ks.length) := hl
  clear hx1 hx2 hx4 hl
  go_enter Tryd.func5, Tryd.ntmps5
  go_wp2_with fail
  generalize w.alloc (.cells #[.int .i64 op, .slice p fs.length cap] 28) = w1 at *
  refine R.mono ?_
  rintro e w2 ⟨rfl, hb2⟩
  replace c0 := kept_cell hb2 c0
  replace c1 := kept_cell hb2 c1
  replace hF := hF.later hb2
  replace hb2 := ha.trans (hb2.mono ha.size)
  clear R ha
  go_wp2_with fail
  refine (F _).mono ?_
  rintro e w3 ⟨hb3, hf⟩
  obtain ⟨n0, rfl⟩ := found_row op e hf
  clear hf F
  replace c0 := kept_cell hb3 c0
  replace c1 := kept_cell hb3 c1
  replace hF := hF.later hb3
  replace hb3 := hb2.trans (hb3.mono hb2.size)
  clear hb2
  go_wp2_with fail
  have ha3 := (Below.refl w3.heap.size w3).alloc (Nat.le_refl _) (.cells #[.string (bs (rowP op).name), .string (bs (hexOf op)), .string (bs (rowP op).kinds)] 41)
  have d1 := new_cell (w := w3) (t := 41) #[.string (bs (rowP op).name), .string (bs (hexOf op)), .string (bs (rowP op).kinds)] 1 (.string (bs (hexOf op))) rfl
  replace c0 := kept_cell ha3 c0
  replace c1 := kept_cell ha3 c1
  replace hF := hF.later ha3
  replace hb3 := hb3.trans (ha3.mono hb3.size)
  generalize w3.alloc (.cells #[.string (bs (rowP op).name), .string (bs (hexOf op)), .string (bs (rowP op).kinds)] 41) = w4 at *
  have Wd := words_any (rowP op).kinds (by omega) w4
  rw [wd.out] at Wd
  refine Wd.mono ?_
  rintro e w5 ⟨tv, rfl, hT, hb5⟩
  obtain ⟨tp, tcap, rfl, hTc⟩ := texts_form hT
  replace c0 := kept_cell hb5 c0
  replace c1 := kept_cell hb5 c1
  replace d1 := kept_cell hb5 d1
  replace hF := hF.later hb5
  replace hb5 := hb3.trans (hb5.mono hb3.size)
  clear Wd hT ha3 hb3 hk100 wd
  rw [← hl'.out]
  go_wp2_with (go_at_call 18; refine (Hx _).mono ?_; rintro e w' ⟨rfl, rfl⟩)
  go_loopw [8, 9] (fun n i wr => ∃ (j : Nat) (acc : Int), j ≤ fs.length ∧ i = .int .i64 j ∧ n = .int .i64 acc ∧ (∃ nd, wr = w5.drewN nd) ∧ 0 ≤ acc ∧ acc < 4294967296 ∧ codeGo ((rowP op).ks.drop j) (fs.drop j) acc = codedP op fs) (fun _ i _ => fs.length - (intOf i).toNat)
  case atStart => exact ⟨0, (rowP op).bits, by omega, rfl, rfl, ⟨0, rfl⟩, r0, r1, hco.symm⟩
  case round =>
    obtain ⟨j, acc, hj, rfl, rfl, ⟨nd, rfl⟩, q0, q1, he⟩ := hrel
    have hbd : Below w5.heap.size w5 (w5.drewN nd) := ⟨rfl, rfl, rfl, Nat.le_refl _, fun _ _ => rfl⟩
    have hbe : Below w.heap.size w (w5.drewN nd) := hb5.trans (hbd.mono hb5.size)
    have hm' : fs.length < 4611686018427387904 := by rw [hl'.out]; omega
    by_cases hjn : j < fs.length
    · obtain ⟨x, hx⟩ : ∃ x, fs[j]? = some x := ⟨_, List.getElem?_eq_getElem hjn⟩
      obtain ⟨k, hk⟩ : ∃ k, (rowP op).ks[j]? = some k := ⟨_, List.getElem?_eq_getElem (by rw [← hl'.out]; exact hjn)⟩
      obtain ⟨gt, rfl, _, tc⟩ := hTc j k hk
      have c1 := kept_cell hbd c1
      have tc := kept_cell hbd tc
      obtain ⟨p', cap', e', hC⟩ := hF.later hbd
      cases e'
      obtain ⟨b, o, rfl, hC'⟩ := hC (by rintro rfl; simp at hx)
      have xc := hC' j x hx
      have hkx := hall j k x hk hx
      have M := fun W => (putR_any k x hkx W).mono fun e w' h => (⟨h.2, h.1.symm⟩ : e = .returned (.int .i64 (k.code x).1) ∧ w' = W)
      rw [show (⟨k.name.toArray⟩ : ByteArray) = bs k.name from rfl] at M
      obtain ⟨k0, k1⟩ := code_bounds k x
      have hor := or_i64_u32 acc (k.code x).1 q0 q1 k0 k1
      have hstep : Hid (codeGo ((rowP op).ks.drop (j + 1)) (fs.drop (j + 1)) (bits .or .i64 acc (k.code x).1) = codedP op fs) := by
        show _ = _
        rw [← he, codeGo_step hk hx, if_pos hkx, hor.1]
      have hbo : Hid (0 ≤ bits .or .i64 acc (k.code x).1 ∧ bits .or .i64 acc (k.code x).1 < 4294967296) := by
        show _ ∧ _
        rw [hor.1]; exact hor.2
      have hjI : (j : Int) < (fs.length : Int) := by omega
      clear hC hC' hall hTc hk hx hF c0 he hor k0 k1 hkx hco hx3 d1 Hx
      generalize hW1 : w5.drewN nd = W1 at *
      have hW : Hid (w5.drewN nd = W1) := hW1
      clear hW1
      generalize (k.code x).1 = r at *
      generalize bs k.name = nm at *
      go_wp2_with fail
      go_quiet (first | (go_at_call 19; exact Calls.quiet_of_same (M _)))
      go_wp2
      go_roundw
      case rel => exact ⟨j + 1, bits .or .i64 acc r, by omega, by go_num, by first | rfl | go_num, ⟨nd + nq, by rw [← hW.out]; simp [World.drewN, Nat.add_assoc]⟩, hbo.out.1, hbo.out.2, hstep.out⟩
      case measure => simp [intOf]; omega
    · have hjn : j = fs.length := by omega
      subst hjn
      have hacc : Hid ((codedP op fs).1 = acc) := by
        show _ = _
        rw [← he, codeGo_end (by rw [hl'.out]; exact Nat.le_refl _)]
      have d1 := kept_cell hbd d1
      have hsz : (bs (hexOf op)).size = (hexOf op).length := by unfold bs; simp [ByteArray.size]
      have hz := sizeP_is hi
      clear he hco hall hTc hF c0 c1 Hx hbd
      generalize w5.drewN nd = W1 at *
      rcases hz with hz | hz
      · have hb4 : (hexOf op).length = 4 := by rw [hx3, hz]; rfl
        rw [hb4] at hsz
        clear hx3 hb4
        generalize bs (hexOf op) = hb at *
        go_wp2
        go_ret2
        rw [hz, hacc.out]
        refine ⟨_, rfl, hbe.alloc hbe.size _, some ⟨W1.heap.size, 0, none⟩, 2, rfl, Nat.le_refl _, fun _ => ⟨W1.heap.size, 0, rfl, fun i y hy => ?_⟩⟩
        have hx := new_cell (w := W1) (t := 5) #[.int .u8 (acc / 256 % 256), .int .u8 (acc % 256)] i (.int .u8 y) (by
          have : (#[.int .u8 (acc / 256 % 256), .int .u8 (acc % 256)] : Array Value) = ((bytesP 2 acc).map fun b => Value.int .u8 b).toArray := rfl
          rw [this]; simp [hy])
        simpa using hx
      · have hb4 : (hexOf op).length = 8 := by rw [hx3, hz]; rfl
        rw [hb4] at hsz
        clear hx3 hb4
        generalize bs (hexOf op) = hb at *
        go_wp2
        go_ret2
        rw [hz, hacc.out]
        have e24 : acc / 16777216 = acc / 256 / 256 / 256 % 256 := by omega
        have e16 : acc / 65536 % 256 = acc / 256 / 256 % 256 := by omega
        refine ⟨_, rfl, hbe.alloc hbe.size _, some ⟨W1.heap.size, 0, none⟩, 4, rfl, Nat.le_refl _, fun _ => ⟨W1.heap.size, 0, rfl, fun i y hy => ?_⟩⟩
        have hx := new_cell (w := W1) (t := 5) #[.int .u8 (acc / 16777216), .int .u8 (acc / 65536 % 256), .int .u8 (acc / 256 % 256), .int .u8 (acc % 256)] i (.int .u8 y) (by
          rw [e24, e16]
          have : (#[.int .u8 (acc / 256 / 256 / 256 % 256), .int .u8 (acc / 256 / 256 % 256), .int .u8 (acc / 256 % 256), .int .u8 (acc % 256)] : Array Value) = ((bytesP 4 acc).map fun b => Value.int .u8 b).toArray := rfl
          rw [this]; simp [hy])
        simpa using hx
end Go.Proofs.YtnmclpphiajleaaDoor
