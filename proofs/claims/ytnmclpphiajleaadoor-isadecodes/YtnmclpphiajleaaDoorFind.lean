/- The contract of the reference's find: a row of its table, by number or by name. -/
import Derived.Test.YtnmclpphiajleaaDoorFindP
import Derived.Laws.Strings2
namespace Go.Proofs.YtnmclpphiajleaaDoor
open Go.ChangeShapes Go.WideShapes Go.ChangeAt Go.RowKit
open Plain
set_option linter.unusedVariables false
set_option linter.unusedSimpArgs false

def bs (l : List UInt8) : ByteArray := ⟨l.toArray⟩

/-- Is row r asked for? -/
def asked (op : Int) (nm : ByteArray) (r : Nat) : Bool := (r : Int) == op || (match rows2[r]? with | some x => decide (bs x.a = nm) | none => false)

/-- The first row from r on that is asked for. -/
def findFrom (op : Int) (nm : ByteArray) : Nat → Nat → Option Nat
  | 0, _ => none
  | m + 1, r => if asked op nm r then some r else findFrom op nm m (r + 1)

def findP (op : Int) (nm : ByteArray) : Option Nat := findFrom op nm 66 0

def FoundIs (e : Ending) : Option Nat → Prop
  | some r => ∃ x, rows2[r]? = some x ∧ e = .returned (.tuple #[.agg #[.string (bs x.a), .string (bs x.b), .string (bs x.c)], .int .i64 r, .bool true])
  | none => e = .returned (.tuple #[.agg #[.string (bs []), .string (bs []), .string (bs [])], .int .i64 0, .bool false])

theorem findFrom_step (op : Int) (nm : ByteArray) (r : Nat) (h : r < 66) : findFrom op nm (66 - r) r = if asked op nm r then some r else findFrom op nm (66 - (r + 1)) (r + 1) := by
  rw [show 66 - r = (66 - (r + 1)) + 1 by omega]
  rfl

set_option maxHeartbeats 1600000 in
set_option maxRecDepth 100000 in
theorem find_any (op : Int) (nm : ByteArray) (w : World) :
    Calls Tryd.prog 16 #[.int .i64 op, .string nm] w fun e w' => Below w.heap.size w w' ∧ FoundIs e (findP op nm) := by
  go_enter Tryd.func16, Tryd.ntmps16
  generalize hT : List.toArray (List.append _ _) = tb
  have htb : Hid (tb = tblL.toArray) := hT.symm.trans (by kernel_rfl)
  clear hT
  have hlen : tb.size = 1212 := by rw [htb.out]; simpa using tbl_len
  go_wp2
  go_loopw [7, 8, 10, 11] (fun n at' k i wr => ∃ j : Nat, j ≤ 1212 ∧ i = .int .i64 j ∧ n = .int .i64 (stateAt j).n ∧ at' = .int .i64 (stateAt j).at' ∧ k = .int .i64 (stateAt j).k ∧
      wr = (w.alloc (.cells #[.string (bs []), .string (bs []), .string (bs [])] 41)).alloc (.cells #[.string (bs (stateAt j).f0), .string (bs (stateAt j).f1), .string (bs (stateAt j).f2)] 61) ∧
      Hid (findFrom op nm (66 - (stateAt j).n) (stateAt j).n = findP op nm)) (fun _ _ _ i _ => 1212 - (intOf i).toNat)
  case atStart => exact ⟨0, by omega, rfl, rfl, rfl, rfl, rfl, rfl⟩
  case round =>
    obtain ⟨j, hj, rfl, rfl, rfl, rfl, rfl, hfind⟩ := hrel
    by_cases hlt : j < 1212
    · have hlt' : j < tblL.length := by rw [tbl_len]; exact hlt
      obtain ⟨c, hc⟩ : ∃ c, tblL[j]? = some c := ⟨_, List.getElem?_eq_getElem hlt'⟩
      obtain ⟨hok, hnext⟩ := state_next hc
      replace hnext : Hid (stateAt (j + 1) = stepF j c (stateAt j)) := hnext
      have hjs : j < tb.size := by omega
      have hcc : tb[j] = c := by
        have e := htb.out
        subst e
        simpa using (List.getElem?_eq_some_iff.1 hc).2
      have hb : ({ data := tb } : ByteArray)[j] = c := hcc
      have hsz : ({ data := tb } : ByteArray).size = 1212 := hlen
      generalize stateAt j = s at *
      obtain ⟨n, at', k, f0, f1, f2⟩ := s
      simp only at hfind hok ⊢
      have hpc : ({ data := tb } : ByteArray).extract at' j = bs (piece at' j) := by
        have e := htb.out
        subst e
        unfold bs piece
        simp [ByteArray.extract, ByteArray.copySlice]
      have hsl : ∀ W, (Instr.slice 9 (.string { data := tb }) (some (.int .i64 (at' : Int))) (some (.int .i64 (j : Int))) none).run Tryd.prog W = .ok (.string (bs (piece at' j))) W := by
        intro W
        have h := run_slice_string (P := Tryd.prog) W 9 { data := tb } .i64 .i64 (at' : Int) (j : Int) Tryd.underlying9 (by omega) (by have hok2 := hok; unfold okAt at hok2; simp only [Bool.and_eq_true, decide_eq_true_eq] at hok2; omega) (by rw [hsz]; omega)
        rw [Int.toNat_natCast, Int.toNat_natCast, hpc] at h
        exact h
      clear hpc
      unfold okAt at hok
      simp only [Bool.and_eq_true, decide_eq_true_eq] at hok
      obtain ⟨⟨⟨ha, hn⟩, h58⟩, h124⟩ := hok
      by_cases c58 : c = 58
      · subst c58
        have hk : k = 0 ∨ k = 1 := by simpa using h58
        clear h124 h58
        rcases hk with rfl | rfl
        · have hst : Hid (stateAt (j + 1) = ⟨n, j + 1, 1, piece at' j, f1, f2⟩) := hnext.out
          clear hnext
          go_wp2
          go_roundw
          case rel => exact ⟨j + 1, by omega, by go_num, by rw [hst.out], by rw [hst.out]; go_num, by rw [hst.out]; rfl, by rw [hst.out], by rw [hst.out]; exact hfind⟩
          case measure => simp [intOf]; omega
        · have hst : Hid (stateAt (j + 1) = ⟨n, j + 1, 2, f0, piece at' j, f2⟩) := hnext.out
          clear hnext
          go_wp2
          go_roundw
          case rel => exact ⟨j + 1, by omega, by go_num, by rw [hst.out], by rw [hst.out]; go_num, by rw [hst.out]; rfl, by rw [hst.out], by rw [hst.out]; exact hfind⟩
          case measure => simp [intOf]; omega
      · by_cases c124 : c = 124
        · subst c124
          have hk : k = 2 ∧ rows2[n]? = some ⟨f0, f1, piece at' j⟩ := by simpa using h124
          obtain ⟨rfl, hrow⟩ := hk
          have hst : Hid (stateAt (j + 1) = ⟨n + 1, j + 1, 0, f0, f1, piece at' j⟩) := hnext.out
          have hstep : Hid (findFrom op nm (66 - n) n = _) := findFrom_step op nm n (by omega)
          have hask : asked op nm n = ((n : Int) == op || decide (bs f0 = nm)) := by unfold asked; rw [hrow]
          replace hrow : Hid (rows2[n]? = some ⟨f0, f1, piece at' j⟩) := hrow
          clear hnext h58 h124 c58
          by_cases h1 : (n : Int) = op
          · have hans : Hid (findP op nm = some n) := by
              have h2 := hstep.out
              rw [hask, if_pos (by simp [h1])] at h2
              exact hfind.out.symm.trans h2
            subst h1
            clear hask hstep hfind hst
            go_wp2
            exact bodyPost_ret (v := .tuple #[.agg #[.string (bs f0), .string (bs f1), .string (bs (piece at' j))], .int .i64 n, .bool true]) (by simp [results, Tryd.results16, go_sem]) rfl
              ⟨((Below.refl _ _).alloc (Nat.le_refl _) _).alloc (by simp) _, by rw [hans.out]; exact ⟨_, hrow.out, rfl⟩⟩
          · by_cases h2 : bs f0 = nm
            · have hans : Hid (findP op nm = some n) := by
                have h3 := hstep.out
                rw [hask, if_pos (by simp [h2])] at h3
                exact hfind.out.symm.trans h3
              subst h2
              clear hask hstep hfind hst
              go_wp2
              exact bodyPost_ret (v := .tuple #[.agg #[.string (bs f0), .string (bs f1), .string (bs (piece at' j))], .int .i64 n, .bool true]) (by simp [results, Tryd.results16, go_sem]) rfl
                ⟨((Below.refl _ _).alloc (Nat.le_refl _) _).alloc (by simp) _, by rw [hans.out]; exact ⟨_, hrow.out, rfl⟩⟩
            · have hans : Hid (findFrom op nm (66 - (n + 1)) (n + 1) = findP op nm) := by
                have h3 := hstep.out
                rw [hask, if_neg (by simp [h1, h2])] at h3
                exact h3.symm.trans hfind.out
              have h1' : ((n : Int) == op) = false := by simpa using h1
              have h2' : ((bs f0).toList == nm.toList) = false := by
                have : ¬ (bs f0).toList = nm.toList := by
                  intro e
                  rw [ByteArray.toList_eq, ByteArray.toList_eq] at e
                  apply h2
                  cases nm
                  unfold bs at e ⊢
                  simp at e
                  simp [e]
                simpa using this
              clear hask hstep hfind
              go_wp2
              go_roundw
              case rel => exact ⟨j + 1, by omega, by go_num, by rw [hst.out]; go_num, by rw [hst.out]; go_num, by rw [hst.out]; rfl, by rw [hst.out], by rw [hst.out]; exact hans⟩
              case measure => simp [intOf]; omega
        · have hst : Hid (stateAt (j + 1) = ⟨n, at', k, f0, f1, f2⟩) := by
            have := hnext.out
            unfold stepF at this
            rw [if_neg c58, if_neg c124] at this
            exact this
          have d1 : ((c.toNat : Int) != 58) = true := by
            have : ¬ (c.toNat : Int) = 58 := fun e => c58 (UInt8.toNat_inj.1 (by simpa using Int.ofNat.inj e))
            simpa using this
          have d2 : ((c.toNat : Int) != 124) = true := by
            have : ¬ (c.toNat : Int) = 124 := fun e => c124 (UInt8.toNat_inj.1 (by simpa using Int.ofNat.inj e))
            simpa using this
          clear hnext c58 c124 h58 h124
          go_wp2
          go_roundw
          case rel => exact ⟨j + 1, by omega, by go_num, by rw [hst.out], by rw [hst.out], by rw [hst.out], by rw [hst.out], by rw [hst.out]; exact hfind⟩
          case measure => simp [intOf]; omega
    · have hj2 : j = 1212 := by omega
      subst hj2
      have hans : Hid (findP op nm = none) := by
        have h1 := hfind.out
        rw [state_end] at h1
        exact h1.symm
      clear hfind
      generalize stateAt 1212 = s at *
      go_wp2
      exact bodyPost_ret (v := .tuple #[.agg #[.string (bs []), .string (bs []), .string (bs [])], .int .i64 0, .bool false]) (by simp [results, Tryd.results16, go_sem]; first | done | rfl) rfl
        ⟨((Below.refl _ _).alloc (Nat.le_refl _) _).alloc (by simp) _, by rw [hans.out]; rfl⟩
end Go.Proofs.YtnmclpphiajleaaDoor
