/- Plain facts: an instruction's bits say that instruction, with these operands, and no other one. -/
import Derived.Test.YtnmclpphiajleaaDoorThere2
namespace Go.Proofs.YtnmclpphiajleaaDoor
open Go.RowKit
open Plain
set_option linter.unusedVariables false
set_option linter.unusedSimpArgs false

theorem bits_and_u32_nat (a b : Nat) (ha : a < 4294967296) (hb : b < 4294967296) : bits .and .u32 (a : Int) (b : Int) = ((a &&& b : Nat) : Int) := by
  have hx : a &&& b < 2 ^ 32 := Nat.and_lt_two_pow _ (by omega)
  have h1 : (BitVec.ofInt 32 (a : Int)).toNat = a := by
    rw [BitVec.ofInt_natCast, BitVec.toNat_ofNat]; exact Nat.mod_eq_of_lt (by omega)
  have h2 : (BitVec.ofInt 32 (b : Int)).toNat = b := by
    rw [BitVec.ofInt_natCast, BitVec.toNat_ofNat]; exact Nat.mod_eq_of_lt (by omega)
  show IntKind.u32.wrap ((BitVec.ofInt 32 (a : Int) &&& BitVec.ofInt 32 (b : Int)).toNat : Int) = _
  rw [BitVec.toNat_and, h1, h2, IntKind.wrap_u32]
  omega

theorem mask_lt (k : K) : k.mask < 4294967296 := by cases k <;> decide

theorem apart_mask {c m F : Nat} (h : c &&& m = c) (hF : m &&& F = 0) : c &&& F = 0 := by
  rw [← h, Nat.and_assoc, hF, Nat.and_zero]

theorem codeGo_spec : ∀ (ks : List K) (fs : List Int) (a : Nat) (x : Int), a < 4294967296 → fs.length = ks.length → codeGo ks fs (a : Int) = (x, true) →
    ∃ X : Nat, x = (X : Int) ∧ X < 4294967296 ∧ (∀ F : Nat, (∀ k ∈ ks, k.mask &&& F = 0) → X &&& F = a &&& F) ∧
      (ks.Pairwise (fun k k' => k.mask &&& k'.mask = 0) → (∀ k ∈ ks, a &&& k.mask = 0) → ks.map (fun k => k.tell (X : Int)) = fs)
  | [], [], a, x, ha, _, h => by
    simp [codeGo] at h
    exact ⟨a, h.symm, ha, fun _ _ => rfl, fun _ _ => rfl⟩
  | [], f :: fs, a, x, ha, hl, h => by simp at hl
  | k :: ks, [], a, x, ha, hl, h => by simp at hl
  | k :: ks, f :: fs, a, x, ha, hl, h => by
    unfold codeGo at h
    by_cases hr : (k.code f).2 = true
    · rw [if_pos hr] at h
      have htc := tell_code k f hr
      obtain ⟨c, hc, hm⟩ := code_mask k f
      have hcl := lt_of_mask hm (mask_lt k)
      rw [hc] at h htc
      rw [bits_or_u32_nat a c ha hcl] at h
      have hlt : a ||| c < 4294967296 := by
        have := Nat.or_lt_two_pow (n := 32) (by omega : a < 2 ^ 32) (by omega : c < 2 ^ 32)
        omega
      obtain ⟨X, rfl, hX, hF, hT⟩ := codeGo_spec ks fs (a ||| c) x hlt (by simpa using hl) h
      refine ⟨X, rfl, hX, ?_, ?_⟩
      · intro F hk
        rw [hF F (fun k' hk' => hk k' (by simp [hk'])), Nat.and_or_distrib_right, apart_mask hm (hk k (by simp)), Nat.or_zero]
      · intro hp ha0
        rw [List.pairwise_cons] at hp
        have h1 : X &&& k.mask = c &&& k.mask := by
          rw [hF k.mask (fun k' hk' => by rw [Nat.and_comm]; exact hp.1 k' hk'), Nat.and_or_distrib_right, ha0 k (by simp), Nat.zero_or]
        have h2 : k.tell (X : Int) = f := by rw [tell_local k X c h1, htc]
        have h3 := hT hp.2 (fun k' hk' => by
          rw [Nat.and_or_distrib_right, ha0 k' (by simp [hk']), apart_mask hm (hp.1 k' hk')]
          rfl)
        rw [List.map_cons, h2, h3]
    · rw [if_neg hr] at h
      simp at h

/-- The bits that are an instruction's own, not its operands'. -/
def R.fixed (r : R) : Nat := 0xffffffff ^^^ (r.ks.foldl (fun m k => m ||| k.mask) 0)

theorem rows_masks : ∀ r ∈ short ++ long ++ [none'], r.ks.Pairwise (fun k k' => k.mask &&& k'.mask = 0) ∧ (∀ k ∈ r.ks, r.bits.toNat &&& k.mask = 0) ∧ (∀ k ∈ r.ks, k.mask &&& r.fixed = 0) ∧ r.bits.toNat &&& r.fixed = r.bits.toNat := by decide +kernel

theorem rows_apart : ∀ i j : Fin 66, i ≠ j → sizeP (i.val : Int) = sizeP (j.val : Int) → (rowP (i.val : Int)).bits.toNat &&& (rowP (j.val : Int)).fixed ≠ (rowP (j.val : Int)).bits.toNat &&& (rowP (i.val : Int)).fixed := by decide +kernel

/-- What an instruction's bits are. -/
theorem coded_spec {op : Int} {fs : List Int} {x : Int} (h : codedP op fs = (x, true)) :
    isP op = true ∧ fs.length = (rowP op).ks.length ∧ ∃ X : Nat, x = (X : Int) ∧ X < 4294967296 ∧ X &&& (rowP op).fixed = (rowP op).bits.toNat ∧ tells op x = fs := by
  unfold codedP at h
  by_cases hc : isP op = true ∧ fs.length = (rowP op).ks.length
  · rw [if_pos hc] at h
    obtain ⟨hi, hl⟩ := hc
    obtain ⟨m1, m2, m3, m4⟩ := rows_masks _ (rowP_mem op)
    obtain ⟨_, _, _, _, b0, b1⟩ := rows_fields _ (rowP_mem op)
    rw [show (rowP op).bits = (((rowP op).bits.toNat : Nat) : Int) by omega] at h
    obtain ⟨X, rfl, hX, hF, hT⟩ := codeGo_spec (rowP op).ks fs (rowP op).bits.toNat x (by omega) hl h
    refine ⟨hi, hl, X, rfl, hX, ?_, hT m1 m2⟩
    rw [hF _ m3, m4]
  · rw [if_neg hc] at h
    simp at h

/-- Its own bits are there. -/
theorem coded_has {op : Int} {fs : List Int} {x : Int} (h : codedP op fs = (x, true)) : bits .and .u32 x (rowP op).bits = (rowP op).bits := by
  obtain ⟨_, _, X, rfl, hX, hF, _⟩ := coded_spec h
  obtain ⟨_, _, _, m4⟩ := rows_masks _ (rowP_mem op)
  obtain ⟨_, _, _, _, b0, b1⟩ := rows_fields _ (rowP_mem op)
  rw [show (rowP op).bits = (((rowP op).bits.toNat : Nat) : Int) by omega, bits_and_u32_nat X _ hX (by omega)]
  congr 1
  calc X &&& (rowP op).bits.toNat = X &&& ((rowP op).bits.toNat &&& (rowP op).fixed) := by rw [m4]
    _ = X &&& (rowP op).fixed &&& (rowP op).bits.toNat := by rw [Nat.and_assoc, Nat.and_comm (rowP op).fixed]
    _ = (rowP op).bits.toNat := by rw [hF, Nat.and_self]

/-- Bits of one size say one instruction. -/
theorem coded_one {op op' : Int} {fs fs' : List Int} {x : Int} (h : codedP op fs = (x, true)) (h' : codedP op' fs' = (x, true)) (hs : sizeP op = sizeP op') : op = op' := by
  obtain ⟨hi, _, X, hx, _, hF, _⟩ := coded_spec h
  obtain ⟨hi', _, X', hx', _, hF', _⟩ := coded_spec h'
  have e : X = X' := by omega
  subst e
  unfold isP at hi hi'
  rw [Bool.and_eq_true, decide_eq_true_eq, decide_eq_true_eq] at hi hi'
  obtain ⟨i, rfl⟩ := Int.eq_ofNat_of_zero_le hi.1
  obtain ⟨j, rfl⟩ := Int.eq_ofNat_of_zero_le hi'.1
  by_cases hij : i = j
  · rw [hij]
  · exfalso
    refine rows_apart ⟨i, by omega⟩ ⟨j, by omega⟩ (fun e => hij (Fin.mk.inj e)) hs ?_
    show (rowP (i : Int)).bits.toNat &&& (rowP (j : Int)).fixed = (rowP (j : Int)).bits.toNat &&& (rowP (i : Int)).fixed
    rw [← hF, ← hF', Nat.and_assoc, Nat.and_assoc, Nat.and_comm (rowP (i : Int)).fixed]

theorem told_of {op : Int} {fs : List Int} {x : Int} (h : codedP op fs = (x, true)) : toldP op x = true := by
  obtain ⟨_, _, _, _, _, _, ht⟩ := coded_spec h
  unfold toldP
  rw [coded_has h, ht, h]
  simp

theorem told_coded {op x : Int} (h : toldP op x = true) : codedP op (tells op x) = (x, true) := by
  unfold toldP at h
  rw [Bool.and_eq_true, decide_eq_true_eq, decide_eq_true_eq] at h
  exact h.2

/-- What was encoded is found. -/
theorem first_of {op : Nat} {fs : List Int} {x : Int} (h : codedP op fs = (x, true)) : firstP (sizeP op) x 66 0 = some op := by
  have hi := (coded_spec h).1
  unfold isP at hi
  rw [Bool.and_eq_true, decide_eq_true_eq, decide_eq_true_eq] at hi
  have hhit : hitP (sizeP op) x op = true := by unfold hitP; rw [told_of h]; simp
  have hno : ∀ j : Nat, j < op → hitP (sizeP op) x j = false := by
    intro j hj
    cases hh : hitP (sizeP op) x j with
    | false => rfl
    | true =>
      exfalso
      unfold hitP at hh
      rw [Bool.and_eq_true, decide_eq_true_eq] at hh
      have := coded_one (told_coded hh.2) h hh.1
      omega
  have key : ∀ m r : Nat, r ≤ op → op < r + m → firstP (sizeP op) x m r = some op := by
    intro m
    induction m with
    | zero => intro r h1 h2; omega
    | succ m ih =>
      intro r h1 h2
      unfold firstP
      by_cases e : r = op
      · subst e; rw [if_pos hhit]
      · rw [if_neg (by rw [hno r (by omega)]; simp)]
        exact ih (r + 1) (by omega) (by omega)
  exact key 66 0 (by omega) (by omega)
end Go.Proofs.YtnmclpphiajleaaDoor
