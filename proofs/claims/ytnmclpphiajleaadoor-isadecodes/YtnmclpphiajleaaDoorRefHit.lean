/- Plain facts: what the reference's Decode asks of an instruction is what isa's asks. -/
import Derived.Test.YtnmclpphiajleaaDoorThere4
namespace Go.Proofs.YtnmclpphiajleaaDoor
open Go.RowKit
open Plain
set_option linter.unusedVariables false
set_option linter.unusedSimpArgs false

/-- How many bytes the reference asks for. -/
def refSize : List Int → Nat
  | a :: _ => if isLong a then 4 else 2
  | [] => 2

/-- The number that bytes are, the highest first. -/
def numB (l : List Int) : Int := l.foldl (fun n c => n * 256 + c) 0

theorem numB_snoc (l : List Int) (c : Int) : numB (l ++ [c]) = numB l * 256 + c := by simp [numB]

theorem lead_ref (b : List Int) : leadP b = if refSize b ≤ b.length then (numB (b.take (refSize b)), (refSize b : Int), true) else (0, 0, false) := by
  match b with
  | [] => rfl
  | [a] => cases h : isLong a <;> simp [leadP, refSize, h]
  | a :: c :: rest =>
    cases h : isLong a with
    | false => simp [leadP, refSize, h, numB]
    | true =>
      match rest with
      | [] => simp [leadP, refSize, h]
      | [_] => simp [leadP, refSize, h]
      | d :: e :: _ => simp [leadP, refSize, h, numB]

theorem bytes_lead {b : List Int} (hb : AreBytes b) (hl : (leadP b).2.2 = true) : bytesP (leadP b).2.1 (leadP b).1 = b.take (leadP b).2.1.toNat := by
  match b, hb with
  | [], _ => simp [leadP] at hl
  | [a], _ => simp [leadP] at hl
  | a :: c :: rest, hb =>
    have ha := hb a (by simp)
    have hc := hb c (by simp)
    cases h : isLong a with
    | false =>
      simp only [leadP, h]
      show [(a * 256 + c) / 256 % 256, (a * 256 + c) % 256] = [a, c]
      rw [show (a * 256 + c) / 256 % 256 = a by omega, show (a * 256 + c) % 256 = c by omega]
    | true =>
      match rest, hb with
      | [], _ => simp [leadP, h] at hl
      | [_], _ => simp [leadP, h] at hl
      | d :: e :: _, hb =>
        have hd := hb d (by simp)
        have he := hb e (by simp)
        simp only [leadP, h]
        show [(((a * 256 + c) * 256 + d) * 256 + e) / 256 / 256 / 256 % 256, (((a * 256 + c) * 256 + d) * 256 + e) / 256 / 256 % 256, (((a * 256 + c) * 256 + d) * 256 + e) / 256 % 256, (((a * 256 + c) * 256 + d) * 256 + e) % 256] = [a, c, d, e]
        rw [show (((a * 256 + c) * 256 + d) * 256 + e) / 256 / 256 / 256 % 256 = a by omega, show (((a * 256 + c) * 256 + d) * 256 + e) / 256 / 256 % 256 = c by omega, show (((a * 256 + c) * 256 + d) * 256 + e) / 256 % 256 = d by omega, show (((a * 256 + c) * 256 + d) * 256 + e) % 256 = e by omega]

/-- What the reference asks of an instruction. -/
def hitR (size x : Int) (b : List Int) (op : Nat) : Bool := decide (sizeP op = size) && ((codedP op (tells op x)).2 && decide (bytesP size (codedP op (tells op x)).1 = b.take size.toNat))

theorem hitR_eq {b : List Int} (hb : AreBytes b) (hl : (leadP b).2.2 = true) (op : Nat) : hitR (leadP b).2.1 (leadP b).1 b op = hitP (leadP b).2.1 (leadP b).1 op := by
  have hbl := bytes_lead hb hl
  unfold hitR hitP
  by_cases hs : sizeP (op : Int) = (leadP b).2.1
  · rw [decide_eq_true hs, Bool.true_and, Bool.true_and]
    cases ht : toldP (op : Int) (leadP b).1 with
    | true => rw [told_coded ht]; simp [hbl]
    | false =>
      cases hc : (codedP (op : Int) (tells (op : Int) (leadP b).1)).2 with
      | false => rfl
      | true =>
        rw [Bool.true_and, decide_eq_false_iff_not]
        intro e
        have hcd : codedP (op : Int) (tells (op : Int) (leadP b).1) = ((codedP (op : Int) (tells (op : Int) (leadP b).1)).1, true) := by rw [← hc]
        have hld := lead_of hcd (b.drop (leadP b).2.1.toNat)
        rw [hs, e, List.take_append_drop] at hld
        have h1 : (leadP b).1 = (codedP (op : Int) (tells (op : Int) (leadP b).1)).1 := congrArg Prod.fst hld
        rw [← h1] at hcd
        rw [told_of hcd] at ht
        cases ht
  · rw [decide_eq_false hs, Bool.false_and, Bool.false_and]
end Go.Proofs.YtnmclpphiajleaaDoor
