/- Plain facts on the instructions that the laws make: each may be; one operand more or fewer may not. -/
import Derived.Test.YtnmclpphiajleaaDoorMake
import Derived.Test.YtnmclpphiajleaaDoorOpd
import Derived.Test.YtnmclpphiajleaaDoorThere4
namespace Go.Proofs.YtnmclpphiajleaaDoor
open Plain
set_option linter.unusedVariables false
set_option linter.unusedSimpArgs false

theorem codeGo_opds (ns : List Int) : ∀ (ks : List K) (i : Nat) (a : Int), (codeGo ks (opds ns i ks) a).2 = true
  | [], _, _ => rfl
  | k :: ks, i, a => by
    unfold opds codeGo
    rw [if_pos (opd_right k _)]
    exact codeGo_opds ns ks (i + 1) _

theorem isP_mod (op : Int) : isP (op % 66) = true := by
  unfold isP
  simp
  omega

theorem made_length (op : Int) (ns : List Int) : (makeF op ns).length = (rowP (op % 66)).ks.length := opds_length _ _ _

theorem made_right (op : Int) (ns : List Int) : (codedP (op % 66) (makeF op ns)).2 = true := by
  unfold codedP
  rw [if_pos ⟨isP_mod op, made_length op ns⟩]
  exact codeGo_opds ns _ 0 _

theorem opds_range (ns : List Int) : ∀ (ks : List K) (i : Nat), InRange (opds ns i ks)
  | [], _ => fun x hx => by simp [opds] at hx
  | k :: ks, i => fun x hx => by
    unfold opds at hx
    rcases List.mem_cons.1 hx with rfl | h
    · have := opd_range k (ns.getD i i)
      omega
    · exact opds_range ns ks (i + 1) x h

theorem made_range (op : Int) (ns : List Int) : InRange (makeF op ns) := opds_range ns _ 0

/-- Another number of operands may not be. -/
theorem coded_other {op : Int} {fs : List Int} (h : fs.length ≠ (rowP op).ks.length) : codedP op fs = (0, false) := by
  unfold codedP
  rw [if_neg (fun hh => h hh.2)]

/-- Of what may be the bits say it all. -/
theorem coded_same {op op' : Int} {fs fs' : List Int} (h : (codedP op fs).2 = true) (h' : (codedP op' fs').2 = true) (hb : bytesP (sizeP op) (codedP op fs).1 = bytesP (sizeP op') (codedP op' fs').1) : op = op' ∧ fs = fs' := by
  have e : codedP op fs = ((codedP op fs).1, true) := Prod.ext rfl h
  have e' : codedP op' fs' = ((codedP op' fs').1, true) := Prod.ext rfl h'
  have d := decode_of e []
  have d' := decode_of e' []
  rw [hb, d'] at d
  simp at d
  exact ⟨d.1.symm, d.2.1.symm⟩
end Go.Proofs.YtnmclpphiajleaaDoor
