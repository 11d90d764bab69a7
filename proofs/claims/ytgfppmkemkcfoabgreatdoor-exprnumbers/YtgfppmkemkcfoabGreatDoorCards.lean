/-
  DERIVED. GIVEN WITH THE SEED: THE CARDS: each row of YtgfppmkemkcfoabGreatDoorRows.lean that lists a variable, with what it lists TIED to the program's text (the seventh form; the later family's looks); each row that meets fmt, with fmt's text TOLD by the authors' own Lean function (tested against real Go, not proved from fmt's source: count such statements apart). THE CARD IS WHAT COUNTS. Prove the row's statement (the work); the ties are given (YtgfppmkemkcfoabGreatDoorTie.lean); close each card by the builder's one call (the guide's Derived/Test/ToyasCard.lean, 'card_holds'). Laid BY PROGRAM, IN A SANDBOX (cutbox-door.mjs). By AI agents, Wed Nov 11 2026. No macro, syntax, notation, axiom, sorry.
-/
import Derived.Test.YtgfppmkemkcfoabGreatDoorRows
import GoSem.ClaimSeven
namespace Go.Proofs.YtgfppmkemkcfoabGreatDoor
namespace Rows

/-- THE TIED CARD OF 'letterpresslaw3.ExprLaws'. -/
def exprLawsCard : Claim7 := { stood := { row := exprLawsRow, standIns := [], harness := (true, "93293f4717e598465f0b5db06f45db689804f9e14aa8408f0afbb4dadb8a57d0"), looks := true }, kinds := [], alts := [], laidByText := true, laidKinds := [.data, .data, .data, .data, .sentinel, .sentinel, .data, .pinned], laidTests := true, laidLooks := .later }
def ExprLawsCardSaid : Prop := Claim7.holds Tryz.pinned (.plain (OpenSpec.ofChange exprLawsSpec)) exprLawsCard

/-- THE TIED CARD OF 'letterpresslaw3.ExprBlanks'. -/
def exprBlanksCard : Claim7 := { stood := { row := exprBlanksRow, standIns := [], harness := (true, "93293f4717e598465f0b5db06f45db689804f9e14aa8408f0afbb4dadb8a57d0"), looks := true }, kinds := [], alts := [], laidByText := true, laidKinds := [.data, .data, .data, .data, .sentinel, .sentinel, .data, .pinned], laidTests := true, laidLooks := .later }
def ExprBlanksCardSaid : Prop := Claim7.holds Tryz.pinned (.plain (OpenSpec.ofChange exprBlanksSpec)) exprBlanksCard

/-- THE TIED CARD OF 'letterpresslaw3.ExprNumbers'. -/
def exprNumbersCard : Claim7 := { stood := { row := exprNumbersRow, standIns := [], harness := (true, "93293f4717e598465f0b5db06f45db689804f9e14aa8408f0afbb4dadb8a57d0"), looks := true }, kinds := [], alts := [], laidByText := true, laidKinds := [.data, .data, .data, .data, .sentinel, .sentinel, .data, .pinned], laidTests := true, laidLooks := .later }
def ExprNumbersCardSaid : Prop := Claim7.holds Tryz.pinned (.plain (OpenSpec.ofChange exprNumbersSpec)) exprNumbersCard

/-- THE TIED CARD OF 'letterpresslaw3.ExprBound'. -/
def exprBoundCard : Claim7 := { stood := { row := exprBoundRow, standIns := [], harness := (true, "93293f4717e598465f0b5db06f45db689804f9e14aa8408f0afbb4dadb8a57d0"), looks := true }, kinds := [], alts := [], laidByText := true, laidKinds := [.data, .data, .data, .data, .sentinel, .sentinel, .data, .pinned], laidTests := true, laidLooks := .later }
def ExprBoundCardSaid : Prop := Claim7.holds Tryz.pinned (.plain (OpenSpec.ofChange exprBoundSpec)) exprBoundCard

/-- THE TIED CARD OF 'letterpresslaw3.ExprFirst'. -/
def exprFirstCard : Claim7 := { stood := { row := exprFirstRow, standIns := [], harness := (true, "93293f4717e598465f0b5db06f45db689804f9e14aa8408f0afbb4dadb8a57d0"), looks := true }, kinds := [], alts := [], laidByText := true, laidKinds := [.data, .data, .data, .data, .sentinel, .sentinel, .data, .pinned], laidTests := true, laidLooks := .later }
def ExprFirstCardSaid : Prop := Claim7.holds Tryz.pinned (.plain (OpenSpec.ofChange exprFirstSpec)) exprFirstCard

/-- THE TIED CARD OF 'letterpresslaw3.ExprHere'. -/
def exprHereCard : Claim7 := { stood := { row := exprHereRow, standIns := [], harness := (true, "93293f4717e598465f0b5db06f45db689804f9e14aa8408f0afbb4dadb8a57d0"), looks := true }, kinds := [], alts := [], laidByText := true, laidKinds := [.data, .data, .data, .data, .sentinel, .sentinel, .data, .pinned], laidTests := true, laidLooks := .later }
def ExprHereCardSaid : Prop := Claim7.holds Tryz.pinned (.plain (OpenSpec.ofChange exprHereSpec)) exprHereCard

/-- THE SECOND FORM's CARD OF 'letterpresslaw3.ExprLaws'. -/
def exprLawsUptoCard : Claim7 := { stood := { row := exprLawsUptoRow, standIns := [], harness := (true, "93293f4717e598465f0b5db06f45db689804f9e14aa8408f0afbb4dadb8a57d0"), looks := true }, kinds := [], alts := [], laidByText := true, laidKinds := [.data, .data, .data, .data, .sentinel, .sentinel, .data, .pinned], laidTests := true, laidLooks := .later }
def ExprLawsUptoCardSaid : Prop := Claim7.holds Tryz.pinned (.plain (OpenSpec.upto exprLawsSpec)) exprLawsUptoCard

/-- THE SECOND FORM's CARD OF 'letterpresslaw3.ExprBlanks'. -/
def exprBlanksUptoCard : Claim7 := { stood := { row := exprBlanksUptoRow, standIns := [], harness := (true, "93293f4717e598465f0b5db06f45db689804f9e14aa8408f0afbb4dadb8a57d0"), looks := true }, kinds := [], alts := [], laidByText := true, laidKinds := [.data, .data, .data, .data, .sentinel, .sentinel, .data, .pinned], laidTests := true, laidLooks := .later }
def ExprBlanksUptoCardSaid : Prop := Claim7.holds Tryz.pinned (.plain (OpenSpec.upto exprBlanksSpec)) exprBlanksUptoCard

/-- THE SECOND FORM's CARD OF 'letterpresslaw3.ExprNumbers'. -/
def exprNumbersUptoCard : Claim7 := { stood := { row := exprNumbersUptoRow, standIns := [], harness := (true, "93293f4717e598465f0b5db06f45db689804f9e14aa8408f0afbb4dadb8a57d0"), looks := true }, kinds := [], alts := [], laidByText := true, laidKinds := [.data, .data, .data, .data, .sentinel, .sentinel, .data, .pinned], laidTests := true, laidLooks := .later }
def ExprNumbersUptoCardSaid : Prop := Claim7.holds Tryz.pinned (.plain (OpenSpec.upto exprNumbersSpec)) exprNumbersUptoCard

/-- THE SECOND FORM's CARD OF 'letterpresslaw3.ExprBound'. -/
def exprBoundUptoCard : Claim7 := { stood := { row := exprBoundUptoRow, standIns := [], harness := (true, "93293f4717e598465f0b5db06f45db689804f9e14aa8408f0afbb4dadb8a57d0"), looks := true }, kinds := [], alts := [], laidByText := true, laidKinds := [.data, .data, .data, .data, .sentinel, .sentinel, .data, .pinned], laidTests := true, laidLooks := .later }
def ExprBoundUptoCardSaid : Prop := Claim7.holds Tryz.pinned (.plain (OpenSpec.upto exprBoundSpec)) exprBoundUptoCard

/-- THE SECOND FORM's CARD OF 'letterpresslaw3.ExprFirst'. -/
def exprFirstUptoCard : Claim7 := { stood := { row := exprFirstUptoRow, standIns := [], harness := (true, "93293f4717e598465f0b5db06f45db689804f9e14aa8408f0afbb4dadb8a57d0"), looks := true }, kinds := [], alts := [], laidByText := true, laidKinds := [.data, .data, .data, .data, .sentinel, .sentinel, .data, .pinned], laidTests := true, laidLooks := .later }
def ExprFirstUptoCardSaid : Prop := Claim7.holds Tryz.pinned (.plain (OpenSpec.upto exprFirstSpec)) exprFirstUptoCard

/-- THE SECOND FORM's CARD OF 'letterpresslaw3.ExprHere'. -/
def exprHereUptoCard : Claim7 := { stood := { row := exprHereUptoRow, standIns := [], harness := (true, "93293f4717e598465f0b5db06f45db689804f9e14aa8408f0afbb4dadb8a57d0"), looks := true }, kinds := [], alts := [], laidByText := true, laidKinds := [.data, .data, .data, .data, .sentinel, .sentinel, .data, .pinned], laidTests := true, laidLooks := .later }
def ExprHereUptoCardSaid : Prop := Claim7.holds Tryz.pinned (.plain (OpenSpec.upto exprHereSpec)) exprHereUptoCard
end Rows
end Go.Proofs.YtgfppmkemkcfoabGreatDoor
