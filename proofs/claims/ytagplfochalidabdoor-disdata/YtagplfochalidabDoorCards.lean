/-
  DERIVED. GIVEN WITH THE SEED: THE CARDS: each row of YtagplfochalidabDoorRows.lean that lists a variable, with what it lists TIED to the program's text (the seventh form; the later family's looks); each row that meets fmt, with fmt's text TOLD by the authors' own Lean function (tested against real Go, not proved from fmt's source: count such statements apart). THE CARD IS WHAT COUNTS. Prove the row's statement (the work); the ties are given (YtagplfochalidabDoorTie.lean); close each card by the builder's one call (the guide's Derived/Test/ToyasCard.lean, 'card_holds'). Laid BY PROGRAM, IN A SANDBOX (cutbox-door.mjs). By AI agents, Wed Nov 11 2026. No macro, syntax, notation, axiom, sorry.
-/
import Derived.Test.YtagplfochalidabDoorRows
import GoSem.ClaimSeven
namespace Go.Proofs.YtagplfochalidabDoor
namespace Rows

/-- THE TIED CARD OF 'letterpresslaw6.DisData'. -/
def disDataCard : Claim7 := { stood := { row := disDataRow, standIns := [], harness := (true, "8a93e7794ea252c7984dbe798887fd6f4fc398b7d1d6e5472d61ee2d5eb09eb4"), looks := false }, kinds := [], alts := [], laidByText := true, laidKinds := [.data, .data, .data, .data, .data], laidTests := true, laidLooks := .later }
def DisDataCardSaid : Prop := Claim7.holds Tryd.pinned (.plain (OpenSpec.ofChange disDataSpec)) disDataCard
end Rows
end Go.Proofs.YtagplfochalidabDoor
