/-
  DERIVED. GIVEN WITH THE SEED: THE CARDS: each row of YtkaclahcpmogaabGreatDoorRows.lean that lists a variable, with what it lists TIED to the program's text (the seventh form; the later family's looks); each row that meets fmt, with fmt's text TOLD by the authors' own Lean function (tested against real Go, not proved from fmt's source: count such statements apart). THE CARD IS WHAT COUNTS. Prove the row's statement (the work); the ties are given (YtkaclahcpmogaabGreatDoorTie.lean); close each card by the builder's one call (the guide's Derived/Test/ToyasCard.lean, 'card_holds'). Laid BY PROGRAM, IN A SANDBOX (cutbox-door.mjs). By AI agents, Wed Nov 11 2026. No macro, syntax, notation, axiom, sorry.
-/
import Derived.Test.YtkaclahcpmogaabGreatDoorRows
import GoSem.ClaimSeven
namespace Go.Proofs.YtkaclahcpmogaabGreatDoor
namespace Rows

/-- THE TIED CARD OF 'letterpresslaw11.FrameWhole'. -/
def frameWholeCard : Claim7 := { stood := { row := frameWholeRow, standIns := [], harness := (true, "08a89a5e6364c45d122e8fb79607955d50091ce8c52acdef0af13553d2760fe6"), looks := true }, kinds := [], alts := [], laidByText := true, laidKinds := [.data, .data, .data, .data, .sentinel, .sentinel, .data, .pinned], laidTests := true, laidLooks := .later }
def FrameWholeCardSaid : Prop := Claim7.holds Tryz.pinned (.plain (OpenSpec.ofChange frameWholeSpec)) frameWholeCard

/-- THE TIED CARD OF 'letterpresslaw11.FrameBytes'. -/
def frameBytesCard : Claim7 := { stood := { row := frameBytesRow, standIns := [], harness := (true, "08a89a5e6364c45d122e8fb79607955d50091ce8c52acdef0af13553d2760fe6"), looks := true }, kinds := [], alts := [], laidByText := true, laidKinds := [.data, .data, .data, .data, .sentinel, .sentinel, .data, .pinned], laidTests := true, laidLooks := .later }
def FrameBytesCardSaid : Prop := Claim7.holds Tryz.pinned (.plain (OpenSpec.ofChange frameBytesSpec)) frameBytesCard

/-- THE TIED CARD OF 'letterpresslaw11.FrameValues'. -/
def frameValuesCard : Claim7 := { stood := { row := frameValuesRow, standIns := [], harness := (true, "08a89a5e6364c45d122e8fb79607955d50091ce8c52acdef0af13553d2760fe6"), looks := true }, kinds := [], alts := [], laidByText := true, laidKinds := [.data, .data, .data, .data, .sentinel, .sentinel, .data, .pinned], laidTests := true, laidLooks := .later }
def FrameValuesCardSaid : Prop := Claim7.holds Tryz.pinned (.plain (OpenSpec.ofChange frameValuesSpec)) frameValuesCard

/-- THE SECOND FORM's CARD OF 'letterpresslaw11.FrameWhole'. -/
def frameWholeUptoCard : Claim7 := { stood := { row := frameWholeUptoRow, standIns := [], harness := (true, "08a89a5e6364c45d122e8fb79607955d50091ce8c52acdef0af13553d2760fe6"), looks := true }, kinds := [], alts := [], laidByText := true, laidKinds := [.data, .data, .data, .data, .sentinel, .sentinel, .data, .pinned], laidTests := true, laidLooks := .later }
def FrameWholeUptoCardSaid : Prop := Claim7.holds Tryz.pinned (.plain (OpenSpec.upto frameWholeSpec)) frameWholeUptoCard

/-- THE SECOND FORM's CARD OF 'letterpresslaw11.FrameBytes'. -/
def frameBytesUptoCard : Claim7 := { stood := { row := frameBytesUptoRow, standIns := [], harness := (true, "08a89a5e6364c45d122e8fb79607955d50091ce8c52acdef0af13553d2760fe6"), looks := true }, kinds := [], alts := [], laidByText := true, laidKinds := [.data, .data, .data, .data, .sentinel, .sentinel, .data, .pinned], laidTests := true, laidLooks := .later }
def FrameBytesUptoCardSaid : Prop := Claim7.holds Tryz.pinned (.plain (OpenSpec.upto frameBytesSpec)) frameBytesUptoCard

/-- THE SECOND FORM's CARD OF 'letterpresslaw11.FrameValues'. -/
def frameValuesUptoCard : Claim7 := { stood := { row := frameValuesUptoRow, standIns := [], harness := (true, "08a89a5e6364c45d122e8fb79607955d50091ce8c52acdef0af13553d2760fe6"), looks := true }, kinds := [], alts := [], laidByText := true, laidKinds := [.data, .data, .data, .data, .sentinel, .sentinel, .data, .pinned], laidTests := true, laidLooks := .later }
def FrameValuesUptoCardSaid : Prop := Claim7.holds Tryz.pinned (.plain (OpenSpec.upto frameValuesSpec)) frameValuesUptoCard
end Rows
end Go.Proofs.YtkaclahcpmogaabGreatDoor
