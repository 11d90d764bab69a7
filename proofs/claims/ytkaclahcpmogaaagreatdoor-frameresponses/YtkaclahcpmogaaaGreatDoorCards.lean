/-
  DERIVED. GIVEN WITH THE SEED: THE CARDS: each row of YtkaclahcpmogaaaGreatDoorRows.lean that lists a variable, with what it lists TIED to the program's text (the seventh form; the later family's looks); each row that meets fmt, with fmt's text TOLD by the authors' own Lean function (tested against real Go, not proved from fmt's source: count such statements apart). THE CARD IS WHAT COUNTS. Prove the row's statement (the work); the ties are given (YtkaclahcpmogaaaGreatDoorTie.lean); close each card by the builder's one call (the guide's Derived/Test/ToyasCard.lean, 'card_holds'). Laid BY PROGRAM, IN A SANDBOX (cutbox-door.mjs). By AI agents, Wed Nov 11 2026. No macro, syntax, notation, axiom, sorry.
-/
import Derived.Test.YtkaclahcpmogaaaGreatDoorRows
import GoSem.ClaimSeven
namespace Go.Proofs.YtkaclahcpmogaaaGreatDoor
namespace Rows

/-- THE TIED CARD OF 'letterpresslaw11.FrameRequests'. -/
def frameRequestsCard : Claim7 := { stood := { row := frameRequestsRow, standIns := [], harness := (true, "2e3a2d191d52d84305a5012db90e303400cfcd659c86cb58d0cfbea904d12172"), looks := true }, kinds := [], alts := [], laidByText := true, laidKinds := [.data, .data, .data, .data, .sentinel, .sentinel, .data, .pinned], laidTests := true, laidLooks := .later }
def FrameRequestsCardSaid : Prop := Claim7.holds Tryz.pinned (.plain (OpenSpec.ofChange frameRequestsSpec)) frameRequestsCard

/-- THE TIED CARD OF 'letterpresslaw11.FrameReads'. -/
def frameReadsCard : Claim7 := { stood := { row := frameReadsRow, standIns := [], harness := (true, "2e3a2d191d52d84305a5012db90e303400cfcd659c86cb58d0cfbea904d12172"), looks := true }, kinds := [], alts := [], laidByText := true, laidKinds := [.data, .data, .data, .data, .sentinel, .sentinel, .data, .pinned], laidTests := true, laidLooks := .later }
def FrameReadsCardSaid : Prop := Claim7.holds Tryz.pinned (.plain (OpenSpec.ofChange frameReadsSpec)) frameReadsCard

/-- THE TIED CARD OF 'letterpresslaw11.FrameResponses'. -/
def frameResponsesCard : Claim7 := { stood := { row := frameResponsesRow, standIns := [], harness := (true, "2e3a2d191d52d84305a5012db90e303400cfcd659c86cb58d0cfbea904d12172"), looks := true }, kinds := [], alts := [], laidByText := true, laidKinds := [.data, .data, .data, .data, .sentinel, .sentinel, .data, .pinned], laidTests := true, laidLooks := .later }
def FrameResponsesCardSaid : Prop := Claim7.holds Tryz.pinned (.plain (OpenSpec.ofChange frameResponsesSpec)) frameResponsesCard

/-- THE TIED CARD OF 'letterpresslaw11.FrameRows'. -/
def frameRowsCard : Claim7 := { stood := { row := frameRowsRow, standIns := [], harness := (true, "2e3a2d191d52d84305a5012db90e303400cfcd659c86cb58d0cfbea904d12172"), looks := true }, kinds := [], alts := [], laidByText := true, laidKinds := [.data, .data, .data, .data, .sentinel, .sentinel, .data, .pinned], laidTests := true, laidLooks := .later }
def FrameRowsCardSaid : Prop := Claim7.holds Tryz.pinned (.plain (OpenSpec.ofChange frameRowsSpec)) frameRowsCard

/-- THE TIED CARD OF 'letterpresslaw11.FrameLarge'. -/
def frameLargeCard : Claim7 := { stood := { row := frameLargeRow, standIns := [], harness := (true, "2e3a2d191d52d84305a5012db90e303400cfcd659c86cb58d0cfbea904d12172"), looks := true }, kinds := [], alts := [], laidByText := true, laidKinds := [.data, .data, .data, .data, .sentinel, .sentinel, .data, .pinned], laidTests := true, laidLooks := .later }
def FrameLargeCardSaid : Prop := Claim7.holds Tryz.pinned (.plain (OpenSpec.ofChange frameLargeSpec)) frameLargeCard

/-- THE TIED CARD OF 'letterpresslaw11.FrameApart'. -/
def frameApartCard : Claim7 := { stood := { row := frameApartRow, standIns := [], harness := (true, "2e3a2d191d52d84305a5012db90e303400cfcd659c86cb58d0cfbea904d12172"), looks := true }, kinds := [], alts := [], laidByText := true, laidKinds := [.data, .data, .data, .data, .sentinel, .sentinel, .data, .pinned], laidTests := true, laidLooks := .later }
def FrameApartCardSaid : Prop := Claim7.holds Tryz.pinned (.plain (OpenSpec.ofChange frameApartSpec)) frameApartCard

/-- THE SECOND FORM's CARD OF 'letterpresslaw11.FrameRequests'. -/
def frameRequestsUptoCard : Claim7 := { stood := { row := frameRequestsUptoRow, standIns := [], harness := (true, "2e3a2d191d52d84305a5012db90e303400cfcd659c86cb58d0cfbea904d12172"), looks := true }, kinds := [], alts := [], laidByText := true, laidKinds := [.data, .data, .data, .data, .sentinel, .sentinel, .data, .pinned], laidTests := true, laidLooks := .later }
def FrameRequestsUptoCardSaid : Prop := Claim7.holds Tryz.pinned (.plain (OpenSpec.upto frameRequestsSpec)) frameRequestsUptoCard

/-- THE SECOND FORM's CARD OF 'letterpresslaw11.FrameReads'. -/
def frameReadsUptoCard : Claim7 := { stood := { row := frameReadsUptoRow, standIns := [], harness := (true, "2e3a2d191d52d84305a5012db90e303400cfcd659c86cb58d0cfbea904d12172"), looks := true }, kinds := [], alts := [], laidByText := true, laidKinds := [.data, .data, .data, .data, .sentinel, .sentinel, .data, .pinned], laidTests := true, laidLooks := .later }
def FrameReadsUptoCardSaid : Prop := Claim7.holds Tryz.pinned (.plain (OpenSpec.upto frameReadsSpec)) frameReadsUptoCard

/-- THE SECOND FORM's CARD OF 'letterpresslaw11.FrameResponses'. -/
def frameResponsesUptoCard : Claim7 := { stood := { row := frameResponsesUptoRow, standIns := [], harness := (true, "2e3a2d191d52d84305a5012db90e303400cfcd659c86cb58d0cfbea904d12172"), looks := true }, kinds := [], alts := [], laidByText := true, laidKinds := [.data, .data, .data, .data, .sentinel, .sentinel, .data, .pinned], laidTests := true, laidLooks := .later }
def FrameResponsesUptoCardSaid : Prop := Claim7.holds Tryz.pinned (.plain (OpenSpec.upto frameResponsesSpec)) frameResponsesUptoCard

/-- THE SECOND FORM's CARD OF 'letterpresslaw11.FrameRows'. -/
def frameRowsUptoCard : Claim7 := { stood := { row := frameRowsUptoRow, standIns := [], harness := (true, "2e3a2d191d52d84305a5012db90e303400cfcd659c86cb58d0cfbea904d12172"), looks := true }, kinds := [], alts := [], laidByText := true, laidKinds := [.data, .data, .data, .data, .sentinel, .sentinel, .data, .pinned], laidTests := true, laidLooks := .later }
def FrameRowsUptoCardSaid : Prop := Claim7.holds Tryz.pinned (.plain (OpenSpec.upto frameRowsSpec)) frameRowsUptoCard

/-- THE SECOND FORM's CARD OF 'letterpresslaw11.FrameLarge'. -/
def frameLargeUptoCard : Claim7 := { stood := { row := frameLargeUptoRow, standIns := [], harness := (true, "2e3a2d191d52d84305a5012db90e303400cfcd659c86cb58d0cfbea904d12172"), looks := true }, kinds := [], alts := [], laidByText := true, laidKinds := [.data, .data, .data, .data, .sentinel, .sentinel, .data, .pinned], laidTests := true, laidLooks := .later }
def FrameLargeUptoCardSaid : Prop := Claim7.holds Tryz.pinned (.plain (OpenSpec.upto frameLargeSpec)) frameLargeUptoCard

/-- THE SECOND FORM's CARD OF 'letterpresslaw11.FrameApart'. -/
def frameApartUptoCard : Claim7 := { stood := { row := frameApartUptoRow, standIns := [], harness := (true, "2e3a2d191d52d84305a5012db90e303400cfcd659c86cb58d0cfbea904d12172"), looks := true }, kinds := [], alts := [], laidByText := true, laidKinds := [.data, .data, .data, .data, .sentinel, .sentinel, .data, .pinned], laidTests := true, laidLooks := .later }
def FrameApartUptoCardSaid : Prop := Claim7.holds Tryz.pinned (.plain (OpenSpec.upto frameApartSpec)) frameApartUptoCard
end Rows
end Go.Proofs.YtkaclahcpmogaaaGreatDoor
