/-
  DERIVED. GIVEN WITH THE SEED: THE CARDS: each row of YtlgimlddcmaboabDoorRows.lean that lists a variable, with what it lists TIED to the program's text (the seventh form; the later family's looks); each row that meets fmt, with fmt's text TOLD by the authors' own Lean function (tested against real Go, not proved from fmt's source: count such statements apart). THE CARD IS WHAT COUNTS. Prove the row's statement (the work); the ties are given (YtlgimlddcmaboabDoorTie.lean); close each card by the builder's one call (the guide's Derived/Test/ToyasCard.lean, 'card_holds'). Laid BY PROGRAM, IN A SANDBOX (cutbox-door.mjs). By AI agents, Wed Nov 11 2026. No macro, syntax, notation, axiom, sorry.
-/
import Derived.Test.YtlgimlddcmaboabDoorRows
import GoSem.ClaimSeven
namespace Go.Proofs.YtlgimlddcmaboabDoor
namespace Rows

/-- THE TIED CARD OF 'letterpresslaw2.IsaHalf'. -/
def isaHalfCard : Claim7 := { stood := { row := isaHalfRow, standIns := [], harness := (true, "3c5c2bcea24cf93f59a84a958fa7d6663da854b10277eeb6ec24b69937c84ae2"), looks := false }, kinds := [], alts := [], laidByText := true, laidKinds := [.listed, .data, .data, .data], laidTests := true, laidLooks := .later }
def IsaHalfCardSaid : Prop := Claim7.holds Tryd.pinned (.plain (OpenSpec.ofChange isaHalfSpec)) isaHalfCard

/-- THE TIED CARD OF 'letterpresslaw2.IsaKinds'. -/
def isaKindsCard : Claim7 := { stood := { row := isaKindsRow, standIns := [], harness := (true, "3c5c2bcea24cf93f59a84a958fa7d6663da854b10277eeb6ec24b69937c84ae2"), looks := false }, kinds := [], alts := [], laidByText := true, laidKinds := [.listed, .data, .data, .data], laidTests := true, laidLooks := .later }
def IsaKindsCardSaid : Prop := Claim7.holds Tryd.pinned (.plain (OpenSpec.ofChange isaKindsSpec)) isaKindsCard

/-- THE TIED CARD OF 'letterpresslaw2.IsaBits'. -/
def isaBitsCard : Claim7 := { stood := { row := isaBitsRow, standIns := [], harness := (true, "3c5c2bcea24cf93f59a84a958fa7d6663da854b10277eeb6ec24b69937c84ae2"), looks := false }, kinds := [], alts := [], laidByText := true, laidKinds := [.listed, .data, .data, .data], laidTests := true, laidLooks := .later }
def IsaBitsCardSaid : Prop := Claim7.holds Tryd.pinned (.plain (OpenSpec.ofChange isaBitsSpec)) isaBitsCard

/-- THE TIED CARD OF 'letterpresslaw2.IsaRegs'. -/
def isaRegsCard : Claim7 := { stood := { row := isaRegsRow, standIns := [], harness := (true, "3c5c2bcea24cf93f59a84a958fa7d6663da854b10277eeb6ec24b69937c84ae2"), looks := false }, kinds := [], alts := [], laidByText := true, laidKinds := [.listed, .data, .data, .data], laidTests := true, laidLooks := .later }
def IsaRegsCardSaid : Prop := Claim7.holds Tryd.pinned (.plain (OpenSpec.ofChange isaRegsSpec)) isaRegsCard

/-- THE TIED CARD OF 'letterpresslaw2.IsaReach'. -/
def isaReachCard : Claim7 := { stood := { row := isaReachRow, standIns := [], harness := (true, "3c5c2bcea24cf93f59a84a958fa7d6663da854b10277eeb6ec24b69937c84ae2"), looks := false }, kinds := [], alts := [], laidByText := true, laidKinds := [.listed, .data, .data, .data], laidTests := true, laidLooks := .later }
def IsaReachCardSaid : Prop := Claim7.holds Tryd.pinned (.plain (OpenSpec.ofChange isaReachSpec)) isaReachCard

/-- THE SECOND FORM's CARD OF 'letterpresslaw2.IsaHalf'. -/
def isaHalfUptoCard : Claim7 := { stood := { row := isaHalfUptoRow, standIns := [], harness := (true, "3c5c2bcea24cf93f59a84a958fa7d6663da854b10277eeb6ec24b69937c84ae2"), looks := false }, kinds := [], alts := [], laidByText := true, laidKinds := [.listed, .data, .data, .data], laidTests := true, laidLooks := .later }
def IsaHalfUptoCardSaid : Prop := Claim7.holds Tryd.pinned (.plain (OpenSpec.upto isaHalfSpec)) isaHalfUptoCard

/-- THE SECOND FORM's CARD OF 'letterpresslaw2.IsaKinds'. -/
def isaKindsUptoCard : Claim7 := { stood := { row := isaKindsUptoRow, standIns := [], harness := (true, "3c5c2bcea24cf93f59a84a958fa7d6663da854b10277eeb6ec24b69937c84ae2"), looks := false }, kinds := [], alts := [], laidByText := true, laidKinds := [.listed, .data, .data, .data], laidTests := true, laidLooks := .later }
def IsaKindsUptoCardSaid : Prop := Claim7.holds Tryd.pinned (.plain (OpenSpec.upto isaKindsSpec)) isaKindsUptoCard

/-- THE SECOND FORM's CARD OF 'letterpresslaw2.IsaBits'. -/
def isaBitsUptoCard : Claim7 := { stood := { row := isaBitsUptoRow, standIns := [], harness := (true, "3c5c2bcea24cf93f59a84a958fa7d6663da854b10277eeb6ec24b69937c84ae2"), looks := false }, kinds := [], alts := [], laidByText := true, laidKinds := [.listed, .data, .data, .data], laidTests := true, laidLooks := .later }
def IsaBitsUptoCardSaid : Prop := Claim7.holds Tryd.pinned (.plain (OpenSpec.upto isaBitsSpec)) isaBitsUptoCard

/-- THE SECOND FORM's CARD OF 'letterpresslaw2.IsaRegs'. -/
def isaRegsUptoCard : Claim7 := { stood := { row := isaRegsUptoRow, standIns := [], harness := (true, "3c5c2bcea24cf93f59a84a958fa7d6663da854b10277eeb6ec24b69937c84ae2"), looks := false }, kinds := [], alts := [], laidByText := true, laidKinds := [.listed, .data, .data, .data], laidTests := true, laidLooks := .later }
def IsaRegsUptoCardSaid : Prop := Claim7.holds Tryd.pinned (.plain (OpenSpec.upto isaRegsSpec)) isaRegsUptoCard

/-- THE SECOND FORM's CARD OF 'letterpresslaw2.IsaReach'. -/
def isaReachUptoCard : Claim7 := { stood := { row := isaReachUptoRow, standIns := [], harness := (true, "3c5c2bcea24cf93f59a84a958fa7d6663da854b10277eeb6ec24b69937c84ae2"), looks := false }, kinds := [], alts := [], laidByText := true, laidKinds := [.listed, .data, .data, .data], laidTests := true, laidLooks := .later }
def IsaReachUptoCardSaid : Prop := Claim7.holds Tryd.pinned (.plain (OpenSpec.upto isaReachSpec)) isaReachUptoCard
end Rows
end Go.Proofs.YtlgimlddcmaboabDoor
