/- What the card says of goroutines. -/
import Derived.Test.YtlncljfljjaacaaGreatDoorRows
import Derived.KernelRfl
import Derived.ProofKit
import Derived.JoinedOf
import Derived.SevenTiedAt
namespace Go.Proofs.YtlncljfljjaacaaGreatDoor
open Go
set_option linter.unusedVariables false
theorem fact_goes : false = Rows.txnNamesRow.goesBy Tryz.prog := by kernel_rfl
end Go.Proofs.YtlncljfljjaacaaGreatDoor
