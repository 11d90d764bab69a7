/- What the row says of what is called in place. -/
import Derived.Test.YtlncljfljjaacaaGreatDoorRows
import Derived.KernelRfl
import Derived.ProofKit
import Derived.JoinedOf
import Derived.SevenTiedAt
namespace Go.Proofs.YtlncljfljjaacaaGreatDoor
open Go
set_option linter.unusedVariables false
theorem fact_inPlace : (Rows.txnNamesRow.inPlace == Tryz.prog.inPlace 3) = true := by kernel_rfl
end Go.Proofs.YtlncljfljjaacaaGreatDoor
