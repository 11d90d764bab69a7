/- What the row says of variables. -/
import Derived.Test.YtlncljfljjaacaaGreatDoorRows
import Derived.KernelRfl
import Derived.ProofKit
import Derived.JoinedOf
import Derived.SevenTiedAt
namespace Go.Proofs.YtlncljfljjaacaaGreatDoor
open Go
set_option linter.unusedVariables false
theorem fact_named : (Rows.txnNamesRow.named == Tryz.prog.varsNamed 3) = true := by kernel_rfl
end Go.Proofs.YtlncljfljjaacaaGreatDoor
