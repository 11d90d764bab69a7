/- What the row says of calls that are not followed. -/
import Derived.Test.YtlncljfljjaacaaGreatDoorRows
import Derived.KernelRfl
import Derived.ProofKit
import Derived.JoinedOf
import Derived.SevenTiedAt
namespace Go.Proofs.YtlncljfljjaacaaGreatDoor
open Go
set_option linter.unusedVariables false
theorem fact_unfollowed : (Rows.txnNamesRow.unfollowed == Tryz.prog.unfollowed 3) = true := by kernel_rfl
end Go.Proofs.YtlncljfljjaacaaGreatDoor
