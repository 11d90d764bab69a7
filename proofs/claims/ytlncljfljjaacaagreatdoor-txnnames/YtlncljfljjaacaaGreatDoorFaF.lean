/- All of the row's closed facts. -/
import Derived.Test.YtlncljfljjaacaaGreatDoorRows
import Derived.KernelRfl
import Derived.ProofKit
import Derived.JoinedOf
import Derived.SevenTiedAt
import Derived.Test.YtlncljfljjaacaaGreatDoorFaA
import Derived.Test.YtlncljfljjaacaaGreatDoorFaB
import Derived.Test.YtlncljfljjaacaaGreatDoorFaC
import Derived.Test.YtlncljfljjaacaaGreatDoorFaD
namespace Go.Proofs.YtlncljfljjaacaaGreatDoor
open Go
set_option linter.unusedVariables false
theorem closed_row : joinedFacts Tryz.prog 3 Tryz.f3 Rows.txnNamesSpec Rows.txnNamesRow = true := by
  unfold joinedFacts
  rw [fact_inPlace, fact_unfollowed, fact_recurses, fact_named]
  kernel_rfl
end Go.Proofs.YtlncljfljjaacaaGreatDoor
