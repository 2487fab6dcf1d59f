/-
  The closed facts of the row of squinchlaw07.StepBelow.
  Conditions: none; the kernel reckons them.
-/
import Derived.Test.YtegljjbclladdaaGreatDoorRows
import Derived.Test.YtegljjbclladdaaGreatDoorChecked
import Derived.WalkKit
import Derived.ProofKit
import Derived.OpenShut
import Derived.Deep.DeepHandedRow
namespace Go.Proofs.YtegljjbclladdaaGreatDoor
namespace stepBelow
theorem closed : joinedFacts Tryz.prog 4 Tryz.f4 (OpenSpec.ofChange Rows.stepBelowSpec).bare Rows.stepBelowRow = true := by kernel_rfl
end stepBelow
end Go.Proofs.YtegljjbclladdaaGreatDoor
