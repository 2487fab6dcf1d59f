/-
  The closed facts of the row of squinchlaw07.StepHeights.
  Conditions: none; the kernel reckons them.
-/
import Derived.Test.YtegljjbclladdaaGreatDoorRows
import Derived.Test.YtegljjbclladdaaGreatDoorChecked
import Derived.WalkKit
import Derived.ProofKit
import Derived.OpenShut
import Derived.Deep.DeepHandedRow
namespace Go.Proofs.YtegljjbclladdaaGreatDoor
namespace stepHeights
theorem closed : joinedFacts Tryz.prog 3 Tryz.f3 (OpenSpec.ofChange Rows.stepHeightsSpec).bare Rows.stepHeightsRow = true := by kernel_rfl
end stepHeights
end Go.Proofs.YtegljjbclladdaaGreatDoor
