/-
  The closed facts of the row of squinchlaw07.StepUpper.
  Conditions: none; the kernel reckons them.
-/
import Derived.Test.YtggcdinoflchjaaGreatDoorRows
import Derived.Test.YtggcdinoflchjaaGreatDoorChecked
import Derived.WalkKit
import Derived.ProofKit
import Derived.OpenShut
import Derived.Deep.DeepHandedRow
namespace Go.Proofs.YtggcdinoflchjaaGreatDoor
namespace stepUpper
theorem closed : joinedFacts Tryz.prog 4 Tryz.f4 (OpenSpec.ofChange Rows.stepUpperSpec).bare Rows.stepUpperRow = true := by kernel_rfl
end stepUpper
end Go.Proofs.YtggcdinoflchjaaGreatDoor
