/-
  The closed facts of the row of squinchlaw07.StepNexts.
  Conditions: none; the kernel reckons them.
-/
import Derived.Test.YtggcdinoflchjaaGreatDoorRows
import Derived.Test.YtggcdinoflchjaaGreatDoorChecked
import Derived.WalkKit
import Derived.ProofKit
import Derived.OpenShut
import Derived.Deep.DeepHandedRow
namespace Go.Proofs.YtggcdinoflchjaaGreatDoor
namespace stepNexts
theorem closed : joinedFacts Tryz.prog 5 Tryz.f5 (OpenSpec.ofChange Rows.stepNextsSpec).bare Rows.stepNextsRow = true := by kernel_rfl
end stepNexts
end Go.Proofs.YtggcdinoflchjaaGreatDoor
