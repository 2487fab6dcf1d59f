/-
  The closed facts of the row of squinchlaw07.StepSelf.
  Conditions: none; the kernel reckons them.
-/
import Derived.Test.YtggcdinoflchjaaGreatDoorRows
import Derived.Test.YtggcdinoflchjaaGreatDoorChecked
import Derived.WalkKit
import Derived.ProofKit
import Derived.OpenShut
import Derived.Deep.DeepHandedRow
namespace Go.Proofs.YtggcdinoflchjaaGreatDoor
namespace stepSelf
theorem closed : joinedFacts Tryz.prog 9 Tryz.f9 (OpenSpec.ofChange Rows.stepSelfSpec).bare Rows.stepSelfRow = true := by kernel_rfl
end stepSelf
end Go.Proofs.YtggcdinoflchjaaGreatDoor
