/-
  The closed facts of the row of squinchlaw07.StepMerges.
  Conditions: none; the kernel reckons them.
-/
import Derived.Test.YtggcdinoflchjaaGreatDoorRows
import Derived.Test.YtggcdinoflchjaaGreatDoorChecked
import Derived.WalkKit
import Derived.ProofKit
import Derived.OpenShut
import Derived.Deep.DeepHandedRow
namespace Go.Proofs.YtggcdinoflchjaaGreatDoor
namespace stepMerges
theorem closed : joinedFacts Tryz.prog 3 Tryz.f3 (OpenSpec.ofChange Rows.stepMergesSpec).bare Rows.stepMergesRow = true := by kernel_rfl
end stepMerges
end Go.Proofs.YtggcdinoflchjaaGreatDoor
