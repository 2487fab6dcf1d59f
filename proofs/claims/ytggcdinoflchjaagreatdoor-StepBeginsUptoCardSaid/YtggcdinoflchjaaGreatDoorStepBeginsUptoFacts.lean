/-
  The closed facts of the row of squinchlaw07.StepBegins.
  Conditions: none; the kernel reckons them.
-/
import Derived.Test.YtggcdinoflchjaaGreatDoorRows
import Derived.Test.YtggcdinoflchjaaGreatDoorChecked
import Derived.WalkKit
import Derived.ProofKit
import Derived.OpenShut
import Derived.Deep.DeepHandedRow
namespace Go.Proofs.YtggcdinoflchjaaGreatDoor
namespace stepBegins
theorem closed : joinedFacts Tryz.prog 6 Tryz.f6 (Rows.OpenSpec.upto Rows.stepBeginsSpec).bare Rows.stepBeginsUptoRow = true := by kernel_rfl
end stepBegins
end Go.Proofs.YtggcdinoflchjaaGreatDoor
