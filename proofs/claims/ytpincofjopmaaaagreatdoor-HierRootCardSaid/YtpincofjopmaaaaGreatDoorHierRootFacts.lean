/-
  The closed facts of the row of squinchlaw06.HierRoot.
  Conditions: none; the kernel reckons them.
-/
import Derived.Test.YtpincofjopmaaaaGreatDoorRows
import Derived.Test.YtpincofjopmaaaaGreatDoorChecked
import Derived.WalkKit
import Derived.ProofKit
import Derived.OpenShut
import Derived.Deep.DeepHandedRow
namespace Go.Proofs.YtpincofjopmaaaaGreatDoor
namespace hierRoot
theorem closed : joinedFacts Tryz.prog 12 Tryz.f12 (OpenSpec.ofChange Rows.hierRootSpec).bare Rows.hierRootRow = true := by kernel_rfl
end hierRoot
end Go.Proofs.YtpincofjopmaaaaGreatDoor
