/-
  The closed facts of the row of squinchlaw06.HierOrder.
  Conditions: none; the kernel reckons them.
-/
import Derived.Test.YtpincofjopmaaaaGreatDoorRows
import Derived.Test.YtpincofjopmaaaaGreatDoorChecked
import Derived.WalkKit
import Derived.ProofKit
import Derived.OpenShut
import Derived.Deep.DeepHandedRow
namespace Go.Proofs.YtpincofjopmaaaaGreatDoor
namespace hierOrder
theorem closed : joinedFacts Tryz.prog 11 Tryz.f11 (OpenSpec.ofChange Rows.hierOrderSpec).bare Rows.hierOrderRow = true := by kernel_rfl
end hierOrder
end Go.Proofs.YtpincofjopmaaaaGreatDoor
