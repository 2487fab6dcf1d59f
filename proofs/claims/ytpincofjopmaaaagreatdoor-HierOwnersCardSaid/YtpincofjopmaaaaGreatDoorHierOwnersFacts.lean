/-
  The closed facts of the row of squinchlaw06.HierOwners.
  Conditions: none; the kernel reckons them.
-/
import Derived.Test.YtpincofjopmaaaaGreatDoorRows
import Derived.Test.YtpincofjopmaaaaGreatDoorChecked
import Derived.WalkKit
import Derived.ProofKit
import Derived.OpenShut
import Derived.Deep.DeepHandedRow
namespace Go.Proofs.YtpincofjopmaaaaGreatDoor
namespace hierOwners
theorem closed : joinedFacts Tryz.prog 13 Tryz.f13 (OpenSpec.ofChange Rows.hierOwnersSpec).bare Rows.hierOwnersRow = true := by kernel_rfl
end hierOwners
end Go.Proofs.YtpincofjopmaaaaGreatDoor
