/-
  The closed facts of the row of squinchlaw06.HierKeeps.
  Conditions: none; the kernel reckons them.
-/
import Derived.Test.YtpincofjopmaaaaGreatDoorRows
import Derived.Test.YtpincofjopmaaaaGreatDoorChecked
import Derived.WalkKit
import Derived.ProofKit
import Derived.OpenShut
import Derived.Deep.DeepHandedRow
namespace Go.Proofs.YtpincofjopmaaaaGreatDoor
namespace hierKeeps
theorem closed : joinedFacts Tryz.prog 9 Tryz.f9 (OpenSpec.ofChange Rows.hierKeepsSpec).bare Rows.hierKeepsRow = true := by kernel_rfl
end hierKeeps
end Go.Proofs.YtpincofjopmaaaaGreatDoor
