/-
  The closed facts of the row of squinchlaw06.HierGiven.
  Conditions: none; the kernel reckons them.
-/
import Derived.Test.YtpincofjopmaaaaGreatDoorRows
import Derived.Test.YtpincofjopmaaaaGreatDoorChecked
import Derived.WalkKit
import Derived.ProofKit
import Derived.OpenShut
import Derived.Deep.DeepHandedRow
namespace Go.Proofs.YtpincofjopmaaaaGreatDoor
namespace hierGiven
theorem closed : joinedFacts Tryz.prog 10 Tryz.f10 (OpenSpec.ofChange Rows.hierGivenSpec).bare Rows.hierGivenRow = true := by kernel_rfl
end hierGiven
end Go.Proofs.YtpincofjopmaaaaGreatDoor
