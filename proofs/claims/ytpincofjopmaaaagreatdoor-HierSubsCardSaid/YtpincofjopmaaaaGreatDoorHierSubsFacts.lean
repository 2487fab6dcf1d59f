/-
  The closed facts of the row of squinchlaw06.HierSubs.
  Conditions: none; the kernel reckons them.
-/
import Derived.Test.YtpincofjopmaaaaGreatDoorRows
import Derived.Test.YtpincofjopmaaaaGreatDoorChecked
import Derived.WalkKit
import Derived.ProofKit
import Derived.OpenShut
import Derived.Deep.DeepHandedRow
namespace Go.Proofs.YtpincofjopmaaaaGreatDoor
namespace hierSubs
theorem closed : joinedFacts Tryz.prog 6 Tryz.f6 (OpenSpec.ofChange Rows.hierSubsSpec).bare Rows.hierSubsRow = true := by kernel_rfl
end hierSubs
end Go.Proofs.YtpincofjopmaaaaGreatDoor
