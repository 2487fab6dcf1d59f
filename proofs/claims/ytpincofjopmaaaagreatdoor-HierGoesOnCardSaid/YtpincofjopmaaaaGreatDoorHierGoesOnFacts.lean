/-
  The closed facts of the row of squinchlaw06.HierGoesOn.
  Conditions: none; the kernel reckons them.
-/
import Derived.Test.YtpincofjopmaaaaGreatDoorRows
import Derived.Test.YtpincofjopmaaaaGreatDoorChecked
import Derived.WalkKit
import Derived.ProofKit
import Derived.OpenShut
import Derived.Deep.DeepHandedRow
namespace Go.Proofs.YtpincofjopmaaaaGreatDoor
namespace hierGoesOn
theorem closed : joinedFacts Tryz.prog 7 Tryz.f7 (OpenSpec.ofChange Rows.hierGoesOnSpec).bare Rows.hierGoesOnRow = true := by kernel_rfl
end hierGoesOn
end Go.Proofs.YtpincofjopmaaaaGreatDoor
