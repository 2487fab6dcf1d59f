/-
  The closed facts of the row of squinchlaw05.ClassSigns.
  Conditions: none; the kernel reckons them.
-/
import Derived.Test.YtpincofjopmaaaaGreatDoorRows
import Derived.Test.YtpincofjopmaaaaGreatDoorChecked
import Derived.WalkKit
import Derived.ProofKit
import Derived.OpenShut
import Derived.Deep.DeepHandedRow
namespace Go.Proofs.YtpincofjopmaaaaGreatDoor
namespace classSigns
theorem closed : joinedFacts Tryz.prog 4 Tryz.f4 (OpenSpec.ofChange Rows.classSignsSpec).bare Rows.classSignsRow = true := by kernel_rfl
end classSigns
end Go.Proofs.YtpincofjopmaaaaGreatDoor
