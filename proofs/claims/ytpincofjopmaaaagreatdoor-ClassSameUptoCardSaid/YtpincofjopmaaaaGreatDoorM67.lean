/-
  The closed facts of the row of squinchlaw05.ClassSame.
  Conditions: none; the kernel reckons them.
-/
import Derived.Test.YtpincofjopmaaaaGreatDoorRows
import Derived.Test.YtpincofjopmaaaaGreatDoorChecked
import Derived.WalkKit
import Derived.ProofKit
import Derived.OpenShut
import Derived.Deep.DeepHandedRow
namespace Go.Proofs.YtpincofjopmaaaaGreatDoor
namespace classSame
theorem closed : joinedFacts Tryz.prog 3 Tryz.f3 (Rows.OpenSpec.upto Rows.classSameSpec).bare Rows.classSameUptoRow = true := by kernel_rfl
end classSame
end Go.Proofs.YtpincofjopmaaaaGreatDoor
