/-
  The closed facts of the row of squinchlaw06.HierMakes.
  Conditions: none; the kernel reckons them.
-/
import Derived.Test.YtpincofjopmaaaaGreatDoorRows
import Derived.Test.YtpincofjopmaaaaGreatDoorChecked
import Derived.WalkKit
import Derived.ProofKit
import Derived.OpenShut
import Derived.Deep.DeepHandedRow
namespace Go.Proofs.YtpincofjopmaaaaGreatDoor
namespace hierMakes
theorem closed : joinedFacts Tryz.prog 5 Tryz.f5 (OpenSpec.ofChange Rows.hierMakesSpec).bare Rows.hierMakesRow = true := by kernel_rfl
end hierMakes
end Go.Proofs.YtpincofjopmaaaaGreatDoor
