/-
  The closed facts of the row of squinchlaw06.HierMembers.
  Conditions: none; the kernel reckons them.
-/
import Derived.Test.YtpincofjopmaaaaGreatDoorRows
import Derived.Test.YtpincofjopmaaaaGreatDoorChecked
import Derived.WalkKit
import Derived.ProofKit
import Derived.OpenShut
import Derived.Deep.DeepHandedRow
namespace Go.Proofs.YtpincofjopmaaaaGreatDoor
namespace hierMembers
theorem closed : joinedFacts Tryz.prog 8 Tryz.f8 (OpenSpec.ofChange Rows.hierMembersSpec).bare Rows.hierMembersRow = true := by kernel_rfl
end hierMembers
end Go.Proofs.YtpincofjopmaaaaGreatDoor
