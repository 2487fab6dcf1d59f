/-
  What the statements' proofs share: the settled world of the witness.
  Conditions: none of its own.
-/
import Derived.Test.YthefgkllplodfaaS
import Derived.Test.YthefgkllplodfaaRows
import Derived.Lib.LaidIn
import Derived.Deep.DeepHandedRow
import Derived.Deep.DeepWitnessRowRef
import Derived.ProofKit
import Derived.SizedLaws
import Derived.OpenShut
import Derived.Carry
namespace Go.Proofs.Ythefgkllplodfaa
open Go.RowKit Go.Lib
theorem own : ownKnob Try.prog.godebug = none := by kernel_rfl
noncomputable def heldWorld (os : Os) : World := World.holding Try.prog os ⟨#[], #[], []⟩
theorem laid_none (W : World) : laidMet Try.prog [] W := ⟨[], rfl, List.nodup_nil, fun _ _ h => by cases h⟩
end Go.Proofs.Ythefgkllplodfaa
