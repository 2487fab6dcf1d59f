/-
  The contract of the law CodeReads in the form that its card wants.
-/
import Derived.Test.YtcoobdbfgiiejaaGreatDoorCReadsL
import Derived.Test.YtcoobdbfgiiejaaGreatDoorCLaid8
namespace Go.Proofs.YtcoobdbfgiiejaaGreatDoor
open Go.RowKit
theorem readsLaw_card (s : List UInt8) (w : World) (hT : CT w) (hp : Pow10 w ∧ EV w) (hs : s.length ≤ 9223372036854775807) :
    Calls Tryz.prog 6 #[.string (S s)] w fun e w' => e = .returned (.bool true) ∧ Below w.heap.size w w' := readsLaw_any s w hT hp.1 hp.2 hs
end Go.Proofs.YtcoobdbfgiiejaaGreatDoor
