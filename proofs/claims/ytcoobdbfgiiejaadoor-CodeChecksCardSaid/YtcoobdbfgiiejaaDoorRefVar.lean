/-
  The contract of the document's Var, Int, Text and Flag: the bytes as a string.
  Conditions: the number is a uint64.
-/
import Derived.Test.YtcoobdbfgiiejaaDoorVar
namespace Go.Proofs.YtcoobdbfgiiejaaDoor
open Go.RowKit
end Go.Proofs.YtcoobdbfgiiejaaDoor
