/-
  The walk of the law HierKeeps as its card takes it.
  Conditions: as each text of it says.
-/
import Derived.Test.YtpincofjopmaaaaGreatDoorM46
import Derived.Test.YtpincofjopmaaaaGreatDoorM37
namespace Go.Proofs.YtpincofjopmaaaaGreatDoor
open Go.RowKit
theorem hierKeeps_all (sv : Value) (l : List Cls) (qa qb : List UInt8) (w : World) (hT : HT6 w) (hs : Src 8 ClsR Anyw w sv l) (hr : ∀ c ∈ l, c.real) (hlen : l.length ≤ 9223372036854775807) (ha : qa.length ≤ 9223372036854775807) (hb : qb.length ≤ 9223372036854775807) :
    Calls Tryz.prog 9 #[sv, .string (S qa), .string (S qb)] w (Said true w) :=
  hierKeeps_any l sv qa qb w hs hT (fun c hc => (hr c hc).2.1) (fun c hc => (hr c hc).1) hlen ha hb
end Go.Proofs.YtpincofjopmaaaaGreatDoor
