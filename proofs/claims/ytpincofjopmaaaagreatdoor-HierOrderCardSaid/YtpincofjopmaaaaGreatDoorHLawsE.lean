/-
  The walk of the law HierOrder as its card takes it.
  Conditions: the tables hold what they hold at the start.
-/
import Derived.Test.YtpincofjopmaaaaGreatDoorHOrderL
import Derived.Test.YtpincofjopmaaaaGreatDoorM37
namespace Go.Proofs.YtpincofjopmaaaaGreatDoor
open Go.RowKit
theorem hierOrder_all (sv : Value) (l : List Cls) (n : Nat) (w : World) (hT : HT6 w) (hs : Src 8 ClsR Anyw w sv l) (hr : ∀ c ∈ l, c.real) (hlen : l.length ≤ 9223372036854775807) (hn : n ≤ 255) :
    Calls Tryz.prog 11 #[sv, .int .u8 (n : Nat)] w (Said true w) :=
  hierOrder_any l sv n w hs hT (fun c hc => (hr c hc).2.1) (fun c hc => (hr c hc).1) hlen hn
end Go.Proofs.YtpincofjopmaaaaGreatDoor
