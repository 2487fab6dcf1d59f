/-
  The laws' walks as their cards take them.
  Conditions: as each text of it says.
-/
import Derived.Test.YtpincofjopmaaaaGreatDoorM41
import Derived.Test.YtpincofjopmaaaaGreatDoorM42
import Derived.Test.YtpincofjopmaaaaGreatDoorM44
import Derived.Test.YtpincofjopmaaaaGreatDoorM37
namespace Go.Proofs.YtpincofjopmaaaaGreatDoor
open Go.RowKit
theorem hierRoot_all (sv : Value) (l : List Cls) (w : World) (hT : HT6 w) (hs : Src 8 ClsR Anyw w sv l) (hr : ∀ c ∈ l, c.real) (hlen : l.length ≤ 9223372036854775807) :
    Calls Tryz.prog 12 #[sv] w (Said true w) :=
  hierRoot_any l sv w hs hT (fun c hc => (hr c hc).2.1) (fun c hc => (hr c hc).1) hlen
theorem hierOwners_all (sv : Value) (l : List Cls) (mem : List UInt8) (w : World) (hT : HT6 w) (hs : Src 8 ClsR Anyw w sv l) (hr : ∀ c ∈ l, c.real) (hlen : l.length ≤ 9223372036854775807) (hm : mem.length ≤ 9223372036854775807) :
    Calls Tryz.prog 13 #[sv, .string (S mem)] w (Said true w) :=
  hierOwners_any l sv mem w hs hT (fun c hc => (hr c hc).2.1) (fun c hc => (hr c hc).1) hlen hm
structure Three3 where
  a : List UInt8
  b : List UInt8
  c : List UInt8
def Three3.val (q : Three3) : Value := .agg #[.string (S q.a), .string (S q.b), .string (S q.c)]
def Three3.ok (q : Three3) : Prop := q.a.length ≤ 9223372036854775807 ∧ q.b.length ≤ 9223372036854775807 ∧ q.c.length ≤ 9223372036854775807
theorem hierGoesOn_all (sv : Value) (l : List Cls) (q : Three3) (w : World) (hT : HT6 w) (hs : Src 8 ClsR Anyw w sv l) (hr : ∀ c ∈ l, c.real) (hlen : l.length ≤ 9223372036854775807) (hq : q.ok) :
    Calls Tryz.prog 7 #[sv, q.val] w (Said true w) :=
  hierGoesOn_any l sv q.a q.b q.c w hs hT (fun c hc => (hr c hc).2.1) (fun c hc => (hr c hc).1) hlen hq.1 hq.2.1 hq.2.2
end Go.Proofs.YtpincofjopmaaaaGreatDoor
