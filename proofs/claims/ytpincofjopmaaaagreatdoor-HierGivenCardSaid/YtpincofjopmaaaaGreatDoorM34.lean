/-
  The contracts of the document's Elem and Parts of layer 3.
  Conditions: as each text of it says.
-/
import Derived.Test.YtpincofjopmaaaaGreatDoorM03
import Derived.Deep.QuietTactic
import Derived.BigQuiet
import Derived.Test.YtpincofjopmaaaaGreatDoorM33
import Derived.Test.YtpincofjopmaaaaGreatDoorM10
import Derived.Test.YtpincofjopmaaaaGreatDoorM14
import Derived.Test.YtpincofjopmaaaaGreatDoorM23
import Derived.Test.YtpincofjopmaaaaGreatDoorM16
set_option maxHeartbeats 8000000
set_option maxRecDepth 100000
namespace Go.Proofs.YtpincofjopmaaaaGreatDoor
open Go.RowKit
end Go.Proofs.YtpincofjopmaaaaGreatDoor
