/- laws -/
import Derived.Test.YtggcdinoflchjaaGreatDoorK35
import Derived.Shelf.Strings.BuilderK
import Derived.Shelf.Strings.Builder1
import Derived.Shelf.LaysM
set_option maxRecDepth 100000
set_option maxHeartbeats 16000000
namespace Go.Proofs.YtggcdinoflchjaaGreatDoor
open Go.RowKit
theorem NewOk.acyc {cs:List Cls} (h:NewOk cs):Acyc (newT cs):=ZeI (ZdU (by have:=h.lined.len;rw [ZaT];omega) (fun c d hd=>h.lined.par c d hd) h.lined.self) h.loops
theorem NewOk.shape {cs:List Cls} (h:NewOk cs):Shape (newT cs):=h.lined.shape h.acyc
