/- The closed facts that the form asks of the row of Packs, each for itself, and put together. -/
import Derived.Test.YtfocdefchbnkpaaGreatDoorAli
import Derived.Test.YtfocdefchbnkpaaGreatDoorRows
import Derived.JoinedCond
set_option maxRecDepth 100000
set_option maxHeartbeats 20000000
namespace Go.Proofs.YtfocdefchbnkpaaGreatDoor
open Go Proofs.Tryz
theorem qZ {a b:Bool}(c:a=true)(d:b=true):(a && b)=true:=by rw[c,d];rfl
end Go.Proofs.YtfocdefchbnkpaaGreatDoor
