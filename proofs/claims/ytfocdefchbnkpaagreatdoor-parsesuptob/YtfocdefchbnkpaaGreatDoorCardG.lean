/- No function of the program starts a goroutine. -/
import Derived.Test.YtfocdefchbnkpaaGreatDoorAli
import Derived.Test.YtfocdefchbnkpaaGreatDoorProg
import GoSem.ClaimSeven
set_option maxRecDepth 100000
set_option maxHeartbeats 20000000
namespace Go.Proofs.YtfocdefchbnkpaaGreatDoor
open Go.RowKit Proofs.Tryz
theorem rN:(prog).funcs.any Func.goes=false:=by kernel_rfl
theorem zaW (f:FuncId):(prog).goes f=false:=by
 unfold Program.goes;rw[rN,Bool.and_false,Bool.or_false,Xd];intro g _;have h:=Array.any_eq_false.1 rN
 cases hg:(prog).funcs[g]? with
 | none=>simp
 | some fn=>
  obtain⟨b,a⟩:=Gy.1 hg;have:=h g b;rw[a] at this
  simpa using this
theorem ze3 (c:OpenClaim)(a:c.start = .entering):false=c.goesBy prog:=by
 unfold OpenClaim.goesBy Program.goesAt Program.goesFrom;rw[a]
 cases h:(prog).funcNamed c.func with
 | none=>rfl
 | some f=>simp[zaW f]
end Go.Proofs.YtfocdefchbnkpaaGreatDoor
