/- No function of the program starts a goroutine. -/
import Derived.Test.YtfocdefchbnkpaaGreatDoorAli
import Derived.Test.YtfocdefchbnkpaaGreatDoorProg
import GoSem.ClaimGoes
import GoSem.ClaimSeven
import Derived.RowKit
set_option maxRecDepth 100000
set_option maxHeartbeats 20000000
namespace Go.Proofs.YtfocdefchbnkpaaGreatDoor
open Go.RowKit
theorem za3:(Tryz.prog).funcs.any Func.goes=false:=by kernel_rfl
theorem zh7 (f:FuncId):(Tryz.prog).goes f=false:=by
 unfold Program.goes
 rw[za3,Bool.and_false,Bool.or_false,List.any_eq_false]
 intro g _
 have h:=Array.any_eq_false.1 za3
 cases hg:(Tryz.prog).funcs[g]? with
 | none=>simp
 | some fn=>
  obtain⟨hl,aa⟩:=Array.getElem?_eq_some_iff.1 hg
  have:=h g hl
  rw[aa] at this
  simpa using this
theorem zjU (c:OpenClaim)(hs:c.start = .entering):false=c.goesBy Tryz.prog:=by
 unfold OpenClaim.goesBy Program.goesAt Program.goesFrom
 rw[hs]
 cases h:(Tryz.prog).funcNamed c.func with
 | none=>rfl
 | some f=>simp[zh7 f]
end Go.Proofs.YtfocdefchbnkpaaGreatDoor
