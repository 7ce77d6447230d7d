/- What the rows' list gives the walks of the keeper's functions. -/
import Derived.Test.YtfocdefchbnkpaaGreatDoorCardA
import Derived.Test.YtfocdefchbnkpaaGreatDoorYpD
set_option maxRecDepth 100000
set_option maxHeartbeats 20000000
namespace Go.Proofs.YtfocdefchbnkpaaGreatDoor
open Go.RowKit Proofs.Tryz
theorem zcO {W:World}(h:laidMetH prog Rows.plainsRow.laid W):GE W:=by
 rw[MakeChecks.laidMetH_plain _ _ _ (by kernel_rfl)] at h;have l:=laidMet.tail (laidMet.tail (laidMet.tail (laidMet.tail h)));have m:=laidMet.tail l;have j:∀{n:String} {nm:String} {d:DataW Unit} {r:List (String×DataW Unit)},laidMet prog ((n,.iface nm d) :: r) W->prog.globalNamed n=some (Tryz.laysC172_ren.g 15)->GE W:=fun {n nm d r} h hg=>by
  obtain⟨y,⟨t,B,b,q,x,z,a,f,i,c,_,p⟩,_,_⟩:=h;obtain rfl:=Bc (hg.symm.trans a);have o:(prog.globals[Tryz.laysC172_ren.g 15]?).map (·.type)=some 270:=by kernel_rfl
  obtain rfl:=Bc (o.symm.trans f);obtain⟨w⟩:=b;obtain⟨s,u,v,e,_⟩:=iface_of_trod underlying270 c;have k:=e;subst k;exact⟨_,by simpa using World.var?_cell a i 0,Or.inr ⟨u,v,rfl⟩⟩
 exact j m (by kernel_rfl)
theorem zcN {W:World}(h:laidMetH prog Rows.plainsRow.laid W)(a:W.ShapedOpen prog):G3 W:=⟨rL a,zcO h,iR h⟩
end Go.Proofs.YtfocdefchbnkpaaGreatDoor
