/- What the rows' list gives the walks of the keeper's functions. -/
import Derived.Test.YtfocdefchbnkpaaGreatDoorAli
import Derived.Test.YtfocdefchbnkpaaGreatDoorCardA
import Derived.Test.YtfocdefchbnkpaaGreatDoorYpF
set_option maxRecDepth 100000
set_option maxHeartbeats 20000000
namespace Go.Proofs.YtfocdefchbnkpaaGreatDoor
open Go.RowKit
theorem zoT {W:World}(h:laidMetH Tryz.prog Rows.plainsRow.laid W):GE W:=by
 rw[MakeChecks.laidMetH_plain _ _ _ (by kernel_rfl)] at h
 have h1:=laidMet.tail (laidMet.tail (laidMet.tail (laidMet.tail h)))
 have h2:=laidMet.tail h1
 have ag:∀{n:String} {nm:String} {d:DataW Unit} {r:List (String×DataW Unit)},laidMet Tryz.prog ((n,.iface nm d) :: r) W->Tryz.prog.globalNamed n=some (Tryz.laysC172_ren.g 15)->GE W:=fun {n nm d r} h hg=>by
  obtain⟨ps,⟨g0,t0,ab,f0,p0,q0,aa,ae,af,ad,_,e0⟩,_,_⟩:=h
  obtain rfl:=qk (hg.symm.trans aa)
  have ht:(Tryz.prog.globals[Tryz.laysC172_ren.g 15]?).map (·.type)=some 270:=by kernel_rfl
  obtain rfl:=qk (ht.symm.trans ae)
  obtain⟨l0⟩:=ab
  obtain⟨f1,u,v,e,_⟩:=iface_of_trod Tryz.underlying270 ad
  have e2:l0=[.iface u v]:=e
  subst e2
  exact⟨_,by simpa using World.var?_cell aa af 0,Or.inr ⟨u,v,rfl⟩⟩
 exact ag h2 (by kernel_rfl)
theorem zoS {W:World}(h:laidMetH Tryz.prog Rows.plainsRow.laid W)(aa:W.ShapedOpen Tryz.prog):G3 W:=⟨zjT aa,zoT h,zmB h⟩
end Go.Proofs.YtfocdefchbnkpaaGreatDoor
