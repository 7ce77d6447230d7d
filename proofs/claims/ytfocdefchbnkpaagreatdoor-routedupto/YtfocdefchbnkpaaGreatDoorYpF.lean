/- The yard with a policy: a byte is taken. -/
import Derived.Test.YtfocdefchbnkpaaGreatDoorAli
import Derived.Test.YtfocdefchbnkpaaGreatDoorYpA
import Derived.Test.YtfocdefchbnkpaaGreatDoorPkG
set_option maxRecDepth 100000
set_option maxHeartbeats 20000000
namespace Go.Proofs.YtfocdefchbnkpaaGreatDoor
open Go.RowKit
def Yd.takeP (hs:List P.Hst)(y:Yd)(m:Nat)(c:UInt8):Yd:=
 match y.conns[m]? with
 | some (some (.hd h))=>
  if (Rq.take h c).2=(true,[]) then ({ y with draws:=Tr.after hs y.draws (Rq.take h c).1,conns:=y.conns.set m (some (.bd (Tr.D hs (y.draws.headD 0) (Rq.take h c).1))) }:Yd).after m []
  else (y.put m (.hd (Rq.take h c).1)).after m (Rq.take h c).2.2
 | some (some (.bd p))=>(y.put m (.bd (p.take c))).after m []
 | _=>y
theorem Cn.take_yes (D:Rq.Head->Pc){h:Rq.Head}{c:UInt8}(e:(Rq.take h c).2=(true,[])):Cn.take D h c=(.bd (D (Rq.take h c).1),[]):=by
 unfold Cn.take;rw[e];rfl
theorem Cn.take_no (D:Rq.Head->Pc){h:Rq.Head}{c:UInt8}(e:(Rq.take h c).2≠(true,[])):Cn.take D h c=(.hd (Rq.take h c).1,(Rq.take h c).2.2):=by
 unfold Cn.take
 rw[if_neg]
 intro h1
 simp only[Bool.and_eq_true,decide_eq_true_eq] at h1
 exact e (Prod.ext h1.1 h1.2)
theorem zpO {h:Rq.Head}{r:P.Rl}(hk:HOk h)(hr:RlOk r):(Rq.sent h r).length<=50000000:=by
 have h1:=uY h.target r hk.targ hr.rep
 have h2:=uB hk hr
 have h3:=uq (Rq.edited r h.headers) h2.1 _ (zZ _)
 rw[fZ] at h3
 have h4:=hk.meth
 have h5:Rq.sVersion.length<=100:=by decide
 unfold Rq.sent Rq.first Rq.line
 simp only[xP,List.flatten_nil,zW,zm,qi]
 omega
theorem Tr.after_le (hs:List P.Hst)(l:List UInt64)(h:Rq.Head):(Tr.after hs l h).length<=l.length:=by
 unfold Tr.after Tr.left
 split
 ·exact zZ _
 ·split
  ·exact zZ _
  ·rw[List.length_tail];omega
theorem GT.block2 {w w':World}{B:Nat}(h:GT w)(hB:GTB B)(hk:∀k,k<B->k<w.heap.size->w'.heap[k]?=w.heap[k]?):GT w':=h.same fun k e=>hk k (hB k e) (h.bound k e)
theorem zlZ {w w':World}{B:Nat}(h:GT w)(hB:GTB B){yb:Nat}{tv:Value}{ps ps':List (Option Nat)}{y:Yd}(m:YMv w w' yb ps ps')(hI:YInv w yb B tv ps y)(ht:tv.ownBlock=none):GT w':=h.block2 hB fun _ h1 h2=>m.keep hI ht h1 h2
theorem ziC {w:World}{yb B cb m:Nat}{tv:Value}{ps:List (Option Nat)}{y:Yd}{hs:List P.Hst}(h:YInv w yb B tv ps y)(hT:TabAt w tv hs)(hF:Fits hs)(hO:HsOk hs)(hk:YOk y)(hm:ps[m]?=some (some cb))(c:UInt8)(ah:y.sent.length<=100000000)(av:y.draws.length<=1000000000)(hl:ps.length<=1000000)(hB:B<=w.heap.size)(hG:Glob w)(hE:GE w)(ar:GT w)(af:0<B/\Tryz.laysC172_ren.g 15<B/\GTB B) :
  Calls Tryz.prog 47 #[.pointer (some ⟨yb,0,none⟩),.int .i64 (m+1:Nat),.int .u8 c.toNat] w fun e w'=>e = .returned (.tuple #[])/\∃ps',YInv w' yb B tv ps' (y.takeP hs m c)/\YMv w w' yb ps ps'/\ps'.length=ps.length:=by
 have ht:=hT.own
 obtain⟨c1,ec,hc⟩:=h.here m cb hm
 have aB:B<=cb:=(hc.cf (Or.inl (Or.inl rfl))).1
 have al:=hk m c1 ec
 cases c1 with
 | hd hh=>
  have hI:HInv w cb B (.pointer none) hh:=hc
  have ab:HOk hh:=al
  have ao:yb≠cb:=fun e=>j0 (h.hf ht (Or.inl rfl)).2 (by rw[e];exact(hc.cf (Or.inl (Or.inl rfl))).2)
  have aw:Tryz.laysC172_ren.g 15<w.heap.size:=by omega
  by_cases hw:(Rq.take hh c).2=(true,[])
  ·have e9:y.takeP hs m c=({ y with draws:=Tr.after hs y.draws (Rq.take hh c).1,conns:=y.conns.set m (some (.bd (Tr.D hs (y.draws.headD 0) (Rq.take hh c).1))) }:Yd).after m []:=by unfold Yd.takeP;rw[ec];simp only[if_pos hw]
   rw[e9]
   refine(vN (y1:={ y with draws:=Tr.after hs y.draws (Rq.take hh c).1,conns:=y.conns.set m (some (.bd (Tr.D hs (y.draws.headD 0) (Rq.take hh c).1))) }) h ht hm c [] ?_ ah hl hB).mono fun e w' ⟨q1,q2,q3⟩=>⟨q1,_,q2,q3,jl _ _ _⟩
   obtain⟨vd,vc,vs,h1,h2,h3,h4⟩:=h.ex
   have hX:∀(W:World) (i:Nat) (v:Value),((∃cs,W.heap[cb]?=some (.cells cs 106 (0,0)))/\∃aa,W.heap[yb]?=some (.cells #[tv,aa,vc,vs] 99 (0,0))/\QRow W B 60 aa ((Tr.after hs y.draws (Rq.take hh c).1).map drawV)/\(∀k,aa.ownBlock=some k->vd.ownBlock=some k)/\W.ownsRow B 100 1 vc ps.length (ps.map ptrV)/\W.ownsRow B 44 3 vs y.sent.length (evCells y.sent))->((∃cs,(W.setCell ⟨cb,i,none⟩ v).heap[cb]?=some (.cells cs 106 (0,0)))/\∃aa,(W.setCell ⟨cb,i,none⟩ v).heap[yb]?=some (.cells #[tv,aa,vc,vs] 99 (0,0))/\QRow (W.setCell ⟨cb,i,none⟩ v) B 60 aa ((Tr.after hs y.draws (Rq.take hh c).1).map drawV)/\(∀k,aa.ownBlock=some k->vd.ownBlock=some k)/\(W.setCell ⟨cb,i,none⟩ v).ownsRow B 100 1 vc ps.length (ps.map ptrV)/\(W.setCell ⟨cb,i,none⟩ v).ownsRow B 44 3 vs y.sent.length (evCells y.sent)):=by
    rintro W i v ⟨⟨cs,q0⟩,aa,q1,q2,q3,q4,q5⟩
    have gs:=zD W cb i v
    have ad:∀(u:Value) (e:TypeId),(∀k,u.ownBlock=some k->∃cs,W.heap[k]?=some (.cells cs e (0,0)))->e≠106->∀k,u.ownBlock=some k->(W.setCell ⟨cb,i,none⟩ v).heap[k]?=W.heap[k]?:=fun u e hv he k hk=>by
     obtain⟨ap,e2⟩:=hv k hk
     refine gs.block k (zE e2) (fun e3=>?_)
     have e4:=qk e3
     rw[e4,q0] at e2
     simp only[Option.some.injEq,Obj.cells.injEq] at e2
     exact he e2.2.1.symm
    exact⟨⟨_,zF (i:=i) q0 v⟩,aa,zB q1 gs (by simpa using ao),q2.keep gs.size (ad aa _ (fun k hk=>(q2.block k hk).2) (by decide)),q3,xA q4 (ad vc _ (fun k hk=>qH q4 k hk) (by decide)),xA q5 (ad vs _ (fun k hk=>qH q5 k hk) (by decide))⟩
   refine(wG (yb:=yb) (some yb) _ hX hI c (Tr.D hs (y.draws.headD 0)) ab.size (by have:=ab.line;have:=ab.size;omega) (by have:=ab.heads;omega) hB hG hE ⟨by omega,by omega⟩ (fun k e=>by have:=qk e;omega) ?_).mono ?_
   ·intro W h' ag hM ae
    have ax:HOk h':=by have:=ab.take c (by rw[ae]);rw[ae] at this;exact this
    have e1:(Rq.take hh c).1=h':=by rw[ae]
    have aA:∀k:Nat,(∃cs t,w.heap[k]?=some (.cells cs t (0,0))/\t∈ydTypes)->¬HF w cb k:=fun k q hF=>j0 q (hc.cf (Or.inl hF)).2
    have bk:∀k:Nat,(∃cs t,w.heap[k]?=some (.cells cs t (0,0))/\t∈ydTypes)->W.heap[k]?=w.heap[k]?:=fun k q=>by
     obtain⟨cs,t,e,q2⟩:=q
     exact hM.turn.block k (zE e) (aA k ⟨cs,t,e,q2⟩)
    have ak:∀k,k<B->k<w.heap.size->W.heap[k]?=w.heap[k]?:=fun k h5 h6=>hM.turn.block k h6 (fun hF=>by have:=(hc.cf (Or.inl hF)).1;omega)
    have an:=(bk yb ⟨_,_,h1,by decide⟩).trans h1
    have kd:∀k,vd.ownBlock=some k->W.heap[k]?=w.heap[k]?:=fun k hk=>by obtain⟨_,cs,e⟩:=h2.block k hk;exact bk k ⟨_,_,e,by decide⟩
    have kc:∀k,vc.ownBlock=some k->W.heap[k]?=w.heap[k]?:=fun k hk=>by obtain⟨cs,e⟩:=qH h3 k hk;exact bk k ⟨_,_,e,by decide⟩
    have ks:∀k,vs.ownBlock=some k->W.heap[k]?=w.heap[k]?:=fun k hk=>by obtain⟨cs,e⟩:=qH h4 k hk;exact bk k ⟨_,_,e,by decide⟩
    have az:=h2.keep hM.turn.size kd
    have ai:=xA h3 kc
    have am:=xA h4 ks
    have aq:GE W:=by
     obtain⟨ev,q1,q2⟩:=hE
     refine⟨ev,?_,q2⟩
     rw[jA (ak _ af.2.1 aw)]
     exact q1
    have au:GT W:=ar.block2 af.2.2 ak
    have aC:=h.low
    refine(zi2 ag ax an az av (hT.head hM hI rfl) hF hO aq au ⟨by omega,fun g e=>by have:=af.2.2 g e;omega⟩).mono ?_
    rintro e w' ⟨pb,q1,q2,q3,aa,q4,q5,q6⟩
    obtain⟨vl,vh,r1,_,_⟩:=ag.ex
    have ad:∀(u:Value) (e:TypeId),(∀k,u.ownBlock=some k->∃cs,W.heap[k]?=some (.cells cs e (0,0)))->e≠99->∀k,u.ownBlock=some k->w'.heap[k]?=W.heap[k]?:=fun u e hv he k hk=>by
     obtain⟨ap,e2⟩:=hv k hk
     refine q3.block k (zE e2) (fun e3=>?_)
     have e4:=qk e3
     rw[e4,an] at e2
     simp only[Option.some.injEq,Obj.cells.injEq] at e2
     exact he e2.2.1.symm
    rw[e1]
    exact⟨pb,q1,q2,q3,⟨_,zB r1 q3 (by simpa using ao.symm)⟩,aa,q4,q5,q6,xA ai (ad vc _ (fun k hk=>qH ai k hk) (by decide)),xA am (ad vs _ (fun k hk=>qH am k hk) (by decide))⟩
   ·rintro e w' ⟨q1,q2,q3,q4⟩
    rw[Cn.take_yes _ hw] at q1 q2
    obtain⟨_,aa,p1,p2,p3,p4,p5⟩:=q4 hw
    have aj:=h.conn (tv':=tv) (y':={ y with draws:=Tr.after hs y.draws (Rq.take hh c).1,conns:=y.conns.set m (some (.bd (Tr.D hs (y.draws.headD 0) (Rq.take hh c).1))) }) ht hm q3 (fun k e=>(qk e).symm) q2 ⟨aa,vc,vs,p1,p2,p4,p5⟩ (fun k hF=>?_) rfl
    ·exact⟨q1,aj.1,aj.2⟩
    ·rcases hF with rfl | ⟨j,u,c1,c2⟩
     ·exact Or.inl (Or.inl rfl)
     ·rw[z8 p1] at c1
      refine Or.inl (Or.inr ?_)
      match j,c1 with
      | 0,c1=>simp at c1;subst c1;rw[ht] at c2;cases c2
      | 1,c1=>simp at c1;subst c1;exact⟨1,vd,z8 h1,p3 k c2⟩
      | 2,c1=>simp at c1;subst c1;exact⟨2,vc,z8 h1,c2⟩
      | 3,c1=>simp at c1;subst c1;exact⟨3,vs,z8 h1,c2⟩
      | j+4,c1=>simp at c1
  ·have e9:y.takeP hs m c=(y.put m (.hd (Rq.take hh c).1)).after m (Rq.take hh c).2.2:=by unfold Yd.takeP;rw[ec];simp only[if_neg hw]
   rw[e9]
   refine(vN (y1:=y.put m (.hd (Rq.take hh c).1)) h ht hm c (Rq.take hh c).2.2 ?_ ah hl hB).mono fun e w' ⟨q1,q2,q3⟩=>⟨q1,_,q2,q3,jl _ _ _⟩
   refine(wG (yb:=yb) none (fun _=>True) (fun _ _ _ _=>trivial) hI c (Tr.D hs 0) ab.size (by have:=ab.line;have:=ab.size;omega) (by have:=ab.heads;omega) hB hG hE ⟨by omega,by omega⟩ (fun k e=>by cases e) ?_).mono ?_
   ·intro W h' ag hM ae
    exact absurd (by rw[ae]) hw
   ·rintro e w' ⟨q1,q2,q3,_⟩
    rw[Cn.take_no _ hw] at q1 q2
    exact⟨q1,(h.put ht hm q3 q2).1,(h.put ht hm q3 q2).2⟩
 | bd p=>
  have ay:1<=p.left/\p.left<=300/\p.data.length+p.left<=100000000:=al
  have e9:y.takeP hs m c=(y.put m (.bd (p.take c))).after m []:=by unfold Yd.takeP;rw[ec]
  rw[e9]
  refine(vN (y1:=y.put m (.bd (p.take c))) h ht hm c [] ?_ ah hl hB).mono fun e w' ⟨q1,q2,q3⟩=>⟨q1,_,q2,q3,jl _ _ _⟩
  refine(zcE (row:=none) hc c ⟨ay.1,by omega⟩ (by omega) hB).mono ?_
  rintro e w' ⟨q1,q2,q3⟩
  exact⟨q1,(h.put ht hm q3 q2).1,(h.put ht hm q3 q2).2⟩
theorem zgJ (hs:List P.Hst)(y:Yd)(m:Nat)(c:UInt8)(i:Nat)(hi:m≠i):(y.takeP hs m c).conns[i]?=y.conns[i]?:=by
 unfold Yd.takeP
 split
 ·split
  ·rw[vq _ _ _ _ hi]
   show(y.conns.set m _)[i]?=_
   rw[List.getElem?_set_ne hi]
  ·rw[vq _ _ _ _ hi]
   show(y.conns.set m _)[i]?=_
   rw[List.getElem?_set_ne hi]
 ·rw[vq _ _ _ _ hi]
  show(y.conns.set m _)[i]?=_
  rw[List.getElem?_set_ne hi]
 ·rfl
theorem ziP (hs:List P.Hst)(y:Yd)(m:Nat)(c:UInt8):(y.takeP hs m c).sent.length<=y.sent.length+1:=by
 unfold Yd.takeP
 split
 ·split
  ·exact kT _ _ _
  ·exact kT _ _ _
 ·exact kT _ _ _
 ·omega
theorem vp (y:Yd)(m:Nat)(r:List UInt8):(y.after m r).draws=y.draws:=by
 unfold Yd.after
 split
 ·unfold Yd.ready
  split
  ·split <;> rfl
  ·rfl
 ·rfl
theorem zgI (hs:List P.Hst)(y:Yd)(m:Nat)(c:UInt8):(y.takeP hs m c).draws.length<=y.draws.length:=by
 unfold Yd.takeP
 split
 ·split
  ·rw[vp];exact Tr.after_le _ _ _
  ·rw[vp];exact zZ _
 ·rw[vp];exact zZ _
 ·exact zZ _
theorem D_le {hs:List P.Hst}(hO:HsOk hs){h:Rq.Head}(hk:HOk h)(d:UInt64):(Tr.D hs d h).left=Rq.body h/\(Tr.D hs d h).data.length<=50000000:=by
 unfold Tr.D
 split
 ·exact⟨rfl,by show Yd.noRoute.length<=_;decide⟩
 ·rename_i r hr
  obtain⟨x,h1,h2⟩:=Tr.find_mem hr
  exact⟨rfl,zpO hk (hO x h1 r h2)⟩
theorem YOk.takeP {hs:List P.Hst}(hO:HsOk hs){y:Yd}(hk:YOk y)(m:Nat)(c:UInt8):YOk (y.takeP hs m c):=by
 intro i d hd
 by_cases hi:m=i
 ·subst hi
  unfold Yd.takeP at hd
  split at hd
  ·rename_i h ec
   have hm:m<y.conns.length:=(List.getElem?_eq_some_iff.1 ec).1
   have hh:HOk h:=hk m _ ec
   split at hd
   ·rename_i h1
    have h2:(Rq.take h c).2.2=[]:=by rw[h1]
    have aa:=hh.take c h2
    have ab:=aa.body
    obtain⟨e1,e2⟩:=D_le hO aa (y.draws.headD 0)
    exact t7 (y:={ y with draws:=Tr.after hs y.draws (Rq.take h c).1 }) hm (Or.inr ⟨_,rfl,by rw[e1];exact ab.1,by rw[e1];exact ab.2,by rw[e1];omega⟩) hd
   ·rename_i h1
    by_cases h2:(Rq.take h c).2.2=[]
    ·rw[h2] at hd
     exact t7 hm (Or.inl ⟨_,rfl,hh.take c h2⟩) hd
    ·unfold Yd.after at hd
     rw[if_neg h2] at hd
     have e1:((((y.put m (.hd (Rq.take h c).1)).send ⟨m+1,[],(Rq.take h c).2.2⟩).ended m).conns[m]?)=some none:=by
      show((y.conns.set m _).set m none)[m]?=_
      rw[List.getElem?_set_self (by rw[List.length_set];exact hm)]
     rw[e1] at hd
     simp at hd
  ·rename_i p ec
   have hm:m<y.conns.length:=(List.getElem?_eq_some_iff.1 ec).1
   have hp:1<=p.left/\p.left<=300/\p.data.length+p.left<=100000000:=hk m _ ec
   refine t7 hm (Or.inr ⟨_,rfl,by show 0<=p.left - 1;omega,by show p.left - 1<=300;omega,?_⟩) hd
   have hl:(p.take c).data.length<=p.data.length+1:=by unfold Pc.take;simp only;split <;> simp
   have e2:(p.take c).left=p.left - 1:=rfl
   rw[e2];omega
  ·exact hk m d hd
 ·rw[zgJ hs y m c i hi] at hd
  exact hk i d hd
def Yd.stepP (hs:List P.Hst)(y:Yd)(m:Nat)(c:UInt8):Yd:=if y.isOpen (m+1:Nat)=true then y.takeP hs m c else y
def Yd.fedP (hs:List P.Hst)(y:Yd)(m:Nat)(l:List UInt8):Yd:=l.foldl (fun y c=>y.stepP hs m c) y
theorem zjY (hs:List P.Hst)(y:Yd)(m:Nat)(l:List UInt8)(c:UInt8):y.fedP hs m (l++[c])=(y.fedP hs m l).stepP hs m c:=by unfold Yd.fedP;rw[List.foldl_append];rfl
theorem zjX (hs:List P.Hst)(y:Yd)(m:Nat)(l:List UInt8)(h:y.isOpen (m+1:Nat)=false):y.fedP hs m l=y:=by
 induction l with
 | nil=>rfl
 | cons c l ih=>
  have e:y.stepP hs m c=y:=by unfold Yd.stepP;rw[h];rfl
  show Yd.fedP hs (y.stepP hs m c) m l=y
  rw[e];exact ih
theorem zeB (hs:List P.Hst)(y:Yd)(m:Nat)(a b:List UInt8):y.fedP hs m (a++b)=(y.fedP hs m a).fedP hs m b:=by unfold Yd.fedP;rw[List.foldl_append]
structure FdP (w wr:World) (yb B m:Nat) (tv:Value) (hs:List P.Hst) (ps ps':List (Option Nat)) (y y':Yd) (i:Nat):Prop where
 inv:YInv wr yb B tv ps' y'
 mv:YMv w wr yb ps ps'
 len:ps'.length=ps.length
 ok:YOk y'
 sent:y'.sent.length<=y.sent.length+i
 draws:y'.draws.length<=y.draws.length
 tab:TabAt wr tv hs
theorem zkD {w:World}{yb B m:Nat}{tv:Value}{hs:List P.Hst}{ps:List (Option Nat)}{y:Yd}{a:Option Addr}{k:Nat}{l:List UInt8}(h:YInv w yb B tv ps y)(ak:TabAt w tv hs)(hF:Fits hs)(hO:HsOk hs)(hk:YOk y)(ho:y.isOpen (m+1:Nat)=true)(hr:RdO w (.slice a l.length k) l)(ha:Apart w yb ps (.slice a l.length k))(aB:l.length<=80000000)(aw:y.sent.length<=10000000)(ap:y.draws.length<=1000000000)(hl:ps.length<=1000000)(hB:B<=w.heap.size)(hG:Glob w)(hE:GE w)(ao:GT w)(ad:0<B/\Tryz.laysC172_ren.g 15<B/\GTB B) :
  Calls Tryz.prog 26 #[.pointer (some ⟨yb,0,none⟩),.int .i64 (m+1:Nat),.slice a l.length k] w fun e w'=>e = .returned (.int .i64 0)/\∃ps',FdP w w' yb B m tv hs ps ps' y (y.fedP hs m l) l.length:=by
 have ht:=ak.own
 have HO:=hid (fq h (m+1:Nat) hl)
 rw[ho] at HO
 have HZ:Y (FdP w w yb B m tv hs ps ps y (y.fedP hs m (l.take 0)) 0):=⟨h,YMv.refl _ _ _,rfl,hk,zZ _,zZ _,ak⟩
 have an:=hid hr
 have ag:Y (∀wr ps' y' i,FdP w wr yb B m tv hs ps ps' y y' i->Calls Tryz.prog 46 #[.pointer (some ⟨yb,0,none⟩),.int .i64 (m+1:Nat)] wr fun e w'=>e = .returned (.bool (y'.isOpen (m+1:Nat)))/\w'=wr):=fun wr ps' y' i hF=>fq hF.inv _ (by rw[hF.len];exact hl)
 have ah:Y (∀wr ps' y' i,FdP w wr yb B m tv hs ps ps' y y' i->RdO wr (.slice a l.length k) l):=fun wr ps' y' i hF=>hr.moved hF.mv ha
 have aj:Y (∀wr ps' y' i (c:UInt8),FdP w wr yb B m tv hs ps ps' y y' i->i<l.length->y'.isOpen (m+1:Nat)=true->Calls Tryz.prog 47 #[.pointer (some ⟨yb,0,none⟩),.int .i64 (m+1:Nat),.int .u8 c.toNat] wr fun e w'=>e = .returned (.tuple #[])/\∃al,FdP w w' yb B m tv hs ps al y (y'.takeP hs m c) (i+1)):=fun wr ps' y' i c hFd hi aa=>by
  obtain⟨m',e1,_,cb,c0,e2,_⟩:=hFd.inv.open_at aa
  have e3:m=m':=by omega
  subst e3
  have aC:=hFd.mv.turn.size
  refine(ziC hFd.inv hFd.tab hF hO hFd.ok e2 c (by have:=hFd.sent;omega) (zp hFd.draws ap) (by rw[hFd.len];exact hl) (by omega) (hG.moved hFd.mv h ht hB ad.1) (hE.moved hFd.mv h ht hB ad.2.1) (zlZ ao ad.2.2 hFd.mv h ht) ad).mono ?_
  rintro e w' ⟨q1,al,q2,q3,q4⟩
  exact⟨q1,al,⟨q2,hFd.mv.trans q3,q4.trans hFd.len,hFd.ok.takeP hO m c,by have:=ziP hs y' m c;have:=hFd.sent;omega,zp (zgI hs y' m c) hFd.draws,hFd.tab.moved q3 hFd.inv ht⟩⟩
 have ae:Y (∀i,i<l.length->(y.fedP hs m (l.take i)).isOpen (m+1:Nat)=false->y.fedP hs m l=y.fedP hs m (l.take i)):=fun i hi aa=>by
  have:l=l.take i++l.drop i:=(List.take_append_drop i l).symm
  rw[this,zeB,List.take_append_drop,zjX _ _ _ _ aa]
 have ai:Y (∀i (hi:i<l.length),(y.fedP hs m (l.take i)).isOpen (m+1:Nat)=true->(y.fedP hs m (l.take i)).takeP hs m l[i]=y.fedP hs m (l.take (i+1))):=fun i hi aa=>by
  rw[List.take_add_one,qN hi]
  show _=y.fedP hs m (l.take i++[l[i]])
  rw[zjY];unfold Yd.stepP;rw[if_pos aa]
 have am:Y (l.take l.length=l):=List.take_length
 have af:Y (∀wr ps' y' i,FdP w wr yb B m tv hs ps ps' y y' i->i<=l.length->FdP w wr yb B m tv hs ps ps' y y' l.length):=fun wr ps' y' i q hi=>⟨q.inv,q.mv,q.len,q.ok,by have:=q.sent;omega,q.draws,q.tab⟩
 clear h ak hF hO hk ho hr ha hG hE ao hl aw ap hB ad ht
 generalize((m+1:Nat):Int)=n at*
 go_enter Tryz.func26,Tryz.ntmps26
 go_wp2_with fail
 refine HO.o.mono ?_
 rintro e w1 ⟨rfl,rfl⟩
 clear HO
 go_wp2_with fail
 go_loopw [7] (fun iv wr=>∃i:Nat,i<=l.length/\iv = .int .i64 i/\∃ps',Y (FdP w1 wr yb B m tv hs ps ps' y (y.fedP hs m (l.take i)) i)) (fun iv _=>l.length - (intOf iv).toNat)
 case atStart=>exact⟨0,zl _,rfl,ps,HZ⟩
 case round=>
  obtain⟨i,av,rfl,ps',HW⟩:=hrel
  clear HZ
  by_cases ab:i<l.length
  ·have aA:(i:Int)<l.length:=by omega
   have HI:=hid (ag.o wr ps' _ i HW.o)
   have HR:=hid (ah.o wr ps' _ i HW.o)
   have HT:=hid (fun aa=>aj.o wr ps' _ i l[i] HW.o ab aa)
   have HE:=hid (ae.o i ab)
   have HS:=hid (ai.o i ab)
   have au:=hid (af.o wr ps' _ i HW.o av)
   obtain⟨g,o,rfl,az⟩:∃g o,a=some ⟨g,o,none⟩/\wr.cell? ⟨g,o+i,none⟩=some (.int .u8 l[i].toNat):=by
    rcases HR.o with ⟨_,_,e,e2⟩ | ⟨g,o,c,e,_,_,h3⟩
    ·rw[e2] at ab;cases ab
    ·simp only[qc,true_and] at e
     exact⟨g,o,e.1,h3 i _ (qN ab)⟩
   clear ag ah aj ae ai HR an am af
   generalize aq:y.fedP hs m (l.take i)=y' at*
   have ay:=hid aq
   clear aq
   generalize l[i]=c at*
   generalize aa:y'.isOpen n=b at*
   have HB:=hid aa
   clear aa
   go_wp2_with fail
   refine HI.o.mono ?_
   rintro e w2 ⟨rfl,rfl⟩
   clear HI
   cases b
   ·go_wp2
    go_ret
    exact⟨rfl,ps',by rw[HE.o trivial];exact au.o⟩
   ·go_wp2_with fail
    refine(HT.o trivial).mono ?_
    rintro e w3 ⟨rfl,ax,F3⟩
    have ar:=hid F3
    clear HT F3
    go_wp2_with fail
    go_roundw
    case rel=>exact⟨i+1,by omega,by go_num,ax,by rw[<-HS.o trivial];exact ar⟩
    case measure=>simp[intOf];omega
  ·have hE:i=l.length:=by omega
   subst hE
   rw[am.o] at HW
   clear ag ah aj ae ai an af
   go_wp2
   go_ret
   exact⟨rfl,ps',HW.o⟩
structure G3 (w:World):Prop where
 glob:Glob w
 ge:GE w
 gt:GT w
theorem ziV {w:World}{a:Addr}{v:Value}(h:w.cell? a=some v):a.block<w.heap.size:=by
 rcases Nat.lt_or_ge a.block w.heap.size with q | q
 ·exact q
 ·simp[World.cell?,Array.getElem?_eq_none q] at h
theorem G3.grown {w w':World}(h:G3 w)(g:w.grownBy w' none):G3 w':=⟨h.glob.keep g (by simp),h.ge.grown g,h.gt.grown g⟩
theorem G3.low {w:World}(h:G3 w):0<w.heap.size/\Tryz.laysC172_ren.g 15<w.heap.size/\GTB w.heap.size:=by
 obtain⟨m,h1⟩:=h.glob
 obtain⟨ev,h2,_⟩:=h.ge
 exact⟨ziV h1,ziV h2,h.gt.bound⟩
structure KY (w0 w:World) (yb:Nat) (tv:Value) (ps:List (Option Nat)) (y:Yd):Prop where
 inv:YInv w yb w0.heap.size tv ps y
 gr:w0.grownBy w none
 own:tv.ownBlock=none
 ok:YOk y
theorem KY.move {w0 w w':World}{yb:Nat}{tv tv':Value}{ps ps':List (Option Nat)}{y y':Yd}(h:KY w0 w yb tv ps y)(m:YMv w w' yb ps ps')(i:YInv w' yb w0.heap.size tv' ps' y')(o:tv'.ownBlock=none)(k:YOk y'):KY w0 w' yb tv' ps' y':=
 ⟨i,⟨m.turn.os.trans h.gr.os,m.turn.tape.trans h.gr.tape,m.turn.output.trans h.gr.output,zp h.gr.size m.turn.size,fun j hj _=>(m.keep h.inv h.own hj (yU hj h.gr.size)).trans (h.gr.block j hj (by simp))⟩,o,k⟩
theorem KY.grown {w0 w w':World}{yb:Nat}{tv:Value}{ps:List (Option Nat)}{y:Yd}(h:KY w0 w yb tv ps y)(g:w.grownBy w' none):KY w0 w' yb tv ps y/\YMv w w' yb ps ps:=by
 obtain⟨h1,h2⟩:=h.inv.grown h.own g
 exact⟨h.move h2 h1 h.own h.ok,h2⟩
structure Held (w:World) (yb:Nat) (ps:List (Option Nat)) (v:Value) (l:List Ev):Prop where
 row:w.ownsRow 0 44 3 v l.length (evCells l)
 apart:∀k,v.ownBlock=some k->¬YF w yb ps k
theorem YOk.opened {y:Yd}(h:YOk y):YOk y.opened:=fun m c hm=>by
 have e:y.opened.conns=y.conns++[some (.hd Rq.zero)]:=rfl
 rw[e] at hm
 by_cases aa:m<y.conns.length
 ·rw[List.getElem?_append_left aa] at hm;exact h m c hm
 ·rw[List.getElem?_append_right (by omega)] at hm
  have h9:=(List.getElem?_eq_some_iff.1 hm).1
  have e2:m - y.conns.length=0:=by simpa using h9
  rw[e2] at hm
  simp at hm
  subst hm
  exact HOk.zero
theorem zhQ (hs:List P.Hst):0<(qE hs).length:=by
 unfold qE qo
 simp
theorem zkX {w:World}(G:G3 w){t:List UInt8}{hs:List P.Hst}(ht:t.length<=1000000)(he:xm t=(0,0))(hp:xG t=qE hs)(hV:VHs hs)(hF:Fits hs)(hl:(qE hs).length<=1000000) :
  Calls Tryz.prog 20 #[.string (R.str t)] w fun e w'=>∃yb tv cb,e = .returned (.pointer (some ⟨yb,0,none⟩))/\KY w w' yb tv [some cb] Yd.new.opened/\TabAt w' tv hs:=by
 have HN:=hid (zpE w)
 have ae:Y (∀W,w.grownBy W none->Calls Tryz.prog 18 #[.string (R.str t)] W fun e w'=>∃a k,e = .returned (.tuple #[.slice a (qE hs).length k,.int .i64 0,.int .i64 0])/\Y (w'.ownsRow W.heap.size 5 1 (.slice a (qE hs).length k) (qE hs).length (Lib.byteCells (qE hs)))/\Y (W.grownBy w' none)):=fun W hW=>by
  have h1:=fk (R.str t) W (by rw[R.str_size];unfold maxLen;omega) (G.glob.keep hW (by simp))
  rw[R.str_toList,he,hp] at h1
  exact h1
 have af:Y (∀W yb B a k,YInv W yb B (.pointer none) [] Yd.new->w.grownBy W none->W.ownsRow B 5 1 (.slice a (qE hs).length k) (qE hs).length (Lib.byteCells (qE hs))->Calls Tryz.prog 22 #[.pointer (some ⟨yb,0,none⟩),.slice a (qE hs).length k] W fun e w'=>e = .returned (.int .i64 0)/\∃tv',Y (TabAt w' tv' hs)/\Y (YInv w' yb B tv' [] Yd.new)/\Y (YMv W w' yb [] [])):=fun W yb B a k hI hW hr=>
  znD hI rfl (RdO.of_row hr) (fun g o n c e=>by have:=(qh hr g (by rw[e];rfl)).2;exact this) (by omega) (G.glob.keep hW (by simp)) (G.gt.grown hW) hV hF
 have al:(0:Int)<(qE hs).length:=by have:=zhQ hs;omega
 have am:¬((qE hs).length:Int)=0:=by omega
 clear he hp hV hF ht hl
 generalize qE hs=pk at*
 go_enter Tryz.func20,Tryz.ntmps20
 go_wp2_with fail
 refine HN.o.mono ?_
 rintro e w1 ⟨yb,rfl,ak,i1,g1,_⟩
 have I1:=hid i1
 have G1:=hid g1
 have HC:=hid (ae.o w1 g1)
 clear HN ae i1 g1 ak
 go_wp2_with fail
 refine HC.o.mono ?_
 rintro e w2 ⟨a,k,rfl,R2,g2⟩
 obtain⟨I2,M2⟩:=I1.o.grown rfl g2.o
 have G2:=hid (zA G1.o g2.o)
 have aa:=hid (af.o w2 yb w.heap.size a k I2 G2.o (qK R2.o G1.o.size))
 have ai:=hid M2
 have ab:=hid I2
 clear HC af I1 I2 M2 R2 g2
 go_wp2_with fail
 refine aa.o.mono ?_
 rintro e w3 ⟨rfl,tv,T3,I3,M3⟩
 have ag:KY w w2 yb (.pointer none) [] Yd.new:=⟨ab.o,G2.o,rfl,YOk.new⟩
 have ad:=hid (ag.move M3.o I3.o T3.o.own YOk.new)
 have HO:=hid (znB I3.o T3.o.own (by decide) (zp G2.o.size M3.o.turn.size))
 clear aa ag ab ai G2
 go_wp2_with fail
 refine HO.o.mono ?_
 rintro e w4 ⟨rfl,i4,m4⟩
 have ah:=hid (ad.o.move m4 i4 T3.o.own YOk.new.opened)
 have aj:=hid (T3.o.moved m4 I3.o T3.o.own)
 clear HO i4 m4 ad T3 I3 M3
 go_wp2
 go_ret
 exact⟨yb,tv,_,rfl,ah.o,aj.o⟩
theorem ze5 {w:World}{yb B:Nat}{tv:Value}{ps:List (Option Nat)}{y:Yd}(h:YInv w yb B tv ps y)(ht:tv.ownBlock=none)(l:List UInt8):YInv (Lib.bytesWorld w 5 (R.str l)) yb B tv ps y/\YMv w (Lib.bytesWorld w 5 (R.str l)) yb ps ps/\RdO (Lib.bytesWorld w 5 (R.str l)) (.slice (some ⟨w.heap.size,0,none⟩) l.length (grownCap w l.length 0 5)) l/\Apart (Lib.bytesWorld w 5 (R.str l)) yb ps (.slice (some ⟨w.heap.size,0,none⟩) l.length (grownCap w l.length 0 5)):=by
 obtain⟨h1,h2⟩:=h.grown ht (xk w 5 (R.str l))
 have hg:=GRow.bytes w l
 have hb:=Lib.bytesWorld_at_new w 5 (R.str l)
 refine⟨h1,h2,Or.inr ⟨w.heap.size,0,_,rfl,grownCap_ge w l.length 0 _,zE hb,fun j u hu=>?_⟩,fun k hk hF=>?_⟩
 ·rw[Nat.zero_add]
  exact(BytesAt.new w (R.str l)).cell (by rw[R.str_toList];exact hu)
 ·have e:k=w.heap.size:=(qk hk).symm
  subst e
  have aa:∀j,YF w yb ps j->j<w.heap.size:=fun j q=>h.lt ht q
  have ab:∀j,YF w yb ps j->(Lib.bytesWorld w 5 (R.str l)).heap[j]?=w.heap[j]?:=fun j q=>(xk w 5 (R.str l)).block j (aa j q) (by simp)
  have:=(h.keep (xk w 5 (R.str l)).size ab).2 _ hF
  have:=aa _ this
  omega
theorem YOk.told {y:Yd}(h:YOk y):YOk y.told:=h
theorem zkW {w0 w:World}(G:G3 w0){yb:Nat}{tv:Value}{ps:List (Option Nat)}{y:Yd}{hs:List P.Hst}(h:KY w0 w yb tv ps y)(hT:TabAt w tv hs)(hF:Fits hs)(hO:HsOk hs)(l:List UInt8)(ho:y.isOpen 1=true)(af:l.length<=1000000)(ag:y.sent.length<=10000000)(ae:y.draws.length<=1000000000)(hl:ps.length<=1000000) :
  Calls Tryz.prog 23 #[.pointer (some ⟨yb,0,none⟩),.string (R.str l)] w fun e w'=>∃a k ps',e = .returned (.slice a (y.fedP hs 0 l).sent.length k)/\KY w0 w' yb tv ps' (y.fedP hs 0 l).told/\TabAt w' tv hs/\YMv w w' yb ps ps'/\Held w' yb ps' (.slice a (y.fedP hs 0 l).sent.length k) (y.fedP hs 0 l).sent/\ps'.length=ps.length:=by
 have ah:∀w,(convert 9 32 (.string (R.str l))).run Tryz.prog w = .ok (.slice (some ⟨w.heap.size,0,none⟩) l.length (grownCap w l.length 0 5)) (Lib.bytesWorld w 5 (R.str l)):=fun w=>by
  have:=Lib.run_convert_string_bytes (P:=Tryz.prog) (u:=.string) w 9 32 5 (R.str l) (by kernel_rfl) (by kernel_rfl) (by kernel_rfl)
  rw[R.str_size] at this;exact this
 have ad:Y (Calls Tryz.prog 26 #[.pointer (some ⟨yb,0,none⟩),.int .i64 1,(.slice (some ⟨w.heap.size,0,none⟩) l.length (grownCap w l.length 0 5))] (Lib.bytesWorld w 5 (R.str l)) fun e w'=>e = .returned (.int .i64 0)/\∃ps',FdP (Lib.bytesWorld w 5 (R.str l)) w' yb w0.heap.size 0 tv hs ps ps' y (y.fedP hs 0 l) l.length):=by
  obtain⟨i1,m1,r1,a1⟩:=ze5 h.inv h.own l
  have g1:=xk w 5 (R.str l)
  have g:=zA h.gr g1
  exact zkD (m:=0) i1 (hT.grown g1) hF hO h.ok ho r1 a1 (zp af (by decide)) ag ae hl g.size (G.grown g).glob (G.grown g).ge (G.grown g).gt G.low
 have aa:=hid (h.grown (xk w 5 (R.str l)))
 have ab:Y (∀W ps',FdP (Lib.bytesWorld w 5 (R.str l)) W yb w0.heap.size 0 tv hs ps ps' y (y.fedP hs 0 l) l.length->Calls Tryz.prog 28 #[.pointer (some ⟨yb,0,none⟩)] W fun e w'=>∃a k,e = .returned (.slice a (y.fedP hs 0 l).sent.length k)/\Y (KY w0 w' yb tv ps' (y.fedP hs 0 l).told)/\Y (TabAt w' tv hs)/\Y (YMv w w' yb ps ps')/\Y (Held w' yb ps' (.slice a (y.fedP hs 0 l).sent.length k) (y.fedP hs 0 l).sent)/\Y (ps'.length=ps.length)):=fun W ps' hf=>by
  refine(zhU hf.inv hT.own).mono ?_
  rintro e w' ⟨v,rfl,q1,q2,q3,q4⟩
  obtain⟨a,k,rfl⟩:=zP q3
  have k1:=aa.o.1.move hf.mv hf.inv hT.own hf.ok
  exact⟨a,k,rfl,k1.move q2 q1 hT.own hf.ok.told,hf.tab.moved q2 hf.inv hT.own,(aa.o.2.trans hf.mv).trans q2,⟨qK q3 (zl _),q4⟩,hf.len⟩
 clear h hT hF hO ho af ag ae hl
 generalize y.fedP hs 0 l=y1 at*
 go_enter Tryz.func23,Tryz.ntmps23
 go_wp2_with fail
 refine ad.o.mono ?_
 rintro e w1 ⟨rfl,ps',hf⟩
 have HC:=hid (ab.o w1 ps' hf)
 clear ad ab hf ah aa
 go_wp2_with fail
 refine HC.o.mono ?_
 rintro e w2 ⟨a,k,rfl,K2,T2,M2,H2,L2⟩
 clear HC
 go_wp2
 go_ret
 exact⟨a,k,ps',rfl,K2.o,T2.o,M2.o,H2.o,L2.o⟩
theorem zlY (a b:List UInt8):(!Go.Sort.ltStr b a || !Go.Sort.ltStr a b)=true:=by
 cases h:Go.Sort.ltStr b a with
 | false=>rfl
 | true=>rw[Go.Sort.SWO.asymmA Go.Sort.swo_ltStr h];rfl
theorem zd3 (a b c:List UInt8)(h1:(!Go.Sort.ltStr b a)=true)(h2:(!Go.Sort.ltStr c b)=true):(!Go.Sort.ltStr c a)=true:=by
 simp only[Bool.not_eq_true'] at h1 h2 ⊢
 cases h:Go.Sort.ltStr c a with
 | false=>rfl
 | true=>
  cases h3:Go.Sort.ltStr a b with
  | true=>rw[Go.Sort.swo_ltStr.trans _ _ _ h h3] at h2;cases h2
  | false=>
   have e:=wj a b h3 h1
   subst e
   rw[h] at h2;cases h2
theorem zo2 (hs:List P.Hst):∃hs',SrtH hs hs':=by
 refine⟨(hs.mergeSort fun x y=>!Go.Sort.ltStr y.name x.name).map fun h=>⟨h.name,h.rules.mergeSort fun x y=>!Go.Sort.ltInt y.number x.number⟩,hs.mergeSort fun x y=>!Go.Sort.ltStr y.name x.name,List.mergeSort_perm _ _,?_,by rw[qw],fun j h1 h2=>?_⟩
 ·have:=List.pairwise_mergeSort (le:=fun x y:P.Hst=>!Go.Sort.ltStr y.name x.name) (fun a b c=>zd3 a.name b.name c.name) (fun a b=>zlY a.name b.name) hs
  exact this.imp fun h=>by simpa using h
 ·rw[List.getElem_map]
  refine⟨rfl,List.mergeSort_perm _ _,?_⟩
  have:=List.pairwise_mergeSort (le:=fun x y:P.Rl=>!Go.Sort.ltInt y.number x.number) (fun a b c h1 h2=>by simp[Go.Sort.ltInt] at h1 h2 ⊢;omega) (fun a b=>by simp[Go.Sort.ltInt];omega) (hs.mergeSort fun x y=>!Go.Sort.ltStr y.name x.name)[j].rules
  exact this.imp fun h=>by simpa using h
theorem uV {l:List UInt8}(h:(xm l).1=0):∃hs,VHs hs/\xG l=qE hs/\xu l=R.plain (hs.map toR)/\l.length<=3000:=by
 have h':(qd l).1=0:=by rw[yw];exact h
 obtain⟨h1,h2,h3⟩:=uo h'
 obtain⟨hs,hq⟩:=zo2 (ze l).1
 obtain⟨a1,a2,a3⟩:=uu l h2 h3
 exact⟨hs,uI hq a1 a2 a3,(zc7 h' hq).1,(ff h' hq).1,h1⟩
theorem zkA {l:List UInt8}(h:(xm l).1=0):VHs (xr (xG l))/\xG l=qE (xr (xG l))/\xu l=R.plain ((xr (xG l)).map toR):=by
 obtain⟨hs,h1,h2,h3,_⟩:=uV h
 have e:=v8 hs h1
 rw[<-h2] at e
 rw[e]
 exact⟨h1,h2,h3⟩
theorem VRl.ok {r:P.Rl}(h:VRl r):RlOk r where
 ms:=by have:=h.ml;omega
 tg:=⟨by have:=h.tl;omega,fun t ht=>⟨by have:=(h.tg t ht).lo;omega,by have:=(h.tg t ht).hi;omega⟩⟩
 pos:=by
  have h0:=h.t0
  have ht:=h.tg
  cases e:r.tg with
  | nil=>exact absurd e h0
  | cons a t=>
   have:=(ht a (by rw[e];exact List.mem_cons_self)).lo
   unfold Tr.sum
   rw[xi,List.sum_cons]
   omega
 rep:=by rcases h.rep with e | e;rw[e];simp;omega
 dl:=by have:=h.dl;omega
 sl:=by have:=h.sl;omega
 st:=fun t ht=>⟨by have:=(h.sets t ht).nl;omega,by have:=(h.sets t ht).vl;omega,fun e=>by have:=(h.sets t ht).name;rw[e] at this;revert this;decide +kernel⟩
theorem VHs.ok {hs:List P.Hst}(h:VHs hs):HsOk hs:=fun x hx r hr=>((h.hosts x hx).rules r hr).ok
theorem fb {hs:List P.Hst}(h:VHs hs):(qE hs).length<=40000:=by
 have h1:=yK zx 8000 hs (fun x hx=>ziZ ⟨(h.hosts x hx).nl,(h.hosts x hx).rl,(h.hosts x hx).rules⟩)
 have h2:=h.hl
 unfold qE qo yW
 simp only[zW,zm,qi]
 omega
def fitB (h:P.Hst):Bool:=decide (h.name.length<=1000) && (decide (h.rules.length<=1000) && (h.rules.all (fun r=>decide (r.path.length<=50)) && (decide ((Tr.flat (h.rules.map (·.path))).length<=10000000) && (Tr.fwd (Tr.prog (h.rules.map (·.path))) && (Tr.prog (h.rules.map (·.path))).all (fun x=>decide (x.kind≠0) || decide (x.rule<h.rules.length))))))
theorem zqB {h:P.Hst}(e:fitB h=true):Fit h:=by
 unfold fitB at e
 simp only[Bool.and_eq_true,decide_eq_true_eq] at e
 obtain⟨e1,e2,e3,e4,e5,e6⟩:=e
 exact⟨e1,e2,fun r hr=>by have:=List.all_eq_true.1 e3 r hr;exact of_decide_eq_true this,e4,e5,e6⟩
def fitsB (hs:List P.Hst):Bool:=decide (hs.length<=1000) && (decide ((hs.map fun h=>Tr.key h.name).Pairwise (·≠·)) && hs.all fitB)
theorem zoX {hs:List P.Hst}(e:fitsB hs=true):Fits hs:=by
 unfold fitsB at e
 simp only[Bool.and_eq_true,decide_eq_true_eq] at e
 exact⟨e.1,e.2.1,fun h hh=>zqB (List.all_eq_true.1 e.2.2 h hh)⟩
def Kp.t0:List UInt8:=[104,111,115,116,32,34,65,46,98,34,123,114,117,108,101,32,55,123,112,97,116,104,34,47,120,34,59,116,111,34,117,34,49,44,34,118,34,50,59,114,101,112,108,97,99,101,34,47,34,59,125,114,117,108,101,32,57,123,112,97,116,104,34,47,34,59,116,111,34,117,34,49,44,34,118,34,48,59,125,125]
def Kp.t1:List UInt8:=[104,111,115,116,32,34,97,46,98,34,32,123,10,32,32,114,117,108,101,32,55,32,123,10,32,32,32,32,112,97,116,104,32,34,47,120,34,59,10,32,32,32,32,116,111,32,34,117,34,32,49,44,32,34,118,34,32,50,59,10,32,32,32,32,114,101,112,108,97,99,101,32,34,47,34,59,10,32,32,125,10,32,32,114,117,108,101,32,57,32,123,10,32,32,32,32,112,97,116,104,32,34,47,34,59,10,32,32,32,32,116,111,32,34,117,34,32,49,59,10,32,32,125,10,125,10]
def Kp.rq:List UInt8:=[71,69,84,32,47,120,121,32,72,84,84,80,47,49,46,49,13,10,72,111,115,116,58,32,97,46,66,13,10,13,10,71,69,84,32,47,121,32,72,84,84,80,47,49,46,49,13,10,104,111,115,116,58,97,46,98,13,10,13,10]
def Kp.d:List UInt8:=[71,69,84,32,47,121,32,72,84,84,80,47,49,46,49,13,10,104,111,115,116,58,32,97,46,98,13,10,13,10]
def Kp.hs:List P.Hst:=[⟨[97,46,98],[⟨7,[47,120],[],[([117],1),([118],2)],[47],[],[]⟩,⟨9,[47],[],[([117],1)],[],[],[]⟩]⟩]
theorem zpA:xm Kp.t0=(0,0):=by decide +kernel
theorem zmO:xu Kp.t0=Kp.t1:=by decide +kernel
theorem zj0:xm Kp.t1=(0,0):=by decide +kernel
theorem zpB:xG Kp.t1=qE Kp.hs:=by decide +kernel
def Kp.ev:List Ev:=[⟨1,[118],Kp.d⟩,⟨1,[117],Kp.d⟩]
theorem zmN:((Yd.new.opened.draw 4).fedP Kp.hs 0 Kp.rq).sent=Kp.ev:=by kernel_rfl
theorem zpR (l:List UInt8):(R.str l).toList=l:=by rw[ByteArray.toList_eq,R.str_toList]
theorem zqE:xr (xG Kp.t1)=Kp.hs:=by kernel_rfl
theorem fX:VHs Kp.hs:=by have:=(zkA (l:=Kp.t1) (by rw[zj0])).1;rw[zqE] at this;exact this
theorem zj1:Fits Kp.hs:=zoX (by decide +kernel)
theorem zkV {w:World}(G:G3 w):Calls Tryz.prog 16 #[] w fun e w'=>e = .returned (.bool true)/\w.grownBy w' none:=by
 have aa:Y (Calls Tryz.prog 17 #[.string (R.str Kp.t0)] w fun e w'=>e = .returned (.tuple #[.string (R.str Kp.t1),.int .i64 0,.int .i64 0])/\w.grownBy w' none):=by
  have h1:=uG (R.str Kp.t0) w (by rw[R.str_size];decide) G.glob G.gt
  rw[R.str_toList,zpA,zmO] at h1
  exact h1
 have ab:Y (∀W,w.grownBy W none->Calls Tryz.prog 20 #[.string (R.str Kp.t1)] W fun e w'=>∃yb tv cb,e = .returned (.pointer (some ⟨yb,0,none⟩))/\KY W w' yb tv [some cb] Yd.new.opened/\TabAt w' tv Kp.hs):=fun W hW=>
  zkX (G.grown hW) (by decide) zj0 zpB fX zj1 (by have:=fb fX;omega)
 have q1:((R.str Kp.t1).toList == [104,111,115,116,32,34,97,46,98,34,32,123,10,32,32,114,117,108,101,32,55,32,123,10,32,32,32,32,112,97,116,104,32,34,47,120,34,59,10,32,32,32,32,116,111,32,34,117,34,32,49,44,32,34,118,34,32,50,59,10,32,32,32,32,114,101,112,108,97,99,101,32,34,47,34,59,10,32,32,125,10,32,32,114,117,108,101,32,57,32,123,10,32,32,32,32,112,97,116,104,32,34,47,34,59,10,32,32,32,32,116,111,32,34,117,34,32,49,59,10,32,32,125,10,125,10])=true:=by rw[zpR];decide +kernel
 go_enter Tryz.func16,Tryz.ntmps16
 go_wp2_with fail
 refine aa.o.mono ?_
 rintro e w1 ⟨rfl,g1⟩
 have G1:=hid g1
 have HC:=hid (ab.o w1 g1)
 clear aa ab g1
 go_wp2_with fail
 refine HC.o.mono ?_
 rintro e w2 ⟨yb,tv,cb,rfl,k2,t2⟩
 have ad:=k2.inv.low
 have HD:Y (Calls Tryz.prog 32 #[.pointer (some ⟨yb,0,none⟩),.int .u64 4] w2 fun e w'=>e = .returned (.tuple #[])/\YInv w' yb w1.heap.size tv [some cb] (Yd.new.opened.draw 4)/\YMv w2 w' yb [some cb] [some cb]):=zn8 k2.inv k2.own 4 (by decide) k2.gr.size
 have K2:=hid k2
 have T2:=hid t2
 clear HC k2 t2 q1
 go_wp2_with fail
 refine HD.o.mono ?_
 rintro e w3 ⟨rfl,i3,m3⟩
 have k3:=K2.o.move m3 i3 K2.o.own YOk.new.opened
 have t3:=T2.o.moved m3 K2.o.inv K2.o.own
 have HS:Y (Calls Tryz.prog 23 #[.pointer (some ⟨yb,0,none⟩),.string (R.str Kp.rq)] w3 fun e w'=>∃a k,e = .returned (.slice a 2 k)/\Y (w'.ownsRow 0 44 3 (.slice a 2 k) 2 (evCells Kp.ev))/\Y (w1.grownBy w' none)):=by
  refine(zkW (G.grown G1.o) k3 t3 zj1 fX.ok Kp.rq (by decide) (by decide) (by decide) (by decide) (by show 1<=1000000;decide)).mono ?_
  rintro e w' ⟨a,k,ps',rfl,q1,q2,q3,q4,_⟩
  rw[zmN] at q4
  exact⟨a,k,by rw[zmN];rfl,q4.row,q1.gr⟩
 clear HD k3 t3 i3 m3 K2 T2
 go_wp2_with fail
 refine HS.o.mono ?_
 rintro e w4 ⟨a,k,rfl,R4,G4⟩
 obtain⟨g,gc,e1,_,_⟩:=World.ownsRow.form R4.o (by decide)
 simp only[qc,true_and] at e1
 obtain⟨rfl,rfl⟩:=e1
 have hc:=fun j hj=>xd R4.o j hj
 have c0:w4.cell? ⟨g,0,none⟩=some (.int .i64 1):=(hc 0 (by decide)).trans rfl
 have c1:w4.cell? ⟨g,1,none⟩=some (.string ⟨#[118]⟩):=(hc 1 (by decide)).trans rfl
 have c2:w4.cell? ⟨g,2,none⟩=some (.string ⟨#[71,69,84,32,47,121,32,72,84,84,80,47,49,46,49,13,10,104,111,115,116,58,32,97,46,98,13,10,13,10]⟩):=(hc 2 (by decide)).trans rfl
 have c3:w4.cell? ⟨g,3,none⟩=some (.int .i64 1):=(hc 3 (by decide)).trans rfl
 have c4:w4.cell? ⟨g,4,none⟩=some (.string ⟨#[117]⟩):=(hc 4 (by decide)).trans rfl
 have c5:w4.cell? ⟨g,5,none⟩=some (.string ⟨#[71,69,84,32,47,121,32,72,84,84,80,47,49,46,49,13,10,104,111,115,116,58,32,97,46,98,13,10,13,10]⟩):=(hc 5 (by decide)).trans rfl
 clear HS hc
 go_wp2
 go_ret
 exact⟨rfl,zA G1.o G4.o⟩
def Kp.raw (c:Int):Nat:=if c<0 then (-(c+1)).toNat else c.toNat
def Kp.pick (c:Int)(n:Nat):Nat:=Kp.raw c % n
theorem Kp.pick_lt (c:Int){n:Nat}(h:0<n):Kp.pick c n<n:=Nat.mod_lt _ h
theorem q3q (c:Int)(n:Nat)(w:World)(hc:-9223372036854775808<=c/\c<=9223372036854775807)(hn:0<n/\n<=4611686018427387904) :
  Calls Tryz.prog 21 #[.int .i64 c,.int .i64 n] w fun e w'=>e = .returned (.int .i64 (Kp.pick c n:Nat))/\w'=w:=by
 have ab:¬(n:Int)=0:=by omega
 obtain⟨h1,h2⟩:=hc
 have HE:Y (Kp.pick c n=Kp.raw c % n):=rfl
 have HR:Y (Kp.raw c=if c<0 then (-(c+1)).toNat else c.toNat):=rfl
 generalize Kp.pick c n=res at*
 by_cases aa:c<0
 ·rw[if_pos aa] at HR
  have e1:((Kp.raw c:Nat):Int) = -(c+1):=by rw[HR.o];omega
  generalize Kp.raw c=r at*
  go_enter Tryz.func21,Tryz.ntmps21
  go_wp2
  go_ret
  exact⟨by show Ending.returned (.int .i64 (-(c+1).tmod n))=_;rw[HE.o,<-Int.neg_tmod,<-e1,<-Int.ofNat_tmod],rfl⟩
 ·rw[if_neg aa] at HR
  have e1:((Kp.raw c:Nat):Int)=c:=by rw[HR.o];omega
  generalize Kp.raw c=r at*
  go_enter Tryz.func21,Tryz.ntmps21
  go_wp2
  go_ret
  exact⟨by show Ending.returned (.int .i64 (c % n))=_;rw[HE.o,<-e1,<-Int.natCast_emod],rfl⟩
theorem q79q (n:Nat):∀(w:World),n<1000000->
  Calls Tryz.prog 25 #[.int .i64 n] w fun e w'=>e = .returned (.string (R.str (R.dec n)))/\w'=w:=by
 induction n using Nat.strongRecOn with
 | _ n ih=>
  intro w hn
  have hd:=q92q (n % 10) (by omega)
  have HD:Y _:=hd
  clear hd
  by_cases h:n<10
  ·go_enter Tryz.func25,Tryz.ntmps25
   go_wp2
   go_ret
   exact⟨q87q (by rw[HD.o];unfold R.dec;rw[if_pos h,Nat.mod_eq_of_lt h]),rfl⟩
  ·have HI:Y (∀w,Calls Tryz.prog 25 #[.int .i64 ((n:Int) / 10)] w fun e w'=>e = .returned (.string (R.str (R.dec (n / 10))))/\w'=w):=by
    intro w
    have:=ih (n / 10) (by omega) w (by omega)
    rw[Int.natCast_ediv] at this
    exact this
   have z1:(R.str (R.dec (n / 10))).size<=100:=by
    rw[R.str_size];have:=R.dec_len (n / 10) 5 (by omega);omega
   have z2:((⟨#[48,49,50,51,52,53,54,55,56,57]⟩:ByteArray).extract (n % 10) (n % 10+1)).size<=1:=by rw[HD.o,R.str_size];simp
   clear ih
   go_enter Tryz.func25,Tryz.ntmps25
   go_wp2_with (go_at_call 25;refine(HI.o _).mono ?_;rintro e w' ⟨rfl,rfl⟩)
   go_ret
   refine⟨q87q ?_,rfl⟩
   rw[HD.o]
   apply zjA
   rw[q71q,R.str_toList,R.str_toList,R.str_toList]
   conv=>rhs;unfold R.dec
   rw[if_neg h]
theorem q81q (l:List UInt8)(k:Nat):(R.str l).extract 0 k=R.str (l.take k):=by
 apply ByteArray.ext
 apply Array.toList_inj.1
 rw[q106q,R.str_toList,R.str_toList]
theorem q117q (l:List UInt8)(k:Nat):(R.str l).extract k (R.str l).size=R.str (l.drop k):=by
 apply ByteArray.ext
 apply Array.toList_inj.1
 rw[fQ,R.str_toList,R.str_toList]
instance:DecidableEq Ev:=fun a b=>decidable_of_iff (a.conn=b.conn/\a.dst=b.dst/\a.data=b.data) ⟨fun⟨h1,h2,h3⟩=>by cases a;cases b;simp at h1 h2 h3;subst h1;subst h2;subst h3;rfl,fun h=>by subst h;exact⟨rfl,rfl,rfl⟩⟩
structure Kb (w:World) (yb:Nat) (ps:List (Option Nat)) (v:Value) (l:List UInt8):Prop where
 rd:RdO w v l
 ap:Apart w yb ps v
 lt:∀k,v.ownBlock=some k->k<w.heap.size
end Go.Proofs.YtfocdefchbnkpaaGreatDoor
