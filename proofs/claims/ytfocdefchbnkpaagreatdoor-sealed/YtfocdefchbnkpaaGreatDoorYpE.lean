/- The yard with a policy: what becomes of a request. -/
import Derived.Test.YtfocdefchbnkpaaGreatDoorAli
import Derived.Test.YtfocdefchbnkpaaGreatDoorUnJ
set_option maxRecDepth 100000
set_option maxHeartbeats 20000000
namespace Go.Proofs.YtfocdefchbnkpaaGreatDoor
open Go.RowKit
def Tr.D (hs:List P.Hst)(d:UInt64)(h:Rq.Head):Pc:=
 match Tr.find hs h with
 | none=>⟨[],Yd.noRoute,Rq.body h⟩
 | some r=>⟨Tr.target d r.tg,Rq.sent h r,Rq.body h⟩
def Tr.after (hs:List P.Hst)(l:List UInt64)(h:Rq.Head):List UInt64:=
 match Tr.find hs h with
 | none=>l
 | some r=>Tr.left l r.tg
theorem HOk.host {h:Rq.Head}(hk:HOk h)(n:List UInt8):(Rq.value n h.headers).length<=3000:=by
 unfold Rq.value
 cases e:Rq.named n h.headers with
 | nil=>exact zl _
 | cons x t=>
  have hx:x∈Rq.named n h.headers:=by rw[e];exact List.mem_cons_self
  unfold Rq.named at hx
  rw[List.mem_filter] at hx
  exact(hk.hv x hx.1).2
theorem GRow.bytes (w:World)(l:List UInt8):GRow anyMark (Lib.bytesWorld w 5 (R.str l)) w.heap.size 5 (.slice (some ⟨w.heap.size,0,none⟩) l.length (grownCap w l.length 0 5)) l.length (Lib.byteCells l):=by
 have hb:=Lib.bytesWorld_at_new w 5 (R.str l)
 have ab:l.length<=grownCap w l.length 0 5:=grownCap_ge w l.length 0 _
 have aa:(Lib.bytesCells w 5 (R.str l)).size=grownCap w l.length 0 5:=by
  have e:(R.str l).data.size=l.length:=R.str_size l
  unfold Lib.bytesCells
  rw[Array.size_append,Array.size_map,Array.size_replicate,R.str_size,e]
  omega
 refine⟨some ⟨w.heap.size,0,none⟩,w.heap.size,0,grownCap w l.length 0 5,rfl,⟨ab,fun _=>rfl,fun _=>zE hb,by rw[Lib.byteCells_length];omega,fun j u hu=>?_,fun j hj=>?_⟩,fun a ha=>by cases ha;exact⟨rfl,zZ _,_,_,trivial,hb⟩⟩
 ·rw[Nat.zero_add]
  unfold Lib.byteCells at hu
  rw[List.getElem?_map] at hu
  cases hq:l[j]? with
  | none=>rw[hq] at hu;cases hu
  | some b=>
   rw[hq] at hu
   cases hu
   exact(BytesAt.new w (R.str l)).cell (by rw[R.str_toList];exact hq)
 ·refine⟨?_,?_⟩
  ·rw[z8 hb,Array.getElem?_eq_getElem (by rw[aa];omega)];rfl
  ·unfold World.frozen?
   simp only[hb,aa]
   have:¬grownCap w l.length 0 5<=0+l.length*1+j:=by omega
   simp only[Bool.and_eq_false_iff,decide_eq_false_iff_not]
   exact Or.inl this
theorem HInv.away {w w':World}{yb cb B:Nat}{h:Rq.Head}{cs:Array Value}(hI:HInv w cb B (.pointer none) h)(g:w.grownBy w' (some yb))(hb:w.heap[yb]?=some (.cells cs 99 (0,0))):HInv w' cb B (.pointer none) h:=by
 have hc:CAt w cb B (.hd h):=hI
 refine(hc.keep (fun k hk=>g.block k (hc.lt hk) (fun e=>?_))).1
 obtain⟨_,aa,t,f,e2,m⟩:=hc.cf hk
 rw[qk e,hb] at e2
 simp only[Option.some.injEq,Obj.cells.injEq] at e2
 rw[<-e2.2.1] at m
 exact absurd m (by decide)
theorem GE.away {w w':World}{yb:Nat}(h:GE w)(g:w.grownBy w' (some yb))(hy:Tryz.laysC172_ren.g 15≠yb):GE w':=by
 obtain⟨ev,h1,h2⟩:=h
 exact⟨ev,g.cell h1 (by simpa using hy),h2⟩
theorem GT.away {w w':World}{yb:Nat}(h:GT w)(g:w.grownBy w' (some yb))(hy:GTB yb):GT w':=h.same fun k e=>g.block k (h.bound k e) (fun e2=>by have:=hy k e;have:=qk e2;omega)
theorem zaA {x y z:World}{row:Option Nat}(h1:x.grownBy y row)(h2:y.grownBy z none):x.grownBy z row:=⟨h2.os.trans h1.os,h2.tape.trans h1.tape,h2.output.trans h1.output,zp h1.size h2.size,fun k hk hn=>(h2.block k (yU hk h1.size) (by simp)).trans (h1.block k hk hn)⟩
theorem zhE {x y z:World}{b:Nat}(h1:x.grownBy y none)(h2:y.grownBy z (some b)):x.grownBy z (some b):=⟨h2.os.trans h1.os,h2.tape.trans h1.tape,h2.output.trans h1.output,zp h1.size h2.size,fun k hk hn=>(h2.block k (yU hk h1.size) hn).trans (h1.block k hk (by simp))⟩
theorem zi2 {w:World}{yb cb B:Nat}{h:Rq.Head}{tv vd vc vs:Value}{l:List UInt64}{hs:List P.Hst}(hI:HInv w cb B (.pointer none) h)(hk:HOk h)(hb:w.heap[yb]?=some (.cells #[tv,vd,vc,vs] 99 (0,0)))(hq:QRow w B 60 vd (l.map drawV))(hl:l.length<=1000000000)(hT:TabAt w tv hs)(hF:Fits hs)(hO:HsOk hs)(hE:GE w)(hG:GT w)(hy:Tryz.laysC172_ren.g 15<yb/\GTB yb) :
  Calls Tryz.prog 80 #[.pointer (some ⟨yb,0,none⟩),.pointer (some ⟨cb,0,none⟩)] w fun e w'=>∃pb,e = .returned (.pointer (some ⟨pb,0,none⟩))/\PcAt w' pb w.heap.size (Tr.D hs (l.headD 0) h)/\w.grownBy w' (some yb)/\∃aa,w'.heap[yb]?=some (.cells #[tv,aa,vc,vs] 99 (0,0))/\QRow w' B 60 aa ((Tr.after hs l h).map drawV)/\∀k,aa.ownBlock=some k->vd.ownBlock=some k:=by
 obtain⟨tb,mb,ml,rfl,aD,aE⟩:=hT
 have y0:w.cell? ⟨yb,0,none⟩=some (.pointer (some ⟨tb,0,none⟩)):=z8 hb
 have aw:Y (Calls Tryz.prog 123 #[.pointer (some ⟨tb,0,none⟩),.pointer (some ⟨cb,0,none⟩)] w fun e w'=>w.grownBy w' none/\∃r ma mk ta tk sa sk da dk fl,e = .returned (.tuple #[.agg #[.int .i64 r.number,.string (R.str r.path),.slice ma r.ms.length mk,.slice ta r.tg.length tk,.string (R.str r.rep),.slice sa r.sets.length sk,.slice da r.drops.length dk],.bool fl])/\Y ((Tr.find hs h=none/\fl=false)\/(Tr.find hs h=some r/\fl=true/\PRuleVal w' [.int .i64 r.number,.string (R.str r.path),.slice ma r.ms.length mk,.slice ta r.tg.length tk,.string (R.str r.rep),.slice sa r.sets.length sk,.slice da r.drops.length dk] r))):=by
  refine(zn9 aD aE hF hI (by have:=hk.heads;omega) (hk.host _) hk.targ (fun x hx r hr=>(hO x hx r hr).ms)).mono ?_
  rintro e w' ⟨g,⟨h1,rfl⟩ | ⟨r,cs,h1,h2,rfl⟩⟩
  ·exact⟨g,⟨0,[],[],[],[],[],[]⟩,none,0,none,0,none,0,none,0,false,rfl,Or.inl ⟨h1,rfl⟩⟩
  ·have aF:=h2
   obtain⟨vM,vT,vS,vD,rfl,m1,m2,m3,m4⟩:=h2
   obtain⟨ma,mk,rfl⟩:=zP m1
   obtain⟨ta,tk,rfl⟩:=zP m2
   obtain⟨sa,sk,rfl⟩:=zP m3
   obtain⟨da,dk,rfl⟩:=zP m4
   exact⟨g,r,ma,mk,ta,tk,sa,sk,da,dk,true,rfl,Or.inr ⟨h1,rfl,aF⟩⟩
 have ao:Y (∀r,Tr.find hs h=some r->RlOk r):=fun r hr=>by
  obtain⟨x,h1,h2⟩:=Tr.find_mem hr
  exact hO x h1 r h2
 have HI:=hid hI
 have HK:=hid hk
 have HB:=hid hb
 have HQ:=hid hq
 have HE:=hid hE
 have HG:=hid hG
 have HY:=hid hy
 have aj:Y (Tr.find hs h=none->Tr.D hs (l.headD 0) h=⟨[],Yd.noRoute,Rq.body h⟩/\Tr.after hs l h=l):=fun e=>by unfold Tr.D Tr.after;rw[e];exact⟨rfl,rfl⟩
 have ak:Y (∀r,Tr.find hs h=some r->Tr.D hs (l.headD 0) h=⟨Tr.target (l.headD 0) r.tg,Rq.sent h r,Rq.body h⟩/\Tr.after hs l h=Tr.left l r.tg):=fun r e=>by unfold Tr.D Tr.after;rw[e];exact⟨rfl,rfl⟩
 have HL:=hid hl
 clear hI hk hb hq hl aD aE hF hO hE hG hy
 generalize Tr.D hs (l.headD 0) h=pc at*
 generalize Tr.after hs l h=la at*
 generalize Tr.find hs h=fd at*
 go_enter Tryz.func80,Tryz.ntmps80
 go_wp2_with fail
 refine aw.o.mono ?_
 rintro e w1 ⟨g1,r,ma,mk,ta,tk,sa,sk,da,dk,fl,rfl,ay⟩
 have gA:=zJ w1 (.cells #[.int .i64 r.number,.string (R.str r.path),.slice ma r.ms.length mk,.slice ta r.tg.length tk,.string (R.str r.rep),.slice sa r.sets.length sk,.slice da r.drops.length dk] 213) none
 have G2:=hid (zA g1 gA)
 have af:=hid (heap_alloc_new w1 (.cells #[.int .i64 r.number,.string (R.str r.path),.slice ma r.ms.length mk,.slice ta r.tg.length tk,.string (R.str r.rep),.slice sa r.sets.length sk,.slice da r.drops.length dk] 213))
 have an:Y ((fd=none/\fl=false)\/(fd=some r/\fl=true/\PRuleVal (w1.alloc (.cells #[.int .i64 r.number,.string (R.str r.path),.slice ma r.ms.length mk,.slice ta r.tg.length tk,.string (R.str r.rep),.slice sa r.sets.length sk,.slice da r.drops.length dk] 213)) [.int .i64 r.number,.string (R.str r.path),.slice ma r.ms.length mk,.slice ta r.tg.length tk,.string (R.str r.rep),.slice sa r.sets.length sk,.slice da r.drops.length dk] r)):=by
  rcases ay.o with q | ⟨q1,q2,q3⟩
  ·exact Or.inl q
  ·exact Or.inr ⟨q1,q2,q3.keep gA (zv _ _)⟩
 clear aw g1 gA ay
 go_upto_region 4 with fail
 generalize w1.alloc (.cells #[.int .i64 r.number,.string (R.str r.path),.slice ma r.ms.length mk,.slice ta r.tg.length tk,.string (R.str r.rep),.slice sa r.sets.length sk,.slice da r.drops.length dk] 213)=w2 at*
 generalize w1.heap.size=rb at*
 have ah:=hid (HI.o.keep G2.o)
 have ae:=hid (zB HB.o G2.o (by simp))
 have ai:=hid (HQ.o.keep G2.o.size (fun k hk=>G2.o.block k (by obtain⟨_,cs,e⟩:=HQ.o.block k hk;exact zE e) (by simp)))
 have ag:=hid (HE.o.grown G2.o)
 have ax:=hid (HG.o.grown G2.o)
 clear HI HB HQ HE HG y0
 rcases an.o with ⟨p1,rfl⟩ | ⟨p1,rfl,p3⟩
 ·have HD:=hid (aj.o p1)
  have gB:=hid (zJ w2 (.cells #[.int .u8 72,.int .u8 84,.int .u8 84,.int .u8 80,.int .u8 47,.int .u8 49,.int .u8 46,.int .u8 49,.int .u8 32,.int .u8 52,.int .u8 48,.int .u8 52,.int .u8 32,.int .u8 78,.int .u8 111,.int .u8 116,.int .u8 32,.int .u8 70,.int .u8 111,.int .u8 117,.int .u8 110,.int .u8 100,.int .u8 13,.int .u8 10,.int .u8 99,.int .u8 111,.int .u8 110,.int .u8 116,.int .u8 101,.int .u8 110,.int .u8 116,.int .u8 45,.int .u8 108,.int .u8 101,.int .u8 110,.int .u8 103,.int .u8 116,.int .u8 104,.int .u8 58,.int .u8 32,.int .u8 48,.int .u8 13,.int .u8 10,.int .u8 13,.int .u8 10] 5 (45,46)) none)
  have ar:=hid (heap_alloc_new w2 (.cells #[.int .u8 72,.int .u8 84,.int .u8 84,.int .u8 80,.int .u8 47,.int .u8 49,.int .u8 46,.int .u8 49,.int .u8 32,.int .u8 52,.int .u8 48,.int .u8 52,.int .u8 32,.int .u8 78,.int .u8 111,.int .u8 116,.int .u8 32,.int .u8 70,.int .u8 111,.int .u8 117,.int .u8 110,.int .u8 100,.int .u8 13,.int .u8 10,.int .u8 99,.int .u8 111,.int .u8 110,.int .u8 116,.int .u8 101,.int .u8 110,.int .u8 116,.int .u8 45,.int .u8 108,.int .u8 101,.int .u8 110,.int .u8 103,.int .u8 116,.int .u8 104,.int .u8 58,.int .u8 32,.int .u8 48,.int .u8 13,.int .u8 10,.int .u8 13,.int .u8 10] 5 (45,46)))
  have HC:=hid (zfA (ah.o.keep gB.o) (by have:=HK.o.heads;omega) HK.o.number (ag.o.grown gB.o))
  have ap:(convert 32 32 (.slice (some ⟨w2.heap.size,0,none⟩) 45 45)).run Tryz.prog (w2.alloc (.cells #[.int .u8 72,.int .u8 84,.int .u8 84,.int .u8 80,.int .u8 47,.int .u8 49,.int .u8 46,.int .u8 49,.int .u8 32,.int .u8 52,.int .u8 48,.int .u8 52,.int .u8 32,.int .u8 78,.int .u8 111,.int .u8 116,.int .u8 32,.int .u8 70,.int .u8 111,.int .u8 117,.int .u8 110,.int .u8 100,.int .u8 13,.int .u8 10,.int .u8 99,.int .u8 111,.int .u8 110,.int .u8 116,.int .u8 101,.int .u8 110,.int .u8 116,.int .u8 45,.int .u8 108,.int .u8 101,.int .u8 110,.int .u8 103,.int .u8 116,.int .u8 104,.int .u8 58,.int .u8 32,.int .u8 48,.int .u8 13,.int .u8 10,.int .u8 13,.int .u8 10] 5)) = .ok (.slice (some ⟨w2.heap.size,0,none⟩) 45 45) (w2.alloc (.cells #[.int .u8 72,.int .u8 84,.int .u8 84,.int .u8 80,.int .u8 47,.int .u8 49,.int .u8 46,.int .u8 49,.int .u8 32,.int .u8 52,.int .u8 48,.int .u8 52,.int .u8 32,.int .u8 78,.int .u8 111,.int .u8 116,.int .u8 32,.int .u8 70,.int .u8 111,.int .u8 117,.int .u8 110,.int .u8 100,.int .u8 13,.int .u8 10,.int .u8 99,.int .u8 111,.int .u8 110,.int .u8 116,.int .u8 101,.int .u8 110,.int .u8 116,.int .u8 45,.int .u8 108,.int .u8 101,.int .u8 110,.int .u8 103,.int .u8 116,.int .u8 104,.int .u8 58,.int .u8 32,.int .u8 48,.int .u8 13,.int .u8 10,.int .u8 13,.int .u8 10] 5 (45,46))):=Lib.run_convert_bytes_const (P:=Tryz.prog) w2 32 5 #[.int .u8 72,.int .u8 84,.int .u8 84,.int .u8 80,.int .u8 47,.int .u8 49,.int .u8 46,.int .u8 49,.int .u8 32,.int .u8 52,.int .u8 48,.int .u8 52,.int .u8 32,.int .u8 78,.int .u8 111,.int .u8 116,.int .u8 32,.int .u8 70,.int .u8 111,.int .u8 117,.int .u8 110,.int .u8 100,.int .u8 13,.int .u8 10,.int .u8 99,.int .u8 111,.int .u8 110,.int .u8 116,.int .u8 101,.int .u8 110,.int .u8 116,.int .u8 45,.int .u8 108,.int .u8 101,.int .u8 110,.int .u8 103,.int .u8 116,.int .u8 104,.int .u8 58,.int .u8 32,.int .u8 48,.int .u8 13,.int .u8 10,.int .u8 13,.int .u8 10] 45 45 Tryz.underlying32 Tryz.underlying5
  clear an p1 aj ak ao af
  go_wp2_with fail
  refine HC.o.mono ?_
  rintro e w3 ⟨rfl,g3⟩
  have gA:=zJ w3 (.cells #[.string ⟨#[]⟩,.slice (some ⟨w2.heap.size,0,none⟩) 45 45,.int .i64 (Rq.body h)] 172) none
  have G3:=hid (zA (zA gB.o g3) gA)
  have al:Y (PcAt (w3.alloc (.cells #[.string ⟨#[]⟩,.slice (some ⟨w2.heap.size,0,none⟩) 45 45,.int .i64 (Rq.body h)] 172)) w3.heap.size w.heap.size ⟨[],Yd.noRoute,Rq.body h⟩):=by
   have aq:=G2.o.size
   have hs:=(zA gB.o g3).size
   exact⟨⟨_,heap_alloc_new w3 (.cells #[.string ⟨#[]⟩,.slice (some ⟨w2.heap.size,0,none⟩) 45 45,.int .i64 (Rq.body h)] 172),Or.inr ⟨rfl,w2.heap.size,45,#[.int .u8 72,.int .u8 84,.int .u8 84,.int .u8 80,.int .u8 47,.int .u8 49,.int .u8 46,.int .u8 49,.int .u8 32,.int .u8 52,.int .u8 48,.int .u8 52,.int .u8 32,.int .u8 78,.int .u8 111,.int .u8 116,.int .u8 32,.int .u8 70,.int .u8 111,.int .u8 117,.int .u8 110,.int .u8 100,.int .u8 13,.int .u8 10,.int .u8 99,.int .u8 111,.int .u8 110,.int .u8 116,.int .u8 101,.int .u8 110,.int .u8 116,.int .u8 45,.int .u8 108,.int .u8 101,.int .u8 110,.int .u8 103,.int .u8 116,.int .u8 104,.int .u8 58,.int .u8 32,.int .u8 48,.int .u8 13,.int .u8 10,.int .u8 13,.int .u8 10],(45,45+1),rfl,aq,zB (zB ar.o g3 (by simp)) gA (by simp),fun j u hu=>by rw[<-hu,<-List.getElem?_toArray];rfl⟩⟩,zp aq hs⟩
  clear HC g3 gA ap gB ar
  go_wp2
  go_ret
  have G9:=zA G2.o G3.o
  exact⟨_,rfl,by rw[HD.o.1];exact al.o,⟨G9.os,G9.tape,G9.output,G9.size,fun k hk _=>G9.block k hk (by simp)⟩,vd,zB ae.o G3.o (by simp),by rw[HD.o.2];exact ai.o.keep G3.o.size (fun k hk=>G3.o.block k (by obtain⟨_,cs,e⟩:=ai.o.block k hk;exact zE e) (by simp)),fun k hk=>hk⟩
 ·have HD:=hid (ak.o r p1)
  have ad:=ao.o r p1
  have az:=hid p3
  obtain⟨vM,vT,vS,vD,ez,_,mt,_,_⟩:=p3
  have eT:vT = .slice ta r.tg.length tk:=by simp at ez;exact ez.2.1.symm
  subst eT
  have x3:w2.cell? ⟨rb,3,none⟩=some (.slice ta r.tg.length tk):=z8 af.o
  have aB:Y (Calls Tryz.prog 124 #[.func (.func 125) #[.pointer (some ⟨yb,0,none⟩)] #[],.slice ta r.tg.length tk] w2 fun e w'=>e = .returned (.string (R.str (Tr.target (l.headD 0) r.tg)))/\∃aa,Y (w'.heap[yb]?=some (.cells #[.pointer (some ⟨tb,0,none⟩),aa,vc,vs] 99 (0,0)))/\Y (QRow w' B 60 aa ((Tr.left l r.tg).map drawV))/\Y (w2.grownBy w' (some yb))/\Y (∀k,aa.ownBlock=some k->vd.ownBlock=some k)):=zhY ae.o ai.o HL.o mt ad.tg ad.pos
  have aG:rb≠yb:=fun e=>by have:=af.o;rw[e,ae.o] at this;simp at this
  have aA:Y (∀W,w2.grownBy W (some yb)->Calls Tryz.prog 126 #[.pointer (some ⟨cb,0,none⟩),.agg #[.int .i64 r.number,.string (R.str r.path),.slice ma r.ms.length mk,.slice ta r.tg.length tk,.string (R.str r.rep),.slice sa r.sets.length sk,.slice da r.drops.length dk]] W fun e w'=>e = .returned (.string (R.str (Rq.sent h r)))/\W.grownBy w' none):=fun W hW=>
   znF (ah.o.away hW ae.o) [.int .i64 r.number,.string (R.str r.path),.slice ma r.ms.length mk,.slice ta r.tg.length tk,.string (R.str r.rep),.slice sa r.sets.length sk,.slice da r.drops.length dk] r (az.o.keep hW (qx ae.o (by decide))) HK.o.meth HK.o.targ ad.rep (by have:=HK.o.heads;omega) ad.dl ad.sl (uB HK.o ad).1 (by have:=(uB HK.o ad).2;omega) (ag.o.away hW (by have:=HY.o.1;omega)) (ax.o.away hW HY.o.2)
  have au:Y (∀W,w2.grownBy W (some yb)->Calls Tryz.prog 122 #[.pointer (some ⟨cb,0,none⟩)] W fun e w'=>e = .returned (.int .i64 (Rq.body h))/\W.grownBy w' none):=fun W hW=>
   zfA (ah.o.away hW ae.o) (by have:=HK.o.heads;omega) HK.o.number (ag.o.away hW (by have:=HY.o.1;omega))
  clear an p1 aj ak ao mt ad ez ah az ag ax ai
  generalize Tr.target (l.headD 0) r.tg=tgt at*
  generalize Tr.left l r.tg=ll at*
  generalize Rq.sent h r=sn at*
  have ap:∀w,(convert 9 32 (.string (R.str sn))).run Tryz.prog w = .ok (.slice (some ⟨w.heap.size,0,none⟩) sn.length (grownCap w sn.length 0 5)) (Lib.bytesWorld w 5 (R.str sn)):=fun w=>by
   have:=Lib.run_convert_string_bytes (P:=Tryz.prog) (u:=.string) w 9 32 5 (R.str sn) (by kernel_rfl) (by kernel_rfl) (by kernel_rfl)
   rw[R.str_size] at this;exact this
  go_wp2_with fail
  refine aB.o.mono ?_
  rintro e w3 ⟨rfl,aa,Q1,Q2,Q3,Q4⟩
  have ab:=hid (zB af.o Q3.o (by simpa using aG))
  have q0:w3.cell? ⟨rb,0,none⟩=some (.int .i64 r.number):=z8 ab.o
  have q1:w3.cell? ⟨rb,1,none⟩=some (.string (R.str r.path)):=z8 ab.o
  have q2:w3.cell? ⟨rb,2,none⟩=some (.slice ma r.ms.length mk):=z8 ab.o
  have q3:w3.cell? ⟨rb,3,none⟩=some (.slice ta r.tg.length tk):=z8 ab.o
  have q4:w3.cell? ⟨rb,4,none⟩=some (.string (R.str r.rep)):=z8 ab.o
  have q5:w3.cell? ⟨rb,5,none⟩=some (.slice sa r.sets.length sk):=z8 ab.o
  have q6:w3.cell? ⟨rb,6,none⟩=some (.slice da r.drops.length dk):=z8 ab.o
  have HC:=hid (aA.o w3 Q3.o)
  clear aB aA x3 af
  go_wp2_with fail
  refine HC.o.mono ?_
  rintro e w4 ⟨rfl,g4⟩
  have gb:=xk w4 5 (R.str sn)
  have G4:=hid (zA g4 gb)
  have av:=hid (au.o _ (zaA Q3.o G4.o))
  have am:=hid (GRow.bytes w4 sn)
  have aK:=g4.size
  clear HC au g4 gb ab q0 q1 q2 q3 q4 q5 q6
  go_wp2_with fail
  refine av.o.mono ?_
  rintro e w5 ⟨rfl,g5⟩
  have gA:=zJ w5 (.cells #[.string (R.str tgt),.slice (some ⟨w4.heap.size,0,none⟩) sn.length (grownCap w4 sn.length 0 5),.int .i64 (Rq.body h)] 172) none
  have G5:=hid (zA (zA G4.o g5) gA)
  have al:Y (PcAt (w5.alloc (.cells #[.string (R.str tgt),.slice (some ⟨w4.heap.size,0,none⟩) sn.length (grownCap w4 sn.length 0 5),.int .i64 (Rq.body h)] 172)) w5.heap.size w.heap.size ⟨tgt,sn,Rq.body h⟩):=by
   have aq:=G2.o.size
   have aH:=Q3.o.size
   have aI:=g5.size
   have aJ:=G4.o.size
   refine⟨⟨_,heap_alloc_new w5 (.cells #[.string (R.str tgt),.slice (some ⟨w4.heap.size,0,none⟩) sn.length (grownCap w4 sn.length 0 5),.int .i64 (Rq.body h)] 172),Or.inl ?_⟩,by omega⟩
   refine(am.o.base (by omega)).keep (fun k hk=>?_)
   have aC:k<(Lib.bytesWorld w4 5 (R.str sn)).heap.size:=by obtain⟨_,cs,f,e⟩:=am.o.block k hk;exact zE e
   exact(gA.block k (yU aC g5.size) (by simp)).trans (g5.block k aC (by simp))
  clear av g5 gA am ap
  go_wp2
  go_ret
  exact⟨_,rfl,by rw[HD.o.1];exact al.o,zhE G2.o (zaA Q3.o G5.o),aa,zB Q1.o G5.o (by simp),by rw[HD.o.2];exact Q2.o.keep G5.o.size (fun k hk=>G5.o.block k (by obtain⟨_,cs,e⟩:=Q2.o.block k hk;exact zE e) (by simp)),Q4.o⟩
def Yd.takeP (hs:List P.Hst)(y:Yd)(m:Nat)(c:UInt8):Yd:=
 match y.conns[m]? with
 | some (some (.hd h))=>
  if (Rq.take h c).2=(true,[]) then ({ y with draws:=Tr.after hs y.draws (Rq.take h c).1,conns:=y.conns.set m (some (.bd (Tr.D hs (y.draws.headD 0) (Rq.take h c).1))) }:Yd).after m []
  else (y.put m (.hd (Rq.take h c).1)).after m (Rq.take h c).2.2
 | some (some (.bd p))=>(y.put m (.bd (p.take c))).after m []
 | _=>y
theorem Cn.take_yes (D:Rq.Head->Pc){h:Rq.Head}{c:UInt8}(e:(Rq.take h c).2=(true,[])):Cn.take D h c=(.bd (D (Rq.take h c).1),[]):=by
 unfold Cn.take;rw[e];rfl
theorem Cn.take_no (D:Rq.Head->Pc){h:Rq.Head}{c:UInt8}(e:(Rq.take h c).2≠(true,[])):Cn.take D h c=(.hd (Rq.take h c).1,(Rq.take h c).2.2):=by
 unfold Cn.take
 rw[if_neg]
 intro h1
 simp only[Bool.and_eq_true,decide_eq_true_eq] at h1
 exact e (Prod.ext h1.1 h1.2)
theorem zpO {h:Rq.Head}{r:P.Rl}(hk:HOk h)(hr:RlOk r):(Rq.sent h r).length<=50000000:=by
 have h1:=uY h.target r hk.targ hr.rep
 have h2:=uB hk hr
 have h3:=uq (Rq.edited r h.headers) h2.1 _ (zZ _)
 rw[fZ] at h3
 have h4:=hk.meth
 have h5:Rq.sVersion.length<=100:=by decide
 unfold Rq.sent Rq.first Rq.line
 simp only[xP,List.flatten_nil,zW,zm,qi]
 omega
theorem Tr.after_le (hs:List P.Hst)(l:List UInt64)(h:Rq.Head):(Tr.after hs l h).length<=l.length:=by
 unfold Tr.after Tr.left
 split
 ·exact zZ _
 ·split
  ·exact zZ _
  ·rw[List.length_tail];omega
theorem GT.block2 {w w':World}{B:Nat}(h:GT w)(hB:GTB B)(hk:∀k,k<B->k<w.heap.size->w'.heap[k]?=w.heap[k]?):GT w':=h.same fun k e=>hk k (hB k e) (h.bound k e)
theorem zlZ {w w':World}{B:Nat}(h:GT w)(hB:GTB B){yb:Nat}{tv:Value}{ps ps':List (Option Nat)}{y:Yd}(m:YMv w w' yb ps ps')(hI:YInv w yb B tv ps y)(ht:tv.ownBlock=none):GT w':=h.block2 hB fun _ h1 h2=>m.keep hI ht h1 h2
theorem ziC {w:World}{yb B cb m:Nat}{tv:Value}{ps:List (Option Nat)}{y:Yd}{hs:List P.Hst}(h:YInv w yb B tv ps y)(hT:TabAt w tv hs)(hF:Fits hs)(hO:HsOk hs)(hk:YOk y)(hm:ps[m]?=some (some cb))(c:UInt8)(ah:y.sent.length<=100000000)(av:y.draws.length<=1000000000)(hl:ps.length<=1000000)(hB:B<=w.heap.size)(hG:Glob w)(hE:GE w)(ar:GT w)(af:0<B/\Tryz.laysC172_ren.g 15<B/\GTB B) :
  Calls Tryz.prog 47 #[.pointer (some ⟨yb,0,none⟩),.int .i64 (m+1:Nat),.int .u8 c.toNat] w fun e w'=>e = .returned (.tuple #[])/\∃ps',YInv w' yb B tv ps' (y.takeP hs m c)/\YMv w w' yb ps ps'/\ps'.length=ps.length:=by
 have ht:=hT.own
 obtain⟨c1,ec,hc⟩:=h.here m cb hm
 have aB:B<=cb:=(hc.cf (Or.inl (Or.inl rfl))).1
 have al:=hk m c1 ec
 cases c1 with
 | hd hh=>
  have hI:HInv w cb B (.pointer none) hh:=hc
  have ab:HOk hh:=al
  have ao:yb≠cb:=fun e=>j0 (h.hf ht (Or.inl rfl)).2 (by rw[e];exact(hc.cf (Or.inl (Or.inl rfl))).2)
  have aw:Tryz.laysC172_ren.g 15<w.heap.size:=by omega
  by_cases hw:(Rq.take hh c).2=(true,[])
  ·have e9:y.takeP hs m c=({ y with draws:=Tr.after hs y.draws (Rq.take hh c).1,conns:=y.conns.set m (some (.bd (Tr.D hs (y.draws.headD 0) (Rq.take hh c).1))) }:Yd).after m []:=by unfold Yd.takeP;rw[ec];simp only[if_pos hw]
   rw[e9]
   refine(vN (y1:={ y with draws:=Tr.after hs y.draws (Rq.take hh c).1,conns:=y.conns.set m (some (.bd (Tr.D hs (y.draws.headD 0) (Rq.take hh c).1))) }) h ht hm c [] ?_ ah hl hB).mono fun e w' ⟨q1,q2,q3⟩=>⟨q1,_,q2,q3,jl _ _ _⟩
   obtain⟨vd,vc,vs,h1,h2,h3,h4⟩:=h.ex
   have hX:∀(W:World) (i:Nat) (v:Value),((∃cs,W.heap[cb]?=some (.cells cs 106 (0,0)))/\∃aa,W.heap[yb]?=some (.cells #[tv,aa,vc,vs] 99 (0,0))/\QRow W B 60 aa ((Tr.after hs y.draws (Rq.take hh c).1).map drawV)/\(∀k,aa.ownBlock=some k->vd.ownBlock=some k)/\W.ownsRow B 100 1 vc ps.length (ps.map ptrV)/\W.ownsRow B 44 3 vs y.sent.length (evCells y.sent))->((∃cs,(W.setCell ⟨cb,i,none⟩ v).heap[cb]?=some (.cells cs 106 (0,0)))/\∃aa,(W.setCell ⟨cb,i,none⟩ v).heap[yb]?=some (.cells #[tv,aa,vc,vs] 99 (0,0))/\QRow (W.setCell ⟨cb,i,none⟩ v) B 60 aa ((Tr.after hs y.draws (Rq.take hh c).1).map drawV)/\(∀k,aa.ownBlock=some k->vd.ownBlock=some k)/\(W.setCell ⟨cb,i,none⟩ v).ownsRow B 100 1 vc ps.length (ps.map ptrV)/\(W.setCell ⟨cb,i,none⟩ v).ownsRow B 44 3 vs y.sent.length (evCells y.sent)):=by
    rintro W i v ⟨⟨cs,q0⟩,aa,q1,q2,q3,q4,q5⟩
    have gs:=zD W cb i v
    have ad:∀(u:Value) (e:TypeId),(∀k,u.ownBlock=some k->∃cs,W.heap[k]?=some (.cells cs e (0,0)))->e≠106->∀k,u.ownBlock=some k->(W.setCell ⟨cb,i,none⟩ v).heap[k]?=W.heap[k]?:=fun u e hv he k hk=>by
     obtain⟨ap,e2⟩:=hv k hk
     refine gs.block k (zE e2) (fun e3=>?_)
     have e4:=qk e3
     rw[e4,q0] at e2
     simp only[Option.some.injEq,Obj.cells.injEq] at e2
     exact he e2.2.1.symm
    exact⟨⟨_,zF (i:=i) q0 v⟩,aa,zB q1 gs (by simpa using ao),q2.keep gs.size (ad aa _ (fun k hk=>(q2.block k hk).2) (by decide)),q3,xA q4 (ad vc _ (fun k hk=>qH q4 k hk) (by decide)),xA q5 (ad vs _ (fun k hk=>qH q5 k hk) (by decide))⟩
   refine(wG (yb:=yb) (some yb) _ hX hI c (Tr.D hs (y.draws.headD 0)) ab.size (by have:=ab.line;have:=ab.size;omega) (by have:=ab.heads;omega) hB hG hE ⟨by omega,by omega⟩ (fun k e=>by have:=qk e;omega) ?_).mono ?_
   ·intro W h' ag hM ae
    have ax:HOk h':=by have:=ab.take c (by rw[ae]);rw[ae] at this;exact this
    have e1:(Rq.take hh c).1=h':=by rw[ae]
    have aA:∀k:Nat,(∃cs t,w.heap[k]?=some (.cells cs t (0,0))/\t∈ydTypes)->¬HF w cb k:=fun k q hF=>j0 q (hc.cf (Or.inl hF)).2
    have bk:∀k:Nat,(∃cs t,w.heap[k]?=some (.cells cs t (0,0))/\t∈ydTypes)->W.heap[k]?=w.heap[k]?:=fun k q=>by
     obtain⟨cs,t,e,q2⟩:=q
     exact hM.turn.block k (zE e) (aA k ⟨cs,t,e,q2⟩)
    have ak:∀k,k<B->k<w.heap.size->W.heap[k]?=w.heap[k]?:=fun k h5 h6=>hM.turn.block k h6 (fun hF=>by have:=(hc.cf (Or.inl hF)).1;omega)
    have an:=(bk yb ⟨_,_,h1,by decide⟩).trans h1
    have kd:∀k,vd.ownBlock=some k->W.heap[k]?=w.heap[k]?:=fun k hk=>by obtain⟨_,cs,e⟩:=h2.block k hk;exact bk k ⟨_,_,e,by decide⟩
    have kc:∀k,vc.ownBlock=some k->W.heap[k]?=w.heap[k]?:=fun k hk=>by obtain⟨cs,e⟩:=qH h3 k hk;exact bk k ⟨_,_,e,by decide⟩
    have ks:∀k,vs.ownBlock=some k->W.heap[k]?=w.heap[k]?:=fun k hk=>by obtain⟨cs,e⟩:=qH h4 k hk;exact bk k ⟨_,_,e,by decide⟩
    have az:=h2.keep hM.turn.size kd
    have ai:=xA h3 kc
    have am:=xA h4 ks
    have aq:GE W:=by
     obtain⟨ev,q1,q2⟩:=hE
     refine⟨ev,?_,q2⟩
     rw[jA (ak _ af.2.1 aw)]
     exact q1
    have au:GT W:=ar.block2 af.2.2 ak
    have aC:=h.low
    refine(zi2 ag ax an az av (hT.head hM hI rfl) hF hO aq au ⟨by omega,fun g e=>by have:=af.2.2 g e;omega⟩).mono ?_
    rintro e w' ⟨pb,q1,q2,q3,aa,q4,q5,q6⟩
    obtain⟨vl,vh,r1,_,_⟩:=ag.ex
    have ad:∀(u:Value) (e:TypeId),(∀k,u.ownBlock=some k->∃cs,W.heap[k]?=some (.cells cs e (0,0)))->e≠99->∀k,u.ownBlock=some k->w'.heap[k]?=W.heap[k]?:=fun u e hv he k hk=>by
     obtain⟨ap,e2⟩:=hv k hk
     refine q3.block k (zE e2) (fun e3=>?_)
     have e4:=qk e3
     rw[e4,an] at e2
     simp only[Option.some.injEq,Obj.cells.injEq] at e2
     exact he e2.2.1.symm
    rw[e1]
    exact⟨pb,q1,q2,q3,⟨_,zB r1 q3 (by simpa using ao.symm)⟩,aa,q4,q5,q6,xA ai (ad vc _ (fun k hk=>qH ai k hk) (by decide)),xA am (ad vs _ (fun k hk=>qH am k hk) (by decide))⟩
   ·rintro e w' ⟨q1,q2,q3,q4⟩
    rw[Cn.take_yes _ hw] at q1 q2
    obtain⟨_,aa,p1,p2,p3,p4,p5⟩:=q4 hw
    have aj:=h.conn (tv':=tv) (y':={ y with draws:=Tr.after hs y.draws (Rq.take hh c).1,conns:=y.conns.set m (some (.bd (Tr.D hs (y.draws.headD 0) (Rq.take hh c).1))) }) ht hm q3 (fun k e=>(qk e).symm) q2 ⟨aa,vc,vs,p1,p2,p4,p5⟩ (fun k hF=>?_) rfl
    ·exact⟨q1,aj.1,aj.2⟩
    ·rcases hF with rfl | ⟨j,u,c1,c2⟩
     ·exact Or.inl (Or.inl rfl)
     ·rw[z8 p1] at c1
      refine Or.inl (Or.inr ?_)
      match j,c1 with
      | 0,c1=>simp at c1;subst c1;rw[ht] at c2;cases c2
      | 1,c1=>simp at c1;subst c1;exact⟨1,vd,z8 h1,p3 k c2⟩
      | 2,c1=>simp at c1;subst c1;exact⟨2,vc,z8 h1,c2⟩
      | 3,c1=>simp at c1;subst c1;exact⟨3,vs,z8 h1,c2⟩
      | j+4,c1=>simp at c1
  ·have e9:y.takeP hs m c=(y.put m (.hd (Rq.take hh c).1)).after m (Rq.take hh c).2.2:=by unfold Yd.takeP;rw[ec];simp only[if_neg hw]
   rw[e9]
   refine(vN (y1:=y.put m (.hd (Rq.take hh c).1)) h ht hm c (Rq.take hh c).2.2 ?_ ah hl hB).mono fun e w' ⟨q1,q2,q3⟩=>⟨q1,_,q2,q3,jl _ _ _⟩
   refine(wG (yb:=yb) none (fun _=>True) (fun _ _ _ _=>trivial) hI c (Tr.D hs 0) ab.size (by have:=ab.line;have:=ab.size;omega) (by have:=ab.heads;omega) hB hG hE ⟨by omega,by omega⟩ (fun k e=>by cases e) ?_).mono ?_
   ·intro W h' ag hM ae
    exact absurd (by rw[ae]) hw
   ·rintro e w' ⟨q1,q2,q3,_⟩
    rw[Cn.take_no _ hw] at q1 q2
    exact⟨q1,(h.put ht hm q3 q2).1,(h.put ht hm q3 q2).2⟩
 | bd p=>
  have ay:1<=p.left/\p.left<=300/\p.data.length+p.left<=100000000:=al
  have e9:y.takeP hs m c=(y.put m (.bd (p.take c))).after m []:=by unfold Yd.takeP;rw[ec]
  rw[e9]
  refine(vN (y1:=y.put m (.bd (p.take c))) h ht hm c [] ?_ ah hl hB).mono fun e w' ⟨q1,q2,q3⟩=>⟨q1,_,q2,q3,jl _ _ _⟩
  refine(zcE (row:=none) hc c ⟨ay.1,by omega⟩ (by omega) hB).mono ?_
  rintro e w' ⟨q1,q2,q3⟩
  exact⟨q1,(h.put ht hm q3 q2).1,(h.put ht hm q3 q2).2⟩
theorem zgJ (hs:List P.Hst)(y:Yd)(m:Nat)(c:UInt8)(i:Nat)(hi:m≠i):(y.takeP hs m c).conns[i]?=y.conns[i]?:=by
 unfold Yd.takeP
 split
 ·split
  ·rw[vq _ _ _ _ hi]
   show(y.conns.set m _)[i]?=_
   rw[List.getElem?_set_ne hi]
  ·rw[vq _ _ _ _ hi]
   show(y.conns.set m _)[i]?=_
   rw[List.getElem?_set_ne hi]
 ·rw[vq _ _ _ _ hi]
  show(y.conns.set m _)[i]?=_
  rw[List.getElem?_set_ne hi]
 ·rfl
theorem ziP (hs:List P.Hst)(y:Yd)(m:Nat)(c:UInt8):(y.takeP hs m c).sent.length<=y.sent.length+1:=by
 unfold Yd.takeP
 split
 ·split
  ·exact kT _ _ _
  ·exact kT _ _ _
 ·exact kT _ _ _
 ·omega
theorem vp (y:Yd)(m:Nat)(r:List UInt8):(y.after m r).draws=y.draws:=by
 unfold Yd.after
 split
 ·unfold Yd.ready
  split
  ·split <;> rfl
  ·rfl
 ·rfl
theorem zgI (hs:List P.Hst)(y:Yd)(m:Nat)(c:UInt8):(y.takeP hs m c).draws.length<=y.draws.length:=by
 unfold Yd.takeP
 split
 ·split
  ·rw[vp];exact Tr.after_le _ _ _
  ·rw[vp];exact zZ _
 ·rw[vp];exact zZ _
 ·exact zZ _
theorem D_le {hs:List P.Hst}(hO:HsOk hs){h:Rq.Head}(hk:HOk h)(d:UInt64):(Tr.D hs d h).left=Rq.body h/\(Tr.D hs d h).data.length<=50000000:=by
 unfold Tr.D
 split
 ·exact⟨rfl,by show Yd.noRoute.length<=_;decide⟩
 ·rename_i r hr
  obtain⟨x,h1,h2⟩:=Tr.find_mem hr
  exact⟨rfl,zpO hk (hO x h1 r h2)⟩
theorem YOk.takeP {hs:List P.Hst}(hO:HsOk hs){y:Yd}(hk:YOk y)(m:Nat)(c:UInt8):YOk (y.takeP hs m c):=by
 intro i d hd
 by_cases hi:m=i
 ·subst hi
  unfold Yd.takeP at hd
  split at hd
  ·rename_i h ec
   have hm:m<y.conns.length:=(List.getElem?_eq_some_iff.1 ec).1
   have hh:HOk h:=hk m _ ec
   split at hd
   ·rename_i h1
    have h2:(Rq.take h c).2.2=[]:=by rw[h1]
    have aa:=hh.take c h2
    have ab:=aa.body
    obtain⟨e1,e2⟩:=D_le hO aa (y.draws.headD 0)
    exact t7 (y:={ y with draws:=Tr.after hs y.draws (Rq.take h c).1 }) hm (Or.inr ⟨_,rfl,by rw[e1];exact ab.1,by rw[e1];exact ab.2,by rw[e1];omega⟩) hd
   ·rename_i h1
    by_cases h2:(Rq.take h c).2.2=[]
    ·rw[h2] at hd
     exact t7 hm (Or.inl ⟨_,rfl,hh.take c h2⟩) hd
    ·unfold Yd.after at hd
     rw[if_neg h2] at hd
     have e1:((((y.put m (.hd (Rq.take h c).1)).send ⟨m+1,[],(Rq.take h c).2.2⟩).ended m).conns[m]?)=some none:=by
      show((y.conns.set m _).set m none)[m]?=_
      rw[List.getElem?_set_self (by rw[List.length_set];exact hm)]
     rw[e1] at hd
     simp at hd
  ·rename_i p ec
   have hm:m<y.conns.length:=(List.getElem?_eq_some_iff.1 ec).1
   have hp:1<=p.left/\p.left<=300/\p.data.length+p.left<=100000000:=hk m _ ec
   refine t7 hm (Or.inr ⟨_,rfl,by show 0<=p.left - 1;omega,by show p.left - 1<=300;omega,?_⟩) hd
   have hl:(p.take c).data.length<=p.data.length+1:=by unfold Pc.take;simp only;split <;> simp
   have e2:(p.take c).left=p.left - 1:=rfl
   rw[e2];omega
  ·exact hk m d hd
 ·rw[zgJ hs y m c i hi] at hd
  exact hk i d hd
def Yd.stepP (hs:List P.Hst)(y:Yd)(m:Nat)(c:UInt8):Yd:=if y.isOpen (m+1:Nat)=true then y.takeP hs m c else y
def Yd.fedP (hs:List P.Hst)(y:Yd)(m:Nat)(l:List UInt8):Yd:=l.foldl (fun y c=>y.stepP hs m c) y
theorem zjY (hs:List P.Hst)(y:Yd)(m:Nat)(l:List UInt8)(c:UInt8):y.fedP hs m (l++[c])=(y.fedP hs m l).stepP hs m c:=by unfold Yd.fedP;rw[List.foldl_append];rfl
theorem zjX (hs:List P.Hst)(y:Yd)(m:Nat)(l:List UInt8)(h:y.isOpen (m+1:Nat)=false):y.fedP hs m l=y:=by
 induction l with
 | nil=>rfl
 | cons c l ih=>
  have e:y.stepP hs m c=y:=by unfold Yd.stepP;rw[h];rfl
  show Yd.fedP hs (y.stepP hs m c) m l=y
  rw[e];exact ih
theorem zeB (hs:List P.Hst)(y:Yd)(m:Nat)(a b:List UInt8):y.fedP hs m (a++b)=(y.fedP hs m a).fedP hs m b:=by unfold Yd.fedP;rw[List.foldl_append]
structure FdP (w wr:World) (yb B m:Nat) (tv:Value) (hs:List P.Hst) (ps ps':List (Option Nat)) (y y':Yd) (i:Nat):Prop where
 inv:YInv wr yb B tv ps' y'
 mv:YMv w wr yb ps ps'
 len:ps'.length=ps.length
 ok:YOk y'
 sent:y'.sent.length<=y.sent.length+i
 draws:y'.draws.length<=y.draws.length
 tab:TabAt wr tv hs
theorem zkD {w:World}{yb B m:Nat}{tv:Value}{hs:List P.Hst}{ps:List (Option Nat)}{y:Yd}{a:Option Addr}{k:Nat}{l:List UInt8}(h:YInv w yb B tv ps y)(ak:TabAt w tv hs)(hF:Fits hs)(hO:HsOk hs)(hk:YOk y)(ho:y.isOpen (m+1:Nat)=true)(hr:RdO w (.slice a l.length k) l)(ha:Apart w yb ps (.slice a l.length k))(aB:l.length<=1000000)(aw:y.sent.length<=10000000)(ap:y.draws.length<=1000000000)(hl:ps.length<=1000000)(hB:B<=w.heap.size)(hG:Glob w)(hE:GE w)(ao:GT w)(ad:0<B/\Tryz.laysC172_ren.g 15<B/\GTB B) :
  Calls Tryz.prog 26 #[.pointer (some ⟨yb,0,none⟩),.int .i64 (m+1:Nat),.slice a l.length k] w fun e w'=>e = .returned (.int .i64 0)/\∃ps',FdP w w' yb B m tv hs ps ps' y (y.fedP hs m l) l.length:=by
 have ht:=ak.own
 have HO:=hid (fq h (m+1:Nat) hl)
 rw[ho] at HO
 have HZ:Y (FdP w w yb B m tv hs ps ps y (y.fedP hs m (l.take 0)) 0):=⟨h,YMv.refl _ _ _,rfl,hk,zZ _,zZ _,ak⟩
 have an:=hid hr
 have ag:Y (∀wr ps' y' i,FdP w wr yb B m tv hs ps ps' y y' i->Calls Tryz.prog 46 #[.pointer (some ⟨yb,0,none⟩),.int .i64 (m+1:Nat)] wr fun e w'=>e = .returned (.bool (y'.isOpen (m+1:Nat)))/\w'=wr):=fun wr ps' y' i hF=>fq hF.inv _ (by rw[hF.len];exact hl)
 have ah:Y (∀wr ps' y' i,FdP w wr yb B m tv hs ps ps' y y' i->RdO wr (.slice a l.length k) l):=fun wr ps' y' i hF=>hr.moved hF.mv ha
 have aj:Y (∀wr ps' y' i (c:UInt8),FdP w wr yb B m tv hs ps ps' y y' i->i<l.length->y'.isOpen (m+1:Nat)=true->Calls Tryz.prog 47 #[.pointer (some ⟨yb,0,none⟩),.int .i64 (m+1:Nat),.int .u8 c.toNat] wr fun e w'=>e = .returned (.tuple #[])/\∃al,FdP w w' yb B m tv hs ps al y (y'.takeP hs m c) (i+1)):=fun wr ps' y' i c hFd hi aa=>by
  obtain⟨m',e1,_,cb,c0,e2,_⟩:=hFd.inv.open_at aa
  have e3:m=m':=by omega
  subst e3
  have aC:=hFd.mv.turn.size
  refine(ziC hFd.inv hFd.tab hF hO hFd.ok e2 c (by have:=hFd.sent;omega) (zp hFd.draws ap) (by rw[hFd.len];exact hl) (by omega) (hG.moved hFd.mv h ht hB ad.1) (hE.moved hFd.mv h ht hB ad.2.1) (zlZ ao ad.2.2 hFd.mv h ht) ad).mono ?_
  rintro e w' ⟨q1,al,q2,q3,q4⟩
  exact⟨q1,al,⟨q2,hFd.mv.trans q3,q4.trans hFd.len,hFd.ok.takeP hO m c,by have:=ziP hs y' m c;have:=hFd.sent;omega,zp (zgI hs y' m c) hFd.draws,hFd.tab.moved q3 hFd.inv ht⟩⟩
 have ae:Y (∀i,i<l.length->(y.fedP hs m (l.take i)).isOpen (m+1:Nat)=false->y.fedP hs m l=y.fedP hs m (l.take i)):=fun i hi aa=>by
  have:l=l.take i++l.drop i:=(List.take_append_drop i l).symm
  rw[this,zeB,List.take_append_drop,zjX _ _ _ _ aa]
 have ai:Y (∀i (hi:i<l.length),(y.fedP hs m (l.take i)).isOpen (m+1:Nat)=true->(y.fedP hs m (l.take i)).takeP hs m l[i]=y.fedP hs m (l.take (i+1))):=fun i hi aa=>by
  rw[List.take_add_one,qN hi]
  show _=y.fedP hs m (l.take i++[l[i]])
  rw[zjY];unfold Yd.stepP;rw[if_pos aa]
 have am:Y (l.take l.length=l):=List.take_length
 have af:Y (∀wr ps' y' i,FdP w wr yb B m tv hs ps ps' y y' i->i<=l.length->FdP w wr yb B m tv hs ps ps' y y' l.length):=fun wr ps' y' i q hi=>⟨q.inv,q.mv,q.len,q.ok,by have:=q.sent;omega,q.draws,q.tab⟩
 clear h ak hF hO hk ho hr ha hG hE ao hl aw ap hB ad ht
 generalize((m+1:Nat):Int)=n at*
 go_enter Tryz.func26,Tryz.ntmps26
 go_wp2_with fail
 refine HO.o.mono ?_
 rintro e w1 ⟨rfl,rfl⟩
 clear HO
 go_wp2_with fail
 go_loopw [7] (fun iv wr=>∃i:Nat,i<=l.length/\iv = .int .i64 i/\∃ps',Y (FdP w1 wr yb B m tv hs ps ps' y (y.fedP hs m (l.take i)) i)) (fun iv _=>l.length - (intOf iv).toNat)
 case atStart=>exact⟨0,zl _,rfl,ps,HZ⟩
 case round=>
  obtain⟨i,av,rfl,ps',HW⟩:=hrel
  clear HZ
  by_cases ab:i<l.length
  ·have aA:(i:Int)<l.length:=by omega
   have HI:=hid (ag.o wr ps' _ i HW.o)
   have HR:=hid (ah.o wr ps' _ i HW.o)
   have HT:=hid (fun aa=>aj.o wr ps' _ i l[i] HW.o ab aa)
   have HE:=hid (ae.o i ab)
   have HS:=hid (ai.o i ab)
   have au:=hid (af.o wr ps' _ i HW.o av)
   obtain⟨g,o,rfl,az⟩:∃g o,a=some ⟨g,o,none⟩/\wr.cell? ⟨g,o+i,none⟩=some (.int .u8 l[i].toNat):=by
    rcases HR.o with ⟨_,_,e,e2⟩ | ⟨g,o,c,e,_,_,h3⟩
    ·rw[e2] at ab;cases ab
    ·simp only[qc,true_and] at e
     exact⟨g,o,e.1,h3 i _ (qN ab)⟩
   clear ag ah aj ae ai HR an am af
   generalize aq:y.fedP hs m (l.take i)=y' at*
   have ay:=hid aq
   clear aq
   generalize l[i]=c at*
   generalize aa:y'.isOpen n=b at*
   have HB:=hid aa
   clear aa
   go_wp2_with fail
   refine HI.o.mono ?_
   rintro e w2 ⟨rfl,rfl⟩
   clear HI
   cases b
   ·go_wp2
    go_ret
    exact⟨rfl,ps',by rw[HE.o trivial];exact au.o⟩
   ·go_wp2_with fail
    refine(HT.o trivial).mono ?_
    rintro e w3 ⟨rfl,ax,F3⟩
    have ar:=hid F3
    clear HT F3
    go_wp2_with fail
    go_roundw
    case rel=>exact⟨i+1,by omega,by go_num,ax,by rw[<-HS.o trivial];exact ar⟩
    case measure=>simp[intOf];omega
  ·have hE:i=l.length:=by omega
   subst hE
   rw[am.o] at HW
   clear ag ah aj ae ai an af
   go_wp2
   go_ret
   exact⟨rfl,ps',HW.o⟩
end Go.Proofs.YtfocdefchbnkpaaGreatDoor
