import Derived.Test.YtfocdefchbnkpaaGreatDoorRefK
import Derived.Deep.CutRange
import Derived.Laws.AppendOwnNone
import Derived.Deep.RegionHeld3
set_option maxRecDepth 100000
set_option maxHeartbeats 20000000
open Go renaming World->Ag,Value->Aj,Calls->Am,info_parts->Ej,maxLen->Bh,heap_alloc_new->Bn,wpList_append_lies->Ei,wpList_append_own->Cu,wpList_append_own_none->Qa
open Go.Ending renaming returned->Af
open Go.IntKind renaming i64->Ai
open Go.Obj renaming cells->Ae
open Go.Proofs.YtfocdefchbnkpaaGreatDoor.R renaming Hst->Fp,hostS->Mm,notS->Cw,needS->Cg,cur->Bj,among->Ip,str->Aa,str_toList->Be,rlLoop->Nd,Rl->Gn,size_eq->Cp,toks->Vg
open Go.RowKit renaming Below->Ms
open Go.RowKit.Below renaming refl->Vw
open Go.Value renaming string->I,slice->X,int->O,bool->Av
open Go.Value.slice renaming injEq->Au
open Go.World renaming grownBy_alloc->Ac,alloc->Eo,ownsRow_nil->Bk,drew->Md
open Go.World.ownsRow renaming form->Bm,cellAt->Ap,lt->An,alloc->Ao
open List renaming length->Z
open Option renaming some->V,none->S
open _root_ renaming Nat->Ad,List->A,Int->Ak,UInt8->Ab
namespace Go.Proofs.YtfocdefchbnkpaaGreatDoor
open Go.RowKit Tryz
theorem zd0:(prog.info? 126).map (fun i=>(i.zero,i.size,i.bytes))=V (V (.agg #[O Ai 0,I ⟨#[]⟩,X S 0 0,X S 0 0,Av false,I ⟨#[]⟩,X S 0 0,X S 0 0]),8,144):=by kernel_rfl
theorem zcY:(prog.info? 119).map (fun i=>(i.zero,i.size,i.bytes))=V (V (.agg #[I ⟨#[]⟩,X S 0 0]),2,40):=by kernel_rfl
variable {w:Ag}{B rb:Ad}
theorem zgX {w':Ag}(h:w.grownBy w' (V rb))(a:B<=rb):B<=w.heap.size->Ms B w w':=fun hs=>
 ⟨h.os,h.tape,h.output,h.size,fun k hk=>h.block k (by omega) (by simp;omega)⟩
abbrev Fu0 (a):=Ae #[I (Aa a),X S 0 0] 119
abbrev Fu3 (a b c d):=Ae #[I (Aa b),X c a d] 119
abbrev Fu4 (a b c):=X (V ⟨b,0,S⟩) a c
theorem ziK {g F:Ad}{ts:A R.Tok}{st:R.St}{H:Aj}(h:RInv w rb g F ts st H)(o:A Fp)(hH:HostsRow w B H o)(hB:B<=rb)(ca:Z o<=4000):Am prog 52 #[.pointer (V ⟨rb,0,S⟩)] w fun e w'=>e=Af (.tuple #[])/\Ms B w w'/\∃H',RInv w' rb g F ts (Mm ts st (o.map R.Hst.name)).2 H'/\HostsRow w' B H' (o++[(Mm ts st (o.map R.Hst.name)).1]):=by
 obtain⟨i0,hi,bW,bX,bY⟩:=Ej zd0;obtain⟨i1,hj,bS,bT,bU⟩:=Ej zcY;have HP:Y (Mm ts st (o.map R.Hst.name)=R.hsB ts (R.hsA ts st (o.map R.Hst.name))):=rfl;have al:Y (R.hsA ts st (o.map R.Hst.name)=R.hsA2 ts (Cw (Cg ts st R.wHost) (decide ((Z (o.map R.Hst.name):Ak)<4)) 3 (Bj ts st).at_) (o.map R.Hst.name)):=rfl;rw[Bv] at al;have HH:=J hH;obtain⟨aR,av,aT⟩:=hH;have E:=J av;have aB:=J aT;obtain⟨ha,hc,rfl⟩:=zL av;have H0:=J h;have b4:=zO h.rd;have b9:=h.gl;generalize Mm ts st (o.map R.Hst.name)=r at*;go_in;have C0:Y (w.grownBy w (V rb)):=zP _ _;go_wp2_with fail;refine(qv H0.o _).mono ?_;rintro e w1 ⟨rfl,I1,aX⟩;have J1:=J I1;have b1:=zO J1.o.rd;have G1:=J (aX);have C1:=J (zD C0.o G1.o);have c5:=cbi 5 J1.o.rd;go_wp2
 go_cut [] from 11 to 19 (fun wx=>Y (RInv wx rb g F ts (Cw (Cg ts st R.wHost) (decide ((Z o:Ak)<4)) 3 (Bj ts st).at_) (X ha (Z o) hc))/\Y (w.grownBy wx (V rb)))
 ·
  go_region_with (go_at_call 85;refine(j4 ((J1.o.keep (Ac _ _ _)).keep (zV _)) _ _ _ _ _).mono ?_;rintro e w2 ⟨rfl,I2,aY⟩)
  all_goals
   have J2:=J I2;have C2:Y (w.grownBy w2 (V rb)):=zD C1.o (zD (Ac _ _ _) (zD (zT (zV _) _) aY));go_wp2_with fail
   go_meet
   ·exact⟨J2,C2⟩
 ·
  obtain⟨J2,C2⟩:=hcut;generalize Cw (Cg ts st R.wHost) (decide ((Z o:Ak)<4)) 3 (Bj ts st).at_=s2 at*;have aA:Y (R.hsA2 ts s2 (o.map R.Hst.name)=(R.lower (Bj ts s2).s,Ip (o.map R.Hst.name) (R.lower (Bj ts s2).s) (Bj ts s2).at_ (Cw (R.kindS ts s2 34) (R.named (Bj ts s2).s true) 4 (Bj ts s2).at_))):=rfl;have aJ:=J (J2.o.curlen);have bC:Y ((Aa (Bj ts s2).s).size<=Bh):=by have:=aJ.o;show _<=_;unfold Bh;omega
  have bB:Y ((Aa (Bj ts s2).s).size<=100000):=by have:=aJ.o;show _<=_;omega
  go_wp2_with fail;refine(kO J2.o 34).mono ?_;rintro e be ⟨rfl,aK,a0⟩;have aO:=J aK;have b2:=zO aO.o.rd;have bk:=J (a0);have bg:=J (zD C2.o bk.o);go_wp2_with fail;refine(sO _ _ _ bC.o).mono ?_;rintro e wX ⟨rfl,ba⟩;rw[ba];rw[Be];go_wp2_with fail;refine(j4 (aO.o.keep (Ac _ _ _)) _ _ _ _ _).mono ?_;rintro e bf ⟨rfl,aL,au⟩;have bF:=J aL;have bl:Y (be.grownBy bf (V rb)):=(zD (Ac _ _ _) au);have bh:=J (zD bg.o bl.o);have aQ:Y (bf.heap[be.heap.size]?=V (Ae #[O .u8 (Bj ts s2).k,I (Aa (Bj ts s2).s),O Ai (Bj ts s2).at_] 115)):=ql au;have ci:=cbi 1 aQ.o;go_wp2_with fail;refine(uV _ _ bB.o).mono ?_;rintro e p ⟨rfl,aV⟩;have aq:=zt aV;have a1:=zT aq (V rb);have aP:Y _:=(bF.o).keep aq;have b3:=zO aP.o.rd;have ay:=J (a1);have aw:=J (zD bh.o ay.o);have cr:=aw.o.size;have bM:=J (zE aQ.o ay.o);rw[Be];generalize Cw (R.kindS ts s2 34) (R.named (Bj ts s2).s true) 4 (Bj ts s2).at_=s4 at*;generalize R.lower (Bj ts s2).s=lo at*;generalize Bj ts s2=t at*;go_wp2_with fail;have bG:Y _:=aP.o.keep (Ac p (Fu0 lo) S);have bi:Y (w.grownBy (Eo p (Fu0 lo)) (V rb)):=zD aw.o (Ac p (Fu0 lo) _);have bN:=J (zE bM.o (Ac p (Fu0 lo) S));have bq:Y ((Eo p (Fu0 lo)).heap[p.heap.size]?=V (Fu0 lo)):=Bn _ _;have cn:p.heap.size+1<=(Eo p (Fu0 lo)).heap.size:=by simp
  have co:(Eo p (Fu0 lo)).heap.size<=p.heap.size+1:=by simp
  generalize(Eo p (Fu0 lo))=wk4 at*
  go_loopw [6] (fun iv wr=>∃k:Ad,k<=Z o/\iv=O Ai k/\Y (RInv wr rb g F ts (Ip ((o.map R.Hst.name).take k) lo t.at_ s4) (X ha (Z o) hc))/\Y (wk4.grownBy wr (V rb))) (fun iv _=>Z o-(intOf iv).toNat)
  ·exact⟨0,Ax _,rfl,bG,zP _ _⟩
  ·
   obtain⟨k,hk,rfl,IR,HR⟩:=hrel;have d5:=cbi 5 IR.o.rd;have CR:=J (zD bi.o HR.o);have aD:Y _:=zE bq.o HR.o
   by_cases a6:k<Z o
   ·obtain⟨gh,gc,a4,_,_⟩:=Bm E.o (by omega)
    simp only[Au] at a4;obtain⟨rfl,_,rfl⟩:=a4;have c1:wr.cell? ⟨gh,k*2,S⟩=V (I (Aa o[k].name)):=by
     have aW:=Ap E.o (k*2) (by omega);rw[wV aB.o k a6] at aW;exact CR.o.cell aW (by simpa using zI H0.o.rd E.o (by decide) gh rfl)
    have n3:=zE bN.o HR.o;have ce:=cbi 0 n3;have cf:=cbi 1 n3;have cg:=cbi 2 n3;have ch:=cbi 0 aD.o;have hq:((Aa o[k].name).toList == (Aa lo).toList)=decide (o[k].name=lo):=by
     rw[toLs,ByteArray.toList_eq,Be]
    have HA:Y (Ip ((o.map R.Hst.name).take (k+1)) lo t.at_ s4=Cw (Ip ((o.map R.Hst.name).take k) lo t.at_ s4) (!decide (o[k].name=lo)) 5 t.at_):=by
     show Ip _ _ _ _=_;unfold Ip;rw[Co (by rw[Bv];exact a6),Mb,Ha,<-Qu];rfl
    generalize decide (o[k].name=lo)=bb at*;generalize Aa o[k].name=lk at*;generalize Ip ((o.map R.Hst.name).take k) lo t.at_ s4=stk at*;go_wp2
    go_region_with (go_at_call 85;refine(j4 (IR.o.keep (zV wr)) _ _ _ _ _).mono ?_;rintro e wN ⟨rfl,IN,aZ⟩)
    all_goals
     have JN:Y (RInv wN rb g F ts (Ip ((o.map R.Hst.name).take (k+1)) lo t.at_ s4) (Fu4 (Z o) gh hc)):=by rw[HA.o];exact IN
     have GN:Y (wk4.grownBy wN (V rb)):=zD HR.o (zD (zT (zV wr) _) aZ);go_wp2;exact⟨⟨k+1,by omega,by go_num,JN,GN⟩,by simp[intOf];omega⟩
   ·rw[Cc (by rw[Bv];omega)] at IR
    have aF:Y (r=R.hsB ts (lo,Ip (o.map R.Hst.name) lo t.at_ s4)):=by rw[<-aA.o,<-al.o];exact HP.o
    generalize Ip (o.map R.Hst.name) lo t.at_ s4=sA at*;go_wp2_with fail;refine(qv IR.o _).mono ?_;rintro e cq ⟨rfl,aN,a5⟩;have bH:=J aN;have az:=J (a5);have bj:=J (zD CR.o az.o);have br:=J (zE aD.o az.o);have JB:=J (bH);have an:Y (r=(⟨lo,(Nd ts (Z ts+1) (Cg ts sA [123]) []).1⟩,Cg ts (Nd ts (Z ts+1) (Cg ts sA [123]) []).2 [125])):=aF.o;generalize Cg ts sA [123]=sB at*;generalize hq:Nd ts (Z ts+1) sB []=q at*;have HQ:=J hq;go_wp2_with fail
    go_loopw [7] (fun iv wz=>∃(n:Ad) (d:A Gn) (s:R.St) (vR:Aj),iv=O Ai (Z d)/\(Z d)<=s.K/\s.K<Z ts/\(Z ts)<n+s.K/\Y (Nd ts n s d=q)/\Y (RInv wz rb g F ts s (X ha (Z o) hc))/\Y (w.grownBy wz (V rb))/\Y (wz.heap[p.heap.size]?=V (Ae #[I (Aa lo),vR] 119))/\Y (RulesRowB wz w.heap.size vR d)) (fun iv _=>Z ts+1-(intOf iv).toNat)
    ·exact⟨Z ts+1,[],sB,_,rfl,Ax _,JB.o.lt,by omega,HQ.o,JB,bj,br,⟨[],Bk _ _ _ _,.nil⟩⟩
    ·
     obtain⟨n,d,s,vR,rfl,b8,b7,hn,HL,ae,bz,bo,aG⟩:=hrel;have cb:=ae.o.ok.len;obtain⟨n,rfl⟩:∃m,n=m+1:=⟨n-1,by omega⟩;have z:=HL.o;rw[Nd] at z;have aI:=J (aG.o);obtain⟨N,Q,rfl⟩:=zL aI.o.choose_spec.1;have bs:=J bo.o;go_wp2_with fail;refine(uC ae.o _).mono ?_;rintro e cp ⟨rfl,ar⟩;have a2:=zT ar (V rb);have af:Y _:=(ae.o).keep ar;have aj:=J (a2);have ax:=J (zD bz.o aj.o);have y:=J (zE bs.o aj.o);have ag:Y _:=RulesRowB.keep aG.o aj.o (xQ ae.o.rd);rw[show(⟨#[114,117,108,101]⟩:ByteArray).data.toList=qz from rfl]
     cases hgo:R.isB s (Bj ts s) qz
     ·rw[Aw (by rw[hgo];simp)] at z
      have bt:Y (q.1=d):=by rw[<-z];rfl
      have bu:Y (q.2=s):=by rw[<-z];rfl
      rw[bt.o,bu.o] at an;go_wp2_with fail;refine(qv af.o _).mono ?_;rintro e l ⟨rfl,aM,a3⟩;have ao:=J aM;have b5:=zO ao.o.rd;have ak:=J (a3);have ai:=J (zD ax.o ak.o);have aE:=J (zE y.o ak.o);have bI:Y _:=RulesRowB.keep ag.o ak.o (xQ af.o.rd);have e5:=cbi 5 ao.o.rd;have bZ:=cbi 0 aE.o;have b0:=cbi 1 aE.o;go_wp2;have bc:=zJ E.o ai.o (zI H0.o.rd E.o);have bE:=J (aB.o.map fun a b hab=>hab.keep ai.o (xQ H0.o.rd));have gD:l.grownBy (l.alloc (Fu3 (Z d) lo N Q)).drew S:=zD (Ac _ _ _) (zV _);have v:Y ((l.alloc (Fu3 (Z d) lo N Q)).drew.ownsRow B 119 2 (X ha (Z o) hc) (Z o) aR.flatten):=bc.alloc _;have bx:Y (∀j u,[I (Aa lo),X N (Z d) Q][j]?=V u->(l.alloc (Fu3 (Z d) lo N Q)).drew.cell? ((⟨l.heap.size,0,S⟩:Addr).add j)=V u):=zZ l #[_,_] _ _ rfl;have bm:Y (∀u∈[I (Aa lo),X N (Z d) Q],u.oneCell'=true):=by intro u hu;simp at hu;rcases hu with rfl|rfl <;> rfl
      have bw:Y (Z o+1<=Bh):=by show _<=_;unfold Bh;omega
      have aC:Y (B<=(l.alloc (Fu3 (Z d) lo N Q)).drew.heap.size):=by show _<=_;rw[show(l.alloc (Fu3 (Z d) lo N Q)).drew.heap.size=l.heap.size+1 from by simp];omega
      have bD:Y ((l.alloc (Fu3 (Z d) lo N Q)).drew.heap.size=l.heap.size+1):=by show _=_;simp
      have JD:Y _:=ao.o.keep gD;have am:=J gD
      go_region_law (refine step_append_lies _ rfl (.tmp 79) (.tmp 81) 67 rfl B 119 i1 _ 2 40 underlying67 hj bS bT bU rfl (by decide) _ _ _ (by simp[Act.eval]) v.o ⟨l.heap.size,0,S⟩ 1 1 [I (Aa lo),X N (Z d) Q] (by simp[Act.eval]) rfl bx.o bm.o (by decide) bw.o (by omega) aC.o (l.heap.size+1) bD.o ?_;intro g9 x w9 C f bQ bV;have K9:Y (RInv w9 rb g F ts _ (X ha (Z o) hc)):=JD.o.away f (fun k hk=>⟨zI JD.o.rd v.o (by decide) k hk,fun c=>by obtain⟨b6,bR,_⟩:=JD.o.tk;exact zI bR v.o (by decide) k hk c⟩);have cc:=cbi 5 K9.o.rd;have cd:=zm9 5 K9.o.rd)
      all_goals
       go_end0
       have gF:=zF w9 rb 5 (X (V ⟨g9,0,S⟩) (Z o+1) x);have sF:Safe w9 (V rb) htags:=xQ K9.o.rd;have sG:Safe (l.alloc (Fu3 (Z d) lo N Q)).drew (X ha (Z o) hc).ownBlock rtags:=xk v.o;have bd:Safe w9 (V rb) rtags:=xQ K9.o.rd;refine⟨rfl,?_,X (V ⟨g9,0,S⟩) (Z o+1) x,?_,?_⟩
       ·exact(((zgX ai.o hB (by omega)).grown am.o (by omega) (fun k hk=>by cases hk)).grown f aC.o (fun k hk=>(An v.o k hk).1)).setCell hB _
       ·rw[an.o];exact K9.o.put gF (zH K9.o.rd _) K9.o.lt
       ·rw[an.o]
        refine⟨aR++[[I (Aa lo),X N (Z d) Q]],?_,?_⟩
        ·rw[Ah,Eg]
         exact x7 C gF sF
        ·refine All2.snoc (bE.o.map fun a b hab=>((hab.keep am.o (za _ _)).keep f sG).keep gF bd) ⟨_,rfl,?_⟩
         exact RulesRow.keep (RulesRow.keep (RulesRow.keep (RulesRowB.zero bI.o) am.o (za _ _)) f sG) gF bd
     ·rw[Az (by rw[hgo])] at z
      have bO:=R.ruleS_K ts s (Z d) (d.map R.Rl.number) hgo;have bZ:=cbi 0 y.o;have b0:=cbi 1 y.o;have bA:Y ((X N (Z d) Q).ownBlock≠V rb):=by
       obtain⟨aS,h2,_⟩:=ag.o;exact fun c=>by have:=(An h2 rb c).1;omega
      go_wp2_with fail;refine(ziP af.o (Z d) (X N (Z d) Q) d (RulesRowB.zero ag.o) (by omega) bA.o).mono ?_;rintro e wU ⟨cs,rfl,IU,ah,bP⟩;obtain⟨vM,vT,vS,vD,rfl,hM,hT,hS,hD⟩:=bP;obtain⟨m1,m2,rfl⟩:=zL hM;obtain⟨t1,t2,rfl⟩:=zL hT;obtain⟨x1,x2,rfl⟩:=zL hS;obtain⟨d1,d2,rfl⟩:=zL hD;have aH:Y (RuleVal wU _ _):=⟨_,_,_,_,rfl,hM,hT,hS,hD⟩;generalize R.ruleS ts s (Z d) (d.map R.Rl.number)=pr at*;obtain⟨i,sR⟩:=pr;simp only at z bO IU aH;have bv:=J z;have JU:=J IU;have CU:=J (zD ax.o ah);have zU:=CU.o.size;have bL:Y _:=RulesRowB.keep ag.o ah (xQ af.o.rd);have ab:=J (zE y.o ah);have cm:=zO ab.o;have cl:=cbi 1 ab.o;obtain⟨aS,a7,aU⟩:=bL.o;have ad:=J a7;have bn:=J aU;go_wp2_with (at_builtin;refine Ei _ rfl _ _ 117 rfl (w.heap.size) 126 i0 _ 8 144 underlying117 hi bW bX bY rfl (by decide) _ _ _ rfl (Ao (Ao ad.o _) _) ⟨wU.heap.size+1,0,S⟩ 1 1 [O Ai i.number,I (Aa i.path),X m1 (Z i.ms) m2,X t1 (Z i.tg) t2,Av i.change,I (Aa i.to),X x1 (Z i.sets) x2,X d1 (Z i.drops) d2] rfl rfl ?c1 ?c2 (by decide) ?c3 ?c4 ?c5 (wU.heap.size+2) (by simp) ?_)
      ·exact zZ _ #[_,_,_,_,_,_,_,_] _ _
      ·intro u hu;simp at hu;rcases hu with rfl|rfl|rfl|rfl|rfl|rfl|rfl|rfl <;> rfl
      ·unfold Bh;omega
      ·omega
      ·simp;omega
      intro g9 x w9 C f bQ bV;have a8:=C;have gA:wU.grownBy ((wU.alloc (Ae #[O Ai i.number,I (Aa i.path),X m1 (Z i.ms) m2,X t1 (Z i.tg) t2,Av i.change,I (Aa i.to),X x1 (Z i.sets) x2,X d1 (Z i.drops) d2] 126)).alloc (Ae #[O Ai i.number,I (Aa i.path),X m1 (Z i.ms) m2,X t1 (Z i.tg) t2,Av i.change,I (Aa i.to),X x1 (Z i.sets) x2,X d1 (Z i.drops) d2] 126)) S:=zD (Ac _ _ _) (Ac _ _ _);have a9:Safe ((wU.alloc (Ae #[O Ai i.number,I (Aa i.path),X m1 (Z i.ms) m2,X t1 (Z i.tg) t2,Av i.change,I (Aa i.to),X x1 (Z i.sets) x2,X d1 (Z i.drops) d2] 126)).alloc (Ae #[O Ai i.number,I (Aa i.path),X m1 (Z i.ms) m2,X t1 (Z i.tg) t2,Av i.change,I (Aa i.to),X x1 (Z i.sets) x2,X d1 (Z i.drops) d2] 126)) (X N (Z d) Q).ownBlock leaves:=xk (Ao (Ao ad.o _) _);have bJ:Y (RulesRowB w9 w.heap.size (X (V ⟨g9,0,S⟩) (Z d+1) x) (d++[i])):=by
       refine⟨aS++[[O Ai i.number,I (Aa i.path),X m1 (Z i.ms) m2,X t1 (Z i.tg) t2,Av i.change,I (Aa i.to),X x1 (Z i.sets) x2,X d1 (Z i.drops) d2]],?_,?_⟩
       ·rw[Ah,Eg];exact a8
       ·exact(bn.o.snoc aH.o).map fun a b hab=>(hab.keep gA (za _ _)).keep f a9
      have ap:∀k,(X N (Z d) Q).ownBlock=V k->w.heap.size<=k:=fun k hk=>(An ad.o k hk).1
      have J9:Y (RInv w9 rb g F ts sR (X ha (Z o) hc)):=(JU.o.keep gA).away f (fun k hk=>by have h1:=ap k hk;exact⟨by omega,by omega⟩);have C9:Y (w.grownBy w9 (V rb)):=qI (zD CU.o (zT gA _)) f ap;have aa:=J (zw (zE ab.o gA) f (fun k hk=>zI ab.o ad.o (by decide) k hk));have cj:=cbi 1 aa.o;have ck:=zm9 1 aa.o;have gS:=zF w9 p.heap.size 1 (X (V ⟨g9,0,S⟩) (Z d+1) x);have JS:Y _:=J9.o.other gS (by omega) (by omega);have CS:=J (ze C9.o gS);have bp:Y ((w9.setCell ⟨p.heap.size,1,S⟩ (X (V ⟨g9,0,S⟩) (Z d+1) x)).heap[p.heap.size]?=V (Ae #[I (Aa lo),X (V ⟨g9,0,S⟩) (Z d+1) x] 119)):=zH aa.o _;have bK:Y _:=RulesRowB.keep bJ.o gS (xQ aa.o);go_wp2
      go_roundw
      ·exact⟨n,d++[i],sR,_,by rw[Ah];go_num,by rw[Ah];simp;omega,JS.o.lt,by omega,bv,JS,CS,bp,bK⟩
      ·simp[intOf];omega
theorem zhH:(prog.info? 126).map (fun i=>(i.zero,i.size,i.bytes))=V (V (.agg #[O Ai 0,I ⟨#[]⟩,X S 0 0,X S 0 0,Av false,I ⟨#[]⟩,X S 0 0,X S 0 0]),8,144):=by kernel_rfl
theorem x3 (w:Ag)(n:Ad):w.grownBy (w.drewN n) S:=by
 induction n with
 |zero=>exact zP _ _
 |succ n ih=>exact zD ih (zV _)
theorem xz {w':Ag}(h:Ms w.heap.size w w'):w.grownBy w' S:=zt h
def sy (r:Gn)(out:A Gn):Ad:=Z (out.takeWhile fun o=>decide (o.number<r.number))
def fL (out:A Gn)(r:Gn):A Gn:=out.take (sy r out)++[r]++out.drop (sy r out)
def zf (l:A Gn):A Gn:=l.foldl fL []
variable {α β:Type}
theorem ku (p:α->Bool)(l:A α)(k:Ad)(b:k<=Z l)(d:∀j (g:j<k),p (l[j]'(by omega))=true)(f:∀(h:k<Z l),p l[k]=false):Z (l.takeWhile p)=k:=by
 induction l generalizing k with
 |nil=>simp at b;subst b;rfl
 |cons a l ih=>
  match k with
  |0=>
   have:=f (by simp);simp at this;rw[Sf,this];rfl
  |k+1=>
   have c:=d 0 (by omega);simp at c;rw[Sf,c,Az rfl,Bb,ih k (by simpa using b) (fun j g=>by have:=d (j+1) (by omega);simpa using this) (fun h=>by have:=f (by simpa using h);simpa using this)]
theorem zkD (out:A Gn)(r:Gn):Z (fL out r)=Z out+1:=by grind[fL,Gn]
theorem oq (l:A Gn)(r:Gn):zf (l++[r])=fL (zf l) r:=by grind[zf,Gn,fL]
theorem bD (l:A Gn):Z (zf l)=Z l:=by
 unfold zf;have:∀(l out:A Gn),Z (l.foldl fL out)=Z out+Z l:=by
  intro l
  induction l with
  |nil=>intro out;rfl
  |cons a l ih=>intro out;rw[Nu,ih,zkD];simp;omega
 rw[this];simp
variable {P:α->β->Prop}{l:A α}{m:A β}
theorem All2.len (h:All2 P l m):Z l=Z m:=by
 induction h <;> grind[All2]
variable {a:A (A Aj)}
theorem qL {d:A Gn}(h:All2 (RuleVal w) a d)(k j:Ad)(b:k<Z d)(f:j<8:=by omega):a.flatten[k*8+j]?=(a[k]'(by rw[All2.len h];exact b))[j]?:=by
 induction h generalizing k with
 |nil=>simp at b
 | @cons c r cs d hc _ ih=>
  have e:Z c=8:=by obtain⟨i,m,l,g,rfl,_⟩:=hc;rfl
  match k with
  |0=>rw[Ci,Cx (by omega)];simp
  |k+1=>
   rw[Ci,Cl (by omega),e,show(k+1)*8+j-8=k*8+j by omega,ih k (by simpa using b)];simp
theorem uA {e:TypeId}{d:Ad}{a:Addr}{n b:Ad}{f:A Aj}(h:w.ownsRow B e d (X (V a) n b) n f):n<=b/\b<=Bh:=by
 rcases h.2 with ⟨h1,_⟩|⟨g,c,cur,h1,_,_,h2,h3,_⟩
 ·cases h1
 grind
theorem All2.take (h:All2 P l m)(k:Ad):All2 P (l.take k) (m.take k):=by
 induction h generalizing k with
 |nil=>simp;exact .nil
 |cons h _ ih=>
  match k with
  |0=>simp;exact .nil
  |k+1=>exact .cons h (ih k)
theorem All2.drop (h:All2 P l m)(k:Ad):All2 P (l.drop k) (m.drop k):=by
 induction h generalizing k with
 |nil=>simp;exact .nil
 |cons h t ih=>
  match k with
  |0=>exact .cons h t
  |k+1=>exact ih k
theorem All2.append {a:A α}{b:A β}(h:All2 P l m)(c:All2 P a b):All2 P (l++a) (m++b):=by
 induction h <;> grind[All2]
theorem All2.get (h:All2 P l m)(k:Ad)(a:k<Z l)(b:k<Z m):P l[k] m[k]:=by
 induction h generalizing k <;> grind[All2]
theorem fq {a:A Aj}{r:Gn}(h:RuleVal w a r):∀u∈a,u.oneCell'=true:=by
 obtain⟨j,l,k,i,rfl,c,d,f,g⟩:=h;obtain⟨_,_,rfl⟩:=zL c;obtain⟨_,_,rfl⟩:=zL d;obtain⟨_,_,rfl⟩:=zL f;obtain⟨_,_,rfl⟩:=zL g;intro u b;simp at b;rcases b with rfl|rfl|rfl|rfl|rfl|rfl|rfl|rfl <;> rfl
variable {b:A Gn}
theorem dm (h:All2 (RuleVal w) a b):∀u∈a.flatten,u.oneCell'=true:=by
 induction h <;> grind[List.flatten_cons,fq,Gn,All2,RuleVal]
theorem oj {a:A Aj}{r:Gn}(h:RuleVal w a r):Z a=8:=by
 obtain⟨c,f,d,b,rfl,_⟩:=h;rfl
theorem dQ (h:All2 (RuleVal w) a b)(k:Ad):(a.take k).flatten=a.flatten.take (k*8):=by
 induction h generalizing k with
 |nil=>simp
 | @cons c r cs b h _ ih=>
  match k with
  |0=>simp
  |k+1=>
   have e:=oj h;rw[Fk,Ci,Ci,ih k,List.take_append,e,Cc (l:=c) (by omega),show(k+1)*8-8=k*8 by omega]
theorem dP (h:All2 (RuleVal w) a b)(k:Ad):(a.drop k).flatten=a.flatten.drop (k*8):=by
 induction h generalizing k with
 |nil=>simp
 | @cons c r cs b h _ ih=>
  match k with
  |0=>simp
  |k+1=>
   have e:=oj h;rw[In,Ci,ih k,List.drop_append,e,Ga (l:=c) (by omega),show(k+1)*8-8=k*8 by omega];rfl
theorem zc0 (v:Aj)(d:A Gn)(hv:RulesRow w v d)(hn:Z d<=4000):Am prog 53 #[v] w fun e w'=>∃v',e=Af v'/\Ms w.heap.size w w'/\RulesRow w' v' (zf d):=by
 obtain⟨i0,hi,ak,al,am⟩:=Ej zhH;obtain⟨ar,aM,aN⟩:=hv;obtain⟨la,lc,rfl⟩:=zL aM;have n:=J aM;have g:=J aN;go_in;go_wp2
 go_loopw [3,4] (fun v iv wr=>∃(i:Ad) (cs:A (A Aj)),i<=Z d/\iv=O Ai i/\Y (wr.ownsRow w.heap.size 126 8 v i cs.flatten)/\Y (All2 (RuleVal wr) cs (zf (d.take i)))/\Y (Ms w.heap.size w wr)) (fun _ iv _=>Z d-(intOf iv).toNat)
 case atStart=>exact⟨0,[],Ax _,rfl,Bk _ _ _ _,.nil,Vw _ _⟩
 case round=>
  obtain⟨i,cs,ba,rfl,HO,HA,HB⟩:=hrel;have aT:Z (zf (d.take i))=i:=by rw[bD,Cq];omega
  have a9:Z cs=i:=by rw[HA.o.len,aT]
  obtain⟨oa,f,rfl⟩:=zL HO.o;have a8:=HB.o.size
  by_cases q:i<Z d
  ·obtain⟨t,gc,aR,_,aZ⟩:=Bm n.o (by omega)
   simp only[Au] at aR;obtain⟨rfl,_,rfl⟩:=aR;have c1:wr.cell? ⟨t,i*8,S⟩=V (O Ai d[i].number):=by
    have aF:=Ap n.o (i*8) (by omega);rw[uu g.o i q] at aF;rw[HB.o.cell (p:=⟨t,i*8,S⟩) aZ];exact aF
   have HS:Y (zf (d.take (i+1))=fL (zf (d.take i)) d[i]):=by
    show zf _=_;rw[Co q,oq]
   generalize zf (d.take i)=out at*;obtain⟨wo,a7⟩:∃x,x=wr:=⟨wr,rfl⟩;subst a7;go_wp2
   go_loopw [5] (fun kv wz=>∃k:Ad,k<=i/\kv=O Ai k/\Y (∀j (hj:j<k) (ho:j<Z out),out[j].number<d[i].number)/\Y (wo.grownBy wz S)) (fun kv _=>i-(intOf kv).toNat)
   case atStart=>exact⟨0,Ax _,rfl,fun j hj=>absurd hj (by omega),zP _ _⟩
   case round=>
    obtain⟨k,a0,rfl,HK,HZ⟩:=hrel;have d1:wr.cell? ⟨t,i*8,S⟩=V (O Ai d[i].number):=by
     exact HZ.o.cell c1 (by simp)
    have aC:Y _:=zJ HO.o (zT HZ.o (V wr.heap.size)) (fun k hk=>by have h1:=(An HO.o k hk).2;have h2:=HZ.o.size;omega);have aI:Y (All2 (RuleVal wr) cs out):=HA.o.map fun a b hab=>hab.keep HZ.o (za _ _)
    have aK:=J (HB.o.trans ((qh HZ.o).mono a8));have zz:=HZ.o.size
    by_cases hk:k<i
    ·obtain⟨go,aX,aQ,_,_⟩:=Bm aC.o (by omega)
     simp only[Au] at aQ;obtain⟨rfl,_,rfl⟩:=aQ;have bb:(k:Ak)<i:=by omega
     have d2:wr.cell? ⟨go,k*8,S⟩=V (O Ai out[k].number):=by
      have aF:=Ap aC.o (k*8) (by omega);rw[uu aI.o k (by omega)] at aF;exact aF
     by_cases aS:out[k].number<d[i].number
     ·have aW:Y (∀j (hj:j<k+1) (ho:j<Z out),out[j].number<d[i].number):=by
       intro j hj ho
       by_cases e:j=k
       ·subst e;exact aS
       ·exact HK.o j (by omega) ho
      generalize bd:out[k].number=ok at*;generalize be:d[i].number=ri at*;go_wp2_with fail;go_quiet (fail);go_wp2;exact⟨⟨k+1,by omega,by go_num,aW,zD HZ.o (x3 _ _)⟩,by simp[intOf];omega⟩
     ·have aJ:Y (sy d[i] out=k):=ku _ _ _ (by omega) (fun j hj=>Cf (HK.o j hj (by omega))) (fun _=>Ce aS)
      go_wp2_with fail;go_quiet (fail);have ai:Y _:=x3 wr nq;have C:Y _:=zK aC.o ai.o (fun k hk c=>by cases c);have ab:Y (All2 (RuleVal (wr.drewN nq)) cs out):=aI.o.map fun a b hab=>hab.keep ai.o (za _ _)
      have aa:=J (aK.o.trans ((qh ai.o).mono (by omega)));generalize wr.drewN nq=wq at*;obtain⟨vM,vT,vS,vD,m,hM,hT,ae,hD⟩:=All2.get g.o i (by rw[g.o.len];exact q) q;obtain⟨N,Q,rfl⟩:=zL hM;obtain⟨t1,t2,rfl⟩:=zL hT;obtain⟨x1,x2,rfl⟩:=zL ae;obtain⟨F,H,rfl⟩:=zL hD;have ah:Y (RuleVal w [O Ai d[i].number,I (Aa d[i].path),X N d[i].ms.length Q,X t1 d[i].tg.length t2,Av d[i].change,I (Aa d[i].to),X x1 d[i].sets.length x2,X F d[i].drops.length H] d[i]):=⟨_,_,_,_,rfl,hM,hT,ae,hD⟩;have r:=xz aa.o;have zq:=aa.o.size;have H0:Y (wq.cell? ⟨t,i*8,S⟩=V (O Ai d[i].number)):=by
       refine r.cell (a:=⟨t,i*8,S⟩) ?_ (by simp);rw[Ap n.o (i*8) (by omega),show ar.flatten[i*8]?=ar.flatten[i*8+0]? from rfl,qL g.o i 0 q,m];rfl
      have H1:Y (wq.cell? ⟨t,i*8+1,S⟩=V (I (Aa d[i].path))):=by
       refine r.cell (a:=⟨t,i*8+1,S⟩) ?_ (by simp);rw[Ap n.o (i*8+1) (by omega),qL g.o i 1 q,m];rfl
      have H2:Y (wq.cell? ⟨t,i*8+2,S⟩=V (X N d[i].ms.length Q)):=by
       refine r.cell (a:=⟨t,i*8+2,S⟩) ?_ (by simp);rw[Ap n.o (i*8+2) (by omega),qL g.o i 2 q,m];rfl
      have H3:Y (wq.cell? ⟨t,i*8+3,S⟩=V (X t1 d[i].tg.length t2)):=by
       refine r.cell (a:=⟨t,i*8+3,S⟩) ?_ (by simp);rw[Ap n.o (i*8+3) (by omega),qL g.o i 3 q,m];rfl
      have H4:Y (wq.cell? ⟨t,i*8+4,S⟩=V (Av d[i].change)):=by
       refine r.cell (a:=⟨t,i*8+4,S⟩) ?_ (by simp);rw[Ap n.o (i*8+4) (by omega),qL g.o i 4 q,m];rfl
      have H5:Y (wq.cell? ⟨t,i*8+5,S⟩=V (I (Aa d[i].to))):=by
       refine r.cell (a:=⟨t,i*8+5,S⟩) ?_ (by simp);rw[Ap n.o (i*8+5) (by omega),qL g.o i 5 q,m];rfl
      have H6:Y (wq.cell? ⟨t,i*8+6,S⟩=V (X x1 d[i].sets.length x2)):=by
       refine r.cell (a:=⟨t,i*8+6,S⟩) ?_ (by simp);rw[Ap n.o (i*8+6) (by omega),qL g.o i 6 q,m];rfl
      have H7:Y (wq.cell? ⟨t,i*8+7,S⟩=V (X F d[i].drops.length H)):=by
       refine r.cell (a:=⟨t,i*8+7,S⟩) ?_ (by simp);rw[Ap n.o (i*8+7) (by omega),qL g.o i 7 q,m];rfl
      have aA:Y (RuleVal wq [O Ai d[i].number,I (Aa d[i].path),X N d[i].ms.length Q,X t1 d[i].tg.length t2,Av d[i].change,I (Aa d[i].to),X x1 d[i].sets.length x2,X F d[i].drops.length H] d[i]):=ah.o.keep (xz aa.o) (za _ _);have HW:Y (∀j u,(cs.flatten)[j]?=V u->wq.cell? ⟨go,j,S⟩=V u):=by
       intro j u B;have ad:=(Bo.1 B).1;rw[C.o.1] at ad;rw[Ap C.o j ad];exact B
      have au:=uA C.o;unfold Bh at au;obtain⟨aO,aP⟩:=au;have an:=J (C.o.1);have aB:=J (dm ab.o);go_wp2_with (at_builtin;refine Cu _ rfl _ _ 117 rfl (wq.heap.size) 126 i0 _ 8 144 underlying117 hi ak al am rfl (by decide) _ _ _ rfl (Bk _ _ _ _) ⟨go,0,S⟩ k f (cs.flatten.take (k*8)) rfl ?a1 ?a2 ?a3 ?a4 ?a5 ?a6 ?_)
      case a1=>rw[Cq,an.o];omega
      case a2=>
       intro j u B;rw[uk];rw[Gi] at B
       split at B
       ·exact HW.o j u B
       ·cases B
      case a3=>exact fun u B=>aB.o u (Oi B)
      case a4=>unfold Bh;omega
      case a5=>omega
      case a6=>exact Aq _
      intro v1 w1 E s _;obtain⟨aG,aH,rfl⟩:=zL E;have g1:wq.grownBy w1 S:=s;have af:=J E;have aD:Y _:=zK C.o s (fun k hk c=>by cases c);have z1:=s.size;have d0:=g1.cell H0.o (by simp);have d1:=g1.cell H1.o (by simp);have d2:=g1.cell H2.o (by simp);have d3:=g1.cell H3.o (by simp);have d4:=g1.cell H4.o (by simp);have d5:=g1.cell H5.o (by simp);have d6:=g1.cell H6.o (by simp);have d7:=g1.cell H7.o (by simp);have ao:=J g1;go_wp2_with (at_builtin;refine Ei _ rfl _ _ 117 rfl (wq.heap.size) 126 i0 _ 8 144 underlying117 hi ak al am rfl (by decide) _ _ _ rfl (Ao af.o _) ⟨w1.heap.size,0,S⟩ 1 1 [O Ai d[i].number,I (Aa d[i].path),X N d[i].ms.length Q,X t1 d[i].tg.length t2,Av d[i].change,I (Aa d[i].to),X x1 d[i].sets.length x2,X F d[i].drops.length H] rfl rfl ?c1 ?c2 (by decide) ?c3 ?c4 ?c5 (w1.heap.size+1) (by simp) ?_)
      case c1=>exact zZ _ #[_,_,_,_,_,_,_,_] _ _
      case c2=>exact fq ah.o
      case c3=>unfold Bh;omega
      case c4=>omega
      case c5=>simp;omega
      intro g2 aq w2 z o _ _;have ag:=J z;have aE:Y _:=zK (Ao aD.o _) o (fun k hk c=>by have h1:=(An C.o k hk).2;have h2:=(An af.o k c).1;omega);have z2:w1.heap.size+1<=w2.heap.size:=by have h:=o.size;simpa using h
      have ap:=J o;have aL:Y (∀j u,(cs.flatten)[j]?=V u->w2.cell? ⟨go,j,S⟩=V u):=by
       intro j u B;have ad:=(Bo.1 B).1;rw[C.o.1] at ad;rw[Ap aE.o j ad];exact B
      go_wp2_with (at_builtin;refine Cu _ rfl _ _ 117 rfl (wq.heap.size) 126 i0 _ 8 144 underlying117 hi ak al am rfl (by decide) _ _ _ rfl ag.o ⟨go,k*8,S⟩ (i-k) (f-k) (cs.flatten.drop (k*8)) rfl ?b1 ?b2 ?b3 ?b4 ?b5 ?b6 ?_)
      case b1=>rw[Cy,an.o];omega
      case b2=>
       intro j u B;rw[Vq] at B;have:=aL.o (k*8+j) u B;unfold Addr.add
       split
       ·rename_i h0;subst h0;exact this
       ·exact this
      case b3=>exact fun u B=>aB.o u (List.mem_of_mem_drop B)
      case b4=>unfold Bh;omega
      case b5=>omega
      case b6=>omega
      intro v3 w3 av y _;have gA:=Ac w1 (Ae #[O Ai d[i].number,I (Aa d[i].path),X N d[i].ms.length Q,X t1 d[i].tg.length t2,Av d[i].change,I (Aa d[i].to),X x1 d[i].sets.length x2,X F d[i].drops.length H] 126) S;have aw:Safe (w1.alloc (Ae #[O Ai d[i].number,I (Aa d[i].path),X N d[i].ms.length Q,X t1 d[i].tg.length t2,Av d[i].change,I (Aa d[i].to),X x1 d[i].sets.length x2,X F d[i].drops.length H] 126)) (X aG k aH).ownBlock leaves:=xk (Ao af.o _);have ax:Safe w2 (X (V ⟨g2,0,S⟩) (k+1) aq).ownBlock leaves:=xk ag.o;have kp:∀a b,RuleVal wq a b->RuleVal w3 a b:=fun a b hab=>(((hab.keep ao.o (za _ _)).keep gA (za _ _)).keep ap.o aw).keep y ax
      have ay:Y (All2 (RuleVal w3) (cs.take k++([[O Ai d[i].number,I (Aa d[i].path),X N d[i].ms.length Q,X t1 d[i].tg.length t2,Av d[i].change,I (Aa d[i].to),X x1 d[i].sets.length x2,X F d[i].drops.length H]]:A (A Aj))++cs.drop k) (zf (d.take (i+1)))):=by
       rw[HS.o];unfold fL;rw[aJ.o];exact((ab.o.take k).append (.cons aA.o .nil) |>.append (ab.o.drop k)).map kp
      have aj:Y (w3.ownsRow w.heap.size 126 8 v3 (i+1) (cs.take k++([[O Ai d[i].number,I (Aa d[i].path),X N d[i].ms.length Q,X t1 d[i].tg.length t2,Av d[i].change,I (Aa d[i].to),X x1 d[i].sets.length x2,X F d[i].drops.length H]]:A (A Aj))++cs.drop k).flatten):=by
       rw[Eg,Eg,dQ ab.o,dP ab.o,show i+1=k+1+(i-k) by omega,show([[O Ai d[i].number,I (Aa d[i].path),X N d[i].ms.length Q,X t1 d[i].tg.length t2,Av d[i].change,I (Aa d[i].to),X x1 d[i].sets.length x2,X F d[i].drops.length H]]:A (A Aj)).flatten=[O Ai d[i].number,I (Aa d[i].path),X N d[i].ms.length Q,X t1 d[i].tg.length t2,Av d[i].change,I (Aa d[i].to),X x1 d[i].sets.length x2,X F d[i].drops.length H] from rfl,Bl];exact zo av zq
      have az:Y (Ms w.heap.size w w3):=by
       refine aa.o.trans ?_;have b1:=(qh ao.o).mono (show w.heap.size<=wq.heap.size by omega);have b2:=(b1.alloc (by omega) (Ae #[O Ai d[i].number,I (Aa d[i].path),X N d[i].ms.length Q,X t1 d[i].tg.length t2,Av d[i].change,I (Aa d[i].to),X x1 d[i].sets.length x2,X F d[i].drops.length H] 126)).grown ap.o (by simp;omega) (fun k hk=>by have:=(An af.o k hk).1;omega);exact b2.grown y (by omega) (fun k hk=>by have:=(An ag.o k hk).1;omega)
      obtain⟨aU,aV,rfl⟩:=zL aj.o;go_wp2
      go_roundw
      case rel=>exact⟨i+1,_,by omega,by go_num,aj,ay,az⟩
      case measure=>simp[intOf];omega
    ·have aJ:Y (sy d[i] out=k):=ku _ _ _ (by omega) (fun j hj=>Cf (HK.o j hj (by omega))) (fun h=>by omega)
     obtain rfl:k=i:=by omega
     have aY:=aC.o.2;rcases aY with ⟨hnil,hi0⟩|⟨go,aX,cur,hsl,_,_,_⟩
     ·simp only[Au] at hnil
      obtain⟨rfl,rfl,rfl⟩:=hnil;go_wp2_with fail;go_quiet (fail);have ai:Y _:=x3 wr nq;have ab:Y (All2 (RuleVal (wr.drewN nq)) cs out):=aI.o.map fun a b hab=>hab.keep ai.o (za _ _)
      have aa:=J (aK.o.trans ((qh ai.o).mono (by omega)));generalize wr.drewN nq=wq at*;obtain⟨vM,vT,vS,vD,m,hM,hT,ae,hD⟩:=All2.get g.o 0 (by rw[g.o.len];exact q) q;obtain⟨N,Q,rfl⟩:=zL hM;obtain⟨t1,t2,rfl⟩:=zL hT;obtain⟨x1,x2,rfl⟩:=zL ae;obtain⟨F,H,rfl⟩:=zL hD;have ah:Y (RuleVal w [O Ai d[0].number,I (Aa d[0].path),X N d[0].ms.length Q,X t1 d[0].tg.length t2,Av d[0].change,I (Aa d[0].to),X x1 d[0].sets.length x2,X F d[0].drops.length H] d[0]):=⟨_,_,_,_,rfl,hM,hT,ae,hD⟩;have r:=xz aa.o;have zq:=aa.o.size;have H0:Y (wq.cell? ⟨t,0*8,S⟩=V (O Ai d[0].number)):=by
       refine r.cell (a:=⟨t,0*8,S⟩) ?_ (by simp);rw[Ap n.o (0*8) (by omega),show ar.flatten[0*8]?=ar.flatten[0*8+0]? from rfl,qL g.o 0 0 q,m];rfl
      have H1:Y (wq.cell? ⟨t,0*8+1,S⟩=V (I (Aa d[0].path))):=by
       refine r.cell (a:=⟨t,0*8+1,S⟩) ?_ (by simp);rw[Ap n.o (0*8+1) (by omega),qL g.o 0 1 q,m];rfl
      have H2:Y (wq.cell? ⟨t,0*8+2,S⟩=V (X N d[0].ms.length Q)):=by
       refine r.cell (a:=⟨t,0*8+2,S⟩) ?_ (by simp);rw[Ap n.o (0*8+2) (by omega),qL g.o 0 2 q,m];rfl
      have H3:Y (wq.cell? ⟨t,0*8+3,S⟩=V (X t1 d[0].tg.length t2)):=by
       refine r.cell (a:=⟨t,0*8+3,S⟩) ?_ (by simp);rw[Ap n.o (0*8+3) (by omega),qL g.o 0 3 q,m];rfl
      have H4:Y (wq.cell? ⟨t,0*8+4,S⟩=V (Av d[0].change)):=by
       refine r.cell (a:=⟨t,0*8+4,S⟩) ?_ (by simp);rw[Ap n.o (0*8+4) (by omega),qL g.o 0 4 q,m];rfl
      have H5:Y (wq.cell? ⟨t,0*8+5,S⟩=V (I (Aa d[0].to))):=by
       refine r.cell (a:=⟨t,0*8+5,S⟩) ?_ (by simp);rw[Ap n.o (0*8+5) (by omega),qL g.o 0 5 q,m];rfl
      have H6:Y (wq.cell? ⟨t,0*8+6,S⟩=V (X x1 d[0].sets.length x2)):=by
       refine r.cell (a:=⟨t,0*8+6,S⟩) ?_ (by simp);rw[Ap n.o (0*8+6) (by omega),qL g.o 0 6 q,m];rfl
      have H7:Y (wq.cell? ⟨t,0*8+7,S⟩=V (X F d[0].drops.length H)):=by
       refine r.cell (a:=⟨t,0*8+7,S⟩) ?_ (by simp);rw[Ap n.o (0*8+7) (by omega),qL g.o 0 7 q,m];rfl
      have aA:Y (RuleVal wq [O Ai d[0].number,I (Aa d[0].path),X N d[0].ms.length Q,X t1 d[0].tg.length t2,Av d[0].change,I (Aa d[0].to),X x1 d[0].sets.length x2,X F d[0].drops.length H] d[0]):=ah.o.keep (xz aa.o) (za _ _);have d0:=H0.o;have d1:=H1.o;have d2:=H2.o;have d3:=H3.o;have d4:=H4.o;have d5:=H5.o;have d6:=H6.o;have d7:=H7.o;go_wp2_with (first
       |(at_builtin;refine Qa rfl _ _ 117 rfl (wq.heap.size) 126 i0 8 underlying117 hi _ _ _ rfl (Bk _ _ _ _) rfl ?_)
       |(at_builtin;refine Ei _ rfl _ _ 117 rfl (wq.heap.size) 126 i0 _ 8 144 underlying117 hi ak al am rfl (by decide) _ _ _ rfl (Bk _ _ _ _) ⟨wq.heap.size,0,S⟩ 1 1 [O Ai d[0].number,I (Aa d[0].path),X N d[0].ms.length Q,X t1 d[0].tg.length t2,Av d[0].change,I (Aa d[0].to),X x1 d[0].sets.length x2,X F d[0].drops.length H] rfl rfl ?c1 ?c2 (by decide) ?c3 ?c4 ?c5 (wq.heap.size+1) (by simp) ?_))
      case c1=>exact zZ _ #[_,_,_,_,_,_,_,_] _ _
      case c2=>exact fq ah.o
      case c3=>unfold Bh;omega
      case c4=>omega
      case c5=>simp
      intro g2 aq w2 z o _ _;have ag:Y (w2.ownsRow wq.heap.size 126 8 (X (V ⟨g2,0,S⟩) 1 aq) 1 [O Ai d[0].number,I (Aa d[0].path),X N d[0].ms.length Q,X t1 d[0].tg.length t2,Av d[0].change,I (Aa d[0].to),X x1 d[0].sets.length x2,X F d[0].drops.length H]):=z;have gA:=Ac wq (Ae #[O Ai d[0].number,I (Aa d[0].path),X N d[0].ms.length Q,X t1 d[0].tg.length t2,Av d[0].change,I (Aa d[0].to),X x1 d[0].sets.length x2,X F d[0].drops.length H] 126) S;have ay:Y (All2 (RuleVal w2) ([[O Ai d[0].number,I (Aa d[0].path),X N d[0].ms.length Q,X t1 d[0].tg.length t2,Av d[0].change,I (Aa d[0].to),X x1 d[0].sets.length x2,X F d[0].drops.length H]]:A (A Aj)) (zf (d.take (0+1)))):=by
       rw[HS.o];unfold fL;rw[Ep.1 aT];exact .cons ((aA.o.keep gA (za _ _)).keep o (za _ _)) .nil
      have aj:Y (w2.ownsRow w.heap.size 126 8 (X (V ⟨g2,0,S⟩) 1 aq) (0+1) ([[O Ai d[0].number,I (Aa d[0].path),X N d[0].ms.length Q,X t1 d[0].tg.length t2,Av d[0].change,I (Aa d[0].to),X x1 d[0].sets.length x2,X F d[0].drops.length H]]:A (A Aj)).flatten):=zo z zq;have az:Y (Ms w.heap.size w w2):=aa.o.trans (((Vw _ _).alloc zq _).grown o (by simp;omega) (fun k hk=>by cases hk));go_wp2_with (at_builtin;refine Qa rfl _ _ 117 rfl (wq.heap.size) 126 i0 8 underlying117 hi _ _ _ rfl ag.o rfl ?_)
      go_roundw
      case rel=>exact⟨0+1,_,by omega,by go_num,aj,ay,az⟩
      case measure=>simp[intOf];omega
     ·simp only[Au] at hsl
      obtain⟨rfl,_,rfl⟩:=hsl;go_wp2_with fail;go_quiet (fail);have ai:Y _:=x3 wr nq;have C:Y _:=zK aC.o ai.o (fun k hk c=>by cases c);have ab:Y (All2 (RuleVal (wr.drewN nq)) cs out):=aI.o.map fun a b hab=>hab.keep ai.o (za _ _)
      have aa:=J (aK.o.trans ((qh ai.o).mono (by omega)));generalize wr.drewN nq=wq at*
      by_cases bc:k<f
      ·obtain⟨vM,vT,vS,vD,m,hM,hT,ae,hD⟩:=All2.get g.o k (by rw[g.o.len];exact q) q
       obtain⟨N,Q,rfl⟩:=zL hM;obtain⟨t1,t2,rfl⟩:=zL hT;obtain⟨x1,x2,rfl⟩:=zL ae;obtain⟨F,H,rfl⟩:=zL hD;have ah:Y (RuleVal w [O Ai d[k].number,I (Aa d[k].path),X N d[k].ms.length Q,X t1 d[k].tg.length t2,Av d[k].change,I (Aa d[k].to),X x1 d[k].sets.length x2,X F d[k].drops.length H] d[k]):=⟨_,_,_,_,rfl,hM,hT,ae,hD⟩;have r:=xz aa.o;have zq:=aa.o.size;have H0:Y (wq.cell? ⟨t,k*8,S⟩=V (O Ai d[k].number)):=by
        refine r.cell (a:=⟨t,k*8,S⟩) ?_ (by simp);rw[Ap n.o (k*8) (by omega),show ar.flatten[k*8]?=ar.flatten[k*8+0]? from rfl,qL g.o k 0 q,m];rfl
       have H1:Y (wq.cell? ⟨t,k*8+1,S⟩=V (I (Aa d[k].path))):=by
        refine r.cell (a:=⟨t,k*8+1,S⟩) ?_ (by simp);rw[Ap n.o (k*8+1) (by omega),qL g.o k 1 q,m];rfl
       have H2:Y (wq.cell? ⟨t,k*8+2,S⟩=V (X N d[k].ms.length Q)):=by
        refine r.cell (a:=⟨t,k*8+2,S⟩) ?_ (by simp);rw[Ap n.o (k*8+2) (by omega),qL g.o k 2 q,m];rfl
       have H3:Y (wq.cell? ⟨t,k*8+3,S⟩=V (X t1 d[k].tg.length t2)):=by
        refine r.cell (a:=⟨t,k*8+3,S⟩) ?_ (by simp);rw[Ap n.o (k*8+3) (by omega),qL g.o k 3 q,m];rfl
       have H4:Y (wq.cell? ⟨t,k*8+4,S⟩=V (Av d[k].change)):=by
        refine r.cell (a:=⟨t,k*8+4,S⟩) ?_ (by simp);rw[Ap n.o (k*8+4) (by omega),qL g.o k 4 q,m];rfl
       have H5:Y (wq.cell? ⟨t,k*8+5,S⟩=V (I (Aa d[k].to))):=by
        refine r.cell (a:=⟨t,k*8+5,S⟩) ?_ (by simp);rw[Ap n.o (k*8+5) (by omega),qL g.o k 5 q,m];rfl
       have H6:Y (wq.cell? ⟨t,k*8+6,S⟩=V (X x1 d[k].sets.length x2)):=by
        refine r.cell (a:=⟨t,k*8+6,S⟩) ?_ (by simp);rw[Ap n.o (k*8+6) (by omega),qL g.o k 6 q,m];rfl
       have H7:Y (wq.cell? ⟨t,k*8+7,S⟩=V (X F d[k].drops.length H)):=by
        refine r.cell (a:=⟨t,k*8+7,S⟩) ?_ (by simp);rw[Ap n.o (k*8+7) (by omega),qL g.o k 7 q,m];rfl
       have aA:Y (RuleVal wq [O Ai d[k].number,I (Aa d[k].path),X N d[k].ms.length Q,X t1 d[k].tg.length t2,Av d[k].change,I (Aa d[k].to),X x1 d[k].sets.length x2,X F d[k].drops.length H] d[k]):=ah.o.keep (xz aa.o) (za _ _);have HW:Y (∀j u,(cs.flatten)[j]?=V u->wq.cell? ⟨go,j,S⟩=V u):=by
        intro j u B;have ad:=(Bo.1 B).1;rw[C.o.1] at ad;rw[Ap C.o j ad];exact B
       have au:=uA C.o;unfold Bh at au;obtain⟨aO,aP⟩:=au;have an:=J (C.o.1);have aB:=J (dm ab.o);go_wp2_with (at_builtin;refine Cu _ rfl _ _ 117 rfl (wq.heap.size) 126 i0 _ 8 144 underlying117 hi ak al am rfl (by decide) _ _ _ rfl (Bk _ _ _ _) ⟨go,0,S⟩ k f (cs.flatten.take (k*8)) rfl ?a1 ?a2 ?a3 ?a4 ?a5 ?a6 ?_)
       case a1=>rw[Cq,an.o];omega
       case a2=>
        intro j u B;rw[uk];rw[Gi] at B
        split at B
        ·exact HW.o j u B
        ·cases B
       case a3=>exact fun u B=>aB.o u (Oi B)
       case a4=>unfold Bh;omega
       case a5=>omega
       case a6=>exact Aq _
       intro v1 w1 E s _;obtain⟨aG,aH,rfl⟩:=zL E;have g1:wq.grownBy w1 S:=s;have af:=J E;have aD:Y _:=zK C.o s (fun k hk c=>by cases c);have z1:=s.size;have d0:=g1.cell H0.o (by simp);have d1:=g1.cell H1.o (by simp);have d2:=g1.cell H2.o (by simp);have d3:=g1.cell H3.o (by simp);have d4:=g1.cell H4.o (by simp);have d5:=g1.cell H5.o (by simp);have d6:=g1.cell H6.o (by simp);have d7:=g1.cell H7.o (by simp);have ao:=J g1;go_wp2_with (at_builtin;refine Ei _ rfl _ _ 117 rfl (wq.heap.size) 126 i0 _ 8 144 underlying117 hi ak al am rfl (by decide) _ _ _ rfl (Ao af.o _) ⟨w1.heap.size,0,S⟩ 1 1 [O Ai d[k].number,I (Aa d[k].path),X N d[k].ms.length Q,X t1 d[k].tg.length t2,Av d[k].change,I (Aa d[k].to),X x1 d[k].sets.length x2,X F d[k].drops.length H] rfl rfl ?c1 ?c2 (by decide) ?c3 ?c4 ?c5 (w1.heap.size+1) (by simp) ?_)
       case c1=>exact zZ _ #[_,_,_,_,_,_,_,_] _ _
       case c2=>exact fq ah.o
       case c3=>unfold Bh;omega
       case c4=>omega
       case c5=>simp;omega
       intro g2 aq w2 z o _ _;have ag:=J z;have aE:Y _:=zK (Ao aD.o _) o (fun k hk c=>by have h1:=(An C.o k hk).2;have h2:=(An af.o k c).1;omega);have z2:w1.heap.size+1<=w2.heap.size:=by have h:=o.size;simpa using h
       have ap:=J o;have aL:Y (∀j u,(cs.flatten)[j]?=V u->w2.cell? ⟨go,j,S⟩=V u):=by
        intro j u B;have ad:=(Bo.1 B).1;rw[C.o.1] at ad;rw[Ap aE.o j ad];exact B
       go_wp2_with (at_builtin;refine Cu _ rfl _ _ 117 rfl (wq.heap.size) 126 i0 _ 8 144 underlying117 hi ak al am rfl (by decide) _ _ _ rfl ag.o ⟨go,k*8,S⟩ 0 (f-k) [] rfl ?b1 ?b2 ?b3 ?b4 ?b5 ?b6 ?_)
       case b1=>rfl
       case b2=>intro j u B;simp at B
       case b3=>exact fun u B=>by simp at B
       case b4=>unfold Bh;omega
       case b5=>omega
       case b6=>omega
       intro v3 w3 av y _;have gA:=Ac w1 (Ae #[O Ai d[k].number,I (Aa d[k].path),X N d[k].ms.length Q,X t1 d[k].tg.length t2,Av d[k].change,I (Aa d[k].to),X x1 d[k].sets.length x2,X F d[k].drops.length H] 126) S;have aw:Safe (w1.alloc (Ae #[O Ai d[k].number,I (Aa d[k].path),X N d[k].ms.length Q,X t1 d[k].tg.length t2,Av d[k].change,I (Aa d[k].to),X x1 d[k].sets.length x2,X F d[k].drops.length H] 126)) (X aG k aH).ownBlock leaves:=xk (Ao af.o _);have ax:Safe w2 (X (V ⟨g2,0,S⟩) (k+1) aq).ownBlock leaves:=xk ag.o;have kp:∀a b,RuleVal wq a b->RuleVal w3 a b:=fun a b hab=>(((hab.keep ao.o (za _ _)).keep gA (za _ _)).keep ap.o aw).keep y ax
       have ay:Y (All2 (RuleVal w3) (cs.take k++([[O Ai d[k].number,I (Aa d[k].path),X N d[k].ms.length Q,X t1 d[k].tg.length t2,Av d[k].change,I (Aa d[k].to),X x1 d[k].sets.length x2,X F d[k].drops.length H]]:A (A Aj))++cs.drop k) (zf (d.take (k+1)))):=by
        rw[HS.o];unfold fL;rw[aJ.o];exact((ab.o.take k).append (.cons aA.o .nil) |>.append (ab.o.drop k)).map kp
       have aj:Y (w3.ownsRow w.heap.size 126 8 v3 (k+1) (cs.take k++([[O Ai d[k].number,I (Aa d[k].path),X N d[k].ms.length Q,X t1 d[k].tg.length t2,Av d[k].change,I (Aa d[k].to),X x1 d[k].sets.length x2,X F d[k].drops.length H]]:A (A Aj))++cs.drop k).flatten):=by
        rw[Eg,Eg,dQ ab.o,dP ab.o,show k+1=k+1+0 by omega,show([[O Ai d[k].number,I (Aa d[k].path),X N d[k].ms.length Q,X t1 d[k].tg.length t2,Av d[k].change,I (Aa d[k].to),X x1 d[k].sets.length x2,X F d[k].drops.length H]]:A (A Aj)).flatten=[O Ai d[k].number,I (Aa d[k].path),X N d[k].ms.length Q,X t1 d[k].tg.length t2,Av d[k].change,I (Aa d[k].to),X x1 d[k].sets.length x2,X F d[k].drops.length H] from rfl,Ga (l:=cs.flatten) (by rw[an.o];omega),Bl];exact zo av zq
       have az:Y (Ms w.heap.size w w3):=by
        refine aa.o.trans ?_;have b1:=(qh ao.o).mono (show w.heap.size<=wq.heap.size by omega);have b2:=(b1.alloc (by omega) (Ae #[O Ai d[k].number,I (Aa d[k].path),X N d[k].ms.length Q,X t1 d[k].tg.length t2,Av d[k].change,I (Aa d[k].to),X x1 d[k].sets.length x2,X F d[k].drops.length H] 126)).grown ap.o (by simp;omega) (fun k hk=>by have:=(An af.o k hk).1;omega);exact b2.grown y (by omega) (fun k hk=>by have:=(An ag.o k hk).1;omega)
       obtain⟨aU,aV,rfl⟩:=zL aj.o;go_wp2
       go_roundw
       case rel=>exact⟨k+1,_,by omega,by go_num,aj,ay,az⟩
       case measure=>simp[intOf];omega
      ·obtain rfl:f=k:=by have h:=(uA C.o).1;omega
       obtain⟨vM,vT,vS,vD,m,hM,hT,ae,hD⟩:=All2.get g.o f (by rw[g.o.len];exact q) q;obtain⟨N,Q,rfl⟩:=zL hM;obtain⟨t1,t2,rfl⟩:=zL hT;obtain⟨x1,x2,rfl⟩:=zL ae;obtain⟨F,H,rfl⟩:=zL hD;have ah:Y (RuleVal w [O Ai d[f].number,I (Aa d[f].path),X N d[f].ms.length Q,X t1 d[f].tg.length t2,Av d[f].change,I (Aa d[f].to),X x1 d[f].sets.length x2,X F d[f].drops.length H] d[f]):=⟨_,_,_,_,rfl,hM,hT,ae,hD⟩;have r:=xz aa.o;have zq:=aa.o.size;have H0:Y (wq.cell? ⟨t,f*8,S⟩=V (O Ai d[f].number)):=by
        refine r.cell (a:=⟨t,f*8,S⟩) ?_ (by simp);rw[Ap n.o (f*8) (by omega),show ar.flatten[f*8]?=ar.flatten[f*8+0]? from rfl,qL g.o f 0 q,m];rfl
       have H1:Y (wq.cell? ⟨t,f*8+1,S⟩=V (I (Aa d[f].path))):=by
        refine r.cell (a:=⟨t,f*8+1,S⟩) ?_ (by simp);rw[Ap n.o (f*8+1) (by omega),qL g.o f 1 q,m];rfl
       have H2:Y (wq.cell? ⟨t,f*8+2,S⟩=V (X N d[f].ms.length Q)):=by
        refine r.cell (a:=⟨t,f*8+2,S⟩) ?_ (by simp);rw[Ap n.o (f*8+2) (by omega),qL g.o f 2 q,m];rfl
       have H3:Y (wq.cell? ⟨t,f*8+3,S⟩=V (X t1 d[f].tg.length t2)):=by
        refine r.cell (a:=⟨t,f*8+3,S⟩) ?_ (by simp);rw[Ap n.o (f*8+3) (by omega),qL g.o f 3 q,m];rfl
       have H4:Y (wq.cell? ⟨t,f*8+4,S⟩=V (Av d[f].change)):=by
        refine r.cell (a:=⟨t,f*8+4,S⟩) ?_ (by simp);rw[Ap n.o (f*8+4) (by omega),qL g.o f 4 q,m];rfl
       have H5:Y (wq.cell? ⟨t,f*8+5,S⟩=V (I (Aa d[f].to))):=by
        refine r.cell (a:=⟨t,f*8+5,S⟩) ?_ (by simp);rw[Ap n.o (f*8+5) (by omega),qL g.o f 5 q,m];rfl
       have H6:Y (wq.cell? ⟨t,f*8+6,S⟩=V (X x1 d[f].sets.length x2)):=by
        refine r.cell (a:=⟨t,f*8+6,S⟩) ?_ (by simp);rw[Ap n.o (f*8+6) (by omega),qL g.o f 6 q,m];rfl
       have H7:Y (wq.cell? ⟨t,f*8+7,S⟩=V (X F d[f].drops.length H)):=by
        refine r.cell (a:=⟨t,f*8+7,S⟩) ?_ (by simp);rw[Ap n.o (f*8+7) (by omega),qL g.o f 7 q,m];rfl
       have aA:Y (RuleVal wq [O Ai d[f].number,I (Aa d[f].path),X N d[f].ms.length Q,X t1 d[f].tg.length t2,Av d[f].change,I (Aa d[f].to),X x1 d[f].sets.length x2,X F d[f].drops.length H] d[f]):=ah.o.keep (xz aa.o) (za _ _);have HW:Y (∀j u,(cs.flatten)[j]?=V u->wq.cell? ⟨go,j,S⟩=V u):=by
        intro j u B;have ad:=(Bo.1 B).1;rw[C.o.1] at ad;rw[Ap C.o j ad];exact B
       have au:=uA C.o;unfold Bh at au;obtain⟨aO,aP⟩:=au;have an:=J (C.o.1);have aB:=J (dm ab.o);go_wp2_with (at_builtin;refine Cu _ rfl _ _ 117 rfl (wq.heap.size) 126 i0 _ 8 144 underlying117 hi ak al am rfl (by decide) _ _ _ rfl (Bk _ _ _ _) ⟨go,0,S⟩ f f (cs.flatten.take (f*8)) rfl ?a1 ?a2 ?a3 ?a4 ?a5 ?a6 ?_)
       case a1=>rw[Cq,an.o];omega
       case a2=>
        intro j u B;rw[uk];rw[Gi] at B
        split at B
        ·exact HW.o j u B
        ·cases B
       case a3=>exact fun u B=>aB.o u (Oi B)
       case a4=>unfold Bh;omega
       case a5=>omega
       case a6=>exact Aq _
       intro v1 w1 E s _;obtain⟨aG,aH,rfl⟩:=zL E;have g1:wq.grownBy w1 S:=s;have af:=J E;have aD:Y _:=zK C.o s (fun f hk c=>by cases c);have z1:=s.size;have d0:=g1.cell H0.o (by simp);have d1:=g1.cell H1.o (by simp);have d2:=g1.cell H2.o (by simp);have d3:=g1.cell H3.o (by simp);have d4:=g1.cell H4.o (by simp);have d5:=g1.cell H5.o (by simp);have d6:=g1.cell H6.o (by simp);have d7:=g1.cell H7.o (by simp);have ao:=J g1;go_wp2_with (at_builtin;refine Ei _ rfl _ _ 117 rfl (wq.heap.size) 126 i0 _ 8 144 underlying117 hi ak al am rfl (by decide) _ _ _ rfl (Ao af.o _) ⟨w1.heap.size,0,S⟩ 1 1 [O Ai d[f].number,I (Aa d[f].path),X N d[f].ms.length Q,X t1 d[f].tg.length t2,Av d[f].change,I (Aa d[f].to),X x1 d[f].sets.length x2,X F d[f].drops.length H] rfl rfl ?c1 ?c2 (by decide) ?c3 ?c4 ?c5 (w1.heap.size+1) (by simp) ?_)
       case c1=>exact zZ _ #[_,_,_,_,_,_,_,_] _ _
       case c2=>exact fq ah.o
       case c3=>unfold Bh;omega
       case c4=>omega
       case c5=>simp;omega
       intro g2 aq w2 z o _ _;have ag:=J z;have aE:Y _:=zK (Ao aD.o _) o (fun f hk c=>by have h1:=(An C.o f hk).2;have h2:=(An af.o f c).1;omega);have z2:w1.heap.size+1<=w2.heap.size:=by have h:=o.size;simpa using h
       have ap:=J o;have aL:Y (∀j u,(cs.flatten)[j]?=V u->w2.cell? ⟨go,j,S⟩=V u):=by
        intro j u B;have ad:=(Bo.1 B).1;rw[C.o.1] at ad;rw[Ap aE.o j ad];exact B
       go_wp2_with (at_builtin;refine Cu _ rfl _ _ 117 rfl (wq.heap.size) 126 i0 _ 8 144 underlying117 hi ak al am rfl (by decide) _ _ _ rfl ag.o ⟨go,0,S⟩ 0 0 [] rfl ?b1 ?b2 ?b3 ?b4 ?b5 ?b6 ?_)
       case b1=>rfl
       case b2=>intro j u B;simp at B
       case b3=>exact fun u B=>by simp at B
       case b4=>unfold Bh;omega
       case b5=>omega
       case b6=>omega
       intro v3 w3 av y _;have gA:=Ac w1 (Ae #[O Ai d[f].number,I (Aa d[f].path),X N d[f].ms.length Q,X t1 d[f].tg.length t2,Av d[f].change,I (Aa d[f].to),X x1 d[f].sets.length x2,X F d[f].drops.length H] 126) S;have aw:Safe (w1.alloc (Ae #[O Ai d[f].number,I (Aa d[f].path),X N d[f].ms.length Q,X t1 d[f].tg.length t2,Av d[f].change,I (Aa d[f].to),X x1 d[f].sets.length x2,X F d[f].drops.length H] 126)) (X aG f aH).ownBlock leaves:=xk (Ao af.o _);have ax:Safe w2 (X (V ⟨g2,0,S⟩) (f+1) aq).ownBlock leaves:=xk ag.o;have kp:∀a b,RuleVal wq a b->RuleVal w3 a b:=fun a b hab=>(((hab.keep ao.o (za _ _)).keep gA (za _ _)).keep ap.o aw).keep y ax
       have ay:Y (All2 (RuleVal w3) (cs.take f++([[O Ai d[f].number,I (Aa d[f].path),X N d[f].ms.length Q,X t1 d[f].tg.length t2,Av d[f].change,I (Aa d[f].to),X x1 d[f].sets.length x2,X F d[f].drops.length H]]:A (A Aj))++cs.drop f) (zf (d.take (f+1)))):=by
        rw[HS.o];unfold fL;rw[aJ.o];exact((ab.o.take f).append (.cons aA.o .nil) |>.append (ab.o.drop f)).map kp
       have aj:Y (w3.ownsRow w.heap.size 126 8 v3 (f+1) (cs.take f++([[O Ai d[f].number,I (Aa d[f].path),X N d[f].ms.length Q,X t1 d[f].tg.length t2,Av d[f].change,I (Aa d[f].to),X x1 d[f].sets.length x2,X F d[f].drops.length H]]:A (A Aj))++cs.drop f).flatten):=by
        rw[Eg,Eg,dQ ab.o,dP ab.o,show f+1=f+1+0 by omega,show([[O Ai d[f].number,I (Aa d[f].path),X N d[f].ms.length Q,X t1 d[f].tg.length t2,Av d[f].change,I (Aa d[f].to),X x1 d[f].sets.length x2,X F d[f].drops.length H]]:A (A Aj)).flatten=[O Ai d[f].number,I (Aa d[f].path),X N d[f].ms.length Q,X t1 d[f].tg.length t2,Av d[f].change,I (Aa d[f].to),X x1 d[f].sets.length x2,X F d[f].drops.length H] from rfl,Ga (l:=cs.flatten) (by rw[an.o];omega),Bl];exact zo av zq
       have az:Y (Ms w.heap.size w w3):=by
        refine aa.o.trans ?_;have b1:=(qh ao.o).mono (show w.heap.size<=wq.heap.size by omega);have b2:=(b1.alloc (by omega) (Ae #[O Ai d[f].number,I (Aa d[f].path),X N d[f].ms.length Q,X t1 d[f].tg.length t2,Av d[f].change,I (Aa d[f].to),X x1 d[f].sets.length x2,X F d[f].drops.length H] 126)).grown ap.o (by simp;omega) (fun f hk=>by have:=(An af.o f hk).1;omega);exact b2.grown y (by omega) (fun f hk=>by have:=(An ag.o f hk).1;omega)
       obtain⟨aU,aV,rfl⟩:=zL aj.o;go_wp2
       go_roundw
       case rel=>exact⟨f+1,_,by omega,by go_num,aj,ay,az⟩
       case measure=>simp[intOf];omega
  ·go_wp2
   go_ret;rw[show i=Z d by omega,Cc (Aq _)] at HA;refine⟨_,rfl,HB.o,cs,?_,HA.o⟩;rw[bD,show (Z d)=i by omega];exact zo HO.o (Ax _)
namespace R
theorem overS_bad {t:Tok}{st:St}{a:Bool}(h:0<=st.bad):overS t st a=st:=by unfold overS;rw[Az h]
theorem needS_bad {ts:A Tok}{st:St}{s:A Ab}(h:0<=st.bad):needS ts st s=st:=overS_bad h
theorem kindS_bad {ts:A Tok}{st:St}{k:Ak}(h:0<=st.bad):kindS ts st k=st:=overS_bad h
theorem notS_bad {st:St}{b:Bool}{e a:Ak}(h:0<=st.bad):notS st b e a=st:=by
 unfold notS;rw[Aw];intro c;omega
theorem isB_bad {st:St}{t:Tok}{s:A Ab}(h:0<=st.bad):isB st t s=false:=by
 unfold isB;rw[Ce (by omega)];rfl
theorem pathS_bad {ts:A Tok}{st:St}(h:0<=st.bad):(pathS ts st).2=st:=by
 unfold pathS;simp only;rw[kindS_bad h,notS_bad h]
theorem valueS_bad {ts:A Tok}{st:St}(h:0<=st.bad):(valueS ts st).2=st:=by
 unfold valueS;simp only;rw[needS_bad h,kindS_bad h,notS_bad h]
theorem among_bad {l:A (A Ab)}{s:A Ab}{p:Ak}{st:St}(h:0<=st.bad):among l s p st=st:=by
 unfold among
 induction l <;> grind[notS_bad]
theorem amongN_bad {l:A Ak}{n p:Ak}{st:St}(h:0<=st.bad):amongN l n p st=st:=by
 unfold amongN
 induction l <;> grind[notS_bad]
theorem headerS_bad {ts:A Tok}{st:St}{l:A (A Ab)}(h:0<=st.bad):(headerS ts st l).2=st:=by
 unfold headerS;simp only;rw[kindS_bad h,notS_bad h,among_bad h]
theorem mtLoop_bad {ts:A Tok}{n:Ad}{st:St}{a:A Mt}(h:0<=st.bad):mtLoop ts n st a=(a,st):=by
 cases n with
 |zero=>rfl
 |succ n=>unfold mtLoop;rw[isB_bad h];rfl
theorem tgLoop_bad {ts:A Tok}{n i:Ad}{st:St}{a:A (A Ab×Ak)}(h:0<=st.bad):tgLoop ts n st i a=(a,st):=by
 cases n with
 |zero=>rfl
 |succ n=>unfold tgLoop;rw[Aw (by omega)]
theorem targetsS_bad {ts:A Tok}{st:St}(h:0<=st.bad):(targetsS ts st).2=st:=by
 unfold targetsS;simp only;rw[needS_bad h,notS_bad h,tgLoop_bad h];simp only;rw[needS_bad h]
theorem stLoop_bad {ts:A Tok}{n:Ad}{st:St}{a:A (A Ab×A Ab)}(h:0<=st.bad):stLoop ts n st a=(a,st):=by
 cases n with
 |zero=>rfl
 |succ n=>unfold stLoop;rw[isB_bad h];rfl
theorem dpLoop_bad {ts:A Tok}{b:A (A Ab)}{n:Ad}{st:St}{a:A (A Ab)}(h:0<=st.bad):dpLoop ts b n st a=(a,st):=by
 cases n with
 |zero=>rfl
 |succ n=>unfold dpLoop;rw[isB_bad h];rfl
theorem editsS_bad {ts:A Tok}{st:St}(h:0<=st.bad):(editsS ts st).2=st:=by
 unfold editsS;simp only;rw[stLoop_bad h];simp only;rw[dpLoop_bad h]
theorem rlB_bad {ts:A Tok}{st:St}(h:0<=st.bad):(rlB ts st).2=st:=by
 unfold rlB;simp only;rw[needS_bad h,needS_bad h,pathS_bad h,needS_bad h]
theorem rlC_bad {ts:A Tok}{st:St}(h:0<=st.bad):(rlC ts st).2=st:=by
 unfold rlC;rw[isB_bad h];rfl
theorem rlA_bad {ts:A Tok}{st:St}{i:Ad}{l:A Ak}(h:0<=st.bad):(rlA ts st i l).2=st:=by
 unfold rlA rlA2;simp only;rw[needS_bad h,notS_bad h,kindS_bad h,notS_bad h,amongN_bad h]
theorem ruleS_bad {ts:A Tok}{st:St}{i:Ad}{l:A Ak}(h:0<=st.bad):(ruleS ts st i l).2=st:=by
 unfold ruleS ruleT ruleE matchesS;simp only
 grind[rlA_bad,rlB_bad,mtLoop_bad,targetsS_bad,rlC_bad,editsS_bad,needS_bad,Tok]
theorem rlLoop_bad {ts:A Tok}{n:Ad}{st:St}{a:A Rl}(h:0<=st.bad):rlLoop ts n st a=(a,st):=by
 cases n with
 |zero=>rfl
 |succ n=>unfold rlLoop;rw[isB_bad h];rfl
theorem rlLoop_K (ts:A Tok)(n:Ad):∀(st:St) (a:A Rl),st.K<=(rlLoop ts n st a).2.K:=by
 induction n with
 |zero=>intro st a;exact Aq _
 |succ n ih=>
  intro st a;unfold rlLoop;split
  ·rename_i h
   have b:=ruleS_K ts st (Z a) (a.map Rl.number) h;have c:=ih (ruleS ts st (Z a) (a.map Rl.number)).2 (a++[(ruleS ts st (Z a) (a.map Rl.number)).1])
   omega
  ·exact Aq _
theorem hsA_K (ts:A Tok)(st:St)(l:A (A Ab)):(needS ts st wHost).K<=(hsA ts st l).2.K:=by
 unfold hsA hsA2;simp only[among_K,notS_K];have:=kindS_K ts (notS (needS ts st wHost) (decide ((Z l:Ak)<4)) 3 (cur ts st).at_) 34
 rwa[notS_K] at this
theorem hsB_K (ts:A Tok)(a:A Ab×St):a.2.K<=(hsB ts a).2.K:=by
 unfold hsB;simp only;exact Bi (Bi (needS_K _ _ _) (rlLoop_K _ _ _ _)) (needS_K _ _ _)
theorem hsA_bad {ts:A Tok}{st:St}{l:A (A Ab)}(h:0<=(needS ts st wHost).bad):(hsA ts st l).2=needS ts st wHost:=by
 unfold hsA hsA2;simp only
 grind[notS_bad,kindS_bad,among_bad,Tok]
theorem hsB_bad {ts:A Tok}{a:A Ab×St}(h:0<=a.2.bad):(hsB ts a).2=a.2:=by
 unfold hsB;simp only
 grind[needS_bad,rlLoop_bad,Tok]
theorem hostS_K (ts:A Tok)(st:St)(l:A (A Ab)):st.K<=(hostS ts st l).2.K:=by
 unfold hostS;exact Bi (Bi (needS_K _ _ _) (hsA_K ts st l)) (hsB_K _ _)
theorem needS_no {ts:A Tok}{st:St}{s:A Ab}(a:st.bad<0)(h:isB st (cur ts st) s=false):(needS ts st s).bad=(cur ts st).at_:=by
 unfold needS overS;rw[Aw (by omega),h];rfl
theorem hostS_go (ts:A Tok)(st:St)(l:A (A Ab))(d:st.bad<0)(c:(hostS ts st l).2.bad<0):st.K+1<=(hostS ts st l).2.K:=by
 cases h:isB st (cur ts st) wHost with
 |true=>
  have b:(needS ts st wHost).K=st.K+1:=by rw[needS_yes h]
  have f:=hsA_K ts st l;have g:=hsB_K ts (hsA ts st l);unfold hostS;omega
 |false=>
  exfalso
  have b:=needS_no d h;have a:0<=(needS ts st wHost).bad:=by rw[b];omega
  unfold hostS at c;rw[hsB_bad (by rw[hsA_bad a];exact a),hsA_bad a] at c
  omega
def hsLoop (ts:A Tok):Ad->St->A Hst->A Hst×St
 |0,st,acc=>(acc,st)
 |n+1,st,acc=>if st.bad<0/\(cur ts st).k≠0 then hsLoop ts n (hostS ts st (acc.map Hst.name)).2 (acc++[(hostS ts st (acc.map Hst.name)).1]) else (acc,st)
def st0:St:=⟨0,-1,0,0⟩
def readS (l:A Ab):A Hst×St:=hsLoop (toks l) (Z (toks l)+2) st0 []
theorem wrap_id (n:Ak)(a:0<=n)(h:n<9223372036854775808):wrap64 n=n:=by unfold wrap64;omega
theorem numStep_digit (n:Ak)(c:Ab)(b:0<=n)(d:n<=100000000)(a:digitI c.toNat=true):numStep n c=10*n+(c.toNat-48)/\0<=(c.toNat:Ak)-48/\(c.toNat:Ak)-48<=9:=by
 unfold digitI at a;simp only[Ez,Gd] at a;unfold numStep;have e:((c.toNat:Ak)-48) % 256=c.toNat-48:=by omega
 rw[e,wrap_id (10*n) (by omega) (by omega),wrap_id _ (by omega) (by omega)]
 omega
theorem num_le (l:A Ab)(b:∀c∈l,digitI c.toNat=true)(i:Z l<=5):0<=num l/\num l<=99999:=by
 have g:∀(l:A Ab) (a:Ak) (m:Ad),(∀c∈l,digitI c.toNat=true)->0<=a->a+1<=(10:Ak) ^ m->m+Z l<=5->0<=l.foldl numStep a/\l.foldl numStep a+1<=(10:Ak) ^ (m+Z l):=by
  intro l
  induction l with
  |nil=>intro a m _ f h _;exact⟨f,h⟩
  |cons c l ih=>
   intro a m b f h j;have p:(10:Ak) ^ m<=100000:=by
    have:m<=5:=by omega
    match m,this with
    |0,_=>decide
    |1,_=>decide
    |2,_=>decide
    |3,_=>decide
    |4,_=>decide
    |5,_=>decide
   obtain⟨e,k,n⟩:=numStep_digit a c f (by omega) (b c (by simp));rw[Nu,e];have:=ih (10*a+(c.toNat-48)) (m+1) (fun d hdm=>b d (by simp[hdm])) (by omega) (by rw[Int.pow_succ];omega) (by simp at j;omega);rw[Bb,show m+(Z l+1)=m+1+Z l by omega];exact this
 have:=g l 0 0 b (by omega) (by decide) (by omega);unfold num;refine⟨this.1,?_⟩;have o:(10:Ak) ^ (0+Z l)<=100000:=by
  have:Z l<=5:=i;generalize (Z l)=m at*
  match m,this with
  |0,_=>decide
  |1,_=>decide
  |2,_=>decide
  |3,_=>decide
  |4,_=>decide
  |5,_=>decide
 omega
theorem span_all (p:Ak->Bool)(l:A Ab):∀c∈l.take (span p l),p c.toNat=true:=by
 induction l <;> grind[span]
theorem tok_num (l:A Ab)(i:Ad)(d:i<Z l)(h:(tend l i).2=49):0<=num (tok l i).s/\num (tok l i).s<=99999:=by
 have f:(tok l i).s=(l.drop i).take ((tend l i).1-i):=by unfold tok;rw[h];rfl
 rw[f];unfold tend at h ⊢
 split at h
 ·simp at h
 ·rename_i h1
  rw[Aw h1]
  split at h
  ·rename_i h2
   rw[Az h2]
   split at h
   ·simp at h
   ·rename_i h3
    rw[Aw h3];simp only;rw[Ed d,show i+1+span digitI (l.drop (i+1))-i=span digitI (l.drop (i+1))+1 by omega,Fk];have a:Z (l[i]::(l.drop (i+1)).take (span digitI (l.drop (i+1))))<=5:=by
     rw[Bb,Cq];omega
    refine num_le _ ?_ a;intro c b;rcases En.1 b with rfl|b
    ·unfold at0 at h2;rw[Gf,Bd d] at h2;exact h2
    ·exact span_all _ _ c b
  ·split at h
   ·split at h <;> simp at h
   ·split at h <;> simp at h
theorem tok_len (l:A Ab)(i:Ad):Z (tok l i).s<=Z l:=by grind[tok]
theorem toksGo_ok (l:A Ab):∀(n i:Ad),Z l+1-i<=n->i<=Z l->
  0<Z (toksGo n l i)/\(Z (toksGo n l i))<=Z l+1-i/\
  (∀(k:Ad) (t:Tok),(toksGo n l i)[k]?=V t->t.k≠0->t.k≠120->k+1<Z (toksGo n l i))/\
  (∀(k:Ad) (t:Tok),(toksGo n l i)[k]?=V t->Z t.s<=Z l/\(t.k=49->0<=num t.s/\num t.s<=99999)):=by
 intro n
 induction n with
 |zero=>intro i r u;omega
 |succ n ih=>
  intro i r u
  by_cases j:i<Z l
  ·by_cases o:at0 l i=32\/at0 l i=10
   ·rw[toksGo_blank j o]
    obtain⟨a,b,c,d⟩:=ih (i+1) (by omega) (by omega);exact⟨a,by omega,c,d⟩
   ·have q:=tend_bd l i j
    by_cases p:(tend l i).2=120
    ·rw[toksGo_bad j o p]
     refine⟨by simp,by simp;omega,?_,?_⟩
     ·intro k t f _ g
      match k with
      |0=>simp at f;subst f;exact absurd p g
      |k+1=>simp at f
     ·intro k t f
      match k with
      |0=>simp at f;subst f;exact⟨tok_len l i,fun h=>tok_num l i j h⟩
      |k+1=>simp at f
    ·rw[toksGo_good j o p]
     obtain⟨a,b,c,d⟩:=ih (tend l i).1 (by omega) q.2.1;refine⟨by simp,by rw[Bb];omega,?_,?_⟩
     ·intro k t f m g
      rw[Bb]
      match k with
      |0=>omega
      |k+1=>
       rw[Xb] at f;have:=c k t f m g
       omega
     ·intro k t f
      match k with
      |0=>simp at f;subst f;exact⟨tok_len l i,fun h=>tok_num l i j h⟩
      |k+1=>rw[Xb] at f;exact d k t f
  ·rw[toksGo_end j]
   refine⟨by simp,by simp;omega,?_,?_⟩
   ·intro k t f m _
    match k with
    |0=>simp at f;subst f;exact absurd rfl m
    |k+1=>simp at f
   ·intro k t f
    match k with
    |0=>simp at f;subst f;exact⟨by simp,fun h=>by simp at h⟩
    |k+1=>simp at f
theorem toks_ok (l:A Ab)(h:Z l<=3000):Ok (toks l)/\0<Z (toks l):=by
 obtain⟨a,b,c,d⟩:=toksGo_ok l (Z l+1) 0 (by omega) (by omega);refine⟨⟨c,?_,fun k t ht=>?_,fun k t ht hk=>(d k t ht).2 hk⟩,a⟩
 ·unfold toks;omega
 ·have:=(d k t ht).1;omega
end R
theorem zb0 (a b c:Aj)(w:Ag):(Instr.field 115 (.agg #[a,b,c]) 0).run prog w = .ok a w:=by kernel_rfl
theorem aK {d:A Fp}(h:All2 (HostVal w) a d)(k:Ad)(f:k<Z d):∃b,a.flatten[k*2+1]?=V b/\RulesRow w b d[k].rules:=by
 induction h generalizing k with
 |nil=>simp at f
 | @cons c r cs rs hc _ ih=>
  obtain⟨b,rfl,j⟩:=hc
  match k with
  |0=>exact⟨b,rfl,j⟩
  |k+1=>
   obtain⟨v,g,i⟩:=ih k (by simpa using f);refine⟨v,?_,i⟩;rw[Ci,Cl (by simp;omega)];simp only[Bb,Bu];rw[show(k+1)*2+1-(0+1+1)=k*2+1 by omega];exact g
theorem zg6 {v:Aj}(h:RulesRow w v b):∃a c,v=X a (Z b) c:=by
 obtain⟨d,f,_⟩:=h;exact zL f
def hcount (w:Ag)(rb:Ad):Ad:=match w.cell? ⟨rb,5,S⟩ with|some v=>lenOf v|none=>0
theorem rW {g a:Ad}{ts:A R.Tok}{st:R.St}{H:Aj}(h:RInv w rb g a ts st H):hcount w rb=lenOf H:=by
 unfold hcount;rw[show w.cell? ⟨rb,5,S⟩=V H from zB h.rd]
theorem bP (ts:A R.Tok)(n:Ad):∀(st:R.St) (a:A Gn),Z (Nd ts n st a).1+st.K<=Z a+(Nd ts n st a).2.K:=by
 induction n with
 |zero=>intro st a;exact Aq _
 |succ n ih=>
  intro st a;unfold Nd;split
  ·rename_i h
   have c:=R.ruleS_K ts st (Z a) (a.map R.Rl.number) h;have b:=ih (R.ruleS ts st (Z a) (a.map R.Rl.number)).2 (a++[(R.ruleS ts st (Z a) (a.map R.Rl.number)).1]);rw[Ah] at b;simp only[Bb,Bu] at b;omega
  ·exact Aq _
theorem pN (ts:A R.Tok)(st:R.St)(l:A (A Ab)):Z (Mm ts st l).1.rules<=(Mm ts st l).2.K:=by
 unfold Mm R.hsB;simp only;have a:=bP ts (Z ts+1) (Cg ts (R.hsA ts st l).2 [123]) []
 grind[Mm,R.hsB,bP,Cg,R.hsA,R.needS_K,Nd,List.length_nil,R.Tok,R.St]
def qd (a b:A Ab):Bool:=Op.bytesLess a b
theorem wk (a b:A Ab):Op.bytesLess (Aa a).toList (Aa b).toList=qd a b:=by simp_all[Aa,qd]
def hU (h:Fp)(out:A Fp):Ad:=Z (out.takeWhile fun o=>qd o.name h.name)
def uG (out:A Fp)(h:Fp):A Fp:=out.take (hU h out)++[h]++out.drop (hU h out)
def qx (hs:A Fp):A Fp:=hs.foldl (fun out h=>uG out ⟨h.name,zf h.rules⟩) []
theorem zhG:(prog.info? 119).map (fun i=>(i.zero,i.size,i.bytes))=V (V (.agg #[I ⟨#[]⟩,X S 0 0]),2,40):=by kernel_rfl
theorem zhI (out:A Fp)(r:Fp):Z (uG out r)=Z out+1:=by grind[uG,Fp]
theorem zcA (l:A Fp)(r:Fp):qx (l++[r])=uG (qx l) ⟨r.name,zf r.rules⟩:=by
 unfold qx;rw[Mb];rfl
theorem dq (l:A Fp):Z (qx l)=Z l:=by
 unfold qx;have:∀(l out:A Fp),Z (l.foldl (fun out h=>uG out ⟨h.name,zf h.rules⟩) out)=Z out+Z l:=by
  intro l
  induction l with
  |nil=>intro out;rfl
  |cons a l ih=>intro out;rw[Nu,ih,zhI];simp;omega
 rw[this];simp
theorem fV {a:A Aj}{r:Fp}(h:HostVal w a r):∀u∈a,u.oneCell'=true:=by
 obtain⟨f,rfl,c,d,_⟩:=h;obtain⟨_,_,rfl⟩:=zL d;intro u b;simp at b;rcases b with rfl|rfl <;> rfl
theorem dR {b:A Fp}(h:All2 (HostVal w) a b):∀u∈a.flatten,u.oneCell'=true:=by
 induction h <;> grind[List.flatten_cons,fV,Fp,All2,HostVal]
theorem il {a:A Aj}{r:Fp}(h:HostVal w a r):Z a=2:=by
 obtain⟨b,rfl,_⟩:=h;rfl
theorem ti {b:A Fp}(h:All2 (HostVal w) a b)(k:Ad):(a.take k).flatten=a.flatten.take (k*2):=by
 induction h generalizing k with
 |nil=>simp
 | @cons c r cs b h _ ih=>
  match k with
  |0=>simp
  |k+1=>
   have e:=il h;rw[Fk,Ci,Ci,ih k,List.take_append,e,Cc (l:=c) (by omega),show(k+1)*2-2=k*2 by omega]
theorem tf {b:A Fp}(h:All2 (HostVal w) a b)(k:Ad):(a.drop k).flatten=a.flatten.drop (k*2):=by
 induction h generalizing k with
 |nil=>simp
 | @cons c r cs b h _ ih=>
  match k with
  |0=>simp
  |k+1=>
   have e:=il h;rw[In,Ci,ih k,List.drop_append,e,Ga (l:=c) (by omega),show(k+1)*2-2=k*2 by omega];rfl
def xg (l:A Ab):Ak×Ak:=
 if 3000<Z l then (1,0) else if 0<=(R.readS l).2.bad then (2,(R.readS l).2.bad) else ((R.readS l).2.E,if (R.readS l).2.E=0 then 0 else (R.readS l).2.at_)
abbrev Fu1:=Ae #[I ⟨#[]⟩,X S 0 0] 119
abbrev Fu2 (a b c):=Ae #[X (V ⟨b,0,S⟩) a c,O Ai 0,O Ai (-1),O Ai 0,O Ai 0,X S 0 0] 113
theorem bA (s:ByteArray)(w:Ag)(bP:s.size<=Bh) :
  Am prog 34 #[I s] w fun e w'=>∃v,e=Af (.tuple #[v,O Ai (xg s.data.toList).1,O Ai (xg s.data.toList).2])/\Ms w.heap.size w w'/\((xg s.data.toList).1=0->HostsRow w' w.heap.size v (qx (R.readS s.data.toList).1)):=by
 unfold Bh at bP;obtain⟨i0,hi,an,ao,ap⟩:=Ej zhG
 by_cases bh:3000<s.size
 ·have HE:Y (xg s.data.toList=(1,0)):=by show xg _=_;unfold xg;rw[Az (by rw[Cp];exact bh)]
  go_in;go_wp2
  go_ret3
  exact⟨_,by rw[HE.o];rfl,Vw _ _,fun h=>absurd h (by rw[HE.o];decide)⟩
 ·have bm:s.size<=3000:=by omega
  have af:Y (xg s.data.toList=if 0<=(R.readS s.data.toList).2.bad then (2,(R.readS s.data.toList).2.bad) else ((R.readS s.data.toList).2.E,if (R.readS s.data.toList).2.E=0 then 0 else (R.readS s.data.toList).2.at_)):=by
   show xg _=_;unfold xg;rw[Aw (by rw[Cp];exact bh)]
  have bu:Y (R.readS s.data.toList=R.hsLoop (Vg s.data.toList) (Z (Vg s.data.toList)+2) R.st0 []):=rfl;obtain⟨a9,bk⟩:=R.toks_ok s.data.toList (by rw[Cp];exact bm);have bs:=J a9;have bv:Y (∀w,Am prog 50 #[I s] w fun e w'=>∃v,e=Af v/\w'.ownsRow w.heap.size 115 3 v (Z (Vg s.data.toList)) (R.tokCells (Vg s.data.toList))/\Ms w.heap.size w w'):=fun w=>zbY s w bm
  generalize Vg s.data.toList=ts at*;generalize xg s.data.toList=er at*;generalize R.readS s.data.toList=rd at*;go_in;go_wp2_with fail;refine(bv.o w).mono ?_;rintro e w1 ⟨v,rfl,bj,aZ⟩;obtain⟨g,am,rfl,ck,bL⟩:=Bm bj bk;have bB:RInv (w1.alloc (Fu2 (Z ts) g am)) w1.heap.size g am ts R.st0 (X S 0 0):=by
   refine⟨Bn _ _,?_,by omega,bk,bs.o⟩;rcases bj.2 with ⟨h1,_⟩ | ⟨g',cap',cur,h1,_,h2,_,_,_,h3⟩
   ·cases h1
   ·simp only[Au,Ey,Addr.mk.injEq] at h1
    obtain⟨⟨rfl,_⟩,_,_⟩:=h1;exact⟨cur,by rw[Below.heap_alloc _ _ _ bL];exact h2,h3⟩
  have bn:Y (Ms w.heap.size w (w1.alloc (Fu2 (Z ts) g am))):=aZ.alloc aZ.size _;have br:=J bB;have bT:=aZ.size;go_wp2_with fail;generalize cr:w1.heap.size=rb at*;generalize Eo w1 (Fu2 (Z ts) g am)=wB at*
  go_loopw [] (fun wr=>∃(n:Ad) (y:A Fp) (st:R.St) (H:Aj),Y (R.hsLoop ts n st y=rd)/\(Z y)<=st.K+1/\(st.bad<0->Z y<=st.K)/\(Z ts)+1<n+Z y/\Y (RInv wr rb g am ts st H)/\Y (HostsRow wr w.heap.size H y)/\Y (Ms w.heap.size w wr)/\Y (∀h∈y,Z h.rules<=4000)) (fun wr=>Z ts+2 - hcount wr rb)
  case atStart=>exact⟨Z ts+2,[],R.st0,_,bu.o.symm,by simp,fun _=>by simp,by simp,br,⟨[],Bk _ _ _ _,.nil⟩,bn,fun h d=>by simp at d⟩
  case round=>
   obtain⟨n,y,st,H,HL,cp,a7,hn,IR,HH,HB,bd⟩:=hrel;have cc:=zO IR.o.rd;have c2:wr.cell? ⟨rb,2,S⟩=V (O Ai st.bad):=zB IR.o.rd;have cq:=IR.o.lt;have ct:=IR.o.ok.len;have ch:=zb0;obtain⟨n,rfl⟩:∃m,n=m+1:=⟨n - 1,by omega⟩;have aw:=HL.o;rw[R.hsLoop] at aw
   by_cases aj:st.bad<0/\(Bj ts st).k≠0
   ·rw[Az aj] at aw
    have hb:=aj.1;have bg:((Bj ts st).k != 0)=true:=by rw[Qv];exact aj.2
    have ci:=R.hostS_K ts st (y.map R.Hst.name);have cj:=R.hostS_go ts st (y.map R.Hst.name) hb;have cD:=a7 hb;have bY:Y (hcount wr rb=Z y):=by
     show hcount wr rb=_;rw[rW IR.o];obtain⟨bw,h1,_⟩:=HH.o;exact kM h1
    go_wp2_with fail;refine(ur IR.o IR.o.cur).mono ?_;rintro e w2 ⟨rfl,hg⟩;have J2:=J (IR.o.keep hg);have aU:Y (HostsRow w2 w.heap.size H y):=HH.o.keep hg (za _ _);have aG:=J (HB.o.trans ((qh hg).mono HB.o.size));go_wp2_with fail;refine(ziK J2.o y aU.o bT (by omega)).mono ?_;rintro e w3 ⟨rfl,bE,H3,I3,bz⟩;have J3:=J I3;have bq:=J bz;have aq:Y (Ms w.heap.size w w3):=aG.o.trans bE;have bX:=J aw;have bV:Y (hcount w3 rb=Z y+1):=by
     show hcount w3 rb=_;rw[rW J3.o];obtain⟨bw,h1,_⟩:=bq.o;rw[kM h1];simp
    have b9:Y (∀h∈y++[(Mm ts st (y.map R.Hst.name)).1],Z h.rules<=4000):=by
     intro h d;rcases Ea.1 d with d | d
     ·exact bd.o h d
     ·simp at d;subst d
      have h1:=pN ts st (y.map R.Hst.name);have h2:=J3.o.lt
      omega
    go_wp2
    go_roundw
    case rel=>exact⟨n,y++[(Mm ts st (y.map R.Hst.name)).1],_,H3,bX,by rw[Ah];simp;omega,fun h=>by rw[Ah];have:=cj h;simp;omega,by rw[Ah];simp;omega,J3,bq,aq,b9⟩
    case measure=>rw[bV.o,bY.o];omega
   ·rw[Aw aj] at aw
    have ax:Y (rd.1=y):=by rw[<-aw];rfl
    have ay:Y (rd.2=st):=by rw[<-aw];rfl
    rw[ay.o] at af;have c3:wr.cell? ⟨rb,3,S⟩=V (O Ai st.E):=zB IR.o.rd;have c4:wr.cell? ⟨rb,4,S⟩=V (O Ai st.at_):=zB IR.o.rd
    by_cases hb:0<=st.bad
    ·rw[Az hb] at af
     go_wp2
     go_region
     go_wp2
     go_ret3
     exact⟨_,by rw[af.o];rfl,HB.o.drew,fun h=>absurd h (by rw[af.o];exact(by decide:¬(2:Ak)=0))⟩
    ·have bg:(Bj ts st).k=0:=by
      apply Ng;intro h;exact aj ⟨by omega,h⟩
     have cn:((Bj ts st).k != 0)=false:=by rw[bg];rfl
     rw[Aw hb] at af;have cg:st.bad<0:=by omega
     go_wp2_with fail;refine(ur IR.o IR.o.cur).mono ?_;rintro e w2 ⟨rfl,hg⟩;have J2:=J (IR.o.keep hg);have aU:Y (HostsRow w2 w.heap.size H y):=HH.o.keep hg (za _ _);have aG:=J (HB.o.trans ((qh hg).mono HB.o.size));have d2:w2.cell? ⟨rb,2,S⟩=V (O Ai st.bad):=zB J2.o.rd;have d3:w2.cell? ⟨rb,3,S⟩=V (O Ai st.E):=zB J2.o.rd;have d4:w2.cell? ⟨rb,4,S⟩=V (O Ai st.at_):=zB J2.o.rd
     by_cases hE:st.E=0
     ·rw[Az hE] at af
      have bx:(st.E != 0)=false:=by rw[hE];rfl
      have bp:=J (hE);obtain⟨bw,bl,bD⟩:=aU.o;obtain⟨ha,hc,rfl⟩:=zL bl;have aW:=J bl;have ba:=J bD;obtain⟨wo,cu⟩:∃x,x=w2:=⟨w2,rfl⟩;subst cu;go_wp2_with fail
      go_loopw [6,7] (fun vv iv wz=>∃(i:Ad) (Q:A (A Aj)),i<=Z y/\iv=O Ai i/\Y (wz.ownsRow w.heap.size 119 2 vv i Q.flatten)/\Y (All2 (HostVal wz) Q (qx (y.take i)))/\Y (RInv wz rb g am ts st (X ha (Z y) hc))/\Y (wo.grownBy wz S)) (fun _ iv _=>Z y - (intOf iv).toNat)
      case atStart=>exact⟨0,[],Ax _,rfl,Bk _ _ _ _,.nil,J2,zP _ _⟩
      case round=>
       obtain⟨i,Q,cm,rfl,HO,HA,IZ,HZ⟩:=hrel;obtain⟨oa,oc,rfl⟩:=zL HO.o;have b5:wr.cell? ⟨rb,5,S⟩=V (X ha (Z y) hc):=zB IZ.o.rd
       by_cases a8:i<Z y
       ·obtain⟨gh,cw,bK,_,cl⟩:=Bm aW.o (by omega)
        simp only[Au] at bK;obtain⟨rfl,_,rfl⟩:=bK;obtain⟨vR,bQ,bC⟩:=aK ba.o i a8;have bM:=bd.o y[i] (Cr a8);have bt:Y (RulesRow wr vR y[i].rules):=bC.keep HZ.o (za _ _);obtain⟨cv,bN,cf⟩:=bC;obtain⟨ra,rc,rfl⟩:=zL bN;have e0:wr.cell? ⟨gh,i*2,S⟩=V (I (Aa y[i].name)):=by
         refine HZ.o.cell (a:=⟨gh,i*2,S⟩) ?_ (by simp);rw[Ap aW.o (i*2) (by omega),wV ba.o i a8]
        have e1:wr.cell? ⟨gh,i*2+1,S⟩=V (X ra y[i].rules.length rc):=by
         refine HZ.o.cell (a:=⟨gh,i*2+1,S⟩) ?_ (by simp);rw[Ap aW.o (i*2+1) (by omega),bQ]
        have cA:(i:Ak)<Z y:=by omega
        have cz:gh<wr.heap.size:=by have h:=HZ.o.size;omega
        have cE:=zO IZ.o.rd;have HS:Y (qx (y.take (i+1))=uG (qx (y.take i)) ⟨y[i].name,zf y[i].rules⟩):=by
         show qx _=_;rw[Co a8,zcA]
        have bO:Z (qx (y.take i))=i:=by rw[dq,Cq];omega
        have cy:Z Q=i:=by rw[HA.o.len,bO]
        generalize qx (y.take i)=out at*;generalize y[i]=d at*;have ca:Y (wr.grownBy (Md (Eo wr Fu1)) S):=zD (Ac _ _ _) (zV _);have bZ:Y ((Md (Eo wr Fu1)).heap[wr.heap.size]?=V Fu1):=Bn wr _;go_wp2
        go_cut [8] from 62 to 79 (fun s8 wx=>∃(b8:Ad) (q:Option Addr) (r:Ad),s8 = .pointer (V ⟨b8,0,S⟩)/\Y (wx.heap[b8]?=V (Ae #[I (Aa d.name),X q (Z (zf d.rules)) r] 119))/\Y (RulesRow wx (X q (Z (zf d.rules)) r) (zf d.rules))/\Y (wr.grownBy wx S)/\wr.heap.size<=b8)
        case first=>
         have bo:Y (∀W,wr.grownBy W S->Am prog 53 #[X ra (Z d.rules) rc] W fun e w'=>∃q r,e=Af (X q (Z (zf d.rules)) r)/\wr.grownBy w' S/\RulesRow w' (X q (Z (zf d.rules)) r) (zf d.rules)/\W.grownBy w' S):=fun W hW=>
          (zc0 (X ra (Z d.rules) rc) d.rules (bt.o.keep hW (za _ _)) bM).mono (by rintro e wS ⟨vS,rfl,bF,aC⟩;obtain⟨q,r,rfl⟩:=zg6 aC;exact⟨q,r,rfl,zD hW (zt bF),aC,zt bF⟩)
         have p0:rb≠wr.heap.size:=by omega
         have p1:gh≠wr.heap.size:=by omega
         go_region_held3 (fun W=>W.cell? ⟨rb,5,S⟩=V (Fu4 (Z y) gh hc)/\W.cell? ⟨gh,i*2,S⟩=V (I (Aa d.name))/\W.cell? ⟨gh,i*2+1,S⟩=V (X ra (Z d.rules) rc)) (go_keep) (first
          | (go_at_call 53;show Am _ _ _ (Md (Eo wr Fu1)) _;refine(bo.o _ (zD (Ac _ _ _) (zV _))).mono ?_;rintro e wS ⟨q,r,rfl,ai,aC,a0⟩;have bf:=J aC;have aY:=J ai;have p5:wS.cell? ⟨rb,5,S⟩=V (Fu4 (Z y) gh hc):=ai.cell b5 (by simp);have p6:wS.cell? ⟨gh,i*2,S⟩=V (I (Aa d.name)):=ai.cell e0 (by simp);have p7:wS.cell? ⟨gh,i*2+1,S⟩=V (X ra (Z d.rules) rc):=ai.cell e1 (by simp);have ag:Y (wS.heap[wr.heap.size]?=V Fu1):=zE bZ.o a0;have cF:wS.cell? ⟨wr.heap.size,0,S⟩=V (I ⟨#[]⟩):=zB ag.o;have cG:wS.cell? ⟨wr.heap.size,1,S⟩=V (X S 0 0):=zB ag.o;have cH:wS.frozen? ⟨wr.heap.size,0,S⟩=false:=zG ag.o;have cI:wS.frozen? ⟨wr.heap.size,1,S⟩=false:=zG ag.o;have n5:wr.heap.size≠rb:=Ne.symm p0;have n6:wr.heap.size≠gh:=Ne.symm p1;clear ai aC a0)
          | (go_at_call 53;show Am _ _ _ (Md wr) _;refine(bo.o _ (zV wr)).mono ?_;rintro e wS ⟨q,r,rfl,ai,aC,a0⟩;have bf:=J aC;have aY:=J ai;have p5:wS.cell? ⟨rb,5,S⟩=V (Fu4 (Z y) gh hc):=ai.cell b5 (by simp);have p6:wS.cell? ⟨gh,i*2,S⟩=V (I (Aa d.name)):=ai.cell e0 (by simp);have p7:wS.cell? ⟨gh,i*2+1,S⟩=V (X ra (Z d.rules) rc):=ai.cell e1 (by simp);have n5:wS.heap.size≠rb:=World.new_ne wS _ p5;have n6:wS.heap.size≠gh:=World.new_ne wS _ p6;clear ai aC a0))
         ·go_wp2_with fail
          go_meet
          case rel=>exact⟨wS.heap.size,q,r,rfl,Bn _ _,RulesRow.keep bf.o (Ac _ _ _) (za _ _),zD aY.o (Ac _ _ _),aY.o.size⟩
         ·have bJ:=zD (zF wS wr.heap.size 0 (I (Aa d.name))) (zF _ wr.heap.size 1 (X q (Z (zf d.rules)) r))
          go_wp2_with fail
          go_meet
          case rel=>exact⟨wr.heap.size,q,r,rfl,zH (zH ag.o _) _,RulesRow.keep bf.o bJ (xQ ag.o),ze aY.o bJ (Aq _),Aq _⟩
        case rest=>
         obtain⟨b8,q,r,rfl,ag,bc,aP,cx⟩:=hcut;have b7:Y (wc.ownsRow w.heap.size 119 2 (X oa i oc) i Q.flatten):=zK HO.o aP.o (fun k hk c=>by cases c);have aT:Y (All2 (HostVal wc) Q out):=HA.o.map fun a b hab=>hab.keep aP.o (za _ _)
         have aX:=J (zD HZ.o aP.o);have bb:=J (IZ.o.keep aP.o);have zc:=Bi aG.o.size aX.o.size;have cb:wc.cell? ⟨b8,0,S⟩=V (I (Aa d.name)):=zB ag.o;go_wp2
         go_loopw [9] (fun kv wz=>∃k:Ad,k<=i/\kv=O Ai k/\Y (∀j (hj:j<k) (ho:j<Z out),qd out[j].name d.name=true)/\Y (wc.grownBy wz S)) (fun kv _=>i - (intOf kv).toNat)
         case atStart=>exact⟨0,Ax _,rfl,fun j hj=>absurd hj (by omega),zP _ _⟩
         case round=>
          obtain⟨k,co,rfl,HK,aI⟩:=hrel;have aQ:Y (wr.ownsRow w.heap.size 119 2 (X oa i oc) i Q.flatten):=zK b7.o aI.o (fun k hk c=>by cases c);have d1:=aI.o.cell cb (by simp);have bU:Y (All2 (HostVal wr) Q out):=aT.o.map fun a b hab=>hab.keep aI.o (za _ _)
          by_cases hk:k<i
          ·obtain⟨go,cd,aj,_,_⟩:=Bm aQ.o (by omega)
           simp only[Au] at aj;obtain⟨rfl,_,rfl⟩:=aj;have cB:(k:Ak)<i:=by omega
           have d2:wr.cell? ⟨go,k*2,S⟩=V (I (Aa out[k].name)):=by
            have bI:=Ap aQ.o (k*2) (by omega);rw[wV bU.o k (by omega)] at bI;exact bI
           by_cases aO:qd out[k].name d.name=true
           ·have bW:Y (∀j (hj:j<k+1) (ho:j<Z out),qd out[j].name d.name=true):=by
             intro j hj ho
             by_cases e:j=k
             ·subst e;exact aO
             ·exact HK.o j (by omega) ho
            have bi:=wk out[k].name d.name;rw[aO] at bi;generalize a9:out[k].name=ok at*;go_wp2_with fail;go_quiet (fail);go_wp2;exact⟨⟨k+1,by omega,by go_num,bW,zD aI.o (x3 _ _)⟩,by simp[intOf];omega⟩
           ·have aV:Y (hU ⟨d.name,zf d.rules⟩ out=k):=ku _ _ _ (by omega) (fun j hj=>HK.o j hj (by omega)) (fun _=>by simpa using aO)
            have bi:=wk out[k].name d.name;rw[show qd out[k].name d.name=false by simpa using aO] at bi;go_wp2_with fail;go_quiet (fail);have C:=zD aI.o (x3 wr nq);have B:Y _:=zK aQ.o (x3 wr nq) (fun k hk c=>by cases c);have aa:Y (All2 (HostVal (wr.drewN nq)) Q out):=aT.o.map fun a b hab=>hab.keep C (za _ _)
            have aJ:=J (RInv.keep bb.o C);have aN:=J (zD aX.o C);have ak:=J (zE ag.o C);have aM:Y (RulesRow (wr.drewN nq) (X q (Z (zf d.rules)) r) (zf d.rules)):=RulesRow.keep bc.o C (za _ _);have zq:=Bi zc C.size;generalize wr.drewN nq=wq at*;have H0:Y (wq.cell? ⟨b8,0,S⟩=V (I (Aa d.name))):=zB ak.o;have H1:Y (wq.cell? ⟨b8,1,S⟩=V (X q (Z (zf d.rules)) r)):=zB ak.o;have ah:Y (HostVal wq [I (Aa d.name),X q (Z (zf d.rules)) r] ⟨d.name,zf d.rules⟩):=⟨_,rfl,aM.o⟩;have HW:Y (∀j u,(Q.flatten)[j]?=V u->wq.cell? ⟨go,j,S⟩=V u):=by
             intro j u z;have ab:=(Bo.1 z).1;rw[B.o.1] at ab;rw[Ap B.o j ab];exact z
            have aA:=uA B.o;unfold Bh at aA;obtain⟨bG,bH⟩:=aA;have ar:=J (B.o.1);have aL:=J (dR aa.o);go_wp2_with (at_builtin;refine Cu _ rfl _ _ 67 rfl (wq.heap.size) 119 i0 _ 2 40 underlying67 hi an ao ap rfl (by decide) _ _ _ rfl (Bk _ _ _ _) ⟨go,0,S⟩ k oc (Q.flatten.take (k*2)) rfl ?a1 ?a2 ?a3 ?a4 ?a5 ?a6 ?_)
            case a1=>rw[Cq,ar.o];omega
            case a2=>
             intro j u z;rw[uk];rw[Gi] at z
             split at z
             ·exact HW.o j u z
             ·cases z
            case a3=>exact fun u z=>aL.o u (Oi z)
            case a4=>unfold Bh;omega
            case a5=>omega
            case a6=>exact Aq _
            intro v1 w1 N o _;obtain⟨aR,aS,rfl⟩:=zL N;have g1:wq.grownBy w1 S:=o;have ad:=J N;have ax:Y _:=zK B.o o (fun k hk c=>by cases c);have z1:=o.size;have d0:=g1.cell H0.o (by simp);have d1:=g1.cell H1.o (by simp);have au:=J g1;go_wp2_with (at_builtin;refine Ei _ rfl _ _ 67 rfl (wq.heap.size) 119 i0 _ 2 40 underlying67 hi an ao ap rfl (by decide) _ _ _ rfl (Ao ad.o _) ⟨w1.heap.size,0,S⟩ 1 1 [I (Aa d.name),X q (Z (zf d.rules)) r] rfl rfl ?c1 ?c2 (by decide) ?c3 ?c4 ?c5 (w1.heap.size+1) (by simp) ?_)
            case c1=>exact zZ _ #[_,_] _ _
            case c2=>exact fV ah.o
            case c3=>unfold Bh;omega
            case c4=>omega
            case c5=>simp;omega
            intro g2 az w2 t f _ _;have ae:=J t;have ay:Y _:=zK (Ao ax.o _) f (fun k hk c=>by have h1:=(An B.o k hk).2;have h2:=(An ad.o k c).1;omega);have z2:w1.heap.size+1<=w2.heap.size:=by have h:=f.size;simpa using h
            have av:=J f;have be:Y (∀j u,(Q.flatten)[j]?=V u->w2.cell? ⟨go,j,S⟩=V u):=by
             intro j u z;have ab:=(Bo.1 z).1;rw[B.o.1] at ab;rw[Ap ay.o j ab];exact z
            go_wp2_with (at_builtin;refine Cu _ rfl _ _ 67 rfl (wq.heap.size) 119 i0 _ 2 40 underlying67 hi an ao ap rfl (by decide) _ _ _ rfl ae.o ⟨go,k*2,S⟩ (i - k) (oc - k) (Q.flatten.drop (k*2)) rfl ?b1 ?b2 ?b3 ?b4 ?b5 ?b6 ?_)
            case b1=>rw[Cy,ar.o];omega
            case b2=>
             intro j u z;rw[Vq] at z;have:=be.o (k*2+j) u z;unfold Addr.add
             split
             ·rename_i h0;subst h0;exact this
             ·exact this
            case b3=>exact fun u z=>aL.o u (List.mem_of_mem_drop z)
            case b4=>unfold Bh;omega
            case b5=>omega
            case b6=>omega
            intro v3 w3 aB p _;have gA:=Ac w1 (Ae #[I (Aa d.name),X q (Z (zf d.rules)) r] 119) S;have aD:Safe (w1.alloc (Ae #[I (Aa d.name),X q (Z (zf d.rules)) r] 119)) (X aR k aS).ownBlock rtags:=xk (Ao ad.o _);have aE:Safe w2 (X (V ⟨g2,0,S⟩) (k+1) az).ownBlock rtags:=xk ae.o;have kp:∀a b,HostVal wq a b->HostVal w3 a b:=fun a b hab=>(((hab.keep au.o (za _ _)).keep gA (za _ _)).keep av.o aD).keep p aE
            have aF:Y (All2 (HostVal w3) (Q.take k++([[I (Aa d.name),X q (Z (zf d.rules)) r]]:A (A Aj))++Q.drop k) (qx (y.take (i+1)))):=by
             rw[HS.o];unfold uG;rw[aV.o];exact((aa.o.take k).append (.cons ah.o .nil) |>.append (aa.o.drop k)).map kp
            have al:Y (w3.ownsRow w.heap.size 119 2 v3 (i+1) (Q.take k++([[I (Aa d.name),X q (Z (zf d.rules)) r]]:A (A Aj))++Q.drop k).flatten):=by
             rw[Eg,Eg,ti aa.o,tf aa.o,show i+1=k+1+(i - k) by omega,show([[I (Aa d.name),X q (Z (zf d.rules)) r]]:A (A Aj)).flatten=[I (Aa d.name),X q (Z (zf d.rules)) r] from rfl,Bl];exact zo aB zq
            have F:wq.grownBy w3 S:=by
             refine zt ?_;have b1:=qh au.o;have b2:=(b1.alloc (by omega) (Ae #[I (Aa d.name),X q (Z (zf d.rules)) r] 119)).grown av.o (by simp;omega) (fun k hk=>by have:=(An ad.o k hk).1;omega);exact b2.grown p (by omega) (fun k hk=>by have:=(An ae.o k hk).1;omega)
            have aq:Y (wo.grownBy w3 S):=zD aN.o F;have aH:Y (RInv w3 rb g am ts st (Fu4 (Z y) gh hc)):=RInv.keep aJ.o F;obtain⟨bR,bS,rfl⟩:=zL al.o;go_wp2
            go_roundw
            case rel=>exact⟨i+1,_,by omega,by go_num,al,aF,aH,aq⟩
            case measure=>simp[intOf];omega
          ·have aV:Y (hU ⟨d.name,zf d.rules⟩ out=k):=ku _ _ _ (by omega) (fun j hj=>HK.o j hj (by omega)) (fun h=>by omega)
           obtain rfl:k=i:=by omega
           have ce:=aQ.o.2;rcases ce with ⟨hnil,hi0⟩ | ⟨go,cd,cur,hsl,_,_,_⟩
           ·simp only[Au] at hnil
            obtain⟨rfl,rfl,rfl⟩:=hnil;go_wp2_with fail;go_quiet (fail);have C:=zD aI.o (x3 wr nq);have aa:Y (All2 (HostVal (wr.drewN nq)) Q out):=aT.o.map fun a b hab=>hab.keep C (za _ _)
            have aJ:=J (RInv.keep bb.o C);have aN:=J (zD aX.o C);have ak:=J (zE ag.o C);have aM:Y (RulesRow (wr.drewN nq) (X q (Z (zf d.rules)) r) (zf d.rules)):=RulesRow.keep bc.o C (za _ _);have zq:=Bi zc C.size;generalize wr.drewN nq=wq at*;have H0:Y (wq.cell? ⟨b8,0,S⟩=V (I (Aa d.name))):=zB ak.o;have H1:Y (wq.cell? ⟨b8,1,S⟩=V (X q (Z (zf d.rules)) r)):=zB ak.o;have ah:Y (HostVal wq [I (Aa d.name),X q (Z (zf d.rules)) r] ⟨d.name,zf d.rules⟩):=⟨_,rfl,aM.o⟩;have d0:=H0.o;have d1:=H1.o;go_wp2_with (first
             | (at_builtin;refine Qa rfl _ _ 67 rfl (wq.heap.size) 119 i0 2 underlying67 hi _ _ _ rfl (Bk _ _ _ _) rfl ?_)
             | (at_builtin;refine Ei _ rfl _ _ 67 rfl (wq.heap.size) 119 i0 _ 2 40 underlying67 hi an ao ap rfl (by decide) _ _ _ rfl (Bk _ _ _ _) ⟨wq.heap.size,0,S⟩ 1 1 [I (Aa d.name),X q (Z (zf d.rules)) r] rfl rfl ?c1 ?c2 (by decide) ?c3 ?c4 ?c5 (wq.heap.size+1) (by simp) ?_))
            case c1=>exact zZ _ #[_,_] _ _
            case c2=>exact fV ah.o
            case c3=>unfold Bh;omega
            case c4=>omega
            case c5=>simp
            intro g2 az w2 t f _ _;have ae:Y (w2.ownsRow wq.heap.size 119 2 (X (V ⟨g2,0,S⟩) 1 az) 1 [I (Aa d.name),X q (Z (zf d.rules)) r]):=t;have gA:=Ac wq (Ae #[I (Aa d.name),X q (Z (zf d.rules)) r] 119) S;have aF:Y (All2 (HostVal w2) ([[I (Aa d.name),X q (Z (zf d.rules)) r]]:A (A Aj)) (qx (y.take (0+1)))):=by
             rw[HS.o];unfold uG;rw[Ep.1 bO];exact .cons ((ah.o.keep gA (za _ _)).keep f (za _ _)) .nil
            have al:Y (w2.ownsRow w.heap.size 119 2 (X (V ⟨g2,0,S⟩) 1 az) (0+1) ([[I (Aa d.name),X q (Z (zf d.rules)) r]]:A (A Aj)).flatten):=zo t zq;have F:wq.grownBy w2 S:=zt ((((Vw wq.heap.size wq).alloc (Aq _) _).grown f (by simp) (fun k hk=>by cases hk)));have aq:Y (wo.grownBy w2 S):=zD aN.o F;have aH:Y (RInv w2 rb g am ts st (Fu4 (Z y) gh hc)):=RInv.keep aJ.o F;go_wp2_with (at_builtin;refine Qa rfl _ _ 67 rfl (wq.heap.size) 119 i0 2 underlying67 hi _ _ _ rfl ae.o rfl ?_)
            go_roundw
            case rel=>exact⟨0+1,_,by omega,by go_num,al,aF,aH,aq⟩
            case measure=>simp[intOf];omega
           ·simp only[Au] at hsl
            obtain⟨rfl,_,rfl⟩:=hsl;go_wp2_with fail;go_quiet (fail);have C:=zD aI.o (x3 wr nq);have B:Y _:=zK aQ.o (x3 wr nq) (fun k hk c=>by cases c);have aa:Y (All2 (HostVal (wr.drewN nq)) Q out):=aT.o.map fun a b hab=>hab.keep C (za _ _)
            have aJ:=J (RInv.keep bb.o C);have aN:=J (zD aX.o C);have ak:=J (zE ag.o C);have aM:Y (RulesRow (wr.drewN nq) (X q (Z (zf d.rules)) r) (zf d.rules)):=RulesRow.keep bc.o C (za _ _);have zq:=Bi zc C.size;generalize wr.drewN nq=wq at*
            by_cases cC:k<oc
            ·have H0:Y (wq.cell? ⟨b8,0,S⟩=V (I (Aa d.name))):=zB ak.o
             have H1:Y (wq.cell? ⟨b8,1,S⟩=V (X q (Z (zf d.rules)) r)):=zB ak.o;have ah:Y (HostVal wq [I (Aa d.name),X q (Z (zf d.rules)) r] ⟨d.name,zf d.rules⟩):=⟨_,rfl,aM.o⟩;have HW:Y (∀j u,(Q.flatten)[j]?=V u->wq.cell? ⟨go,j,S⟩=V u):=by
              intro j u z;have ab:=(Bo.1 z).1;rw[B.o.1] at ab;rw[Ap B.o j ab];exact z
             have aA:=uA B.o;unfold Bh at aA;obtain⟨bG,bH⟩:=aA;have ar:=J (B.o.1);have aL:=J (dR aa.o);go_wp2_with (at_builtin;refine Cu _ rfl _ _ 67 rfl (wq.heap.size) 119 i0 _ 2 40 underlying67 hi an ao ap rfl (by decide) _ _ _ rfl (Bk _ _ _ _) ⟨go,0,S⟩ k oc (Q.flatten.take (k*2)) rfl ?a1 ?a2 ?a3 ?a4 ?a5 ?a6 ?_)
             case a1=>rw[Cq,ar.o];omega
             case a2=>
              intro j u z;rw[uk];rw[Gi] at z
              split at z
              ·exact HW.o j u z
              ·cases z
             case a3=>exact fun u z=>aL.o u (Oi z)
             case a4=>unfold Bh;omega
             case a5=>omega
             case a6=>exact Aq _
             intro v1 w1 N o _;obtain⟨aR,aS,rfl⟩:=zL N;have g1:wq.grownBy w1 S:=o;have ad:=J N;have ax:Y _:=zK B.o o (fun k hk c=>by cases c);have z1:=o.size;have d0:=g1.cell H0.o (by simp);have d1:=g1.cell H1.o (by simp);have au:=J g1;go_wp2_with (at_builtin;refine Ei _ rfl _ _ 67 rfl (wq.heap.size) 119 i0 _ 2 40 underlying67 hi an ao ap rfl (by decide) _ _ _ rfl (Ao ad.o _) ⟨w1.heap.size,0,S⟩ 1 1 [I (Aa d.name),X q (Z (zf d.rules)) r] rfl rfl ?c1 ?c2 (by decide) ?c3 ?c4 ?c5 (w1.heap.size+1) (by simp) ?_)
             case c1=>exact zZ _ #[_,_] _ _
             case c2=>exact fV ah.o
             case c3=>unfold Bh;omega
             case c4=>omega
             case c5=>simp;omega
             intro g2 az w2 t f _ _;have ae:=J t;have ay:Y _:=zK (Ao ax.o _) f (fun k hk c=>by have h1:=(An B.o k hk).2;have h2:=(An ad.o k c).1;omega);have z2:w1.heap.size+1<=w2.heap.size:=by have h:=f.size;simpa using h
             have av:=J f;have be:Y (∀j u,(Q.flatten)[j]?=V u->w2.cell? ⟨go,j,S⟩=V u):=by
              intro j u z;have ab:=(Bo.1 z).1;rw[B.o.1] at ab;rw[Ap ay.o j ab];exact z
             go_wp2_with (at_builtin;refine Cu _ rfl _ _ 67 rfl (wq.heap.size) 119 i0 _ 2 40 underlying67 hi an ao ap rfl (by decide) _ _ _ rfl ae.o ⟨go,k*2,S⟩ 0 (oc - k) [] rfl ?b1 ?b2 ?b3 ?b4 ?b5 ?b6 ?_)
             case b1=>rfl
             case b2=>intro j u z;simp at z
             case b3=>exact fun u z=>by simp at z
             case b4=>unfold Bh;omega
             case b5=>omega
             case b6=>omega
             intro v3 w3 aB p _;have gA:=Ac w1 (Ae #[I (Aa d.name),X q (Z (zf d.rules)) r] 119) S;have aD:Safe (w1.alloc (Ae #[I (Aa d.name),X q (Z (zf d.rules)) r] 119)) (X aR k aS).ownBlock rtags:=xk (Ao ad.o _);have aE:Safe w2 (X (V ⟨g2,0,S⟩) (k+1) az).ownBlock rtags:=xk ae.o;have kp:∀a b,HostVal wq a b->HostVal w3 a b:=fun a b hab=>(((hab.keep au.o (za _ _)).keep gA (za _ _)).keep av.o aD).keep p aE
             have aF:Y (All2 (HostVal w3) (Q.take k++([[I (Aa d.name),X q (Z (zf d.rules)) r]]:A (A Aj))++Q.drop k) (qx (y.take (k+1)))):=by
              rw[HS.o];unfold uG;rw[aV.o];exact((aa.o.take k).append (.cons ah.o .nil) |>.append (aa.o.drop k)).map kp
             have al:Y (w3.ownsRow w.heap.size 119 2 v3 (k+1) (Q.take k++([[I (Aa d.name),X q (Z (zf d.rules)) r]]:A (A Aj))++Q.drop k).flatten):=by
              rw[Eg,Eg,ti aa.o,tf aa.o,show k+1=k+1+0 by omega,show([[I (Aa d.name),X q (Z (zf d.rules)) r]]:A (A Aj)).flatten=[I (Aa d.name),X q (Z (zf d.rules)) r] from rfl,Ga (l:=Q.flatten) (by rw[ar.o];omega),Bl];exact zo aB zq
             have F:wq.grownBy w3 S:=by
              refine zt ?_;have b1:=qh au.o;have b2:=(b1.alloc (by omega) (Ae #[I (Aa d.name),X q (Z (zf d.rules)) r] 119)).grown av.o (by simp;omega) (fun k hk=>by have:=(An ad.o k hk).1;omega);exact b2.grown p (by omega) (fun k hk=>by have:=(An ae.o k hk).1;omega)
             have aq:Y (wo.grownBy w3 S):=zD aN.o F;have aH:Y (RInv w3 rb g am ts st (Fu4 (Z y) gh hc)):=RInv.keep aJ.o F;obtain⟨bR,bS,rfl⟩:=zL al.o;go_wp2
             go_roundw
             case rel=>exact⟨k+1,_,by omega,by go_num,al,aF,aH,aq⟩
             case measure=>simp[intOf];omega
            ·obtain rfl:oc=k:=by have h:=(uA B.o).1;omega
             have H0:Y (wq.cell? ⟨b8,0,S⟩=V (I (Aa d.name))):=zB ak.o;have H1:Y (wq.cell? ⟨b8,1,S⟩=V (X q (Z (zf d.rules)) r)):=zB ak.o;have ah:Y (HostVal wq [I (Aa d.name),X q (Z (zf d.rules)) r] ⟨d.name,zf d.rules⟩):=⟨_,rfl,aM.o⟩;have HW:Y (∀j u,(Q.flatten)[j]?=V u->wq.cell? ⟨go,j,S⟩=V u):=by
              intro j u z;have ab:=(Bo.1 z).1;rw[B.o.1] at ab;rw[Ap B.o j ab];exact z
             have aA:=uA B.o;unfold Bh at aA;obtain⟨bG,bH⟩:=aA;have ar:=J (B.o.1);have aL:=J (dR aa.o);go_wp2_with (at_builtin;refine Cu _ rfl _ _ 67 rfl (wq.heap.size) 119 i0 _ 2 40 underlying67 hi an ao ap rfl (by decide) _ _ _ rfl (Bk _ _ _ _) ⟨go,0,S⟩ oc oc (Q.flatten.take (oc*2)) rfl ?a1 ?a2 ?a3 ?a4 ?a5 ?a6 ?_)
             case a1=>rw[Cq,ar.o];omega
             case a2=>
              intro j u z;rw[uk];rw[Gi] at z
              split at z
              ·exact HW.o j u z
              ·cases z
             case a3=>exact fun u z=>aL.o u (Oi z)
             case a4=>unfold Bh;omega
             case a5=>omega
             case a6=>exact Aq _
             intro v1 w1 N o _;obtain⟨aR,aS,rfl⟩:=zL N;have g1:wq.grownBy w1 S:=o;have ad:=J N;have ax:Y _:=zK B.o o (fun oc hk c=>by cases c);have z1:=o.size;have d0:=g1.cell H0.o (by simp);have d1:=g1.cell H1.o (by simp);have au:=J g1;go_wp2_with (at_builtin;refine Ei _ rfl _ _ 67 rfl (wq.heap.size) 119 i0 _ 2 40 underlying67 hi an ao ap rfl (by decide) _ _ _ rfl (Ao ad.o _) ⟨w1.heap.size,0,S⟩ 1 1 [I (Aa d.name),X q (Z (zf d.rules)) r] rfl rfl ?c1 ?c2 (by decide) ?c3 ?c4 ?c5 (w1.heap.size+1) (by simp) ?_)
             case c1=>exact zZ _ #[_,_] _ _
             case c2=>exact fV ah.o
             case c3=>unfold Bh;omega
             case c4=>omega
             case c5=>simp;omega
             intro g2 az w2 t f _ _;have ae:=J t;have ay:Y _:=zK (Ao ax.o _) f (fun oc hk c=>by have h1:=(An B.o oc hk).2;have h2:=(An ad.o oc c).1;omega);have z2:w1.heap.size+1<=w2.heap.size:=by have h:=f.size;simpa using h
             have av:=J f;have be:Y (∀j u,(Q.flatten)[j]?=V u->w2.cell? ⟨go,j,S⟩=V u):=by
              intro j u z;have ab:=(Bo.1 z).1;rw[B.o.1] at ab;rw[Ap ay.o j ab];exact z
             go_wp2_with (at_builtin;refine Cu _ rfl _ _ 67 rfl (wq.heap.size) 119 i0 _ 2 40 underlying67 hi an ao ap rfl (by decide) _ _ _ rfl ae.o ⟨go,0,S⟩ 0 0 [] rfl ?b1 ?b2 ?b3 ?b4 ?b5 ?b6 ?_)
             case b1=>rfl
             case b2=>intro j u z;simp at z
             case b3=>exact fun u z=>by simp at z
             case b4=>unfold Bh;omega
             case b5=>omega
             case b6=>omega
             intro v3 w3 aB p _;have gA:=Ac w1 (Ae #[I (Aa d.name),X q (Z (zf d.rules)) r] 119) S;have aD:Safe (w1.alloc (Ae #[I (Aa d.name),X q (Z (zf d.rules)) r] 119)) (X aR oc aS).ownBlock rtags:=xk (Ao ad.o _);have aE:Safe w2 (X (V ⟨g2,0,S⟩) (oc+1) az).ownBlock rtags:=xk ae.o;have kp:∀a b,HostVal wq a b->HostVal w3 a b:=fun a b hab=>(((hab.keep au.o (za _ _)).keep gA (za _ _)).keep av.o aD).keep p aE
             have aF:Y (All2 (HostVal w3) (Q.take oc++([[I (Aa d.name),X q (Z (zf d.rules)) r]]:A (A Aj))++Q.drop oc) (qx (y.take (oc+1)))):=by
              rw[HS.o];unfold uG;rw[aV.o];exact((aa.o.take oc).append (.cons ah.o .nil) |>.append (aa.o.drop oc)).map kp
             have al:Y (w3.ownsRow w.heap.size 119 2 v3 (oc+1) (Q.take oc++([[I (Aa d.name),X q (Z (zf d.rules)) r]]:A (A Aj))++Q.drop oc).flatten):=by
              rw[Eg,Eg,ti aa.o,tf aa.o,show oc+1=oc+1+0 by omega,show([[I (Aa d.name),X q (Z (zf d.rules)) r]]:A (A Aj)).flatten=[I (Aa d.name),X q (Z (zf d.rules)) r] from rfl,Ga (l:=Q.flatten) (by rw[ar.o];omega),Bl];exact zo aB zq
             have F:wq.grownBy w3 S:=by
              refine zt ?_;have b1:=qh au.o;have b2:=(b1.alloc (by omega) (Ae #[I (Aa d.name),X q (Z (zf d.rules)) r] 119)).grown av.o (by simp;omega) (fun oc hk=>by have:=(An ad.o oc hk).1;omega);exact b2.grown p (by omega) (fun oc hk=>by have:=(An ae.o oc hk).1;omega)
             have aq:Y (wo.grownBy w3 S):=zD aN.o F;have aH:Y (RInv w3 rb g am ts st (Fu4 (Z y) gh hc)):=RInv.keep aJ.o F;obtain⟨bR,bS,rfl⟩:=zL al.o;go_wp2
             go_roundw
             case rel=>exact⟨oc+1,_,by omega,by go_num,al,aF,aH,aq⟩
             case measure=>simp[intOf];omega
       ·go_wp2
        go_ret3
        rw[show i=Z y by omega,Cc (Aq _)] at HA;refine⟨_,by rw[af.o,bp.o];rfl,aG.o.trans ((qh HZ.o).mono aG.o.size),fun _=>?_⟩;rw[ax.o];refine⟨Q,?_,HA.o⟩;rw[dq,show (Z y)=i by omega];exact HO.o
     ·rw[Aw hE] at af
      have bx:(st.E != 0)=true:=by rw[Qv];exact hE
      have b0:=J (hE);go_wp2
      go_region
      all_goals
       go_wp2
       go_ret3
       exact⟨_,by rw[af.o];rfl,aG.o.drew,fun h=>absurd h (by rw[af.o];exact b0.o)⟩
end Go.Proofs.YtfocdefchbnkpaaGreatDoor
