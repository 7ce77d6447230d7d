import Derived.Test.YtfocdefchbnkpaaGreatDoorPkE
import Derived.Laws.CopyOwn
set_option maxRecDepth 100000
set_option maxHeartbeats 20000000
open Go renaming World->Ag,Value->Aj,Calls->Am,info_parts->Ej,heap_alloc_new->Bn,maxLen->Bh,wpList_append_lies->Ei,bodyPost_ret->Et,results->Hm,madeCells->Sz,run_convert_bytes_back->Qb,wpList_append_own->Cu
open Go.Addr.mk renaming injEq->Qo
open Go.ByteArray renaming toList_eq->El
open Go.Ending renaming returned->Af
open Go.IntKind renaming i64->Ai
open Go.Lib renaming byteCells->Ba
open Go.Obj renaming cells->Ae
open Go.Proofs.YtfocdefchbnkpaaGreatDoor.R renaming str->Aa,str_size->Bz,str_toList->Be,lines->Fu,flat_len->Od,q_len->Fy,hostLines->Ex,plain->Ic
open Go.Value renaming int->O,slice->X,pointer->Al,tuple->Cm,string->I,bool->Av,agg->Fe
open Go.Value.slice renaming injEq->Au
open Go.World renaming ownsRow_nil->Bk,grownBy_alloc->Ac,alloc->Eo,setCell->Bs
open Go.World.ownsRow renaming lt->An,alloc->Ao,form->Bm,cellAt->Ap
open List renaming replicate->Hs,length->Z
open Option renaming some->V,none->S
open Or renaming inl->Ay,inr->Bf
open Prod renaming fst->Bq
open _root_ renaming Nat->Ad,List->A,UInt8->Ab,Option->Br,Int->Ak
namespace Go.Proofs.YtfocdefchbnkpaaGreatDoor
open Go.RowKit Tryz
variable {w w':Ag}{v:Aj}{b r:A Ab}{s:T.St}
theorem TInv.tlt {a:Ad}(h:TInv w a v b s):a<w.heap.size:=by grind[T.St,TInv]
theorem TInv.other {f:Ad}(h:TInv w f v b s){k:Ad}(i:w.grownBy w' (V k))(j:k≠f)(d:b=[]\/∀g o n c,v=X (V ⟨g,o,S⟩) n c->g≠k):TInv w' f v b s:=by
 obtain⟨p,l,m,q⟩:=h.ex;refine⟨⟨p,l,m,zE q i (fun c=>j (Bc c).symm)⟩,?_,h.ap,h.len⟩;rcases d with d|d
 ·subst d
  obtain⟨a,c,rfl,_⟩:=h.rd.form;exact Ay ⟨a,c,rfl,rfl⟩
 ·exact h.rd.keep i (fun g o n c e c2=>d g o n c e (Bc c2).symm)
variable {α:Type}
theorem bU (f:T.St->α×T.St)(a:A α)(N i:Ad)(st:T.St)(h:i<N) :
  (a++(qU f (N-i) st).1,(qU f (N-i) st).2)=((a++[(f st).1])++(qU f (N-(i+1)) (f st).2).1,(qU f (N-(i+1)) (f st).2).2):=by
 rw[show N-i=N-(i+1)+1 by omega,Bl];rfl
theorem fQ {α:Type}(f:T.St->α×T.St)(b_0:α->Prop)(a:∀s,b_0 (f s).1):∀(n:Ad) (s:T.St),∀x∈(qU f n s).1,b_0 x
 |0,_,x,hx=>by cases hx
 |n+1,s,x,hx=>by
  unfold qU at hx;rcases En.1 hx with h|h
  ·rw[h];exact a s
  ·exact fQ f b_0 a n _ x h
def bR (l:A (A Ab))(i:Ad)(s:T.St):T.St:=jf (l.take i) (l.drop i) s
theorem zaQ (l:A (A Ab))(s:T.St):bR l 0 s=jf [] l s:=by unfold bR;simp
theorem zdT (l:A (A Ab))(s:T.St):bR l (Z l) s=s:=by unfold bR;simp[jf]
theorem zaP (l:A (A Ab))(i:Ad)(s:T.St)(h:i<Z l):bR l i s=bR l (i+1) ((l.take i).foldl (fun s a=>qP s (decide (l[i]≠a))) (qP s (R.header l[i] false))):=by
 unfold bR;rw[Ed h,jf,Co h]
def mY (l:A (A Ab))(x:A Ab)(k:Ad)(s:T.St):T.St:=(l.take k).foldl (fun s a=>qP s (decide (x≠a))) s
theorem zaR (l:A (A Ab))(x:A Ab)(k:Ad)(s:T.St)(h:k<Z l):mY l x (k+1) s=qP (mY l x k s) (decide (x≠l[k])):=by
 unfold mY;rw[Co h,Mb];rfl
abbrev Hd0 (a):=Ae #[I (Aa a),I ⟨#[]⟩] 185
abbrev Hd1 (a b):=Ae #[I (Aa a),I (Aa b)] 185
theorem nj {H:Ad}(h:TInv w H v b s)(C:Ad)(c0 c1 c2 c3 c4 c5:Aj)
  (hu:w.heap[C]?=V (Ae #[c0,c1,c2,c3,c4,c5,X S 0 0,X S 0 0] 126 (0,0))) (aj:C≠H) (bZ:b=[]\/∀g o n c,v=X (V ⟨g,o,S⟩) n c->g≠C):Am prog 198 #[Al (V ⟨H,0,S⟩),Al (V ⟨C,0,S⟩)] w fun e w'=>e=Af (Cm #[])/\TInv w' H v b (xE s).2/\Kept2 w w' H C/\
   ∃vS vD,w'.heap[C]?=V (Ae #[c0,c1,c2,c3,c4,c5,vS,vD] 126 (0,0))/\w'.ownsRow w.heap.size 185 2 vS (Z (xE s).1.1) (zi (xE s).1.1)/\w'.ownsRow w.heap.size 9 1 vD (Z (xE s).1.2) (zY (xE s).1.2):=by
 obtain⟨i0,hi,db,dd,de⟩:=Ej aM;obtain⟨i1,hj,a4,a5,a6⟩:=Ej fW;have cW:=uR 3 s;have HP:Y (xE s=(((vE s).1,(uQ (vE s).2).1),jf [] ((vE s).1.map Bq++(uQ (vE s).2).1) (uQ (vE s).2).2)):=rfl;have aS:Y (vE s=qU T.st (zr 3 s).1 (zr 3 s).2):=rfl;have aD:Y (∀x∈(vE s).1,Z x.1<=255):=fQ T.st _ (fun s=>j7 s) _ _;have cC:=J (hu);have dk:=h.tlt;have dy:=zO hu;have bA:=J (bZ);have ar:Y (∀(wu w':Ag) (s1:T.St) (row:Br Ad),TInv wu H v b s1->wu.grownBy w' row->(∀k,row=V k->w.heap.size<=k)->TInv w' H v b s1):=fun wu w' s1 row h1 h2 h3=>h.far h1 h2 h3
 have HF:=J (kD h 3);clear h hu bZ;generalize xE s=res at*;generalize vE s=q at*;generalize zr 3 s=fw at*;obtain⟨N,s1⟩:=fw;simp only at HF cW aS;go_in;go_wp2_with fail;refine HF.o.mono ?_;rintro e w1 ⟨rfl,b2,g1⟩;have I1:=J (b2);have K1:Y (Kept2 w w1 H C):=(Kept2.refl w H C).step g1;have U1:=J (zE cC.o g1 (fun c=>aj (Bc c)));clear b2 g1;go_wp2_with fail
 go_loopw [4,6] (fun u iv wr=>∃(i:Ad) (a:A (A Ab×A Ab)) (st:T.St) (vS:Aj),i<=N/\(Z a)=i/\iv=O Ai i/\Y (q=(a++(qU T.st (N-i) st).1,(qU T.st (N-i) st).2))/\Y (TInv wr H v b st)/\Y (Kept2 w wr H C)/\Y (wr.heap[C]?=V (Ae #[c0,c1,c2,c3,c4,c5,vS,X S 0 0] 126 (0,0)))/\Y (wr.ownsRow w.heap.size 185 2 vS (Z a) (zi a))/\Y (wr.ownsRow w.heap.size 9 1 u (Z a) (zY (a.map Bq)))) (fun _ iv _=>N-(intOf iv).toNat)
 case atStart=>exact⟨0,[],s1,_,Ax _,rfl,rfl,by show _=_;rw[aS.o];rfl,I1,K1,U1,Bk _ _ _ _,Bk _ _ _ _⟩
 case round=>
  obtain⟨i,a,st,vS,dr,cY,rfl,HE,IR,HR,HU,HS,HA⟩:=hrel;subst cY
  by_cases a7:Z a<N
  ·have bQ:(Z a:Ak)<N:=by omega
   have aa:Y (q=((a++[(T.st st).1])++(qU T.st (N-(Z a+1)) (T.st st).2).1,(qU T.st (N-(Z a+1)) (T.st st).2).2)):=by show _=_;rw[HE.o];exact bU T.st a N (Z a) st a7
   have HT:Y (T.st st=(((zj st).1,(zj (zj st).2).1),qP (zj (zj st).2).2 (R.value (zj (zj st).2).1))):=rfl;have c9:=j7 st;have b0:=j7 (zj st).2;clear HE;generalize T.st st=ts at*;obtain⟨va,vc,rfl⟩:=zL HS.o;have cM:=J (HU.o);have cx:=J HS.o;have cj:=J HA.o;go_wp2_with fail;refine(vB IR.o).mono ?_;rintro e p ⟨rfl,bC,bN⟩;have aZ:=J bC;have di:=aZ.o.tlt;have ax:=J (bN);have bd:=J (HR.o.step ax.o);have dQ:=bd.o.size;have cO:=J (zE cM.o ax.o);have bw:Y _:=zQ cx.o ax.o;have ck:Y _:=zQ cj.o ax.o;clear bN bC;generalize zj st=tx at*;obtain⟨F,s3⟩:=tx;simp only at aZ HT c9 b0;have df:∀k,((X va (Z a) vc):Aj).ownBlock=V k->k<p.heap.size:=fun k l=>(An bw.o k l).2
   go_wp2_with fail;have cH:Y _:=aZ.o.keep (Ac p (Hd0 F) S);have b6:Y (Kept2 w (Eo p (Hd0 F)) H C):=bd.o.far (Ac p (Hd0 F) S) (fun k l=>by cases l);have cP:=J (zE cO.o (Ac p (Hd0 F) S));have cy:Y _:=Ao bw.o (Hd0 F);have cl:Y _:=Ao ck.o (Hd0 F);have cc:Y ((Eo p (Hd0 F)).heap[p.heap.size]?=V (Hd0 F)):=Bn _ _;have dM:p.heap.size+1<=(Eo p (Hd0 F)).heap.size:=by simp
   have dN:(Eo p (Hd0 F)).heap.size<=p.heap.size+1:=by simp
   generalize(Eo p (Hd0 F))=wL2 at*;refine(vB cH.o).mono ?_;rintro e ae ⟨rfl,bD,bO⟩;have bG:=J bD;have an:=J (bO);have b7:=J (b6.o.step an.o);have cQ:=J (zE cP.o an.o);have cz:Y _:=zQ cy.o an.o;have bl:Y _:=zQ cl.o an.o;have aw:=J (zE cc.o an.o);clear bO bD;generalize zj s3=ty at*;obtain⟨vl,s4⟩:=ty;simp only at bG HT b0;have dC:=cbi 1 aw.o;have dD:=zm9 1 aw.o;go_wp2_with fail;have cI:Y _:=ar.o _ _ _ _ bG.o (zF ae p.heap.size 1 (I (Aa vl))) (fun k l=>by have:=Bc l;omega);have b8:Y (Kept2 w (Bs ae ⟨p.heap.size,1,S⟩ (I (Aa vl))) H C):=b7.o.far (zF ae p.heap.size 1 (I (Aa vl))) (fun k l=>by cases l;omega);have cR:=J (zE cQ.o (zF ae p.heap.size 1 (I (Aa vl))));have cA:Y _:=zJ cz.o (zF ae p.heap.size 1 (I (Aa vl))) (fun k l=>by have:=df k l;omega);have cm:Y _:=zJ bl.o (zF ae p.heap.size 1 (I (Aa vl))) (zI aw.o bl.o);have cd:Y ((Bs ae ⟨p.heap.size,1,S⟩ (I (Aa vl))).heap[p.heap.size]?=V (Hd1 F vl)):=zH aw.o (I (Aa vl));generalize(Bs ae ⟨p.heap.size,1,S⟩ (I (Aa vl)))=wL4 at*;have hv:=dj (Aa vl) wL4 (by rw[Bz];unfold Bh;omega);rw[Be] at hv;have HV:=J (hv);clear hv;refine HV.o.mono ?_;rintro e wX ⟨rfl,b1⟩;rw[b1];clear b1 wX;generalize R.value vl=vv at*;go_wp2_with fail;refine(yP cI.o vv).mono ?_;rintro e bc ⟨rfl,bE,bP⟩;have cJ:=J bE;have ao:=J (bP);have aK:=J (b8.o.step ao.o);have dR:=aK.o.size;have bJ:=J (zE cR.o ao.o);have bx:Y _:=zQ cA.o ao.o;have ah:Y _:=zQ cm.o ao.o;have aN:=J (zE cd.o ao.o);clear bP bE;generalize qP s4 vv=s5 at*;have dE:=cbi 0 aN.o;go_wp2_with (at_builtin;refine Ei _ rfl _ _ 22 rfl (w.heap.size) 9 i1 _ 1 16 underlying22 hj a4 a5 a6 rfl (by decide) _ _ _ rfl (Ao ah.o _) ⟨bc.heap.size,0,S⟩ 1 1 [I (Aa F)] rfl rfl ?c1 ?c2 (by decide) ?c3 ?c4 ?c5 (bc.heap.size+1) (by simp) ?_)
   case c1=>exact zZ _ #[_] _ _
   case c2=>intro u hu;simp at hu;subst hu;rfl
   case c3=>unfold Bh;omega
   case c4=>omega
   case c5=>have:=aK.o.size;simp;omega
   intro cV cT E bY z dp _;have cn:Y (E.ownsRow w.heap.size 9 1 (X (V ⟨cV,0,S⟩) (Z a+1) cT) (Z a+1) (zY (a.map Bq++[F]))):=by rw[xl];exact bY
   have av:∀k,(u4:Aj).ownBlock=V k->w.heap.size<=k:=fun k l=>(An ah.o k l).1
   have b3:∀k,(u4:Aj).ownBlock=V k->k<bc.heap.size:=fun k l=>(An ah.o k l).2
   have cK:Y _:=ar.o _ _ _ _ (cJ.o.keep (Ac _ _ _)) z av;have be:Y (Kept2 w E H C):=(aK.o.step (Ac _ _ _)).far z (fun k l=>by have h1:=av k l;omega);have dS:=be.o.size;have a1:Y (E.heap[C]?=V (Ae #[c0,c1,c2,c3,c4,c5,X va (Z a) vc,X S 0 0] 126 (0,0))):=zw (zE bJ.o (Ac _ _ S)) z (fun k l=>by have h1:=av k l;have h2:=b3 k l;exact zI bJ.o ah.o (by decide) k l);have cB:Y _:=zK (Ao bx.o _) z (qB ah.o bx.o);have bg:Y (E.heap[p.heap.size]?=V (Hd1 F vl)):=zw (zE aN.o (Ac _ _ S)) z (fun k l=>by have h1:=av k l;have h2:=b3 k l;exact zI aN.o ah.o (by decide) k l);clear bY z av;have dF:=cbi 0 bg.o;have dG:=cbi 1 bg.o;have dI:=zO a1.o;have dH:=cbi 6 a1.o;go_wp2;have gD:E.grownBy (E.alloc (Hd1 F vl)).drew S:=zD (Ac _ _ _) (zV _);have aE:Y ((E.alloc (Hd1 F vl)).drew.ownsRow w.heap.size 185 2 (X va (Z a) vc) (Z a) (zi a)):=Ao cB.o _;have ct:Y (∀j u,([I (Aa F),I (Aa vl)]:A Aj)[j]?=V u->(E.alloc (Hd1 F vl)).drew.cell? ((⟨E.heap.size,0,S⟩:Addr).add j)=V u):=zZ E #[_,_] _ _ rfl;have ce:Y (∀u∈([I (Aa F),I (Aa vl)]:A Aj),u.oneCell'=true):=by intro u hu;simp at hu;rcases hu with rfl|rfl <;> rfl
   have cs:Y (Z a+1<=Bh):=by show _<=_;unfold Bh;omega
   have cp:Y (w.heap.size<=(E.alloc (Hd1 F vl)).drew.heap.size):=by show _<=_;rw[show(E.alloc (Hd1 F vl)).drew.heap.size=E.heap.size+1 from by simp];omega
   have cD:Y ((E.alloc (Hd1 F vl)).drew.heap.size=E.heap.size+1):=by show _=_;simp
   have JD:Y _:=cK.o.keep gD;have CD:Y (Kept2 w (E.alloc (Hd1 F vl)).drew H C):=be.o.far gD (fun k l=>by cases l);have bH:=J (zE a1.o gD);have bi:=J (zK cn.o gD (fun k l c=>by cases c));clear gD
   go_region_law (refine step_append_lies _ rfl (.tmp 42) (.tmp 44) 124 rfl w.heap.size 185 i0 _ 2 32 underlying124 hi db dd de rfl (by decide) _ _ _ (by simp[Act.eval]) aE.o ⟨E.heap.size,0,S⟩ 1 1 [I (Aa F),I (Aa vl)] (by simp[Act.eval]) rfl ct.o ce.o (by decide) cs.o (by omega) cp.o (E.heap.size+1) cD.o ?_;intro g9 aF w9 bV Q dn dx;have a2:∀k,(X va (Z a) vc:Aj).ownBlock=V k->w.heap.size<=k:=fun k l=>(An aE.o k l).1;have J9:Y _:=ar.o _ _ _ _ JD.o Q a2;have C9:Y (Kept2 w w9 H C):=CD.o.far Q a2;have au:=J (zw bH.o Q (zI bH.o aE.o));have dA:=cbi 6 au.o;have dB:=zm9 6 au.o;have br:Y (w9.ownsRow w.heap.size 185 2 (X (V ⟨g9,0,S⟩) (Z a+1) aF) (Z (a++[(F,vl)])) (zi (a++[(F,vl)]))):=(by { rw[yW,Ah];exact bV });have bh:=J (zK bi.o Q (qB aE.o bi.o));clear bV Q a2)
   all_goals
    have gS:=zF w9 C 6 (X (V ⟨g9,0,S⟩) (Z a+1) aF);have JS:Y _:=J9.o.other gS aj bA.o;have CS:=J (C9.o.own gS);have cL:Y ((w9.setCell ⟨C,6,S⟩ (X (V ⟨g9,0,S⟩) (Z a+1) aF)).heap[C]?=V (Ae #[c0,c1,c2,c3,c4,c5,X (V ⟨g9,0,S⟩) (Z a+1) aF,X S 0 0] 126 (0,0))):=zH au.o _;have cu:Y _:=zJ br.o gS (zI au.o br.o);have cf:Y _:=zJ bh.o gS (zI au.o bh.o);clear gS;go_wp2_with fail
    go_roundw
    case rel=>exact⟨Z a+1,a++[(F,vl)],s5,_,by omega,by simp,by go_num,by rw[HT.o] at aa;exact aa,JS,CS,cL,cu,by rw[Ef,Ah];exact cf⟩
    case measure=>simp[intOf];omega
  ·have aa:Y (q=(a,st)):=by
    show _=_;rw[HE.o,show N-Z a=0 by omega];simp[qU]
   clear HE;rw[aa.o] at HP;simp only at HP;have cX:=uR 3 st;have aT:Y (uQ st=qU zj (zr 3 st).1 (zr 3 st).2):=rfl;have aC:Y (∀x∈(uQ st).1,Z x<=255):=fQ zj _ (fun s=>j7 s) _ _;rw[aa.o] at aD;simp only at aD;have aR:=J (kD IR.o 3);generalize uQ st=d at*;generalize zr 3 st=fw at*;obtain⟨M,s7⟩:=fw;simp only at aR cX aT;go_wp2_with fail;refine aR.o.mono ?_;rintro e w2 ⟨rfl,i2,g2⟩;have I2:=J (i2);have K2:=J (HR.o.step g2);have U2:=J (zE HU.o g2 (fun c=>aj (Bc c)));have bT:∀k,w.heap.size<=k->V H≠V k:=fun k l c=>by have:=Bc c;omega
   have S2:=J (zK HS.o g2 (fun k l=>bT k (An HS.o k l).1));have A2:=J (zK HA.o g2 (fun k l=>bT k (An HA.o k l).1));clear i2 g2 IR HR HU HS HA;go_wp2_with fail
   go_loopw [4,9] (fun u iv wr=>∃(f:A (A Ab)) (s2:T.St) (vD:Aj),Z f<=M/\iv=O Ai (Z f)/\Y (d=(f++(qU zj (M-Z f) s2).1,(qU zj (M-Z f) s2).2))/\Y (TInv wr H v b s2)/\Y (Kept2 w wr H C)/\Y (wr.heap[C]?=V (Ae #[c0,c1,c2,c3,c4,c5,vS,vD] 126 (0,0)))/\Y (wr.ownsRow w.heap.size 185 2 vS (Z a) (zi a))/\Y (wr.ownsRow w.heap.size 9 1 u (Z a+Z f) (zY (a.map Bq++f)))/\Y (wr.ownsRow w.heap.size 9 1 vD (Z f) (zY f))/\Y (∀k,u.ownBlock=V k->vD.ownBlock≠V k)) (fun _ iv _=>M-(intOf iv).toNat)
   case atStart=>exact⟨[],s7,_,Ax _,rfl,by show _=_;rw[aT.o];rfl,I2,K2,U2,S2,by rw[Cv];exact A2,Bk _ _ _ _,by intro k _ l;simp[Value.ownBlock] at l⟩
   case round=>
    obtain⟨f,s2,vD,dl,rfl,HE,IX,HX,aW,aU,af,az,aL⟩:=hrel
    by_cases a7:Z f<M
    ·have bQ:(Z f:Ak)<M:=by omega
     have aa:Y (d=((f++[(zj s2).1])++(qU zj (M-(Z f+1)) (zj s2).2).1,(qU zj (M-(Z f+1)) (zj s2).2).2)):=by show _=_;rw[HE.o];exact bU zj f M (Z f) s2 a7
     clear HE;obtain⟨da,dc,rfl⟩:=zL az.o;have cS:=J (aW.o);have cv:=J aU.o;have cg:=J af.o;have cq:=J az.o;go_wp2_with fail;refine(vB IX.o).mono ?_;rintro e bb ⟨rfl,bB,bM⟩;have bF:=J bB;have al:=J (bM);have aI:=J (HX.o.step al.o);have dO:=aI.o.size;have bI:=J (zE cS.o al.o);have bt:Y _:=zQ cv.o al.o;have ap:Y _:=zQ cg.o al.o;have bn:Y _:=zQ cq.o al.o;clear bM bB;generalize zj s2=tx at*;obtain⟨F,s3⟩:=tx;simp only at bF aa;go_wp2_with (at_builtin;refine Ei _ rfl _ _ 22 rfl (w.heap.size) 9 i1 _ 1 16 underlying22 hj a4 a5 a6 rfl (by decide) _ _ _ rfl (Ao ap.o _) ⟨bb.heap.size,0,S⟩ 1 1 [I (Aa F)] rfl rfl ?c1 ?c2 (by decide) ?c3 ?c4 ?c5 (bb.heap.size+1) (by simp) ?_)
     case c1=>exact zZ _ #[_] _ _
     case c2=>intro u hu;simp at hu;subst hu;rfl
     case c3=>unfold Bh;omega
     case c4=>omega
     case c5=>have:=aI.o.size;simp;omega
     intro cU bK ak bW r cZ _;have bj:Y (ak.ownsRow w.heap.size 9 1 (X (V ⟨cU,0,S⟩) (Z a+Z f+1) bK) (Z a+Z f+1) (zY (a.map Bq++f++[F]))):=by rw[xl];exact bW
     have aG:∀k,(u4:Aj).ownBlock=V k->w.heap.size<=k:=fun k l=>(An ap.o k l).1
     have dg:∀k,(u4:Aj).ownBlock=V k->k<bb.heap.size:=fun k l=>(An ap.o k l).2
     have cE:Y _:=ar.o _ _ _ _ (bF.o.keep (Ac _ _ _)) r aG;have aJ:Y (Kept2 w ak H C):=(aI.o.step (Ac _ _ _)).far r (fun k l=>by have h1:=aG k l;omega);have dP:=aJ.o.size;have a0:Y (ak.heap[C]?=V (Ae #[c0,c1,c2,c3,c4,c5,vS,X da (Z f) dc] 126 (0,0))):=zw (zE bI.o (Ac _ _ S)) r (fun k l=>by have h1:=aG k l;have h2:=dg k l;exact zI bI.o ap.o (by decide) k l);have bu:Y _:=zK (Ao bt.o _) r (qB ap.o bt.o);have aq:Y _:=zK (Ao bn.o _) r (fun k l c=>aL.o k c l);clear bW r aG;have bf:Y _:=iV (n:=Z a+Z f+1) (c:=bK) aL.o cZ (fun k l=>by have:=(An bn.o k l).2;omega);have dJ:=cbi 7 a0.o;go_wp2_with (at_builtin;refine Ei _ rfl _ _ 22 rfl (w.heap.size) 9 i1 _ 1 16 underlying22 hj a4 a5 a6 rfl (by decide) _ _ _ rfl (Ao aq.o _) ⟨ak.heap.size,0,S⟩ 1 1 [I (Aa F)] rfl rfl ?c1 ?c2 (by decide) ?c3 ?c4 ?c5 (ak.heap.size+1) (by simp) ?_)
     case c1=>exact zZ _ #[_] _ _
     case c2=>intro u hu;simp at hu;subst hu;rfl
     case c3=>unfold Bh;omega
     case c4=>omega
     case c5=>have:=aJ.o.size;simp;omega
     intro ab m ad bX t c6 _;have bo:Y (ad.ownsRow w.heap.size 9 1 (X (V ⟨ab,0,S⟩) (Z f+1) m) (Z (f++[F])) (zY (f++[F]))):=by rw[xl,Ah];exact bX
     have aH:∀k,((X da (Z f) dc):Aj).ownBlock=V k->w.heap.size<=k:=fun k l=>(An aq.o k l).1
     have dh:∀k,((X da (Z f) dc):Aj).ownBlock=V k->k<ak.heap.size:=fun k l=>(An aq.o k l).2
     have cF:Y _:=ar.o _ _ _ _ (cE.o.keep (Ac _ _ _)) t aH;have b4:Y (Kept2 w ad H C):=(aJ.o.step (Ac _ _ _)).far t (fun k l=>by have h1:=aH k l;omega);have ai:Y (ad.heap[C]?=V (Ae #[c0,c1,c2,c3,c4,c5,vS,X da (Z f) dc] 126 (0,0))):=zw (zE a0.o (Ac _ _ S)) t (fun k l=>by have h1:=aH k l;have h2:=dh k l;exact zI a0.o aq.o (by decide) k l);have bv:Y _:=zK (Ao bu.o _) t (qB aq.o bu.o);have bk:Y _:=zK (Ao bj.o _) t (bf.o);clear bX t aH;have b9:Y _:=rP (n:=Z f+1) (c:=m) bf.o c6 (fun k l=>by have:=(An bj.o k l).2;omega);have dK:=cbi 7 ai.o;have dL:=zm9 7 ai.o;go_wp2_with fail;have cG:Y _:=cF.o.other (zF ad C 7 (X (V ⟨ab,0,S⟩) (Z f+1) m)) aj bA.o;have b5:=J (b4.o.own (zF ad C 7 (X (V ⟨ab,0,S⟩) (Z f+1) m)));have cN:Y ((Bs ad ⟨C,7,S⟩ (X (V ⟨ab,0,S⟩) (Z f+1) m)).heap[C]?=V (Ae #[c0,c1,c2,c3,c4,c5,vS,X (V ⟨ab,0,S⟩) (Z f+1) m] 126 (0,0))):=zH ai.o (X (V ⟨ab,0,S⟩) (Z f+1) m);have cw:Y _:=zJ bv.o (zF ad C 7 (X (V ⟨ab,0,S⟩) (Z f+1) m)) (zI ai.o bv.o);have ch:Y _:=zJ bk.o (zF ad C 7 (X (V ⟨ab,0,S⟩) (Z f+1) m)) (zI ai.o bk.o);have cr:Y _:=zJ bo.o (zF ad C 7 (X (V ⟨ab,0,S⟩) (Z f+1) m)) (zI ai.o bo.o);generalize(Bs ad ⟨C,7,S⟩ (X (V ⟨ab,0,S⟩) (Z f+1) m))=wD4 at*
     go_roundw
     case rel=>exact⟨f++[F],s3,_,by simp;omega,by simp,by rw[Ah];exact aa,cG,b5,cN,cw,by rw[Ah,<-Bl];exact ch.o,cr,b9⟩
     case measure=>simp[intOf];omega
    ·have aa:Y (d=(f,s2)):=by
      show _=_;rw[HE.o,show M-Z f=0 by omega];simp[qU]
     clear HE;rw[aa.o] at HP aC;simp only at HP aC;have a3:Z (a.map Bq++f)=Z a+Z f:=by simp
     obtain⟨B,aO⟩:∃B,Y (B=a.map Bq++f):=⟨_,rfl⟩;rw[<-aO.o] at HP af a3;have co:Y (∀x∈B,Z x<=255):=fun x hx=>by
      rw[aO.o] at hx;rcases Ea.1 hx with hx|hx
      ·obtain⟨y,hy,rfl⟩:=Hr.1 hx;exact aD.o y hy
      ·exact aC.o x hx
     have dm:Z B<=600:=by omega
     rw[<-a3] at af;obtain⟨ua,uc,rfl⟩:=zL af.o;have bs:Y (res.1.1=a/\res.1.2=f):=by rw[HP.o];exact⟨rfl,rfl⟩
     have bq:Y (res.2=bR B 0 s2):=by show _=_;rw[HP.o,zaQ]
     clear aO aL a3;go_wp2_with fail
     go_loopw [11] (fun iv wr=>∃(i:Ad) (s3:T.St),i<=Z B/\iv=O Ai i/\Y (res.2=bR B i s3)/\Y (TInv wr H v b s3)/\Y (Kept2 w wr H C)/\Y (wr.heap[C]?=V (Ae #[c0,c1,c2,c3,c4,c5,vS,vD] 126 (0,0)))/\Y (wr.ownsRow w.heap.size 185 2 vS (Z a) (zi a))/\Y (wr.ownsRow w.heap.size 9 1 (X ua (Z B) uc) (Z B) (zY B))/\Y (wr.ownsRow w.heap.size 9 1 vD (Z f) (zY f))) (fun iv _=>Z B-(intOf iv).toNat)
     case atStart=>exact⟨0,s2,Ax _,rfl,bq,IX,HX,aW,aU,af,az⟩
     case round=>
      obtain⟨i,s3,ds,rfl,HL,IY,HY,aX,aV,ay,aQ⟩:=hrel;clear IX HX aW aU af az
      by_cases a8:i<Z B
      ·have bQ:(i:Ak)<Z B:=by omega
       obtain⟨g,gc,e1,_,dq⟩:=Bm ay.o (by omega);simp only[Au,Fb] at e1;obtain⟨rfl,rfl⟩:=e1;have bz:=J (zaP B i s3 a8);rw[bz.o] at HL;have dz:B[i].length<=255:=co.o _ (Cr a8);have aP:Y (∀(W:Ag),W.ownsRow w.heap.size 9 1 (X (V ⟨g,0,S⟩) (Z B) uc) (Z B) (zY B)->W.cell? ⟨g,i,S⟩=V (I (Aa B[i]))/\∀k (l:k<Z B),W.cell? ⟨g,k,S⟩=V (I (Aa B[k]))):=fun W hW=>by
        have hh:∀k (l:k<Z B),W.cell? ⟨g,k,S⟩=V (I (Aa B[k])):=fun k l=>by
         have h:=Ap hW k (by omega);rw[h];unfold zY;simp[l]
        exact⟨hh i a8,hh⟩
       have ci:wr.cell? ⟨g,i,S⟩=V (I (Aa B[i])):=(aP.o wr ay.o).1;have hh:=tz (Aa B[i]) false wr (by rw[Bz];omega);rw[Be] at hh;have HH:=J (hh);clear hh;generalize R.header B[i] false=hd at*;generalize B[i]=x at*;go_wp2_with fail;refine HH.o.mono ?_;rintro e w4 ⟨rfl,bL⟩;have g4:=zt bL;have I4:=J (IY.o.keep g4);have K4:Y (Kept2 w w4 H C):=HY.o.far g4 (fun k l=>by cases l);have U4:=J (zE aX.o g4);have S4:=J (zK aV.o g4 (fun k l c=>by cases c));have A4:=J (zK ay.o g4 (fun k l c=>by cases c));have D4:=J (zK aQ.o g4 (fun k l c=>by cases c));clear bL g4 ci IY HY aX aV ay aQ;go_wp2_with fail;refine(yP I4.o hd).mono ?_;rintro e w5 ⟨rfl,i5,g5⟩;have a9:∀k,w.heap.size<=k->V H≠V k:=fun k l c=>by have:=Bc c;omega
       have I5:=J (i5);have K5:=J (K4.o.step g5);have U5:=J (zE U4.o g5 (fun c=>aj (Bc c)));have S5:=J (zK S4.o g5 (fun k l=>a9 k (An S4.o k l).1));have A5:=J (zK A4.o g5 (fun k l=>a9 k (An A4.o k l).1));have D5:=J (zK D4.o g5 (fun k l=>a9 k (An D4.o k l).1));clear i5 g5;generalize qP s3 hd=t0 at*;go_wp2_with fail
       go_loopw [13] (fun iv wr=>∃(k:Ad),k<=i/\iv=O Ai k/\Y (TInv wr H v b (mY B x k t0))/\Y (Kept2 w wr H C)/\Y (wr.heap[C]?=V (Ae #[c0,c1,c2,c3,c4,c5,vS,vD] 126 (0,0)))/\Y (wr.ownsRow w.heap.size 185 2 vS (Z a) (zi a))/\Y (wr.ownsRow w.heap.size 9 1 (X (V ⟨g,0,S⟩) (Z B) uc) (Z B) (zY B))/\Y (wr.ownsRow w.heap.size 9 1 vD (Z f) (zY f))) (fun iv _=>i-(intOf iv).toNat)
       case atStart=>exact⟨0,Ax _,rfl,I5,K5,U5,S5,A5,D5⟩
       case round=>
        obtain⟨k,du,rfl,IZ,HZ,aY,aB,ag,aA⟩:=hrel
        by_cases dw:k<i
        ·have dt:(k:Ak)<i:=by omega
         have bS:k<Z B:=by omega
         have dv:(k:Ak)<Z B:=by omega
         have ca:wr.cell? ⟨g,i,S⟩=V (I (Aa x)):=(aP.o wr ag.o).1;have cb:wr.cell? ⟨g,k,S⟩=V (I (Aa B[k])):=(aP.o wr ag.o).2 k bS;have bp:=J (zaR B x k t0 bS);generalize B[k]=y at*;have bm:Y ((!(Aa x).toList == (Aa y).toList)=decide (x≠y)):=by
          show _=_;rw[El,El,Be,Be,Eb];simp
         have HC:Y (Am prog 141 #[Al (V ⟨H,0,S⟩),Av (!(Aa x).toList == (Aa y).toList)] wr.drew fun e w'=>e=Af (Cm #[])/\TInv w' H v b (mY B x (k+1) t0)/\wr.grownBy w' (V H)):=by
          show Am _ _ _ _ _;rw[bm.o,bp.o];exact(yP (IZ.o.keep (zV _)) _).mono fun e w' ⟨q1,q2,q3⟩=>⟨q1,q2,zD (zT (zV _) _) q3⟩
         go_wp2
         go_region_law (go_simp;go_at_call 141;refine HC.o.mono ?_;rintro e w6 ⟨rfl,i6,g6⟩;have I6:Y (TInv w6 H v b (mY B x (k+1) t0)):=i6;have G6:Y (wr.grownBy w6 (V H)):=g6;clear i6 g6)
         all_goals
          have ba:∀k,w.heap.size<=k->V H≠V k:=fun k l c=>by have:=Bc c;omega
          have K6:=J (HZ.o.step G6.o);have U6:=J (zE aY.o G6.o (fun c=>aj (Bc c)));have S6:=J (zK aB.o G6.o (fun k l=>ba k (An aB.o k l).1));have A6:=J (zK ag.o G6.o (fun k l=>ba k (An ag.o k l).1));have D6:=J (zK aA.o G6.o (fun k l=>ba k (An aA.o k l).1));clear IZ HZ aY aB ag aA ca cb;go_wp2_with fail
          go_roundw
          case rel=>exact⟨k+1,by omega,by go_num,I6,K6,U6,S6,A6,D6⟩
          case measure=>simp[intOf];omega
        ·have c8:k=i:=by omega
         subst c8;go_wp2_with fail
         go_roundw
         case rel=>exact⟨k+1,mY B x k t0,by omega,by go_num,HL,IZ,HZ,aY,aB,ag,aA⟩
         case measure=>simp[intOf];omega
      ·have c7:i=Z B:=by omega
       subst c7;rw[zdT] at HL;go_wp2
       go_end0
       refine⟨rfl,?_,HY.o,vS,vD,aX.o,?_,?_⟩
       ·rw[HL.o];exact IY.o
       ·rw[bs.o.1];exact aV.o
       ·rw[bs.o.2];exact aQ.o
theorem TInv.low {a:Ad}(h:TInv w a v b s){k:Ad}(d:w.heap.size<=k):b=[]\/∀g o n c,v=X (V ⟨g,o,S⟩) n c->g≠k:=by
 rcases h.rd with ⟨_,_,_,q⟩|⟨g',o',c',q,_,q2,_⟩
 ·exact Ay q
 grind[Option.some.injEq,T.St,TInv]
theorem zg0 {tb:Ad}(h:TInv w tb v b s):Am prog 144 #[Al (V ⟨tb,0,S⟩)] w fun e w'=>∃cs,e=Af (Fe cs.toArray)/\RuleVal w' cs (jE s).1/\TInv w' tb v b (jE s).2/\w.grownBy w' (V tb):=by
 have HT:Y (jE s=(⟨(xa s).1,(yv (xa s).2).1,(jU (yv (xa s).2).2).1,(jL (jU (yv (xa s).2).2).2).1,(T.to (jL (jU (yv (xa s).2).2).2).2).1.1,(T.to (jL (jU (yv (xa s).2).2).2).2).1.2,
  (xE (T.to (jL (jU (yv (xa s).2).2).2).2).2).1.1,(xE (T.to (jL (jU (yv (xa s).2).2).2).2).2).1.2⟩,
 (xE (T.to (jL (jU (yv (xa s).2).2).2).2).2).2)):=by show _=_;unfold jE;rfl
 have a3:Y (yv (xa s).2=((zj (xa s).2).1,qP (zj (xa s).2).2 (R.path (zj (xa s).2).1))):=by show _=_;unfold yv;rfl
 have bz:=j7 (xa s).2;have J0:Y (TInv (w.alloc (Ae #[O Ai 0,I ⟨#[]⟩,X S 0 0,X S 0 0,Av false,I ⟨#[]⟩,X S 0 0,X S 0 0] 126)) tb v b s):=h.keep (Ac _ _ S);have C0:Y (w.grownBy (w.alloc (Ae #[O Ai 0,I ⟨#[]⟩,X S 0 0,X S 0 0,Av false,I ⟨#[]⟩,X S 0 0,X S 0 0] 126)) (V tb)):=Ac _ _ _;have ba:Y ((w.alloc (Ae #[O Ai 0,I ⟨#[]⟩,X S 0 0,X S 0 0,Av false,I ⟨#[]⟩,X S 0 0,X S 0 0] 126)).heap[w.heap.size]?=V (Ae #[O Ai 0,I ⟨#[]⟩,X S 0 0,X S 0 0,Av false,I ⟨#[]⟩,X S 0 0,X S 0 0] 126)):=Bn _ _;have b2:=h.tlt;have b4:w.heap.size+1<=(w.alloc (Ae #[O Ai 0,I ⟨#[]⟩,X S 0 0,X S 0 0,Av false,I ⟨#[]⟩,X S 0 0,X S 0 0] 126)).heap.size:=by simp
 have ab:Y (∀(wu w':Ag) (s1:T.St) (row:Br Ad),TInv wu tb v b s1->wu.grownBy w' row->(∀k,row=V k->w.heap.size<=k)->TInv w' tb v b s1):=fun wu w' s1 row h1 h2 h3=>h.far h1 h2 h3
 have aY:Y (∀k,w.heap.size<=k->(b=[]\/∀g o n c,v=X (V ⟨g,o,S⟩) n c->g≠k)):=fun k y=>h.low y
 generalize jE s=res at*;generalize yv (xa s).2=pt at*;rw[a3.o] at HT;simp only at HT;go_in;go_wp2_with fail;refine(oh J0.o).mono ?_;rintro e f ⟨rfl,I1,aC⟩;have J1:=J I1;have b1:=J1.o.tlt;have s1:(w.alloc (Ae #[O Ai 0,I ⟨#[]⟩,X S 0 0,X S 0 0,Av false,I ⟨#[]⟩,X S 0 0,X S 0 0] 126)).heap.size+0<=f.heap.size:=by have h:=aC.size;simpa using h
 have G1:=J (aC);have C1:=J (zD C0.o G1.o);have z1:=C1.o.size;have bb:=J (zE ba.o G1.o);generalize xa s=tw at*;obtain⟨i,s1⟩:=tw;simp only at J1 HT bz;go_wp2_with fail;have J2:Y _:=J1.o.keep (Ac f (Ae #[O Ai i,I ⟨#[]⟩,X S 0 0,X S 0 0,Av false,I ⟨#[]⟩,X S 0 0,X S 0 0] 126) S);have C2:Y (w.grownBy (Eo f (Ae #[O Ai i,I ⟨#[]⟩,X S 0 0,X S 0 0,Av false,I ⟨#[]⟩,X S 0 0,X S 0 0] 126)) (V tb)):=zD C1.o (Ac f (Ae #[O Ai i,I ⟨#[]⟩,X S 0 0,X S 0 0,Av false,I ⟨#[]⟩,X S 0 0,X S 0 0] 126) _);have bc:=J (zE bb.o (Ac f (Ae #[O Ai i,I ⟨#[]⟩,X S 0 0,X S 0 0,Av false,I ⟨#[]⟩,X S 0 0,X S 0 0] 126) S));have bo:Y ((Eo f (Ae #[O Ai i,I ⟨#[]⟩,X S 0 0,X S 0 0,Av false,I ⟨#[]⟩,X S 0 0,X S 0 0] 126)).heap[f.heap.size]?=V (Ae #[O Ai i,I ⟨#[]⟩,X S 0 0,X S 0 0,Av false,I ⟨#[]⟩,X S 0 0,X S 0 0] 126)):=Bn _ _;have s2:f.heap.size+1<=(Eo f (Ae #[O Ai i,I ⟨#[]⟩,X S 0 0,X S 0 0,Av false,I ⟨#[]⟩,X S 0 0,X S 0 0] 126)).heap.size:=by simp
 have C:(Eo f (Ae #[O Ai i,I ⟨#[]⟩,X S 0 0,X S 0 0,Av false,I ⟨#[]⟩,X S 0 0,X S 0 0] 126)).heap.size<=f.heap.size+1:=by simp
 generalize(Eo f (Ae #[O Ai i,I ⟨#[]⟩,X S 0 0,X S 0 0,Av false,I ⟨#[]⟩,X S 0 0,X S 0 0] 126))=w2 at*;refine(vB J2.o).mono ?_;rintro e w3 ⟨rfl,I3,aD⟩;have J3:=J I3;have s3:w2.heap.size+0<=w3.heap.size:=by have h:=aD.size;simpa using h
 have G3:=J (aD);have C3:=J (zD C2.o G3.o);have bd:=J (zE bc.o G3.o);have ao:=J (zE bo.o G3.o);generalize zj s1=tx at*;obtain⟨j,s2⟩:=tx;simp only at J3 HT bz;have bB:=cbi 1 ao.o;have bC:=zm9 1 ao.o;go_wp2_with fail;have J4:Y _:=ab.o _ _ _ _ J3.o (zF w3 f.heap.size 1 (I (Aa j))) (fun k y=>by have:=Bc y;omega);have C4:=J (ze C3.o (zF w3 f.heap.size 1 (I (Aa j))));have be:=J (zE bd.o (zF w3 f.heap.size 1 (I (Aa j))));have bp:Y ((Bs w3 ⟨f.heap.size,1,S⟩ (I (Aa j))).heap[f.heap.size]?=V (Ae #[O Ai i,I (Aa j),X S 0 0,X S 0 0,Av false,I ⟨#[]⟩,X S 0 0,X S 0 0] 126)):=zH ao.o (I (Aa j));have s4:w3.heap.size<=(Bs w3 ⟨f.heap.size,1,S⟩ (I (Aa j))).heap.size:=by simp[Bs]
 generalize(Bs w3 ⟨f.heap.size,1,S⟩ (I (Aa j)))=w4 at*;have hv:=nc (Aa j) w4 (by rw[Bz];unfold Bh;omega);rw[Be] at hv;have HV:=J (hv);refine HV.o.mono ?_;rintro e wX ⟨rfl,am⟩;rw[am];generalize R.path j=pp at*;go_wp2_with fail;refine(yP J4.o pp).mono ?_;rintro e w5 ⟨rfl,I5,aE⟩;have J5:=J I5;have b5:=J5.o.tlt;have s5:w4.heap.size+0<=w5.heap.size:=by have h:=aE.size;simpa using h
 have G5:=J (aE);have C5:=J (zD C4.o G5.o);have bf:=J (zE be.o G5.o);have bq:=J (zE bp.o G5.o);generalize qP s2 pp=s3 at*;go_wp2_with fail;refine(eL J5.o).mono ?_;rintro e w6 ⟨uM,rfl,I6,aF,oM⟩;have J6:=J I6;have b6:=J6.o.tlt;have s6:w5.heap.size+0<=w6.heap.size:=by have h:=aF.size;simpa using h
 have G6:=J (aF);have C6:=J (zD C5.o G6.o);have bg:=J (zE bf.o G6.o);have al:=J (zE bq.o G6.o);generalize jU s3=tm at*;obtain⟨u,s4⟩:=tm;simp only at J6 HT oM;obtain⟨z,B,rfl⟩:=zL oM;have ax:=J oM;have bD:=cbi 2 al.o;have bE:=zm9 2 al.o;go_wp2_with fail;have J7:Y _:=ab.o _ _ _ _ J6.o (zF w6 f.heap.size 2 (X z (Z u) B)) (fun k y=>by have:=Bc y;omega);have C7:=J (ze C6.o (zF w6 f.heap.size 2 (X z (Z u) B)));have bh:=J (zE bg.o (zF w6 f.heap.size 2 (X z (Z u) B)));have br:Y ((Bs w6 ⟨f.heap.size,2,S⟩ (X z (Z u) B)).heap[f.heap.size]?=V (Ae #[O Ai i,I (Aa j),X z (Z u) B,X S 0 0,Av false,I ⟨#[]⟩,X S 0 0,X S 0 0] 126)):=zH al.o (X z (Z u) B);have aZ:Y _:=zJ ax.o (zF w6 f.heap.size 2 (X z (Z u) B)) (zI al.o ax.o);have s7:w6.heap.size<=(Bs w6 ⟨f.heap.size,2,S⟩ (X z (Z u) B)).heap.size:=by simp[Bs]
 have y7:(Bs w6 ⟨f.heap.size,2,S⟩ (X z (Z u) B)).heap.size<=w6.heap.size:=by simp[Bs]
 generalize(Bs w6 ⟨f.heap.size,2,S⟩ (X z (Z u) B))=w7 at*;have b7:tb<w7.heap.size:=by omega
 refine(eM J7.o).mono ?_;rintro e w8 ⟨uT,rfl,I8,aG,oT⟩;have J8:=J I8;have s8:w7.heap.size+0<=w8.heap.size:=by have h:=aG.size;simpa using h
 have G8:=J (aG);have C8:=J (zD C7.o G8.o);have bi:=J (zE bh.o G8.o);have ai:=J (zE br.o G8.o);have ay:Y _:=zQ aZ.o G8.o;generalize jL s4=tt at*;obtain⟨x,s5⟩:=tt;simp only at J8 HT oT;obtain⟨E,C,rfl⟩:=zL oT;have au:=J oT;have bF:=cbi 3 ai.o;have bG:=zm9 3 ai.o;go_wp2_with fail;have J9:Y _:=ab.o _ _ _ _ J8.o (zF w8 f.heap.size 3 (X E (Z x) C)) (fun k y=>by have:=Bc y;omega);have C9:=J (ze C8.o (zF w8 f.heap.size 3 (X E (Z x) C)));have bj:=J (zE bi.o (zF w8 f.heap.size 3 (X E (Z x) C)));have bs:Y ((Bs w8 ⟨f.heap.size,3,S⟩ (X E (Z x) C)).heap[f.heap.size]?=V (Ae #[O Ai i,I (Aa j),X z (Z u) B,X E (Z x) C,Av false,I ⟨#[]⟩,X S 0 0,X S 0 0] 126)):=zH ai.o (X E (Z x) C);have a0:Y _:=zJ ay.o (zF w8 f.heap.size 3 (X E (Z x) C)) (zI ai.o ay.o);have aV:Y _:=zJ au.o (zF w8 f.heap.size 3 (X E (Z x) C)) (zI ai.o au.o);have s9:w8.heap.size<=(Bs w8 ⟨f.heap.size,3,S⟩ (X E (Z x) C)).heap.size:=by simp[Bs]
 generalize(Bs w8 ⟨f.heap.size,3,S⟩ (X E (Z x) C))=w9 at*;have aU:=J (kD J9.o 1);refine(aU.o).mono ?_;rintro e ad ⟨rfl,a4,bv⟩;have ak:=J a4;have af:=J (bv);have an:=J (zD C9.o af.o);have Q:=J (zE bj.o af.o);have q:=J (zE bs.o af.o);have t:Y _:=zQ a0.o af.o;have r:Y _:=zQ aV.o af.o;have aa:Y (T.to s5=if (zr 1 s5).1=1 then ((true,(zj (zr 1 s5).2).1),qP (zj (zr 1 s5).2).2 (R.path (zj (zr 1 s5).2).1)) else ((false,[]),(zr 1 s5).2)):=by show _=_;unfold T.to yv;rfl
 generalize T.to s5=tto at*;generalize zr 1 s5=fk at*;obtain⟨kk,s6⟩:=fk;simp only at ak aa
 by_cases y:kk=1
 ·subst y
  rw[Az rfl] at aa;have bA:=j7 s6;have bH:=cbi 4 q.o;have bI:=zm9 4 q.o;go_wp2_with fail;have a7:Y _:=ab.o _ _ _ _ ak.o (zF ad f.heap.size 4 (Av true)) (fun k y=>by have:=Bc y;omega);have aQ:=J (ze an.o (zF ad f.heap.size 4 (Av true)));have bk:=J (zE Q.o (zF ad f.heap.size 4 (Av true)));have bt:Y ((Bs ad ⟨f.heap.size,4,S⟩ (Av true)).heap[f.heap.size]?=V (Ae #[O Ai i,I (Aa j),X z (Z u) B,X E (Z x) C,Av true,I ⟨#[]⟩,X S 0 0,X S 0 0] 126)):=zH q.o (Av true);have a1:Y _:=zJ t.o (zF ad f.heap.size 4 (Av true)) (zI q.o t.o);have aW:Y _:=zJ r.o (zF ad f.heap.size 4 (Av true)) (zI q.o r.o);generalize(Bs ad ⟨f.heap.size,4,S⟩ (Av true))=wy1 at*;refine(vB a7.o).mono ?_;rintro e ae ⟨rfl,a5,bw⟩;have aB:=J a5;have ag:=J (bw);have aR:=J (zD aQ.o ag.o);have bl:=J (zE bk.o ag.o);have F:=J (zE bt.o ag.o);have az:Y _:=zQ a1.o ag.o;have av:Y _:=zQ aW.o ag.o;generalize zj s6=ty at*;obtain⟨p,s7⟩:=ty;simp only at aB aa bA;have bJ:=cbi 5 F.o;have bK:=zm9 5 F.o;go_wp2_with fail;have a8:Y _:=ab.o _ _ _ _ aB.o (zF ae f.heap.size 5 (I (Aa p))) (fun k y=>by have:=Bc y;omega);have aS:=J (ze aR.o (zF ae f.heap.size 5 (I (Aa p))));have bm:=J (zE bl.o (zF ae f.heap.size 5 (I (Aa p))));have bu:Y ((Bs ae ⟨f.heap.size,5,S⟩ (I (Aa p))).heap[f.heap.size]?=V (Ae #[O Ai i,I (Aa j),X z (Z u) B,X E (Z x) C,Av true,I (Aa p),X S 0 0,X S 0 0] 126)):=zH F.o (I (Aa p));have a2:Y _:=zJ az.o (zF ae f.heap.size 5 (I (Aa p))) (zI F.o az.o);have aX:Y _:=zJ av.o (zF ae f.heap.size 5 (I (Aa p))) (zI F.o av.o);generalize(Bs ae ⟨f.heap.size,5,S⟩ (I (Aa p)))=wy3 at*;have hv:=nc (Aa p) wy3 (by rw[Bz];unfold Bh;omega);rw[Be] at hv;have HV:=J (hv);refine HV.o.mono ?_;rintro e wX ⟨rfl,am⟩;rw[am];generalize R.path p=pp2 at*;go_wp2_with fail;refine(yP a8.o pp2).mono ?_;rintro e b8 ⟨rfl,a6,bx⟩;have a9:=J a6;have ah:=J (bx);have aT:=J (zD aS.o ah.o);have bn:=J (zE bm.o ah.o);have ap:=J (zE bu.o ah.o);have N:Y _:=zQ a2.o ah.o;have H:Y _:=zQ aX.o ah.o;generalize qP s7 pp2=s8 at*;have aj:Y (res=(⟨i,j,u,x,true,p,(xE s8).1.1,(xE s8).1.2⟩,(xE s8).2)):=by show _=_;rw[HT.o,aa.o]
  go_wp2_with fail;refine(nj a9.o f.heap.size (O Ai i) (I (Aa j)) (X z (Z u) B) (X E (Z x) C) (Av true) (I (Aa p)) ap.o (by omega) (aY.o _ (by omega))).mono ?_;rintro e w9 ⟨rfl,i9,k9,vS,vD,u9,oS,oD⟩;have J9:=J i9;have C9:=J (wy aT.o k9);have a:=J (k9.keep bn.o (by omega) (by omega));have aw:Y (w9.ownsRow 0 181 3 (X z (Z u) B) (Z u) (xC u)):=zo (vp N.o k9 (fun k y=>⟨by have:=(An N.o k y).1;omega,zI ap.o N.o (by decide) k y⟩)) (Ax _);have ar:Y (w9.ownsRow 0 183 2 (X E (Z x) C) (Z x) (zx x)):=zo (vp H.o k9 (fun k y=>⟨by have:=(An H.o k y).1;omega,zI ap.o H.o (by decide) k y⟩)) (Ax _);generalize xE s8=ed at*;obtain⟨⟨m,d⟩,s9⟩:=ed;simp only at J9 oS oD aj;obtain⟨x1,x2,rfl⟩:=zL oS;obtain⟨d1,d2,rfl⟩:=zL oD;have aA:Y (w9.ownsRow 0 185 2 (X x1 (Z m) x2) (Z m) (zi m)):=zo oS (Ax _);have aq:Y (w9.ownsRow 0 9 1 (X d1 (Z d) d2) (Z d) (zY d)):=zo oD (Ax _);have bT:=cbi 0 u9;have bU:=cbi 1 u9;have bV:=cbi 2 u9;have bW:=cbi 3 u9;have bX:=cbi 4 u9;have bY:=cbi 5 u9;have bZ:=cbi 6 u9;have b0:=cbi 7 u9;have aI:=cbi 0 a.o;have bL:=zm9 0 a.o;have aJ:=cbi 1 a.o;have bM:=zm9 1 a.o;have aK:=cbi 2 a.o;have bN:=zm9 2 a.o;have aL:=cbi 3 a.o;have bO:=zm9 3 a.o;have aM:=cbi 4 a.o;have bP:=zm9 4 a.o;have aN:=cbi 5 a.o;have bQ:=zm9 5 a.o;have aO:=cbi 6 a.o;have bR:=zm9 6 a.o;have aP:=cbi 7 a.o;have bS:=zm9 7 a.o;have hs:=zD (zD (zD (zD (zD (zD (zD (zF w9 w.heap.size 0 (O Ai i)) (zF _ w.heap.size 1 (I (Aa j)))) (zF _ w.heap.size 2 (X z (Z u) B))) (zF _ w.heap.size 3 (X E (Z x) C))) (zF _ w.heap.size 4 (Av true))) (zF _ w.heap.size 5 (I (Aa p)))) (zF _ w.heap.size 6 (X x1 (Z m) x2))) (zF _ w.heap.size 7 (X d1 (Z d) d2));go_wp2;refine Et (v:=.agg #[O Ai i,I (Aa j),X z (Z u) B,X E (Z x) C,Av true,I (Aa p),X x1 (Z m) x2,X d1 (Z d) d2]) (by simp[Hm,results144,go_sem,aI,aJ,aK,aL,aM,aN,aO,aP]) rfl ?_;rw[aj.o];have aH:=xQ a.o (l:=leaves);exact⟨[O Ai i,I (Aa j),X z (Z u) B,X E (Z x) C,Av true,I (Aa p),X x1 (Z m) x2,X d1 (Z d) d2],rfl,RuleVal.keep ⟨_,_,_,_,rfl,aw.o,ar.o,aA.o,aq.o⟩ hs aH,ab.o _ _ _ _ J9.o hs (fun k c=>by have:=Bc c;omega),ze C9.o hs (Aq _)⟩
 ·rw[Aw y] at aa
  have b3:¬((kk:Ak)=1):=by omega
  have aj:Y (res=(⟨i,j,u,x,false,[],(xE s6).1.1,(xE s6).1.2⟩,(xE s6).2)):=by show _=_;rw[HT.o,aa.o]
  go_wp2_with fail;refine(nj ak.o f.heap.size (O Ai i) (I (Aa j)) (X z (Z u) B) (X E (Z x) C) (Av false) (I ⟨#[]⟩) q.o (by omega) (aY.o _ (by omega))).mono ?_;rintro e w9 ⟨rfl,i9,k9,vS,vD,u9,oS,oD⟩;have J9:=J i9;have C9:=J (wy an.o k9);have a:=J (k9.keep Q.o (by omega) (by omega));have aw:Y (w9.ownsRow 0 181 3 (X z (Z u) B) (Z u) (xC u)):=zo (vp t.o k9 (fun k y=>⟨by have:=(An t.o k y).1;omega,zI q.o t.o (by decide) k y⟩)) (Ax _);have ar:Y (w9.ownsRow 0 183 2 (X E (Z x) C) (Z x) (zx x)):=zo (vp r.o k9 (fun k y=>⟨by have:=(An r.o k y).1;omega,zI q.o r.o (by decide) k y⟩)) (Ax _);generalize xE s6=ed at*;obtain⟨⟨m,d⟩,s9⟩:=ed;simp only at J9 oS oD aj;obtain⟨x1,x2,rfl⟩:=zL oS;obtain⟨d1,d2,rfl⟩:=zL oD;have aA:Y (w9.ownsRow 0 185 2 (X x1 (Z m) x2) (Z m) (zi m)):=zo oS (Ax _);have aq:Y (w9.ownsRow 0 9 1 (X d1 (Z d) d2) (Z d) (zY d)):=zo oD (Ax _);have bT:=cbi 0 u9;have bU:=cbi 1 u9;have bV:=cbi 2 u9;have bW:=cbi 3 u9;have bX:=cbi 4 u9;have bY:=cbi 5 u9;have bZ:=cbi 6 u9;have b0:=cbi 7 u9;have aI:=cbi 0 a.o;have bL:=zm9 0 a.o;have aJ:=cbi 1 a.o;have bM:=zm9 1 a.o;have aK:=cbi 2 a.o;have bN:=zm9 2 a.o;have aL:=cbi 3 a.o;have bO:=zm9 3 a.o;have aM:=cbi 4 a.o;have bP:=zm9 4 a.o;have aN:=cbi 5 a.o;have bQ:=zm9 5 a.o;have aO:=cbi 6 a.o;have bR:=zm9 6 a.o;have aP:=cbi 7 a.o;have bS:=zm9 7 a.o;have hs:=zD (zD (zD (zD (zD (zD (zD (zF w9 w.heap.size 0 (O Ai i)) (zF _ w.heap.size 1 (I (Aa j)))) (zF _ w.heap.size 2 (X z (Z u) B))) (zF _ w.heap.size 3 (X E (Z x) C))) (zF _ w.heap.size 4 (Av false))) (zF _ w.heap.size 5 (I ⟨#[]⟩))) (zF _ w.heap.size 6 (X x1 (Z m) x2))) (zF _ w.heap.size 7 (X d1 (Z d) d2));go_wp2;refine Et (v:=.agg #[O Ai i,I (Aa j),X z (Z u) B,X E (Z x) C,Av false,I ⟨#[]⟩,X x1 (Z m) x2,X d1 (Z d) d2]) (by simp[Hm,results144,go_sem,aI,aJ,aK,aL,aM,aN,aO,aP]) rfl ?_;rw[aj.o];have aH:=xQ a.o (l:=leaves);exact⟨[O Ai i,I (Aa j),X z (Z u) B,X E (Z x) C,Av false,I ⟨#[]⟩,X x1 (Z m) x2,X d1 (Z d) d2],rfl,RuleVal.keep ⟨_,_,_,_,rfl,aw.o,ar.o,aA.o,aq.o⟩ hs aH,ab.o _ _ _ _ J9.o hs (fun k c=>by have:=Bc c;omega),ze C9.o hs (Aq _)⟩
structure UInv (w:Ag) (rb B:Ad) (r:A Ab):Prop where
 ex:∃v,w.heap[rb]?=V (Ae #[v] 223 (0,0))/\RdO w v r/\∀g o n c,v=X (V ⟨g,o,S⟩) n c->g≠rb/\g<B
 len:Z r<=140737488355328
 low:rb<B
 top:B<=w.heap.size
variable {B rb:Ad}
theorem UInv.far {row:Br Ad}(h:UInv w rb B r)(a:w.grownBy w' row)(d:∀k,row=V k->B<=k):UInv w' rb B r:=by
 obtain⟨v,f,i,b⟩:=h.ex;have j:=h.low;refine⟨⟨v,zE f a (fun c=>by have:=d rb c.symm;omega),i.keep a (fun g o n c e e2=>by have:=d g e2;have:=(b g o n c e).2;omega),b⟩,h.len,j,Bi h.top a.size⟩
theorem UInv.keep (h:UInv w rb B r)(a:w.grownBy w' S):UInv w' rb B r:=h.far a (fun k c=>by cases c)
theorem nF {c:Ag}{n:Ad}{b:A Aj}{d:A Aj}(h:c.ownsRow w.heap.size 5 1 (X (V ⟨w.heap.size,0,S⟩) n n) n d)(e:b=d):c.heap[w.heap.size]?=V (Ae b.toArray 5 (0,0)):=by
 obtain⟨m,⟨a,_⟩|⟨g,f,i,a,_,j,_,_,k,l⟩⟩:=h
 ·cases a
 ·simp only[Au,Ey,Qo,and_true,Fb] at a
  obtain⟨rfl,rfl⟩:=a;rw[j,e,<-l,Cc (by simp[k])]
theorem lF (z:Aj)(n:Ad):(Sz #[z] n).toList=Hs n z:=by
 apply Xj
 ·simp[Sz]
 ·intro i a b;simp[Sz,Nat.mod_one]
theorem ze2 (k:Ad):Ba (Hs k 0)=Hs k (O .u8 0):=by
 unfold Ba;rw[List.map_replicate];rfl
theorem zhT (n:Ad)(r:A Ab)(b_0 b:A Aj)(a:b_0=Ba (r.take n))(d:b=(Sz #[O .u8 0] n).toList):splice b 0 b_0=Ba (vG n r).1:=by
 have c:Z b_0=min n (Z r):=by rw[a,xU,Cq]
 unfold splice vG;rw[Gm,Hc,Lib.byteCells_append,<-a,ze2,d,lF,List.drop_replicate,Gr,c]
 congr 2;omega
theorem bV (g o m:Ad):(⟨g,o,S⟩:Addr).add m=⟨g,o+m,S⟩:=by unfold Addr.add;by_cases h:m=0 <;> simp[h]
theorem UInv.next {N:Ag}{a:Br Addr}{c m n:Ad}(k:RdO w (X a (Z r) c) r)(hb:w.heap[rb]?=V (Ae #[X a (Z r) c] 223 (0,0)))
  (b:∀g o Q t,X a (Z r) c=X (V ⟨g,o,S⟩) Q t->g≠rb/\g<B) (hl:Z r<=140737488355328) (y:rb<B) (F:B<=w.heap.size) (s:w.grownBy N S) (hm:m=Nat.min (Z r) n) (i:Aj)
  (H:(i=X a (Z r-m) 0/\m=c/\(Z r)<=c)\/i=X (a.map fun x=>x.add m) (Z r-m) (c-m)):UInv (N.setCell ⟨rb,0,S⟩ i) rb B (r.drop n):=by
 have C:m=min (Z r) n:=hm;have l:=k;have h:=zF N rb 0 i;have v:Z (r.drop n)=Z r-m:=by rw[Cy];omega
 refine⟨⟨i,zH (zE hb s) i,?_,?_⟩,by omega,y,Bi F (Bi s.size h.size)⟩
 ·by_cases p:Z r-m=0
  ·refine Ay ?_
   have d:r.drop n=[]:=Ni (by omega);rcases H with ⟨e,_⟩|e
   ·exact⟨_,_,by rw[e,p],d⟩
   ·exact⟨_,_,by rw[e,p],d⟩
  ·rcases k with ⟨_,_,_,h2⟩|⟨g,o,t,f,hc,hlt,h3⟩
   ·rw[h2] at p;simp at p
   ·simp only[Au,Fb] at f
    obtain⟨rfl,rfl⟩:=f;have E:g≠rb:=(b g o _ _ rfl).1;rcases H with ⟨_,q1,q2⟩|e
    ·omega
    ·refine Bf ⟨g,o+m,c-m,by rw[e,v,Xo,bV],by omega,?_,fun j u hu=>?_⟩
     ·have:=s.size;have:=h.size;omega
     ·rw[Vq] at hu
      have h4:=h.cell (s.cell (h3 _ u hu) (by simp)) (fun c=>E (by have:=Bc c;first|exact this|exact this.symm));rw[show o+m+j=o+(n+j) by omega];exact h4
 ·intro g o Q t e
  rcases H with ⟨q,_⟩|q
  ·rw[q] at e
   simp only[Au] at e;obtain⟨rfl,_⟩:=e;exact b g o _ _ rfl
  ·rw[q] at e
   rcases l with ⟨_,_,_,h2⟩|⟨g0,o0,c0,f,_⟩
   ·have z:m=0:=by rw[C,h2];simp
    cases a with
    |none=>simp at e
    |some x=>
     rw[z] at e;simp only[Xo,Au,Ey] at e;obtain⟨f,_⟩:=e;have ex:x=⟨g,o,S⟩:=by rw[<-f];simp[Addr.add]
     rw[ex] at b;exact b g o _ _ rfl
   ·simp only[Au,Fb] at f
    obtain⟨rfl,rfl⟩:=f;rw[Xo,bV] at e;simp only[Au,Ey,Qo] at e;obtain⟨⟨rfl,_⟩,_⟩:=e;exact b _ _ _ _ rfl
theorem nR (h:UInv w rb B r)(n:Ad)(hn:n<=255:=by omega):Am prog 113 #[Al (V ⟨rb,0,S⟩),O Ai n] w fun e w'=>∃a k,e=Af (X a n k)/\w'.ownsRow w.heap.size 5 1 (X a n k) n (Ba (vG n r).1)/\UInv w' rb B (vG n r).2/\w.grownBy w' (V rb):=by
 obtain⟨i0,hi,ak,ah,al⟩:=Ej jD;obtain⟨v,l,C,aa⟩:=h.ex;obtain⟨a,c,rfl,ap⟩:=C.form;have t:=h.len;have ab:=h.low;have ag:=h.top;have aq:=zO l;have z:=J (C);have F:=J (l);have E:=J (aa);obtain⟨b_0,Q⟩:∃b_0,Y (b_0=Ba (r.take n)):=⟨_,rfl⟩;have i:Y (Z b_0=Nat.min (Z r) n):=by show _=_;rw[Q.o,xU,Cq];exact Nat.min_comm _ _
 have ao:Z b_0<=Z r:=by rw[i.o];exact Nat.min_le_left _ _
 have an:Z b_0<=n:=by rw[i.o];exact Nat.min_le_right _ _
 have aj:(prog.info? 5).map (·.size)=V 1:=by rw[hi];simp[ah]
 obtain⟨mc,s⟩:∃mc,Y (mc=(Sz #[O .u8 0] n).toList):=⟨_,rfl⟩;have ad:Z mc=n:=by rw[s.o];simp[Sz]
 go_in;go_wp2_with (at_make;refine wpList_make_full _ rfl _ _ 32 rfl w.heap.size 5 i0 (O .u8 0) 1 underlying32 hi ak ah _ _ _ _ n rfl rfl rfl rfl ?b2 ?b3 (Aq _) ?_)
 ·rw[al];omega
 ·unfold Bh;omega
 intro w1 p d;have q:=J (d);have H:=J (nF p s.o);have u1:=cbi 0 (zE F.o q.o);go_wp2_with (refine wpList_copy_splice rfl _ _ 32 32 rfl 5 underlying32 aj _ _ n n (Z r) c rfl rfl w.heap.size 0 mc 5 H.o b_0 i.o ?hpos ?hfit ?h1 w.heap.size w (qh q.o) (Aq _) ?_)
 ·
  intro hp;have af:0<Z r:=by omega
  rcases z.o with ⟨_,_,_,h2⟩|⟨g,o,c',e1,_,_,h3⟩
  ·rw[h2] at af;simp at af
  ·simp only[Au] at e1
   obtain⟨rfl,_,_⟩:=e1;refine⟨_,rfl,fun j u hu=>?_⟩;rw[Q.o] at hu;unfold Ba at hu;rw[Fq,Oz] at hu;obtain⟨x,hx,rfl⟩:=hu;rw[bV];exact(q.o.cell (h3 j x (by rw[Gi] at hx;split at hx;exact hx;cases hx)) (by simp))
 ·omega
 ·rw[Q.o];exact vo _
 intro w2 N b;have u2:=cbi 0 (zE F.o (zt b));have f2:=zm9 0 (zE F.o (zt b));have y:=J (b);have am:(Z b_0:Ak)<=Z r:=by omega
 have f:=J (zhT n r b_0 mc Q.o s.o);have ae:Z (Ba (vG n r).1)=n:=by rw[<-f.o];rw[length_splice _ _ _ (by omega)];exact ad
 have ai:Y (w2.heap[w.heap.size]?=V (Ae (Ba (vG n r).1).toArray 5 (0,0))):=by rw[<-f.o];exact N
 generalize (Z b_0)=m at*;go_wp2
 all_goals
  go_ret;refine⟨_,_,rfl,⟨by omega,Bf ⟨w.heap.size,n,_,rfl,Aq _,zE ai.o (zF w2 rb 0 _) (fun c=>by have:=Bc c;omega),Aq _,by unfold Bh;omega,by simp[ae],by rw[Cc (by simp[ae])]⟩⟩,?_,zD (zT (zt y.o) _) (zF w2 rb 0 _)⟩
 ·exact UInv.next z.o F.o E.o t ab ag (zt y.o) i.o _ (Ay ⟨rfl,by omega,by omega⟩)
 ·exact UInv.next z.o F.o E.o t ab ag (zt y.o) i.o _ (Bf rfl)
theorem zhS (r:A Ab):(vG 1 r).1=[r.headD 0]:=by
 cases r <;> simp_all[vG]
theorem vO (h:UInv w rb B r):Am prog 170 #[Al (V ⟨rb,0,S⟩)] w fun e w'=>e=Af (O Ai ((qq r).1:Ad))/\UInv w' rb B (qq r).2/\w.grownBy w' (V rb):=by
 have d:=J (nR h 1);go_in;go_wp2_with fail;refine d.o.mono ?_;rintro e p ⟨a,k,rfl,b,j,i⟩;have n:=J (j);have m:=J (i);obtain⟨g,c,f,_,_⟩:=Bm b (by omega);simp only[Au,Fb] at f;obtain⟨rfl,rfl⟩:=f;have q:p.cell? ⟨g,0,S⟩=V (O .u8 (r.headD 0).toNat):=by
  have h:=Ap b 0 (by omega);rw[zhS] at h;exact h
 have s:=(r.headD 0).toNat_lt;have o:Y ((qq r).1=(r.headD 0).toNat):=rfl;have l:Y ((qq r).2=r.drop 1):=rfl;generalize r.headD 0=x at*;go_wp2;go_ret;rw[o.o,l.o];exact⟨rfl,n.o,m.o⟩
theorem jF (r:A Ab):(qq r).1<=255:=by have:=(r.headD 0).toNat_lt;show(r.headD 0).toNat<=255;omega
theorem mg (n:Ad)(r:A Ab):Z (vG n r).1=n:=by unfold vG;simp;omega
theorem jp (r:A Ab):Z (zu r).1<=255:=by grind[zu,mg,jF]
theorem iL (r:A Ab):0<=(yo r).1/\(yo r).1<=65535:=by grind[jF,qq,yo]
theorem oK (h:UInv w rb B r):Am prog 221 #[Al (V ⟨rb,0,S⟩)] w fun e w'=>e=Af (O Ai (yo r).1)/\UInv w' rb B (yo r).2/\w.grownBy w' (V rb):=by
 have n:=jF r;have i:=jF (qq r).2;have c:Y (yo r=((((qq r).1+(qq (qq r).2).1*256:Ad):Ak),(qq (qq r).2).2)):=rfl;have a:=J (vO h);generalize yo r=tw at*;generalize qq r=p at*;obtain⟨q,s⟩:=p;simp only at n i c a;go_in;go_wp2_with fail;refine a.o.mono ?_;rintro e u ⟨rfl,j,f⟩;have b:=J (vO j);have d:=J (f);generalize qq s=p at*;obtain⟨o,t⟩:=p;simp only at i c b;go_wp2_with fail;refine b.o.mono ?_;rintro e v ⟨rfl,k,g⟩;have m:=J (k);have l:=J (zD d.o g);go_wp2;go_ret;rw[c.o];refine⟨?_,m.o,l.o⟩;show Af (O Ai ((q:Ak)+o*256))=_
 go_num
theorem vu (h:UInv w rb B r):Am prog 171 #[Al (V ⟨rb,0,S⟩)] w fun e w'=>e=Af (I (Aa (zu r).1))/\UInv w' rb B (zu r).2/\w.grownBy w' (V rb):=by
 have v:=jF r;have q:Y (zu r=vG (qq r).1 (qq r).2):=rfl;have f:=J (vO h);generalize zu r=tx at*;generalize qq r=p at*;obtain⟨n,z⟩:=p;simp only at v q f;go_in;go_wp2_with fail;refine f.o.mono ?_;rintro e w1 ⟨rfl,x,t⟩;have i:=J (nR x n v);have o:=J (t);have b:=mg n z;generalize vG n z=p at*;obtain⟨l,Q⟩:=p;simp only at i b;go_wp2_with fail;refine i.o.mono ?_;rintro e d ⟨a,k,rfl,m,y,u⟩;have E:=J (y);have C:=J (zD o.o u);have N:(convert 32 9 (X a n k)).run prog d = .ok (I (Aa l)) d:=by
  by_cases F:n=0
  ·subst F
   obtain rfl:l=[]:=Ni b;exact t8 d a k
  ·obtain⟨g,c,s,_,_⟩:=Bm m (by omega)
   simp only[Au,Fb] at s;obtain⟨rfl,rfl⟩:=s;have h:=Qb (P:=prog) d 32 9 5 ⟨g,0,S⟩ k l underlying32 underlying5 underlying9 (fun j hj=>by
    have H:=Ap m j (by omega);rw[vJ,Gr,H];unfold Ba;simp[hj])
   rw[b] at h;exact h
 go_wp2;go_ret;rw[q.o];exact⟨rfl,E.o,C.o⟩
theorem cd (h:UInv w rb B r):Am prog 299 #[Al (V ⟨rb,0,S⟩)] w fun e w'=>e=Af (Cm #[I (Aa (qn r).1.1),Av (qn r).1.2])/\UInv w' rb B (qn r).2/\w.grownBy w' (V rb):=by
 have o:=jF r;have a:Y (qn r=if (qq r).1=0 then (([],false),(qq r).2) else (((zu (qq r).2).1,true),(zu (qq r).2).2)):=rfl;have c:=J (vO h);generalize qn r=pp at*;generalize qq r=p at*;obtain⟨n,s⟩:=p;simp only at o a c;go_in;go_wp2_with fail;refine c.o.mono ?_;rintro e t ⟨rfl,j,f⟩;have d:=J (j);have b:=J (f)
 by_cases i:n=0
 ·subst i
  rw[Az rfl] at a;go_wp2
  go_ret2
  rw[a.o];exact⟨rfl,d.o,b.o⟩
 ·rw[Aw i] at a
  have q:¬((n:Ak)=0):=by omega
  go_wp2_with fail;refine(vu d.o).mono ?_;rintro e u ⟨rfl,k,g⟩;have m:=J (k);have l:=J (zD b.o g);go_wp2
  go_ret2
  rw[a.o];exact⟨rfl,m.o,l.o⟩
theorem eF (h:UInv w rb B r):Am prog 226 #[Al (V ⟨rb,0,S⟩)] w fun e w'=>e=Af (I (Aa (wO r).1))/\UInv w' rb B (wO r).2/\w.grownBy w' (V rb):=by
 have b:Y (wO r=((qn r).1.1,(qn r).2)):=rfl;have c:=J (h);have a:Y (w.grownBy w (V rb)):=zP _ _;generalize wO r=res at*;go_in;go_wp2_with fail;refine(cd c.o).mono ?_;rintro e m ⟨rfl,g,f⟩;have d:=J (g);have i:=J (zD a.o f);generalize qn r=p1 at*;obtain⟨⟨l,j⟩,k⟩:=p1;simp only at d b;go_wp2;go_ret;rw[b.o];exact⟨rfl,d.o,i.o⟩
abbrev Hd2:=Ae #[I ⟨#[]⟩,Av false,I ⟨#[]⟩] 276
theorem zbU (h:UInv w rb B r):Am prog 223 #[Al (V ⟨rb,0,S⟩)] w fun e w'=>e=Af (Fe #[I (Aa (U.mt r).1.name),Av (U.mt r).1.ask,I (Aa (U.mt r).1.val)])/\UInv w' rb B (U.mt r).2/\w.grownBy w' (V rb):=by
 have i:Y (U.mt r=(⟨(zu r).1,(qn (zu r).2).1.2,(qn (zu r).2).1.1⟩,(qn (zu r).2).2)):=rfl;have H:=h.low;have N:=h.top;have g:V w.heap.size≠V rb:=fun c=>by have:=Bc c;omega
 have b:Y ((w.alloc Hd2).heap[w.heap.size]?=V Hd2):=Bn _ _;have t:Y (UInv (w.alloc Hd2) rb B r):=h.keep (Ac _ _ _);have q:Y (w.grownBy (w.alloc Hd2) (V rb)):=Ac _ _ _;generalize U.mt r=res at*;go_in;go_wp2_with fail;refine(vu t.o).mono ?_;rintro e w1 ⟨rfl,y,l⟩;have j:=J (y);have s:=J (zD q.o l);have d:=J (zE b.o l g);generalize zu r=p1 at*;obtain⟨C,r1⟩:=p1;simp only at j i;go_wp2_with fail;refine(cd j.o).mono ?_;rintro e w2 ⟨rfl,z,m⟩;have u:=J (z);have F:=J (zD s.o m);have a:=J (zE d.o m g);generalize qn r1=p2 at*;obtain⟨⟨E,f⟩,r2⟩:=p2;simp only at u i;have n:=cbi 0 a.o;have Q:=zm9 0 a.o;have o:=cbi 1 a.o;have aa:=zm9 1 a.o;have p:=cbi 2 a.o;have ab:=zm9 2 a.o;have x:=zD (zD (zF w2 w.heap.size 0 (I (Aa C))) (zF _ w.heap.size 1 (Av f))) (zF _ w.heap.size 2 (I (Aa E)));go_wp2;refine Et (v:=.agg #[I (Aa C),Av f,I (Aa E)]) (by simp[Hm,results223,go_sem,n,o,p]) rfl ?_;rw[i.o];exact⟨rfl,u.o.far x (fun k c=>by have:=Bc c;omega),ze F.o x (Aq _)⟩
abbrev Hd5:=Ae #[I ⟨#[]⟩,O Ai 0] 285
theorem oJ (h:UInv w rb B r):Am prog 225 #[Al (V ⟨rb,0,S⟩)] w fun e w'=>e=Af (Fe #[I (Aa (U.tg r).1.1),O Ai (U.tg r).1.2])/\UInv w' rb B (U.tg r).2/\w.grownBy w' (V rb):=by
 have g:Y (U.tg r=(((zu r).1,(yo (zu r).2).1),(yo (zu r).2).2)):=rfl;have E:=h.low;have F:=h.top;have f:V w.heap.size≠V rb:=fun c=>by have:=Bc c;omega
 have b:Y ((w.alloc Hd5).heap[w.heap.size]?=V Hd5):=Bn _ _;have s:Y (UInv (w.alloc Hd5) rb B r):=h.keep (Ac _ _ _);have p:Y (w.grownBy (w.alloc Hd5) (V rb)):=Ac _ _ _;generalize U.tg r=res at*;go_in;go_wp2_with fail;refine(vu s.o).mono ?_;rintro e w1 ⟨rfl,x,j⟩;have i:=J (x);have q:=J (zD p.o j);have d:=J (zE b.o j f);generalize zu r=p1 at*;obtain⟨z,Q⟩:=p1;simp only at i g;go_wp2_with fail;refine(oK i.o).mono ?_;rintro e w2 ⟨rfl,y,l⟩;have t:=J (y);have C:=J (zD q.o l);have a:=J (zE d.o l f);generalize yo Q=p2 at*;obtain⟨n,r2⟩:=p2;simp only at t g;have m:=cbi 0 a.o;have H:=zm9 0 a.o;have o:=cbi 1 a.o;have N:=zm9 1 a.o;have u:=zD (zF w2 w.heap.size 0 (I (Aa z))) (zF _ w.heap.size 1 (O Ai n));go_wp2;refine Et (v:=.agg #[I (Aa z),O Ai n]) (by simp[Hm,results225,go_sem,m,o]) rfl ?_;rw[g.o];exact⟨rfl,t.o.far u (fun k c=>by have:=Bc c;omega),ze C.o u (Aq _)⟩
abbrev Hd3:=Ae #[I ⟨#[]⟩,I ⟨#[]⟩] 280
theorem ziB (h:UInv w rb B r):Am prog 228 #[Al (V ⟨rb,0,S⟩)] w fun e w'=>e=Af (Fe #[I (Aa (U.st r).1.1),I (Aa (U.st r).1.2)])/\UInv w' rb B (U.st r).2/\w.grownBy w' (V rb):=by
 have g:Y (U.st r=(((zu r).1,(zu (zu r).2).1),(zu (zu r).2).2)):=rfl;have E:=h.low;have F:=h.top;have f:V w.heap.size≠V rb:=fun c=>by have:=Bc c;omega
 have b:Y ((w.alloc Hd3).heap[w.heap.size]?=V Hd3):=Bn _ _;have q:Y (UInv (w.alloc Hd3) rb B r):=h.keep (Ac _ _ _);have o:Y (w.grownBy (w.alloc Hd3) (V rb)):=Ac _ _ _;generalize U.st r=res at*;go_in;go_wp2_with fail;refine(vu q.o).mono ?_;rintro e w1 ⟨rfl,u,j⟩;have i:=J (u);have p:=J (zD o.o j);have d:=J (zE b.o j f);generalize zu r=p1 at*;obtain⟨y,Q⟩:=p1;simp only at i g;go_wp2_with fail;refine(vu i.o).mono ?_;rintro e w2 ⟨rfl,x,l⟩;have s:=J (x);have C:=J (zD p.o l);have a:=J (zE d.o l f);generalize zu Q=p2 at*;obtain⟨z,r2⟩:=p2;simp only at s g;have m:=cbi 0 a.o;have H:=zm9 0 a.o;have n:=cbi 1 a.o;have N:=zm9 1 a.o;have t:=zD (zF w2 w.heap.size 0 (I (Aa y))) (zF _ w.heap.size 1 (I (Aa z)));go_wp2;refine Et (v:=.agg #[I (Aa y),I (Aa z)]) (by simp[Hm,results228,go_sem,m,n]) rfl ?_;rw[g.o];exact⟨rfl,s.o.far t (fun k c=>by have:=Bc c;omega),ze C.o t (Aq _)⟩
theorem gI {α:Type}(f:A Ab->α×A Ab):∀(n:Ad) (r:A Ab),Z (qW f n r).1=n
 |0,_=>rfl
 |n+1,r=>by unfold qW;simp[gI f n]
theorem ja (f:A Ab->α×A Ab)(r:A Ab):Z (zW f r).1<=255:=by grind[zW,gI,jF]
theorem zfG (h:UInv w rb B r):Am prog 222 #[Al (V ⟨rb,0,S⟩),.func (.func 223) #[] #[]] w fun e w'=>∃u,e=Af u/\UInv w' rb B (zW U.mt r).2/\w.grownBy w' (V rb)/\w'.ownsRow w.heap.size 276 3 u (Z (zW U.mt r).1) (xe (zW U.mt r).1):=by
 obtain⟨i0,hi,E,F,H⟩:=Ej iw;have hN:=jF r;have s:Y (zW U.mt r=qW U.mt (qq r).1 (qq r).2):=rfl;have o:=J (vO h);have ad:=h.low;have C:=h.top;generalize zW U.mt r=res at*;generalize qq r=p at*;obtain⟨N,r1⟩:=p;simp only at hN s o;go_in;go_wp2_with fail;refine o.o.mono ?_;rintro e w1 ⟨rfl,i1,g1⟩;have I1:=J (i1);have G1:=J (g1);go_wp2_with fail
 go_loopw [5,8] (fun u iv wr=>∃(i:Ad) (a:A P.Mt) (st:A Ab),i<=N/\(Z a)=i/\iv=O Ai i/\Y (res=(a++(qW U.mt (N-i) st).1,(qW U.mt (N-i) st).2))/\Y (UInv wr rb B st)/\Y (w.grownBy wr (V rb))/\Y (wr.ownsRow w.heap.size 276 3 u (Z a) (xe a))) (fun _ iv _=>N-(intOf iv).toNat)
 ·exact⟨0,[],r1,Ax _,rfl,rfl,by show _=_;rw[s.o];rfl,I1,G1,Bk _ _ _ _⟩
 ·
  obtain⟨i,a,st,ab,z,rfl,j,t,n,l⟩:=hrel
  by_cases ae:i<N
  ·have aa:(i:Ak)<N:=by omega
   have f:Y (res=((a++[(U.mt st).1])++(qW U.mt (N-(i+1)) (U.mt st).2).1,(qW U.mt (N-(i+1)) (U.mt st).2).2)):=by
    show _=_;rw[j.o,show N-i=N-(i+1)+1 by omega,Bl];rfl
   have q:=J (zbU t.o);generalize U.mt st=fx at*;obtain⟨x,s2⟩:=fx;simp only at f q;go_wp2_with fail;refine q.o.mono ?_;rintro e w2 ⟨rfl,i2,y⟩;have I2:=J (i2);have m:=J (zD n.o y);have v:=J (zK l.o y (fun k hk c=>by have:=Bc c;have:=(An l.o k hk).1;omega));have af:=m.o.size;go_wp2_with (at_builtin;refine Cu _ rfl _ _ 209 rfl w.heap.size 276 i0 _ 3 40 underlying209 hi E F H rfl (by decide) _ _ _ rfl (Ao v.o _) ⟨w2.heap.size,0,S⟩ 1 1 [I (Aa x.name),Av x.ask,I (Aa x.val)] rfl rfl ?c1 ?c2 ?c3 ?c4 ?c5 ?_)
   ·exact zZ _ #[_,_,_] _ _
   ·intro u hu;simp at hu;rcases hu with rfl|rfl|rfl <;> rfl
   ·unfold Bh;omega
   ·omega
   ·simp;omega
   intro v9 Q d b _;have O9:Y (Q.ownsRow w.heap.size 276 3 v9 (Z (a++[x])) (xe (a++[x]))):=by rw[fH,Ah,z];exact d
   have g:∀k,(u5:Aj).ownBlock=V k->w.heap.size<=k:=fun k hk=>(An v.o k hk).1
   have I9:Y (UInv Q rb B s2):=(I2.o.keep (Ac _ _ _)).far b (fun k hk=>Bi C (g k hk));have G9:Y (w.grownBy Q (V rb)):=qI (zD m.o (Ac _ _ _)) b g;go_wp2_with fail
   go_roundw
   ·exact⟨i+1,a++[x],s2,by omega,by simp;omega,by go_num,f,I9,G9,O9⟩
   ·simp[intOf];omega
  ·have hE:i=N:=by omega
   subst hE;rw[Gp] at j;have f:Y (res=(a,st)):=by show _=_;rw[j.o];simp[qW]
   go_wp2;go_ret;rw[f.o];exact⟨_,rfl,t.o,n.o,l.o⟩
theorem zfJ (h:UInv w rb B r):Am prog 224 #[Al (V ⟨rb,0,S⟩),.func (.func 225) #[] #[]] w fun e w'=>∃u,e=Af u/\UInv w' rb B (zW U.tg r).2/\w.grownBy w' (V rb)/\w'.ownsRow w.heap.size 285 2 u (Z (zW U.tg r).1) (zx (zW U.tg r).1):=by
 obtain⟨i0,hi,E,F,H⟩:=Ej iz;have hN:=jF r;have s:Y (zW U.tg r=qW U.tg (qq r).1 (qq r).2):=rfl;have o:=J (vO h);have ad:=h.low;have C:=h.top;generalize zW U.tg r=res at*;generalize qq r=p at*;obtain⟨N,r1⟩:=p;simp only at hN s o;go_in;go_wp2_with fail;refine o.o.mono ?_;rintro e w1 ⟨rfl,i1,g1⟩;have I1:=J (i1);have G1:=J (g1);go_wp2_with fail
 go_loopw [5,8] (fun u iv wr=>∃(i:Ad) (a:A (A Ab×Ak)) (st:A Ab),i<=N/\(Z a)=i/\iv=O Ai i/\Y (res=(a++(qW U.tg (N-i) st).1,(qW U.tg (N-i) st).2))/\Y (UInv wr rb B st)/\Y (w.grownBy wr (V rb))/\Y (wr.ownsRow w.heap.size 285 2 u (Z a) (zx a))) (fun _ iv _=>N-(intOf iv).toNat)
 ·exact⟨0,[],r1,Ax _,rfl,rfl,by show _=_;rw[s.o];rfl,I1,G1,Bk _ _ _ _⟩
 ·
  obtain⟨i,a,st,ab,z,rfl,j,t,n,l⟩:=hrel
  by_cases ae:i<N
  ·have aa:(i:Ak)<N:=by omega
   have f:Y (res=((a++[(U.tg st).1])++(qW U.tg (N-(i+1)) (U.tg st).2).1,(qW U.tg (N-(i+1)) (U.tg st).2).2)):=by
    show _=_;rw[j.o,show N-i=N-(i+1)+1 by omega,Bl];rfl
   have q:=J (oJ t.o);generalize U.tg st=fx at*;obtain⟨x,s2⟩:=fx;simp only at f q;go_wp2_with fail;refine q.o.mono ?_;rintro e w2 ⟨rfl,i2,y⟩;have I2:=J (i2);have m:=J (zD n.o y);have v:=J (zK l.o y (fun k hk c=>by have:=Bc c;have:=(An l.o k hk).1;omega));have af:=m.o.size;go_wp2_with (at_builtin;refine Cu _ rfl _ _ 210 rfl w.heap.size 285 i0 _ 2 24 underlying210 hi E F H rfl (by decide) _ _ _ rfl (Ao v.o _) ⟨w2.heap.size,0,S⟩ 1 1 [I (Aa x.1),O Ai x.2] rfl rfl ?c1 ?c2 ?c3 ?c4 ?c5 ?_)
   ·exact zZ _ #[_,_] _ _
   ·intro u hu;simp at hu;rcases hu with rfl|rfl <;> rfl
   ·unfold Bh;omega
   ·omega
   ·simp;omega
   intro v9 Q d b _;have O9:Y (Q.ownsRow w.heap.size 285 2 v9 (Z (a++[x])) (zx (a++[x]))):=by rw[yn,Ah,z];exact d
   have g:∀k,(u5:Aj).ownBlock=V k->w.heap.size<=k:=fun k hk=>(An v.o k hk).1
   have I9:Y (UInv Q rb B s2):=(I2.o.keep (Ac _ _ _)).far b (fun k hk=>Bi C (g k hk));have G9:Y (w.grownBy Q (V rb)):=qI (zD m.o (Ac _ _ _)) b g;go_wp2_with fail
   go_roundw
   ·exact⟨i+1,a++[x],s2,by omega,by simp;omega,by go_num,f,I9,G9,O9⟩
   ·simp[intOf];omega
  ·have hE:i=N:=by omega
   subst hE;rw[Gp] at j;have f:Y (res=(a,st)):=by show _=_;rw[j.o];simp[qW]
   go_wp2;go_ret;rw[f.o];exact⟨_,rfl,t.o,n.o,l.o⟩
theorem zfI (h:UInv w rb B r):Am prog 227 #[Al (V ⟨rb,0,S⟩),.func (.func 228) #[] #[]] w fun e w'=>∃u,e=Af u/\UInv w' rb B (zW U.st r).2/\w.grownBy w' (V rb)/\w'.ownsRow w.heap.size 280 2 u (Z (zW U.st r).1) (zi (zW U.st r).1):=by
 obtain⟨i0,hi,E,F,H⟩:=Ej iq;have hN:=jF r;have s:Y (zW U.st r=qW U.st (qq r).1 (qq r).2):=rfl;have o:=J (vO h);have ad:=h.low;have C:=h.top;generalize zW U.st r=res at*;generalize qq r=p at*;obtain⟨N,r1⟩:=p;simp only at hN s o;go_in;go_wp2_with fail;refine o.o.mono ?_;rintro e w1 ⟨rfl,i1,g1⟩;have I1:=J (i1);have G1:=J (g1);go_wp2_with fail
 go_loopw [5,8] (fun u iv wr=>∃(i:Ad) (a:A (A Ab×A Ab)) (st:A Ab),i<=N/\(Z a)=i/\iv=O Ai i/\Y (res=(a++(qW U.st (N-i) st).1,(qW U.st (N-i) st).2))/\Y (UInv wr rb B st)/\Y (w.grownBy wr (V rb))/\Y (wr.ownsRow w.heap.size 280 2 u (Z a) (zi a))) (fun _ iv _=>N-(intOf iv).toNat)
 ·exact⟨0,[],r1,Ax _,rfl,rfl,by show _=_;rw[s.o];rfl,I1,G1,Bk _ _ _ _⟩
 ·
  obtain⟨i,a,st,ab,z,rfl,j,t,n,l⟩:=hrel
  by_cases ae:i<N
  ·have aa:(i:Ak)<N:=by omega
   have f:Y (res=((a++[(U.st st).1])++(qW U.st (N-(i+1)) (U.st st).2).1,(qW U.st (N-(i+1)) (U.st st).2).2)):=by
    show _=_;rw[j.o,show N-i=N-(i+1)+1 by omega,Bl];rfl
   have q:=J (ziB t.o);generalize U.st st=fx at*;obtain⟨x,s2⟩:=fx;simp only at f q;go_wp2_with fail;refine q.o.mono ?_;rintro e w2 ⟨rfl,i2,y⟩;have I2:=J (i2);have m:=J (zD n.o y);have v:=J (zK l.o y (fun k hk c=>by have:=Bc c;have:=(An l.o k hk).1;omega));have af:=m.o.size;go_wp2_with (at_builtin;refine Cu _ rfl _ _ 211 rfl w.heap.size 280 i0 _ 2 32 underlying211 hi E F H rfl (by decide) _ _ _ rfl (Ao v.o _) ⟨w2.heap.size,0,S⟩ 1 1 [I (Aa x.1),I (Aa x.2)] rfl rfl ?c1 ?c2 ?c3 ?c4 ?c5 ?_)
   ·exact zZ _ #[_,_] _ _
   ·intro u hu;simp at hu;rcases hu with rfl|rfl <;> rfl
   ·unfold Bh;omega
   ·omega
   ·simp;omega
   intro v9 Q d b _;have O9:Y (Q.ownsRow w.heap.size 280 2 v9 (Z (a++[x])) (zi (a++[x]))):=by rw[yW,Ah,z];exact d
   have g:∀k,(u5:Aj).ownBlock=V k->w.heap.size<=k:=fun k hk=>(An v.o k hk).1
   have I9:Y (UInv Q rb B s2):=(I2.o.keep (Ac _ _ _)).far b (fun k hk=>Bi C (g k hk));have G9:Y (w.grownBy Q (V rb)):=qI (zD m.o (Ac _ _ _)) b g;go_wp2_with fail
   go_roundw
   ·exact⟨i+1,a++[x],s2,by omega,by simp;omega,by go_num,f,I9,G9,O9⟩
   ·simp[intOf];omega
  ·have hE:i=N:=by omega
   subst hE;rw[Gp] at j;have f:Y (res=(a,st)):=by show _=_;rw[j.o];simp[qW]
   go_wp2;go_ret;rw[f.o];exact⟨_,rfl,t.o,n.o,l.o⟩
theorem zfE (h:UInv w rb B r):Am prog 229 #[Al (V ⟨rb,0,S⟩),.func (.func 171) #[] #[]] w fun e w'=>∃u,e=Af u/\UInv w' rb B (zW zu r).2/\w.grownBy w' (V rb)/\w'.ownsRow w.heap.size 9 1 u (Z (zW zu r).1) (zY (zW zu r).1):=by
 obtain⟨i0,hi,E,F,H⟩:=Ej fW;have hN:=jF r;have s:Y (zW zu r=qW zu (qq r).1 (qq r).2):=rfl;have o:=J (vO h);have ad:=h.low;have C:=h.top;generalize zW zu r=res at*;generalize qq r=p at*;obtain⟨N,r1⟩:=p;simp only at hN s o;go_in;go_wp2_with fail;refine o.o.mono ?_;rintro e w1 ⟨rfl,i1,g1⟩;have I1:=J (i1);have G1:=J (g1);go_wp2_with fail
 go_loopw [5,8] (fun u iv wr=>∃(i:Ad) (a:A (A Ab)) (st:A Ab),i<=N/\(Z a)=i/\iv=O Ai i/\Y (res=(a++(qW zu (N-i) st).1,(qW zu (N-i) st).2))/\Y (UInv wr rb B st)/\Y (w.grownBy wr (V rb))/\Y (wr.ownsRow w.heap.size 9 1 u (Z a) (zY a))) (fun _ iv _=>N-(intOf iv).toNat)
 ·exact⟨0,[],r1,Ax _,rfl,rfl,by show _=_;rw[s.o];rfl,I1,G1,Bk _ _ _ _⟩
 ·
  obtain⟨i,a,st,ab,z,rfl,j,t,n,l⟩:=hrel
  by_cases ae:i<N
  ·have aa:(i:Ak)<N:=by omega
   have f:Y (res=((a++[(zu st).1])++(qW zu (N-(i+1)) (zu st).2).1,(qW zu (N-(i+1)) (zu st).2).2)):=by
    show _=_;rw[j.o,show N-i=N-(i+1)+1 by omega,Bl];rfl
   have q:=J (vu t.o);generalize zu st=fx at*;obtain⟨x,s2⟩:=fx;simp only at f q;go_wp2_with fail;refine q.o.mono ?_;rintro e w2 ⟨rfl,i2,y⟩;have I2:=J (i2);have m:=J (zD n.o y);have v:=J (zK l.o y (fun k hk c=>by have:=Bc c;have:=(An l.o k hk).1;omega));have af:=m.o.size;go_wp2_with (at_builtin;refine Cu _ rfl _ _ 22 rfl w.heap.size 9 i0 _ 1 16 underlying22 hi E F H rfl (by decide) _ _ _ rfl (Ao v.o _) ⟨w2.heap.size,0,S⟩ 1 1 [I (Aa x)] rfl rfl ?c1 ?c2 ?c3 ?c4 ?c5 ?_)
   ·exact zZ _ #[_] _ _
   ·intro u hu;simp at hu;subst hu;rfl
   ·unfold Bh;omega
   ·omega
   ·simp;omega
   intro v9 Q d b _;have O9:Y (Q.ownsRow w.heap.size 9 1 v9 (Z (a++[x])) (zY (a++[x]))):=by rw[xl,Ah,z];exact d
   have g:∀k,(u5:Aj).ownBlock=V k->w.heap.size<=k:=fun k hk=>(An v.o k hk).1
   have I9:Y (UInv Q rb B s2):=(I2.o.keep (Ac _ _ _)).far b (fun k hk=>Bi C (g k hk));have G9:Y (w.grownBy Q (V rb)):=qI (zD m.o (Ac _ _ _)) b g;go_wp2_with fail
   go_roundw
   ·exact⟨i+1,a++[x],s2,by omega,by simp;omega,by go_num,f,I9,G9,O9⟩
   ·simp[intOf];omega
  ·have hE:i=N:=by omega
   subst hE;rw[Gp] at j;have f:Y (res=(a,st)):=by show _=_;rw[j.o];simp[qW]
   go_wp2;go_ret;rw[f.o];exact⟨_,rfl,t.o,n.o,l.o⟩
theorem UInv.safe {l:A TypeId}(h:UInv w rb B r)(a:223 ∉ l):Safe w (V rb) l:=by grind[UInv,Safe]
theorem zfP (h:UInv w rb B r):Am prog 173 #[Al (V ⟨rb,0,S⟩)] w fun e w'=>∃cs,e=Af (Fe cs.toArray)/\PRuleVal w' cs (yF r).1/\UInv w' rb B (yF r).2/\w.grownBy w' (V rb):=by
 have m:Y (yF r=(⟨(yo r).1,(zu (yo r).2).1,(zW U.mt (zu (yo r).2).2).1,(zW U.tg (zW U.mt (zu (yo r).2).2).2).1,(wO (zW U.tg (zW U.mt (zu (yo r).2).2).2).2).1,(zW U.st (wO (zW U.tg (zW U.mt (zu (yo r).2).2).2).2).2).1,(zW zu (zW U.st (wO (zW U.tg (zW U.mt (zu (yo r).2).2).2).2).2).2).1⟩,(zW zu (zW U.st (wO (zW U.tg (zW U.mt (zu (yo r).2).2).2).2).2).2).2)):=rfl;have ar:=h.low;have au:=h.top;have d:V w.heap.size≠V rb:=fun c=>by have:=Bc c;omega
 have aa:Y ((w.alloc (Ae #[O Ai 0,I ⟨#[]⟩,X S 0 0,X S 0 0,I ⟨#[]⟩,X S 0 0,X S 0 0] 213)).heap[w.heap.size]?=V (Ae #[O Ai 0,I ⟨#[]⟩,X S 0 0,X S 0 0,I ⟨#[]⟩,X S 0 0,X S 0 0] 213)):=Bn _ _;have I0:Y (UInv (w.alloc (Ae #[O Ai 0,I ⟨#[]⟩,X S 0 0,X S 0 0,I ⟨#[]⟩,X S 0 0,X S 0 0] 213)) rb B r):=h.keep (Ac _ _ _);have G0:Y (w.grownBy (w.alloc (Ae #[O Ai 0,I ⟨#[]⟩,X S 0 0,X S 0 0,I ⟨#[]⟩,X S 0 0,X S 0 0] 213)) (V rb)):=Ac _ _ _;generalize yF r=res at*;go_in;go_wp2_with fail;refine(oK I0.o).mono ?_;rintro e w1 ⟨rfl,i1,g1⟩;have I1:=J (i1);have G1:=J (zD G0.o g1);have ab:=J (zE aa.o g1 d);generalize yo r=p1 at*;obtain⟨u,r1⟩:=p1;simp only at I1 m;go_wp2_with fail;refine(vu I1.o).mono ?_;rintro e w2 ⟨rfl,i2,g2⟩;have I2:=J (i2);have G2:=J (zD G1.o g2);have ad:=J (zE ab.o g2 d);generalize zu r1=p2 at*;obtain⟨x,r2⟩:=p2;simp only at I2 m;go_wp2_with fail;refine(zfG I2.o).mono ?_;rintro e w3 ⟨u3,rfl,i3,g3,o3⟩;have I3:=J (i3);have G3:=J (zD G2.o g3);have ae:=J (zE ad.o g3 d);obtain⟨a3,k3,rfl⟩:=zL o3;have f:Y (w3.ownsRow 0 276 3 (X a3 (Z (zW U.mt r2).1) k3) (Z (zW U.mt r2).1) (xe (zW U.mt r2).1)):=zo o3 (Ax _);generalize zW U.mt r2=p3 at*;obtain⟨ms,r3⟩:=p3;simp only at I3 m f;go_wp2_with fail;refine(zfJ I3.o).mono ?_;rintro e w4 ⟨u4,rfl,i4,g4,o4⟩;have E:=J (i4);have G4:=J (zD G3.o g4);have af:=J (zE ae.o g4 d);have n:=J (x7 f.o g4 (I3.o.safe (l:=pleaves) (by decide)));obtain⟨a4,k4,rfl⟩:=zL o4;have g:Y (w4.ownsRow 0 285 2 (X a4 (Z (zW U.tg r3).1) k4) (Z (zW U.tg r3).1) (zx (zW U.tg r3).1)):=zo o4 (Ax _);generalize zW U.tg r3=p4 at*;obtain⟨tg,r4⟩:=p4;simp only at E m g;go_wp2_with fail;refine(eF E.o).mono ?_;rintro e w5 ⟨rfl,i5,g5⟩;have F:=J (i5);have G5:=J (zD G4.o g5);have ag:=J (zE af.o g5 d);have o:=J (x7 n.o g5 (E.o.safe (l:=pleaves) (by decide)));have q:=J (x7 g.o g5 (E.o.safe (l:=pleaves) (by decide)));generalize wO r4=p5 at*;obtain⟨y,r5⟩:=p5;simp only at F m;go_wp2_with fail;refine(zfI F.o).mono ?_;rintro e w6 ⟨u6,rfl,i6,g6,o6⟩;have z:=J (i6);have G6:=J (zD G5.o g6);have ah:=J (zE ag.o g6 d);have p:=J (x7 o.o g6 (F.o.safe (l:=pleaves) (by decide)));have s:=J (x7 q.o g6 (F.o.safe (l:=pleaves) (by decide)));obtain⟨a6,k6,rfl⟩:=zL o6;have i:Y (w6.ownsRow 0 280 2 (X a6 (Z (zW U.st r5).1) k6) (Z (zW U.st r5).1) (zi (zW U.st r5).1)):=zo o6 (Ax _);generalize zW U.st r5=p6 at*;obtain⟨j,r6⟩:=p6;simp only at z m i;go_wp2_with fail;refine(zfE z.o).mono ?_;rintro e w7 ⟨u7,rfl,i7,C,o7⟩;have I7:=J (i7);have G7:=J (zD G6.o C);have a:=J (zE ah.o C d);have H:=J (x7 p.o C (z.o.safe (l:=pleaves) (by decide)));have N:=J (x7 s.o C (z.o.safe (l:=pleaves) (by decide)));have Q:=J (x7 i.o C (z.o.safe (l:=pleaves) (by decide)));obtain⟨a7,k7,rfl⟩:=zL o7;have t:Y (w7.ownsRow 0 9 1 (X a7 (Z (zW zu r6).1) k7) (Z (zW zu r6).1) (zY (zW zu r6).1)):=zo o7 (Ax _);generalize zW zu r6=p7 at*;obtain⟨b,r7⟩:=p7;simp only at I7 m t;have ak:=cbi 0 a.o;have av:=zm9 0 a.o;have al:=cbi 1 a.o;have aw:=zm9 1 a.o;have am:=cbi 2 a.o;have ax:=zm9 2 a.o;have an:=cbi 3 a.o;have ay:=zm9 3 a.o;have ao:=cbi 4 a.o;have az:=zm9 4 a.o;have ap:=cbi 5 a.o;have aA:=zm9 5 a.o;have aq:=cbi 6 a.o;have aB:=zm9 6 a.o;have hs:=zD (zD (zD (zD (zD (zD (zF w7 w.heap.size 0 (O Ai u)) (zF _ w.heap.size 1 (I (Aa x)))) (zF _ w.heap.size 2 (X a3 (Z ms) k3))) (zF _ w.heap.size 3 (X a4 (Z tg) k4))) (zF _ w.heap.size 4 (I (Aa y)))) (zF _ w.heap.size 5 (X a6 (Z j) k6))) (zF _ w.heap.size 6 (X a7 (Z b) k7))
 go_wp2;have ai:=J (a);refine Et (v:=.agg #[O Ai u,I (Aa x),X a3 (Z ms) k3,X a4 (Z tg) k4,I (Aa y),X a6 (Z j) k6,X a7 (Z b) k7]) (by simp[Hm,results173,go_sem,ak,al,am,an,ao,ap,aq]) rfl ?_;rw[m.o];have aj:=xQ ai.o (l:=pleaves);exact⟨[O Ai u,I (Aa x),X a3 (Z ms) k3,X a4 (Z tg) k4,I (Aa y),X a6 (Z j) k6,X a7 (Z b) k7],rfl,PRuleVal.keep ⟨_,_,_,_,rfl,H.o,N.o,Q.o,t.o⟩ hs aj,I7.o.far hs (fun k c=>by have:=Bc c;omega),ze G7.o hs (Aq _)⟩
theorem zfH (h:UInv w rb B r):Am prog 172 #[Al (V ⟨rb,0,S⟩),.func (.func 173) #[] #[]] w fun e w'=>∃u,e=Af u/\UInv w' rb B (zW yF r).2/\w.grownBy w' (V rb)/\PRulesRow w' w.heap.size u (zW yF r).1:=by
 obtain⟨i0,hi,ad,ae,af⟩:=Ej iy;have hN:=jF r;have HP:Y (zW yF r=qW yF (qq r).1 (qq r).2):=rfl;have H1:=J (vO h);have ab:=h.top;generalize zW yF r=res at*;generalize qq r=p at*;obtain⟨N,r1⟩:=p;simp only at hN HP H1;go_in;go_wp2_with fail;refine H1.o.mono ?_;rintro e w1 ⟨rfl,i1,g1⟩;have I1:=J (i1);have G1:=J (g1);go_wp2_with fail
 go_loopw [5,8] (fun u iv wr=>∃(i:Ad) (d:A P.Rl) (st:A Ab) (g:A (A Aj)),i<=N/\(Z d)=i/\iv=O Ai i/\Y (res=(d++(qW yF (N-i) st).1,(qW yF (N-i) st).2))/\Y (UInv wr rb B st)/\Y (w.grownBy wr (V rb))/\Y (wr.ownsRow w.heap.size 213 7 u (Z d) g.flatten)/\Y (All2 (PRuleVal wr) g d)) (fun _ iv _=>N-(intOf iv).toNat)
 ·exact⟨0,[],r1,[],Ax _,rfl,rfl,by show _=_;rw[HP.o];rfl,I1,G1,Bk _ _ _ _,.nil⟩
 ·
  obtain⟨i,d,st,g,ah,aa,rfl,s,IR,GR,HO,HA⟩:=hrel
  by_cases ai:i<N
  ·have ag:(i:Ak)<N:=by omega
   have m:Y (res=((d++[(yF st).1])++(qW yF (N-(i+1)) (yF st).2).1,(qW yF (N-(i+1)) (yF st).2).2)):=by
    show _=_;rw[s.o,show N-i=N-(i+1)+1 by omega,Bl];rfl
   have HC:=J (zfP IR.o);generalize yF st=fx at*;obtain⟨x,s2⟩:=fx;simp only at m HC;go_wp2_with fail;refine HC.o.mono ?_;rintro e w2 ⟨cs,rfl,q,i2,g2⟩;obtain⟨vM,vT,vS,vD,rfl,hM,z,hS,hD⟩:=id q;obtain⟨C,E,rfl⟩:=zL hM;obtain⟨F,H,rfl⟩:=zL z;obtain⟨Q,x2,rfl⟩:=zL hS;obtain⟨v,y,rfl⟩:=zL hD;have t:=J (q);have I2:=J (i2);have G2:=J (zD GR.o g2);have o:=IR.o.safe (l:=213::pleaves) (by decide);have O2:=J (x7 HO.o g2 o);have A2:=J (HA.o.map fun a b hab=>hab.keep g2 (jW o));have aj:=G2.o.size;go_wp2_with (at_builtin;refine Cu _ rfl _ _ 144 rfl w.heap.size 213 i0 _ 7 136 underlying144 hi ad ae af rfl (by decide) _ _ _ rfl (Ao O2.o _) ⟨w2.heap.size,0,S⟩ 1 1 [O Ai x.number,I (Aa x.path),X C (Z x.ms) E,X F (Z x.tg) H,I (Aa x.rep),X Q (Z x.sets) x2,X v (Z x.drops) y] rfl rfl ?c1 ?c2 ?c3 ?c4 ?c5 ?_)
   ·exact zZ _ #[_,_,_,_,_,_,_] _ _
   ·intro u hu;simp only[En,Ge,Mn] at hu;rcases hu with rfl|rfl|rfl|rfl|rfl|rfl|rfl <;> rfl
   ·unfold Bh;omega
   ·omega
   ·simp;omega
   intro v9 w9 j c _;have gA:w2.grownBy (w2.alloc (Ae #[O Ai x.number,I (Aa x.path),X C (Z x.ms) E,X F (Z x.tg) H,I (Aa x.rep),X Q (Z x.sets) x2,X v (Z x.drops) y] 213)) S:=Ac _ _ _;have f:Safe (w2.alloc (Ae #[O Ai x.number,I (Aa x.path),X C (Z x.ms) E,X F (Z x.tg) H,I (Aa x.rep),X Q (Z x.sets) x2,X v (Z x.drops) y] 213)) (u5:Aj).ownBlock pleaves:=xk (Ao O2.o _);have O9:Y (w9.ownsRow w.heap.size 213 7 v9 (Z (d++[x])) (g++([[O Ai x.number,I (Aa x.path),X C (Z x.ms) E,X F (Z x.tg) H,I (Aa x.rep),X Q (Z x.sets) x2,X v (Z x.drops) y]]:A (A Aj))).flatten):=by rw[Ah,Eg,aa];exact j
   have A9:Y (All2 (PRuleVal w9) (g++([[O Ai x.number,I (Aa x.path),X C (Z x.ms) E,X F (Z x.tg) H,I (Aa x.rep),X Q (Z x.sets) x2,X v (Z x.drops) y]]:A (A Aj))) (d++[x])):=(A2.o.snoc t.o).map fun a b hab=>(hab.keep gA (za _ _)).keep c f
   have n:∀k,(u5:Aj).ownBlock=V k->w.heap.size<=k:=fun k hk=>(An O2.o k hk).1
   have I9:Y (UInv w9 rb B s2):=(I2.o.keep gA).far c (fun k hk=>Bi ab (n k hk));have G9:Y (w.grownBy w9 (V rb)):=qI (zD G2.o (Ac _ _ _)) c n;go_wp2_with fail
   go_roundw
   ·exact⟨i+1,d++[x],s2,_,by omega,by simp;omega,by go_num,m,I9,G9,O9,A9⟩
   ·simp[intOf];omega
  ·have hE:i=N:=by omega
   subst hE;rw[Gp] at s;have m:Y (res=(d,st)):=by show _=_;rw[s.o];simp[qW]
   go_wp2;go_ret;rw[m.o];exact⟨_,rfl,IR.o,GR.o,g,HO.o,HA.o⟩
abbrev Hd4:=Ae #[I ⟨#[]⟩,X S 0 0] 146
theorem zfN (h:UInv w rb B r):Am prog 115 #[Al (V ⟨rb,0,S⟩)] w fun e w'=>∃cs,e=Af (Fe cs.toArray)/\PHostVal w' cs (yY r).1/\UInv w' rb B (yY r).2/\w.grownBy w' (V rb):=by
 have m:Y (yY r=(⟨(zu r).1,(zW yF (zu r).2).1⟩,(zW yF (zu r).2).2)):=rfl;have aa:=h.low;have ab:=h.top;have g:V w.heap.size≠V rb:=fun c=>by have:=Bc c;omega
 have d:Y ((w.alloc Hd4).heap[w.heap.size]?=V Hd4):=Bn _ _;have N:Y (UInv (w.alloc Hd4) rb B r):=h.keep (Ac _ _ _);have F:Y (w.grownBy (w.alloc Hd4) (V rb)):=Ac _ _ _;generalize yY r=res at*;go_in;go_wp2_with fail;refine(vu N.o).mono ?_;rintro e w1 ⟨rfl,i1,p⟩;have n:=J (i1);have H:=J (zD F.o p);have f:=J (zE d.o p g);generalize zu r=p1 at*;obtain⟨u,C⟩:=p1;simp only at n m;go_wp2_with fail;refine(zfH n.o).mono ?_;rintro e w2 ⟨u2,rfl,i2,q,x⟩;have Q:=J (i2);have G2:=J (zD H.o q);have a:=J (zE f.o q g);obtain⟨i,j,rfl⟩:=uU x;have b:Y (PRulesRow w2 0 (X i (Z (zW yF C).1) j) (zW yF C).1):=x.base (Ax _);generalize zW yF C=p2 at*;obtain⟨E,r2⟩:=p2;simp only at Q m b;have y:=cbi 0 a.o;have ad:=zm9 0 a.o;have z:=cbi 1 a.o;have ae:=zm9 1 a.o;have s:=zD (zF w2 w.heap.size 0 (I (Aa u))) (zF _ w.heap.size 1 (X i (Z E) j));go_wp2;have o:=J (a);refine Et (v:=.agg #[I (Aa u),X i (Z E) j]) (by simp[Hm,results115,go_sem,y,z]) rfl ?_;rw[m.o];have t:=xQ o.o (l:=prtags);exact⟨[I (Aa u),X i (Z E) j],rfl,PHostVal.keep ⟨_,rfl,b.o⟩ s t,Q.o.far s (fun k c=>by have:=Bc c;omega),ze G2.o s (Aq _)⟩
theorem zfF (h:UInv w rb B r):Am prog 114 #[Al (V ⟨rb,0,S⟩),.func (.func 115) #[] #[]] w fun e w'=>∃u,e=Af u/\UInv w' rb B (zW yY r).2/\w.grownBy w' (V rb)/\PHostsRow w' w.heap.size u (zW yY r).1:=by
 obtain⟨i0,hi,ad,ae,af⟩:=Ej ir;have hN:=jF r;have HP:Y (zW yY r=qW yY (qq r).1 (qq r).2):=rfl;have H1:=J (vO h);have ab:=h.top;generalize zW yY r=res at*;generalize qq r=p at*;obtain⟨N,r1⟩:=p;simp only at hN HP H1;go_in;go_wp2_with fail;refine H1.o.mono ?_;rintro e w1 ⟨rfl,i1,g1⟩;have I1:=J (i1);have G1:=J (g1);go_wp2_with fail
 go_loopw [5,8] (fun u iv wr=>∃(i:Ad) (d:A P.Hst) (st:A Ab) (g:A (A Aj)),i<=N/\(Z d)=i/\iv=O Ai i/\Y (res=(d++(qW yY (N-i) st).1,(qW yY (N-i) st).2))/\Y (UInv wr rb B st)/\Y (w.grownBy wr (V rb))/\Y (wr.ownsRow w.heap.size 146 2 u (Z d) g.flatten)/\Y (All2 (PHostVal wr) g d)) (fun _ iv _=>N-(intOf iv).toNat)
 ·exact⟨0,[],r1,[],Ax _,rfl,rfl,by show _=_;rw[HP.o];rfl,I1,G1,Bk _ _ _ _,.nil⟩
 ·
  obtain⟨i,d,st,g,ah,aa,rfl,s,z,GR,HO,HA⟩:=hrel
  by_cases ai:i<N
  ·have ag:(i:Ak)<N:=by omega
   have m:Y (res=((d++[(yY st).1])++(qW yY (N-(i+1)) (yY st).2).1,(qW yY (N-(i+1)) (yY st).2).2)):=by
    show _=_;rw[s.o,show N-i=N-(i+1)+1 by omega,Bl];rfl
   have HC:=J (zfN z.o);generalize yY st=fx at*;obtain⟨x,s2⟩:=fx;simp only at m HC;go_wp2_with fail;refine HC.o.mono ?_;rintro e F ⟨cs,rfl,q,i2,E⟩;obtain⟨vR,rfl,hR⟩:=id q;obtain⟨v,y,rfl⟩:=uU hR;have t:=J (q);have I2:=J (i2);have Q:=J (zD GR.o E);have o:=z.o.safe (l:=146::prtags) (by decide);have C:=J (x7 HO.o E o);have A2:=J (HA.o.map fun a b hab=>hab.keep E (jW o));have aj:=Q.o.size;go_wp2_with (at_builtin;refine Cu _ rfl _ _ 86 rfl w.heap.size 146 i0 _ 2 40 underlying86 hi ad ae af rfl (by decide) _ _ _ rfl (Ao C.o _) ⟨F.heap.size,0,S⟩ 1 1 [I (Aa x.name),X v (Z x.rules) y] rfl rfl ?c1 ?c2 ?c3 ?c4 ?c5 ?_)
   ·exact zZ _ #[_,_] _ _
   ·intro u hu;simp only[En,Ge,Mn] at hu;rcases hu with rfl|rfl <;> rfl
   ·unfold Bh;omega
   ·omega
   ·simp;omega
   intro v9 H j c _;have gA:F.grownBy (F.alloc (Ae #[I (Aa x.name),X v (Z x.rules) y] 146)) S:=Ac _ _ _;have f:Safe (F.alloc (Ae #[I (Aa x.name),X v (Z x.rules) y] 146)) (u5:Aj).ownBlock prtags:=xk (Ao C.o _);have O9:Y (H.ownsRow w.heap.size 146 2 v9 (Z (d++[x])) (g++([[I (Aa x.name),X v (Z x.rules) y]]:A (A Aj))).flatten):=by rw[Ah,Eg,aa];exact j
   have A9:Y (All2 (PHostVal H) (g++([[I (Aa x.name),X v (Z x.rules) y]]:A (A Aj))) (d++[x])):=(A2.o.snoc t.o).map fun a b hab=>(hab.keep gA (za _ _)).keep c f
   have n:∀k,(u5:Aj).ownBlock=V k->w.heap.size<=k:=fun k hk=>(An C.o k hk).1
   have I9:Y (UInv H rb B s2):=(I2.o.keep gA).far c (fun k hk=>Bi ab (n k hk));have G9:Y (w.grownBy H (V rb)):=qI (zD Q.o (Ac _ _ _)) c n;go_wp2_with fail
   go_roundw
   ·exact⟨i+1,d++[x],s2,_,by omega,by simp;omega,by go_num,m,I9,G9,O9,A9⟩
   ·simp[intOf];omega
  ·have hE:i=N:=by omega
   subst hE;rw[Gp] at s;have m:Y (res=(d,st)):=by show _=_;rw[s.o];simp[qW]
   go_wp2;go_ret;rw[m.o];exact⟨_,rfl,z.o,GR.o,g,HO.o,HA.o⟩
theorem gH {α:Type}(f:A Ab->α×A Ab)(b_0:α->Prop)(a:∀s,b_0 (f s).1):∀(n:Ad) (r:A Ab),∀x∈(qW f n r).1,b_0 x
 |0,_,x,hx=>by cases hx
 |n+1,r,x,hx=>by
  unfold qW at hx;rcases En.1 hx with h|h
  ·rw[h];exact a r
  ·exact gH f b_0 a n _ x h
theorem jZ (f:A Ab->α×A Ab)(b_0:α->Prop)(a:∀s,b_0 (f s).1)(r:A Ab):∀x∈(zW f r).1,b_0 x:=gH f b_0 a _ _
theorem tM (r:A Ab):Z (qn r).1.1<=255:=by grind[qn,jp]
structure UBr (r:P.Rl):Prop where
 num:0<=r.number/\r.number<=65535
 path:Z r.path<=255
 ml:Z r.ms<=255
 ms:∀m∈r.ms,Z m.name<=255/\(Z m.val)<=255
 tl:Z r.tg<=255
 tg:∀t∈r.tg,Z t.1<=255/\0<=t.2/\t.2<=65535
 rep:Z r.rep<=255
 sl:Z r.sets<=255
 sets:∀t∈r.sets,Z t.1<=255/\(Z t.2)<=255
 dl:Z r.drops<=255
 drops:∀t∈r.drops,Z t<=255
structure UBh (h:P.Hst):Prop where
 name:Z h.name<=255
 rl:Z h.rules<=255
 rules:∀r∈h.rules,UBr r
theorem aD (r:A Ab):UBr (yF r).1 where
 num:=iL r
 path:=jp _
 ml:=ja _ _
 ms:=jZ U.mt _ (fun s=>⟨jp s,tM _⟩) _
 tl:=ja _ _
 tg:=jZ U.tg _ (fun s=>⟨jp s,iL _⟩) _
 rep:=tM _
 sl:=ja _ _
 sets:=jZ U.st _ (fun s=>⟨jp s,jp _⟩) _
 dl:=ja _ _
 drops:=jZ zu _ (fun s=>jp s) _
theorem aC (r:A Ab):UBh (yY r).1 where
 name:=jp r
 rl:=ja _ _
 rules:=jZ yF _ (fun s=>aD s) _
theorem fR (b:A Ab):Z (jM b)<=255/\∀h∈jM b,UBh h:=⟨ja _ _,jZ yY _ (fun s=>aC s) _⟩
theorem UBr.small {r:P.Rl}(h:UBr r):R.Small (toRl r) where
 num:=⟨h.num.1,by have:=h.num.2;show r.number<=99999;omega⟩
 path:=by have:=h.path;show (Z r.path)<=3000;omega
 ms:=⟨by have:=h.ml;show(Z (r.ms.map mtOf))<=4000;simp;omega,fun m hm=>by
  obtain⟨x,a,rfl⟩:=Hr.1 (show m∈r.ms.map mtOf from hm);have:=h.ms x a;exact⟨by show (Z x.name)<=3000;omega,by show (Z x.val)<=3000;omega⟩⟩
 tg:=⟨by have:=h.tl;show (Z r.tg)<=4000;omega,fun t ht=>by have:=h.tg t ht;exact⟨by omega,by omega,by omega⟩⟩
 «to»:=by have:=h.rep;show (Z r.rep)<=3000;omega
 sets:=⟨by have:=h.sl;show (Z r.sets)<=4000;omega,fun t ht=>by have:=h.sets t ht;exact⟨by omega,by omega⟩⟩
 drops:=⟨by have:=h.dl;show (Z r.drops)<=4000;omega,fun t ht=>by have:=h.drops t ht;omega⟩
theorem UBh.small {h:P.Hst}(a:UBh h):R.SmallH (toR h) where
 name:=by have:=a.name;show (Z h.name)<=3000;omega
 rules:=⟨by have:=a.rl;show(Z (h.rules.map toRl))<=4000;simp;omega,fun m hm=>by
  obtain⟨x,b,rfl⟩:=Hr.1 (show m∈h.rules.map toRl from hm);exact(a.rules x b).small⟩
theorem UBr.lines {r:P.Rl}(h:UBr r):Z (Fu (toRl r))<=1000000:=by
 have b:(toRl r).ms=r.ms.map mtOf:=rfl;have c:(toRl r).tg=r.tg:=rfl;have d:(toRl r).sets=r.sets:=rfl;have f:(toRl r).drops=r.drops:=rfl;have g:(toRl r).number=r.number:=rfl;have i:(toRl r).path=r.path:=rfl;have j:(toRl r).to=r.rep:=rfl;have k:Z ((toRl r).ms.map R.lnMt).flatten<=Z (toRl r).ms*600:=Od _ _ _ (fun m hm=>by
  rw[b] at hm;obtain⟨x,q,rfl⟩:=Hr.1 hm;have:=h.ms x q;unfold R.lnMt mtOf;split <;> simp only[Ah,Fy,Bb,Bu] <;> omega)
 have a:∀t∈r.tg,Z (R.lnTg t)<=300:=fun t a=>by
  have h:=h.tg t a;have p:=R.decI_len t.2 ⟨h.2.1,by omega⟩;unfold R.lnTg;simp only[Ah,Fy,Bb,Bu];omega
 have s:Z (R.lnTgs r.tg)<=Z r.tg*310:=by
  cases hg:r.tg with
  |nil=>simp[R.lnTgs]
  |cons t l=>
   rw[hg] at a;have n:=a t (by simp);have o:Z (l.map fun u=>[44,32]++R.lnTg u).flatten<=Z l*310:=Od _ _ _ (fun u hu=>by
    have:=a u (by simp[hu]);simp only[Ah,Bb,Bu];omega)
   unfold R.lnTgs;rw[Ah,Bb,Sr];omega
 have n:Z (r.sets.map R.lnSet).flatten<=Z r.sets*600:=Od _ _ _ (fun m hm=>by
  have:=h.sets m hm;unfold R.lnSet;simp only[Ah,Fy,Bb,Bu];omega)
 have o:Z (r.drops.map R.lnDrop).flatten<=Z r.drops*600:=Od _ _ _ (fun m hm=>by
  have:=h.drops m hm;unfold R.lnDrop;simp only[Ah,Fy,Bb,Bu];omega)
 have p:=R.decI_len r.number ⟨h.num.1,by have:=h.num.2;omega⟩;have v:=h.path;have w:=h.rep;have y:Z (R.lnTo (toRl r))<=400:=by
  unfold R.lnTo;rw[j];split
  ·simp only[Ah,Fy,Bb,Bu];omega
  ·simp
 have z:=h.ml;have B:=h.tl;have C:=h.sl;have E:=h.dl;rw[b,Bv] at k;unfold Fu R.lnHead;rw[b,c,d,f,g,i];simp only[Ah,Fy,Bb,Bu]
 omega
theorem UBh.lines {h:P.Hst}(a:UBh h):Z (Ex (toR h))<=256000000:=by
 have c:Z ((toR h).rules.map Fu).flatten<=Z (toR h).rules*1000000:=Od _ _ _ (fun r hr=>by
  obtain⟨x,b,rfl⟩:=Hr.1 (show r∈h.rules.map toRl from hr);exact(a.rules x b).lines)
 grind[toR,Fu,Od,toRl,Ex,List.length_append,Fy,List.length_cons,List.length_nil,P.Hst,UBh]
theorem iK (b:A Ab):Z ((jM b).map fun h=>Ex (toR h)).flatten<=70000000000:=by
 have a:=fR b;have h:=Od (fun h:P.Hst=>Ex (toR h)) 256000000 (jM b) (fun x hx=>(a.2 x hx).lines);have:=a.1
 omega
abbrev Hd6 (a b c):=Ae #[X b a c] 223
theorem pw (x:RdO w v b)(N:∀g o n c,v=X (V ⟨g,o,S⟩) n c->g<w.heap.size)(hl:Z b<=140737488355328):Am prog 75 #[v] w fun e w'=>∃a c,e=Af (Fe #[X a (Z (jM b)) c])/\PHostsRow w' 0 (X a (Z (jM b)) c) (jM b)/\w.grownBy w' S:=by
 obtain⟨f,vc,rfl,aa⟩:=x.form;have k:(w.alloc (Ae #[X S 0 0] 88)).heap.size=w.heap.size+1:=by simp
 have l:((w.alloc (Ae #[X S 0 0] 88)).alloc (Hd6 (Z b) f vc)).heap.size=w.heap.size+1+1:=by simp
 have u:w.grownBy ((w.alloc (Ae #[X S 0 0] 88)).alloc (Hd6 (Z b) f vc)) S:=zD (Ac _ _ S) (Ac _ _ S);have j:((w.alloc (Ae #[X S 0 0] 88)).alloc (Hd6 (Z b) f vc)).heap[w.heap.size+1]?=V (Hd6 (Z b) f vc):=by
  have:=Bn (w.alloc (Ae #[X S 0 0] 88)) (Hd6 (Z b) f vc);rw[k] at this;exact this
 have i:Y (((w.alloc (Ae #[X S 0 0] 88)).alloc (Hd6 (Z b) f vc)).heap[w.heap.size]?=V (Ae #[X S 0 0] 88)):=zE (Bn w (Ae #[X S 0 0] 88)) (Ac _ _ S);have E:Y (UInv ((w.alloc (Ae #[X S 0 0] 88)).alloc (Hd6 (Z b) f vc)) (w.heap.size+1) (w.heap.size+2) b):=⟨⟨_,j,x.keep u (fun g o n c e c2=>by cases c2),fun g o n c e=>by have:=N g o n c e;exact⟨by omega,by omega⟩⟩,hl,by omega,by omega⟩;have C:Y (jM b=(zW yY (vG 3 b).2).1):=rfl;have h:=J (u);generalize jM b=res at*;go_in;go_wp2_with fail;refine(nR E.o 3).mono ?_;rintro e w1 ⟨a1,k1,rfl,_,Q,s⟩;have m:=J (Q);have B:=J (ze h.o s);have q:=J (zE i.o s);generalize vG 3 b=p at*;obtain⟨_,r1⟩:=p;simp only at m C;go_wp2_with fail;refine(zfF m.o).mono ?_;rintro e w2 ⟨u2,rfl,i2,t,o2⟩;have G2:=J (ze B.o t);have d:=J (zE q.o t);obtain⟨r,y,o4⟩:=o2;obtain⟨a,c,rfl⟩:=zL y;have F:Y (PHostsRow w2 0 (X a (Z (zW yY r1).1) c) (zW yY r1).1):=⟨r,zo y (Ax _),o4⟩;have z:=cbi 0 d.o;have ab:=zm9 0 d.o;rw[<-C.o] at F ⊢;have H:=zF w2 w.heap.size 0 (X a (Z res) c);go_wp2;refine Et (v:=.agg #[X a (Z res) c]) (by simp[Hm,results75,go_sem,z]) rfl ?_;exact⟨a,c,rfl,F.o.keep H (xQ d.o),ze G2.o H (Aq _)⟩
theorem j8 {a:Br Addr}{c:Ad}{l:A Ab}(h:RdO w (X a (Z l) c) l):(convert 32 9 (X a (Z l) c)).run prog w = .ok (I (Aa l)) w:=by
 rcases h with ⟨_,_,e,rfl⟩|⟨g,o,c',e,_,_,h3⟩
 ·exact t8 w a c
 ·simp only[Au,Fb] at e
  obtain⟨rfl,rfl⟩:=e;exact Qb (P:=prog) w 32 9 5 ⟨g,o,S⟩ c l underlying32 underlying5 underlying9 (fun j hj=>by
   rw[vJ];exact h3 j _ (Bd hj))
theorem RdO.of_row {l:A Ab}(h:w.ownsRow B 5 1 v (Z l) (Ba l)):RdO w v l:=by
 rcases h.2 with ⟨h1,h2⟩|⟨g,cap,cur,hv,hB,hb,hle,r⟩
 ·exact Ay ⟨S,0,h1,Ep.1 h2⟩
 ·refine Bf ⟨g,0,cap,hv,hle,zO hb,fun j u hu=>?_⟩
  subst hv;have a:j<Z l:=(Bo.1 hu).1;rw[Gr,Ap h j (by omega)];unfold Ba;rw[Fq,hu];rfl
theorem zf5 {f g:Aj}{a:A Ab}(c:RdO w f a)(d:RdO w g b):Am prog 76 #[f,g] w fun e w'=>e=Af (Av (decide (a=b)))/\w'=w:=by
 obtain⟨h,ac,rfl,_⟩:=c.form;obtain⟨i,j,rfl,_⟩:=d.form;have k:=j8 c;have l:=j8 d;go_in;go_wp2;go_ret;refine⟨?_,rfl⟩;show Af (Value.bool ((Aa a).toList == (Aa b).toList))=_;rw[El,El,Be,Be]
 congr 2
 rw[Eb];simp
theorem VHst.pk {x:P.Hst}(h:VHst x):VPk x:=⟨h.nl,h.rl,h.rules⟩
theorem zjY {st:P.St}(a:st.broken=false)(b:st.err=0):(yV st).1=0:=by unfold yV;rw[a,b];rfl
theorem zeT (hr:RdO w v b)(hv:∀g o n c,v=X (V ⟨g,o,S⟩) n c->g<w.heap.size)(hl:Z b<=140737488355328)(hG:Glob w)(hT:GT w):Am prog 44 #[v] w fun e w'=>w.grownBy w' S/\((∃f a c,VHs f/\x4 f=b/\e=Af (Cm #[Fe #[X a (Z f) c],Av true])/\PHostsRow w' 0 (X a (Z f) c) f)\/((∀f,VHs f->x4 f≠b)/\e=Af (Cm #[Fe #[X S 0 0],Av false]))):=by
 obtain⟨va,vc,rfl,aF⟩:=hr.form;have gA:w.grownBy (w.alloc (Ae #[X S 0 0] 88)) S:=Ac _ _ S;have az:(w.alloc (Ae #[X S 0 0] 88)).heap.size=w.heap.size+1:=by simp
 have ad:Y (RdO (w.alloc (Ae #[X S 0 0] 88)) (X va (Z b) vc) b):=hr.keep gA (fun g o n c e c2=>by cases c2);have am:Y (Am prog 75 #[X va (Z b) vc] (w.alloc (Ae #[X S 0 0] 88)) fun e w'=>∃a c,e=Af (Fe #[X a (Z (jM b)) c])/\PHostsRow w' 0 (X a (Z (jM b)) c) (jM b)/\(w.alloc (Ae #[X S 0 0] 88)).grownBy w' S):=pw ad.o (fun g o n c e=>by have:=hv g o n c e;omega) hl;have HG:=J (hG.grown gA);have HT:=J (hT.grown gA);have ay:Y ((w.alloc (Ae #[X S 0 0] 88)).heap[w.heap.size]?=V (Ae #[X S 0 0] 88)):=Bn _ _;have ah:=J (gA);have F:=iK b;have aC:=(fR b).1;have al:Y (∀h∈jM b,R.SmallH (toR h)):=fun h hh=>((fR b).2 h hh).small
 have aj:Y (Ic ((jM b).map toR)=((jM b).map fun h=>Ex (toR h)).flatten):=nK _;have i:Y (∀f,VHs f->x4 f=b->(zp (Ic ((jM b).map toR))).1=f/\(zp (Ic ((jM b).map toR))).2.broken=false/\(zp (Ic ((jM b).map toR))).2.err=0/\∀d,SrtH f d->d=f):=fun f h1 h2=>(zgH h1 h2).2
 generalize jM b=us at*;go_in;go_wp2_with fail;refine am.o.mono ?_;rintro e w1 ⟨a1,c1,rfl,y,g1⟩;have ai:Y (Am prog 42 #[Fe #[X a1 (Z us) c1]] w1 fun e w'=>e=Af (I (Aa (Ic (us.map toR))))/\w1.grownBy w' S):=tu _ us y (by omega) (by omega) al.o (HT.o.grown g1);have G1:=J (g1);have aE:Z (Ic (us.map toR))<=70000000000:=by rw[aj.o];exact F
 generalize Ic (us.map toR)=l at*;go_wp2_with fail;refine ai.o.mono ?_;rintro e w2 ⟨rfl,g2⟩;have G2:=J (zD G1.o g2);have af:=lZ (Aa l) w2 (by rw[Bz];omega) (HG.o.grown G2.o) (fun h1 h2=>by
  rw[Be] at h1 h2 ⊢;obtain⟨q1,q2,_⟩:=mB l h1 h2;exact⟨by omega,fun h hh=>by have:=(q2 h hh).rl;omega⟩)
 rw[Be] at af;have ak:Y (Am prog 67 #[I (Aa l)] w2 fun e w'=>∃v,e=Af (Cm #[Fe #[v],O Ai (yV (zp l).2).1,O Ai (yV (zp l).2).2])/\w2.grownBy w' S/\
   ((zp l).2.broken=false->(zp l).2.err=0->∃d,PHostsRow w' 0 v d/\SrtH (zp l).1 d)/\∃a n c,v=X a n c):=af
 go_wp2_with fail;refine ak.o.mono ?_;rintro e H ⟨v3,rfl,g3,an,j,n3,k,rfl⟩;have aa:=J (an);have G3:=J (zD G2.o g3);have Q:Y ((yV (zp l).2).1=0->(zp l).2.broken=false/\(zp l).2.err=0):=fun h=>wg h
 have r:Y ((zp l).2.broken=false->(zp l).2.err=0->(yV (zp l).2).1=0):=fun h1 h2=>zjY h1 h2
 generalize(yV (zp l).2).2=at3 at*;generalize(yV (zp l).2).1=er at*;have gP:H.grownBy (H.alloc (Ae #[X j n3 k] 88)) S:=Ac _ _ S;have z:Y ((H.alloc (Ae #[X j n3 k] 88)).heap[H.heap.size]?=V (Ae #[X j n3 k] 88)):=Bn _ _;have B:=J (zE (zE ay.o G3.o) gP);have G4:=J (zD G3.o gP);have ap:=cbi 0 B.o;have aA:=zm9 0 B.o
 by_cases C:er=0
 ·subst C
  obtain⟨e1,e2⟩:=Q.o rfl;obtain⟨d,u,m⟩:=aa.o e1 e2;obtain⟨k1,k2,k3⟩:=mB l e1 e2;have E:=dt m k1 k2 k3;have au:Y (∀f,VHs f->x4 f=b->d=f):=fun f h1 h2=>by
   obtain⟨f1,_,_,f4⟩:=i.o f h1 h2;rw[f1] at m;exact f4 d m
  obtain⟨q1,q2,hq⟩:∃q1 q2,X j n3 k=X q1 (Z d) q2:=by obtain⟨css,h1,_⟩:=u;exact zL h1
  simp only[Au] at hq;obtain⟨rfl,rfl,rfl⟩:=hq;have ax:=J (E);have t:Y (PHostsRow (H.alloc (Ae #[X j (Z d) k] 88)) 0 (X j (Z d) k) d):=u.keep gP (za _ _);have N:Y (Am prog 43 #[Fe #[X j (Z d) k]] (H.alloc (Ae #[X j (Z d) k] 88)) (Gives (H.alloc (Ae #[X j (Z d) k] 88)) (x4 d))):=sE _ d t.o E.hl (fun x hx=>(E.hosts x hx).pk);have aB:=cbi 0 z.o;obtain⟨pk,s⟩:∃pk,Y (pk=x4 d):=⟨_,rfl⟩;rw[<-s.o] at N;go_wp2_with fail;refine N.o.mono ?_;rintro e w5 ⟨a5,k5,rfl,h5,g5⟩;have G5:=J (zD (zD ah.o G4.o) g5);have ag:Y (Am prog 76 #[X a5 (Z pk) k5,X va (Z b) vc] w5 fun e w'=>e=Af (Av (decide (pk=b)))/\w'=w5):=zf5 (RdO.of_row h5) (ad.o.keep (zD G4.o g5) (fun g o n c e c2=>by cases c2));have ae:=J (zE B.o g5);have av:=J (zE z.o g5);have aw:Y (PHostsRow w5 0 (X j (Z d) k) d):=t.o.keep g5 (za _ _);have y0:=cbi 0 ae.o;have yf:=zm9 0 ae.o;have yp:=cbi 0 av.o;go_wp2_with fail;refine ag.o.mono ?_;rintro e wE ⟨rfl,ao⟩;rw[ao]
  by_cases p:pk=b
  ·have ab:=J (p)
   rw[show decide (pk=b)=true by simp[p]];have f:=zF w5 w.heap.size 0 (X j (Z d) k);go_wp2;refine Et (v:=.tuple #[Fe #[X j (Z d) k],Av true]) (by simp[Hm,results44,go_sem,y0]) rfl ?_;exact⟨ze G5.o f (Aq _),Ay ⟨d,j,k,ax.o,s.o.symm.trans ab.o,rfl,aw.o.keep f (xQ ae.o)⟩⟩
  ·rw[show decide (pk=b)=false by simp[p]]
   have ab:=J (p);have f:=zF w5 w.heap.size 0 (X S 0 0);go_wp2;refine Et (v:=.tuple #[Fe #[X S 0 0],Av false]) (by simp[Hm,results44,go_sem,y0]) rfl ?_;exact⟨ze G5.o f (Aq _),Bf ⟨fun q h1 h2=>ab.o (by rw[<-h2,<-au.o q h1 h2];exact s.o),rfl⟩⟩
 ·have aD:=C
  have f:=zF (H.alloc (Ae #[X j n3 k] 88)) w.heap.size 0 (X S 0 0);have aq:=J (zD ah.o G4.o);have ar:Y (∀f,VHs f->x4 f≠b):=fun f h1 h2=>by
   obtain⟨_,f2,f3,_⟩:=i.o f h1 h2;exact C (r.o f2 f3)
  go_wp2;refine Et (v:=.tuple #[Fe #[X S 0 0],Av false]) (by simp[Hm,results44,go_sem,ap]) rfl ?_;exact⟨ze aq.o f (Aq _),Bf ⟨ar.o,rfl⟩⟩
end Go.Proofs.YtfocdefchbnkpaaGreatDoor
