import Derived.Test.YtfocdefchbnkpaaGreatDoorKpC
import Derived.Laws.CopyOwn
import Derived.StillTailTactics
set_option maxRecDepth 100000
set_option maxHeartbeats 20000000
open Go renaming World->Ag,Value->Aj,Calls->Am,info_parts->Ej,heap_alloc_new->Bn,maxLen->Bh,wpList_append_lies->Ei,Addr->Eu,bodyPost_ret->Et,results->Hm,madeCells->Sz,convert->Oh,run_convert_bytes_back->Qb,wpList_append_own->Cu,wp_region_still_tail->Va,wpStill_step->Se
open Go.Addr.mk renaming injEq->Qo
open Go.ByteArray renaming toList_eq->El
open Go.Ending renaming returned->Af
open Go.IntKind renaming i64->Ai,u8->Bp
open Go.Lib renaming byteCells->Ba,byteCells_append->Hl
open Go.Obj renaming cells->Ae
open Go.Proofs.YtfocdefchbnkpaaGreatDoor.R renaming str->Aa,str_size->Bz,str_toList->Be,lines->Fu,flat_len->Od,q_len->Fy,hostLines->Ex,plain->Ic,Hst->Fp,readS->Gw
open Go.Proofs.YtfocdefchbnkpaaGreatDoor.R.Mt renaming cells->Qx
open Go.Sort renaming swo_ltStr->Hk,ltInt->Mw,swo_ltInt->Nl
open Go.Value renaming int->O,slice->X,string->I,tuple->Cm,pointer->Al,bool->Av,agg->Fe
open Go.Value.slice renaming injEq->Au
open Go.World renaming ownsRow_nil->Bk,grownBy_alloc->Ac,alloc->Eo,setCell->Bs,ownsRow->Ib,drew->Md
open Go.World.ownsRow renaming lt->An,alloc->Ao,form->Bm,cellAt->Ap
open List renaming replicate->Hs,length->Z
open Option renaming some->V,none->S
open Or renaming inl->Ay,inr->Bf
open Prod renaming fst->Bq
open UInt8 renaming ofNat->Cb
open _root_ renaming Nat->Ad,List->A,UInt8->Ab,Option->Br,Int->Ak
namespace Go.Proofs.YtfocdefchbnkpaaGreatDoor
open Go.RowKit Tryz
variable {w w':Ag}{a k B rb:Ad}{v:Aj}{b r l:A Ab}{s:T.St}
theorem TInv.tlt (h:TInv w a v b s):a<w.heap.size:=by grind[T.St,TInv]
theorem TInv.other {f:Ad}(h:TInv w f v b s)(i:w.grownBy w' (V k))(j:k≠f)(d:b=[]\/∀g o n c,v=X (V ⟨g,o,S⟩) n c->g≠k):TInv w' f v b s:=by
 obtain⟨p,l,m,q⟩:=h.ex;refine⟨⟨p,l,m,zE q i (fun c=>j (Bc c).symm)⟩,?_,h.ap,h.len⟩;rcases d with d|d
 ·subst d
  obtain⟨a,c,rfl,_⟩:=h.rd.form;exact Ay ⟨a,c,rfl,rfl⟩
 ·exact h.rd.keep i (fun g o n c e c2=>d g o n c e (Bc c2).symm)
variable {α:Type}
theorem bU (f:T.St->α×T.St)(a:A α)(N i:Ad)(st:T.St)(h:i<N) :
  (a++(qU f (N-i) st).1,(qU f (N-i) st).2)=((a++[(f st).1])++(qU f (N-(i+1)) (f st).2).1,(qU f (N-(i+1)) (f st).2).2):=by
 rw[show N-i=N-(i+1)+1 by omega,Bl];rfl
theorem fQ {α:Type}(f:T.St->α×T.St)(b_0:α->Prop)(a:∀s,b_0 (f s).1):∀(n:Ad) (s:T.St),∀x∈(qU f n s).1,b_0 x
 |0,_,x,hx=>by cases hx
 |n+1,s,x,hx=>by
  unfold qU at hx;rcases En.1 hx with h|h
  ·rw[h];exact a s
  ·exact fQ f b_0 a n _ x h
def bR (l:A (A Ab))(i:Ad)(s:T.St):T.St:=jf (l.take i) (l.drop i) s
theorem zaQ (l:A (A Ab))(s:T.St):bR l 0 s=jf [] l s:=by unfold bR;simp
theorem zdT (l:A (A Ab))(s:T.St):bR l (Z l) s=s:=by unfold bR;simp[jf]
theorem zaP (l:A (A Ab))(i:Ad)(s:T.St)(h:i<Z l):bR l i s=bR l (i+1) ((l.take i).foldl (fun s a=>qP s (decide (l[i]≠a))) (qP s (R.header l[i] false))):=by
 unfold bR;rw[Ed h,jf,Co h]
def mY (l:A (A Ab))(x:A Ab)(k:Ad)(s:T.St):T.St:=(l.take k).foldl (fun s a=>qP s (decide (x≠a))) s
theorem zaR (l:A (A Ab))(x:A Ab)(k:Ad)(s:T.St)(h:k<Z l):mY l x (k+1) s=qP (mY l x k s) (decide (x≠l[k])):=by
 unfold mY;rw[Co h,Mb];rfl
abbrev Gq0 (a):=Ae #[I (Aa a),I ⟨#[]⟩] 185
abbrev Gq1 (a b):=Ae #[I (Aa a),I (Aa b)] 185
theorem nj {H:Ad}(h:TInv w H v b s)(C:Ad)(c0 c1 c2 c3 c4 c5:Aj)
  (hu:w.heap[C]?=V (Ae #[c0,c1,c2,c3,c4,c5,X S 0 0,X S 0 0] 126 (0,0))) (aj:C≠H) (bZ:b=[]\/∀g o n c,v=X (V ⟨g,o,S⟩) n c->g≠C):Am prog 198 #[Al (V ⟨H,0,S⟩),Al (V ⟨C,0,S⟩)] w fun e w'=>e=Af (Cm #[])/\TInv w' H v b (xE s).2/\Kept2 w w' H C/\
   ∃vS vD,w'.heap[C]?=V (Ae #[c0,c1,c2,c3,c4,c5,vS,vD] 126 (0,0))/\w'.ownsRow w.heap.size 185 2 vS (Z (xE s).1.1) (zi (xE s).1.1)/\w'.ownsRow w.heap.size 9 1 vD (Z (xE s).1.2) (zY (xE s).1.2):=by
 obtain⟨i0,hi,db,dd,de⟩:=Ej aM;obtain⟨i1,hj,a4,a5,a6⟩:=Ej fW;have cW:=uR 3 s (by omega);have HP:Y (xE s=(((vE s).1,(uQ (vE s).2).1),jf [] ((vE s).1.map Bq++(uQ (vE s).2).1) (uQ (vE s).2).2)):=rfl;have aS:Y (vE s=qU T.st (zr 3 s).1 (zr 3 s).2):=rfl;have aD:Y (∀x∈(vE s).1,Z x.1<=255):=fQ T.st _ (fun s=>j7 s) _ _;have cC:=J (hu);have dk:=h.tlt;have dy:=zO hu;have bA:=J (bZ);have ar:Y (∀(wu w':Ag) (s1:T.St) (row:Br Ad),TInv wu H v b s1->wu.grownBy w' row->(∀k,row=V k->w.heap.size<=k)->TInv w' H v b s1):=fun wu w' s1 row h1 h2 h3=>h.far h1 h2 h3
 have HF:=J (kD h 3);clear h hu bZ;generalize xE s=res at*;generalize vE s=q at*;generalize zr 3 s=fw at*;obtain⟨N,s1⟩:=fw;simp only at HF cW aS;go_in;go_wp2_with fail;refine HF.o.mono ?_;rintro e w1 ⟨rfl,b2,g1⟩;have I1:=J (b2);have K1:Y (Kept2 w w1 H C):=(Kept2.refl w H C).step g1;have U1:=J (zE cC.o g1 (fun c=>aj (Bc c)));clear b2 g1;go_wp2_with fail
 go_loopw [4,6] (fun u iv wr=>∃(i:Ad) (a:A (A Ab×A Ab)) (st:T.St) (vS:Aj),i<=N/\(Z a)=i/\iv=O Ai i/\Y (q=(a++(qU T.st (N-i) st).1,(qU T.st (N-i) st).2))/\Y (TInv wr H v b st)/\Y (Kept2 w wr H C)/\Y (wr.heap[C]?=V (Ae #[c0,c1,c2,c3,c4,c5,vS,X S 0 0] 126 (0,0)))/\Y (wr.ownsRow w.heap.size 185 2 vS (Z a) (zi a))/\Y (wr.ownsRow w.heap.size 9 1 u (Z a) (zY (a.map Bq)))) (fun _ iv _=>N-(intOf iv).toNat)
 case atStart=>exact⟨0,[],s1,_,Ax _,rfl,rfl,by show _=_;rw[aS.o];rfl,I1,K1,U1,Bk _ _ _ _,Bk _ _ _ _⟩
 case round=>
  obtain⟨i,a,st,vS,dr,cY,rfl,HE,IR,HR,HU,HS,HA⟩:=hrel;subst cY
  by_cases a7:Z a<N
  ·have bQ:(Z a:Ak)<N:=by omega
   have aa:Y (q=((a++[(T.st st).1])++(qU T.st (N-(Z a+1)) (T.st st).2).1,(qU T.st (N-(Z a+1)) (T.st st).2).2)):=by show _=_;rw[HE.o];exact bU T.st a N (Z a) st a7
   have HT:Y (T.st st=(((zj st).1,(zj (zj st).2).1),qP (zj (zj st).2).2 (R.value (zj (zj st).2).1))):=rfl;have c9:=j7 st;have b0:=j7 (zj st).2;clear HE;generalize T.st st=ts at*;obtain⟨va,vc,rfl⟩:=zL HS.o;have cM:=J (HU.o);have cx:=J HS.o;have cj:=J HA.o;go_wp2_with fail;refine(vB IR.o).mono ?_;rintro e p ⟨rfl,bC,bN⟩;have aZ:=J bC;have di:=aZ.o.tlt;have ax:=J (bN);have bd:=J (HR.o.step ax.o);have dQ:=bd.o.size;have cO:=J (zE cM.o ax.o (by simp;omega));have bw:Y _:=zQ cx.o ax.o (by omega);have ck:Y _:=zQ cj.o ax.o (by omega);clear bN bC;generalize zj st=tx at*;obtain⟨F,s3⟩:=tx;simp only at aZ HT c9 b0;have df:∀k,((X va (Z a) vc):Aj).ownBlock=V k->k<p.heap.size:=fun k l=>(An bw.o k l).2
   go_wp2_with fail;have cH:Y _:=aZ.o.keep (Ac p (Gq0 F) S);have b6:Y (Kept2 w (Eo p (Gq0 F)) H C):=bd.o.far (Ac p (Gq0 F) S) (fun k l=>by cases l);have cP:=J (zE cO.o (Ac p (Gq0 F) S) (by simp));have cy:Y _:=Ao bw.o (Gq0 F);have cl:Y _:=Ao ck.o (Gq0 F);have cc:Y ((Eo p (Gq0 F)).heap[p.heap.size]?=V (Gq0 F)):=Bn _ _;have dM:p.heap.size+1<=(Eo p (Gq0 F)).heap.size:=by simp
   have dN:(Eo p (Gq0 F)).heap.size<=p.heap.size+1:=by simp
   generalize(Eo p (Gq0 F))=wL2 at*;refine(vB cH.o).mono ?_;rintro e ae ⟨rfl,bD,bO⟩;have bG:=J bD;have an:=J (bO);have b7:=J (b6.o.step an.o);have cQ:=J (zE cP.o an.o (by simp;omega));have cz:Y _:=zQ cy.o an.o (by omega);have bl:Y _:=zQ cl.o an.o (by omega);have aw:=J (zE cc.o an.o (by simp;omega));clear bO bD;generalize zj s3=ty at*;obtain⟨vl,s4⟩:=ty;simp only at bG HT b0;have dC:=cbi 1 aw.o;have dD:=zm9 1 aw.o;go_wp2_with fail;have cI:Y _:=ar.o _ _ _ _ bG.o (zF ae p.heap.size 1 (I (Aa vl))) (fun k l=>by have:=Bc l;omega);have b8:Y (Kept2 w (Bs ae ⟨p.heap.size,1,S⟩ (I (Aa vl))) H C):=b7.o.far (zF ae p.heap.size 1 (I (Aa vl))) (fun k l=>by cases l;omega);have cR:=J (zE cQ.o (zF ae p.heap.size 1 (I (Aa vl))) (by simp;omega));have cA:Y _:=zJ cz.o (zF ae p.heap.size 1 (I (Aa vl))) (fun k l=>by have:=df k l;omega);have cm:Y _:=zJ bl.o (zF ae p.heap.size 1 (I (Aa vl))) (zI aw.o bl.o (by decide));have cd:Y ((Bs ae ⟨p.heap.size,1,S⟩ (I (Aa vl))).heap[p.heap.size]?=V (Gq1 F vl)):=zH aw.o (I (Aa vl));generalize(Bs ae ⟨p.heap.size,1,S⟩ (I (Aa vl)))=wL4 at*;have hv:=dj (Aa vl) wL4 (by rw[Bz];unfold Bh;omega);rw[Be] at hv;have HV:=J (hv);clear hv;refine HV.o.mono ?_;rintro e wX ⟨rfl,b1⟩;rw[b1];clear b1 wX;generalize R.value vl=vv at*;go_wp2_with fail;refine(yP cI.o vv).mono ?_;rintro e bc ⟨rfl,bE,bP⟩;have cJ:=J bE;have ao:=J (bP);have aK:=J (b8.o.step ao.o);have dR:=aK.o.size;have bJ:=J (zE cR.o ao.o (by simp;omega));have bx:Y _:=zQ cA.o ao.o (by omega);have ah:Y _:=zQ cm.o ao.o (by omega);have aN:=J (zE cd.o ao.o (by simp;omega));clear bP bE;generalize qP s4 vv=s5 at*;have dE:=cbi 0 aN.o;go_wp2_with (at_builtin;refine Ei _ rfl _ _ 22 rfl (w.heap.size) 9 i1 _ 1 16 underlying22 hj a4 a5 a6 rfl (by decide) _ _ _ rfl (Ao ah.o _) ⟨bc.heap.size,0,S⟩ 1 1 [I (Aa F)] rfl rfl ?c1 ?c2 (by decide) ?c3 ?c4 ?c5 (bc.heap.size+1) (by simp) ?_)
   case c1=>exact zZ _ #[_] _ _ (by simp)
   case c2=>intro u hu;simp at hu;subst hu;rfl
   case c3=>unfold Bh;omega
   case c4=>omega
   case c5=>have:=aK.o.size;simp;omega
   intro cV cT E bY z dp _;have cn:Y (E.ownsRow w.heap.size 9 1 (X (V ⟨cV,0,S⟩) (Z a+1) cT) (Z a+1) (zY (a.map Bq++[F]))):=by rw[xl];exact bY
   have av:∀k,(u4:Aj).ownBlock=V k->w.heap.size<=k:=fun k l=>(An ah.o k l).1
   have b3:∀k,(u4:Aj).ownBlock=V k->k<bc.heap.size:=fun k l=>(An ah.o k l).2
   have cK:Y _:=ar.o _ _ _ _ (cJ.o.keep (Ac _ _ _)) z av;have be:Y (Kept2 w E H C):=(aK.o.step (Ac _ _ _)).far z (fun k l=>by have h1:=av k l;omega);have dS:=be.o.size;have a1:Y (E.heap[C]?=V (Ae #[c0,c1,c2,c3,c4,c5,X va (Z a) vc,X S 0 0] 126 (0,0))):=zw (zE bJ.o (Ac _ _ S) (by simp)) z (fun k l=>by have h1:=av k l;have h2:=b3 k l;exact zI bJ.o ah.o (by decide) k l);have cB:Y _:=zK (Ao bx.o _) z (qB ah.o bx.o (by decide));have bg:Y (E.heap[p.heap.size]?=V (Gq1 F vl)):=zw (zE aN.o (Ac _ _ S) (by simp)) z (fun k l=>by have h1:=av k l;have h2:=b3 k l;exact zI aN.o ah.o (by decide) k l);clear bY z av;have dF:=cbi 0 bg.o;have dG:=cbi 1 bg.o;have dI:=zO a1.o;have dH:=cbi 6 a1.o;go_wp2;have gD:E.grownBy (E.alloc (Gq1 F vl)).drew S:=zD (Ac _ _ _) (zV _);have aE:Y ((E.alloc (Gq1 F vl)).drew.ownsRow w.heap.size 185 2 (X va (Z a) vc) (Z a) (zi a)):=Ao cB.o _;have ct:Y (∀j u,([I (Aa F),I (Aa vl)]:A Aj)[j]?=V u->(E.alloc (Gq1 F vl)).drew.cell? ((⟨E.heap.size,0,S⟩:Eu).add j)=V u):=zZ E #[_,_] _ _ rfl;have ce:Y (∀u∈([I (Aa F),I (Aa vl)]:A Aj),u.oneCell'=true):=by intro u hu;simp at hu;rcases hu with rfl|rfl <;> rfl
   have cs:Y (Z a+1<=Bh):=by show _<=_;unfold Bh;omega
   have cp:Y (w.heap.size<=(E.alloc (Gq1 F vl)).drew.heap.size):=by show _<=_;rw[show(E.alloc (Gq1 F vl)).drew.heap.size=E.heap.size+1 from by simp];omega
   have cD:Y ((E.alloc (Gq1 F vl)).drew.heap.size=E.heap.size+1):=by show _=_;simp
   have JD:Y _:=cK.o.keep gD;have CD:Y (Kept2 w (E.alloc (Gq1 F vl)).drew H C):=be.o.far gD (fun k l=>by cases l);have bH:=J (zE a1.o gD (by simp));have bi:=J (zK cn.o gD (fun k l c=>by cases c));clear gD
   go_region_law (refine step_append_lies _ rfl (.tmp 42) (.tmp 44) 124 rfl w.heap.size 185 i0 _ 2 32 underlying124 hi db dd de rfl (by decide) _ _ _ (by simp[Act.eval]) aE.o ⟨E.heap.size,0,S⟩ 1 1 [I (Aa F),I (Aa vl)] (by simp[Act.eval]) rfl ct.o ce.o (by decide) cs.o (by omega) cp.o (E.heap.size+1) cD.o ?_;intro g9 aF w9 bV Q dn dx;have a2:∀k,(X va (Z a) vc:Aj).ownBlock=V k->w.heap.size<=k:=fun k l=>(An aE.o k l).1;have J9:Y _:=ar.o _ _ _ _ JD.o Q a2;have C9:Y (Kept2 w w9 H C):=CD.o.far Q a2;have au:=J (zw bH.o Q (zI bH.o aE.o (by decide)));have dA:=cbi 6 au.o;have dB:=zm9 6 au.o;have br:Y (w9.ownsRow w.heap.size 185 2 (X (V ⟨g9,0,S⟩) (Z a+1) aF) (Z (a++[(F,vl)])) (zi (a++[(F,vl)]))):=(by { rw[yW,Ah];exact bV });have bh:=J (zK bi.o Q (qB aE.o bi.o (by decide)));clear bV Q a2)
   all_goals
    have gS:=zF w9 C 6 (X (V ⟨g9,0,S⟩) (Z a+1) aF);have JS:Y _:=J9.o.other gS aj bA.o;have CS:=J (C9.o.own gS);have cL:Y ((w9.setCell ⟨C,6,S⟩ (X (V ⟨g9,0,S⟩) (Z a+1) aF)).heap[C]?=V (Ae #[c0,c1,c2,c3,c4,c5,X (V ⟨g9,0,S⟩) (Z a+1) aF,X S 0 0] 126 (0,0))):=zH au.o _;have cu:Y _:=zJ br.o gS (zI au.o br.o (by decide));have cf:Y _:=zJ bh.o gS (zI au.o bh.o (by decide));clear gS;go_wp2_with fail
    go_roundw
    case rel=>exact⟨Z a+1,a++[(F,vl)],s5,_,by omega,by simp,by go_num,by rw[HT.o] at aa;exact aa,JS,CS,cL,cu,by rw[Ef,Ah];exact cf⟩
    case measure=>simp[intOf];omega
  ·have aa:Y (q=(a,st)):=by
    show _=_;rw[HE.o,show N-Z a=0 by omega];simp[qU]
   clear HE;rw[aa.o] at HP;simp only at HP;have cX:=uR 3 st (by omega);have aT:Y (uQ st=qU zj (zr 3 st).1 (zr 3 st).2):=rfl;have aC:Y (∀x∈(uQ st).1,Z x<=255):=fQ zj _ (fun s=>j7 s) _ _;rw[aa.o] at aD;simp only at aD;have aR:=J (kD IR.o 3);generalize uQ st=d at*;generalize zr 3 st=fw at*;obtain⟨M,s7⟩:=fw;simp only at aR cX aT;go_wp2_with fail;refine aR.o.mono ?_;rintro e w2 ⟨rfl,i2,g2⟩;have I2:=J (i2);have K2:=J (HR.o.step g2);have U2:=J (zE HU.o g2 (fun c=>aj (Bc c)));have bT:∀k,w.heap.size<=k->V H≠V k:=fun k l c=>by have:=Bc c;omega
   have S2:=J (zK HS.o g2 (fun k l=>bT k (An HS.o k l).1));have A2:=J (zK HA.o g2 (fun k l=>bT k (An HA.o k l).1));clear i2 g2 IR HR HU HS HA;go_wp2_with fail
   go_loopw [4,9] (fun u iv wr=>∃(f:A (A Ab)) (s2:T.St) (vD:Aj),Z f<=M/\iv=O Ai (Z f)/\Y (d=(f++(qU zj (M-Z f) s2).1,(qU zj (M-Z f) s2).2))/\Y (TInv wr H v b s2)/\Y (Kept2 w wr H C)/\Y (wr.heap[C]?=V (Ae #[c0,c1,c2,c3,c4,c5,vS,vD] 126 (0,0)))/\Y (wr.ownsRow w.heap.size 185 2 vS (Z a) (zi a))/\Y (wr.ownsRow w.heap.size 9 1 u (Z a+Z f) (zY (a.map Bq++f)))/\Y (wr.ownsRow w.heap.size 9 1 vD (Z f) (zY f))/\Y (∀k,u.ownBlock=V k->vD.ownBlock≠V k)) (fun _ iv _=>M-(intOf iv).toNat)
   case atStart=>exact⟨[],s7,_,Ax _,rfl,by show _=_;rw[aT.o];rfl,I2,K2,U2,S2,by rw[Cv];exact A2,Bk _ _ _ _,by intro k _ l;simp[Value.ownBlock] at l⟩
   case round=>
    obtain⟨f,s2,vD,dl,rfl,HE,IX,HX,aW,aU,af,az,aL⟩:=hrel
    by_cases a7:Z f<M
    ·have bQ:(Z f:Ak)<M:=by omega
     have aa:Y (d=((f++[(zj s2).1])++(qU zj (M-(Z f+1)) (zj s2).2).1,(qU zj (M-(Z f+1)) (zj s2).2).2)):=by show _=_;rw[HE.o];exact bU zj f M (Z f) s2 a7
     clear HE;obtain⟨da,dc,rfl⟩:=zL az.o;have cS:=J (aW.o);have cv:=J aU.o;have cg:=J af.o;have cq:=J az.o;go_wp2_with fail;refine(vB IX.o).mono ?_;rintro e bb ⟨rfl,bB,bM⟩;have bF:=J bB;have al:=J (bM);have aI:=J (HX.o.step al.o);have dO:=aI.o.size;have bI:=J (zE cS.o al.o (by simp;omega));have bt:Y _:=zQ cv.o al.o (by omega);have ap:Y _:=zQ cg.o al.o (by omega);have bn:Y _:=zQ cq.o al.o (by omega);clear bM bB;generalize zj s2=tx at*;obtain⟨F,s3⟩:=tx;simp only at bF aa;go_wp2_with (at_builtin;refine Ei _ rfl _ _ 22 rfl (w.heap.size) 9 i1 _ 1 16 underlying22 hj a4 a5 a6 rfl (by decide) _ _ _ rfl (Ao ap.o _) ⟨bb.heap.size,0,S⟩ 1 1 [I (Aa F)] rfl rfl ?c1 ?c2 (by decide) ?c3 ?c4 ?c5 (bb.heap.size+1) (by simp) ?_)
     case c1=>exact zZ _ #[_] _ _ (by simp)
     case c2=>intro u hu;simp at hu;subst hu;rfl
     case c3=>unfold Bh;omega
     case c4=>omega
     case c5=>have:=aI.o.size;simp;omega
     intro cU bK ak bW r cZ _;have bj:Y (ak.ownsRow w.heap.size 9 1 (X (V ⟨cU,0,S⟩) (Z a+Z f+1) bK) (Z a+Z f+1) (zY (a.map Bq++f++[F]))):=by rw[xl];exact bW
     have aG:∀k,(u4:Aj).ownBlock=V k->w.heap.size<=k:=fun k l=>(An ap.o k l).1
     have dg:∀k,(u4:Aj).ownBlock=V k->k<bb.heap.size:=fun k l=>(An ap.o k l).2
     have cE:Y _:=ar.o _ _ _ _ (bF.o.keep (Ac _ _ _)) r aG;have aJ:Y (Kept2 w ak H C):=(aI.o.step (Ac _ _ _)).far r (fun k l=>by have h1:=aG k l;omega);have dP:=aJ.o.size;have a0:Y (ak.heap[C]?=V (Ae #[c0,c1,c2,c3,c4,c5,vS,X da (Z f) dc] 126 (0,0))):=zw (zE bI.o (Ac _ _ S) (by simp)) r (fun k l=>by have h1:=aG k l;have h2:=dg k l;exact zI bI.o ap.o (by decide) k l);have bu:Y _:=zK (Ao bt.o _) r (qB ap.o bt.o (by decide));have aq:Y _:=zK (Ao bn.o _) r (fun k l c=>aL.o k c l);clear bW r aG;have bf:Y _:=iV (n:=Z a+Z f+1) (c:=bK) aL.o cZ (fun k l=>by have:=(An bn.o k l).2;omega);have dJ:=cbi 7 a0.o;go_wp2_with (at_builtin;refine Ei _ rfl _ _ 22 rfl (w.heap.size) 9 i1 _ 1 16 underlying22 hj a4 a5 a6 rfl (by decide) _ _ _ rfl (Ao aq.o _) ⟨ak.heap.size,0,S⟩ 1 1 [I (Aa F)] rfl rfl ?c1 ?c2 (by decide) ?c3 ?c4 ?c5 (ak.heap.size+1) (by simp) ?_)
     case c1=>exact zZ _ #[_] _ _ (by simp)
     case c2=>intro u hu;simp at hu;subst hu;rfl
     case c3=>unfold Bh;omega
     case c4=>omega
     case c5=>have:=aJ.o.size;simp;omega
     intro ab m ad bX t c6 _;have bo:Y (ad.ownsRow w.heap.size 9 1 (X (V ⟨ab,0,S⟩) (Z f+1) m) (Z (f++[F])) (zY (f++[F]))):=by rw[xl,Ah];exact bX
     have aH:∀k,((X da (Z f) dc):Aj).ownBlock=V k->w.heap.size<=k:=fun k l=>(An aq.o k l).1
     have dh:∀k,((X da (Z f) dc):Aj).ownBlock=V k->k<ak.heap.size:=fun k l=>(An aq.o k l).2
     have cF:Y _:=ar.o _ _ _ _ (cE.o.keep (Ac _ _ _)) t aH;have b4:Y (Kept2 w ad H C):=(aJ.o.step (Ac _ _ _)).far t (fun k l=>by have h1:=aH k l;omega);have ai:Y (ad.heap[C]?=V (Ae #[c0,c1,c2,c3,c4,c5,vS,X da (Z f) dc] 126 (0,0))):=zw (zE a0.o (Ac _ _ S) (by simp)) t (fun k l=>by have h1:=aH k l;have h2:=dh k l;exact zI a0.o aq.o (by decide) k l);have bv:Y _:=zK (Ao bu.o _) t (qB aq.o bu.o (by decide));have bk:Y _:=zK (Ao bj.o _) t (bf.o);clear bX t aH;have b9:Y _:=rP (n:=Z f+1) (c:=m) bf.o c6 (fun k l=>by have:=(An bj.o k l).2;omega);have dK:=cbi 7 ai.o;have dL:=zm9 7 ai.o;go_wp2_with fail;have cG:Y _:=cF.o.other (zF ad C 7 (X (V ⟨ab,0,S⟩) (Z f+1) m)) aj bA.o;have b5:=J (b4.o.own (zF ad C 7 (X (V ⟨ab,0,S⟩) (Z f+1) m)));have cN:Y ((Bs ad ⟨C,7,S⟩ (X (V ⟨ab,0,S⟩) (Z f+1) m)).heap[C]?=V (Ae #[c0,c1,c2,c3,c4,c5,vS,X (V ⟨ab,0,S⟩) (Z f+1) m] 126 (0,0))):=zH ai.o (X (V ⟨ab,0,S⟩) (Z f+1) m);have cw:Y _:=zJ bv.o (zF ad C 7 (X (V ⟨ab,0,S⟩) (Z f+1) m)) (zI ai.o bv.o (by decide));have ch:Y _:=zJ bk.o (zF ad C 7 (X (V ⟨ab,0,S⟩) (Z f+1) m)) (zI ai.o bk.o (by decide));have cr:Y _:=zJ bo.o (zF ad C 7 (X (V ⟨ab,0,S⟩) (Z f+1) m)) (zI ai.o bo.o (by decide));generalize(Bs ad ⟨C,7,S⟩ (X (V ⟨ab,0,S⟩) (Z f+1) m))=wD4 at*
     go_roundw
     case rel=>exact⟨f++[F],s3,_,by simp;omega,by simp,by rw[Ah];exact aa,cG,b5,cN,cw,by rw[Ah,<-Bl];exact ch.o,cr,b9⟩
     case measure=>simp[intOf];omega
    ·have aa:Y (d=(f,s2)):=by
      show _=_;rw[HE.o,show M-Z f=0 by omega];simp[qU]
     clear HE;rw[aa.o] at HP aC;simp only at HP aC;have a3:Z (a.map Bq++f)=Z a+Z f:=by simp
     obtain⟨B,aO⟩:∃B,Y (B=a.map Bq++f):=⟨_,rfl⟩;rw[<-aO.o] at HP af a3;have co:Y (∀x∈B,Z x<=255):=fun x hx=>by
      rw[aO.o] at hx;rcases Ea.1 hx with hx|hx
      ·obtain⟨y,hy,rfl⟩:=Hr.1 hx;exact aD.o y hy
      ·exact aC.o x hx
     have dm:Z B<=600:=by omega
     rw[<-a3] at af;obtain⟨ua,uc,rfl⟩:=zL af.o;have bs:Y (res.1.1=a/\res.1.2=f):=by rw[HP.o];exact⟨rfl,rfl⟩
     have bq:Y (res.2=bR B 0 s2):=by show _=_;rw[HP.o,zaQ]
     clear aO aL a3;go_wp2_with fail
     go_loopw [11] (fun iv wr=>∃(i:Ad) (s3:T.St),i<=Z B/\iv=O Ai i/\Y (res.2=bR B i s3)/\Y (TInv wr H v b s3)/\Y (Kept2 w wr H C)/\Y (wr.heap[C]?=V (Ae #[c0,c1,c2,c3,c4,c5,vS,vD] 126 (0,0)))/\Y (wr.ownsRow w.heap.size 185 2 vS (Z a) (zi a))/\Y (wr.ownsRow w.heap.size 9 1 (X ua (Z B) uc) (Z B) (zY B))/\Y (wr.ownsRow w.heap.size 9 1 vD (Z f) (zY f))) (fun iv _=>Z B-(intOf iv).toNat)
     case atStart=>exact⟨0,s2,Ax _,rfl,bq,IX,HX,aW,aU,af,az⟩
     case round=>
      obtain⟨i,s3,ds,rfl,HL,IY,HY,aX,aV,ay,aQ⟩:=hrel;clear IX HX aW aU af az
      by_cases a8:i<Z B
      ·have bQ:(i:Ak)<Z B:=by omega
       obtain⟨g,gc,e1,_,dq⟩:=Bm ay.o (by omega);simp only[Au,Fb] at e1;obtain⟨rfl,rfl⟩:=e1;have bz:=J (zaP B i s3 a8);rw[bz.o] at HL;have dz:B[i].length<=255:=co.o _ (Cr a8);have aP:Y (∀(W:Ag),W.ownsRow w.heap.size 9 1 (X (V ⟨g,0,S⟩) (Z B) uc) (Z B) (zY B)->W.cell? ⟨g,i,S⟩=V (I (Aa B[i]))/\∀k (l:k<Z B),W.cell? ⟨g,k,S⟩=V (I (Aa B[k]))):=fun W hW=>by
        have hh:∀k (l:k<Z B),W.cell? ⟨g,k,S⟩=V (I (Aa B[k])):=fun k l=>by
         have h:=Ap hW k (by omega);rw[h];unfold zY;simp[l]
        exact⟨hh i a8,hh⟩
       have ci:wr.cell? ⟨g,i,S⟩=V (I (Aa B[i])):=(aP.o wr ay.o).1;have hh:=tz (Aa B[i]) false wr (by rw[Bz];omega);rw[Be] at hh;have HH:=J (hh);clear hh;generalize R.header B[i] false=hd at*;generalize B[i]=x at*;go_wp2_with fail;refine HH.o.mono ?_;rintro e w4 ⟨rfl,bL⟩;have g4:=zt bL;have I4:=J (IY.o.keep g4);have K4:Y (Kept2 w w4 H C):=HY.o.far g4 (fun k l=>by cases l);have U4:=J (zE aX.o g4 (by simp));have S4:=J (zK aV.o g4 (fun k l c=>by cases c));have A4:=J (zK ay.o g4 (fun k l c=>by cases c));have D4:=J (zK aQ.o g4 (fun k l c=>by cases c));clear bL g4 ci IY HY aX aV ay aQ;go_wp2_with fail;refine(yP I4.o hd).mono ?_;rintro e w5 ⟨rfl,i5,g5⟩;have a9:∀k,w.heap.size<=k->V H≠V k:=fun k l c=>by have:=Bc c;omega
       have I5:=J (i5);have K5:=J (K4.o.step g5);have U5:=J (zE U4.o g5 (fun c=>aj (Bc c)));have S5:=J (zK S4.o g5 (fun k l=>a9 k (An S4.o k l).1));have A5:=J (zK A4.o g5 (fun k l=>a9 k (An A4.o k l).1));have D5:=J (zK D4.o g5 (fun k l=>a9 k (An D4.o k l).1));clear i5 g5;generalize qP s3 hd=t0 at*;go_wp2_with fail
       go_loopw [13] (fun iv wr=>∃(k:Ad),k<=i/\iv=O Ai k/\Y (TInv wr H v b (mY B x k t0))/\Y (Kept2 w wr H C)/\Y (wr.heap[C]?=V (Ae #[c0,c1,c2,c3,c4,c5,vS,vD] 126 (0,0)))/\Y (wr.ownsRow w.heap.size 185 2 vS (Z a) (zi a))/\Y (wr.ownsRow w.heap.size 9 1 (X (V ⟨g,0,S⟩) (Z B) uc) (Z B) (zY B))/\Y (wr.ownsRow w.heap.size 9 1 vD (Z f) (zY f))) (fun iv _=>i-(intOf iv).toNat)
       case atStart=>exact⟨0,Ax _,rfl,I5,K5,U5,S5,A5,D5⟩
       case round=>
        obtain⟨k,du,rfl,IZ,HZ,aY,aB,ag,aA⟩:=hrel
        by_cases dw:k<i
        ·have dt:(k:Ak)<i:=by omega
         have bS:k<Z B:=by omega
         have dv:(k:Ak)<Z B:=by omega
         have ca:wr.cell? ⟨g,i,S⟩=V (I (Aa x)):=(aP.o wr ag.o).1;have cb:wr.cell? ⟨g,k,S⟩=V (I (Aa B[k])):=(aP.o wr ag.o).2 k bS;have bp:=J (zaR B x k t0 bS);generalize B[k]=y at*;have bm:Y ((!(Aa x).toList == (Aa y).toList)=decide (x≠y)):=by
          show _=_;rw[El,El,Be,Be,Eb];simp
         have HC:Y (Am prog 141 #[Al (V ⟨H,0,S⟩),Av (!(Aa x).toList == (Aa y).toList)] wr.drew fun e w'=>e=Af (Cm #[])/\TInv w' H v b (mY B x (k+1) t0)/\wr.grownBy w' (V H)):=by
          show Am _ _ _ _ _;rw[bm.o,bp.o];exact(yP (IZ.o.keep (zV _)) _).mono fun e w' ⟨q1,q2,q3⟩=>⟨q1,q2,zD (zT (zV _) _) q3⟩
         go_wp2
         go_region_law (go_simp;go_at_call 141;refine HC.o.mono ?_;rintro e w6 ⟨rfl,i6,g6⟩;have I6:Y (TInv w6 H v b (mY B x (k+1) t0)):=i6;have G6:Y (wr.grownBy w6 (V H)):=g6;clear i6 g6)
         all_goals
          have ba:∀k,w.heap.size<=k->V H≠V k:=fun k l c=>by have:=Bc c;omega
          have K6:=J (HZ.o.step G6.o);have U6:=J (zE aY.o G6.o (fun c=>aj (Bc c)));have S6:=J (zK aB.o G6.o (fun k l=>ba k (An aB.o k l).1));have A6:=J (zK ag.o G6.o (fun k l=>ba k (An ag.o k l).1));have D6:=J (zK aA.o G6.o (fun k l=>ba k (An aA.o k l).1));clear IZ HZ aY aB ag aA ca cb;go_wp2_with fail
          go_roundw
          case rel=>exact⟨k+1,by omega,by go_num,I6,K6,U6,S6,A6,D6⟩
          case measure=>simp[intOf];omega
        ·have c8:k=i:=by omega
         subst c8;go_wp2_with fail
         go_roundw
         case rel=>exact⟨k+1,mY B x k t0,by omega,by go_num,HL,IZ,HZ,aY,aB,ag,aA⟩
         case measure=>simp[intOf];omega
      ·have c7:i=Z B:=by omega
       subst c7;rw[zdT] at HL;go_wp2
       go_end0
       refine⟨rfl,?_,HY.o,vS,vD,aX.o,?_,?_⟩
       ·rw[HL.o];exact IY.o
       ·rw[bs.o.1];exact aV.o
       ·rw[bs.o.2];exact aQ.o
theorem TInv.low (h:TInv w a v b s)(d:w.heap.size<=k):b=[]\/∀g o n c,v=X (V ⟨g,o,S⟩) n c->g≠k:=by
 rcases h.rd with ⟨_,_,_,q⟩|⟨g',o',c',q,_,q2,_⟩
 ·exact Ay q
 grind[Option.some.injEq,T.St,TInv]
theorem zg0 {tb:Ad}(h:TInv w tb v b s):Am prog 144 #[Al (V ⟨tb,0,S⟩)] w fun e w'=>∃cs,e=Af (Fe cs.toArray)/\RuleVal w' cs (jE s).1/\TInv w' tb v b (jE s).2/\w.grownBy w' (V tb):=by
 have HT:Y (jE s=(⟨(xa s).1,(yv (xa s).2).1,(jU (yv (xa s).2).2).1,(jL (jU (yv (xa s).2).2).2).1,(T.to (jL (jU (yv (xa s).2).2).2).2).1.1,(T.to (jL (jU (yv (xa s).2).2).2).2).1.2,
  (xE (T.to (jL (jU (yv (xa s).2).2).2).2).2).1.1,(xE (T.to (jL (jU (yv (xa s).2).2).2).2).2).1.2⟩,
 (xE (T.to (jL (jU (yv (xa s).2).2).2).2).2).2)):=by show _=_;unfold jE;rfl
 have a3:Y (yv (xa s).2=((zj (xa s).2).1,qP (zj (xa s).2).2 (R.path (zj (xa s).2).1))):=by show _=_;unfold yv;rfl
 have bz:=j7 (xa s).2;have J0:Y (TInv (w.alloc (Ae #[O Ai 0,I ⟨#[]⟩,X S 0 0,X S 0 0,Av false,I ⟨#[]⟩,X S 0 0,X S 0 0] 126)) tb v b s):=h.keep (Ac _ _ S);have C0:Y (w.grownBy (w.alloc (Ae #[O Ai 0,I ⟨#[]⟩,X S 0 0,X S 0 0,Av false,I ⟨#[]⟩,X S 0 0,X S 0 0] 126)) (V tb)):=Ac _ _ _;have ba:Y ((w.alloc (Ae #[O Ai 0,I ⟨#[]⟩,X S 0 0,X S 0 0,Av false,I ⟨#[]⟩,X S 0 0,X S 0 0] 126)).heap[w.heap.size]?=V (Ae #[O Ai 0,I ⟨#[]⟩,X S 0 0,X S 0 0,Av false,I ⟨#[]⟩,X S 0 0,X S 0 0] 126)):=Bn _ _;have b2:=h.tlt;have b4:w.heap.size+1<=(w.alloc (Ae #[O Ai 0,I ⟨#[]⟩,X S 0 0,X S 0 0,Av false,I ⟨#[]⟩,X S 0 0,X S 0 0] 126)).heap.size:=by simp
 have ab:Y (∀(wu w':Ag) (s1:T.St) (row:Br Ad),TInv wu tb v b s1->wu.grownBy w' row->(∀k,row=V k->w.heap.size<=k)->TInv w' tb v b s1):=fun wu w' s1 row h1 h2 h3=>h.far h1 h2 h3
 have aY:Y (∀k,w.heap.size<=k->(b=[]\/∀g o n c,v=X (V ⟨g,o,S⟩) n c->g≠k)):=fun k y=>h.low y
 generalize jE s=res at*;generalize yv (xa s).2=pt at*;rw[a3.o] at HT;simp only at HT;go_in;go_wp2_with fail;refine(oh J0.o).mono ?_;rintro e f ⟨rfl,I1,aC⟩;have J1:=J I1;have b1:=J1.o.tlt;have s1:(w.alloc (Ae #[O Ai 0,I ⟨#[]⟩,X S 0 0,X S 0 0,Av false,I ⟨#[]⟩,X S 0 0,X S 0 0] 126)).heap.size+0<=f.heap.size:=by have h:=aC.size;simpa using h
 have G1:=J (aC);have C1:=J (zD C0.o G1.o);have z1:=C1.o.size;have bb:=J (zE ba.o G1.o (by simp;omega));generalize xa s=tw at*;obtain⟨i,s1⟩:=tw;simp only at J1 HT bz;go_wp2_with fail;have J2:Y _:=J1.o.keep (Ac f (Ae #[O Ai i,I ⟨#[]⟩,X S 0 0,X S 0 0,Av false,I ⟨#[]⟩,X S 0 0,X S 0 0] 126) S);have C2:Y (w.grownBy (Eo f (Ae #[O Ai i,I ⟨#[]⟩,X S 0 0,X S 0 0,Av false,I ⟨#[]⟩,X S 0 0,X S 0 0] 126)) (V tb)):=zD C1.o (Ac f (Ae #[O Ai i,I ⟨#[]⟩,X S 0 0,X S 0 0,Av false,I ⟨#[]⟩,X S 0 0,X S 0 0] 126) _);have bc:=J (zE bb.o (Ac f (Ae #[O Ai i,I ⟨#[]⟩,X S 0 0,X S 0 0,Av false,I ⟨#[]⟩,X S 0 0,X S 0 0] 126) S) (by simp));have bo:Y ((Eo f (Ae #[O Ai i,I ⟨#[]⟩,X S 0 0,X S 0 0,Av false,I ⟨#[]⟩,X S 0 0,X S 0 0] 126)).heap[f.heap.size]?=V (Ae #[O Ai i,I ⟨#[]⟩,X S 0 0,X S 0 0,Av false,I ⟨#[]⟩,X S 0 0,X S 0 0] 126)):=Bn _ _;have s2:f.heap.size+1<=(Eo f (Ae #[O Ai i,I ⟨#[]⟩,X S 0 0,X S 0 0,Av false,I ⟨#[]⟩,X S 0 0,X S 0 0] 126)).heap.size:=by simp
 have C:(Eo f (Ae #[O Ai i,I ⟨#[]⟩,X S 0 0,X S 0 0,Av false,I ⟨#[]⟩,X S 0 0,X S 0 0] 126)).heap.size<=f.heap.size+1:=by simp
 generalize(Eo f (Ae #[O Ai i,I ⟨#[]⟩,X S 0 0,X S 0 0,Av false,I ⟨#[]⟩,X S 0 0,X S 0 0] 126))=w2 at*;refine(vB J2.o).mono ?_;rintro e w3 ⟨rfl,I3,aD⟩;have J3:=J I3;have s3:w2.heap.size+0<=w3.heap.size:=by have h:=aD.size;simpa using h
 have G3:=J (aD);have C3:=J (zD C2.o G3.o);have bd:=J (zE bc.o G3.o (by simp;omega));have ao:=J (zE bo.o G3.o (by simp;omega));generalize zj s1=tx at*;obtain⟨j,s2⟩:=tx;simp only at J3 HT bz;have bB:=cbi 1 ao.o;have bC:=zm9 1 ao.o;go_wp2_with fail;have J4:Y _:=ab.o _ _ _ _ J3.o (zF w3 f.heap.size 1 (I (Aa j))) (fun k y=>by have:=Bc y;omega);have C4:=J (ze C3.o (zF w3 f.heap.size 1 (I (Aa j))) (by omega));have be:=J (zE bd.o (zF w3 f.heap.size 1 (I (Aa j))) (by simp;omega));have bp:Y ((Bs w3 ⟨f.heap.size,1,S⟩ (I (Aa j))).heap[f.heap.size]?=V (Ae #[O Ai i,I (Aa j),X S 0 0,X S 0 0,Av false,I ⟨#[]⟩,X S 0 0,X S 0 0] 126)):=zH ao.o (I (Aa j));have s4:w3.heap.size<=(Bs w3 ⟨f.heap.size,1,S⟩ (I (Aa j))).heap.size:=by simp[Bs]
 generalize(Bs w3 ⟨f.heap.size,1,S⟩ (I (Aa j)))=w4 at*;have hv:=nc (Aa j) w4 (by rw[Bz];unfold Bh;omega);rw[Be] at hv;have HV:=J (hv);refine HV.o.mono ?_;rintro e wX ⟨rfl,am⟩;rw[am];generalize R.path j=pp at*;go_wp2_with fail;refine(yP J4.o pp).mono ?_;rintro e w5 ⟨rfl,I5,aE⟩;have J5:=J I5;have b5:=J5.o.tlt;have s5:w4.heap.size+0<=w5.heap.size:=by have h:=aE.size;simpa using h
 have G5:=J (aE);have C5:=J (zD C4.o G5.o);have bf:=J (zE be.o G5.o (by simp;omega));have bq:=J (zE bp.o G5.o (by simp;omega));generalize qP s2 pp=s3 at*;go_wp2_with fail;refine(eL J5.o).mono ?_;rintro e w6 ⟨uM,rfl,I6,aF,oM⟩;have J6:=J I6;have b6:=J6.o.tlt;have s6:w5.heap.size+0<=w6.heap.size:=by have h:=aF.size;simpa using h
 have G6:=J (aF);have C6:=J (zD C5.o G6.o);have bg:=J (zE bf.o G6.o (by simp;omega));have al:=J (zE bq.o G6.o (by simp;omega));generalize jU s3=tm at*;obtain⟨u,s4⟩:=tm;simp only at J6 HT oM;obtain⟨z,B,rfl⟩:=zL oM;have ax:=J oM;have bD:=cbi 2 al.o;have bE:=zm9 2 al.o;go_wp2_with fail;have J7:Y _:=ab.o _ _ _ _ J6.o (zF w6 f.heap.size 2 (X z (Z u) B)) (fun k y=>by have:=Bc y;omega);have C7:=J (ze C6.o (zF w6 f.heap.size 2 (X z (Z u) B)) (by omega));have bh:=J (zE bg.o (zF w6 f.heap.size 2 (X z (Z u) B)) (by simp;omega));have br:Y ((Bs w6 ⟨f.heap.size,2,S⟩ (X z (Z u) B)).heap[f.heap.size]?=V (Ae #[O Ai i,I (Aa j),X z (Z u) B,X S 0 0,Av false,I ⟨#[]⟩,X S 0 0,X S 0 0] 126)):=zH al.o (X z (Z u) B);have aZ:Y _:=zJ ax.o (zF w6 f.heap.size 2 (X z (Z u) B)) (zI al.o ax.o (by decide));have s7:w6.heap.size<=(Bs w6 ⟨f.heap.size,2,S⟩ (X z (Z u) B)).heap.size:=by simp[Bs]
 have y7:(Bs w6 ⟨f.heap.size,2,S⟩ (X z (Z u) B)).heap.size<=w6.heap.size:=by simp[Bs]
 generalize(Bs w6 ⟨f.heap.size,2,S⟩ (X z (Z u) B))=w7 at*;have b7:tb<w7.heap.size:=by omega
 refine(eM J7.o).mono ?_;rintro e w8 ⟨uT,rfl,I8,aG,oT⟩;have J8:=J I8;have s8:w7.heap.size+0<=w8.heap.size:=by have h:=aG.size;simpa using h
 have G8:=J (aG);have C8:=J (zD C7.o G8.o);have bi:=J (zE bh.o G8.o (by simp;omega));have ai:=J (zE br.o G8.o (by simp;omega));have ay:Y _:=zQ aZ.o G8.o (by omega);generalize jL s4=tt at*;obtain⟨x,s5⟩:=tt;simp only at J8 HT oT;obtain⟨E,C,rfl⟩:=zL oT;have au:=J oT;have bF:=cbi 3 ai.o;have bG:=zm9 3 ai.o;go_wp2_with fail;have J9:Y _:=ab.o _ _ _ _ J8.o (zF w8 f.heap.size 3 (X E (Z x) C)) (fun k y=>by have:=Bc y;omega);have C9:=J (ze C8.o (zF w8 f.heap.size 3 (X E (Z x) C)) (by omega));have bj:=J (zE bi.o (zF w8 f.heap.size 3 (X E (Z x) C)) (by simp;omega));have bs:Y ((Bs w8 ⟨f.heap.size,3,S⟩ (X E (Z x) C)).heap[f.heap.size]?=V (Ae #[O Ai i,I (Aa j),X z (Z u) B,X E (Z x) C,Av false,I ⟨#[]⟩,X S 0 0,X S 0 0] 126)):=zH ai.o (X E (Z x) C);have a0:Y _:=zJ ay.o (zF w8 f.heap.size 3 (X E (Z x) C)) (zI ai.o ay.o (by decide));have aV:Y _:=zJ au.o (zF w8 f.heap.size 3 (X E (Z x) C)) (zI ai.o au.o (by decide));have s9:w8.heap.size<=(Bs w8 ⟨f.heap.size,3,S⟩ (X E (Z x) C)).heap.size:=by simp[Bs]
 generalize(Bs w8 ⟨f.heap.size,3,S⟩ (X E (Z x) C))=w9 at*;have aU:=J (kD J9.o 1);refine(aU.o).mono ?_;rintro e ad ⟨rfl,a4,bv⟩;have ak:=J a4;have af:=J (bv);have an:=J (zD C9.o af.o);have Q:=J (zE bj.o af.o (by simp;omega));have q:=J (zE bs.o af.o (by simp;omega));have t:Y _:=zQ a0.o af.o (by omega);have r:Y _:=zQ aV.o af.o (by omega);have aa:Y (T.to s5=if (zr 1 s5).1=1 then ((true,(zj (zr 1 s5).2).1),qP (zj (zr 1 s5).2).2 (R.path (zj (zr 1 s5).2).1)) else ((false,[]),(zr 1 s5).2)):=by show _=_;unfold T.to yv;rfl
 generalize T.to s5=tto at*;generalize zr 1 s5=fk at*;obtain⟨kk,s6⟩:=fk;simp only at ak aa
 by_cases y:kk=1
 ·subst y
  rw[Az rfl] at aa;have bA:=j7 s6;have bH:=cbi 4 q.o;have bI:=zm9 4 q.o;go_wp2_with fail;have a7:Y _:=ab.o _ _ _ _ ak.o (zF ad f.heap.size 4 (Av true)) (fun k y=>by have:=Bc y;omega);have aQ:=J (ze an.o (zF ad f.heap.size 4 (Av true)) (by omega));have bk:=J (zE Q.o (zF ad f.heap.size 4 (Av true)) (by simp;omega));have bt:Y ((Bs ad ⟨f.heap.size,4,S⟩ (Av true)).heap[f.heap.size]?=V (Ae #[O Ai i,I (Aa j),X z (Z u) B,X E (Z x) C,Av true,I ⟨#[]⟩,X S 0 0,X S 0 0] 126)):=zH q.o (Av true);have a1:Y _:=zJ t.o (zF ad f.heap.size 4 (Av true)) (zI q.o t.o (by decide));have aW:Y _:=zJ r.o (zF ad f.heap.size 4 (Av true)) (zI q.o r.o (by decide));generalize(Bs ad ⟨f.heap.size,4,S⟩ (Av true))=wy1 at*;refine(vB a7.o).mono ?_;rintro e ae ⟨rfl,a5,bw⟩;have aB:=J a5;have ag:=J (bw);have aR:=J (zD aQ.o ag.o);have bl:=J (zE bk.o ag.o (by simp;omega));have F:=J (zE bt.o ag.o (by simp;omega));have az:Y _:=zQ a1.o ag.o (by omega);have av:Y _:=zQ aW.o ag.o (by omega);generalize zj s6=ty at*;obtain⟨p,s7⟩:=ty;simp only at aB aa bA;have bJ:=cbi 5 F.o;have bK:=zm9 5 F.o;go_wp2_with fail;have a8:Y _:=ab.o _ _ _ _ aB.o (zF ae f.heap.size 5 (I (Aa p))) (fun k y=>by have:=Bc y;omega);have aS:=J (ze aR.o (zF ae f.heap.size 5 (I (Aa p))) (by omega));have bm:=J (zE bl.o (zF ae f.heap.size 5 (I (Aa p))) (by simp;omega));have bu:Y ((Bs ae ⟨f.heap.size,5,S⟩ (I (Aa p))).heap[f.heap.size]?=V (Ae #[O Ai i,I (Aa j),X z (Z u) B,X E (Z x) C,Av true,I (Aa p),X S 0 0,X S 0 0] 126)):=zH F.o (I (Aa p));have a2:Y _:=zJ az.o (zF ae f.heap.size 5 (I (Aa p))) (zI F.o az.o (by decide));have aX:Y _:=zJ av.o (zF ae f.heap.size 5 (I (Aa p))) (zI F.o av.o (by decide));generalize(Bs ae ⟨f.heap.size,5,S⟩ (I (Aa p)))=wy3 at*;have hv:=nc (Aa p) wy3 (by rw[Bz];unfold Bh;omega);rw[Be] at hv;have HV:=J (hv);refine HV.o.mono ?_;rintro e wX ⟨rfl,am⟩;rw[am];generalize R.path p=pp2 at*;go_wp2_with fail;refine(yP a8.o pp2).mono ?_;rintro e b8 ⟨rfl,a6,bx⟩;have a9:=J a6;have ah:=J (bx);have aT:=J (zD aS.o ah.o);have bn:=J (zE bm.o ah.o (by simp;omega));have ap:=J (zE bu.o ah.o (by simp;omega));have N:Y _:=zQ a2.o ah.o (by omega);have H:Y _:=zQ aX.o ah.o (by omega);generalize qP s7 pp2=s8 at*;have aj:Y (res=(⟨i,j,u,x,true,p,(xE s8).1.1,(xE s8).1.2⟩,(xE s8).2)):=by show _=_;rw[HT.o,aa.o]
  go_wp2_with fail;refine(nj a9.o f.heap.size (O Ai i) (I (Aa j)) (X z (Z u) B) (X E (Z x) C) (Av true) (I (Aa p)) ap.o (by omega) (aY.o _ (by omega))).mono ?_;rintro e w9 ⟨rfl,i9,k9,vS,vD,u9,oS,oD⟩;have J9:=J i9;have C9:=J (wy aT.o k9 (by omega));have a:=J (k9.keep bn.o (by omega) (by omega));have aw:Y (w9.ownsRow 0 181 3 (X z (Z u) B) (Z u) (xC u)):=zo (vp N.o k9 (fun k y=>⟨by have:=(An N.o k y).1;omega,zI ap.o N.o (by decide) k y⟩)) (Ax _);have ar:Y (w9.ownsRow 0 183 2 (X E (Z x) C) (Z x) (zx x)):=zo (vp H.o k9 (fun k y=>⟨by have:=(An H.o k y).1;omega,zI ap.o H.o (by decide) k y⟩)) (Ax _);generalize xE s8=ed at*;obtain⟨⟨m,d⟩,s9⟩:=ed;simp only at J9 oS oD aj;obtain⟨x1,x2,rfl⟩:=zL oS;obtain⟨d1,d2,rfl⟩:=zL oD;have aA:Y (w9.ownsRow 0 185 2 (X x1 (Z m) x2) (Z m) (zi m)):=zo oS (Ax _);have aq:Y (w9.ownsRow 0 9 1 (X d1 (Z d) d2) (Z d) (zY d)):=zo oD (Ax _);have bT:=cbi 0 u9;have bU:=cbi 1 u9;have bV:=cbi 2 u9;have bW:=cbi 3 u9;have bX:=cbi 4 u9;have bY:=cbi 5 u9;have bZ:=cbi 6 u9;have b0:=cbi 7 u9;have aI:=cbi 0 a.o;have bL:=zm9 0 a.o;have aJ:=cbi 1 a.o;have bM:=zm9 1 a.o;have aK:=cbi 2 a.o;have bN:=zm9 2 a.o;have aL:=cbi 3 a.o;have bO:=zm9 3 a.o;have aM:=cbi 4 a.o;have bP:=zm9 4 a.o;have aN:=cbi 5 a.o;have bQ:=zm9 5 a.o;have aO:=cbi 6 a.o;have bR:=zm9 6 a.o;have aP:=cbi 7 a.o;have bS:=zm9 7 a.o;have hs:=zD (zD (zD (zD (zD (zD (zD (zF w9 w.heap.size 0 (O Ai i)) (zF _ w.heap.size 1 (I (Aa j)))) (zF _ w.heap.size 2 (X z (Z u) B))) (zF _ w.heap.size 3 (X E (Z x) C))) (zF _ w.heap.size 4 (Av true))) (zF _ w.heap.size 5 (I (Aa p)))) (zF _ w.heap.size 6 (X x1 (Z m) x2))) (zF _ w.heap.size 7 (X d1 (Z d) d2));go_wp2;refine Et (v:=.agg #[O Ai i,I (Aa j),X z (Z u) B,X E (Z x) C,Av true,I (Aa p),X x1 (Z m) x2,X d1 (Z d) d2]) (by simp[Hm,results144,go_sem,aI,aJ,aK,aL,aM,aN,aO,aP]) rfl ?_;rw[aj.o];have aH:=xQ a.o (l:=leaves) (by decide);exact⟨[O Ai i,I (Aa j),X z (Z u) B,X E (Z x) C,Av true,I (Aa p),X x1 (Z m) x2,X d1 (Z d) d2],rfl,RuleVal.keep ⟨_,_,_,_,rfl,aw.o,ar.o,aA.o,aq.o⟩ hs aH,ab.o _ _ _ _ J9.o hs (fun k c=>by have:=Bc c;omega),ze C9.o hs (Aq _)⟩
 ·rw[Aw y] at aa
  have b3:¬((kk:Ak)=1):=by omega
  have aj:Y (res=(⟨i,j,u,x,false,[],(xE s6).1.1,(xE s6).1.2⟩,(xE s6).2)):=by show _=_;rw[HT.o,aa.o]
  go_wp2_with fail;refine(nj ak.o f.heap.size (O Ai i) (I (Aa j)) (X z (Z u) B) (X E (Z x) C) (Av false) (I ⟨#[]⟩) q.o (by omega) (aY.o _ (by omega))).mono ?_;rintro e w9 ⟨rfl,i9,k9,vS,vD,u9,oS,oD⟩;have J9:=J i9;have C9:=J (wy an.o k9 (by omega));have a:=J (k9.keep Q.o (by omega) (by omega));have aw:Y (w9.ownsRow 0 181 3 (X z (Z u) B) (Z u) (xC u)):=zo (vp t.o k9 (fun k y=>⟨by have:=(An t.o k y).1;omega,zI q.o t.o (by decide) k y⟩)) (Ax _);have ar:Y (w9.ownsRow 0 183 2 (X E (Z x) C) (Z x) (zx x)):=zo (vp r.o k9 (fun k y=>⟨by have:=(An r.o k y).1;omega,zI q.o r.o (by decide) k y⟩)) (Ax _);generalize xE s6=ed at*;obtain⟨⟨m,d⟩,s9⟩:=ed;simp only at J9 oS oD aj;obtain⟨x1,x2,rfl⟩:=zL oS;obtain⟨d1,d2,rfl⟩:=zL oD;have aA:Y (w9.ownsRow 0 185 2 (X x1 (Z m) x2) (Z m) (zi m)):=zo oS (Ax _);have aq:Y (w9.ownsRow 0 9 1 (X d1 (Z d) d2) (Z d) (zY d)):=zo oD (Ax _);have bT:=cbi 0 u9;have bU:=cbi 1 u9;have bV:=cbi 2 u9;have bW:=cbi 3 u9;have bX:=cbi 4 u9;have bY:=cbi 5 u9;have bZ:=cbi 6 u9;have b0:=cbi 7 u9;have aI:=cbi 0 a.o;have bL:=zm9 0 a.o;have aJ:=cbi 1 a.o;have bM:=zm9 1 a.o;have aK:=cbi 2 a.o;have bN:=zm9 2 a.o;have aL:=cbi 3 a.o;have bO:=zm9 3 a.o;have aM:=cbi 4 a.o;have bP:=zm9 4 a.o;have aN:=cbi 5 a.o;have bQ:=zm9 5 a.o;have aO:=cbi 6 a.o;have bR:=zm9 6 a.o;have aP:=cbi 7 a.o;have bS:=zm9 7 a.o;have hs:=zD (zD (zD (zD (zD (zD (zD (zF w9 w.heap.size 0 (O Ai i)) (zF _ w.heap.size 1 (I (Aa j)))) (zF _ w.heap.size 2 (X z (Z u) B))) (zF _ w.heap.size 3 (X E (Z x) C))) (zF _ w.heap.size 4 (Av false))) (zF _ w.heap.size 5 (I ⟨#[]⟩))) (zF _ w.heap.size 6 (X x1 (Z m) x2))) (zF _ w.heap.size 7 (X d1 (Z d) d2));go_wp2;refine Et (v:=.agg #[O Ai i,I (Aa j),X z (Z u) B,X E (Z x) C,Av false,I ⟨#[]⟩,X x1 (Z m) x2,X d1 (Z d) d2]) (by simp[Hm,results144,go_sem,aI,aJ,aK,aL,aM,aN,aO,aP]) rfl ?_;rw[aj.o];have aH:=xQ a.o (l:=leaves) (by decide);exact⟨[O Ai i,I (Aa j),X z (Z u) B,X E (Z x) C,Av false,I ⟨#[]⟩,X x1 (Z m) x2,X d1 (Z d) d2],rfl,RuleVal.keep ⟨_,_,_,_,rfl,aw.o,ar.o,aA.o,aq.o⟩ hs aH,ab.o _ _ _ _ J9.o hs (fun k c=>by have:=Bc c;omega),ze C9.o hs (Aq _)⟩
structure UInv (w:Ag) (rb B:Ad) (r:A Ab):Prop where
 ex:∃v,w.heap[rb]?=V (Ae #[v] 223 (0,0))/\RdO w v r/\∀g o n c,v=X (V ⟨g,o,S⟩) n c->g≠rb/\g<B
 len:Z r<=140737488355328
 low:rb<B
 top:B<=w.heap.size
theorem UInv.far {row:Br Ad}(h:UInv w rb B r)(a:w.grownBy w' row)(d:∀k,row=V k->B<=k):UInv w' rb B r:=by
 obtain⟨v,f,i,b⟩:=h.ex;have j:=h.low;refine⟨⟨v,zE f a (fun c=>by have:=d rb c.symm;omega),i.keep a (fun g o n c e e2=>by have:=d g e2;have:=(b g o n c e).2;omega),b⟩,h.len,j,Bi h.top a.size⟩
theorem UInv.keep (h:UInv w rb B r)(a:w.grownBy w' S):UInv w' rb B r:=h.far a (fun k c=>by cases c)
theorem nF {c:Ag}{n:Ad}{b:A Aj}{d:A Aj}(h:c.ownsRow w.heap.size 5 1 (X (V ⟨w.heap.size,0,S⟩) n n) n d)(e:b=d):c.heap[w.heap.size]?=V (Ae b.toArray 5 (0,0)):=by
 obtain⟨m,⟨a,_⟩|⟨g,f,i,a,_,j,_,_,k,l⟩⟩:=h
 ·cases a
 ·simp only[Au,Ey,Qo,and_true,Fb] at a
  obtain⟨rfl,rfl⟩:=a;rw[j,e,<-l,Cc (by simp[k])]
theorem lF (z:Aj)(n:Ad):(Sz #[z] n).toList=Hs n z:=by
 apply Xj
 ·simp[Sz]
 ·intro i a b;simp[Sz,Nat.mod_one]
theorem ze2 (k:Ad):Ba (Hs k 0)=Hs k (O Bp 0):=by
 unfold Ba;rw[List.map_replicate];rfl
theorem zhT (n:Ad)(r:A Ab)(b_0 b:A Aj)(a:b_0=Ba (r.take n))(d:b=(Sz #[O Bp 0] n).toList):splice b 0 b_0=Ba (vG n r).1:=by
 have c:Z b_0=min n (Z r):=by rw[a,xU,Cq]
 unfold splice vG;rw[Gm,Hc,Hl,<-a,ze2,d,lF,List.drop_replicate,Gr,c]
 congr 2;omega
theorem bV (g o m:Ad):(⟨g,o,S⟩:Eu).add m=⟨g,o+m,S⟩:=by unfold Addr.add;by_cases h:m=0 <;> simp[h]
theorem UInv.next {N:Ag}{a:Br Eu}{c m n:Ad}(k:RdO w (X a (Z r) c) r)(hb:w.heap[rb]?=V (Ae #[X a (Z r) c] 223 (0,0)))
  (b:∀g o Q t,X a (Z r) c=X (V ⟨g,o,S⟩) Q t->g≠rb/\g<B) (hl:Z r<=140737488355328) (y:rb<B) (F:B<=w.heap.size) (s:w.grownBy N S) (hm:m=Nat.min (Z r) n) (i:Aj)
  (H:(i=X a (Z r-m) 0/\m=c/\(Z r)<=c)\/i=X (a.map fun x=>x.add m) (Z r-m) (c-m)):UInv (N.setCell ⟨rb,0,S⟩ i) rb B (r.drop n):=by
 have C:m=min (Z r) n:=hm;have l:=k;have h:=zF N rb 0 i;have v:Z (r.drop n)=Z r-m:=by rw[Cy];omega
 refine⟨⟨i,zH (zE hb s (by simp)) i,?_,?_⟩,by omega,y,Bi F (Bi s.size h.size)⟩
 ·by_cases p:Z r-m=0
  ·refine Ay ?_
   have d:r.drop n=[]:=Ni (by omega);rcases H with ⟨e,_⟩|e
   ·exact⟨_,_,by rw[e,p],d⟩
   ·exact⟨_,_,by rw[e,p],d⟩
  ·rcases k with ⟨_,_,_,h2⟩|⟨g,o,t,f,hc,hlt,h3⟩
   ·rw[h2] at p;simp at p
   ·simp only[Au,Fb] at f
    obtain⟨rfl,rfl⟩:=f;have E:g≠rb:=(b g o _ _ rfl).1;rcases H with ⟨_,q1,q2⟩|e
    ·omega
    ·refine Bf ⟨g,o+m,c-m,by rw[e,v,Xo,bV],by omega,?_,fun j u hu=>?_⟩
     ·have:=s.size;have:=h.size;omega
     ·rw[Vq] at hu
      have h4:=h.cell (s.cell (h3 _ u hu) (by simp)) (fun c=>E (by have:=Bc c;first|exact this|exact this.symm));rw[show o+m+j=o+(n+j) by omega];exact h4
 ·intro g o Q t e
  rcases H with ⟨q,_⟩|q
  ·rw[q] at e
   simp only[Au] at e;obtain⟨rfl,_⟩:=e;exact b g o _ _ rfl
  ·rw[q] at e
   rcases l with ⟨_,_,_,h2⟩|⟨g0,o0,c0,f,_⟩
   ·have z:m=0:=by rw[C,h2];simp
    cases a with
    |none=>simp at e
    |some x=>
     rw[z] at e;simp only[Xo,Au,Ey] at e;obtain⟨f,_⟩:=e;have ex:x=⟨g,o,S⟩:=by rw[<-f];simp[Addr.add]
     rw[ex] at b;exact b g o _ _ rfl
   ·simp only[Au,Fb] at f
    obtain⟨rfl,rfl⟩:=f;rw[Xo,bV] at e;simp only[Au,Ey,Qo] at e;obtain⟨⟨rfl,_⟩,_⟩:=e;exact b _ _ _ _ rfl
theorem nR (h:UInv w rb B r)(n:Ad)(hn:n<=255):Am prog 113 #[Al (V ⟨rb,0,S⟩),O Ai n] w fun e w'=>∃a k,e=Af (X a n k)/\w'.ownsRow w.heap.size 5 1 (X a n k) n (Ba (vG n r).1)/\UInv w' rb B (vG n r).2/\w.grownBy w' (V rb):=by
 obtain⟨i0,hi,ak,ah,al⟩:=Ej jD;obtain⟨v,l,C,aa⟩:=h.ex;obtain⟨a,c,rfl,ap⟩:=C.form;have t:=h.len;have ab:=h.low;have ag:=h.top;have aq:=zO l;have z:=J (C);have F:=J (l);have E:=J (aa);obtain⟨b_0,Q⟩:∃b_0,Y (b_0=Ba (r.take n)):=⟨_,rfl⟩;have i:Y (Z b_0=Nat.min (Z r) n):=by show _=_;rw[Q.o,xU,Cq];exact Nat.min_comm _ _
 have ao:Z b_0<=Z r:=by rw[i.o];exact Nat.min_le_left _ _
 have an:Z b_0<=n:=by rw[i.o];exact Nat.min_le_right _ _
 have aj:(prog.info? 5).map (·.size)=V 1:=by rw[hi];simp[ah]
 obtain⟨mc,s⟩:∃mc,Y (mc=(Sz #[O Bp 0] n).toList):=⟨_,rfl⟩;have ad:Z mc=n:=by rw[s.o];simp[Sz]
 go_in;go_wp2_with (at_make;refine wpList_make_full _ rfl _ _ 32 rfl w.heap.size 5 i0 (O Bp 0) 1 underlying32 hi ak ah _ _ _ _ n rfl rfl rfl rfl ?b2 ?b3 (Aq _) ?_)
 ·rw[al];omega
 ·unfold Bh;omega
 intro w1 p d;have q:=J (d);have H:=J (nF p s.o);have u1:=cbi 0 (zE F.o q.o (by simp));go_wp2_with (refine wpList_copy_splice rfl _ _ 32 32 rfl 5 underlying32 aj _ _ n n (Z r) c rfl rfl w.heap.size 0 mc 5 H.o b_0 i.o ?hpos ?hfit ?h1 w.heap.size w (qh q.o) (Aq _) ?_)
 ·
  intro hp;have af:0<Z r:=by omega
  rcases z.o with ⟨_,_,_,h2⟩|⟨g,o,c',e1,_,_,h3⟩
  ·rw[h2] at af;simp at af
  ·simp only[Au] at e1
   obtain⟨rfl,_,_⟩:=e1;refine⟨_,rfl,fun j u hu=>?_⟩;rw[Q.o] at hu;unfold Ba at hu;rw[Fq,Oz] at hu;obtain⟨x,hx,rfl⟩:=hu;rw[bV];exact(q.o.cell (h3 j x (by rw[Gi] at hx;split at hx;exact hx;cases hx)) (by simp))
 ·omega
 ·rw[Q.o];exact vo _
 intro w2 N b;have u2:=cbi 0 (zE F.o (zt b) (by simp));have f2:=zm9 0 (zE F.o (zt b) (by simp));have y:=J (b);have am:(Z b_0:Ak)<=Z r:=by omega
 have f:=J (zhT n r b_0 mc Q.o s.o);have ae:Z (Ba (vG n r).1)=n:=by rw[<-f.o];rw[length_splice _ _ _ (by omega)];exact ad
 have ai:Y (w2.heap[w.heap.size]?=V (Ae (Ba (vG n r).1).toArray 5 (0,0))):=by rw[<-f.o];exact N
 generalize (Z b_0)=m at*;go_wp2
 all_goals
  go_ret;refine⟨_,_,rfl,⟨by omega,Bf ⟨w.heap.size,n,_,rfl,Aq _,zE ai.o (zF w2 rb 0 _) (fun c=>by have:=Bc c;omega),Aq _,by unfold Bh;omega,by simp[ae],by rw[Cc (by simp[ae])]⟩⟩,?_,zD (zT (zt y.o) _) (zF w2 rb 0 _)⟩
 ·exact UInv.next z.o F.o E.o t ab ag (zt y.o) i.o _ (Ay ⟨rfl,by omega,by omega⟩)
 ·exact UInv.next z.o F.o E.o t ab ag (zt y.o) i.o _ (Bf rfl)
theorem zhS (r:A Ab):(vG 1 r).1=[r.headD 0]:=by
 cases r <;> simp_all[vG]
theorem vO (h:UInv w rb B r):Am prog 170 #[Al (V ⟨rb,0,S⟩)] w fun e w'=>e=Af (O Ai ((qq r).1:Ad))/\UInv w' rb B (qq r).2/\w.grownBy w' (V rb):=by
 have d:=J (nR h 1 (by omega));go_in;go_wp2_with fail;refine d.o.mono ?_;rintro e p ⟨a,k,rfl,b,j,i⟩;have n:=J (j);have m:=J (i);obtain⟨g,c,f,_,_⟩:=Bm b (by omega);simp only[Au,Fb] at f;obtain⟨rfl,rfl⟩:=f;have q:p.cell? ⟨g,0,S⟩=V (O Bp (r.headD 0).toNat):=by
  have h:=Ap b 0 (by omega);rw[zhS] at h;exact h
 have s:=(r.headD 0).toNat_lt;have o:Y ((qq r).1=(r.headD 0).toNat):=rfl;have l:Y ((qq r).2=r.drop 1):=rfl;generalize r.headD 0=x at*;go_wp2;go_ret;rw[o.o,l.o];exact⟨rfl,n.o,m.o⟩
theorem jF (r:A Ab):(qq r).1<=255:=by have:=(r.headD 0).toNat_lt;show(r.headD 0).toNat<=255;omega
theorem mg (n:Ad)(r:A Ab):Z (vG n r).1=n:=by unfold vG;simp;omega
theorem jp (r:A Ab):Z (zu r).1<=255:=by grind[zu,mg,jF]
theorem iL (r:A Ab):0<=(yo r).1/\(yo r).1<=65535:=by grind[jF,qq,yo]
theorem oK (h:UInv w rb B r):Am prog 221 #[Al (V ⟨rb,0,S⟩)] w fun e w'=>e=Af (O Ai (yo r).1)/\UInv w' rb B (yo r).2/\w.grownBy w' (V rb):=by
 have n:=jF r;have i:=jF (qq r).2;have c:Y (yo r=((((qq r).1+(qq (qq r).2).1*256:Ad):Ak),(qq (qq r).2).2)):=rfl;have a:=J (vO h);generalize yo r=tw at*;generalize qq r=p at*;obtain⟨q,s⟩:=p;simp only at n i c a;go_in;go_wp2_with fail;refine a.o.mono ?_;rintro e u ⟨rfl,j,f⟩;have b:=J (vO j);have d:=J (f);generalize qq s=p at*;obtain⟨o,t⟩:=p;simp only at i c b;go_wp2_with fail;refine b.o.mono ?_;rintro e v ⟨rfl,k,g⟩;have m:=J (k);have l:=J (zD d.o g);go_wp2;go_ret;rw[c.o];refine⟨?_,m.o,l.o⟩;show Af (O Ai ((q:Ak)+o*256))=_
 go_num
theorem vu (h:UInv w rb B r):Am prog 171 #[Al (V ⟨rb,0,S⟩)] w fun e w'=>e=Af (I (Aa (zu r).1))/\UInv w' rb B (zu r).2/\w.grownBy w' (V rb):=by
 have v:=jF r;have q:Y (zu r=vG (qq r).1 (qq r).2):=rfl;have f:=J (vO h);generalize zu r=tx at*;generalize qq r=p at*;obtain⟨n,z⟩:=p;simp only at v q f;go_in;go_wp2_with fail;refine f.o.mono ?_;rintro e w1 ⟨rfl,x,t⟩;have i:=J (nR x n v);have o:=J (t);have b:=mg n z;generalize vG n z=p at*;obtain⟨l,Q⟩:=p;simp only at i b;go_wp2_with fail;refine i.o.mono ?_;rintro e d ⟨a,k,rfl,m,y,u⟩;have E:=J (y);have C:=J (zD o.o u);have N:(Oh 32 9 (X a n k)).run prog d = .ok (I (Aa l)) d:=by
  by_cases F:n=0
  ·subst F
   obtain rfl:l=[]:=Ni b;exact t8 d a k
  ·obtain⟨g,c,s,_,_⟩:=Bm m (by omega)
   simp only[Au,Fb] at s;obtain⟨rfl,rfl⟩:=s;have h:=Qb (P:=prog) d 32 9 5 ⟨g,0,S⟩ k l underlying32 underlying5 underlying9 (fun j hj=>by
    have H:=Ap m j (by omega);rw[vJ,Gr,H];unfold Ba;simp[hj])
   rw[b] at h;exact h
 go_wp2;go_ret;rw[q.o];exact⟨rfl,E.o,C.o⟩
theorem cd (h:UInv w rb B r):Am prog 299 #[Al (V ⟨rb,0,S⟩)] w fun e w'=>e=Af (Cm #[I (Aa (qn r).1.1),Av (qn r).1.2])/\UInv w' rb B (qn r).2/\w.grownBy w' (V rb):=by
 have o:=jF r;have a:Y (qn r=if (qq r).1=0 then (([],false),(qq r).2) else (((zu (qq r).2).1,true),(zu (qq r).2).2)):=rfl;have c:=J (vO h);generalize qn r=pp at*;generalize qq r=p at*;obtain⟨n,s⟩:=p;simp only at o a c;go_in;go_wp2_with fail;refine c.o.mono ?_;rintro e t ⟨rfl,j,f⟩;have d:=J (j);have b:=J (f)
 by_cases i:n=0
 ·subst i
  rw[Az rfl] at a;go_wp2
  go_ret2
  rw[a.o];exact⟨rfl,d.o,b.o⟩
 ·rw[Aw i] at a
  have q:¬((n:Ak)=0):=by omega
  go_wp2_with fail;refine(vu d.o).mono ?_;rintro e u ⟨rfl,k,g⟩;have m:=J (k);have l:=J (zD b.o g);go_wp2
  go_ret2
  rw[a.o];exact⟨rfl,m.o,l.o⟩
theorem eF (h:UInv w rb B r):Am prog 226 #[Al (V ⟨rb,0,S⟩)] w fun e w'=>e=Af (I (Aa (wO r).1))/\UInv w' rb B (wO r).2/\w.grownBy w' (V rb):=by
 have b:Y (wO r=((qn r).1.1,(qn r).2)):=rfl;have c:=J (h);have a:Y (w.grownBy w (V rb)):=zP _ _;generalize wO r=res at*;go_in;go_wp2_with fail;refine(cd c.o).mono ?_;rintro e m ⟨rfl,g,f⟩;have d:=J (g);have i:=J (zD a.o f);generalize qn r=p1 at*;obtain⟨⟨l,j⟩,k⟩:=p1;simp only at d b;go_wp2;go_ret;rw[b.o];exact⟨rfl,d.o,i.o⟩
abbrev Gq2:=Ae #[I ⟨#[]⟩,Av false,I ⟨#[]⟩] 276
theorem zbU (h:UInv w rb B r):Am prog 223 #[Al (V ⟨rb,0,S⟩)] w fun e w'=>e=Af (Fe #[I (Aa (U.mt r).1.name),Av (U.mt r).1.ask,I (Aa (U.mt r).1.val)])/\UInv w' rb B (U.mt r).2/\w.grownBy w' (V rb):=by
 have i:Y (U.mt r=(⟨(zu r).1,(qn (zu r).2).1.2,(qn (zu r).2).1.1⟩,(qn (zu r).2).2)):=rfl;have H:=h.low;have N:=h.top;have g:V w.heap.size≠V rb:=fun c=>by have:=Bc c;omega
 have b:Y ((w.alloc Gq2).heap[w.heap.size]?=V Gq2):=Bn _ _;have t:Y (UInv (w.alloc Gq2) rb B r):=h.keep (Ac _ _ _);have q:Y (w.grownBy (w.alloc Gq2) (V rb)):=Ac _ _ _;generalize U.mt r=res at*;go_in;go_wp2_with fail;refine(vu t.o).mono ?_;rintro e w1 ⟨rfl,y,l⟩;have j:=J (y);have s:=J (zD q.o l);have d:=J (zE b.o l g);generalize zu r=p1 at*;obtain⟨C,r1⟩:=p1;simp only at j i;go_wp2_with fail;refine(cd j.o).mono ?_;rintro e w2 ⟨rfl,z,m⟩;have u:=J (z);have F:=J (zD s.o m);have a:=J (zE d.o m g);generalize qn r1=p2 at*;obtain⟨⟨E,f⟩,r2⟩:=p2;simp only at u i;have n:=cbi 0 a.o;have Q:=zm9 0 a.o;have o:=cbi 1 a.o;have aa:=zm9 1 a.o;have p:=cbi 2 a.o;have ab:=zm9 2 a.o;have x:=zD (zD (zF w2 w.heap.size 0 (I (Aa C))) (zF _ w.heap.size 1 (Av f))) (zF _ w.heap.size 2 (I (Aa E)));go_wp2;refine Et (v:=.agg #[I (Aa C),Av f,I (Aa E)]) (by simp[Hm,results223,go_sem,n,o,p]) rfl ?_;rw[i.o];exact⟨rfl,u.o.far x (fun k c=>by have:=Bc c;omega),ze F.o x (Aq _)⟩
abbrev Gq5:=Ae #[I ⟨#[]⟩,O Ai 0] 285
theorem oJ (h:UInv w rb B r):Am prog 225 #[Al (V ⟨rb,0,S⟩)] w fun e w'=>e=Af (Fe #[I (Aa (U.tg r).1.1),O Ai (U.tg r).1.2])/\UInv w' rb B (U.tg r).2/\w.grownBy w' (V rb):=by
 have g:Y (U.tg r=(((zu r).1,(yo (zu r).2).1),(yo (zu r).2).2)):=rfl;have E:=h.low;have F:=h.top;have f:V w.heap.size≠V rb:=fun c=>by have:=Bc c;omega
 have b:Y ((w.alloc Gq5).heap[w.heap.size]?=V Gq5):=Bn _ _;have s:Y (UInv (w.alloc Gq5) rb B r):=h.keep (Ac _ _ _);have p:Y (w.grownBy (w.alloc Gq5) (V rb)):=Ac _ _ _;generalize U.tg r=res at*;go_in;go_wp2_with fail;refine(vu s.o).mono ?_;rintro e w1 ⟨rfl,x,j⟩;have i:=J (x);have q:=J (zD p.o j);have d:=J (zE b.o j f);generalize zu r=p1 at*;obtain⟨z,Q⟩:=p1;simp only at i g;go_wp2_with fail;refine(oK i.o).mono ?_;rintro e w2 ⟨rfl,y,l⟩;have t:=J (y);have C:=J (zD q.o l);have a:=J (zE d.o l f);generalize yo Q=p2 at*;obtain⟨n,r2⟩:=p2;simp only at t g;have m:=cbi 0 a.o;have H:=zm9 0 a.o;have o:=cbi 1 a.o;have N:=zm9 1 a.o;have u:=zD (zF w2 w.heap.size 0 (I (Aa z))) (zF _ w.heap.size 1 (O Ai n));go_wp2;refine Et (v:=.agg #[I (Aa z),O Ai n]) (by simp[Hm,results225,go_sem,m,o]) rfl ?_;rw[g.o];exact⟨rfl,t.o.far u (fun k c=>by have:=Bc c;omega),ze C.o u (Aq _)⟩
abbrev Gq3:=Ae #[I ⟨#[]⟩,I ⟨#[]⟩] 280
theorem ziB (h:UInv w rb B r):Am prog 228 #[Al (V ⟨rb,0,S⟩)] w fun e w'=>e=Af (Fe #[I (Aa (U.st r).1.1),I (Aa (U.st r).1.2)])/\UInv w' rb B (U.st r).2/\w.grownBy w' (V rb):=by
 have g:Y (U.st r=(((zu r).1,(zu (zu r).2).1),(zu (zu r).2).2)):=rfl;have E:=h.low;have F:=h.top;have f:V w.heap.size≠V rb:=fun c=>by have:=Bc c;omega
 have b:Y ((w.alloc Gq3).heap[w.heap.size]?=V Gq3):=Bn _ _;have q:Y (UInv (w.alloc Gq3) rb B r):=h.keep (Ac _ _ _);have o:Y (w.grownBy (w.alloc Gq3) (V rb)):=Ac _ _ _;generalize U.st r=res at*;go_in;go_wp2_with fail;refine(vu q.o).mono ?_;rintro e w1 ⟨rfl,u,j⟩;have i:=J (u);have p:=J (zD o.o j);have d:=J (zE b.o j f);generalize zu r=p1 at*;obtain⟨y,Q⟩:=p1;simp only at i g;go_wp2_with fail;refine(vu i.o).mono ?_;rintro e w2 ⟨rfl,x,l⟩;have s:=J (x);have C:=J (zD p.o l);have a:=J (zE d.o l f);generalize zu Q=p2 at*;obtain⟨z,r2⟩:=p2;simp only at s g;have m:=cbi 0 a.o;have H:=zm9 0 a.o;have n:=cbi 1 a.o;have N:=zm9 1 a.o;have t:=zD (zF w2 w.heap.size 0 (I (Aa y))) (zF _ w.heap.size 1 (I (Aa z)));go_wp2;refine Et (v:=.agg #[I (Aa y),I (Aa z)]) (by simp[Hm,results228,go_sem,m,n]) rfl ?_;rw[g.o];exact⟨rfl,s.o.far t (fun k c=>by have:=Bc c;omega),ze C.o t (Aq _)⟩
theorem gI {α:Type}(f:A Ab->α×A Ab):∀(n:Ad) (r:A Ab),Z (qW f n r).1=n
 |0,_=>rfl
 |n+1,r=>by unfold qW;simp[gI f n]
theorem ja (f:A Ab->α×A Ab)(r:A Ab):Z (zW f r).1<=255:=by grind[zW,gI,jF]
theorem zfG (h:UInv w rb B r):Am prog 222 #[Al (V ⟨rb,0,S⟩),.func (.func 223) #[] #[]] w fun e w'=>∃u,e=Af u/\UInv w' rb B (zW U.mt r).2/\w.grownBy w' (V rb)/\w'.ownsRow w.heap.size 276 3 u (Z (zW U.mt r).1) (xe (zW U.mt r).1):=by
 obtain⟨i0,hi,E,F,H⟩:=Ej iw;have hN:=jF r;have s:Y (zW U.mt r=qW U.mt (qq r).1 (qq r).2):=rfl;have o:=J (vO h);have ad:=h.low;have C:=h.top;generalize zW U.mt r=res at*;generalize qq r=p at*;obtain⟨N,r1⟩:=p;simp only at hN s o;go_in;go_wp2_with fail;refine o.o.mono ?_;rintro e w1 ⟨rfl,i1,g1⟩;have I1:=J (i1);have G1:=J (g1);go_wp2_with fail
 go_loopw [5,8] (fun u iv wr=>∃(i:Ad) (a:A P.Mt) (st:A Ab),i<=N/\(Z a)=i/\iv=O Ai i/\Y (res=(a++(qW U.mt (N-i) st).1,(qW U.mt (N-i) st).2))/\Y (UInv wr rb B st)/\Y (w.grownBy wr (V rb))/\Y (wr.ownsRow w.heap.size 276 3 u (Z a) (xe a))) (fun _ iv _=>N-(intOf iv).toNat)
 ·exact⟨0,[],r1,Ax _,rfl,rfl,by show _=_;rw[s.o];rfl,I1,G1,Bk _ _ _ _⟩
 ·
  obtain⟨i,a,st,ab,z,rfl,j,t,n,l⟩:=hrel
  by_cases ae:i<N
  ·have aa:(i:Ak)<N:=by omega
   have f:Y (res=((a++[(U.mt st).1])++(qW U.mt (N-(i+1)) (U.mt st).2).1,(qW U.mt (N-(i+1)) (U.mt st).2).2)):=by
    show _=_;rw[j.o,show N-i=N-(i+1)+1 by omega,Bl];rfl
   have q:=J (zbU t.o);generalize U.mt st=fx at*;obtain⟨x,s2⟩:=fx;simp only at f q;go_wp2_with fail;refine q.o.mono ?_;rintro e w2 ⟨rfl,i2,y⟩;have I2:=J (i2);have m:=J (zD n.o y);have v:=J (zK l.o y (fun k hk c=>by have:=Bc c;have:=(An l.o k hk).1;omega));have af:=m.o.size;go_wp2_with (at_builtin;refine Cu _ rfl _ _ 209 rfl w.heap.size 276 i0 _ 3 40 underlying209 hi E F H rfl (by decide) _ _ _ rfl (Ao v.o _) ⟨w2.heap.size,0,S⟩ 1 1 [I (Aa x.name),Av x.ask,I (Aa x.val)] rfl rfl ?c1 ?c2 ?c3 ?c4 ?c5 ?_)
   ·exact zZ _ #[_,_,_] _ _ (by simp)
   ·intro u hu;simp at hu;rcases hu with rfl|rfl|rfl <;> rfl
   ·unfold Bh;omega
   ·omega
   ·simp;omega
   intro v9 Q d b _;have O9:Y (Q.ownsRow w.heap.size 276 3 v9 (Z (a++[x])) (xe (a++[x]))):=by rw[fH,Ah,z];exact d
   have g:∀k,(u5:Aj).ownBlock=V k->w.heap.size<=k:=fun k hk=>(An v.o k hk).1
   have I9:Y (UInv Q rb B s2):=(I2.o.keep (Ac _ _ _)).far b (fun k hk=>Bi C (g k hk));have G9:Y (w.grownBy Q (V rb)):=qI (zD m.o (Ac _ _ _)) b g;go_wp2_with fail
   go_roundw
   ·exact⟨i+1,a++[x],s2,by omega,by simp;omega,by go_num,f,I9,G9,O9⟩
   ·simp[intOf];omega
  ·have hE:i=N:=by omega
   subst hE;rw[Gp] at j;have f:Y (res=(a,st)):=by show _=_;rw[j.o];simp[qW]
   go_wp2;go_ret;rw[f.o];exact⟨_,rfl,t.o,n.o,l.o⟩
theorem zfJ (h:UInv w rb B r):Am prog 224 #[Al (V ⟨rb,0,S⟩),.func (.func 225) #[] #[]] w fun e w'=>∃u,e=Af u/\UInv w' rb B (zW U.tg r).2/\w.grownBy w' (V rb)/\w'.ownsRow w.heap.size 285 2 u (Z (zW U.tg r).1) (zx (zW U.tg r).1):=by
 obtain⟨i0,hi,E,F,H⟩:=Ej iz;have hN:=jF r;have s:Y (zW U.tg r=qW U.tg (qq r).1 (qq r).2):=rfl;have o:=J (vO h);have ad:=h.low;have C:=h.top;generalize zW U.tg r=res at*;generalize qq r=p at*;obtain⟨N,r1⟩:=p;simp only at hN s o;go_in;go_wp2_with fail;refine o.o.mono ?_;rintro e w1 ⟨rfl,i1,g1⟩;have I1:=J (i1);have G1:=J (g1);go_wp2_with fail
 go_loopw [5,8] (fun u iv wr=>∃(i:Ad) (a:A (A Ab×Ak)) (st:A Ab),i<=N/\(Z a)=i/\iv=O Ai i/\Y (res=(a++(qW U.tg (N-i) st).1,(qW U.tg (N-i) st).2))/\Y (UInv wr rb B st)/\Y (w.grownBy wr (V rb))/\Y (wr.ownsRow w.heap.size 285 2 u (Z a) (zx a))) (fun _ iv _=>N-(intOf iv).toNat)
 ·exact⟨0,[],r1,Ax _,rfl,rfl,by show _=_;rw[s.o];rfl,I1,G1,Bk _ _ _ _⟩
 ·
  obtain⟨i,a,st,ab,z,rfl,j,t,n,l⟩:=hrel
  by_cases ae:i<N
  ·have aa:(i:Ak)<N:=by omega
   have f:Y (res=((a++[(U.tg st).1])++(qW U.tg (N-(i+1)) (U.tg st).2).1,(qW U.tg (N-(i+1)) (U.tg st).2).2)):=by
    show _=_;rw[j.o,show N-i=N-(i+1)+1 by omega,Bl];rfl
   have q:=J (oJ t.o);generalize U.tg st=fx at*;obtain⟨x,s2⟩:=fx;simp only at f q;go_wp2_with fail;refine q.o.mono ?_;rintro e w2 ⟨rfl,i2,y⟩;have I2:=J (i2);have m:=J (zD n.o y);have v:=J (zK l.o y (fun k hk c=>by have:=Bc c;have:=(An l.o k hk).1;omega));have af:=m.o.size;go_wp2_with (at_builtin;refine Cu _ rfl _ _ 210 rfl w.heap.size 285 i0 _ 2 24 underlying210 hi E F H rfl (by decide) _ _ _ rfl (Ao v.o _) ⟨w2.heap.size,0,S⟩ 1 1 [I (Aa x.1),O Ai x.2] rfl rfl ?c1 ?c2 ?c3 ?c4 ?c5 ?_)
   ·exact zZ _ #[_,_] _ _ (by simp)
   ·intro u hu;simp at hu;rcases hu with rfl|rfl <;> rfl
   ·unfold Bh;omega
   ·omega
   ·simp;omega
   intro v9 Q d b _;have O9:Y (Q.ownsRow w.heap.size 285 2 v9 (Z (a++[x])) (zx (a++[x]))):=by rw[yn,Ah,z];exact d
   have g:∀k,(u5:Aj).ownBlock=V k->w.heap.size<=k:=fun k hk=>(An v.o k hk).1
   have I9:Y (UInv Q rb B s2):=(I2.o.keep (Ac _ _ _)).far b (fun k hk=>Bi C (g k hk));have G9:Y (w.grownBy Q (V rb)):=qI (zD m.o (Ac _ _ _)) b g;go_wp2_with fail
   go_roundw
   ·exact⟨i+1,a++[x],s2,by omega,by simp;omega,by go_num,f,I9,G9,O9⟩
   ·simp[intOf];omega
  ·have hE:i=N:=by omega
   subst hE;rw[Gp] at j;have f:Y (res=(a,st)):=by show _=_;rw[j.o];simp[qW]
   go_wp2;go_ret;rw[f.o];exact⟨_,rfl,t.o,n.o,l.o⟩
theorem zfI (h:UInv w rb B r):Am prog 227 #[Al (V ⟨rb,0,S⟩),.func (.func 228) #[] #[]] w fun e w'=>∃u,e=Af u/\UInv w' rb B (zW U.st r).2/\w.grownBy w' (V rb)/\w'.ownsRow w.heap.size 280 2 u (Z (zW U.st r).1) (zi (zW U.st r).1):=by
 obtain⟨i0,hi,E,F,H⟩:=Ej iq;have hN:=jF r;have s:Y (zW U.st r=qW U.st (qq r).1 (qq r).2):=rfl;have o:=J (vO h);have ad:=h.low;have C:=h.top;generalize zW U.st r=res at*;generalize qq r=p at*;obtain⟨N,r1⟩:=p;simp only at hN s o;go_in;go_wp2_with fail;refine o.o.mono ?_;rintro e w1 ⟨rfl,i1,g1⟩;have I1:=J (i1);have G1:=J (g1);go_wp2_with fail
 go_loopw [5,8] (fun u iv wr=>∃(i:Ad) (a:A (A Ab×A Ab)) (st:A Ab),i<=N/\(Z a)=i/\iv=O Ai i/\Y (res=(a++(qW U.st (N-i) st).1,(qW U.st (N-i) st).2))/\Y (UInv wr rb B st)/\Y (w.grownBy wr (V rb))/\Y (wr.ownsRow w.heap.size 280 2 u (Z a) (zi a))) (fun _ iv _=>N-(intOf iv).toNat)
 ·exact⟨0,[],r1,Ax _,rfl,rfl,by show _=_;rw[s.o];rfl,I1,G1,Bk _ _ _ _⟩
 ·
  obtain⟨i,a,st,ab,z,rfl,j,t,n,l⟩:=hrel
  by_cases ae:i<N
  ·have aa:(i:Ak)<N:=by omega
   have f:Y (res=((a++[(U.st st).1])++(qW U.st (N-(i+1)) (U.st st).2).1,(qW U.st (N-(i+1)) (U.st st).2).2)):=by
    show _=_;rw[j.o,show N-i=N-(i+1)+1 by omega,Bl];rfl
   have q:=J (ziB t.o);generalize U.st st=fx at*;obtain⟨x,s2⟩:=fx;simp only at f q;go_wp2_with fail;refine q.o.mono ?_;rintro e w2 ⟨rfl,i2,y⟩;have I2:=J (i2);have m:=J (zD n.o y);have v:=J (zK l.o y (fun k hk c=>by have:=Bc c;have:=(An l.o k hk).1;omega));have af:=m.o.size;go_wp2_with (at_builtin;refine Cu _ rfl _ _ 211 rfl w.heap.size 280 i0 _ 2 32 underlying211 hi E F H rfl (by decide) _ _ _ rfl (Ao v.o _) ⟨w2.heap.size,0,S⟩ 1 1 [I (Aa x.1),I (Aa x.2)] rfl rfl ?c1 ?c2 ?c3 ?c4 ?c5 ?_)
   ·exact zZ _ #[_,_] _ _ (by simp)
   ·intro u hu;simp at hu;rcases hu with rfl|rfl <;> rfl
   ·unfold Bh;omega
   ·omega
   ·simp;omega
   intro v9 Q d b _;have O9:Y (Q.ownsRow w.heap.size 280 2 v9 (Z (a++[x])) (zi (a++[x]))):=by rw[yW,Ah,z];exact d
   have g:∀k,(u5:Aj).ownBlock=V k->w.heap.size<=k:=fun k hk=>(An v.o k hk).1
   have I9:Y (UInv Q rb B s2):=(I2.o.keep (Ac _ _ _)).far b (fun k hk=>Bi C (g k hk));have G9:Y (w.grownBy Q (V rb)):=qI (zD m.o (Ac _ _ _)) b g;go_wp2_with fail
   go_roundw
   ·exact⟨i+1,a++[x],s2,by omega,by simp;omega,by go_num,f,I9,G9,O9⟩
   ·simp[intOf];omega
  ·have hE:i=N:=by omega
   subst hE;rw[Gp] at j;have f:Y (res=(a,st)):=by show _=_;rw[j.o];simp[qW]
   go_wp2;go_ret;rw[f.o];exact⟨_,rfl,t.o,n.o,l.o⟩
theorem zfE (h:UInv w rb B r):Am prog 229 #[Al (V ⟨rb,0,S⟩),.func (.func 171) #[] #[]] w fun e w'=>∃u,e=Af u/\UInv w' rb B (zW zu r).2/\w.grownBy w' (V rb)/\w'.ownsRow w.heap.size 9 1 u (Z (zW zu r).1) (zY (zW zu r).1):=by
 obtain⟨i0,hi,E,F,H⟩:=Ej fW;have hN:=jF r;have s:Y (zW zu r=qW zu (qq r).1 (qq r).2):=rfl;have o:=J (vO h);have ad:=h.low;have C:=h.top;generalize zW zu r=res at*;generalize qq r=p at*;obtain⟨N,r1⟩:=p;simp only at hN s o;go_in;go_wp2_with fail;refine o.o.mono ?_;rintro e w1 ⟨rfl,i1,g1⟩;have I1:=J (i1);have G1:=J (g1);go_wp2_with fail
 go_loopw [5,8] (fun u iv wr=>∃(i:Ad) (a:A (A Ab)) (st:A Ab),i<=N/\(Z a)=i/\iv=O Ai i/\Y (res=(a++(qW zu (N-i) st).1,(qW zu (N-i) st).2))/\Y (UInv wr rb B st)/\Y (w.grownBy wr (V rb))/\Y (wr.ownsRow w.heap.size 9 1 u (Z a) (zY a))) (fun _ iv _=>N-(intOf iv).toNat)
 ·exact⟨0,[],r1,Ax _,rfl,rfl,by show _=_;rw[s.o];rfl,I1,G1,Bk _ _ _ _⟩
 ·
  obtain⟨i,a,st,ab,z,rfl,j,t,n,l⟩:=hrel
  by_cases ae:i<N
  ·have aa:(i:Ak)<N:=by omega
   have f:Y (res=((a++[(zu st).1])++(qW zu (N-(i+1)) (zu st).2).1,(qW zu (N-(i+1)) (zu st).2).2)):=by
    show _=_;rw[j.o,show N-i=N-(i+1)+1 by omega,Bl];rfl
   have q:=J (vu t.o);generalize zu st=fx at*;obtain⟨x,s2⟩:=fx;simp only at f q;go_wp2_with fail;refine q.o.mono ?_;rintro e w2 ⟨rfl,i2,y⟩;have I2:=J (i2);have m:=J (zD n.o y);have v:=J (zK l.o y (fun k hk c=>by have:=Bc c;have:=(An l.o k hk).1;omega));have af:=m.o.size;go_wp2_with (at_builtin;refine Cu _ rfl _ _ 22 rfl w.heap.size 9 i0 _ 1 16 underlying22 hi E F H rfl (by decide) _ _ _ rfl (Ao v.o _) ⟨w2.heap.size,0,S⟩ 1 1 [I (Aa x)] rfl rfl ?c1 ?c2 ?c3 ?c4 ?c5 ?_)
   ·exact zZ _ #[_] _ _ (by simp)
   ·intro u hu;simp at hu;subst hu;rfl
   ·unfold Bh;omega
   ·omega
   ·simp;omega
   intro v9 Q d b _;have O9:Y (Q.ownsRow w.heap.size 9 1 v9 (Z (a++[x])) (zY (a++[x]))):=by rw[xl,Ah,z];exact d
   have g:∀k,(u5:Aj).ownBlock=V k->w.heap.size<=k:=fun k hk=>(An v.o k hk).1
   have I9:Y (UInv Q rb B s2):=(I2.o.keep (Ac _ _ _)).far b (fun k hk=>Bi C (g k hk));have G9:Y (w.grownBy Q (V rb)):=qI (zD m.o (Ac _ _ _)) b g;go_wp2_with fail
   go_roundw
   ·exact⟨i+1,a++[x],s2,by omega,by simp;omega,by go_num,f,I9,G9,O9⟩
   ·simp[intOf];omega
  ·have hE:i=N:=by omega
   subst hE;rw[Gp] at j;have f:Y (res=(a,st)):=by show _=_;rw[j.o];simp[qW]
   go_wp2;go_ret;rw[f.o];exact⟨_,rfl,t.o,n.o,l.o⟩
theorem UInv.safe {l:A TypeId}(h:UInv w rb B r)(a:223 ∉ l):Safe w (V rb) l:=by grind[UInv,Safe]
theorem zfP (h:UInv w rb B r):Am prog 173 #[Al (V ⟨rb,0,S⟩)] w fun e w'=>∃cs,e=Af (Fe cs.toArray)/\PRuleVal w' cs (yF r).1/\UInv w' rb B (yF r).2/\w.grownBy w' (V rb):=by
 have m:Y (yF r=(⟨(yo r).1,(zu (yo r).2).1,(zW U.mt (zu (yo r).2).2).1,(zW U.tg (zW U.mt (zu (yo r).2).2).2).1,(wO (zW U.tg (zW U.mt (zu (yo r).2).2).2).2).1,(zW U.st (wO (zW U.tg (zW U.mt (zu (yo r).2).2).2).2).2).1,(zW zu (zW U.st (wO (zW U.tg (zW U.mt (zu (yo r).2).2).2).2).2).2).1⟩,(zW zu (zW U.st (wO (zW U.tg (zW U.mt (zu (yo r).2).2).2).2).2).2).2)):=rfl;have ar:=h.low;have au:=h.top;have d:V w.heap.size≠V rb:=fun c=>by have:=Bc c;omega
 have aa:Y ((w.alloc (Ae #[O Ai 0,I ⟨#[]⟩,X S 0 0,X S 0 0,I ⟨#[]⟩,X S 0 0,X S 0 0] 213)).heap[w.heap.size]?=V (Ae #[O Ai 0,I ⟨#[]⟩,X S 0 0,X S 0 0,I ⟨#[]⟩,X S 0 0,X S 0 0] 213)):=Bn _ _;have I0:Y (UInv (w.alloc (Ae #[O Ai 0,I ⟨#[]⟩,X S 0 0,X S 0 0,I ⟨#[]⟩,X S 0 0,X S 0 0] 213)) rb B r):=h.keep (Ac _ _ _);have G0:Y (w.grownBy (w.alloc (Ae #[O Ai 0,I ⟨#[]⟩,X S 0 0,X S 0 0,I ⟨#[]⟩,X S 0 0,X S 0 0] 213)) (V rb)):=Ac _ _ _;generalize yF r=res at*;go_in;go_wp2_with fail;refine(oK I0.o).mono ?_;rintro e w1 ⟨rfl,i1,g1⟩;have I1:=J (i1);have G1:=J (zD G0.o g1);have ab:=J (zE aa.o g1 d);generalize yo r=p1 at*;obtain⟨u,r1⟩:=p1;simp only at I1 m;go_wp2_with fail;refine(vu I1.o).mono ?_;rintro e w2 ⟨rfl,i2,g2⟩;have I2:=J (i2);have G2:=J (zD G1.o g2);have ad:=J (zE ab.o g2 d);generalize zu r1=p2 at*;obtain⟨x,r2⟩:=p2;simp only at I2 m;go_wp2_with fail;refine(zfG I2.o).mono ?_;rintro e w3 ⟨u3,rfl,i3,g3,o3⟩;have I3:=J (i3);have G3:=J (zD G2.o g3);have ae:=J (zE ad.o g3 d);obtain⟨a3,k3,rfl⟩:=zL o3;have f:Y (w3.ownsRow 0 276 3 (X a3 (Z (zW U.mt r2).1) k3) (Z (zW U.mt r2).1) (xe (zW U.mt r2).1)):=zo o3 (Ax _);generalize zW U.mt r2=p3 at*;obtain⟨ms,r3⟩:=p3;simp only at I3 m f;go_wp2_with fail;refine(zfJ I3.o).mono ?_;rintro e w4 ⟨u4,rfl,i4,g4,o4⟩;have E:=J (i4);have G4:=J (zD G3.o g4);have af:=J (zE ae.o g4 d);have n:=J (x7 f.o g4 (I3.o.safe (l:=pleaves) (by decide)) (by decide));obtain⟨a4,k4,rfl⟩:=zL o4;have g:Y (w4.ownsRow 0 285 2 (X a4 (Z (zW U.tg r3).1) k4) (Z (zW U.tg r3).1) (zx (zW U.tg r3).1)):=zo o4 (Ax _);generalize zW U.tg r3=p4 at*;obtain⟨tg,r4⟩:=p4;simp only at E m g;go_wp2_with fail;refine(eF E.o).mono ?_;rintro e w5 ⟨rfl,i5,g5⟩;have F:=J (i5);have G5:=J (zD G4.o g5);have ag:=J (zE af.o g5 d);have o:=J (x7 n.o g5 (E.o.safe (l:=pleaves) (by decide)) (by decide));have q:=J (x7 g.o g5 (E.o.safe (l:=pleaves) (by decide)) (by decide));generalize wO r4=p5 at*;obtain⟨y,r5⟩:=p5;simp only at F m;go_wp2_with fail;refine(zfI F.o).mono ?_;rintro e w6 ⟨u6,rfl,i6,g6,o6⟩;have z:=J (i6);have G6:=J (zD G5.o g6);have ah:=J (zE ag.o g6 d);have p:=J (x7 o.o g6 (F.o.safe (l:=pleaves) (by decide)) (by decide));have s:=J (x7 q.o g6 (F.o.safe (l:=pleaves) (by decide)) (by decide));obtain⟨a6,k6,rfl⟩:=zL o6;have i:Y (w6.ownsRow 0 280 2 (X a6 (Z (zW U.st r5).1) k6) (Z (zW U.st r5).1) (zi (zW U.st r5).1)):=zo o6 (Ax _);generalize zW U.st r5=p6 at*;obtain⟨j,r6⟩:=p6;simp only at z m i;go_wp2_with fail;refine(zfE z.o).mono ?_;rintro e w7 ⟨u7,rfl,i7,C,o7⟩;have I7:=J (i7);have G7:=J (zD G6.o C);have a:=J (zE ah.o C d);have H:=J (x7 p.o C (z.o.safe (l:=pleaves) (by decide)) (by decide));have N:=J (x7 s.o C (z.o.safe (l:=pleaves) (by decide)) (by decide));have Q:=J (x7 i.o C (z.o.safe (l:=pleaves) (by decide)) (by decide));obtain⟨a7,k7,rfl⟩:=zL o7;have t:Y (w7.ownsRow 0 9 1 (X a7 (Z (zW zu r6).1) k7) (Z (zW zu r6).1) (zY (zW zu r6).1)):=zo o7 (Ax _);generalize zW zu r6=p7 at*;obtain⟨b,r7⟩:=p7;simp only at I7 m t;have ak:=cbi 0 a.o;have av:=zm9 0 a.o;have al:=cbi 1 a.o;have aw:=zm9 1 a.o;have am:=cbi 2 a.o;have ax:=zm9 2 a.o;have an:=cbi 3 a.o;have ay:=zm9 3 a.o;have ao:=cbi 4 a.o;have az:=zm9 4 a.o;have ap:=cbi 5 a.o;have aA:=zm9 5 a.o;have aq:=cbi 6 a.o;have aB:=zm9 6 a.o;have hs:=zD (zD (zD (zD (zD (zD (zF w7 w.heap.size 0 (O Ai u)) (zF _ w.heap.size 1 (I (Aa x)))) (zF _ w.heap.size 2 (X a3 (Z ms) k3))) (zF _ w.heap.size 3 (X a4 (Z tg) k4))) (zF _ w.heap.size 4 (I (Aa y)))) (zF _ w.heap.size 5 (X a6 (Z j) k6))) (zF _ w.heap.size 6 (X a7 (Z b) k7))
 go_wp2;have ai:=J (a);refine Et (v:=.agg #[O Ai u,I (Aa x),X a3 (Z ms) k3,X a4 (Z tg) k4,I (Aa y),X a6 (Z j) k6,X a7 (Z b) k7]) (by simp[Hm,results173,go_sem,ak,al,am,an,ao,ap,aq]) rfl ?_;rw[m.o];have aj:=xQ ai.o (l:=pleaves) (by decide);exact⟨[O Ai u,I (Aa x),X a3 (Z ms) k3,X a4 (Z tg) k4,I (Aa y),X a6 (Z j) k6,X a7 (Z b) k7],rfl,PRuleVal.keep ⟨_,_,_,_,rfl,H.o,N.o,Q.o,t.o⟩ hs aj,I7.o.far hs (fun k c=>by have:=Bc c;omega),ze G7.o hs (Aq _)⟩
theorem zfH (h:UInv w rb B r):Am prog 172 #[Al (V ⟨rb,0,S⟩),.func (.func 173) #[] #[]] w fun e w'=>∃u,e=Af u/\UInv w' rb B (zW yF r).2/\w.grownBy w' (V rb)/\PRulesRow w' w.heap.size u (zW yF r).1:=by
 obtain⟨i0,hi,ad,ae,af⟩:=Ej iy;have hN:=jF r;have HP:Y (zW yF r=qW yF (qq r).1 (qq r).2):=rfl;have H1:=J (vO h);have ab:=h.top;generalize zW yF r=res at*;generalize qq r=p at*;obtain⟨N,r1⟩:=p;simp only at hN HP H1;go_in;go_wp2_with fail;refine H1.o.mono ?_;rintro e w1 ⟨rfl,i1,g1⟩;have I1:=J (i1);have G1:=J (g1);go_wp2_with fail
 go_loopw [5,8] (fun u iv wr=>∃(i:Ad) (d:A P.Rl) (st:A Ab) (g:A (A Aj)),i<=N/\(Z d)=i/\iv=O Ai i/\Y (res=(d++(qW yF (N-i) st).1,(qW yF (N-i) st).2))/\Y (UInv wr rb B st)/\Y (w.grownBy wr (V rb))/\Y (wr.ownsRow w.heap.size 213 7 u (Z d) g.flatten)/\Y (All2 (PRuleVal wr) g d)) (fun _ iv _=>N-(intOf iv).toNat)
 ·exact⟨0,[],r1,[],Ax _,rfl,rfl,by show _=_;rw[HP.o];rfl,I1,G1,Bk _ _ _ _,.nil⟩
 ·
  obtain⟨i,d,st,g,ah,aa,rfl,s,IR,GR,HO,HA⟩:=hrel
  by_cases ai:i<N
  ·have ag:(i:Ak)<N:=by omega
   have m:Y (res=((d++[(yF st).1])++(qW yF (N-(i+1)) (yF st).2).1,(qW yF (N-(i+1)) (yF st).2).2)):=by
    show _=_;rw[s.o,show N-i=N-(i+1)+1 by omega,Bl];rfl
   have HC:=J (zfP IR.o);generalize yF st=fx at*;obtain⟨x,s2⟩:=fx;simp only at m HC;go_wp2_with fail;refine HC.o.mono ?_;rintro e w2 ⟨cs,rfl,q,i2,g2⟩;obtain⟨vM,vT,vS,vD,rfl,hM,z,hS,hD⟩:=id q;obtain⟨C,E,rfl⟩:=zL hM;obtain⟨F,H,rfl⟩:=zL z;obtain⟨Q,x2,rfl⟩:=zL hS;obtain⟨v,y,rfl⟩:=zL hD;have t:=J (q);have I2:=J (i2);have G2:=J (zD GR.o g2);have o:=IR.o.safe (l:=213::pleaves) (by decide);have O2:=J (x7 HO.o g2 o (by simp));have A2:=J (HA.o.map fun a b hab=>hab.keep g2 (jW o));have aj:=G2.o.size;go_wp2_with (at_builtin;refine Cu _ rfl _ _ 144 rfl w.heap.size 213 i0 _ 7 136 underlying144 hi ad ae af rfl (by decide) _ _ _ rfl (Ao O2.o _) ⟨w2.heap.size,0,S⟩ 1 1 [O Ai x.number,I (Aa x.path),X C (Z x.ms) E,X F (Z x.tg) H,I (Aa x.rep),X Q (Z x.sets) x2,X v (Z x.drops) y] rfl rfl ?c1 ?c2 ?c3 ?c4 ?c5 ?_)
   ·exact zZ _ #[_,_,_,_,_,_,_] _ _ (by simp)
   ·intro u hu;simp only[En,Ge,Mn] at hu;rcases hu with rfl|rfl|rfl|rfl|rfl|rfl|rfl <;> rfl
   ·unfold Bh;omega
   ·omega
   ·simp;omega
   intro v9 w9 j c _;have gA:w2.grownBy (w2.alloc (Ae #[O Ai x.number,I (Aa x.path),X C (Z x.ms) E,X F (Z x.tg) H,I (Aa x.rep),X Q (Z x.sets) x2,X v (Z x.drops) y] 213)) S:=Ac _ _ _;have f:Safe (w2.alloc (Ae #[O Ai x.number,I (Aa x.path),X C (Z x.ms) E,X F (Z x.tg) H,I (Aa x.rep),X Q (Z x.sets) x2,X v (Z x.drops) y] 213)) (u5:Aj).ownBlock pleaves:=xk (Ao O2.o _) (by decide);have O9:Y (w9.ownsRow w.heap.size 213 7 v9 (Z (d++[x])) (g++([[O Ai x.number,I (Aa x.path),X C (Z x.ms) E,X F (Z x.tg) H,I (Aa x.rep),X Q (Z x.sets) x2,X v (Z x.drops) y]]:A (A Aj))).flatten):=by rw[Ah,Eg,aa];exact j
   have A9:Y (All2 (PRuleVal w9) (g++([[O Ai x.number,I (Aa x.path),X C (Z x.ms) E,X F (Z x.tg) H,I (Aa x.rep),X Q (Z x.sets) x2,X v (Z x.drops) y]]:A (A Aj))) (d++[x])):=(A2.o.snoc t.o).map fun a b hab=>(hab.keep gA (za _ _)).keep c f
   have n:∀k,(u5:Aj).ownBlock=V k->w.heap.size<=k:=fun k hk=>(An O2.o k hk).1
   have I9:Y (UInv w9 rb B s2):=(I2.o.keep gA).far c (fun k hk=>Bi ab (n k hk));have G9:Y (w.grownBy w9 (V rb)):=qI (zD G2.o (Ac _ _ _)) c n;go_wp2_with fail
   go_roundw
   ·exact⟨i+1,d++[x],s2,_,by omega,by simp;omega,by go_num,m,I9,G9,O9,A9⟩
   ·simp[intOf];omega
  ·have hE:i=N:=by omega
   subst hE;rw[Gp] at s;have m:Y (res=(d,st)):=by show _=_;rw[s.o];simp[qW]
   go_wp2;go_ret;rw[m.o];exact⟨_,rfl,IR.o,GR.o,g,HO.o,HA.o⟩
abbrev Gq4:=Ae #[I ⟨#[]⟩,X S 0 0] 146
theorem zfN (h:UInv w rb B r):Am prog 115 #[Al (V ⟨rb,0,S⟩)] w fun e w'=>∃cs,e=Af (Fe cs.toArray)/\PHostVal w' cs (yY r).1/\UInv w' rb B (yY r).2/\w.grownBy w' (V rb):=by
 have m:Y (yY r=(⟨(zu r).1,(zW yF (zu r).2).1⟩,(zW yF (zu r).2).2)):=rfl;have aa:=h.low;have ab:=h.top;have g:V w.heap.size≠V rb:=fun c=>by have:=Bc c;omega
 have d:Y ((w.alloc Gq4).heap[w.heap.size]?=V Gq4):=Bn _ _;have N:Y (UInv (w.alloc Gq4) rb B r):=h.keep (Ac _ _ _);have F:Y (w.grownBy (w.alloc Gq4) (V rb)):=Ac _ _ _;generalize yY r=res at*;go_in;go_wp2_with fail;refine(vu N.o).mono ?_;rintro e w1 ⟨rfl,i1,p⟩;have n:=J (i1);have H:=J (zD F.o p);have f:=J (zE d.o p g);generalize zu r=p1 at*;obtain⟨u,C⟩:=p1;simp only at n m;go_wp2_with fail;refine(zfH n.o).mono ?_;rintro e w2 ⟨u2,rfl,i2,q,x⟩;have Q:=J (i2);have G2:=J (zD H.o q);have a:=J (zE f.o q g);obtain⟨i,j,rfl⟩:=uU x;have b:Y (PRulesRow w2 0 (X i (Z (zW yF C).1) j) (zW yF C).1):=x.base (Ax _);generalize zW yF C=p2 at*;obtain⟨E,r2⟩:=p2;simp only at Q m b;have y:=cbi 0 a.o;have ad:=zm9 0 a.o;have z:=cbi 1 a.o;have ae:=zm9 1 a.o;have s:=zD (zF w2 w.heap.size 0 (I (Aa u))) (zF _ w.heap.size 1 (X i (Z E) j));go_wp2;have o:=J (a);refine Et (v:=.agg #[I (Aa u),X i (Z E) j]) (by simp[Hm,results115,go_sem,y,z]) rfl ?_;rw[m.o];have t:=xQ o.o (l:=prtags) (by decide);exact⟨[I (Aa u),X i (Z E) j],rfl,PHostVal.keep ⟨_,rfl,b.o⟩ s t,Q.o.far s (fun k c=>by have:=Bc c;omega),ze G2.o s (Aq _)⟩
theorem zfF (h:UInv w rb B r):Am prog 114 #[Al (V ⟨rb,0,S⟩),.func (.func 115) #[] #[]] w fun e w'=>∃u,e=Af u/\UInv w' rb B (zW yY r).2/\w.grownBy w' (V rb)/\PHostsRow w' w.heap.size u (zW yY r).1:=by
 obtain⟨i0,hi,ad,ae,af⟩:=Ej ir;have hN:=jF r;have HP:Y (zW yY r=qW yY (qq r).1 (qq r).2):=rfl;have H1:=J (vO h);have ab:=h.top;generalize zW yY r=res at*;generalize qq r=p at*;obtain⟨N,r1⟩:=p;simp only at hN HP H1;go_in;go_wp2_with fail;refine H1.o.mono ?_;rintro e w1 ⟨rfl,i1,g1⟩;have I1:=J (i1);have G1:=J (g1);go_wp2_with fail
 go_loopw [5,8] (fun u iv wr=>∃(i:Ad) (d:A P.Hst) (st:A Ab) (g:A (A Aj)),i<=N/\(Z d)=i/\iv=O Ai i/\Y (res=(d++(qW yY (N-i) st).1,(qW yY (N-i) st).2))/\Y (UInv wr rb B st)/\Y (w.grownBy wr (V rb))/\Y (wr.ownsRow w.heap.size 146 2 u (Z d) g.flatten)/\Y (All2 (PHostVal wr) g d)) (fun _ iv _=>N-(intOf iv).toNat)
 ·exact⟨0,[],r1,[],Ax _,rfl,rfl,by show _=_;rw[HP.o];rfl,I1,G1,Bk _ _ _ _,.nil⟩
 ·
  obtain⟨i,d,st,g,ah,aa,rfl,s,z,GR,HO,HA⟩:=hrel
  by_cases ai:i<N
  ·have ag:(i:Ak)<N:=by omega
   have m:Y (res=((d++[(yY st).1])++(qW yY (N-(i+1)) (yY st).2).1,(qW yY (N-(i+1)) (yY st).2).2)):=by
    show _=_;rw[s.o,show N-i=N-(i+1)+1 by omega,Bl];rfl
   have HC:=J (zfN z.o);generalize yY st=fx at*;obtain⟨x,s2⟩:=fx;simp only at m HC;go_wp2_with fail;refine HC.o.mono ?_;rintro e F ⟨cs,rfl,q,i2,E⟩;obtain⟨vR,rfl,hR⟩:=id q;obtain⟨v,y,rfl⟩:=uU hR;have t:=J (q);have I2:=J (i2);have Q:=J (zD GR.o E);have o:=z.o.safe (l:=146::prtags) (by decide);have C:=J (x7 HO.o E o (by simp));have A2:=J (HA.o.map fun a b hab=>hab.keep E (jW o));have aj:=Q.o.size;go_wp2_with (at_builtin;refine Cu _ rfl _ _ 86 rfl w.heap.size 146 i0 _ 2 40 underlying86 hi ad ae af rfl (by decide) _ _ _ rfl (Ao C.o _) ⟨F.heap.size,0,S⟩ 1 1 [I (Aa x.name),X v (Z x.rules) y] rfl rfl ?c1 ?c2 ?c3 ?c4 ?c5 ?_)
   ·exact zZ _ #[_,_] _ _ (by simp)
   ·intro u hu;simp only[En,Ge,Mn] at hu;rcases hu with rfl|rfl <;> rfl
   ·unfold Bh;omega
   ·omega
   ·simp;omega
   intro v9 H j c _;have gA:F.grownBy (F.alloc (Ae #[I (Aa x.name),X v (Z x.rules) y] 146)) S:=Ac _ _ _;have f:Safe (F.alloc (Ae #[I (Aa x.name),X v (Z x.rules) y] 146)) (u5:Aj).ownBlock prtags:=xk (Ao C.o _) (by decide);have O9:Y (H.ownsRow w.heap.size 146 2 v9 (Z (d++[x])) (g++([[I (Aa x.name),X v (Z x.rules) y]]:A (A Aj))).flatten):=by rw[Ah,Eg,aa];exact j
   have A9:Y (All2 (PHostVal H) (g++([[I (Aa x.name),X v (Z x.rules) y]]:A (A Aj))) (d++[x])):=(A2.o.snoc t.o).map fun a b hab=>(hab.keep gA (za _ _)).keep c f
   have n:∀k,(u5:Aj).ownBlock=V k->w.heap.size<=k:=fun k hk=>(An C.o k hk).1
   have I9:Y (UInv H rb B s2):=(I2.o.keep gA).far c (fun k hk=>Bi ab (n k hk));have G9:Y (w.grownBy H (V rb)):=qI (zD Q.o (Ac _ _ _)) c n;go_wp2_with fail
   go_roundw
   ·exact⟨i+1,d++[x],s2,_,by omega,by simp;omega,by go_num,m,I9,G9,O9,A9⟩
   ·simp[intOf];omega
  ·have hE:i=N:=by omega
   subst hE;rw[Gp] at s;have m:Y (res=(d,st)):=by show _=_;rw[s.o];simp[qW]
   go_wp2;go_ret;rw[m.o];exact⟨_,rfl,z.o,GR.o,g,HO.o,HA.o⟩
theorem gH {α:Type}(f:A Ab->α×A Ab)(b_0:α->Prop)(a:∀s,b_0 (f s).1):∀(n:Ad) (r:A Ab),∀x∈(qW f n r).1,b_0 x
 |0,_,x,hx=>by cases hx
 |n+1,r,x,hx=>by
  unfold qW at hx;rcases En.1 hx with h|h
  ·rw[h];exact a r
  ·exact gH f b_0 a n _ x h
theorem jZ (f:A Ab->α×A Ab)(b_0:α->Prop)(a:∀s,b_0 (f s).1)(r:A Ab):∀x∈(zW f r).1,b_0 x:=gH f b_0 a _ _
theorem tM (r:A Ab):Z (qn r).1.1<=255:=by grind[qn,jp]
structure UBr (r:P.Rl):Prop where
 num:0<=r.number/\r.number<=65535
 path:Z r.path<=255
 ml:Z r.ms<=255
 ms:∀m∈r.ms,Z m.name<=255/\(Z m.val)<=255
 tl:Z r.tg<=255
 tg:∀t∈r.tg,Z t.1<=255/\0<=t.2/\t.2<=65535
 rep:Z r.rep<=255
 sl:Z r.sets<=255
 sets:∀t∈r.sets,Z t.1<=255/\(Z t.2)<=255
 dl:Z r.drops<=255
 drops:∀t∈r.drops,Z t<=255
structure UBh (h:P.Hst):Prop where
 name:Z h.name<=255
 rl:Z h.rules<=255
 rules:∀r∈h.rules,UBr r
theorem aD (r:A Ab):UBr (yF r).1 where
 num:=iL r
 path:=jp _
 ml:=ja _ _
 ms:=jZ U.mt _ (fun s=>⟨jp s,tM _⟩) _
 tl:=ja _ _
 tg:=jZ U.tg _ (fun s=>⟨jp s,iL _⟩) _
 rep:=tM _
 sl:=ja _ _
 sets:=jZ U.st _ (fun s=>⟨jp s,jp _⟩) _
 dl:=ja _ _
 drops:=jZ zu _ (fun s=>jp s) _
theorem aC (r:A Ab):UBh (yY r).1 where
 name:=jp r
 rl:=ja _ _
 rules:=jZ yF _ (fun s=>aD s) _
theorem fR (b:A Ab):Z (jM b)<=255/\∀h∈jM b,UBh h:=⟨ja _ _,jZ yY _ (fun s=>aC s) _⟩
theorem UBr.small {r:P.Rl}(h:UBr r):R.Small (toRl r) where
 num:=⟨h.num.1,by have:=h.num.2;show r.number<=99999;omega⟩
 path:=by have:=h.path;show (Z r.path)<=3000;omega
 ms:=⟨by have:=h.ml;show(Z (r.ms.map mtOf))<=4000;simp;omega,fun m hm=>by
  obtain⟨x,a,rfl⟩:=Hr.1 (show m∈r.ms.map mtOf from hm);have:=h.ms x a;exact⟨by show (Z x.name)<=3000;omega,by show (Z x.val)<=3000;omega⟩⟩
 tg:=⟨by have:=h.tl;show (Z r.tg)<=4000;omega,fun t ht=>by have:=h.tg t ht;exact⟨by omega,by omega,by omega⟩⟩
 «to»:=by have:=h.rep;show (Z r.rep)<=3000;omega
 sets:=⟨by have:=h.sl;show (Z r.sets)<=4000;omega,fun t ht=>by have:=h.sets t ht;exact⟨by omega,by omega⟩⟩
 drops:=⟨by have:=h.dl;show (Z r.drops)<=4000;omega,fun t ht=>by have:=h.drops t ht;omega⟩
theorem UBh.small {h:P.Hst}(a:UBh h):R.SmallH (toR h) where
 name:=by have:=a.name;show (Z h.name)<=3000;omega
 rules:=⟨by have:=a.rl;show(Z (h.rules.map toRl))<=4000;simp;omega,fun m hm=>by
  obtain⟨x,b,rfl⟩:=Hr.1 (show m∈h.rules.map toRl from hm);exact(a.rules x b).small⟩
theorem UBr.lines {r:P.Rl}(h:UBr r):Z (Fu (toRl r))<=1000000:=by
 have b:(toRl r).ms=r.ms.map mtOf:=rfl;have c:(toRl r).tg=r.tg:=rfl;have d:(toRl r).sets=r.sets:=rfl;have f:(toRl r).drops=r.drops:=rfl;have g:(toRl r).number=r.number:=rfl;have i:(toRl r).path=r.path:=rfl;have j:(toRl r).to=r.rep:=rfl;have k:Z ((toRl r).ms.map R.lnMt).flatten<=Z (toRl r).ms*600:=Od _ _ _ (fun m hm=>by
  rw[b] at hm;obtain⟨x,q,rfl⟩:=Hr.1 hm;have:=h.ms x q;unfold R.lnMt mtOf;split <;> simp only[Ah,Fy,Bb,Bu] <;> omega)
 have a:∀t∈r.tg,Z (R.lnTg t)<=300:=fun t a=>by
  have h:=h.tg t a;have p:=R.decI_len t.2 ⟨h.2.1,by omega⟩;unfold R.lnTg;simp only[Ah,Fy,Bb,Bu];omega
 have s:Z (R.lnTgs r.tg)<=Z r.tg*310:=by
  cases hg:r.tg with
  |nil=>simp[R.lnTgs]
  |cons t l=>
   rw[hg] at a;have n:=a t (by simp);have o:Z (l.map fun u=>[44,32]++R.lnTg u).flatten<=Z l*310:=Od _ _ _ (fun u hu=>by
    have:=a u (by simp[hu]);simp only[Ah,Bb,Bu];omega)
   unfold R.lnTgs;rw[Ah,Bb,Sr];omega
 have n:Z (r.sets.map R.lnSet).flatten<=Z r.sets*600:=Od _ _ _ (fun m hm=>by
  have:=h.sets m hm;unfold R.lnSet;simp only[Ah,Fy,Bb,Bu];omega)
 have o:Z (r.drops.map R.lnDrop).flatten<=Z r.drops*600:=Od _ _ _ (fun m hm=>by
  have:=h.drops m hm;unfold R.lnDrop;simp only[Ah,Fy,Bb,Bu];omega)
 have p:=R.decI_len r.number ⟨h.num.1,by have:=h.num.2;omega⟩;have v:=h.path;have w:=h.rep;have y:Z (R.lnTo (toRl r))<=400:=by
  unfold R.lnTo;rw[j];split
  ·simp only[Ah,Fy,Bb,Bu];omega
  ·simp
 have z:=h.ml;have B:=h.tl;have C:=h.sl;have E:=h.dl;rw[b,Bv] at k;unfold Fu R.lnHead;rw[b,c,d,f,g,i];simp only[Ah,Fy,Bb,Bu]
 omega
theorem UBh.lines {h:P.Hst}(a:UBh h):Z (Ex (toR h))<=256000000:=by
 have c:Z ((toR h).rules.map Fu).flatten<=Z (toR h).rules*1000000:=Od _ _ _ (fun r hr=>by
  obtain⟨x,b,rfl⟩:=Hr.1 (show r∈h.rules.map toRl from hr);exact(a.rules x b).lines)
 grind[toR,Fu,Od,toRl,Ex,List.length_append,Fy,List.length_cons,List.length_nil,P.Hst,UBh]
theorem iK (b:A Ab):Z ((jM b).map fun h=>Ex (toR h)).flatten<=70000000000:=by
 have a:=fR b;have h:=Od (fun h:P.Hst=>Ex (toR h)) 256000000 (jM b) (fun x hx=>(a.2 x hx).lines);have:=a.1
 omega
abbrev Gq7 (a b c):=Ae #[X b a c] 223
theorem pw (x:RdO w v b)(N:∀g o n c,v=X (V ⟨g,o,S⟩) n c->g<w.heap.size)(hl:Z b<=140737488355328):Am prog 75 #[v] w fun e w'=>∃a c,e=Af (Fe #[X a (Z (jM b)) c])/\PHostsRow w' 0 (X a (Z (jM b)) c) (jM b)/\w.grownBy w' S:=by
 obtain⟨f,vc,rfl,aa⟩:=x.form;have k:(w.alloc (Ae #[X S 0 0] 88)).heap.size=w.heap.size+1:=by simp
 have l:((w.alloc (Ae #[X S 0 0] 88)).alloc (Gq7 (Z b) f vc)).heap.size=w.heap.size+1+1:=by simp
 have u:w.grownBy ((w.alloc (Ae #[X S 0 0] 88)).alloc (Gq7 (Z b) f vc)) S:=zD (Ac _ _ S) (Ac _ _ S);have j:((w.alloc (Ae #[X S 0 0] 88)).alloc (Gq7 (Z b) f vc)).heap[w.heap.size+1]?=V (Gq7 (Z b) f vc):=by
  have:=Bn (w.alloc (Ae #[X S 0 0] 88)) (Gq7 (Z b) f vc);rw[k] at this;exact this
 have i:Y (((w.alloc (Ae #[X S 0 0] 88)).alloc (Gq7 (Z b) f vc)).heap[w.heap.size]?=V (Ae #[X S 0 0] 88)):=zE (Bn w (Ae #[X S 0 0] 88)) (Ac _ _ S) (by simp);have E:Y (UInv ((w.alloc (Ae #[X S 0 0] 88)).alloc (Gq7 (Z b) f vc)) (w.heap.size+1) (w.heap.size+2) b):=⟨⟨_,j,x.keep u (fun g o n c e c2=>by cases c2),fun g o n c e=>by have:=N g o n c e;exact⟨by omega,by omega⟩⟩,hl,by omega,by omega⟩;have C:Y (jM b=(zW yY (vG 3 b).2).1):=rfl;have h:=J (u);generalize jM b=res at*;go_in;go_wp2_with fail;refine(nR E.o 3 (by omega)).mono ?_;rintro e w1 ⟨a1,k1,rfl,_,Q,s⟩;have m:=J (Q);have B:=J (ze h.o s (by omega));have q:=J (zE i.o s (by simp));generalize vG 3 b=p at*;obtain⟨_,r1⟩:=p;simp only at m C;go_wp2_with fail;refine(zfF m.o).mono ?_;rintro e w2 ⟨u2,rfl,i2,t,o2⟩;have G2:=J (ze B.o t (by omega));have d:=J (zE q.o t (by simp));obtain⟨r,y,o4⟩:=o2;obtain⟨a,c,rfl⟩:=zL y;have F:Y (PHostsRow w2 0 (X a (Z (zW yY r1).1) c) (zW yY r1).1):=⟨r,zo y (Ax _),o4⟩;have z:=cbi 0 d.o;have ab:=zm9 0 d.o;rw[<-C.o] at F ⊢;have H:=zF w2 w.heap.size 0 (X a (Z res) c);go_wp2;refine Et (v:=.agg #[X a (Z res) c]) (by simp[Hm,results75,go_sem,z]) rfl ?_;exact⟨a,c,rfl,F.o.keep H (xQ d.o (by decide)),ze G2.o H (Aq _)⟩
theorem j8 {a:Br Eu}{c:Ad}(h:RdO w (X a (Z l) c) l):(Oh 32 9 (X a (Z l) c)).run prog w = .ok (I (Aa l)) w:=by
 rcases h with ⟨_,_,e,rfl⟩|⟨g,o,c',e,_,_,h3⟩
 ·exact t8 w a c
 ·simp only[Au,Fb] at e
  obtain⟨rfl,rfl⟩:=e;exact Qb (P:=prog) w 32 9 5 ⟨g,o,S⟩ c l underlying32 underlying5 underlying9 (fun j hj=>by
   rw[vJ];exact h3 j _ (Bd hj))
theorem RdO.of_row (h:w.ownsRow B 5 1 v (Z l) (Ba l)):RdO w v l:=by
 rcases h.2 with ⟨h1,h2⟩|⟨g,cap,cur,hv,hB,hb,hle,r⟩
 ·exact Ay ⟨S,0,h1,Ep.1 h2⟩
 ·refine Bf ⟨g,0,cap,hv,hle,zO hb,fun j u hu=>?_⟩
  subst hv;have a:j<Z l:=(Bo.1 hu).1;rw[Gr,Ap h j (by omega)];unfold Ba;rw[Fq,hu];rfl
theorem zf5 {f g:Aj}{a:A Ab}(c:RdO w f a)(d:RdO w g b):Am prog 76 #[f,g] w fun e w'=>e=Af (Av (decide (a=b)))/\w'=w:=by
 obtain⟨h,ac,rfl,_⟩:=c.form;obtain⟨i,j,rfl,_⟩:=d.form;have k:=j8 c;have l:=j8 d;go_in;go_wp2;go_ret;refine⟨?_,rfl⟩;show Af (Value.bool ((Aa a).toList == (Aa b).toList))=_;rw[El,El,Be,Be]
 congr 2
 rw[Eb];simp
variable {x:P.Hst}
theorem VHst.pk (h:VHst x):VPk x:=⟨h.nl,h.rl,h.rules⟩
theorem zjY {st:P.St}(a:st.broken=false)(b:st.err=0):(yV st).1=0:=by unfold yV;rw[a,b];rfl
theorem zeT (hr:RdO w v b)(hv:∀g o n c,v=X (V ⟨g,o,S⟩) n c->g<w.heap.size)(hl:Z b<=140737488355328)(hG:Glob w)(hT:GT w):Am prog 44 #[v] w fun e w'=>w.grownBy w' S/\((∃f a c,VHs f/\x4 f=b/\e=Af (Cm #[Fe #[X a (Z f) c],Av true])/\PHostsRow w' 0 (X a (Z f) c) f)\/((∀f,VHs f->x4 f≠b)/\e=Af (Cm #[Fe #[X S 0 0],Av false]))):=by
 obtain⟨va,vc,rfl,aF⟩:=hr.form;have gA:w.grownBy (w.alloc (Ae #[X S 0 0] 88)) S:=Ac _ _ S;have az:(w.alloc (Ae #[X S 0 0] 88)).heap.size=w.heap.size+1:=by simp
 have ad:Y (RdO (w.alloc (Ae #[X S 0 0] 88)) (X va (Z b) vc) b):=hr.keep gA (fun g o n c e c2=>by cases c2);have am:Y (Am prog 75 #[X va (Z b) vc] (w.alloc (Ae #[X S 0 0] 88)) fun e w'=>∃a c,e=Af (Fe #[X a (Z (jM b)) c])/\PHostsRow w' 0 (X a (Z (jM b)) c) (jM b)/\(w.alloc (Ae #[X S 0 0] 88)).grownBy w' S):=pw ad.o (fun g o n c e=>by have:=hv g o n c e;omega) hl;have HG:=J (hG.grown gA);have HT:=J (hT.grown gA);have ay:Y ((w.alloc (Ae #[X S 0 0] 88)).heap[w.heap.size]?=V (Ae #[X S 0 0] 88)):=Bn _ _;have ah:=J (gA);have F:=iK b;have aC:=(fR b).1;have al:Y (∀h∈jM b,R.SmallH (toR h)):=fun h hh=>((fR b).2 h hh).small
 have aj:Y (Ic ((jM b).map toR)=((jM b).map fun h=>Ex (toR h)).flatten):=nK _;have i:Y (∀f,VHs f->x4 f=b->(zp (Ic ((jM b).map toR))).1=f/\(zp (Ic ((jM b).map toR))).2.broken=false/\(zp (Ic ((jM b).map toR))).2.err=0/\∀d,SrtH f d->d=f):=fun f h1 h2=>(zgH h1 h2).2
 generalize jM b=us at*;go_in;go_wp2_with fail;refine am.o.mono ?_;rintro e w1 ⟨a1,c1,rfl,y,g1⟩;have ai:Y (Am prog 42 #[Fe #[X a1 (Z us) c1]] w1 fun e w'=>e=Af (I (Aa (Ic (us.map toR))))/\w1.grownBy w' S):=tu _ us y (by omega) (by omega) al.o (HT.o.grown g1);have G1:=J (g1);have aE:Z (Ic (us.map toR))<=70000000000:=by rw[aj.o];exact F
 generalize Ic (us.map toR)=l at*;go_wp2_with fail;refine ai.o.mono ?_;rintro e w2 ⟨rfl,g2⟩;have G2:=J (zD G1.o g2);have af:=lZ (Aa l) w2 (by rw[Bz];omega) (HG.o.grown G2.o) (fun h1 h2=>by
  rw[Be] at h1 h2 ⊢;obtain⟨q1,q2,_⟩:=mB l h1 h2;exact⟨by omega,fun h hh=>by have:=(q2 h hh).rl;omega⟩)
 rw[Be] at af;have ak:Y (Am prog 67 #[I (Aa l)] w2 fun e w'=>∃v,e=Af (Cm #[Fe #[v],O Ai (yV (zp l).2).1,O Ai (yV (zp l).2).2])/\w2.grownBy w' S/\
   ((zp l).2.broken=false->(zp l).2.err=0->∃d,PHostsRow w' 0 v d/\SrtH (zp l).1 d)/\∃a n c,v=X a n c):=af
 go_wp2_with fail;refine ak.o.mono ?_;rintro e H ⟨v3,rfl,g3,an,j,n3,k,rfl⟩;have aa:=J (an);have G3:=J (zD G2.o g3);have Q:Y ((yV (zp l).2).1=0->(zp l).2.broken=false/\(zp l).2.err=0):=fun h=>wg h
 have r:Y ((zp l).2.broken=false->(zp l).2.err=0->(yV (zp l).2).1=0):=fun h1 h2=>zjY h1 h2
 generalize(yV (zp l).2).2=at3 at*;generalize(yV (zp l).2).1=er at*;have gP:H.grownBy (H.alloc (Ae #[X j n3 k] 88)) S:=Ac _ _ S;have z:Y ((H.alloc (Ae #[X j n3 k] 88)).heap[H.heap.size]?=V (Ae #[X j n3 k] 88)):=Bn _ _;have B:=J (zE (zE ay.o G3.o (by simp)) gP (by simp));have G4:=J (zD G3.o gP);have ap:=cbi 0 B.o;have aA:=zm9 0 B.o
 by_cases C:er=0
 ·subst C
  obtain⟨e1,e2⟩:=Q.o rfl;obtain⟨d,u,m⟩:=aa.o e1 e2;obtain⟨k1,k2,k3⟩:=mB l e1 e2;have E:=dt m k1 k2 k3;have au:Y (∀f,VHs f->x4 f=b->d=f):=fun f h1 h2=>by
   obtain⟨f1,_,_,f4⟩:=i.o f h1 h2;rw[f1] at m;exact f4 d m
  obtain⟨q1,q2,hq⟩:∃q1 q2,X j n3 k=X q1 (Z d) q2:=by obtain⟨css,h1,_⟩:=u;exact zL h1
  simp only[Au] at hq;obtain⟨rfl,rfl,rfl⟩:=hq;have ax:=J (E);have t:Y (PHostsRow (H.alloc (Ae #[X j (Z d) k] 88)) 0 (X j (Z d) k) d):=u.keep gP (za _ _);have N:Y (Am prog 43 #[Fe #[X j (Z d) k]] (H.alloc (Ae #[X j (Z d) k] 88)) (Gives (H.alloc (Ae #[X j (Z d) k] 88)) (x4 d))):=sE _ d t.o E.hl (fun x hx=>(E.hosts x hx).pk);have aB:=cbi 0 z.o;obtain⟨pk,s⟩:∃pk,Y (pk=x4 d):=⟨_,rfl⟩;rw[<-s.o] at N;go_wp2_with fail;refine N.o.mono ?_;rintro e w5 ⟨a5,k5,rfl,h5,g5⟩;have G5:=J (zD (zD ah.o G4.o) g5);have ag:Y (Am prog 76 #[X a5 (Z pk) k5,X va (Z b) vc] w5 fun e w'=>e=Af (Av (decide (pk=b)))/\w'=w5):=zf5 (RdO.of_row h5) (ad.o.keep (zD G4.o g5) (fun g o n c e c2=>by cases c2));have ae:=J (zE B.o g5 (by simp));have av:=J (zE z.o g5 (by simp));have aw:Y (PHostsRow w5 0 (X j (Z d) k) d):=t.o.keep g5 (za _ _);have y0:=cbi 0 ae.o;have yf:=zm9 0 ae.o;have yp:=cbi 0 av.o;go_wp2_with fail;refine ag.o.mono ?_;rintro e wE ⟨rfl,ao⟩;rw[ao]
  by_cases p:pk=b
  ·have ab:=J (p)
   rw[show decide (pk=b)=true by simp[p]];have f:=zF w5 w.heap.size 0 (X j (Z d) k);go_wp2;refine Et (v:=.tuple #[Fe #[X j (Z d) k],Av true]) (by simp[Hm,results44,go_sem,y0]) rfl ?_;exact⟨ze G5.o f (Aq _),Ay ⟨d,j,k,ax.o,s.o.symm.trans ab.o,rfl,aw.o.keep f (xQ ae.o (by decide))⟩⟩
  ·rw[show decide (pk=b)=false by simp[p]]
   have ab:=J (p);have f:=zF w5 w.heap.size 0 (X S 0 0);go_wp2;refine Et (v:=.tuple #[Fe #[X S 0 0],Av false]) (by simp[Hm,results44,go_sem,y0]) rfl ?_;exact⟨ze G5.o f (Aq _),Bf ⟨fun q h1 h2=>ab.o (by rw[<-h2,<-au.o q h1 h2];exact s.o),rfl⟩⟩
 ·have aD:=C
  have f:=zF (H.alloc (Ae #[X j n3 k] 88)) w.heap.size 0 (X S 0 0);have aq:=J (zD ah.o G4.o);have ar:Y (∀f,VHs f->x4 f≠b):=fun f h1 h2=>by
   obtain⟨_,f2,f3,_⟩:=i.o f h1 h2;exact C (r.o f2 f3)
  go_wp2;refine Et (v:=.tuple #[Fe #[X S 0 0],Av false]) (by simp[Hm,results44,go_sem,ap]) rfl ?_;exact⟨ze aq.o f (Aq _),Bf ⟨ar.o,rfl⟩⟩
theorem Rd.some (h:Rd w v l)(a:l≠[]):∃g c,v=X (V ⟨g,0,S⟩) (Z l) c/\g<w.heap.size/\∀j u,(Ba l)[j]? = .some u->w.cell? ((⟨g,0,S⟩:Eu).add j) = .some u:=by
 rcases h with ⟨_,h⟩|h
 ·exact absurd h a
 ·exact h
theorem kU (l:A Ab):zM l≠[]:=by unfold zM;simp
theorem zm1 (n:Ak):qc n≠[]:=by unfold qc;simp
theorem jb (l:A Ab)(w:Ag)(a:Z l<=255):Am prog 137 #[I (Aa l)] w (Gives w (zM l)):=by
 have h:=ziI (Aa l) w (by have:(Aa l).size=Z l:=Bz l;omega);rw[Be] at h;exact h
structure BR (r:R.Rl):Prop where
 num:0<=r.number/\r.number<=65535
 path:Z r.path<=24
 ms:Z r.ms<=3/\∀m∈r.ms,Z m.name<=24/\(Z m.val)<=24
 tg:Z r.tg<=4/\∀t∈r.tg,Z t.1<=24/\0<=t.2/\t.2<=65535
 too:Z r.to<=24
 sets:Z r.sets<=3/\∀t∈r.sets,Z t.1<=24/\(Z t.2)<=24
 drops:Z r.drops<=3/\∀t∈r.drops,Z t<=24
def cat (pre:A Ab)(f:α->A Ab)(l:A α)(i:Ad):A Ab:=pre++((l.take i).map f).flatten
theorem mu (a:A Ab)(f:α->A Ab)(l:A α):cat a f l 0=a:=by simp[cat]
theorem zcP (a:A Ab)(f:α->A Ab)(l:A α):cat a f l (Z l)=a++(l.map f).flatten:=by simp[cat]
theorem mr (a:A Ab)(f:α->A Ab)(l:A α)(i:Ad)(h:i<Z l):cat a f l (i+1)=cat a f l i++f l[i]:=by grind[cat,List.take_add_one,List.getElem?_eq_getElem,List.flatten_append,Option.toList_some,List.flatten_cons,List.flatten_nil,List.append_assoc]
theorem zcQ (a:A Ab)(f:α->A Ab)(l:A α)(b:Ad)(c:∀x∈l,Z (f x)<=b)(i:Ad)(h:i<=Z l):Z (cat a f l i)<=Z a+b*i:=by
 induction i <;> grind[mu,List.getElem_mem,mr,List.length_append,Nat.mul_succ,cat]
theorem hid {p:Prop}(h:p):Y p:=h
structure Bt (w0 w:Ag) (a:Br Eu) (k:Ad) (l tot r:A Ab) (N:Ad):Prop where
 own:w.ownsRow w0.heap.size 5 1 (X a (Z l) k) (Z l) (Ba l)
 gr:w0.grownBy w S
 len:Z l<=N
 eq:tot=l++r
theorem Bt.keep {w0:Ag}{a:Br Eu}{N:Ad}(h:Bt w0 w a k l b r N)(g:w.grownBy w' S):Bt w0 w' a k l b r N:=by grind[zK,zD,Bt]
theorem Bt.to {w0:Ag}{a:Br Eu}{c:A Ab}{N N':Ad}(h:Bt w0 w a k l b r N)(e:r=c)(d:N<=N'):Bt w0 w a k l b c N':=by grind[Bt]
theorem qG {w w0:Ag}{f:Array Oper}{rest:A Oper}{o:Oper}{ac:Act}{Q:Exit->Act->Ag->Prop}(q:o.guard=S)(s x:Operand)
  (ho:o.op = .call { callee:=.builtin .append,args:=#[s,x],argTypes:=#[32,32] }) {a:Br Eu} {k:Ad} {l:A Ab} (y:A Ab) {r g:A Ab} {C:A Aj} {N:Ad}
  (hs:ac.eval s=X a (Z l) k) (h:Bt w0 w a k l g (y++r) N) (p:Eu) (m c:Ad) (hx:ac.eval x=X (V p) m c) (hm:m=Z y) (hy:Ba y=C)
  (F:∀j u,C[j]?=V u->w.cell? (p.add j)=V u) (hl:Z y<=60) (hN:N<=1000000000)
  (E:∀i n w' l',Y (Bt w0 w' i n l' g r (N+60))->wpList prog f Q rest (ac.put o.dst (X i (Z l') n)) w'):wpList prog f Q (o::rest) ac w:=by
 obtain⟨i0,H,t,v,z⟩:=Ej jD;subst hm hy;have B:=h.len;refine Cu w q s x 32 ho w0.heap.size 5 i0 _ 1 1 underlying32 H t v z rfl (by decide) _ _ _ hs h.own p (Z y) c (Ba y) hx (by rw[xU,Nx]) F (vo y) (by unfold Bh;omega) (by omega) h.gr.size ?_;intro v' w' b d _;obtain⟨i,n,rfl⟩:=zL b;have e:Z l+Z y=Z (l++y):=by rw[Ah]
 rw[e] at b ⊢;refine E i n w' (l++y) ⟨by rw[Hl];exact b,qI h.gr d (fun k hk=>(An h.own k hk).1),by rw[Ah];omega,by rw[h.eq,Bl]⟩
def j9 (f:α->A Ab)(l:A α)(i:Ad):A Ab:=((l.drop i).map f).flatten
theorem bX (f:α->A Ab)(l:A α)(i:Ad)(h:i<Z l)(r:A Ab):j9 f l i++r=f l[i]++(j9 f l (i+1)++r):=by
 unfold j9;rw[Ed h,Er,Ci,Bl]
theorem bY (f:α->A Ab)(l:A α)(r:A Ab):j9 f l (Z l)++r=r:=by unfold j9;rw[List.drop_length];rfl
theorem py (cs:A Aj)(r:R.Rl)(hr:RuleVal w cs r)(hb:BR r) :
  Am prog 138 #[Fe cs.toArray] w (Gives w (qm r)):=by
 obtain⟨vM,vT,vS,vD,rfl,hM,aE,hS,hD⟩:=hr;obtain⟨m1,m2,rfl⟩:=zL hM;obtain⟨t1,t2,rfl⟩:=zL aE;obtain⟨x1,x2,rfl⟩:=zL hS;obtain⟨d1,d2,rfl⟩:=zL hD;have gA:w.grownBy (w.alloc (Ae #[O Ai r.number,I (Aa r.path),X m1 (Z r.ms) m2,X t1 (Z r.tg) t2,Av r.change,I (Aa r.to),X x1 (Z r.sets) x2,X d1 (Z r.drops) d2] 126)) S:=Ac _ _ _;have f:Y ((w.alloc (Ae #[O Ai r.number,I (Aa r.path),X m1 (Z r.ms) m2,X t1 (Z r.tg) t2,Av r.change,I (Aa r.to),X x1 (Z r.sets) x2,X d1 (Z r.drops) d2] 126)).heap[w.heap.size]?=V (Ae #[O Ai r.number,I (Aa r.path),X m1 (Z r.ms) m2,X t1 (Z r.tg) t2,Av r.change,I (Aa r.to),X x1 (Z r.sets) x2,X d1 (Z r.drops) d2] 126)):=Bn _ _;have bn:=hid gA;have HM:=hid (zK hM gA (fun k hk c=>by cases c));have ap:=hid (zK aE gA (fun k hk c=>by cases c));have ao:=hid (zK hS gA (fun k hk c=>by cases c));have aw:=hid (strRow1 (zK hD gA (fun k hk c=>by cases c)));have dP:=hb.path;have dO:=hb.ms.1;have dR:=hb.tg.1;have dS:=hb.too;have dQ:=hb.sets.1;have dF:=hb.drops.1;have bC:=hid hb.ms.2;have bE:=hid hb.tg.2;have bD:=hid hb.sets.2;have bB:=hid hb.drops.2;have bq:Y (qm r=qc r.number++(zM r.path++(Cb (Z r.ms) :: (j9 uK r.ms 0++(Cb (Z r.tg) :: (j9 K.tg r.tg 0++(dy r++(Cb (Z r.sets) :: (j9 K.st r.sets 0++(Cb (Z r.drops) :: j9 zM r.drops 0)))))))))):=by
  show _=_;unfold qm zR j9;simp only[Of,Iw]
 have bo:=hid hb.num;generalize qm r=tot at*;have c0:=cbi 0 f.o;go_in;go_wp2_with fail;generalize(w.alloc (Ae #[O Ai r.number,I (Aa r.path),X m1 (Z r.ms) m2,X t1 (Z r.tg) t2,Av r.change,I (Aa r.to),X x1 (Z r.sets) x2,X d1 (Z r.drops) d2] 126))=wa at*;refine(oi r.number wa bo.o).mono ?_;rintro e w0 ⟨a0,k0,rfl,h0,g0⟩;have B0:Y (Bt wa w0 a0 k0 (qc r.number) tot _ 60):=⟨h0,g0,by rw[kw];omega,bq.o⟩;generalize qc r.number=l0 at*;have el:=cbi 1 (zE f.o B0.o.gr (by simp));go_wp2_with fail;refine(jb r.path w0 (by omega)).mono ?_;rintro e eG ⟨c6,dT,rfl,b0,bQ⟩;obtain⟨cP,dn,bI,dG,z⟩:=Rd.some (Rd.of_row b0) (kU _);simp only[Au,Fb] at bI;obtain⟨rfl,rfl⟩:=bI;have aN:=hid (B0.o.keep bQ);have a8:=hid z;have ci:Z ((zM r.path))<=60:=by rw[qr];omega
 go_wp2_with (at_builtin;refine @qG _ _ _ _ _ _ _ rfl _ _ rfl _ _ _ (zM r.path) _ _ _ _ rfl aN.o ⟨cP,0,S⟩ _ _ rfl rfl (rfl) a8.o ci (by omega) ?_);intro a1 k1 w1 l1 B1;have em:=cbi 2 (zE f.o B1.o.gr (by simp));have aO:=hid (B1.o.keep (Ac _ (Ae #[O Bp ↑r.ms.length] 5) S));have a9:=hid (zZ w1 #[O Bp ↑r.ms.length] 5 _ rfl);have bs:Y (Ba ([Cb (Z r.ms)])=[O Bp ↑r.ms.length]):=by show _=_;first | rfl | (unfold Ba;simp only[Er,Fa];rw[u8n _ (by omega)])
 have cj:Z (([Cb (Z r.ms)]))<=60:=by simp
 go_wp2_with (at_builtin;refine @qG _ _ _ _ _ _ _ rfl _ _ rfl _ _ _ ([Cb (Z r.ms)]) _ _ _ _ rfl aO.o ⟨w1.heap.size,0,S⟩ _ _ rfl rfl (bs.o) a9.o cj (by omega) ?_);intro a2 k2 w2 l2 B2;obtain⟨ar,ay⟩:∃re,Y (re=Cb (Z r.tg) :: (j9 K.tg r.tg 0++(dy r++(Cb (Z r.sets) :: (j9 K.st r.sets 0++(Cb (Z r.drops) :: j9 zM r.drops 0)))))):=⟨_,hid rfl⟩;rw[<-ay.o] at B2;have cf:=J (B2);go_wp2_with fail
 go_loopw [3,4] (fun sv iv wr=>∃i:Ad,i<=Z r.ms/\iv=O Ai i/\∃a k l,sv=X a (Z l) k/\Y (Bt wa wr a k l tot (j9 uK r.ms i++ar) (180+180*i))) (fun _ iv _=>Z r.ms - (intOf iv).toNat)
 ·exact⟨0,Ax _,rfl,_,_,_,rfl,cf⟩
 ·
  obtain⟨i,F,rfl,aB,aH,li,rfl,aa⟩:=hrel;generalize wr=wRm at*
  by_cases d:i<Z r.ms
  ·have aG:(i:Ak)<Z r.ms:=by omega
   obtain⟨gm,aC,m,_,aF⟩:=Bm HM.o (by omega);simp only[Au] at m;obtain⟨rfl,_,rfl⟩:=m;have aq:=bC.o r.ms[i] (Cr d)
   cases hask:r.ms[i].ask
   ·
    have n:Y (Bt wa wRm aB aH li tot (zM r.ms[i].name++(0 :: (j9 uK r.ms (i+1)++ar))) (180+180*i)):=aa.o.to (by rw[bX uK _ i d];unfold uK;simp[hask]) (Aq _);have ew:=cbi 2 (zE f.o n.o.gr (by simp));have dx:wRm.cell? ⟨gm,i*3,S⟩=V (I (Aa r.ms[i].name)):=qY Qx 3 (fun _=>rfl) HM.o n.o.gr i 0 d (by omega) rfl;go_wp2_with fail;refine(jb r.ms[i].name wRm (by omega)).mono ?_;rintro e eI ⟨c8,dV,rfl,b2,bS⟩;obtain⟨cR,dq,bK,dI,b7⟩:=Rd.some (Rd.of_row b2) (kU _);simp only[Au,Fb] at bK;obtain⟨rfl,rfl⟩:=bK;have aU:=hid (n.o.keep bS);have bg:=hid b7;have cp:Z ((zM r.ms[i].name))<=60:=by rw[qr];omega
    go_wp2_with (at_builtin;refine @qG _ _ _ _ _ _ _ rfl _ _ rfl _ _ _ (zM r.ms[i].name) _ _ _ _ rfl aU.o ⟨cR,0,S⟩ _ _ rfl rfl (rfl) bg.o cp (by omega) ?_);intro dg d5 aL ee H;have ex:=cbi 2 (zE f.o H.o.gr (by simp));have cN:aL.cell? ⟨gm,i*3+2,S⟩=V (Av r.ms[i].ask):=qY Qx 3 (fun _=>rfl) HM.o H.o.gr i 2 d (by omega) rfl;rw[hask] at cN;have aV:=hid (H.o.keep (Ac _ (Ae #[O Bp 0] 5) S));have bh:=hid (zZ aL #[O Bp 0] 5 _ rfl);have bx:Y (Ba ([0])=[O Bp 0]):=by show _=_;first | rfl | (unfold Ba;simp only[Er,Fa];rw[u8n _ (by omega)])
    have cq:Z (([0]))<=60:=by simp
    go_wp2_with (at_builtin;refine @qG _ _ _ _ _ _ _ rfl _ _ rfl _ _ _ ([0]) _ _ _ _ rfl aV.o ⟨aL.heap.size,0,S⟩ _ _ rfl rfl (bx.o) bh.o cq (by omega) ?_);intro dh d6 eQ ef cF;go_wp2_with fail
    go_roundw
    ·exact⟨i+1,by omega,by go_num,_,_,_,rfl,cF.o.to rfl (by omega)⟩
    ·simp[intOf];omega
   ·
    have n:Y (Bt wa wRm aB aH li tot (zM r.ms[i].name++(1 :: (zM r.ms[i].val++(j9 uK r.ms (i+1)++ar)))) (180+180*i)):=aa.o.to (by rw[bX uK _ i d];unfold uK;simp[hask]) (Aq _);have ey:=cbi 2 (zE f.o n.o.gr (by simp));have dz:wRm.cell? ⟨gm,i*3,S⟩=V (I (Aa r.ms[i].name)):=qY Qx 3 (fun _=>rfl) HM.o n.o.gr i 0 d (by omega) rfl;go_wp2_with fail;refine(jb r.ms[i].name wRm (by omega)).mono ?_;rintro e eJ ⟨c9,dW,rfl,b3,bT⟩;obtain⟨cS,dr,bL,dJ,b8⟩:=Rd.some (Rd.of_row b3) (kU _);simp only[Au,Fb] at bL;obtain⟨rfl,rfl⟩:=bL;have aW:=hid (n.o.keep bT);have bi:=hid b8;have cr:Z ((zM r.ms[i].name))<=60:=by rw[qr];omega
    go_wp2_with (at_builtin;refine @qG _ _ _ _ _ _ _ rfl _ _ rfl _ _ _ (zM r.ms[i].name) _ _ _ _ rfl aW.o ⟨cS,0,S⟩ _ _ rfl rfl (rfl) bi.o cr (by omega) ?_);intro di d7 aM eg N;have ez:=cbi 2 (zE f.o N.o.gr (by simp));have cO:aM.cell? ⟨gm,i*3+2,S⟩=V (Av r.ms[i].ask):=qY Qx 3 (fun _=>rfl) HM.o N.o.gr i 2 d (by omega) rfl;rw[hask] at cO;have aY:=hid (N.o.keep (Ac _ (Ae #[O Bp 1] 5) S));have bj:=hid (zZ aM #[O Bp 1] 5 _ rfl);have bz:Y (Ba ([1])=[O Bp 1]):=by show _=_;first | rfl | (unfold Ba;simp only[Er,Fa];rw[u8n _ (by omega)])
    have ct:Z (([1]))<=60:=by simp
    go_wp2_with (at_builtin;refine @qG _ _ _ _ _ _ _ rfl _ _ rfl _ _ _ ([1]) _ _ _ _ rfl aY.o ⟨aM.heap.size,0,S⟩ _ _ rfl rfl (bz.o) bj.o ct (by omega) ?_);intro dj d8 cB eh Q;have eA:=cbi 2 (zE f.o Q.o.gr (by simp));have dA:cB.cell? ⟨gm,i*3+1,S⟩=V (I (Aa r.ms[i].val)):=qY Qx 3 (fun _=>rfl) HM.o Q.o.gr i 1 d (by omega) rfl;go_wp2_with fail;refine(jb r.ms[i].val cB (by omega)).mono ?_;rintro e eK ⟨da,dX,rfl,b4,bU⟩;obtain⟨cT,ds,bM,dK,b9⟩:=Rd.some (Rd.of_row b4) (kU _);simp only[Au,Fb] at bM;obtain⟨rfl,rfl⟩:=bM;have aZ:=hid (Q.o.keep bU);have bk:=hid b9;have cu:Z ((zM r.ms[i].val))<=60:=by rw[qr];omega
    go_wp2_with (at_builtin;refine @qG _ _ _ _ _ _ _ rfl _ _ rfl _ _ _ (zM r.ms[i].val) _ _ _ _ rfl aZ.o ⟨cT,0,S⟩ _ _ rfl rfl (rfl) bk.o cu (by omega) ?_);intro dk d9 eR ei cG;go_wp2_with fail
    go_roundw
    ·exact⟨i+1,by omega,by go_num,_,_,_,rfl,cG.o.to rfl (by omega)⟩
    ·simp[intOf];omega
  ·have hE:i=Z r.ms:=by omega
   subst hE;have ae:Y (Bt wa wRm aB aH li tot ar 720):=aa.o.to (bY _ _ _) (by omega);rw[ay.o] at ae;have en:=cbi 2 (zE f.o ae.o.gr (by simp));have eo:=cbi 3 (zE f.o ae.o.gr (by simp));have aP:=hid (ae.o.keep (Ac _ (Ae #[O Bp ↑r.tg.length] 5) S));have ba:=hid (zZ wRm #[O Bp ↑r.tg.length] 5 _ rfl);have bt:Y (Ba ([Cb (Z r.tg)])=[O Bp ↑r.tg.length]):=by show _=_;first | rfl | (unfold Ba;simp only[Er,Fa];rw[u8n _ (by omega)])
   have ck:Z (([Cb (Z r.tg)]))<=60:=by simp
   go_wp2_with (at_builtin;refine @qG _ _ _ _ _ _ _ rfl _ _ rfl _ _ _ ([Cb (Z r.tg)]) _ _ _ _ rfl aP.o ⟨wRm.heap.size,0,S⟩ _ _ rfl rfl (bt.o) ba.o ck (by omega) ?_);intro a3 k3 w3 l3 B3;obtain⟨aK,aA⟩:∃re,Y (re=dy r++(Cb (Z r.sets) :: (j9 K.st r.sets 0++(Cb (Z r.drops) :: j9 zM r.drops 0)))):=⟨_,hid rfl⟩;rw[<-aA.o] at B3;have ch:=J (B3);go_wp2_with fail
   go_loopw [3,5] (fun sv iv wr=>∃i:Ad,i<=Z r.tg/\iv=O Ai i/\∃a k l,sv=X a (Z l) k/\Y (Bt wa wr a k l tot (j9 K.tg r.tg i++aK) (780+180*i))) (fun _ iv _=>Z r.tg - (intOf iv).toNat)
   ·exact⟨0,Ax _,rfl,_,_,_,rfl,ch⟩
   ·
    obtain⟨i,F,rfl,bH,cz,li,rfl,aj⟩:=hrel;generalize wr=wRt at*
    by_cases d:i<Z r.tg
    ·have aG:(i:Ak)<Z r.tg:=by omega
     obtain⟨gm,aC,m,_,aF⟩:=Bm ap.o (by omega);simp only[Au] at m;obtain⟨rfl,_,rfl⟩:=m;have aq:=bE.o r.tg[i] (Cr d);have am:Y (Bt wa wRt bH cz li tot (zM r.tg[i].1++(qc r.tg[i].2++(j9 K.tg r.tg (i+1)++aK))) (780+180*i)):=aj.o.to (by rw[bX K.tg _ i d];unfold K.tg;simp[]) (Aq _);have eD:=cbi 3 (zE f.o am.o.gr (by simp));have dD:wRt.cell? ⟨gm,i*2,S⟩=V (I (Aa r.tg[i].1)):=qY (fun t:A Ab×Ak=>[I (Aa t.1),O Ai t.2]) 2 (fun _=>rfl) ap.o am.o.gr i 0 d (by omega) rfl;go_wp2_with fail;refine(jb r.tg[i].1 wRt (by omega)).mono ?_;rintro e eN ⟨dd,d0,rfl,cd,bZ⟩;obtain⟨cW,dv,bP,dN,cc⟩:=Rd.some (Rd.of_row cd) (kU _);simp only[Au,Fb] at bP;obtain⟨rfl,rfl⟩:=bP;have o:=hid (am.o.keep bZ);have u:=hid cc;have C:Z ((zM r.tg[i].1))<=60:=by rw[qr];omega
     go_wp2_with (at_builtin;refine @qG _ _ _ _ _ _ _ rfl _ _ rfl _ _ _ (zM r.tg[i].1) _ _ _ _ rfl o.o ⟨cW,0,S⟩ _ _ rfl rfl (rfl) u.o C (by omega) ?_);intro cK cZ au c2 q;have eE:=cbi 3 (zE f.o q.o.gr (by simp));have dE:au.cell? ⟨gm,i*2+1,S⟩=V (O Ai r.tg[i].2):=qY (fun t:A Ab×Ak=>[I (Aa t.1),O Ai t.2]) 2 (fun _=>rfl) ap.o q.o.gr i 1 d (by omega) rfl;go_wp2_with fail;refine(oi r.tg[i].2 au aq.2).mono ?_;rintro e c4 ⟨cJ,cY,rfl,B,y⟩;obtain⟨aD,cM,x,cX,j⟩:=Rd.some (Rd.of_row B) (zm1 _);simp only[Au,Fb] at x;obtain⟨rfl,rfl⟩:=x;have p:=hid (q.o.keep y);have v:=hid j;have E:Z ((qc r.tg[i].2))<=60:=by rw[kw];omega
     go_wp2_with (at_builtin;refine @qG _ _ _ _ _ _ _ rfl _ _ rfl _ _ _ (qc r.tg[i].2) _ _ _ _ rfl p.o ⟨aD,0,S⟩ _ _ rfl rfl (rfl) v.o E (by omega) ?_);intro cL c1 c5 c3 av;go_wp2_with fail
     go_roundw
     ·exact⟨i+1,by omega,by go_num,_,_,_,rfl,av.o.to rfl (by omega)⟩
     ·simp[intOf];omega
    ·have hE:i=Z r.tg:=by omega
     subst hE;have g:Y (Bt wa wRt bH cz li tot aK 1500):=aj.o.to (bY _ _ _) (by omega);rw[aA.o] at g;have ep:=cbi 3 (zE f.o g.o.gr (by simp));have ag:Y (∀b,r.change=b->dy r=if b then 1 :: zM r.to else [0]):=by
      intro b hb;unfold dy;rw[hb]
     have cA:=cbi 4 (zE f.o g.o.gr (by simp));obtain⟨bb,ab⟩:∃bb,Y (r.change=bb):=⟨_,hid rfl⟩;rw[ab.o] at cA
     go_upto_if 93 with fail
     go_cut [3] (fun sv wx=>∃a k l,sv=X a (Z l) k/\Y (Bt wa wx a k l tot (Cb (Z r.sets) :: (j9 K.st r.sets 0++(Cb (Z r.drops) :: j9 zM r.drops 0))) 1620))
     ·
      rcases Bool.eq_false_or_eq_true bb with hbb | hbb
      ·
       subst hbb;have br:=ag.o true ab.o;rw[br] at g;rw[Az rfl,Of] at g;have o:=hid (g.o.keep (Ac _ (Ae #[O Bp 1] 5) S));have u:=hid (zZ wRt #[O Bp 1] 5 _ rfl);have bA:Y (Ba ([1])=[O Bp 1]):=by show _=_;first | rfl | (unfold Ba;simp only[Er,Fa];rw[u8n _ (by omega)])
       have C:Z (([1]))<=60:=by simp
       go_wp2_with (at_builtin;refine @qG _ _ _ _ _ _ _ rfl _ _ rfl _ _ _ ([1]) _ _ _ _ rfl o.o ⟨wRt.heap.size,0,S⟩ _ _ rfl rfl (bA.o) u.o C (by omega) ?_);intro cK cZ au c2 q;have eF:=cbi 5 (zE f.o q.o.gr (by simp));go_wp2_with fail;refine(jb r.to au (by omega)).mono ?_;rintro e c4 ⟨cJ,cY,rfl,B,y⟩;obtain⟨aD,cM,x,cX,j⟩:=Rd.some (Rd.of_row B) (kU _);simp only[Au,Fb] at x;obtain⟨rfl,rfl⟩:=x;have p:=hid (q.o.keep y);have v:=hid j;have E:Z ((zM r.to))<=60:=by rw[qr];omega
       go_wp2_with (at_builtin;refine @qG _ _ _ _ _ _ _ rfl _ _ rfl _ _ _ (zM r.to) _ _ _ _ rfl p.o ⟨aD,0,S⟩ _ _ rfl rfl (rfl) v.o E (by omega) ?_);intro cL c1 c5 c3 av;go_wp2_with fail
       go_meet
       ·exact⟨_,_,_,rfl,av.o.to rfl (by omega)⟩
      ·
       subst hbb;have bp:=ag.o false ab.o;rw[bp] at g;rw[Aw (by simp),Of,Hc] at g;have aT:=hid (g.o.keep (Ac _ (Ae #[O Bp 0] 5) S));have bf:=hid (zZ wRt #[O Bp 0] 5 _ rfl);have bw:Y (Ba ([0])=[O Bp 0]):=by show _=_;first | rfl | (unfold Ba;simp only[Er,Fa];rw[u8n _ (by omega)])
       have co:Z (([0]))<=60:=by simp
       go_wp2_with (at_builtin;refine @qG _ _ _ _ _ _ _ rfl _ _ rfl _ _ _ ([0]) _ _ _ _ rfl aT.o ⟨wRt.heap.size,0,S⟩ _ _ rfl rfl (bw.o) bf.o co (by omega) ?_);intro df d4 eP ed cE;go_wp2_with fail
       go_meet
       ·exact⟨_,_,_,rfl,cE.o.to rfl (by omega)⟩
     ·
      obtain⟨aX,kX,lX,rfl,BX⟩:=hcut;generalize wc=wX at*;have er:=cbi 6 (zE f.o BX.o.gr (by simp));have aQ:=hid (BX.o.keep (Ac _ (Ae #[O Bp ↑r.sets.length] 5) S));have bc:=hid (zZ wX #[O Bp ↑r.sets.length] 5 _ rfl);have bu:Y (Ba ([Cb (Z r.sets)])=[O Bp ↑r.sets.length]):=by show _=_;first | rfl | (unfold Ba;simp only[Er,Fa];rw[u8n _ (by omega)])
      have cl:Z (([Cb (Z r.sets)]))<=60:=by simp
      go_wp2_with (at_builtin;refine @qG _ _ _ _ _ _ _ rfl _ _ rfl _ _ _ ([Cb (Z r.sets)]) _ _ _ _ rfl aQ.o ⟨wX.heap.size,0,S⟩ _ _ rfl rfl (bu.o) bc.o cl (by omega) ?_);intro a5 k5 w5 l5 B5;obtain⟨aJ,az⟩:∃re,Y (re=Cb (Z r.drops) :: j9 zM r.drops 0):=⟨_,hid rfl⟩;rw[<-az.o] at B5;have cg:=J (B5);go_wp2_with fail
      go_loopw [3,6] (fun sv iv wr=>∃i:Ad,i<=Z r.sets/\iv=O Ai i/\∃a k l,sv=X a (Z l) k/\Y (Bt wa wr a k l tot (j9 K.st r.sets i++aJ) (1680+180*i))) (fun _ iv _=>Z r.sets - (intOf iv).toNat)
      ·exact⟨0,Ax _,rfl,_,_,_,rfl,cg⟩
      ·
       obtain⟨i,F,rfl,bG,cy,li,rfl,ai⟩:=hrel;generalize wr=wRs at*
       by_cases d:i<Z r.sets
       ·have aG:(i:Ak)<Z r.sets:=by omega
        obtain⟨gm,aC,m,_,aF⟩:=Bm ao.o (by omega);simp only[Au] at m;obtain⟨rfl,_,rfl⟩:=m;have aq:=bD.o r.sets[i] (Cr d);have al:Y (Bt wa wRs bG cy li tot (zM r.sets[i].1++(zM r.sets[i].2++(j9 K.st r.sets (i+1)++aJ))) (1680+180*i)):=ai.o.to (by rw[bX K.st _ i d];unfold K.st;simp[]) (Aq _);have eB:=cbi 6 (zE f.o al.o.gr (by simp));have dB:wRs.cell? ⟨gm,i*2,S⟩=V (I (Aa r.sets[i].1)):=qY (fun t:A Ab×A Ab=>[I (Aa t.1),I (Aa t.2)]) 2 (fun _=>rfl) ao.o al.o.gr i 0 d (by omega) rfl;go_wp2_with fail;refine(jb r.sets[i].1 wRs (by omega)).mono ?_;rintro e eL ⟨db,dY,rfl,z,bV⟩;obtain⟨cU,dt,bN,dL,ca⟩:=Rd.some (Rd.of_row z) (kU _);simp only[Au,Fb] at bN;obtain⟨rfl,rfl⟩:=bN;have a4:=hid (al.o.keep bV);have bl:=hid ca;have cv:Z ((zM r.sets[i].1))<=60:=by rw[qr];omega
        go_wp2_with (at_builtin;refine @qG _ _ _ _ _ _ _ rfl _ _ rfl _ _ _ (zM r.sets[i].1) _ _ _ _ rfl a4.o ⟨cU,0,S⟩ _ _ rfl rfl (rfl) bl.o cv (by omega) ?_);intro dl ea cC ej an;have eC:=cbi 6 (zE f.o an.o.gr (by simp));have dC:cC.cell? ⟨gm,i*2+1,S⟩=V (I (Aa r.sets[i].2)):=qY (fun t:A Ab×A Ab=>[I (Aa t.1),I (Aa t.2)]) 2 (fun _=>rfl) ao.o an.o.gr i 1 d (by omega) rfl;go_wp2_with fail;refine(jb r.sets[i].2 cC (by omega)).mono ?_;rintro e eM ⟨dc,dZ,rfl,b5,bW⟩;obtain⟨cV,du,bO,dM,cb⟩:=Rd.some (Rd.of_row b5) (kU _);simp only[Au,Fb] at bO;obtain⟨rfl,rfl⟩:=bO;have a7:=hid (an.o.keep bW);have bm:=hid cb;have cw:Z ((zM r.sets[i].2))<=60:=by rw[qr];omega
        go_wp2_with (at_builtin;refine @qG _ _ _ _ _ _ _ rfl _ _ rfl _ _ _ (zM r.sets[i].2) _ _ _ _ rfl a7.o ⟨cV,0,S⟩ _ _ rfl rfl (rfl) bm.o cw (by omega) ?_);intro dm eb eS ek cH;go_wp2_with fail
        go_roundw
        ·exact⟨i+1,by omega,by go_num,_,_,_,rfl,cH.o.to rfl (by omega)⟩
        ·simp[intOf];omega
       ·have hE:i=Z r.sets:=by omega
        subst hE;have af:Y (Bt wa wRs bG cy li tot aJ 2220):=ai.o.to (bY _ _ _) (by omega);rw[az.o] at af;have es:=cbi 6 (zE f.o af.o.gr (by simp));have et:=cbi 7 (zE f.o af.o.gr (by simp));have aR:=hid (af.o.keep (Ac _ (Ae #[O Bp ↑r.drops.length] 5) S));have bd:=hid (zZ wRs #[O Bp ↑r.drops.length] 5 _ rfl);have bv:Y (Ba ([Cb (Z r.drops)])=[O Bp ↑r.drops.length]):=by show _=_;first | rfl | (unfold Ba;simp only[Er,Fa];rw[u8n _ (by omega)])
        have cm:Z (([Cb (Z r.drops)]))<=60:=by simp
        go_wp2_with (at_builtin;refine @qG _ _ _ _ _ _ _ rfl _ _ rfl _ _ _ ([Cb (Z r.drops)]) _ _ _ _ rfl aR.o ⟨wRs.heap.size,0,S⟩ _ _ rfl rfl (bv.o) bd.o cm (by omega) ?_);intro a6 k6 w6 l6 B6;have BN:Y (Bt wa w6 a6 k6 l6 tot (j9 zM r.drops 0++[]) 2280):=B6.o.to (Cv _).symm (Aq _);obtain⟨aI,ax⟩:∃re,Y (re=([]:A Ab)):=⟨_,hid rfl⟩;rw[<-ax.o] at BN;have ce:=J (BN);go_wp2_with fail
        go_loopw [3,7] (fun sv iv wr=>∃i:Ad,i<=Z r.drops/\iv=O Ai i/\∃a k l,sv=X a (Z l) k/\Y (Bt wa wr a k l tot (j9 zM r.drops i++aI) (2280+180*i))) (fun _ iv _=>Z r.drops - (intOf iv).toNat)
        ·exact⟨0,Ax _,rfl,_,_,_,rfl,ce⟩
        ·
         obtain⟨i,F,rfl,bF,cx,li,rfl,ah⟩:=hrel;generalize wr=wRd at*
         by_cases d:i<Z r.drops
         ·have aG:(i:Ak)<Z r.drops:=by omega
          obtain⟨gm,aC,m,_,aF⟩:=Bm aw.o (by omega);simp only[Au] at m;obtain⟨rfl,_,rfl⟩:=m;have aq:=bB.o r.drops[i] (Cr d);have ak:Y (Bt wa wRd bF cx li tot (zM r.drops[i]++(j9 zM r.drops (i+1)++aI)) (2280+180*i)):=ah.o.to (by rw[bX zM _ i d]) (Aq _);have ev:=cbi 7 (zE f.o ak.o.gr (by simp));have dw:wRd.cell? ⟨gm,i,S⟩=V (I (Aa r.drops[i])):=by have h:=qY (fun s=>[I (Aa s)]) 1 (fun _=>rfl) aw.o ak.o.gr i 0 d (by omega) rfl;rw[Nx] at h;exact h
          go_wp2_with fail;refine(jb r.drops[i] wRd (by omega)).mono ?_;rintro e eH ⟨c7,dU,rfl,b1,bR⟩;obtain⟨cQ,dp,bJ,dH,b6⟩:=Rd.some (Rd.of_row b1) (kU _);simp only[Au,Fb] at bJ;obtain⟨rfl,rfl⟩:=bJ;have aS:=hid (ak.o.keep bR);have be:=hid b6;have cn:Z ((zM r.drops[i]))<=60:=by rw[qr];omega
          go_wp2_with (at_builtin;refine @qG _ _ _ _ _ _ _ rfl _ _ rfl _ _ _ (zM r.drops[i]) _ _ _ _ rfl aS.o ⟨cQ,0,S⟩ _ _ rfl rfl (rfl) be.o cn (by omega) ?_);intro de d3 eO ec cD;go_wp2_with fail
          go_roundw
          ·exact⟨i+1,by omega,by go_num,_,_,_,rfl,cD.o.to rfl (by omega)⟩
          ·simp[intOf];omega
         ·have hE:i=Z r.drops:=by omega
          subst hE;have ad:Y (Bt wa wRd bF cx li tot aI 2820):=ah.o.to (bY _ _ _) (by omega);rw[ax.o] at ad;have eu:=cbi 7 (zE f.o ad.o.gr (by simp));have cI:Y (tot=li):=by show _=_;have h:=ad.o.eq;rwa[Cv] at h
          go_wp2_with fail;go_ret;rw[cI.o];exact⟨_,_,rfl,ke ad.o.own bn.o.size,zD bn.o ad.o.gr⟩
theorem ziR (r:R.Rl):qm r≠[]:=by unfold qm qc;simp
theorem nt {r:R.Rl}(h:BR r):Z (qm r)<=1200:=by
 have a:=xx uK 60 r.ms (fun m hm=>by
  have:=h.ms.2 m hm;unfold uK;split <;> simp only[Ah,Bb,Bu,qr] <;> omega)
 have b:=xx K.tg 60 r.tg (fun m hm=>by
  have:=h.tg.2 m hm;unfold K.tg;simp only[Ah,qr,kw];omega)
 have c:=xx K.st 60 r.sets (fun m hm=>by
  have:=h.sets.2 m hm;unfold K.st;simp only[Ah,qr];omega)
 have d:=xx zM 60 r.drops (fun m hm=>by
  have:=h.drops.2 m hm;rw[qr];omega)
 grind[xx,uK,List.length_append,List.length_cons,List.length_nil,qr,K.tg,kw,K.st,zM,dy,qm,R.Rl,BR]
structure BH (h:Fp):Prop where
 nl:Z h.name<=24
 rl:Z h.rules<=6
 rules:∀r∈h.rules,BR r
theorem zhC {x:Fp}(h:BH x):Z (yr x)<=8000:=by
 have a:=xx qm 1200 x.rules (fun r hr=>nt (h.rules r hr));have:=h.nl;have:=h.rl;unfold yr;rw[Ah,qr];omega
def head4 (n:Ad):A Ab:=[83,89,49,Cb n]
theorem zeC (w:Ag)(n:Ad)(a:n<=255):(w.alloc (Ae #[O Bp 83,O Bp 89,O Bp 49,O Bp n] 5)).ownsRow w.heap.size 5 1 (X (V ⟨w.heap.size,0,S⟩) (Z (head4 n)) 4) (Z (head4 n)) (Ba (head4 n)):=by
 have h:=uY w (head4 n) (by unfold head4;simp);have e:Ba (head4 n)=[O Bp 83,O Bp 89,O Bp 49,O Bp n]:=by
  unfold Ba head4;simp only[Er,Fa];rw[u8n n a];rfl
 grind[uY,head4,u8n]
theorem zdZ (a:A Fp):cat (head4 (Z a)) yr a (Z a)=kV a:=by
 rw[zcP];rfl
theorem na (v:Aj)(b:A Fp)(hH:HostsRow w B v b)(hn:Z b<=12)(aE:∀h∈b,BH h):Am prog 92 #[v] w (Gives w (t7 b)):=by
 obtain⟨i0,hi,ae,af,ag⟩:=Ej jD;obtain⟨bT,aC,a8⟩:=hH;obtain⟨ha,hc,rfl⟩:=zL aC;have y:=J (aC);have N:=J (a8);have aT:=J (aE);have am:Y (t7 b=kV b++(xF (yg (kV b))++[])):=by show _=_;rw[Cv];rfl
 have aN:=J (zeC w (Z b) (by omega));have aM:Y (w.grownBy (w.alloc (Ae #[O Bp 83,O Bp 89,O Bp 49,O Bp (Z b)] 5)) S):=Ac _ _ _;have aH:Y (∀x∈b,Z (yr x)<=8000):=fun x hx=>zhC (aE x hx)
 have aj:Y (cat (head4 (Z b)) yr b 0=head4 (Z b)):=mu _ _ _;have h4:Z (head4 (Z b))=4:=rfl;have ai:=J (zdZ b);generalize t7 b=tot at*;go_in;go_wp2_with fail
 go_loopw [3,4] (fun sv iv wr=>∃i:Ad,i<=Z b/\iv=O Ai i/\(∃a k,sv=X a (Z (cat (head4 (Z b)) yr b i)) k/\Y (wr.ownsRow w.heap.size 5 1 (X a (Z (cat (head4 (Z b)) yr b i)) k) (Z (cat (head4 (Z b)) yr b i)) (Ba (cat (head4 (Z b)) yr b i))))/\Y (w.grownBy wr S)) (fun _ iv _=>Z b-(intOf iv).toNat)
 case atStart=>exact⟨0,Ax _,rfl,⟨_,_,by rw[aj.o];rfl,by rw[aj.o];exact aN⟩,aM⟩
 case round=>
  obtain⟨i,bB,rfl,⟨aR,kR,rfl,OR⟩,GR⟩:=hrel;generalize wr=wR at*;have aB:=zcQ (head4 (Z b)) yr b 8000 aH.o i bB
  by_cases ad:i<Z b
  ·have b0:(i:Ak)<Z b:=by omega
   obtain⟨gm,bV,bg,_,_⟩:=Bm y.o (by omega);simp only[Au] at bg;obtain⟨rfl,_,rfl⟩:=bg;obtain⟨vR,bj,bA⟩:=gQ N.o i ad;obtain⟨bS,aD,a9⟩:=bA;obtain⟨ra,rc,rfl⟩:=zL aD;have H0:Y (w.cell? ⟨gm,i*2,S⟩=V (I (Aa b[i].name))):=by
    show _=_;rw[Ap y.o (i*2) (by omega),wV N.o i ad]
   have H1:Y (w.cell? ⟨gm,i*2+1,S⟩=V (X ra b[i].rules.length rc)):=by
    show _=_;rw[Ap y.o (i*2+1) (by omega),bj]
   have d:=J (aD);have bn:=J (a9);have ab:=aT.o b[i] (Cr ad);obtain⟨nx,ak⟩:∃nx,Y (cat (head4 (Z b)) yr b (i+1)=nx):=⟨_,rfl⟩;have aP:Y (nx=cat (head4 (Z b)) yr b i++(zM b[i].name++(Cb b[i].rules.length::((b[i].rules.map qm).flatten++[])))):=by
    show _=_;rw[<-ak.o,mr _ _ _ _ ad,Cv];rfl
   have b4:Z (cat (head4 (Z b)) yr b i)<=100000:=by omega
   generalize cat (head4 (Z b)) yr b i=li at*;generalize b[i]=hh at*;have b2:=ab.nl;have b9:=ab.rl;have aU:=J (ab.rules);have e0:=GR.o.cell H0.o (by simp);go_wp2_with fail;refine(jb hh.name wR (by omega)).mono ?_;rintro e ch ⟨bN,bE,rfl,ba,ax⟩;obtain⟨bw,bQ,a2,bX,bc⟩:=Rd.some (Rd.of_row ba) (kU _);simp only[Au,Fb] at a2;obtain⟨rfl,rfl⟩:=a2;have ar:=J (zK OR.o ax (fun k hk c=>by cases c));have C:=J (zD GR.o ax);have aI:=J (bc);have ca:Z (zM hh.name)<=60:=by rw[qr];omega
   go_wp2_with (at_builtin;refine Cu _ rfl _ _ 32 rfl w.heap.size 5 i0 _ 1 1 underlying32 hi ae af ag rfl (by decide) _ _ _ rfl ar.o ⟨bw,0,S⟩ (Z (zM hh.name)) bE (Ba (zM hh.name)) rfl ?a1 aI.o (vo (zM hh.name)) ?a4 ?a5 ?a6 ?_)
   case a1=>rw[xU,Nx]
   case a4=>unfold Bh;omega
   case a5=>omega
   case a6=>exact C.o.size
   intro cd t g o _;obtain⟨a0,bk,rfl⟩:=zL g;have an:Y (Z (li)+Z (zM hh.name)=Z (li++zM hh.name)):=by show _=_;rw[Ah]
   have aW:Y (t.ownsRow w.heap.size 5 1 (X a0 (Z (li++zM hh.name)) bk) (Z (li++zM hh.name)) (Ba (li++zM hh.name))):=by
    show Ib _ _ _ _ _ _ _;rw[<-an.o,Hl];exact g
   have ah:=J (qI C.o o (fun k hk=>(An ar.o k hk).1));have b6:Z (li++zM hh.name)<=100060:=by rw[Ah];omega
   have aO:Y (nx=(li++zM hh.name)++(Cb (Z hh.rules)::((hh.rules.map qm).flatten++[]))):=by show _=_;rw[aP.o];simp only[Bl]
   rw[an.o];generalize li++zM hh.name=lp1 at*;have e1:=ah.o.cell H1.o (by simp);have au:Y ((t.alloc (Ae #[O Bp ↑hh.rules.length] 5)).ownsRow w.heap.size 5 1 (X a0 (Z (lp1)) bk) (Z (lp1)) (Ba (lp1))):=Ao aW.o _;have E:Y (w.grownBy (t.alloc (Ae #[O Bp ↑hh.rules.length] 5)) S):=zD ah.o (Ac _ _ S);have aJ:Y (∀j u,([O Bp ↑hh.rules.length]:A Aj)[j]?=V u->(t.alloc (Ae #[O Bp ↑hh.rules.length] 5)).cell? ((⟨t.heap.size,0,S⟩:Eu).add j)=V u):=zZ t #[_] _ _ rfl;have aV:Y (Ba ([Cb (Z hh.rules)])=[O Bp ↑hh.rules.length]):=by show _=_;first|rfl|(unfold Ba;simp only[Er,Fa];rw[u8n _ (by omega)])
   have cb:Z ([Cb (Z hh.rules)])<=60:=by simp
   go_wp2_with (at_builtin;refine Cu _ rfl _ _ 32 rfl w.heap.size 5 i0 _ 1 1 underlying32 hi ae af ag rfl (by decide) _ _ _ rfl au.o ⟨t.heap.size,0,S⟩ 1 1 ([O Bp ↑hh.rules.length]) rfl ?a1 aJ.o (fun u hu=>by simp at hu;subst hu;rfl) ?a4 ?a5 ?a6 ?_)
   case a1=>rfl
   case a4=>unfold Bh;omega
   case a5=>omega
   case a6=>exact E.o.size
   intro ce bK l p _;obtain⟨bt,bH,rfl⟩:=zL l;have ao:Y (Z (lp1)+1=Z (lp1++[Cb (Z hh.rules)])):=by show _=_;rw[Ah];rfl
   have aX:Y (bK.ownsRow w.heap.size 5 1 (X bt (Z (lp1++[Cb (Z hh.rules)])) bH) (Z (lp1++[Cb (Z hh.rules)])) (Ba (lp1++[Cb (Z hh.rules)]))):=by
    show Ib _ _ _ _ _ _ _;rw[<-ao.o,Hl,aV.o];exact l
   have aF:=J (qI E.o p (fun k hk=>(An au.o k hk).1));have b7:Z (lp1++[Cb (Z hh.rules)])<=100120:=by rw[Ah];omega
   have bp:Y (nx=(lp1++[Cb (Z hh.rules)])++((hh.rules.map qm).flatten++[])):=by show _=_;rw[aO.o];simp only[Bl,Of,Hc]
   rw[ao.o];generalize lp1++[Cb (Z hh.rules)]=lp2 at*;have Q:Y (cat lp2 qm hh.rules 0=lp2):=mu _ _ _;have bo:Y (∀x∈hh.rules,Z (qm x)<=1200):=fun x hx=>nt (aU.o x hx)
   go_wp2_with fail
   go_loopw [3,5] (fun sv iv wr=>∃j:Ad,j<=Z hh.rules/\iv=O Ai j/\(∃a k,sv=X a (Z (cat lp2 qm hh.rules j)) k/\Y (wr.ownsRow w.heap.size 5 1 (X a (Z (cat lp2 qm hh.rules j)) k) (Z (cat lp2 qm hh.rules j)) (Ba (cat lp2 qm hh.rules j))))/\Y (w.grownBy wr S)) (fun _ iv _=>Z hh.rules-(intOf iv).toNat)
   case atStart=>exact⟨0,Ax _,rfl,⟨_,_,by rw[Q.o],by rw[Q.o];exact aX⟩,aF⟩
   case round=>
    obtain⟨j,bC,rfl,⟨aS,kS,rfl,OS⟩,z⟩:=hrel;generalize wr=wS at*;have bD:=zcQ lp2 qm hh.rules 1200 bo.o j bC;have f1:=z.o.cell H1.o (by simp)
    by_cases aA:j<Z hh.rules
    ·have b1:(j:Ak)<Z hh.rules:=by omega
     obtain⟨s,bW,bh,_,_⟩:=Bm d.o (by omega);simp only[Au] at bh;obtain⟨rfl,_,rfl⟩:=bh;obtain⟨cs,bi,f⟩:=fs bn.o j aA;have bs:Y (RuleVal wS cs hh.rules[j]):=bi.keep z.o (za _ _);have aG:=J (aU.o hh.rules[j] (Cr aA));obtain⟨ny,al⟩:∃ny,Y (cat lp2 qm hh.rules (j+1)=ny):=⟨_,rfl⟩;have aQ:Y (ny=cat lp2 qm hh.rules j++(qm hh.rules[j]++[])):=by
      show _=_;rw[<-al.o,mr _ _ _ _ aA,Cv]
     have b5:Z (cat lp2 qm hh.rules j)<=110000:=by omega
     have b8:=nt aG.o;generalize cat lp2 qm hh.rules j=lj at*;generalize hh.rules[j]=rl at*;obtain⟨vM,vT,vS,vD,rfl,hM,hT,hS,hD⟩:=bi;obtain⟨m1,m2,rfl⟩:=zL hM;obtain⟨t1,t2,rfl⟩:=zL hT;obtain⟨x1,x2,rfl⟩:=zL hS;obtain⟨d1,d2,rfl⟩:=zL hD;have g0:wS.cell? ⟨s,j*8,S⟩=V (O Ai rl.number):=by
      refine z.o.cell (a:=⟨s,j*8,S⟩) ?_ (by simp);rw[Ap d.o (j*8) (by omega)];exact f 0 (by omega)
     have g1:wS.cell? ⟨s,j*8+1,S⟩=V (I (Aa rl.path)):=by
      refine z.o.cell (a:=⟨s,j*8+1,S⟩) ?_ (by simp);rw[Ap d.o (j*8+1) (by omega)];exact f 1 (by omega)
     have g2:wS.cell? ⟨s,j*8+2,S⟩=V (X m1 (Z rl.ms) m2):=by
      refine z.o.cell (a:=⟨s,j*8+2,S⟩) ?_ (by simp);rw[Ap d.o (j*8+2) (by omega)];exact f 2 (by omega)
     have g3:wS.cell? ⟨s,j*8+3,S⟩=V (X t1 (Z rl.tg) t2):=by
      refine z.o.cell (a:=⟨s,j*8+3,S⟩) ?_ (by simp);rw[Ap d.o (j*8+3) (by omega)];exact f 3 (by omega)
     have g4:wS.cell? ⟨s,j*8+4,S⟩=V (Av rl.change):=by
      refine z.o.cell (a:=⟨s,j*8+4,S⟩) ?_ (by simp);rw[Ap d.o (j*8+4) (by omega)];exact f 4 (by omega)
     have g5:wS.cell? ⟨s,j*8+5,S⟩=V (I (Aa rl.to)):=by
      refine z.o.cell (a:=⟨s,j*8+5,S⟩) ?_ (by simp);rw[Ap d.o (j*8+5) (by omega)];exact f 5 (by omega)
     have g6:wS.cell? ⟨s,j*8+6,S⟩=V (X x1 (Z rl.sets) x2):=by
      refine z.o.cell (a:=⟨s,j*8+6,S⟩) ?_ (by simp);rw[Ap d.o (j*8+6) (by omega)];exact f 6 (by omega)
     have g7:wS.cell? ⟨s,j*8+7,S⟩=V (X d1 (Z rl.drops) d2):=by
      refine z.o.cell (a:=⟨s,j*8+7,S⟩) ?_ (by simp);rw[Ap d.o (j*8+7) (by omega)];exact f 7 (by omega)
     go_wp2_with fail;refine(py _ rl bs.o aG.o).mono ?_;rintro e ci ⟨bO,bF,rfl,bb,ay⟩;obtain⟨bx,bR,a3,bY,bd⟩:=Rd.some (Rd.of_row bb) (ziR _);simp only[Au,Fb] at a3;obtain⟨rfl,rfl⟩:=a3;have av:=J (zK OS.o ay (fun k hk c=>by cases c));have F:=J (zD z.o ay);have aK:=J (bd);go_wp2_with (at_builtin;refine Cu _ rfl _ _ 32 rfl w.heap.size 5 i0 _ 1 1 underlying32 hi ae af ag rfl (by decide) _ _ _ rfl av.o ⟨bx,0,S⟩ (Z (qm rl)) bF (Ba (qm rl)) rfl ?a1 aK.o (vo (qm rl)) ?a4 ?a5 ?a6 ?_)
     case a1=>rw[xU,Nx]
     case a4=>unfold Bh;omega
     case a5=>omega
     case a6=>exact F.o.size
     intro cf bL m q _;obtain⟨bu,bI,rfl⟩:=zL m;have ap:Y (Z (lj)+Z (qm rl)=Z (lj++qm rl)):=by show _=_;rw[Ah]
     have aY:Y (bL.ownsRow w.heap.size 5 1 (X bu (Z (lj++qm rl)) bI) (Z (lj++qm rl)) (Ba (lj++qm rl))):=by
      show Ib _ _ _ _ _ _ _;rw[<-ap.o,Hl];exact m
     have bl:=J (qI F.o q (fun k hk=>(An av.o k hk).1));have bq:Y (ny=(lj++qm rl)++([])):=by show _=_;rw[aQ.o];simp only[Bl]
     rw[ap.o];generalize lj++qm rl=lq1 at*;have aa:Y (lq1=ny):=by show _=_;rw[bq.o,Cv]
     rw[aa.o] at aY ⊢;go_wp2_with fail
     go_roundw
     case rel=>exact⟨j+1,by omega,by go_num,⟨_,_,by rw[al.o],by rw[al.o];exact aY⟩,bl⟩
     case measure=>simp[intOf];omega
    ·have hE:j=Z hh.rules:=by omega
     subst hE;have aa:Y (cat lp2 qm hh.rules (Z hh.rules)=nx):=by show _=_;rw[zcP,bp.o,Cv]
     rw[aa.o] at OS ⊢;go_wp2_with fail
     go_roundw
     case rel=>exact⟨i+1,by omega,by go_num,⟨_,_,by rw[ak.o],by rw[ak.o];exact OS⟩,z⟩
     case measure=>simp[intOf];omega
  ·have hE:i=Z b:=by omega
   subst hE;rw[ai.o] at OR aB ⊢;have b3:Z (kV b)<=100000:=by omega
   generalize kV b=lA at*;go_wp2_with fail;refine(zkW aR kR lA (Rd.of_row OR.o) (by omega)).mono ?_;rintro e cj ⟨bP,bG,rfl,bf,az⟩;obtain⟨bz,bU,a7,bZ,be⟩:=Rd.some (Rd.of_row bf) (by unfold xF;simp);simp only[Au,Fb] at a7;obtain⟨rfl,rfl⟩:=a7;have aw:=J (zK OR.o az (fun k hk c=>by cases c));have H:=J (zD GR.o az);have aL:=J (be);have cc:Z (xF (yg lA))<=60:=by unfold xF;simp
   go_wp2_with (at_builtin;refine Cu _ rfl _ _ 32 rfl w.heap.size 5 i0 _ 1 1 underlying32 hi ae af ag rfl (by decide) _ _ _ rfl aw.o ⟨bz,0,S⟩ (Z (xF (yg lA))) bG (Ba (xF (yg lA))) rfl ?a1 aL.o (vo (xF (yg lA))) ?a4 ?a5 ?a6 ?_)
   case a1=>rw[xU,Nx]
   case a4=>unfold Bh;omega
   case a5=>omega
   case a6=>exact H.o.size
   intro cg bM n r _;obtain⟨bv,bJ,rfl⟩:=zL n;have aq:Y (Z (lA)+Z (xF (yg lA))=Z (lA++xF (yg lA))):=by show _=_;rw[Ah]
   have aZ:Y (bM.ownsRow w.heap.size 5 1 (X bv (Z (lA++xF (yg lA))) bJ) (Z (lA++xF (yg lA))) (Ba (lA++xF (yg lA)))):=by
    show Ib _ _ _ _ _ _ _;rw[<-aq.o,Hl];exact n
   have bm:=J (qI H.o r (fun k hk=>(An aw.o k hk).1));have br:Y (tot=(lA++xF (yg lA))++([])):=by show _=_;rw[am.o];simp only[Bl]
   rw[aq.o];generalize lA++xF (yg lA)=lz1 at*;have aa:Y (lz1=tot):=by show _=_;rw[br.o,Cv]
   rw[aa.o] at aZ ⊢;go_wp2_with fail;go_ret;exact⟨_,_,rfl,aZ.o,bm.o⟩
theorem TInv.safe {l:A TypeId}(h:TInv w a v b s)(c:257 ∉ l):Safe w (V a) l:=by grind[T.St,TInv,Safe]
theorem TInv.bad (h:TInv w a v b s):w.cell? ⟨a,2,S⟩=V (Av s.bad):=by
 obtain⟨p,_,_,c⟩:=h.ex;exact zB c
theorem io {a:A (A Aj)}{b:A Fp}(h:All2 (HostVal w) a b)(k:Ad)(d:k<Z b):a.flatten[k*2]?=V (I (Aa b[k].name)):=by
 induction h generalizing k with
 |nil=>simp at d
 | @cons c r cs rs hc _ ih=>
  obtain⟨f,rfl,_⟩:=hc
  match k with
  |0=>rfl
  |k+1=>
   have:=ih k (by simpa using d);rw[Ci,Cl (by simp;omega)];simp only[Bb,Bu];rw[show(k+1)*2-(0+1+1)=k*2 by omega];exact this
theorem rK (m:Ad)(s:T.St):(zr m s).1<=m:=by
 unfold zr
 split
 ·simp
 ·omega
theorem aB (n:Ad)(a:A R.Rl)(s:T.St)(h:s.bad=false):yE (n+1) a s=yE n (a++[(jE s).1]) (qP (jE s).2 (match a.getLast? with|none=>true|some x=>decide (x.number<(jE s).1.number))):=by
 rw[yE,h];rfl
abbrev Gq8 (a b):=yE (zr 6 (yB a b).2).1 [] (zr 6 (yB a b).2).2
theorem aA (n:Ad)(a:A Fp)(s:T.St)(h:s.bad=false):yj (n+1) a s=yj n (a++[⟨(yB s a).1,(Gq8 s a).1⟩]) (Gq8 s a).2:=by
 rw[yj,h];rfl
theorem zgY (h:VHst x):BH (toR x) where
 nl:=h.nl
 rl:=by show(Z (x.rules.map toRl))<=6;rw[Bv];exact h.rl
 rules:=fun r hr=>by
  obtain⟨y,c,rfl⟩:=Hr.1 (show r∈x.rules.map toRl from hr);have a:=h.rules y c;exact⟨a.num,a.pl,⟨by show(Z (y.ms.map mtOf))<=3;rw[Bv];exact a.ml,fun m hm=>by
   obtain⟨z,b,rfl⟩:=Hr.1 (show m∈y.ms.map mtOf from hm);exact⟨(a.ms z b).nl,(a.ms z b).vl⟩⟩,⟨a.tl,fun t ht=>⟨(a.tg t ht).ul,by have:=(a.tg t ht).lo;omega,by have:=(a.tg t ht).hi;omega⟩⟩,by show (Z y.rep)<=24;rcases a.rep with e|e;rw[e];simp;exact e.2,
   ⟨a.sl,fun t ht=>⟨(a.sets t ht).nl,(a.sets t ht).vl⟩⟩,⟨a.dl,fun t ht=>(a.drops t ht).nl⟩⟩
theorem zj7 {x y:P.Rl}(h:toRl x=toRl y):x=y:=by
 obtain⟨n,p,t,tg,rp,st,N⟩:=x;obtain⟨Q,p',d,w,u,v,f⟩:=y;simp only[toRl,rlOf,R.Rl.mk.injEq] at h;obtain⟨k,l,m,o,_,q,r,s⟩:=h;have c:t=d:=List.map_inj_right (fun a b e=>by
  obtain⟨z,B,C⟩:=a;obtain⟨E,F,H⟩:=b;simp only[mtOf,R.Mt.mk.injEq] at e;obtain⟨g,i,j⟩:=e;rw[g,i,j]) |>.1 m
 rw[k,l,c,o,q,r,s]
theorem zlB {a b:A P.Hst}(h:a.map toR=b.map toR):a=b:=by grind[List.map_inj_right,toR,Fp,zj7,P.Hst]
theorem ng (hr:RdO w v b)(hv:b≠[]->∀g o n c,v=X (V ⟨g,o,S⟩) n c->g<w.heap.size)(hl:Z b<=140737488355328) :
  Am prog 96 #[v] w fun e w'=>w.grownBy w' S/\((∃C u,VHs C/\x4 C=b/\e=Af (Cm #[u,Av true])/\HostsRow w' 0 u (C.map toR))\/((∀C,VHs C->x4 C≠b)/\∃u,e=Af (Cm #[u,Av false]))):=by
 obtain⟨i0,hi,bQ,bR,bS⟩:=Ej zd0;obtain⟨i1,hj,bo,bp,bq⟩:=Ej zcY;obtain⟨va,vc,rfl,cg⟩:=hr.form;have gA:w.grownBy (w.alloc (Ae #[X va (Z b) vc,O Ai 0,Av false] 257)) S:=Ac _ _ S;have I0:Y (TInv (w.alloc (Ae #[X va (Z b) vc,O Ai 0,Av false] 257)) w.heap.size (X va (Z b) vc) b ⟨b,false⟩):=⟨⟨0,Ax _,rfl,Bn _ _⟩,hr.keep gA (fun g o n c e c2=>by cases c2),fun h0 g o n c e=>by have:=hv h0 g o n c e;omega,hl⟩;have aS:=J (gA);have aJ:Y (tL b=yj (zr 4 (wG ⟨b,false⟩)).1 [] (zr 4 (wG ⟨b,false⟩)).2):=rfl;have ba:Y (wG ⟨b,false⟩=qP (xD (xD (xD ⟨b,false⟩).2).2).2 (decide ((xD ⟨b,false⟩).1=83) && (decide ((xD (xD ⟨b,false⟩).2).1=89) && decide ((xD (xD (xD ⟨b,false⟩).2).2).1=49)))):=rfl;clear hr hv gA;obtain⟨aj,aw⟩:∃aj,Y (aj=tL b):=⟨_,rfl⟩;rw[<-aw.o] at aJ;generalize wG ⟨b,false⟩=hd at*;generalize(⟨b,false⟩:T.St)=s0 at*;go_in;go_wp2_with fail;generalize(w.alloc (Ae #[X va (Z b) vc,O Ai 0,Av false] 257))=wa at*;generalize bl:w.heap.size=tb at*;have aY:=J (bl);clear bl;have au:Y (∀(wu w1:Ag) (s1:T.St) (row:Br Ad),TInv wu tb (X va (Z b) vc) b s1->wu.grownBy w1 row->(∀k,row=V k->wa.heap.size<=k)->TInv w1 tb (X va (Z b) vc) b s1):=fun wu w1 s1 row h1 h2 h3=>I0.o.far h1 h2 h3
 have G0:Y (wa.grownBy wa (V tb)):=zP _ _;refine(uX I0.o).mono ?_;rintro e w1 ⟨rfl,i1,g1⟩;have I1:=J (i1);have G1:=J (zD G0.o g1);clear i1 g1 I0 G0;generalize xD (s0)=o1 at*;go_wp2_with fail;refine(uX I1.o).mono ?_;rintro e w2 ⟨rfl,i2,g2⟩;have I2:=J (i2);have G2:=J (zD G1.o g2);clear i2 g2 I1 G1;generalize xD ((o1.2))=o2 at*;go_wp2_with fail;refine(uX I2.o).mono ?_;rintro e w3 ⟨rfl,i3,g3⟩;have I3:=J (i3);have G3:=J (zD G2.o g3);clear i3 g3 I2 G2;generalize xD ((o2.2))=o3 at*;have HM:Y (∀bb,bb=(decide (o1.1=83) && (decide (o2.1=89) && decide (o3.1=49)))->Am prog 141 #[Al (V ⟨tb,0,S⟩),Av bb] w3 fun e w'=>e=Af (Cm #[])/\TInv w' tb (X va (Z b) vc) b hd/\wa.grownBy w' (V tb)):=fun bb hb=>by
  rw[ba.o,hb];exact(yP I3.o _).mono fun e w' ⟨q1,q2,q3⟩=>⟨q1,q2,zD G3.o q3⟩
 clear ba I3 G3;go_upto_region 5 with fail
 go_cut [] from 5 (fun wx=>Y (TInv wx tb (X va (Z b) vc) b hd)/\Y (wa.grownBy wx (V tb)))
 ·
  go_wp2_with fail
  all_goals
   refine(HM.o _ ?_).mono ?_
   rotate_left 1
   ·rintro e w4 ⟨rfl,i4,g4⟩
    have I4:=J (i4);have G4:=J (g4);clear i4 g4 HM;go_wp2_with fail
    go_meet
    ·exact⟨I4,G4⟩
   ·by_cases q1:o1.1=83 <;> by_cases q2:o2.1=89 <;> simp only[q1,q2,decide_true,decide_false,Bool.true_and,Bool.false_and] <;> first
     | rfl
     | (exfalso;omega)
     | (rw[Eb];simp;omega)
 ·
  obtain⟨I4,G4⟩:=hcut;clear HM;have hN:=rK 4 hd;have HF:=J (kD I4.o 4);generalize zr 4 hd=fw at*;obtain⟨N,s5⟩:=fw;simp only at HF hN aJ;go_wp2_with fail;refine HF.o.mono ?_;rintro e w5 ⟨rfl,i5,g5⟩;have I5:=J (i5);have G5:=J (zD G4.o g5);clear i5 g5 I4 G4 HF;go_wp2_with fail
  go_loopw [8,10] (fun u iv wr=>∃(f:A Fp) (st:T.St) (ai:A (A Aj)),Z f<=N/\iv=O Ai (Z f)/\Y (aj=yj (N - Z f) f st)/\Y (TInv wr tb (X va (Z b) vc) b st)/\Y (wa.grownBy wr (V tb))/\Y (wr.ownsRow wa.heap.size 119 2 u (Z f) ai.flatten)/\Y (All2 (HostVal wr) ai f)) (fun _ iv _=>N - (intOf iv).toNat)
  ·exact⟨[],s5,[],Ax _,rfl,by show _=_;rw[aJ.o];rfl,I5,G5,Bk _ _ _ _,.nil⟩
  ·
   obtain⟨f,st,ai,b9,rfl,HL,IR,GR,HO,HA⟩:=hrel;clear I5 G5 aJ;have cb:=IR.o.bad;obtain⟨ua,uc,rfl⟩:=zL HO.o
   by_cases cc:Z f<N
   ·have bn:(Z f:Ak)<N:=by omega
    cases hbad:st.bad
    ·rw[hbad] at cb
     have al:Y (aj=yj (N - (Z f+1)) (f++[⟨(yB st f).1,(yE (zr 6 (yB st f).2).1 [] (zr 6 (yB st f).2).2).1⟩]) (yE (zr 6 (yB st f).2).1 [] (zr 6 (yB st f).2).2).2):=by show _=_;rw[HL.o,show N - Z f=N - (Z f+1)+1 by omega];exact aA _ _ _ hbad
     have aH:Y (yB st f=((zj st).1,qP (qP (zj st).2 (R.named (zj st).1 false)) (match f.getLast? with | none=>true | some x=>qd x.name (zj st).1))):=rfl;have bN:=j7 st;have CW:Y (wr.grownBy wr (V tb)):=zP _ _;have a0:=J (IR);have a9:Y (∀(wu w':Ag) (s1:T.St) (row:Br Ad),TInv wu tb (X va (Z b) vc) b s1->wu.grownBy w' row->(∀k,row=V k->wr.heap.size<=k)->TInv w' tb (X va (Z b) vc) b s1):=fun wu w' s1 row h1 h2 h3=>IR.o.far h1 h2 h3
     clear HL;generalize yB st f=ha at*;go_wp2_with fail;refine(vB IR.o).mono ?_;rintro e z ⟨rfl,bi,a3⟩;have a1:=J bi;have b3:=a1.o.tlt;have cj:wr.heap.size+0<=z.heap.size:=by have h:=a3.size;simpa using h
     have bv:=J (a3);have a6:=J (zD CW.o bv.o);have cm:=a6.o.size;clear a3 bi;generalize zj st=tx at*;obtain⟨r,s1⟩:=tx;simp only at a1 aH bN;go_wp2_with fail;have bD:Y _:=a1.o.keep (Ac z (Ae #[I (Aa r),X S 0 0] 119) S);have bu:Y (wr.grownBy (Eo z (Ae #[I (Aa r),X S 0 0] 119)) (V tb)):=zD a6.o (Ac z (Ae #[I (Aa r),X S 0 0] 119) _);have bw:Y ((Eo z (Ae #[I (Aa r),X S 0 0] 119)).heap[z.heap.size]?=V (Ae #[I (Aa r),X S 0 0] 119)):=Bn _ _;have ck:z.heap.size+1<=(Eo z (Ae #[I (Aa r),X S 0 0] 119)).heap.size:=by simp
     have cl:(Eo z (Ae #[I (Aa r),X S 0 0] 119)).heap.size<=z.heap.size+1:=by simp
     generalize(Eo z (Ae #[I (Aa r),X S 0 0] 119))=wL2 at*;have hv:=sO (Aa r) false wL2 (by rw[Bz];unfold Bh;omega);rw[Be] at hv;have HV:=J (hv);clear hv;refine HV.o.mono ?_;rintro e wX ⟨rfl,bt⟩;rw[bt];clear bt wX HV;generalize R.named r false=nd at*;go_wp2_with fail;refine(yP bD.o nd).mono ?_;rintro e aG ⟨rfl,bj,bm⟩;have bE:=J bj;have a7:=J (bm);have aO:=J (zD bu.o a7.o);have aQ:=J (zE bw.o a7.o (by simp;omega));clear bm bj;generalize qP s1 nd=s2 at*;have ci:=cbi 0 aQ.o;go_upto_region 14 with fail
     go_cut [] from 61 to 76 (fun wx=>Y (TInv wx tb (X va (Z b) vc) b (ha.2))/\Y (wr.grownBy wx (V tb))/\Y (wx.heap[z.heap.size]?=V (Ae #[I (Aa r),X S 0 0] 119)))
     ·
      have ab:Y (∀bb,bb=(match f.getLast? with | none=>true | some x=>qd x.name r)->Am prog 141 #[Al (V ⟨tb,0,S⟩),Av bb] aG.drew fun e w'=>e=Af (Cm #[])/\TInv w' tb (X va (Z b) vc) b ha.2/\aG.grownBy w' (V tb)):=fun bb hb=>by
       rw[aH.o,<-hb];exact(yP (bE.o.keep (zV _)) bb).mono fun e w' ⟨q1,q2,q3⟩=>⟨q1,q2,zD (zT (zV _) _) q3⟩
      generalize E:Z f=n1 at*
      by_cases ag:n1=0
      ·have HZ:=J (ag)
       have h0:f=[]:=Ep.1 (by omega);have ah:Y (true=(match f.getLast? with | none=>true | some x=>qd x.name r)):=by show _=_;rw[h0];rfl
       clear h0 E ag;refine Va 15 (by kernel_rfl) (by kernel_rfl) ?_;simp only[Fk,Gm,In,Iw]
       iterate 4 still_step
       iterate 10 (refine Se (fun K hK=>?_);go_simp;rw[Az HZ.o];refine hK _ ?_;clear hK K)
       refine Se (fun K hK=>?_)
       go_simp
       rw[Az HZ.o];refine hK _ ?_;clear hK K;refine wpStill_nil ?_;go_wp2_with fail;show Am _ _ _ (Md aG) _;refine(ab.o _ ah.o).mono ?_;rintro e w6 ⟨rfl,i6,g6⟩;have I6:=J (i6);have G6:=J (zD aO.o g6);have B6:=J (zE aQ.o g6 (fun c=>by have:=Bc c;omega));clear i6 g6 ab ah;go_wp2_with fail
       go_meet
       ·exact⟨I6,G6,B6⟩
      ·have bO:0<n1:=by omega
       have HZ:=J (ag);obtain⟨m,F⟩:∃m,Y (n1=m+1):=⟨n1 - 1,by show _=_;omega⟩;have am:m<Z f:=by rw[E,F.o];omega
       have bM:(m:Ak)<n1:=by rw[F.o];omega
       have cd:(n1:Ak) - 1=(m:Ak):=by rw[F.o];omega
       have hw:IntKind.i64.wrap (m:Ak)=(m:Ak):=by rw[IntKind.wrap_i64];omega
       obtain⟨gu,b7,e1,_,_⟩:=Bm HO.o (by omega);simp only[Au,Fb] at e1;obtain⟨rfl,rfl⟩:=e1;have cN:aG.cell? ⟨gu,m*2,S⟩=V (I (Aa f[m].name)):=by
        have bP:=x7 HO.o aO.o (a0.o.safe (l:=htags) (by decide)) (by decide);rw[Ap bP (m*2) (by rw[F.o];omega)];exact io HA.o m am
       have ah:Y (((n1:Ak) == 0 || Op.bytesLess (Aa f[m].name).toList (Aa r).toList)=(match f.getLast? with | none=>true | some x=>qd x.name r)):=by
        show _=_;have e:f.getLast?=V f[m]:=by rw[Vl,E,F.o,Nat.add_sub_cancel,Bd am]
        rw[wk,e,show((n1:Ak) == 0)=false from(by rw[Ch];omega),Qq]
       generalize f[m]=hl' at*;clear E am F ag;refine Va 15 (by kernel_rfl) (by kernel_rfl) ?_;simp only[Fk,Gm,In,Iw]
       iterate 4 still_step
       iterate 10 (refine Se (fun K hK=>?_);go_simp;rw[Aw HZ.o];refine hK _ ?_;clear hK K)
       refine Se (fun K hK=>?_)
       go_simp
       refine hK _ ?_;clear hK K;refine wpStill_nil ?_;go_wp2_with fail;show Am _ _ _ (Md aG) _;refine(ab.o _ ah.o).mono ?_;rintro e w6 ⟨rfl,i6,g6⟩;have I6:=J (i6);have G6:=J (zD aO.o g6);have B6:=J (zE aQ.o g6 (fun c=>by have:=Bc c;omega));clear i6 g6 ab ah;go_wp2_with fail
       go_meet
       ·exact⟨I6,G6,B6⟩
     ·
      obtain⟨I7,G7,B7⟩:=hcut;have bB:=rK 6 ha.2;have aR:=J (kD I7.o 6);have br:ha.1=r:=by rw[aH.o]
      rw[br] at al;clear aH br;generalize zr 6 ha.2=fk at*;obtain⟨Kn,s7⟩:=fk;simp only at aR al bB;generalize bs:yE Kn [] s7=rr at*;have bc:=J (bs.symm);clear bs;go_wp2_with fail;refine aR.o.mono ?_;rintro e w8 ⟨rfl,i8,g8⟩;have I8:=J (i8);have G8:=J (zD G7.o g8);have B8:=J (zE B7.o g8 (fun c=>by have:=Bc c;omega));clear i8 g8 aR I7 G7 B7;generalize wr=wo at*;go_wp2_with fail
      go_loopw [14] (fun iv wz=>∃(p:A R.Rl) (s9:T.St) (vR:Aj) (af:A (A Aj)),Z p<=Kn/\iv=O Ai (Z p)/\Y (rr=yE (Kn - Z p) p s9)/\Y (TInv wz tb (X va (Z b) vc) b s9)/\Y (wo.grownBy wz (V tb))/\Y (wz.heap[z.heap.size]?=V (Ae #[I (Aa r),vR] 119))/\Y (wz.ownsRow wo.heap.size 126 8 vR (Z p) af.flatten)/\Y (All2 (RuleVal wz) af p)) (fun iv _=>Kn - (intOf iv).toNat)
      ·exact⟨[],s7,_,[],Ax _,rfl,bc,I8,G8,B8,Bk _ _ _ _,.nil⟩
      ·
       obtain⟨p,s9,vR,af,b8,rfl,HQ,IZ,GZ,BZ,RZ,AZ⟩:=hrel;clear I8 G8 B8 bc;have cz:=IZ.o.bad;obtain⟨H,Q,rfl⟩:=zL RZ.o;have bJ:=cbi 0 BZ.o;have bK:=cbi 1 BZ.o;have ca:=zO BZ.o
       by_cases bL:Z p<Kn
       ·have bk:(Z p:Ak)<Kn:=by omega
        cases hbd:s9.bad
        ·rw[hbd] at cz
         have aI:Y (rr=yE (Kn - (Z p+1)) (p++[(jE s9).1]) (qP (jE s9).2 (match p.getLast? with | none=>true | some x=>decide (x.number<(jE s9).1.number)))):=by show _=_;rw[HQ.o,show Kn - Z p=Kn - (Z p+1)+1 by omega];exact aB _ _ _ hbd
         have aZ:=J (zg0 IZ.o);clear HQ;generalize jE s9=tr at*;obtain⟨d,bT⟩:=tr;simp only at aZ aI;go_wp2_with fail;refine aZ.o.mono ?_;rintro e wA ⟨cs,rfl,a4,iA,gA⟩;have a5:=IZ.o.safe (l:=rtags) (by decide);obtain⟨vM,vT,vS,vD,rfl,hM,hT,hS,hD⟩:=id a4;obtain⟨m1,m2,rfl⟩:=zL hM;obtain⟨t1,t2,rfl⟩:=zL hT;obtain⟨x1,x2,rfl⟩:=zL hS;obtain⟨d1,d2,rfl⟩:=zL hD;have bd:=J (a4);have IA:=J (iA);have GA:=J (zD GZ.o gA);have BA:=J (zE BZ.o gA (fun c=>by have:=Bc c;omega));have RA:=J (x7 RZ.o gA a5 (by decide));have AA:=J (AZ.o.map fun a b hab=>hab.keep gA (jW a5));have zA:=gA.size;clear a4 iA gA a5 hM hT hS hD aZ IZ GZ BZ RZ AZ cz bJ bK;have gU:wA.grownBy (wA.alloc (Ae #[O Ai d.number,I (Aa d.path),X m1 (Z d.ms) m2,X t1 (Z d.tg) t2,Av d.change,I (Aa d.to),X x1 (Z d.sets) x2,X d1 (Z d.drops) d2] 126)) S:=Ac _ _ S;have IU:=J (IA.o.keep gU);have GU:Y (wo.grownBy (wA.alloc (Ae #[O Ai d.number,I (Aa d.path),X m1 (Z d.ms) m2,X t1 (Z d.tg) t2,Av d.change,I (Aa d.to),X x1 (Z d.sets) x2,X d1 (Z d.drops) d2] 126)) (V tb)):=zD GA.o (zT gU _);have BU:=J (zE BA.o gU (by simp));have UU:Y ((wA.alloc (Ae #[O Ai d.number,I (Aa d.path),X m1 (Z d.ms) m2,X t1 (Z d.tg) t2,Av d.change,I (Aa d.to),X x1 (Z d.sets) x2,X d1 (Z d.drops) d2] 126)).heap[wA.heap.size]?=V (Ae #[O Ai d.number,I (Aa d.path),X m1 (Z d.ms) m2,X t1 (Z d.tg) t2,Av d.change,I (Aa d.to),X x1 (Z d.sets) x2,X d1 (Z d.drops) d2] 126)):=Bn _ _;have RU:Y ((wA.alloc (Ae #[O Ai d.number,I (Aa d.path),X m1 (Z d.ms) m2,X t1 (Z d.tg) t2,Av d.change,I (Aa d.to),X x1 (Z d.sets) x2,X d1 (Z d.drops) d2] 126)).ownsRow wo.heap.size 126 8 (X H (Z p) Q) (Z p) af.flatten):=Ao RA.o _;have AU:Y (All2 (RuleVal (wA.alloc (Ae #[O Ai d.number,I (Aa d.path),X m1 (Z d.ms) m2,X t1 (Z d.tg) t2,Av d.change,I (Aa d.to),X x1 (Z d.sets) x2,X d1 (Z d.drops) d2] 126))) af p):=AA.o.map fun a b hab=>hab.keep gU (za _ _)
         have VU:Y (RuleVal (wA.alloc (Ae #[O Ai d.number,I (Aa d.path),X m1 (Z d.ms) m2,X t1 (Z d.tg) t2,Av d.change,I (Aa d.to),X x1 (Z d.sets) x2,X d1 (Z d.drops) d2] 126)) [O Ai d.number,I (Aa d.path),X m1 (Z d.ms) m2,X t1 (Z d.tg) t2,Av d.change,I (Aa d.to),X x1 (Z d.sets) x2,X d1 (Z d.drops) d2] d):=bd.o.keep gU (za _ _);have bF:Y (∀k,(X H (Z p) Q).ownBlock=V k->k<wA.heap.size):=fun k hk=>(An RA.o k hk).2
         clear gU IA GA BA RA AA bd;go_upto_region 20 with fail;generalize wA.alloc (Ae #[O Ai d.number,I (Aa d.path),X m1 (Z d.ms) m2,X t1 (Z d.tg) t2,Av d.change,I (Aa d.to),X x1 (Z d.sets) x2,X d1 (Z d.drops) d2] 126)=wU at*;obtain⟨an,aK⟩:∃an,Y (an=qP bT (match p.getLast? with | none=>true | some x=>decide (x.number<d.number))):=⟨_,rfl⟩;rw[<-aK.o] at aI
         go_cut [] from 93 to 108 (fun wx=>Y (TInv wx tb (X va (Z b) vc) b an)/\Y (wU.grownBy wx (V tb)))
         ·
          have ab:Y (∀bb,bb=(match p.getLast? with | none=>true | some x=>decide (x.number<d.number))->Am prog 141 #[Al (V ⟨tb,0,S⟩),Av bb] wU.drew fun e w'=>e=Af (Cm #[])/\TInv w' tb (X va (Z b) vc) b an/\wU.grownBy w' (V tb)):=fun bb hb=>by
           rw[aK.o,<-hb];exact(yP (IU.o.keep (zV _)) bb).mono fun e w' ⟨q1,q2,q3⟩=>⟨q1,q2,zD (zT (zV _) _) q3⟩
          have cH:=cbi 1 BU.o;have cU:=cbi 0 UU.o;have cf:Z p<=6:=by omega
          clear aI al aK bk bL;generalize E:Z p=n2 at*
          by_cases ag:n2=0
          ·have HZ:=J (ag)
           have h0:p=[]:=Ep.1 (by omega);have ah:Y (true=(match p.getLast? with | none=>true | some x=>decide (x.number<d.number))):=by show _=_;rw[h0];rfl
           clear h0 E ag;refine Va 15 (by kernel_rfl) (by kernel_rfl) ?_;simp only[Fk,Gm,In,Iw]
           iterate 4 still_step
           iterate 10 (refine Se (fun K hK=>?_);go_simp;rw[Az HZ.o];refine hK _ ?_;clear hK K)
           refine Se (fun K hK=>?_)
           go_simp
           rw[Az HZ.o];refine hK _ ?_;clear hK K;refine wpStill_nil ?_;go_wp2_with fail;show Am _ _ _ (Md wU) _;refine(ab.o _ ah.o).mono ?_;rintro e w6 ⟨rfl,i6,g6⟩;have I6:=J (i6);have G6:=J (g6);clear i6 g6 ab ah;go_wp2_with fail
           go_meet
           ·exact⟨I6,G6⟩
          ·have HZ:=J (ag)
           obtain⟨m,F⟩:∃m,Y (n2=m+1):=⟨n2 - 1,by show _=_;omega⟩;have am:m<Z p:=by rw[E,F.o];omega
           have bM:(m:Ak)<n2:=by rw[F.o];omega
           have ce:(n2:Ak) - 1=(m:Ak):=by rw[F.o];omega
           have hw:IntKind.i64.wrap (m:Ak)=(m:Ak):=by rw[IntKind.wrap_i64];omega
           obtain⟨gr,b6,e1,_,_⟩:=Bm RU.o (by omega);simp only[Au,Fb] at e1;obtain⟨rfl,rfl⟩:=e1;have cN:wU.cell? ⟨gr,m*8,S⟩=V (O Ai p[m].number):=by
            rw[Ap RU.o (m*8) (by rw[F.o];omega)];obtain⟨cs,h1,h2⟩:=fs AU.o m am;obtain⟨q1,q2,q3,q4,rfl,_⟩:=h1;exact h2 0 (by omega)
           have bx:Y (p.getLast?=V p[m]):=by show _=_;rw[Vl,E,F.o,Nat.add_sub_cancel,Bd am]
           generalize p[m]=rl' at*;clear E am F;have bO:0<n2:=by omega
           clear ag;refine Va 15 (by kernel_rfl) (by kernel_rfl) ?_;simp only[Fk,Gm,In,Iw]
           iterate 4 still_step
           iterate 10 (refine Se (fun K hK=>?_);go_simp;rw[Aw HZ.o];refine hK _ ?_;clear hK K)
           refine Se (fun K hK=>?_)
           go_simp
           refine hK _ ?_;clear hK K;refine wpStill_nil ?_;go_wp2_with fail;show Am _ _ _ (Md wU) _;refine(ab.o _ (by rw[bx.o];show _=decide (rl'.number<d.number);rw[show((n2:Ak) == 0)=false from(by rw[Ch];omega),Qq])).mono ?_;rintro e w6 ⟨rfl,i6,g6⟩;have I6:=J (i6);have G6:=J (g6);clear i6 g6 ab;go_wp2_with fail
           go_meet
           ·exact⟨I6,G6⟩
         ·
          obtain⟨IX,GX⟩:=hcut;have aN:=IU.o.safe (l:=rtags) (by decide);have BC:=J (zE BU.o GX.o (fun c=>by have:=Bc c;omega));have UC:=J (zE UU.o GX.o (fun c=>by have:=Bc c;omega));have RC:=J (x7 RU.o GX.o aN (by decide));have AC:=J (AU.o.map fun a b hab=>hab.keep GX.o (jW aN));have VC:=J (VU.o.keep GX.o (jW aN));have GC:=J (zD GU.o GX.o);have zC:=GC.o.size;have bI:=cbi 1 BC.o;have bU:=cbi 0 UC.o;have bV:=cbi 1 UC.o;have bW:=cbi 2 UC.o;have bX:=cbi 3 UC.o;have bY:=cbi 4 UC.o;have bZ:=cbi 5 UC.o;have b0:=cbi 6 UC.o;have b1:=cbi 7 UC.o;clear aN GX IU GU BU UU RU AU VU bF aK;go_wp2_with (at_builtin;refine Cu _ rfl _ _ 117 rfl wo.heap.size 126 i0 _ 8 144 underlying117 hi bQ bR bS rfl (by decide) _ _ _ rfl (Ao RC.o _) ⟨wc.heap.size,0,S⟩ 1 1 [O Ai d.number,I (Aa d.path),X m1 (Z d.ms) m2,X t1 (Z d.tg) t2,Av d.change,I (Aa d.to),X x1 (Z d.sets) x2,X d1 (Z d.drops) d2] rfl rfl ?c1 ?c2 ?c3 ?c4 ?c5 ?_)
          ·exact zZ _ #[_,_,_,_,_,_,_,_] _ _ (by simp)
          ·intro u hu;simp only[En,Ge,Mn] at hu;rcases hu with rfl | rfl | rfl | rfl | rfl | rfl | rfl | rfl <;> rfl
          ·unfold Bh;omega
          ·omega
          ·simp;omega
          intro v9 w9 t i _;obtain⟨aE,aF,rfl⟩:=zL t;have gO:wc.grownBy (wc.alloc (Ae #[O Ai d.number,I (Aa d.path),X m1 (Z d.ms) m2,X t1 (Z d.tg) t2,Av d.change,I (Aa d.to),X x1 (Z d.sets) x2,X d1 (Z d.drops) d2] 126)) S:=Ac _ _ S;have s:Safe (wc.alloc (Ae #[O Ai d.number,I (Aa d.path),X m1 (Z d.ms) m2,X t1 (Z d.tg) t2,Av d.change,I (Aa d.to),X x1 (Z d.sets) x2,X d1 (Z d.drops) d2] 126)) (X H (Z p) Q).ownBlock leaves:=xk (Ao RC.o _) (by decide);have B:∀k,(X H (Z p) Q).ownBlock=V k->wo.heap.size<=k:=fun k hk=>(An RC.o k hk).1
          have I9:Y (TInv w9 tb (X va (Z b) vc) b an):=a9.o _ _ _ _ (IX.o.keep gO) i B;have G9:Y (wo.grownBy w9 (V tb)):=qI (zD GC.o (zT gO _)) i B;have B9:Y (w9.heap[z.heap.size]?=V (Ae #[I (Aa r),X H (Z p) Q] 119)):=zw (zE BC.o gO (by simp)) i (zI (zE BC.o gO (by simp)) (Ao RC.o _) (by decide));have O9:Y (w9.ownsRow wo.heap.size 126 8 (X aE (Z p+1) aF) (Z (p++[d])) (af++([[O Ai d.number,I (Aa d.path),X m1 (Z d.ms) m2,X t1 (Z d.tg) t2,Av d.change,I (Aa d.to),X x1 (Z d.sets) x2,X d1 (Z d.drops) d2]]:A (A Aj))).flatten):=by rw[Ah,Eg];exact t
          have A9:Y (All2 (RuleVal w9) (af++([[O Ai d.number,I (Aa d.path),X m1 (Z d.ms) m2,X t1 (Z d.tg) t2,Av d.change,I (Aa d.to),X x1 (Z d.sets) x2,X d1 (Z d.drops) d2]]:A (A Aj))) (p++[d])):=(AC.o.snoc VC.o).map fun a b hab=>(hab.keep gO (za _ _)).keep i s
          have q9:=cbi 1 B9.o;have ch:=zm9 1 B9.o;clear t i gO s B IX BC UC RC AC VC GC bI bU bV bW bX bY bZ b0 b1;have gS:=zF w9 (z.heap.size) 1 (X aE (Z p+1) aF);have IS:Y (TInv (w9.setCell ⟨z.heap.size,1,S⟩ (X aE (Z p+1) aF)) tb (X va (Z b) vc) b an):=a9.o _ _ _ _ I9.o gS (fun k hk=>by have:=Bc hk;omega);have GS:=J (ze G9.o gS (by omega));have BS:Y ((w9.setCell ⟨z.heap.size,1,S⟩ (X aE (Z p+1) aF)).heap[z.heap.size]?=V (Ae #[I (Aa r),X aE (Z p+1) aF] 119)):=zH B9.o _;have OS:Y _:=zJ O9.o gS (zI B9.o O9.o (by decide));have AS:=J (A9.o.map fun a b hab=>hab.keep gS (xQ B9.o (by decide)));clear gS I9 G9 B9 O9 A9;go_wp2_with fail
          go_roundw
          ·exact⟨p++[d],an,_,_,by simp;omega,by simp,by rw[Ah];exact aI,IS,GS,BS,OS,AS⟩
          ·simp[intOf];omega
        ·rw[hbd] at cz
         have aa:Y (rr=(p,s9)):=by show _=_;rw[HQ.o,show Kn - Z p=Kn - (Z p+1)+1 by omega,yE,hbd];rfl
         clear HQ;have aU:Y (aj=yj (N - (Z f+1)) (f++[⟨r,p⟩]) s9):=by show _=_;rw[al.o,aa.o]
         clear al aa;have ao:=a0.o.safe (l:=htags) (by decide);have ad:=J (x7 HO.o GZ.o ao (by decide));have ar:=J (HA.o.map fun a b hab=>hab.keep GZ.o (jW ao));have av:Y (HostVal wr [I (Aa r),X H (Z p) Q] ⟨r,p⟩):=⟨_,rfl,RulesRowB.zero ⟨af,RZ.o,AZ.o⟩⟩;have ak:=J (zD GR.o GZ.o);have b2:=ak.o.size;clear ao HO HA GR RZ AZ;have ax:Y (∀j u,([I (Aa r),X H (Z p) Q]:A Aj)[j]?=V u->(wr.alloc (Ae #[I (Aa r),X H (Z p) Q] 119)).cell? ((⟨wr.heap.size,0,S⟩:Eu).add j)=V u):=zZ wr #[_,_] _ _ rfl;have ay:Y (∀u∈([I (Aa r),X H (Z p) Q]:A Aj),u.oneCell'=true):=by intro u hu;simp only[En,Ge,Mn] at hu;rcases hu with rfl | rfl <;> rfl
         have az:Y (Z f+1<=Bh):=by show _<=_;unfold Bh;omega
         have aC:Y ((Z f+1)*40<=140737488355328):=by show _<=_;omega
         have aD:Y (wa.heap.size<=(wr.alloc (Ae #[I (Aa r),X H (Z p) Q] 119)).heap.size):=by show _<=_;simp;omega
         go_upto_region 22 with fail;go_wp2_with (at_builtin;refine Cu _ rfl _ _ 67 rfl wa.heap.size 119 i1 _ 2 40 underlying67 hj bo bp bq rfl (by decide) _ _ _ rfl (Ao ad.o _) ⟨wr.heap.size,0,S⟩ 1 1 [I (Aa r),X H (Z p) Q] rfl rfl ax.o ay.o az.o aC.o aD.o ?_);intro v9 w9 t i _;have gO:wr.grownBy (wr.alloc (Ae #[I (Aa r),X H (Z p) Q] 119)) S:=Ac _ _ S;have s:Safe (wr.alloc (Ae #[I (Aa r),X H (Z p) Q] 119)) (X ua (Z f) uc).ownBlock rtags:=xk (Ao ad.o _) (by decide);have B:∀k,(X ua (Z f) uc).ownBlock=V k->wa.heap.size<=k:=fun k hk=>(An ad.o k hk).1
         have I9:Y (TInv w9 tb (X va (Z b) vc) b s9):=au.o _ _ _ _ (IZ.o.keep gO) i B;have G9:Y (wa.grownBy w9 (V tb)):=qI (zD ak.o (zT gO _)) i B;have O9:Y (w9.ownsRow wa.heap.size 119 2 v9 (Z (f++[(⟨r,p⟩:Fp)])) (ai++([[I (Aa r),X H (Z p) Q]]:A (A Aj))).flatten):=by rw[Ah,Eg];exact t
         have A9:Y (All2 (HostVal w9) (ai++([[I (Aa r),X H (Z p) Q]]:A (A Aj))) (f++[(⟨r,p⟩:Fp)])):=(ar.o.snoc av.o).map fun a b hab=>(hab.keep gO (za _ _)).keep i s
         clear t i gO s B IZ ad ar av ak GZ BZ ax ay az aC aD;go_wp2_with fail
         go_roundw
         ·exact⟨f++[⟨r,p⟩],s9,_,by simp;omega,by simp,by rw[Ah];exact aU,I9,G9,O9,A9⟩
         ·simp[intOf];omega
       ·have bk:¬(Z p:Ak)<Kn:=by omega
        have aa:Y (rr=(p,s9)):=by show _=_;rw[HQ.o,show Kn - Z p=0 by omega];rfl
        clear HQ;have aU:Y (aj=yj (N - (Z f+1)) (f++[⟨r,p⟩]) s9):=by show _=_;rw[al.o,aa.o]
        clear al aa;have ao:=a0.o.safe (l:=htags) (by decide);have ad:=J (x7 HO.o GZ.o ao (by decide));have ar:=J (HA.o.map fun a b hab=>hab.keep GZ.o (jW ao));have av:Y (HostVal wr [I (Aa r),X H (Z p) Q] ⟨r,p⟩):=⟨_,rfl,RulesRowB.zero ⟨af,RZ.o,AZ.o⟩⟩;have ak:=J (zD GR.o GZ.o);have b2:=ak.o.size;clear ao HO HA GR RZ AZ;have ax:Y (∀j u,([I (Aa r),X H (Z p) Q]:A Aj)[j]?=V u->(wr.alloc (Ae #[I (Aa r),X H (Z p) Q] 119)).cell? ((⟨wr.heap.size,0,S⟩:Eu).add j)=V u):=zZ wr #[_,_] _ _ rfl;have ay:Y (∀u∈([I (Aa r),X H (Z p) Q]:A Aj),u.oneCell'=true):=by intro u hu;simp only[En,Ge,Mn] at hu;rcases hu with rfl | rfl <;> rfl
        have az:Y (Z f+1<=Bh):=by show _<=_;unfold Bh;omega
        have aC:Y ((Z f+1)*40<=140737488355328):=by show _<=_;omega
        have aD:Y (wa.heap.size<=(wr.alloc (Ae #[I (Aa r),X H (Z p) Q] 119)).heap.size):=by show _<=_;simp;omega
        go_upto_region 22 with fail;go_wp2_with (at_builtin;refine Cu _ rfl _ _ 67 rfl wa.heap.size 119 i1 _ 2 40 underlying67 hj bo bp bq rfl (by decide) _ _ _ rfl (Ao ad.o _) ⟨wr.heap.size,0,S⟩ 1 1 [I (Aa r),X H (Z p) Q] rfl rfl ax.o ay.o az.o aC.o aD.o ?_);intro v9 w9 t i _;have gO:wr.grownBy (wr.alloc (Ae #[I (Aa r),X H (Z p) Q] 119)) S:=Ac _ _ S;have s:Safe (wr.alloc (Ae #[I (Aa r),X H (Z p) Q] 119)) (X ua (Z f) uc).ownBlock rtags:=xk (Ao ad.o _) (by decide);have B:∀k,(X ua (Z f) uc).ownBlock=V k->wa.heap.size<=k:=fun k hk=>(An ad.o k hk).1
        have I9:Y (TInv w9 tb (X va (Z b) vc) b s9):=au.o _ _ _ _ (IZ.o.keep gO) i B;have G9:Y (wa.grownBy w9 (V tb)):=qI (zD ak.o (zT gO _)) i B;have O9:Y (w9.ownsRow wa.heap.size 119 2 v9 (Z (f++[(⟨r,p⟩:Fp)])) (ai++([[I (Aa r),X H (Z p) Q]]:A (A Aj))).flatten):=by rw[Ah,Eg];exact t
        have A9:Y (All2 (HostVal w9) (ai++([[I (Aa r),X H (Z p) Q]]:A (A Aj))) (f++[(⟨r,p⟩:Fp)])):=(ar.o.snoc av.o).map fun a b hab=>(hab.keep gO (za _ _)).keep i s
        clear t i gO s B IZ ad ar av ak GZ BZ ax ay az aC aD;go_wp2_with fail
        go_roundw
        ·exact⟨f++[⟨r,p⟩],s9,_,by simp;omega,by simp,by rw[Ah];exact aU,I9,G9,O9,A9⟩
        ·simp[intOf];omega
    ·rw[hbad] at cb
     have aa:Y (aj=(f,st)):=by show _=_;rw[HL.o,show N - Z f=N - (Z f+1)+1 by omega,yj,hbad];rfl
     have ae:Y (tL b=(f,st)):=by show _=_;rw[<-aw.o];exact aa.o
     clear HL aw aa;have aq:=hbad
     by_cases bH:False
     ·exact bH.elim
     ·have aV:Y (∀C,VHs C->x4 C≠b):=fun C h1 h2=>by
       have h3:=(mV C h1).2;rw[h2,ae.o] at h3;rw[aq] at h3;cases h3
      have ap:Y (w.grownBy wr S):=ze aS.o GR.o (by rw[aY.o];exact Aq _);clear HO HA ae GR IR au;go_wp2
      go_ret2
      exact⟨ap.o,Bf ⟨aV.o,_,rfl⟩⟩
   ·have bn:¬(Z f:Ak)<N:=by omega
    have aa:Y (aj=(f,st)):=by show _=_;rw[HL.o,show N - Z f=0 by omega];rfl
    have ae:Y (tL b=(f,st)):=by show _=_;rw[<-aw.o];exact aa.o
    clear HL aw aa
    cases aq:st.bad
    ·rw[aq] at cb
     obtain⟨C,aM,a2⟩:=zgQ (b:=b) (by rw[ae.o];exact aq);have bC:=J (aM);have bG:f=C.map toR:=by rw[ae.o] at a2;exact a2
     subst bG;simp only[Bv] at bn;have aT:Y (HostsRow wr 0 (X ua (Z C) uc) (C.map toR)):=by
      have h:=HO.o;rw[Bv] at h;exact⟨ai,by rw[Bv];exact zo h (Ax _),HA.o⟩
     have aX:Y (Am prog 92 #[X ua (Z C) uc] wr (Gives wr (x4 C))):=by
      have h:=na _ (C.map toR) aT.o (by rw[Bv];have:=aM.hl;omega) (fun x hx=>by obtain⟨y,hy,rfl⟩:=Hr.1 hx;exact zgY (aM.hosts y hy));rw[be] at h;exact h
     have HU:Y (∀q,VHs q->x4 q=b->q=C):=fun q h1 h2=>by
      have h3:=(mV q h1).1;rw[h2,ae.o] at h3;exact zlB h3.symm
     have ap:Y (w.grownBy wr S):=ze aS.o GR.o (by rw[aY.o];exact Aq _);have bf:=J (IR.o.rd);clear aM a2 HO HA ae GR IR au;obtain⟨pk,aW⟩:∃pk,Y (pk=x4 C):=⟨_,rfl⟩;rw[<-aW.o] at aX;go_wp2_with fail;refine aX.o.mono ?_;rintro e wP ⟨aP,kP,rfl,hP,gP⟩;have bh:=J (RdO.of_row hP);have bg:Y (RdO wP (X va (Z b) vc) b):=bf.o.keep gP (fun g o n c e c2=>by cases c2);have GP:=J (zD ap.o gP);have bA:Y (HostsRow wP 0 (X ua (Z C) uc) (C.map toR)):=aT.o.keep gP (za _ _);have b4:(Oh 32 9 (X aP (Z pk) kP)).run prog wP.drew = .ok (I (Aa pk)) wP.drew:=j8 (bh.o.keep (zV _) (fun g o n c e c2=>by cases c2));have b5:(Oh 32 9 (X va (Z b) vc)).run prog wP.drew = .ok (I (Aa b)) wP.drew:=j8 (bg.o.keep (zV _) (fun g o n c e c2=>by cases c2));clear hP gP aX bh bg bf ap aT;go_wp2
     go_region
     all_goals
      go_wp2
      go_ret2
      have GD:w.grownBy wP.drew S:=zD GP.o (zV _);have bz:HostsRow wP.drew 0 (X ua (Z C) uc) (C.map toR):=bA.o.keep (zV _) (za _ _);have a8:((Aa pk).toList == (Aa b).toList)=decide (pk=b):=by
       rw[El,El,Be,Be,Eb];simp
      refine⟨GD,?_⟩
      by_cases aL:pk=b
      ·refine Ay ⟨C,X ua (Z C) uc,bC.o,aW.o.symm.trans aL,?_,bz⟩
       show Af (Cm #[X ua (Z C) uc,Av ((Aa pk).toList == (Aa b).toList)])=_;rw[a8];simp[aL]
      ·refine Bf ⟨fun q h1 h2=>aL (by rw[aW.o,<-HU.o q h1 h2];exact h2),X ua (Z C) uc,?_⟩
       show Af (Cm #[X ua (Z C) uc,Av ((Aa pk).toList == (Aa b).toList)])=_;rw[a8];simp[aL]
    ·rw[aq] at cb
     have aV:Y (∀C,VHs C->x4 C≠b):=fun C h1 h2=>by
      have h3:=(mV C h1).2;rw[h2,ae.o] at h3;rw[aq] at h3;cases h3
     have ap:Y (w.grownBy wr S):=ze aS.o GR.o (by rw[aY.o];exact Aq _);clear HO HA ae GR IR au;go_wp2
     go_ret2
     exact⟨ap.o,Bf ⟨aV.o,_,rfl⟩⟩
theorem zdC (lt:α->α->Bool)(a:∀x,lt x x=false)(c:∀x y z,lt x y=true->lt y z=true->lt x z=true)(b:∀x y z,lt x y=false->lt y z=false->lt x z=false)(l:A α) :
  ∃p:A α,p.Perm l/\p.Pairwise (fun x y=>lt y x=false):=by
 refine⟨l.mergeSort (fun x y=>!lt y x),List.mergeSort_perm _ _,?_⟩
 grind[List.mergeSort_perm,List.pairwise_mergeSort,Bool.not_eq_true']
theorem zcC (b:A P.Hst):∃hs',SrtH b hs':=by
 obtain⟨p,c,d⟩:=zdC (fun x y:P.Hst=>Go.Sort.ltStr x.name y.name) (fun x=>Hk.irrefl _) (fun x y z=>Hk.trans _ _ _) (fun x y z=>Hk.ntrans _ _ _) b;have a:∀rs:A P.Rl,∃q:A P.Rl,q.Perm rs/\q.Pairwise (fun x y=>Mw y.number x.number=false):=fun rs=>
  zdC (fun x y:P.Rl=>Mw x.number y.number) (fun x=>Nl.irrefl _) (fun x y z=>Nl.trans _ _ _) (fun x y z=>Nl.ntrans _ _ _) rs
 refine⟨p.map fun h=>⟨h.name,(a h.rules).choose⟩,p,c,d,by simp,fun j a1 a2=>?_⟩;rw[Ha];exact⟨rfl,(a p[j].rules).choose_spec.1,(a p[j].rules).choose_spec.2⟩
theorem zdB (h:(xg l).1=0):∃b,VHs b/\qx (Gw l).1=b.map toR/\yz l=x4 b:=by
 have c:(xA l).1=0:=by rw[vg];exact h
 obtain⟨m,d,f⟩:=m8 c;obtain⟨g,e⟩:=co l m d f;rw[e] at g;obtain⟨b,a⟩:=zcC (zp l).1;obtain⟨i,j,k⟩:=mB l d f;exact⟨b,dt a i j k,by rw[e];exact(zcB a g).symm,(zd4 c a).1⟩
def L.st (l:A Ab)(i:Ad):A Aj:=Ba l++(Hs i (O Bp 77)++Hs (8-i) (O Bp 0))
theorem ziX (l:A Ab)(i:Ad)(h:i<=8):Z (L.st l i)=Z l+8:=by grind[L.st,List.length_append,xU]
theorem zl6 (l:A Ab)(b_0 b:A Aj)(a:b_0=Ba l)(d:b=(Sz #[O Bp 0] (Z l+8)).toList):splice b 0 b_0=L.st l 0:=by
 have c:Z b_0=Z l:=by rw[a,xU]
 unfold splice L.st;rw[Gm,Hc,d,lF,List.drop_replicate,Gr,c,a];simp
theorem zlZ (l:A Ab)(i:Ad)(h:i<8):(L.st l i).set (Z l+i) (O Bp 77)=L.st l (i+1):=by
 unfold L.st;rw[Mg _ _ (by rw[xU];omega),xU,Ow,Mg _ _ (by simp),Hx,Gp,show 8-i=(8-(i+1))+1 by omega,List.replicate_succ,Vp,List.replicate_succ'];simp
abbrev Gq6 (a):=Ae (L.st a 8).toArray 5 (0,0)
theorem rh {H:Br Eu}{q:Ad}(hr:RdO w (X H (Z l) q) l)(hl:Z l<=1000000000000)(B:H=S->l=[]):Am prog 94 #[X H (Z l) q] w fun e w'=>∃g vin,e=Af (Cm #[X (V ⟨g,0,S⟩) (Z l+8) (Z l+8),vin])/\w.heap.size<=g/\w'.heap[g]?=V (Gq6 l)/\w.grownBy w' S/\RdO w' vin l/\∀k,vin.ownBlock=V k->k=g:=by
 obtain⟨i0,hi,al,E,am⟩:=Ej jD;have aa:=J (hr);have ak:(prog.info? 5).map (·.size)=V 1:=by rw[hi];simp[E]
 obtain⟨F,f⟩:∃F,Y (F=(Sz #[O Bp 0] (Z l+8)).toList):=⟨_,rfl⟩;have aj:Z F=Z l+8:=by rw[f.o];simp[Sz]
 obtain⟨b_0,r⟩:∃b_0,Y (b_0=Ba l):=⟨_,rfl⟩;have y:Y (Z b_0=Nat.min (Z l) (Z l+8)):=by show _=_;rw[r.o,xU];exact(Vj (by omega)).symm
 have ae:Z b_0=Z l:=by rw[r.o,xU]
 go_in;go_wp2_with (at_make;refine wpList_make_full _ rfl _ _ 32 rfl w.heap.size 5 i0 (O Bp 0) 1 underlying32 hi al E _ _ _ _ (Z l+8) rfl rfl rfl rfl ?b2 ?b3 (Aq _) ?_)
 ·rw[am];omega
 ·unfold Bh;omega
 intro w1 c a;have n:=J (a);have s:=J (nF c f.o);go_wp2_with (refine wpList_copy_splice rfl _ _ 32 32 rfl 5 underlying32 ak _ _ (Z l+8) (Z l+8) (Z l) q rfl rfl w.heap.size 0 F 5 s.o b_0 y.o ?hpos ?hfit ?h1 w.heap.size w (qh n.o) (Aq _) ?_)
 ·
  intro hp;rcases aa.o with ⟨_,_,_,h2⟩|⟨g,o,c',e1,_,_,h3⟩
  ·rw[h2] at hp;simp at hp
  ·simp only[Au] at e1
   obtain⟨rfl,_,_⟩:=e1;refine⟨_,rfl,fun j u hu=>?_⟩;rw[r.o] at hu;unfold Ba at hu;rw[Fq,Oz] at hu;obtain⟨x,hx,rfl⟩:=hu;rw[bV];exact(n.o.cell (h3 j x hx) (by simp))
 ·omega
 ·rw[r.o];exact vo _
 intro w2 z m;have t:Y (w2.heap[w.heap.size]?=V (Ae (L.st l 0).toArray 5 (0,0))):=by rw[<-zl6 l b_0 F r.o f.o];exact z
 have v:=J (zt m);go_wp2_with fail
 go_loopw [5] (fun iv wr=>∃j:Ad,j<=8/\iv=O Ai (Z l+j:Ad)/\Y (wr.heap[w.heap.size]?=V (Ae (L.st l j).toArray 5 (0,0)))/\Y (w.grownBy wr S)) (fun iv _=>Z l+8-(intOf iv).toNat)
 ·exact⟨0,by omega,rfl,t,v⟩
 ·
  obtain⟨j,hj,rfl,b,d⟩:=hrel;have ah:=ziX l j hj
  by_cases ai:j<8
  ·have ao:((Z l+j:Ad):Ak)<((Z l+8:Ad):Ak):=by omega
   have ap:(Z l:Ak)+j<Z l+8:=by omega
   obtain⟨u0,C⟩:∃u0,(L.st l j)[Z l+j]?=V u0:=⟨_,Bd (by omega)⟩;have cj:wr.cell? ⟨w.heap.size,Z l+j,S⟩=V u0:=by rw[zB b.o];simpa using C
   have fj:wr.frozen? ⟨w.heap.size,Z l+j,S⟩=false:=zG b.o;have N:Y ((wr.setCell ⟨w.heap.size,Z l+j,S⟩ (O Bp 77)).heap[w.heap.size]?=V (Ae (L.st l (j+1)).toArray 5 (0,0))):=by
    have h:=zH b.o (i:=Z l+j) (O Bp 77);show _=_;rw[<-zlZ l j ai]
    simpa using h
   have Q:Y (w.grownBy (wr.setCell ⟨w.heap.size,Z l+j,S⟩ (O Bp 77)) S):=ze d.o (zF _ _ _ _) (Aq _);go_wp2_with fail
   go_roundw
   ·exact⟨j+1,by omega,by go_num,N,Q⟩
   ·simp[intOf];omega
  ·have af:j=8:=by omega
   subst af;have ab:Y (∀W:Ag,W.heap[w.heap.size]?=V (Gq6 l)->∀j u,l[j]?=V u->W.cell? ⟨w.heap.size,0+j,S⟩=V (O Bp u.toNat)):=fun W hW j u hu=>by
    have ag:j<Z l:=(Bo.1 hu).1;rw[zB hW,Gr];have:(L.st l 8)[j]?=V (O Bp u.toNat):=by
     unfold L.st;rw[Cx (by rw[xU];exact ag)];unfold Ba;rw[Fq,hu];rfl
    simpa using this
   cases H with
   |none=>
    obtain rfl:=B rfl;have hq:∀W,(binOp .eql 32 (X S 0 q) (X S 0 0)).run prog W = .ok (Av true) W:=fun W=>Lib.run_eql_slice_nil W _ _ S 0 q 0 0 underlying32
    go_wp2
    go_ret2
    exact⟨w.heap.size,X S 0 0,rfl,Aq _,b.o,d.o,Ay ⟨S,0,rfl,rfl⟩,fun k e=>by cases e⟩
   |some ad=>
    have an:Z l<=Z l+8:=by omega
    have hq:∀W,(binOp .eql 32 (X (V ad) (Z l) q) (X S 0 0)).run prog W = .ok (Av false) W:=fun W=>Lib.run_eql_slice_nil W _ _ (V ad) (Z l) q 0 0 underlying32
    go_wp2
    go_region
    all_goals
     go_wp2
     go_ret2
     have p:=zE b.o (zV wr) (by simp);exact⟨w.heap.size,X (V ⟨w.heap.size,0,S⟩) (Z l) (Z l+8),rfl,Aq _,p,zD d.o (zV _),Bf ⟨w.heap.size,0,Z l+8,rfl,by omega,zO p,ab.o _ p⟩,fun k e=>(Bc e).symm⟩
def L.cl (l:A Ab)(i:Ad):A Aj:=Hs i (O Bp 99)++(L.st l 8).drop i
theorem zm5 (l:A Ab)(i:Ad):(L.cl l i)[i]?=(L.st l 8)[i]?:=by grind[L.cl,L.st]
theorem zlL (l:A Ab)(i:Ad)(h:i<Z l+8):(L.cl l i).set i (O Bp 99)=L.cl l (i+1):=by
 unfold L.cl;rw[Mg _ _ (by simp),Hx,Gp,Ed (i:=i) (by rw[ziX l 8 (by omega)];exact h),Vp,List.replicate_succ'];simp
theorem zlY (l:A Ab)(i:Ad)(h:i<Z l):(L.st l 8)[i]?=V (O Bp l[i].toNat):=by
 unfold L.st;rw[Cx (by rw[xU];exact h)];unfold Ba;rw[Fq,Bd h];rfl
theorem zl5 (l:A Ab)(i:Ad)(a:Z l<=i)(b:i<Z l+8):(L.st l 8)[i]?=V (O Bp 77):=by grind[L.st,List.getElem?_append_right,xU,List.getElem?_append_left]
theorem rg {g:Ad}{u:Br Eu}{C:Ad}(y:w.heap[g]?=V (Gq6 l))(B:RdO w (X u (Z l) C) l)(r:l=[]\/∀d o,u=V ⟨d,o,S⟩->d≠g)(hl:Z l<=1000000000000):Am prog 95 #[X (V ⟨g,0,S⟩) (Z l+8) (Z l+8),X u (Z l) C] w fun e w'=>e=Af (Av true)/\w.grownBy w' (V g):=by
 have k:=J (B);have j:=J (r);have m:=J (y);go_in;go_wp2_with fail
 go_loopw [5,6] (fun ov iv wr=>∃i:Ad,i<=Z l+8/\ov=Av true/\iv=O Ai i/\Y (wr.heap[g]?=V (Ae (L.cl l i).toArray 5 (0,0)))/\Y (w.grownBy wr (V g))) (fun _ iv _=>Z l+8-(intOf iv).toNat)
 ·exact⟨0,Ax _,rfl,rfl,m,zP _ _⟩
 ·
  obtain⟨i,H,rfl,rfl,b,c⟩:=hrel
  by_cases t:i<Z l+8
  ·have F:(i:Ak)<Z l+8:=by omega
   have f:wr.cell? ⟨g,i,S⟩=(L.st l 8)[i]?:=by rw[zB b.o,<-zm5 l i];simp
   have Q:wr.frozen? ⟨g,i,S⟩=false:=zG b.o;have n:Y (∀W,wr.grownBy W S->(W.setCell ⟨g,i,S⟩ (O Bp 99)).heap[g]?=V (Ae (L.cl l (i+1)).toArray 5 (0,0))):=fun W hW=>by
    have h:=zH (zE b.o hW (by simp)) (i:=i) (O Bp 99);rw[<-zlL l i t]
    simpa using h
   have p:Y (∀W,wr.grownBy W S->w.grownBy (W.setCell ⟨g,i,S⟩ (O Bp 99)) (V g)):=fun W hW=>zD (zD c.o (zT hW _)) (zF _ _ _ _)
   by_cases a:i<Z l
   ·have s:(i:Ak)<Z l:=by omega
    obtain⟨d,o,rfl,N,E⟩:∃d o,u=V ⟨d,o,S⟩/\d≠g/\wr.cell? ⟨d,o+i,S⟩=V (O Bp l[i].toNat):=by
     rcases k.o with ⟨_,_,_,h2⟩|⟨d,o,c',e1,_,_,h3⟩
     ·rw[h2] at a;simp at a
     ·simp only[Au,Fb] at e1
      have z:d≠g:=by
       rcases j.o with q|q
       ·rw[q] at a;simp at a
       ·exact q d o e1.1
      exact⟨d,o,e1.1,z,c.o.cell (h3 i _ (Bd a)) (by simpa using z)⟩
    rw[zlY l i a] at f;generalize l[i]=x at*;go_wp2_with fail;go_quiet (fail);go_wp2_with fail;exact⟨⟨i+1,by omega,rfl,by go_num,n.o _ (x3 _ _),p.o _ (x3 _ _)⟩,by simp[intOf];omega⟩
   ·have s:¬(i:Ak)<Z l:=by omega
    rw[zl5 l i (by omega) t] at f;go_wp2_with fail
    go_roundw
    ·exact⟨i+1,by omega,rfl,by go_num,n.o _ (zP _ _),p.o _ (zP _ _)⟩
    ·simp[intOf];omega
  ·have v:i=Z l+8:=by omega
   subst v;go_wp2;go_ret;exact⟨rfl,c.o⟩
theorem VRl.ub {r:P.Rl}(h:VRl r):UBr r where
 num:=h.num
 path:=by have:=h.pl;omega
 ml:=by have:=h.ml;omega
 ms:=fun m hm=>⟨by have:=(h.ms m hm).nl;omega,by have:=(h.ms m hm).vl;omega⟩
 tl:=by have:=h.tl;omega
 tg:=fun t ht=>⟨by have:=(h.tg t ht).ul;omega,by have:=(h.tg t ht).lo;omega,by have:=(h.tg t ht).hi;omega⟩
 rep:=by rcases h.rep with e|e;rw[e];simp;omega
 sl:=by have:=h.sl;omega
 sets:=fun t ht=>⟨by have:=(h.sets t ht).nl;omega,by have:=(h.sets t ht).vl;omega⟩
 dl:=by have:=h.dl;omega
 drops:=fun t ht=>by have:=(h.drops t ht).nl;omega
theorem VHst.ub (h:VHst x):UBh x:=⟨by have:=h.nl;omega,by have:=h.rl;omega,fun r hr=>(h.rules r hr).ub⟩
theorem VHs.lines {a:A P.Hst}(h:VHs a):Z (a.map fun h=>Ex (toR h)).flatten<=70000000000:=by
 have b:=h.hl;have c:=Od (fun h:P.Hst=>Ex (toR h)) 256000000 a (fun x hx=>(h.hosts x hx).ub.lines)
 omega
theorem zbM (C:RdO w v b)(h:∀g o n c,v=X (V ⟨g,o,S⟩) n c->g<w.heap.size)(z:Z b<=140737488355328)(y:Glob w)(s:GT w):Am prog 19 #[v] w fun e w'=>w.grownBy w' S/\((∃d,VHs d/\x4 d=b/\e=Af (Cm #[I (Aa (Ic (d.map toR))),O Ai 0]))\/((∀d,VHs d->x4 d≠b)/\e=Af (Cm #[I ⟨#[]⟩,O Ai 6]))):=by
 have q:=J (zeT C h z y s);have r:=J (s);go_in;go_wp2_with fail;refine q.o.mono ?_;rintro e k ⟨i,⟨d,a,c,h,B,rfl,f⟩|⟨j,rfl⟩⟩
 ·have l:k.grownBy (k.alloc (Ae #[X a (Z d) c] 88)) S:=Ac _ _ S
  have t:Y (Am prog 42 #[Fe #[X a (Z d) c]] (k.alloc (Ae #[X a (Z d) c] 88)) fun e w'=>e=Af (I (Aa (Ic (d.map toR))))/\w.grownBy w' S):=by
   refine(tu _ d (f.keep l (za _ _)) (by have:=h.hl;omega) (by have:=h.lines;omega) (fun x hx=>(h.hosts x hx).ub.small) (r.o.grown (zD i l))).mono ?_;rintro e w' ⟨N,Q⟩;exact⟨N,zD (zD i l) Q⟩
  have F:=J (h);have p:=J (B);have H:(k.alloc (Ae #[X a (Z d) c] 88)).cell? ⟨k.heap.size,0,S⟩=V (X a (Z d) c):=zB (Bn _ _);go_wp2_with fail;refine t.o.mono ?_;rintro e w2 ⟨rfl,u⟩;have m:=J (u);go_wp2
  go_ret2
  exact⟨m.o,Ay ⟨d,F.o,p.o,rfl⟩⟩
 ·have E:=J (j)
  have m:=J (i);go_wp2
  go_ret2
  exact⟨zD m.o (Ac _ _ S),Bf ⟨E.o,rfl⟩⟩
theorem gR {b:Br Eu}{j:Ad}(hr:RdO w (X b (Z l) j) l)(hv:l≠[]->∀g o,b=V ⟨g,o,S⟩->g<w.heap.size)(N:b=S->l=[])(hl:Z l<=1000000000000)(hG:Glob w)(hT:GT w):Am prog 57 #[X b (Z l) j] w fun e w'=>e=Af (Av true)/\w.grownBy w' S:=by
 have aa:=J (hr);have h:=J (hv);have HG:=J (hG);have HT:=J (hT);have H1:=J (rh hr hl N);clear hr hv hG hT;go_in;go_wp2_with fail;refine H1.o.mono ?_;rintro e w1 ⟨g,ad,rfl,H,r,g1,s,Q⟩;have G1:=J (g1);have C:=J (r);have ab:=zO r;obtain⟨ia,ic,rfl,_⟩:=s.form;have H2:Y (Am prog 19 #[X ia (Z l) ic] w1 fun e w'=>w1.grownBy w' S/\((∃hs,VHs hs/\x4 hs=l/\e=Af (Cm #[I (Aa (Ic (hs.map toR))),O Ai 0]))\/((∀hs,VHs hs->x4 hs≠l)/\e=Af (Cm #[I ⟨#[]⟩,O Ai 6])))):=zbM s (fun g' o n c e=>by rw[Q g' (by rw[e];rfl)];exact ab) (by omega) (HG.o.grown g1) (HT.o.grown g1);clear r g1 s Q;go_wp2_with fail;refine H2.o.mono ?_;rintro e w2 ⟨g2,F⟩;have m:=J (zE C.o g2 (by simp));have z:=J (zD G1.o g2);have d:Y (RdO w2 (X b (Z l) j) l):=aa.o.keep z.o (fun g o n c e c2=>by cases c2);have H3:Y (Am prog 95 #[X (V ⟨g,0,S⟩) (Z l+8) (Z l+8),X b (Z l) j] w2 fun e w'=>e=Af (Av true)/\w2.grownBy w' (V g)):=rg m.o d.o (by
  by_cases v:l=[]
  ·exact Ay v
  ·exact Bf fun g' o e=>by have:=h.o v g' o e;omega) hl
 clear g2;rcases F with ⟨hs,hvs,hpk,rfl⟩|⟨hno,rfl⟩
 ·go_wp2_with fail
  refine H3.o.mono ?_;rintro e t ⟨rfl,q⟩;have k:=J (ze z.o q H);have f:RdO t (X b (Z l) j) l:=by
   by_cases i:l=[]
   ·subst i;exact Ay ⟨b,j,rfl,rfl⟩
   ·exact d.o.keep q (fun g' o n c e c2=>by
     simp only[Au] at e;have:=h.o i g' o e.1;have:=Bc c2;omega)
  have B:Y (Am prog 96 #[X b (Z l) j] t fun e w'=>t.grownBy w' S/\((∃hs u,VHs hs/\x4 hs=l/\e=Af (Cm #[u,Av true])/\HostsRow w' 0 u (hs.map toR))\/((∀hs,VHs hs->x4 hs≠l)/\∃u,e=Af (Cm #[u,Av false])))):=ng f (fun v g' o n c e=>by
   simp only[Au] at e;have:=h.o v g' o e.1;exact Eh this k.o.size) (by omega)
  clear q f;go_wp2_with fail;refine B.o.mono ?_;rintro e w4 ⟨E,a⟩;have G4:=J (zD k.o E);clear E;have HN:Y (∀n W,Am prog 36 #[O Ai n] W fun e w'=>e=Af (O Ai n)/\w'=W):=fun n W=>tD n W
  rcases a with ⟨hs2,u,hv2,hp2,rfl,hrow⟩|⟨hno,_⟩
  ·have he:hs2=hs:=by rw[<-mf hs2 hv2,<-mf hs hvs,hp2,hpk]
   subst he;obtain⟨ua,uc,rfl⟩:∃ua uc,u=X ua (Z (hs2.map toR)) uc:=by obtain⟨css,h1,_⟩:=hrow;exact zL h1
   have p:Y (Am prog 35 #[X ua (Z (hs2.map toR)) uc] w4 fun e w'=>e=Af (I (Aa (Ic (hs2.map toR))))/\w.grownBy w' S):=(sS _ (hs2.map toR) hrow (by rw[Bv];have:=hvs.hl;omega) (fun x hx=>by obtain⟨y,hy,rfl⟩:=Hr.1 hx;exact(hvs.hosts y hy).ub.small)).mono fun e w' ⟨q1,q2⟩=>⟨q1,zD G4.o q2⟩
   rw[Bv] at p ⊢;clear hrow hvs hv2 hpk hp2;generalize Ic (hs2.map toR)=pl at*;go_wp2_with fail;refine p.o.mono ?_;rintro e w5 ⟨rfl,g5⟩;have G5:=J (g5);clear g5;go_wp2_with (go_at_call 36;refine(HN.o _ _).mono ?_;rintro e w' ⟨rfl,rfl⟩);go_ret;exact⟨rfl,G5.o⟩
  ·exact absurd hpk (hno hs hvs)
 ·go_wp2_with fail
  refine H3.o.mono ?_;rintro e t ⟨rfl,q⟩;have k:=J (ze z.o q H);have f:RdO t (X b (Z l) j) l:=by
   by_cases i:l=[]
   ·subst i;exact Ay ⟨b,j,rfl,rfl⟩
   ·exact d.o.keep q (fun g' o n c e c2=>by
     simp only[Au] at e;have:=h.o i g' o e.1;have:=Bc c2;omega)
  have B:Y (Am prog 96 #[X b (Z l) j] t fun e w'=>t.grownBy w' S/\((∃hs u,VHs hs/\x4 hs=l/\e=Af (Cm #[u,Av true])/\HostsRow w' 0 u (hs.map toR))\/((∀hs,VHs hs->x4 hs≠l)/\∃u,e=Af (Cm #[u,Av false])))):=ng f (fun v g' o n c e=>by
   simp only[Au] at e;have:=h.o v g' o e.1;exact Eh this k.o.size) (by omega)
  clear q f;go_wp2_with fail;refine B.o.mono ?_;rintro e w4 ⟨E,a⟩;have G4:=J (zD k.o E);clear E;have HN:Y (∀n W,Am prog 36 #[O Ai n] W fun e w'=>e=Af (O Ai n)/\w'=W):=fun n W=>tD n W
  rcases a with ⟨hs2,u,hv2,hp2,_,_⟩|⟨_,u,rfl⟩
  ·exact absurd hp2 (hno hs2 hv2)
  ·clear hno
   go_wp2_with (go_at_call 36;refine(HN.o _ _).mono ?_;rintro e w' ⟨rfl,rfl⟩);go_ret;exact⟨rfl,G4.o⟩
theorem nH (a:A P.Hst):Z (x4 a)=Z (xM a)+4:=by unfold x4 xF;simp
theorem rj {b:Ad}{p o q:Aj}{es:A (Aj×Ad×Ad)}(h:L.Inv w b B p o q es)(s:ByteArray)(C:s.size<=Bh)(hB:B<=w.heap.size)(aw:Z es<=100000000)(hG:Glob w):Am prog 56 #[Al (V ⟨b,0,S⟩),I s] w fun e w'=>e=Af (Av true)/\∃a i f,Z a=4/\w.heap[b]?=V (Ae #[p,i,f,o,q] 77 (0,0))/\L.Inv w' b B p o q (es++a)/\Turn w w' (L.F b i f (X S 0 0))/\L.Fr w' b w.heap.size f a:=by
 have H0:=J (h);have ab:=J (zi3 s w C hG);have ae:Y (∀W,Am prog 34 #[I s] W fun e w'=>∃v,e=Af (Cm #[v,O Ai (xg s.data.toList).1,O Ai (xg s.data.toList).2])/\Below W.heap.size W w'/\((xg s.data.toList).1=0->HostsRow w' W.heap.size v (qx (Gw s.data.toList).1))):=fun W=>bA s W C
 have t:Y ((xg s.data.toList).1=0->∃E,VHs E/\qx (Gw s.data.toList).1=E.map toR/\yz s.data.toList=x4 E):=fun h=>zdB h
 have r:Y ((xg s.data.toList).1≠0->yz s.data.toList=[]):=fun h=>by unfold yz;rw[Aw h]
 clear hG h;generalize yz s.data.toList=pt at*;generalize xg s.data.toList=er at*;generalize qx (Gw s.data.toList).1=hsr at*;obtain⟨m,ax⟩:=er;simp only at ab ae t r;have HN:Y (∀W,Am prog 36 #[O Ai m] W fun e w'=>e=Af (O Ai m)/\w'=W):=fun W=>tD m W
 go_in;go_wp2_with fail;refine ab.o.mono ?_;rintro e w1 ⟨a1,k1,rfl,am,g1⟩;have ak:=J (am);have G1:=J (g1);clear am g1 ab;go_wp2_with fail;refine(ae.o w1).mono ?_;rintro e H ⟨v,rfl,al,an⟩;have g2:=zt al;have G2:=J (zD G1.o g2);have l:Y (H.ownsRow w.heap.size 5 1 (X a1 (Z pt) k1) (Z pt) (Ba pt)):=zK ak.o g2 (fun _ _ c=>by cases c);have Q:=J (an);clear al an ae g2 ak G1;have j:Y (∀(W:Ag),w.grownBy W S->W.ownsRow w.heap.size 5 1 (X a1 (Z pt) k1) (Z pt) (Ba pt)->Z pt<=1000000000->Am prog 93 #[Al (V ⟨b,0,S⟩),X a1 (Z pt) k1] W fun e w'=>e=Af (Cm #[])/\∃a i f,Z a=4/\w.heap[b]?=V (Ae #[p,i,f,o,q] 77 (0,0))/\L.Inv w' b B p o q (es++a)/\Turn w w' (L.F b i f (X S 0 0))/\L.Fr w' b w.heap.size f a):=fun W hW d ai=>by
  refine(zeG (H0.o.keep hW) a1 (Z pt) k1 w.heap.size _ d hB hW.size (fun e he g hg=>(An (H0.o.all e he) g hg).2) aw ai).mono ?_;rintro e w' ⟨rfl,a,i,f,q1,q2,q3,q4,q5⟩;obtain⟨aq,ar,c1,c2,c3⟩:=H0.o.ex;have hq:=zE c1 hW (by simp);rw[hq] at q2;simp only[Ey,Obj.cells.injEq] at q2;have e1:aq=i/\ar=f:=by have:=q2.1;simp at this;exact this
  obtain⟨rfl,rfl⟩:=e1;refine⟨rfl,a,aq,ar,q1,c1,q3,⟨q4.os.trans hW.os,q4.tape.trans hW.tape,q4.output.trans hW.output,Bi hW.size q4.size,fun k hk hn=>(q4.block k (Eh hk hW.size) (fun hF=>?_)).trans (hW.block k hk (by simp))⟩,q5⟩;rcases hF with z|z|z|z
  ·exact hn (Ay z)
  ·exact hn (Bf (Ay z))
  ·exact hn (Bf (Bf (Ay z)))
  ·have:=(An d k z).1;omega
 by_cases ag:m=0
 ·subst ag
  obtain⟨E,n,ap,ah⟩:=t.o rfl;have d:=Q.o rfl;rw[ap] at d;obtain⟨ua,uc,rfl⟩:∃ua uc,v=X ua (Z (E.map toR)) uc:=by obtain⟨css,h1,_⟩:=d;exact zL h1
  have aa:Y (Am prog 92 #[X ua (Z (E.map toR)) uc] H (Gives H pt)):=by
   have h:=na _ (E.map toR) d (by rw[Bv];have:=n.hl;omega) (fun x u=>by obtain⟨y,hy,rfl⟩:=Hr.1 u;exact zgY (n.hosts y hy));rw[be,<-ah] at h;exact h
  have ai:Z pt<=1000000000:=by
   rw[ah,nH];have h1:=xx qX 8000 E (fun x u=>aJ (n.hosts x u).pk);have:=n.hl;unfold xM;rw[Ah];simp;omega
  rw[Bv] at aa ⊢;clear d n ap ah t r Q;go_wp2_with fail;refine aa.o.mono ?_;rintro e w3 ⟨a3,k3,rfl,ao,g3⟩;have G3:=J (zD G2.o g3);have ad:Y (w3.ownsRow w.heap.size 5 1 (X a1 (Z pt) k1) (Z pt) (Ba pt)):=zK l.o g3 (fun _ _ c=>by cases c);have au:=j8 (RdO.of_row ad.o);have av:=j8 (RdO.of_row ao);have N:=J (j.o w3 G3.o ad.o ai);clear ao g3 G2 l aa j ad;go_wp2_with (first
   |(go_at_call 36;refine(HN.o _).mono ?_;rintro e w' ⟨rfl,rfl⟩)
   |(go_at_call 93;refine N.o.mono ?_;rintro e w4 ⟨rfl,u⟩;have af:Y (∃a i f,Z a=4/\w.heap[b]?=V (Ae #[p,i,f,o,q] 77 (0,0))/\L.Inv w4 b B p o q (es++a)/\Turn w w4 (L.F b i f (X S 0 0))/\L.Fr w4 b w.heap.size f a):=u;clear u))
  go_ret;exact⟨rfl,af.o⟩
 ·have aj:=J (r.o ag)
  have ay:(m == 0)=false:=by rw[Ch];exact ag
  have au:(Oh 32 9 (X a1 (Z pt) k1)).run prog H = .ok (I ⟨#[]⟩) H:=by
   have h:=j8 (RdO.of_row l.o);rw[show Aa pt=⟨#[]⟩ by rw[aj.o];rfl] at h;exact h
  have av:=t8 H S 0;have N:Y (Am prog 93 #[Al (V ⟨b,0,S⟩),X a1 (Z pt) k1] H fun e w'=>e=Af (Cm #[])/\∃a i f,Z a=4/\w.heap[b]?=V (Ae #[p,i,f,o,q] 77 (0,0))/\L.Inv w' b B p o q (es++a)/\Turn w w' (L.F b i f (X S 0 0))/\L.Fr w' b w.heap.size f a):=j.o H G2.o l.o (by rw[aj.o];simp);clear t r Q j G2 l;go_wp2_with (first
   |(go_at_call 36;refine(HN.o _).mono ?_;rintro e w' ⟨rfl,rfl⟩)
   |(go_at_call 93;refine N.o.mono ?_;rintro e w4 ⟨rfl,u⟩;have af:Y (∃a i f,Z a=4/\w.heap[b]?=V (Ae #[p,i,f,o,q] 77 (0,0))/\L.Inv w4 b B p o q (es++a)/\Turn w w4 (L.F b i f (X S 0 0))/\L.Fr w4 b w.heap.size f a):=u;clear u))
  go_ret;exact⟨rfl,af.o⟩
end Go.Proofs.YtfocdefchbnkpaaGreatDoor
