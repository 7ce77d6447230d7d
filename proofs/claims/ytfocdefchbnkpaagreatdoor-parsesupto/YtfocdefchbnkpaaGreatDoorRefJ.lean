import Derived.Test.YtfocdefchbnkpaaGreatDoorPure1
import Derived.Lib.SlBytesRow
set_option maxRecDepth 100000
set_option maxHeartbeats 20000000
open Go renaming World->Ag,Value->Aj,TypeId->Cs,Calls->Am,bodyPost_ret->Et,results->Hm,maxLen->Bh,heap_alloc_new->Bn,info_parts->Ej,step_append_lies->Ii
open Go.Act renaming eval->Im
open Go.Builtin renaming zeroCells->Nb
open Go.ByteArray renaming toList_eq->El
open Go.Ending renaming returned->Af
open Go.IntKind renaming i64->Ai
open Go.Lib renaming splitK->Io,count->Sa,trimPrefix->Mz,hasPrefix->Mx,trimB->Iq,bytesWorld->Na,splitB->Qy,countB->Oe
open Go.Obj renaming cells->Ae
open Go.Proofs.YtfocdefchbnkpaaGreatDoor.R renaming str->Aa,St->Bw,notS->Cw,Tok->Bx,num->Gk,cur->Bj,kindS->Fg,needS->Cg,pathS->Hu,isB->Fz,editsS->Il,matchesS->If,targetsS->Hg,str_toList->Be,lower->Cj,named->Hq,notS_K->Om,needS_K->Qf,allB->Ec,partI->Ih,word->Gx,labelsGo->Ht,largeI->Ql,labels->Iv,lowC->Mi,size_eq->Cp,str_size->Bz,span->By,upI->Ob,upstream->Hf,value->Gz,header->Ft,contentLength->Oo,transferEncoding->Nm
open Go.Value renaming ownBlock->Ix,int->O,string->I,slice->X,bool->Av,pointer->Al,agg->Fe
open Go.Value.slice renaming injEq->Au
open Go.World renaming grownBy_alloc->Ac,setCell->Bs,block_lt_of_cell?->Mk,alloc->Eo,ownsRow->Ib,ownsRow_nil->Bk
open Go.World.ownsRow renaming form->Bm,cellAt->Ap,lt->An,alloc->Ao
open List renaming length->Z
open Option renaming some->V,none->S
open Or renaming inr->Bf
open Prod renaming fst->Bq
open _root_ renaming List->A,Int->Ak,UInt8->Ab,Bool->Ee,Nat->Ad,ByteArray->As,Option->Br
namespace Go.Proofs.YtfocdefchbnkpaaGreatDoor
open Go.RowKit Tryz
inductive All2 {α β:Type} (R:α->β->Prop):A α->A β->Prop
 |nil:All2 R [] []
 |cons {a:α} {b:β} {l:A α} {m:A β} (h:R a b) (t:All2 R l m):All2 R (a::l) (b::m)
structure R.Rl where
 number:Ak
 path:A Ab
 ms:A R.Mt
 tg:A (A Ab×Ak)
 change:Ee
 to:A Ab
 sets:A (A Ab×A Ab)
 drops:A (A Ab)
def RuleVal (w:Ag)(cells:A Aj)(r:R.Rl):Prop:=
 ∃vM vT vS vD,cells=[O Ai r.number,I (Aa r.path),vM,vT,Av r.change,I (Aa r.to),vS,vD]/\
  w.ownsRow 0 181 3 vM (Z r.ms) (xC r.ms)/\w.ownsRow 0 183 2 vT (Z r.tg) (zx r.tg)/\
  w.ownsRow 0 185 2 vS (Z r.sets) (zi r.sets)/\w.ownsRow 0 9 1 vD (Z r.drops) (zY r.drops)
def RulesRow (w:Ag)(v:Aj)(rs:A R.Rl):Prop:=
 ∃css:A (A Aj),w.ownsRow 0 126 8 v (Z rs) css.flatten/\All2 (RuleVal w) css rs
def qz:A Ab:=[114,117,108,101]
def jB:A Ab:=[112,97,116,104]
def qK:A Ab:=[114,101,112,108,97,99,101]
def R.amongN (l:A Ak)(n:Ak)(p:Ak)(st:Bw):Bw:=l.foldl (fun st a=>Cw st (!decide (a=n)) 5 p) st
def R.rlA2 (ts:A Bx)(s2:Bw)(others:A Ak):Ak×Bw:=
 (Gk (Bj ts s2).s,R.amongN others (Gk (Bj ts s2).s) (Bj ts s2).at_ (Cw (Fg ts s2 49) (decide (Gk (Bj ts s2).s<=65535)) 4 (Bj ts s2).at_))
def R.rlA (ts:A Bx)(st:Bw)(i:Ad)(others:A Ak):Ak×Bw:=
 R.rlA2 ts (Cw (Cg ts st qz) (decide ((i:Ak)<6)) 3 (Bj ts st).at_) others
def R.rlB (ts:A Bx)(st:Bw):A Ab×Bw:=
 ((Hu ts (Cg ts (Cg ts st [123]) jB)).1,Cg ts (Hu ts (Cg ts (Cg ts st [123]) jB)).2 [59])
def R.rlC (ts:A Bx)(st:Bw):A Ab×Bw:=
 if Fz st (Bj ts st) qK then ((Hu ts (Cg ts st qK)).1,Cg ts (Hu ts (Cg ts st qK)).2 [59]) else ([],st)
def R.ruleE (ts:A Bx)(n:Ak)(p:A Ab)(m:A R.Mt)(t:A (A Ab×Ak)×Bw):R.Rl×Bw:=
 (⟨n,p,m,t.1,Fz t.2 (Bj ts t.2) qK,(R.rlC ts t.2).1,(Il ts (R.rlC ts t.2).2).1.1,(Il ts (R.rlC ts t.2).2).1.2⟩,Cg ts (Il ts (R.rlC ts t.2).2).2 [125])
def R.ruleT (ts:A Bx)(a:Ak×Bw):R.Rl×Bw:=
 R.ruleE ts a.1 (R.rlB ts a.2).1 (If ts (R.rlB ts a.2).2).1 (Hg ts (If ts (R.rlB ts a.2).2).2)
def R.ruleS (ts:A Bx)(st:Bw)(i:Ad)(others:A Ak):R.Rl×Bw:=R.ruleT ts (R.rlA ts st i others)
variable {w w':Ag}
theorem uu {a:A (A Aj)}{b:A R.Rl}(h:All2 (RuleVal w) a b)(k:Ad)(d:k<Z b):a.flatten[k*8]?=V (O Ai b[k].number):=by
 induction h generalizing k with
 |nil=>simp at d
 | @cons c r cs b hc _ ih=>
  obtain⟨g,j,i,f,rfl,_⟩:=hc
  match k with
  |0=>rfl
  |k+1=>
   rw[Ci,Cl (by simp;omega)];have:=ih k (by simpa using d);simp only[Bb,Bu];rw[show(k+1)*8-(0+1+1+1+1+1+1+1+1)=k*8 by omega];exact this
variable {B a b n g rb j i:Ad}{e:Cs}{v:Aj}
theorem vp {s:Ad}{c:A Aj}(h:w.ownsRow B e s v n c)(f:Kept2 w w' a b)(d:∀k,v.ownBlock=V k->k≠a/\k≠b):w'.ownsRow B e s v n c:=by
 refine⟨h.1,?_⟩;rcases h.2 with h2|⟨g,cap,cur,rfl,h3,h4,r⟩
 ·exact Or.inl h2
 ·have:=d g rfl
  exact Bf ⟨g,cap,cur,rfl,h3,by rw[f.block g (zO h4) this.1 this.2];exact h4,r⟩
theorem wy {a b c:Ag}{x y:Ad}(h:a.grownBy b (V x))(d:Kept2 b c x y)(f:a.heap.size<=y):a.grownBy c (V x):=
 ⟨d.os.trans h.os,d.tape.trans h.tape,d.output.trans h.output,Bi h.size d.size,fun i hi hr=>(d.block i (Eh hi h.size) (by simpa using hr) (by omega)).trans (h.block i hi hr)⟩
theorem ziP {ts:A Bx}{st:Bw}{H:Aj}(h:RInv w rb g B ts st H)(i:Ad)(v:Aj)(u:A R.Rl)(hv:RulesRow w v u)(dK:Z u<=10000)(dg:v.ownBlock≠V rb):Am prog 90 #[Al (V ⟨rb,0,S⟩),O Ai i,v] w fun e w'=>∃cs,e=Af (Fe cs.toArray)/\RInv w' rb g B ts (R.ruleS ts st i (u.map R.Rl.number)).2 H/\w.grownBy w' (V rb)/\RuleVal w' cs (R.ruleS ts st i (u.map R.Rl.number)).1:=by
 have HP:Y (R.ruleS ts st i (u.map R.Rl.number)=R.ruleT ts (R.rlA ts st i (u.map R.Rl.number))):=rfl;have H0:=J h;have dF:=zO h.rd;have dH:g<w.heap.size:=h.gl;obtain⟨dG,aV,bC⟩:=hv;have bh:=J aV;have ch:=J bC;obtain⟨ua,uc,rfl⟩:=zL aV;generalize R.ruleS ts st i (u.map R.Rl.number)=r at*;go_in;have C0:Y (w.grownBy w (V rb)):=zP _ _;go_wp2_with fail;refine(qv (H0.o.keep (Ac _ _ _)) _).mono ?_;rintro e w1 ⟨rfl,I1,aR⟩;have J1:=J I1;have G1:Y (w.grownBy w1 (V rb)):=(zD (Ac _ _ _) aR);have C1:=J (zD C0.o G1.o);have cH:Y (w1.heap[w.heap.size]?=V (Ae #[O Ai 0,I ⟨#[]⟩,X S 0 0,X S 0 0,Av false,I ⟨#[]⟩,X S 0 0,X S 0 0] 126)):=ql aR (by simp;omega);go_wp2_with fail;refine(j4 (J1.o.keep (Ac _ _ _)) _ _ _ _ _).mono ?_;rintro e w2 ⟨rfl,I2,bD⟩;have J2:=J I2;have G2:Y (w1.grownBy w2 (V rb)):=(zD (Ac _ _ _) bD);have C2:=J (zD C1.o G2.o);have cI:=J (zE cH.o G2.o (by simp;omega));have JW:Y (RInv w2 rb g B ts (Cw (Cg ts st qz) (decide ((i:Ak)<6)) 3 (Bj ts st).at_) H):=J2;have a6:Y (R.rlA ts st i (u.map R.Rl.number)=R.rlA2 ts (Cw (Cg ts st qz) (decide ((i:Ak)<6)) 3 (Bj ts st).at_) (u.map R.Rl.number)):=rfl;generalize Cw (Cg ts st qz) (decide ((i:Ak)<6)) 3 (Bj ts st).at_=st2 at*;have cr:Y ((Aa (Bj ts st2).s).size<=3000):=JW.o.curlen;go_wp2_with fail;refine(kO JW.o 49 (by decide) (by decide)).mono ?_;rintro e w3 ⟨rfl,I3,bE⟩;have J3:=J I3;have b3:=zO J3.o.rd;have G3:Y (w2.grownBy w3 (V rb)):=bE;have C3:=J (zD C2.o G3.o);have z3:=C3.o.size;have cJ:=J (zE cI.o G3.o (by simp;omega));go_wp2_with fail;refine(ut _ _ _ _ cr.o).mono ?_;rintro e c ⟨rfl,aP⟩;have aw:=zT aP (V rb);have J4:Y _:=((J3.o.keep (Ac _ _ _))).keep aP;have b4:=zO J4.o.rd;have s4:w3.heap.size+1<=c.heap.size:=by have h:=aw.size;simpa using h
 have G4:Y (w3.grownBy c (V rb)):=(zD (Ac _ _ _) aw);have C4:=J (zD C3.o G4.o);have z4:=C4.o.size;have cK:=J (zE cJ.o G4.o (by simp;omega));have an:Y (c.heap[w3.heap.size]?=V (Ae #[O .u8 (Bj ts st2).k,I (Aa (Bj ts st2).s),O Ai (Bj ts st2).at_] 115)):=ql aw (by simp;omega);rw[Be];have a8:Y (R.rlA2 ts st2 (u.map R.Rl.number)=(Gk (Bj ts st2).s,R.amongN (u.map R.Rl.number) (Gk (Bj ts st2).s) (Bj ts st2).at_ (Cw (Fg ts st2 49) (decide (Gk (Bj ts st2).s<=65535)) 4 (Bj ts st2).at_))):=rfl;generalize dJ:Gk (Bj ts st2).s=num at*;have dS:=zO an.o;have dP:=cbi 0 an.o;have dQ:=cbi 1 an.o;have dR:=cbi 2 an.o;go_wp2_with fail;refine(j4 (J4.o.keep (Ac _ _ _)) _ _ _ _ _).mono ?_;rintro e w5 ⟨rfl,I5,aS⟩;have J5:=J I5;have G5:Y (c.grownBy w5 (V rb)):=(zD (Ac _ _ _) aS);have C5:=J (zD C4.o G5.o);have cL:=J (zE cK.o G5.o (by simp;omega));have c3:=J (zE an.o G5.o (by simp;omega));have bB:Y (w5.heap[c.heap.size]?=V (Ae #[O Ai num,I ⟨#[]⟩,X S 0 0,X S 0 0,Av false,I ⟨#[]⟩,X S 0 0,X S 0 0] 126)):=ql aS (by simp;omega);generalize dL:Cw (Fg ts st2 49) (decide (num<=65535)) 4 (Bj ts st2).at_=st4 at*;generalize Bj ts st2=t at*;go_wp2_with fail
 go_loopw [10] (fun iv wr=>∃k:Ad,k<=Z u/\iv=O Ai k/\Y (RInv wr rb g B ts (R.amongN ((u.map R.Rl.number).take k) num t.at_ st4) H)/\Y (w5.grownBy wr (V rb))) (fun iv _=>Z u-(intOf iv).toNat)
 ·exact⟨0,Ax _,rfl,J5,zP _ _⟩
 ·
  obtain⟨k,p,rfl,IR,HR⟩:=hrel
  by_cases bS:k<Z u
  ·obtain⟨gv,gc,bR,_,_⟩:=Bm bh.o (by omega)
   simp only[Au] at bR;obtain⟨rfl,_,rfl⟩:=bR;have c1:wr.cell? ⟨gv,k*8,S⟩=V (O Ai u[k].number):=by
    have hc:=Ap bh.o (k*8) (by omega);rw[uu ch.o k bS] at hc;exact(zD C5.o HR.o).cell hc (by simpa[Ix] using dg)
   have n8:=zE c3.o HR.o (by simp;omega);have nU:=zE bB.o HR.o (by simp;omega);have dM:=cbi 0 n8;have dN:=cbi 1 n8;have dO:=cbi 2 n8;have dT:=cbi 0 nU;have HA:Y (R.amongN ((u.map R.Rl.number).take (k+1)) num t.at_ st4=Cw (R.amongN ((u.map R.Rl.number).take k) num t.at_ st4) (!decide (u[k].number=num)) 5 t.at_):=by
    show R.amongN _ _ _ _=_;unfold R.amongN;rw[Co (by rw[Bv];exact bS),Mb,Ha];rfl
   generalize u[k].number=nk at*;generalize R.amongN ((u.map R.Rl.number).take k) num t.at_ st4=stk at*;go_wp2
   go_region_with (go_at_call 85;refine(j4 (IR.o.keep (zV wr)) _ _ _ _ _).mono ?_;rintro e wN ⟨rfl,IN,bF⟩)
   all_goals
    have JN:Y (RInv wN rb g B ts (R.amongN ((u.map R.Rl.number).take (k+1)) num t.at_ st4) H):=by rw[HA.o];exact IN
    have GN:Y (w5.grownBy wN (V rb)):=zD HR.o (zD (zT (zV wr) _) bF);go_wp2;exact⟨⟨k+1,by omega,by go_num,JN,GN⟩,by simp[intOf];omega⟩
  ·rw[Cc (by rw[Bv];omega)] at IR
   have dI:k=Z u:=by omega
   have c2:Y _:=zE cL.o HR.o (by simp;omega);have df:Y _:=zE bB.o HR.o (by simp;omega);have CX:=J (zD C5.o HR.o);have a7:Y (R.rlA ts st i (u.map R.Rl.number)=(num,R.amongN (u.map R.Rl.number) num t.at_ st4)):=a6.o.trans a8.o;have bg:Y (r=R.ruleT ts (num,R.amongN (u.map R.Rl.number) num t.at_ st4)):=by rw[<-a7.o];exact HP.o
   generalize R.amongN (u.map R.Rl.number) num t.at_ st4=sA at*;go_wp2_with fail;refine(qv IR.o _).mono ?_;rintro e bU ⟨rfl,bn,bG⟩;have cv:=J bn;have ax:Y (wr.grownBy bU (V rb)):=bG;have b0:=J (zD CX.o ax.o);have cO:=J (zE c2.o ax.o (by simp;omega));have c4:=J (zE df.o ax.o (by simp;omega));go_wp2_with fail;refine(qv cv.o _).mono ?_;rintro e bV ⟨rfl,bo,bH⟩;have cw:=J bo;have ay:Y (bU.grownBy bV (V rb)):=bH;have b1:=J (zD b0.o ay.o);have cP:=J (zE cO.o ay.o (by simp;omega));have c5:=J (zE c4.o ay.o (by simp;omega));go_wp2_with fail;refine(oZ cw.o).mono ?_;rintro e ad ⟨rfl,bp,bI⟩;have cx:=J bp;have az:Y (bV.grownBy ad (V rb)):=bI;have b2:=J (zD b1.o az.o);have cQ:=J (zE cP.o az.o (by simp;omega));have aM:=J (zE c5.o az.o (by simp;omega));have HB:Y (R.rlB ts sA=((Hu ts (Cg ts (Cg ts sA [123]) jB)).1,Cg ts (Hu ts (Cg ts (Cg ts sA [123]) jB)).2 [59])):=rfl;have JB:Y (RInv ad rb g B ts (Hu ts (Cg ts (Cg ts sA [123]) jB)).2 H):=cx;rw[show(Hu ts (Cg ts (Cg ts sA (⟨#[123]⟩:As).data.toList) (⟨#[112,97,116,104]⟩:As).data.toList)).1=(Hu ts (Cg ts (Cg ts sA [123]) jB)).1 from rfl];generalize Hu ts (Cg ts (Cg ts sA [123]) jB)=pp at*;obtain⟨j,sP⟩:=pp;simp only at JB HB ⊢;have dU:=cbi 1 aM.o;have dV:=zm9 1 aM.o;go_wp2_with fail;have cy:Y _:=JB.o.other (zF ad c.heap.size 1 (I (Aa j))) (by omega) (by omega);have b5:=J (ze b2.o (zF ad c.heap.size 1 (I (Aa j))) (by omega));have cR:=J (zE cQ.o (zF ad c.heap.size 1 (I (Aa j))) (by simp;omega));have c6:Y ((Bs ad ⟨c.heap.size,1,S⟩ (I (Aa j))).heap[c.heap.size]?=V (Ae #[O Ai num,I (Aa j),X S 0 0,X S 0 0,Av false,I ⟨#[]⟩,X S 0 0,X S 0 0] 126)):=zH aM.o (I (Aa j));generalize(Bs ad ⟨c.heap.size,1,S⟩ (I (Aa j)))=wX4 at*;refine(qv cy.o _).mono ?_;rintro e a4 ⟨rfl,bq,bJ⟩;have bw:=J bq;have dA:=zO bw.o.rd;have aA:Y (wX4.grownBy a4 (V rb)):=bJ;have b6:=J (zD b5.o aA.o);have cS:=J (zE cR.o aA.o (by simp;omega));have c7:=J (zE c6.o aA.o (by simp;omega));have JC:Y (RInv a4 rb g B ts (R.rlB ts sA).2 H):=by rw[HB.o];exact bw.o
   have a9:Y ((R.rlB ts sA).1=j):=by rw[HB.o];rfl
   have ae:Y (r=R.ruleE ts num (R.rlB ts sA).1 (If ts (R.rlB ts sA).2).1 (Hg ts (If ts (R.rlB ts sA).2).2)):=bg.o;generalize R.rlB ts sA=pb at*;obtain⟨p0,sB⟩:=pb;simp only at JC a9 ae;rw[a9.o] at ae;go_wp2_with fail;refine(oX JC.o).mono ?_;rintro e wM ⟨vM,rfl,IM,ar,aT⟩;obtain⟨F,N,rfl⟩:=zL aT;have JM:=J IM;have bM:=zO JM.o.rd;have sM:a4.heap.size<=wM.heap.size:=ar.size;have CM:=J (zD b6.o ar);have cM:=J (zE cS.o ar (by simp;omega));have av:=J (zE c7.o ar (by simp;omega));have aD:=J aT;generalize If ts sB=pm at*;obtain⟨C,sM⟩:=pm;simp only at JM aD ae;have dW:=cbi 2 av.o;have dX:=zm9 2 av.o;go_wp2_with fail;have cz:Y _:=JM.o.other (zF wM c.heap.size 2 (X F (Z C) N)) (by omega) (by omega);have b7:=J (ze CM.o (zF wM c.heap.size 2 (X F (Z C) N)) (by omega));have cT:=J (zE cM.o (zF wM c.heap.size 2 (X F (Z C) N)) (by simp;omega));have c8:Y ((Bs wM ⟨c.heap.size,2,S⟩ (X F (Z C) N)).heap[c.heap.size]?=V (Ae #[O Ai num,I (Aa j),X F (Z C) N,X S 0 0,Av false,I ⟨#[]⟩,X S 0 0,X S 0 0] 126)):=zH av.o (X F (Z C) N);have ci:Y _:=zJ aD.o (zF wM c.heap.size 2 (X F (Z C) N)) (zI av.o aD.o (by decide));have d4:wM.heap.size<=(Bs wM ⟨c.heap.size,2,S⟩ (X F (Z C) N)).heap.size:=by simp[Bs]
   have d6:(Bs wM ⟨c.heap.size,2,S⟩ (X F (Z C) N)).heap.size<=wM.heap.size:=by simp[Bs]
   generalize(Bs wM ⟨c.heap.size,2,S⟩ (X F (Z C) N))=wX6 at*;have dB:rb<wX6.heap.size:=by omega
   refine(oe cz.o).mono ?_;rintro e wT ⟨vT,rfl,IT,af,aU⟩;obtain⟨ta,tc,rfl⟩:=zL aU;have JT:=J IT;have E:wX6.heap.size<=wT.heap.size:=af.size;have CT:=J (zD b7.o af);have cN:=J (zE cT.o af (by simp;omega));have ap:=J (zE c8.o af (by simp;omega));have bc:Y _:=zQ ci.o af (by omega);have aH:=J aU;generalize Hg ts sM=pt at*;obtain⟨tl,E⟩:=pt;simp only at JT aH ae;have x:Y (r=(⟨num,j,C,tl,Fz E (Bj ts E) qK,(R.rlC ts E).1,(Il ts (R.rlC ts E).2).1.1,(Il ts (R.rlC ts E).2).1.2⟩,Cg ts (Il ts (R.rlC ts E).2).2 [125])):=ae.o;have dY:=cbi 3 ap.o;have dZ:=zm9 3 ap.o;go_wp2_with fail;have bx:Y _:=JT.o.other (zF wT c.heap.size 3 (X ta (Z tl) tc)) (by omega) (by omega);have b8:=J (ze CT.o (zF wT c.heap.size 3 (X ta (Z tl) tc)) (by omega));have cU:=J (zE cN.o (zF wT c.heap.size 3 (X ta (Z tl) tc)) (by simp;omega));have c9:Y ((Bs wT ⟨c.heap.size,3,S⟩ (X ta (Z tl) tc)).heap[c.heap.size]?=V (Ae #[O Ai num,I (Aa j),X F (Z C) N,X ta (Z tl) tc,Av false,I ⟨#[]⟩,X S 0 0,X S 0 0] 126)):=zH ap.o (X ta (Z tl) tc);have cj:Y _:=zJ bc.o (zF wT c.heap.size 3 (X ta (Z tl) tc)) (zI ap.o bc.o (by decide));have cn:Y _:=zJ aH.o (zF wT c.heap.size 3 (X ta (Z tl) tc)) (zI ap.o aH.o (by decide));generalize(Bs wT ⟨c.heap.size,3,S⟩ (X ta (Z tl) tc))=wX7 at*;refine(uC bx.o _).mono ?_;rintro e l ⟨rfl,aQ⟩;have bK:=zT aQ (V rb);have aK:Y _:=(bx.o).keep aQ;have dC:=zO aK.o.rd;have ag:Y (wX7.grownBy l (V rb)):=bK;have a5:=J (zD b8.o ag.o);have bA:=J (zE cU.o ag.o (by simp;omega));have m:=J (zE c9.o ag.o (by simp;omega));have Q:Y _:=zQ cj.o ag.o (by omega);have au:Y _:=zQ cn.o ag.o (by omega);rw[show(⟨#[114,101,112,108,97,99,101]⟩:As).data.toList=qK from rfl];have HC:Y (R.rlC ts E=if Fz E (Bj ts E) qK then ((Hu ts (Cg ts E qK)).1,Cg ts (Hu ts (Cg ts E qK)).2 [59]) else ([],E)):=rfl;generalize R.rlC ts E=pc at*;obtain⟨bT,sC⟩:=pc;simp only at x;have d0:=cbi 4 m.o;have d1:=zm9 4 m.o
   cases hch:Fz E (Bj ts E) qK
   ·rw[Aw (by rw[hch];simp)] at HC
    have aB:Y (bT=[]):=(Nn HC.o).1;have ak:Y (sC=E):=(Nn HC.o).2;rw[hch,aB.o] at x;rw[ak.o] at x;go_wp2_with fail;have cA:Y _:=aK.o.other (zF l c.heap.size 4 (Av false)) (by omega) (by omega);have b9:=J (ze a5.o (zF l c.heap.size 4 (Av false)) (by omega));have cV:=J (zE bA.o (zF l c.heap.size 4 (Av false)) (by simp;omega));have aN:Y ((Bs l ⟨c.heap.size,4,S⟩ (Av false)).heap[c.heap.size]?=V (Ae #[O Ai num,I (Aa j),X F (Z C) N,X ta (Z tl) tc,Av false,I ⟨#[]⟩,X S 0 0,X S 0 0] 126)):=zH m.o (Av false);have aE:Y _:=zJ Q.o (zF l c.heap.size 4 (Av false)) (zI m.o Q.o (by decide));have aI:Y _:=zJ au.o (zF l c.heap.size 4 (Av false)) (zI m.o au.o (by decide));have d5:l.heap.size<=(Bs l ⟨c.heap.size,4,S⟩ (Av false)).heap.size:=by simp[Bs]
    have d7:(Bs l ⟨c.heap.size,4,S⟩ (Av false)).heap.size<=l.heap.size:=by simp[Bs]
    generalize(Bs l ⟨c.heap.size,4,S⟩ (Av false))=wXn1 at*;have dD:rb<wXn1.heap.size:=by omega
    have ct:Y (RInv wXn1 rb g B ts sC H):=by rw[ak.o];exact cA.o
    rw[<-ak.o] at x;refine(sU ct.o c.heap.size _ _ _ _ _ _ aN.o (by omega) (by omega)).mono ?_;rintro e wE ⟨rfl,IE,KE,vS,vD,aq,ab,aa⟩;obtain⟨sa,sc,rfl⟩:=zL ab;obtain⟨da,dc,rfl⟩:=zL aa;have JE:=J IE;have CE:Y (w.grownBy wE (V rb)):=wy b9.o KE (by omega);have aL:Y _:=KE.keep cV.o (by omega) (by omega);have aC:Y _:=vp aE.o KE (fun k p=>⟨by have:=(An aE.o k p).1;omega,zI aN.o aE.o (by decide) k p⟩);have aG:Y _:=vp aI.o KE (fun k p=>⟨by have:=(An aI.o k p).1;omega,zI aN.o aI.o (by decide) k p⟩);have ao:=J aq;have am:=J ab;have al:=J aa;generalize Il ts sC=pe at*;obtain⟨⟨sl,dl⟩,dz⟩:=pe;simp only at JE am al ao x;go_wp2_with fail;refine(qv JE.o _).mono ?_;rintro e bW ⟨rfl,br,bL⟩;have cB:=J br;have y:Y (wE.grownBy bW (V rb)):=bL;have ca:=J (zD CE.o y.o);have a:=J (zE aL.o y.o (by simp;omega));have d:=J (zE ao.o y.o (by simp;omega));have bd:Y _:=zQ aC.o y.o (by omega);have bk:Y _:=zQ aG.o y.o (by omega);have bi:Y _:=zQ am.o y.o (by omega);have ba:Y _:=zQ al.o y.o (by omega);have dh:=cbi 0 d.o;have di:=cbi 1 d.o;have dj:=cbi 2 d.o;have dk:=cbi 3 d.o;have dm:=cbi 4 d.o;have dn:=cbi 5 d.o;have dp:=cbi 6 d.o;have dq:=cbi 7 d.o;have aW:=cbi 0 a.o;have dr:=zm9 0 a.o;have aX:=cbi 1 a.o;have ds:=zm9 1 a.o;have aY:=cbi 2 a.o;have dt:=zm9 2 a.o;have aZ:=cbi 3 a.o;have du:=zm9 3 a.o;have a0:=cbi 4 a.o;have dv:=zm9 4 a.o;have a1:=cbi 5 a.o;have dw:=zm9 5 a.o;have a2:=cbi 6 a.o;have dx:=zm9 6 a.o;have a3:=cbi 7 a.o;have dy:=zm9 7 a.o;go_wp2;have q:=zD (zD (zD (zD (zD (zD (zD (zF bW w.heap.size 0 (O Ai num)) (zF _ w.heap.size 1 (I (Aa j)))) (zF _ w.heap.size 2 (X F (Z C) N))) (zF _ w.heap.size 3 (X ta (Z tl) tc))) (zF _ w.heap.size 4 (Av false))) (zF _ w.heap.size 5 (I ⟨#[]⟩))) (zF _ w.heap.size 6 (X sa (Z sl) sc))) (zF _ w.heap.size 7 (X da (Z dl) dc));refine Et (v:=.agg #[O Ai num,I (Aa j),X F (Z C) N,X ta (Z tl) tc,Av false,I ⟨#[]⟩,X sa (Z sl) sc,X da (Z dl) dc]) (by simp[Hm,results90,go_sem,aW,aX,aY,aZ,a0,a1,a2,a3]) rfl ⟨[O Ai num,I (Aa j),X F (Z C) N,X ta (Z tl) tc,Av false,I ⟨#[]⟩,X sa (Z sl) sc,X da (Z dl) dc],rfl,?_,ze ca.o q (Aq _),?_⟩
    ·rw[x.o];exact cB.o.other q (by omega) (by omega)
    ·rw[x.o]
     refine⟨_,_,_,_,rfl,?_,?_,?_,?_⟩
     ·exact zJ (zo bd.o (Ax _)) q (fun k p=>zI a.o bd.o (by decide) k p)
     ·exact zJ (zo bk.o (Ax _)) q (fun k p=>zI a.o bk.o (by decide) k p)
     ·exact zJ (zo bi.o (Ax _)) q (fun k p=>zI a.o bi.o (by decide) k p)
     ·exact zJ (zo ba.o (Ax _)) q (fun k p=>zI a.o ba.o (by decide) k p)
   ·rw[Az (by rw[hch])] at HC
    rw[hch] at x;go_wp2_with fail;have cC:Y _:=aK.o.other (zF l c.heap.size 4 (Av true)) (by omega) (by omega);have cb:=J (ze a5.o (zF l c.heap.size 4 (Av true)) (by omega));have cW:=J (zE bA.o (zF l c.heap.size 4 (Av true)) (by simp;omega));have db:Y ((Bs l ⟨c.heap.size,4,S⟩ (Av true)).heap[c.heap.size]?=V (Ae #[O Ai num,I (Aa j),X F (Z C) N,X ta (Z tl) tc,Av true,I ⟨#[]⟩,X S 0 0,X S 0 0] 126)):=zH m.o (Av true);have ck:Y _:=zJ Q.o (zF l c.heap.size 4 (Av true)) (zI m.o Q.o (by decide));have co:Y _:=zJ au.o (zF l c.heap.size 4 (Av true)) (zI m.o au.o (by decide));generalize(Bs l ⟨c.heap.size,4,S⟩ (Av true))=wXy1 at*;refine(qv cC.o _).mono ?_;rintro e bX ⟨rfl,bs,bN⟩;have cD:=J bs;have ah:Y (wXy1.grownBy bX (V rb)):=bN;have cc:=J (zD cb.o ah.o);have cX:=J (zE cW.o ah.o (by simp;omega));have dd:=J (zE db.o ah.o (by simp;omega));have cl:Y _:=zQ ck.o ah.o (by omega);have cp:Y _:=zQ co.o ah.o (by omega);go_wp2_with fail;refine(oZ cD.o).mono ?_;rintro e o ⟨rfl,bt,bO⟩;have cE:=J bt;have ai:Y (bX.grownBy o (V rb)):=bO;have cd:=J (zD cc.o ai.o);have cY:=J (zE cX.o ai.o (by simp;omega));have n:=J (zE dd.o ai.o (by simp;omega));have be:Y _:=zQ cl.o ai.o (by omega);have bl:Y _:=zQ cp.o ai.o (by omega);have JD:Y (RInv o rb g B ts (Hu ts (Cg ts E qK)).2 H):=cE;rw[show(Hu ts (Cg ts E (⟨#[114,101,112,108,97,99,101]⟩:As).data.toList)).1=(Hu ts (Cg ts E qK)).1 from rfl];generalize Hu ts (Cg ts E qK)=pq at*;obtain⟨tq,sQ⟩:=pq;simp only at JD HC ⊢;have aB:Y (bT=tq):=(Nn HC.o).1;have ak:Y (sC=Cg ts sQ [59]):=(Nn HC.o).2;rw[aB.o] at x;have d2:=cbi 5 n.o;have d3:=zm9 5 n.o;go_wp2_with fail;have cF:Y _:=JD.o.other (zF o c.heap.size 5 (I (Aa tq))) (by omega) (by omega);have ce:=J (ze cd.o (zF o c.heap.size 5 (I (Aa tq))) (by omega));have cZ:=J (zE cY.o (zF o c.heap.size 5 (I (Aa tq))) (by simp;omega));have de:Y ((Bs o ⟨c.heap.size,5,S⟩ (I (Aa tq))).heap[c.heap.size]?=V (Ae #[O Ai num,I (Aa j),X F (Z C) N,X ta (Z tl) tc,Av true,I (Aa tq),X S 0 0,X S 0 0] 126)):=zH n.o (I (Aa tq));have cm:Y _:=zJ be.o (zF o c.heap.size 5 (I (Aa tq))) (zI n.o be.o (by decide));have cq:Y _:=zJ bl.o (zF o c.heap.size 5 (I (Aa tq))) (zI n.o bl.o (by decide));generalize(Bs o ⟨c.heap.size,5,S⟩ (I (Aa tq)))=wXy4 at*;refine(qv cF.o _).mono ?_;rintro e bY ⟨rfl,bu,bP⟩;have bz:=J bu;have dE:=zO bz.o.rd;have aj:Y (wXy4.grownBy bY (V rb)):=bP;have cf:=J (zD ce.o aj.o);have c0:=J (zE cZ.o aj.o (by simp;omega));have aO:=J (zE de.o aj.o (by simp;omega));have aF:Y _:=zQ cm.o aj.o (by omega);have aJ:Y _:=zQ cq.o aj.o (by omega);have cu:Y (RInv bY rb g B ts sC H):=by rw[ak.o];exact bz.o
    go_wp2_with fail;refine(sU cu.o c.heap.size _ _ _ _ _ _ aO.o (by omega) (by omega)).mono ?_;rintro e wE ⟨rfl,IE,KE,vS,vD,aq,ab,aa⟩;obtain⟨sa,sc,rfl⟩:=zL ab;obtain⟨da,dc,rfl⟩:=zL aa;have JE:=J IE;have CE:Y (w.grownBy wE (V rb)):=wy cf.o KE (by omega);have aL:Y _:=KE.keep c0.o (by omega) (by omega);have aC:Y _:=vp aF.o KE (fun k p=>⟨by have:=(An aF.o k p).1;omega,zI aO.o aF.o (by decide) k p⟩);have aG:Y _:=vp aJ.o KE (fun k p=>⟨by have:=(An aJ.o k p).1;omega,zI aO.o aJ.o (by decide) k p⟩);have ao:=J aq;have am:=J ab;have al:=J aa;generalize Il ts sC=pe at*;obtain⟨⟨sl,dl⟩,dz⟩:=pe;simp only at JE am al ao x;go_wp2_with fail;refine(qv JE.o _).mono ?_;rintro e bZ ⟨rfl,bv,bQ⟩;have cG:=J bv;have z:Y (wE.grownBy bZ (V rb)):=bQ;have cg:=J (zD CE.o z.o);have b:=J (zE aL.o z.o (by simp;omega));have f:=J (zE ao.o z.o (by simp;omega));have bf:Y _:=zQ aC.o z.o (by omega);have bm:Y _:=zQ aG.o z.o (by omega);have bj:Y _:=zQ am.o z.o (by omega);have bb:Y _:=zQ al.o z.o (by omega);have dh:=cbi 0 f.o;have di:=cbi 1 f.o;have dj:=cbi 2 f.o;have dk:=cbi 3 f.o;have dm:=cbi 4 f.o;have dn:=cbi 5 f.o;have dp:=cbi 6 f.o;have dq:=cbi 7 f.o;have aW:=cbi 0 b.o;have dr:=zm9 0 b.o;have aX:=cbi 1 b.o;have ds:=zm9 1 b.o;have aY:=cbi 2 b.o;have dt:=zm9 2 b.o;have aZ:=cbi 3 b.o;have du:=zm9 3 b.o;have a0:=cbi 4 b.o;have dv:=zm9 4 b.o;have a1:=cbi 5 b.o;have dw:=zm9 5 b.o;have a2:=cbi 6 b.o;have dx:=zm9 6 b.o;have a3:=cbi 7 b.o;have dy:=zm9 7 b.o;go_wp2;have q:=zD (zD (zD (zD (zD (zD (zD (zF bZ w.heap.size 0 (O Ai num)) (zF _ w.heap.size 1 (I (Aa j)))) (zF _ w.heap.size 2 (X F (Z C) N))) (zF _ w.heap.size 3 (X ta (Z tl) tc))) (zF _ w.heap.size 4 (Av true))) (zF _ w.heap.size 5 (I (Aa tq)))) (zF _ w.heap.size 6 (X sa (Z sl) sc))) (zF _ w.heap.size 7 (X da (Z dl) dc));refine Et (v:=.agg #[O Ai num,I (Aa j),X F (Z C) N,X ta (Z tl) tc,Av true,I (Aa tq),X sa (Z sl) sc,X da (Z dl) dc]) (by simp[Hm,results90,go_sem,aW,aX,aY,aZ,a0,a1,a2,a3]) rfl ⟨[O Ai num,I (Aa j),X F (Z C) N,X ta (Z tl) tc,Av true,I (Aa tq),X sa (Z sl) sc,X da (Z dl) dc],rfl,?_,ze cg.o q (Aq _),?_⟩
    ·rw[x.o];exact cG.o.other q (by omega) (by omega)
    ·rw[x.o]
     refine⟨_,_,_,_,rfl,?_,?_,?_,?_⟩
     ·exact zJ (zo bf.o (Ax _)) q (fun k p=>zI b.o bf.o (by decide) k p)
     ·exact zJ (zo bm.o (Ax _)) q (fun k p=>zI b.o bm.o (by decide) k p)
     ·exact zJ (zo bj.o (Ax _)) q (fun k p=>zI b.o bj.o (by decide) k p)
     ·exact zJ (zo bb.o (Ax _)) q (fun k p=>zI b.o bb.o (by decide) k p)
def Safe (w:Ag)(row:Br Ad)(l:A Cs):Prop:=∀k c t f,row=V k->w.heap[k]?=V (Ae c t f)->t ∉ l
theorem za (w:Ag)(l:A Cs):Safe w S l:=by intro k c t f h;cases h
theorem xQ {c:Array Aj}{t:Cs}{f:Ad×Ad}{l:A Cs}(h:w.heap[b]?=V (Ae c t f))(a:t ∉ l):Safe w (V b) l:=by grind[Safe]
theorem xk {s:Ad}{a:A Aj}{l:A Cs}(h:w.ownsRow B e s v n a)(b:e ∉ l):Safe w v.ownBlock l:=by grind[qT,Option.some.injEq,Safe]
theorem x7 {s:Ad}{a:A Aj}{row:Br Ad}{l:A Cs}(h:w.ownsRow B e s v n a)(c:w.grownBy w' row)(d:Safe w row l)(b:e∈l):w'.ownsRow B e s v n a:=by grind[zK,qT,Safe]
def leaves:A Cs:=[181,183,185,9]
theorem RuleVal.keep {a:A Aj}{r:R.Rl}{row:Br Ad}(h:RuleVal w a r)(g:w.grownBy w' row)(i:Safe w row leaves):RuleVal w' a r:=by
 obtain⟨k,m,l,j,e,b,c,d,f⟩:=h
 grind[x7,R.Rl,RuleVal,Safe,leaves]
theorem All2.map {α β:Type}{P Q:α->β->Prop}{l:A α}{m:A β}(h:All2 P l m)(c:∀a b,P a b->Q a b):All2 Q l m:=by
 induction h <;> grind[All2]
theorem All2.snoc {α β:Type}{P:α->β->Prop}{l:A α}{m:A β}(h:All2 P l m){a:α}{b:β}(c:P a b):All2 P (l++[a]) (m++[b]):=by
 induction h <;> grind[All2]
def RulesRowB (w:Ag)(B:Ad)(v:Aj)(rs:A R.Rl):Prop:=
 ∃css:A (A Aj),w.ownsRow B 126 8 v (Z rs) css.flatten/\All2 (RuleVal w) css rs
def rtags:A Cs:=126::leaves
theorem RulesRowB.keep {f:A R.Rl}{row:Br Ad}(h:RulesRowB w B v f)(d:w.grownBy w' row)(j:Safe w row rtags):RulesRowB w' B v f:=by
 obtain⟨c,g,i⟩:=h;refine⟨c,x7 g d j (by decide),i.map fun a b hab=>hab.keep d ?_⟩
 grind[x7,List.mem_cons_of_mem,R.Rl,RulesRowB,Safe,rtags]
theorem RulesRowB.zero {b:A R.Rl}(h:RulesRowB w B v b):RulesRow w v b:=by
 obtain⟨a,c,d⟩:=h;exact⟨a,zo c (Ax _),d⟩
structure R.Hst where
 name:A Ab
 rules:A R.Rl
def HostVal (w:Ag)(cells:A Aj)(h:R.Hst):Prop:=∃vR,cells=[I (Aa h.name),vR]/\RulesRow w vR h.rules
def HostsRow (w:Ag)(B:Ad)(v:Aj)(hs:A R.Hst):Prop:=
 ∃css:A (A Aj),w.ownsRow B 119 2 v (Z hs) css.flatten/\All2 (HostVal w) css hs
def htags:A Cs:=119::rtags
theorem RulesRow.keep {a:A R.Rl}{row:Br Ad}(h:RulesRow w v a)(b:w.grownBy w' row)(c:Safe w row rtags):RulesRow w' v a:=
 (RulesRowB.keep (B:=0) h b c)
theorem HostVal.keep {a:A Aj}{h:R.Hst}{row:Br Ad}(f:HostVal w a h)(c:w.grownBy w' row)(d:Safe w row rtags):HostVal w' a h:=by
 obtain⟨g,e,b⟩:=f;exact⟨g,e,b.keep c d⟩
theorem HostsRow.keep {g:A R.Hst}{row:Br Ad}(h:HostsRow w B v g)(f:w.grownBy w' row)(d:Safe w row htags):HostsRow w' B v g:=by
 obtain⟨c,i,j⟩:=h;refine⟨c,x7 i f d (by decide),j.map fun a b hab=>hab.keep f ?_⟩
 grind[x7,List.mem_cons_of_mem,R.Hst,HostsRow,Safe,htags]
theorem wV {a:A (A Aj)}{b:A R.Hst}(h:All2 (HostVal w) a b)(k:Ad)(d:k<Z b):a.flatten[k*2]?=V (I (Aa b[k].name)):=by
 induction h generalizing k with
 |nil=>simp at d
 | @cons c r cs rs hc _ ih=>
  obtain⟨f,rfl,_⟩:=hc
  match k with
  |0=>rfl
  |k+1=>
   rw[Ci,Cl (by simp;omega)];have:=ih k (by simpa using d);simp only[Bb,Bu];rw[show(k+1)*2-(0+1+1)=k*2 by omega];exact this
def R.rlLoop (ts:A Bx):Ad->Bw->A R.Rl->A R.Rl×Bw
 |0,st,acc=>(acc,st)
 |n+1,st,acc=>if Fz st (Bj ts st) qz then R.rlLoop ts n (R.ruleS ts st (Z acc) (acc.map R.Rl.number)).2 (acc++[(R.ruleS ts st (Z acc) (acc.map R.Rl.number)).1]) else (acc,st)
def R.wHost:A Ab:=[104,111,115,116]
def R.hsA2 (ts:A Bx)(s2:Bw)(names:A (A Ab)):A Ab×Bw:=
 (Cj (Bj ts s2).s,R.among names (Cj (Bj ts s2).s) (Bj ts s2).at_ (Cw (Fg ts s2 34) (Hq (Bj ts s2).s true) 4 (Bj ts s2).at_))
def R.hsA (ts:A Bx)(st:Bw)(names:A (A Ab)):A Ab×Bw:=
 R.hsA2 ts (Cw (Cg ts st R.wHost) (decide ((Z names:Ak)<4)) 3 (Bj ts st).at_) names
def R.hsB (ts:A Bx)(a:A Ab×Bw):R.Hst×Bw:=
 (⟨a.1,(R.rlLoop ts (Z ts+1) (Cg ts a.2 [123]) []).1⟩,Cg ts (R.rlLoop ts (Z ts+1) (Cg ts a.2 [123]) []).2 [125])
def R.hostS (ts:A Bx)(st:Bw)(names:A (A Ab)):R.Hst×Bw:=R.hsB ts (R.hsA ts st names)
theorem rI (ts:A Bx)(st:Bw):st.K<=(Hu ts st).2.K:=by grind[Hu,Om,R.kindS_K,Bx,Bw]
theorem zjJ (ts:A Bx)(st:Bw):st.K<=(R.rlB ts st).2.K:=by grind[R.rlB,Nat.le_trans,Qf,rI,Bx,Bw]
theorem zjK (ts:A Bx)(st:Bw):st.K<=(R.rlC ts st).2.K:=by
 unfold R.rlC;split
 ·exact Bi (Bi (Qf _ _ _) (rI _ _)) (Qf _ _ _)
 ·exact Aq _
theorem zaJ (ts:A Bx)(n:Ad):∀(st:Bw) (a:A R.Mt),st.K<=(R.mtLoop ts n st a).2.K:=by
 induction n with
 |zero=>intro st a;exact Aq _
 |succ n ih=>
  intro st a;unfold R.mtLoop;split
  ·rename_i h;have:=fM ts st a h;have:=ih (yK ts st a).1 (yK ts st a).2;omega
  ·exact Aq _
theorem zaM (ts:A Bx)(n:Ad):∀(st:Bw) (i:Ad) (a:A (A Ab×Ak)),st.K<=(R.tgLoop ts n st i a).2.K:=by
 induction n with
 |zero=>intro st i a;exact Aq _
 |succ n ih=>
  intro st i a;unfold R.tgLoop;split
  ·split
   ·have b:=fP ts st i a
    have c:=Qf ts (qJ ts st i a).1 [44];have:=ih (Cg ts (qJ ts st i a).1 [44]) (i+1) (qJ ts st i a).2
    omega
   ·exact fP ts st i a
  ·exact Aq _
theorem a8 (ts:A Bx)(st:Bw):st.K<=(Hg ts st).2.K:=by grind[Hg,Qf,Nat.le_trans,zaM,Om,Bx,Bw]
theorem zaL (ts:A Bx)(n:Ad):∀(st:Bw) (a:A (A Ab×A Ab)),st.K<=(R.stLoop ts n st a).2.K:=by
 induction n with
 |zero=>intro st a;exact Aq _
 |succ n ih=>
  intro st a;unfold R.stLoop;split
  ·rename_i h;have:=fN ts st a h;have:=ih (yL ts st a).1 (yL ts st a).2;omega
  ·exact Aq _
theorem zaH (ts:A Bx)(a:A (A Ab))(n:Ad):∀(st:Bw) (b:A (A Ab)),st.K<=(R.dpLoop ts a n st b).2.K:=by
 induction n with
 |zero=>intro st b;exact Aq _
 |succ n ih=>
  intro st b;unfold R.dpLoop;split
  ·rename_i h;have:=fJ ts st a b h;have:=ih (yJ ts st a b).1 (yJ ts st a b).2;omega
  ·exact Aq _
theorem zaI (ts:A Bx)(st:Bw):st.K<=(Il ts st).2.K:=by grind[Il,Nat.le_trans,zaL,zaH,Bx,Bw]
theorem zaF (l:A Ak)(n p:Ak)(st:Bw):(R.amongN l n p st).K=st.K:=by
 unfold R.amongN
 induction l generalizing st <;> grind[R.amongN,Om,Bw]
theorem R.ruleS_K (ts:A Bx)(st:Bw)(i:Ad)(l:A Ak)(h:Fz st (Bj ts st) qz=true):st.K+1<=(R.ruleS ts st i l).2.K:=by grind[Cg,qz,R.needS_yes,R.rlA,R.rlA2,zaF,Om,R.kindS_K,Cw,Bj,zjJ,zaJ,R.rlB,a8,If,zjK,Hg,zaI,R.rlC,Qf,Il,R.ruleS,R.ruleT,R.ruleE,Bx,Bw,Fz]
def bK (s:A Ab):Ee:=Hq s true
def x8 (l : A Ab) (st : P.St) (names : A (A Ab)) : A Ab × P.St :=
  (Cj (qA l st).1,
   zh (zh (qA l st).2 (!bK (qA l st).1) 4 st.tok.at_) (names.any fun n => decide (n=Cj (qA l st).1)) 5 st.tok.at_)
def xi (l:A Ab)(st:P.St)(word:A Ab):A Ab×P.St:=
 ((qA l (zS l st word)).1,zS l (zh (qA l (zS l st word)).2 (!R.path (qA l (zS l st word)).1) 4 (zS l st word).tok.at_) [59])
def qV (l:A Ab)(st:P.St):A Ab×P.St:=
 (Cj (qA l st).1,zh (qA l st).2 (!R.header (qA l st).1 true) 4 st.tok.at_)
def x6 (l:A Ab)(st:P.St):A Ab×P.St:=
 ((qA l (zS l st [61])).1,zh (qA l (zS l st [61])).2 (!R.value (qA l (zS l st [61])).1) 4 (zS l st [61]).tok.at_)
structure P.Mt where
 name:A Ab
 ask:Ee
 val:A Ab
def jC (l:A Ab)(st:P.St)(n:Ad):A Ab×P.St:=qV l (zS l (zy st n 3) qO)
def vz (l:A Ab)(st:P.St):A Ab×P.St:=if qH st [61] then x6 l st else ([],st)
def qo (l:A Ab)(st:P.St)(n:Ad):P.Mt×P.St:=
 (⟨(jC l st n).1,qH (jC l st n).2 [61],(vz l (jC l st n).2).1⟩,zS l (vz l (jC l st n).2).2 [59])
def xT (l:A Ab)(st:P.St)(n:Ad):A Ab×P.St:=
 ((qA l (zy st n 4)).1,zh (qA l (zy st n 4)).2 (!R.upstream (qA l (zy st n 4)).1) 4 (zy st n 4).tok.at_)
def zb (l : A Ab) (st : P.St) (n : Ad) : (A Ab × Ak) × P.St :=
  (((xT l st n).1, (qp l (xT l st n).2).1),
   zh (qp l (xT l st n).2).2 (decide (1000<(qp l (xT l st n).2).1)) 4 (xT l st n).2.tok.at_)
def xG (l:A Ab):Ad->P.St->A (A Ab×Ak)->A (A Ab×Ak)×P.St
 |0,st,acc=>(acc,st)
 |n+1,st,acc=>if qH st [44] then xG l n (zb l (zS l st [44]) (Z acc)).2 (acc++[(zb l (zS l st [44]) (Z acc)).1]) else (acc,st)
def kh:A Ab:=[116,111]
def yA (l:A Ab)(st:P.St):A (A Ab×Ak)×P.St:=
 xG l (Z l+1) (zb l (zS l st kh) 0).2 [(zb l (zS l st kh) 0).1]
def qS (l : A Ab) (st : P.St) : A (A Ab × Ak) × P.St :=
  ((yA l st).1.filter fun t => !(t.2 == 0),
   zh (zS l (yA l st).2 [59]) (((yA l st).1.filter fun t => !(t.2 == 0)).isEmpty) 4 st.tok.at_)
structure P.Rl where
 number:Ak
 path:A Ab
 ms:A P.Mt
 tg:A (A Ab×Ak)
 rep:A Ab
 sets:A (A Ab×A Ab)
 drops:A (A Ab)
structure P.Hst where
 name:A Ab
 rules:A P.Rl
def qi (l:A Ab)(st:P.St)(am:A (A Ab)):A Ab×P.St:=
 ((qV l st).1,zh (qV l st).2 (am.any fun n=>decide (n=(qV l st).1)) 5 st.tok.at_)
def jl (l:A Ab)(st:P.St)(n:Ad)(am:A (A Ab)):A Ab×P.St:=qi l (zS l (zy st n 3) xX) am
def xj (l:A Ab)(st:P.St)(n:Ad)(am:A (A Ab)):(A Ab×A Ab)×P.St:=
 (((jl l st n am).1,(x6 l (jl l st n am).2).1),zS l (x6 l (jl l st n am).2).2 [59])
def je (l:A Ab)(st:P.St)(n:Ad)(am:A (A Ab)):A Ab×P.St:=qi l (zS l (zy st n 3) qy) am
def xO (l:A Ab)(st:P.St)(n:Ad)(am:A (A Ab)):A Ab×P.St:=((je l st n am).1,zS l (je l st n am).2 [59])
def qw (l:A Ab):Ad->P.St->A P.Mt->A P.Mt×P.St
 |0,st,acc=>(acc,st)
 |n+1,st,acc=>if qH st qO then qw l n (qo l st (Z acc)).2 (acc++[(qo l st (Z acc)).1]) else (acc,st)
def qk (l:A Ab):Ad->P.St->A (A Ab×A Ab)->A (A Ab×A Ab)×P.St
 |0,st,acc=>(acc,st)
 |n+1,st,acc=>if qH st xX then qk l n (xj l st (Z acc) (acc.map Bq)).2 (acc++[(xj l st (Z acc) (acc.map Bq)).1]) else (acc,st)
def qf (l:A Ab)(sets:A (A Ab)):Ad->P.St->A (A Ab)->A (A Ab)×P.St
 |0,st,acc=>(acc,st)
 |n+1,st,acc=>if qH st qy then qf l sets n (xO l st (Z acc) (sets++acc)).2 (acc++[(xO l st (Z acc) (sets++acc)).1]) else (acc,st)
def xp (l:A Ab)(st:P.St)(others:A Ak):Ak×P.St:=
 ((qp l st).1,zh (zh (qp l st).2 (decide (65535<(qp l st).1)) 4 st.tok.at_) (others.any fun n=>decide (n=(qp l st).1)) 5 st.tok.at_)
def jS (l:A Ab)(st:P.St)(others:A Ak):Ak×P.St:=xp l (zS l (zy st (Z others) 6) qz) others
def vH (l:A Ab)(st:P.St):A Ab×P.St:=xi l (zS l st [123]) jB
def yu (l:A Ab)(st:P.St):A Ab×P.St:=if qH st qK then xi l st qK else ([],st)
def wi (l:A Ab)(n:Ak)(p:A Ab)(m:A P.Mt)(t:A (A Ab×Ak))(c:A Ab×P.St)(s:A (A Ab×A Ab)×P.St):P.Rl×P.St:=
 (⟨n,p,m,t,c.1,s.1,(qf l (s.1.map Bq) (Z l+1) s.2 []).1⟩,zS l (qf l (s.1.map Bq) (Z l+1) s.2 []).2 [125])
def jy (l:A Ab)(n:Ak)(p:A Ab)(m:A P.Mt)(t:A (A Ab×Ak)×P.St):P.Rl×P.St:=
 wi l n p m t.1 (yu l t.2) (qk l (Z l+1) (yu l t.2).2 [])
def uh (l:A Ab)(n:Ak)(p:A Ab)(m:A P.Mt×P.St):P.Rl×P.St:=jy l n p m.1 (qS l m.2)
def ui (l:A Ab)(a:Ak×P.St):P.Rl×P.St:=uh l a.1 (vH l a.2).1 (qw l (Z l+1) (vH l a.2).2 [])
def xI (l:A Ab)(st:P.St)(others:A Ak):P.Rl×P.St:=ui l (jS l st others)
def xB (l:A Ab):Ad->P.St->A P.Rl->A P.Rl×P.St
 |0,st,acc=>(acc,st)
 |n+1,st,acc=>if qH st qz then xB l n (xI l st (acc.map P.Rl.number)).2 (acc++[(xI l st (acc.map P.Rl.number)).1]) else (acc,st)
def kg (l:A Ab)(st:P.St)(names:A (A Ab)):A Ab×P.St:=x8 l (zS l (zy st (Z names) 4) R.wHost) names
def eu (l:A Ab)(a:A Ab×P.St):P.Hst×P.St:=
 (⟨a.1,(xB l (Z l+1) (zS l a.2 [123]) []).1⟩,zS l (xB l (Z l+1) (zS l a.2 [123]) []).2 [125])
def xP (l:A Ab)(st:P.St)(names:A (A Ab)):P.Hst×P.St:=eu l (kg l st names)
def qg (l:A Ab):Ad->P.St->A P.Hst->A P.Hst×P.St
 |0,st,acc=>(acc,st)
 |n+1,st,acc=>if qH st R.wHost then qg l n (xP l st (acc.map P.Hst.name)).2 (acc++[(xP l st (acc.map P.Hst.name)).1]) else (acc,st)
def kW (l:A Ab):P.St:=⟨zg l 0,false,0,0⟩
def zp (l:A Ab):A P.Hst×P.St:=((qg l (Z l+1) (kW l) []).1,jk l (qg l (Z l+1) (kW l) []).2)
theorem rF (l:A Ab)(p:Ad):p<=(zg l p).at_:=by unfold zg qE;simp
theorem dH (l:A Ab)(st:P.St)(b:Ee):st.tok.at_<=(qR l st b).tok.at_:=by
 unfold qR;split
 ·have:=rF l (st.tok.at_+Z st.tok.raw)
  show st.tok.at_<=(zg l (st.tok.at_+Z st.tok.raw)).at_
  omega
 ·exact Aq _
theorem yw (l:A Ab)(st:P.St)(r:A Ab):st.tok.at_<=(zS l st r).tok.at_:=dH _ _ _
theorem kF (l:A Ab)(st:P.St)(r:A Ab)(h:qH st r=true)(a:1<=Z r):st.tok.at_+1<=(zS l st r).tok.at_:=by
 unfold qH at h;simp only[Ez,Xg,Gd] at h;unfold zS qR;rw[Az ⟨Cf h.2,h.1⟩];have:=rF l (st.tok.at_+Z st.tok.raw);show st.tok.at_+1<=(zg l (st.tok.at_+Z st.tok.raw)).at_;rw[h.2] at this ⊢
 omega
theorem j5 (st:P.St)(b:Ee)(e a:Ak):(zh st b e a).tok=st.tok:=by grind[zh,xH,P.St]
theorem kG (st:P.St)(a b:Ak):(zy st a b).tok=st.tok:=j5 _ _ _ _
theorem fF (l:A Ab)(st:P.St):st.tok.at_<=(qA l st).2.tok.at_:=dH _ _ _
theorem mJ (l:A Ab)(st:P.St):st.tok.at_<=(qp l st).2.tok.at_:=dH _ _ _
theorem gC (l:A Ab)(st:P.St):st.tok.at_<=(qV l st).2.tok.at_:=by grind[qV,j5,fF,P.St]
theorem mL (l:A Ab)(st:P.St):st.tok.at_<=(x6 l st).2.tok.at_:=by grind[x6,j5,Nat.le_trans,yw,fF,P.St]
theorem dI (l:A Ab)(st:P.St)(w:A Ab):(zS l st w).tok.at_<=(xi l st w).2.tok.at_:=by grind[xi,Nat.le_trans,yw,j5,fF,P.St,zS]
theorem dz (l:A Ab)(st:P.St)(a:A (A Ab)):st.tok.at_<=(qi l st a).2.tok.at_:=by grind[qi,j5,gC,P.St]
theorem fG (l:A Ab)(st:P.St)(n:Ad):st.tok.at_<=(zb l st n).2.tok.at_:=by grind[zb,j5,Nat.le_trans,mJ,xT,fF,zy,kG,P.St]
variable {st:P.St}
theorem kH {r:A Ab}{a b:Ak}(h:qH st r=true):qH (zy st a b) r=true:=by grind[zy,zh,xH,qH,P.St]
theorem mI (l:A Ab)(st:P.St)(n:Ad)(h:qH st qO=true):st.tok.at_+1<=(qo l st n).2.tok.at_:=by
 unfold qo;simp only;refine Bi ?_ (yw _ _ _);have a:=kF l (zy st n 3) qO (kH h) (by decide);rw[kG] at a;have b:(zS l (zy st n 3) qO).tok.at_<=(jC l st n).2.tok.at_:=gC _ _;have c:(jC l st n).2.tok.at_<=(vz l (jC l st n).2).2.tok.at_:=by
  unfold vz;split
  ·exact mL _ _
  ·exact Aq _
 omega
theorem mK (l:A Ab)(st:P.St)(n:Ad)(a:A (A Ab))(h:qH st xX=true):st.tok.at_+1<=(xj l st n a).2.tok.at_:=by grind[xj,Nat.le_trans,yw,kF,zy,xX,kH,kG,zS,jl,dz,mL,P.St,qH]
theorem dG (l:A Ab)(st:P.St)(n:Ad)(a:A (A Ab))(h:qH st qy=true):st.tok.at_+1<=(xO l st n a).2.tok.at_:=by grind[xO,Nat.le_trans,yw,kF,zy,qy,kH,kG,zS,je,dz,P.St,qH]
theorem em (l : A Ab) (n : Ad) : ∀ (st : P.St) (acc : A P.Mt), st.tok.at_ ≤ (qw l n st acc).2.tok.at_ := by
  induction n with
  | zero => intro st acc; exact Aq _
  | succ n ih => intro st acc; rw [qw]; split
                 · rename_i h; have := mI l st (Z acc) h; have := ih (qo l st (Z acc)).2 (acc ++ [(qo l st (Z acc)).1]); omega
                 · exact Aq _
theorem ep (l : A Ab) (n : Ad) : ∀ (st : P.St) (acc : A (A Ab × A Ab)), st.tok.at_ ≤ (qk l n st acc).2.tok.at_ := by
  induction n with
  | zero => intro st acc; exact Aq _
  | succ n ih => intro st acc; rw [qk]; split
                 · rename_i h; have := mK l st (Z acc) (acc.map Bq) h; have := ih (xj l st (Z acc) (acc.map Bq)).2 (acc ++ [(xj l st (Z acc) (acc.map Bq)).1]); omega
                 · exact Aq _
theorem ei (l : A Ab) (sets : A (A Ab)) (n : Ad) : ∀ (st : P.St) (acc : A (A Ab)), st.tok.at_ ≤ (qf l sets n st acc).2.tok.at_ := by
  induction n with
  | zero => intro st acc; exact Aq _
  | succ n ih => intro st acc; rw [qf]; split
                 · rename_i h; have := dG l st (Z acc) (sets ++ acc) h; have := ih (xO l st (Z acc) (sets ++ acc)).2 (acc ++ [(xO l st (Z acc) (sets ++ acc)).1]); omega
                 · exact Aq _
theorem et (l : A Ab) (n : Ad) : ∀ (st : P.St) (acc : A (A Ab × Ak)), st.tok.at_ ≤ (xG l n st acc).2.tok.at_ := by
  induction n with
  | zero => intro st acc; exact Aq _
  | succ n ih => intro st acc; rw [xG]; split
                 · have := yw l st [44]; have := fG l (zS l st [44]) (Z acc); have := ih (zb l (zS l st [44]) (Z acc)).2 (acc ++ [(zb l (zS l st [44]) (Z acc)).1]); omega
                 · exact Aq _
theorem sr (l:A Ab)(st:P.St):st.tok.at_<=(qS l st).2.tok.at_:=by grind[qS,j5,Nat.le_trans,yw,yA,fG,et,P.St]
theorem zgP (l:A Ab)(st:P.St):st.tok.at_<=(yu l st).2.tok.at_:=by
 unfold yu;split
 ·exact Bi (yw _ _ _) (dI _ _ _)
 ·exact Aq _
theorem rG (l:A Ab)(st:P.St)(o:A Ak)(h:qH st qz=true):st.tok.at_+1<=(xI l st o).2.tok.at_:=by
 have a:=kF l (zy st (Z o) 6) qz (kH h) (by decide);rw[kG] at a;have b:(zS l (zy st (Z o) 6) qz).tok.at_<=(jS l st o).2.tok.at_:=by
  unfold jS xp;simp only[j5];exact mJ _ _
 have c:(jS l st o).2.tok.at_<=(vH l (jS l st o).2).2.tok.at_:=by
  unfold vH;exact Bi (Bi (yw _ _ _) (yw _ _ _)) (dI _ _ _)
 grind[kF,zy,qz,kH,kG,zS,jS,xp,j5,mJ,vH,Nat.le_trans,yw,dI,em,xI,ui,uh,jy,wi,ei,ep,zgP,sr,P.St,qH]
theorem eo (l : A Ab) (n : Ad) : ∀ (st : P.St) (acc : A P.Rl), st.tok.at_ ≤ (xB l n st acc).2.tok.at_ := by
  induction n with
  | zero => intro st acc; exact Aq _
  | succ n ih => intro st acc; rw [xB]; split
                 · rename_i h; have := rG l st (acc.map P.Rl.number) h; have := ih (xI l st (acc.map P.Rl.number)).2 (acc ++ [(xI l st (acc.map P.Rl.number)).1]); omega
                 · exact Aq _
theorem zdL (l:A Ab)(st:P.St)(o:A (A Ab))(h:qH st R.wHost=true):st.tok.at_+1<=(xP l st o).2.tok.at_:=by grind[kF,zy,R.wHost,kH,kG,zS,kg,x8,j5,fF,xP,eu,Nat.le_trans,yw,eo,P.St,qH]
def uf (n:Ad)(pcs:A (A Ab)):Ee:=
 match pcs with
 |[]=>false
 |p::ps=>Ec (fun c=>Ih c true) p && (decide (0<n+Z p) && ps.all fun x=>Gx x true)
theorem bL (a r:A Ab)(n:Ad)(h:∀c∈a,c≠46):Ht true (a++r) n=(Ec (fun c=>Ih c true) a && Ht true r (n+Z a)):=by
 induction a generalizing n with
 |nil=>simp[Ec]
 |cons c a ih=>
  have g:=h c (by simp);have b:¬(c.toNat:Ak)=46:=by
   intro e;apply g;apply Hb.1;show c.toNat=46;omega
  rw[Of,Ht,Aw (fun x=>b x.1),ih (n+1) (fun d hd=>h d (by simp[hd]))];have f:Ec (fun c=>Ih c true) (c::a)=(Ih c.toNat true && Ec (fun c=>Ih c true) a):=by simp[Ec]
  rw[f,Bb,show n+1+Z a=n+(Z a+1) by omega]
  cases Ih (↑c.toNat) true <;> simp
theorem ew (l:A Ab)(x:Ab):(Lib.index l [x] = -1/\∀c∈l,c≠x)\/∃i:Ad,Lib.index l [x]=i/\i<Z l/\l=l.take i++x::l.drop (i+1)/\∀c∈l.take i,c≠x:=by
 induction l with
 |nil=>left;exact⟨rfl,by simp⟩
 |cons c r ih=>
  rw[jq]
  by_cases h:c=x
  ·right;exact⟨0,by rw[Az h];rfl,by simp,by simp[h],by simp⟩
  ·rw[Aw h]
   rcases ih with ⟨h1,h2⟩|⟨i,h1,h2,h3,h4⟩
   ·left;refine⟨by rw[Az h1],?_⟩
    intro d a;rcases En.1 a with rfl|a
    ·exact h
    ·exact h2 d a
   ·right
    refine⟨i+1,by rw[Aw (by omega),h1];rfl,by simp;omega,?_,?_⟩
    ·rw[Fk,In,Of,<-h3]
    ·intro d a
     rw[Fk] at a;rcases En.1 a with rfl|a
     ·exact h
     ·exact h4 d a
theorem mO:∀(m:Ad) (l:A Ab) (n:Ad),Z l<=m->uf n (Io [46] 0 (Sa l [46]) l)=Ht true l n:=by
 intro m
 induction m with
 |zero=>
  intro l n h;have:l=[]:=Ep.1 (by omega);subst this;rw[show Sa [] [46]=0 from rfl];simp[Io,uf,Ht,Ec]
 |succ m ih=>
  intro l n h;rcases ew l 46 with ⟨h1,h2⟩|⟨i,h1,h2,h3,h4⟩
  ·have d:=Lib.count_miss h1
   rw[d];have:=bL l [] n h2;rw[Cv] at this;rw[this];simp[Io,uf,Ht]
  ·have d:=Lib.count_hit (by simp) h1
   rw[d,Nat.add_comm,Io,Aw (by rw[h1];simp)];have f:=ih (l.drop (i+1)) 0 (by rw[Cy];omega);have a:=bL (l.take i) (46::l.drop (i+1)) n h4;rw[<-h3] at a;rw[a,Ht];have g:Z (l.take i)=i:=by rw[Cq];omega
   rw[g,h1];simp only[Xe,Xq,Bb,Bu];rw[uf];rw[g];have b:((Io [46] 0 (Sa (l.drop (i+1)) [46]) (l.drop (i+1))).all fun x=>Gx x true)=uf 0 (Io [46] 0 (Sa (l.drop (i+1)) [46]) (l.drop (i+1))):=by
    generalize j:Io [46] 0 (Sa (l.drop (i+1)) [46]) (l.drop (i+1))=sp
    cases sp with
    |nil=>exfalso;revert j;cases Sa (l.drop (i+1)) [46] with
     |zero=>simp[Io]
     |succ k=>rw[Io];split <;> simp
    |cons p ps=>rw[Xi,uf];unfold Gx;simp[Bool.and_assoc]
   rw[b,f]
   by_cases c:0<n+i
   ·rw[Cf c,Bool.true_and,Az ⟨by decide,c⟩]
   ·rw[Ce c,Aw (fun x=>c x.2)];simp[Ih,R.smallI,R.digitI,Ql]
def sw (l:A Ab):Ee:=(Io [46] 0 (Sa l [46]) l).all fun x=>Gx x true
theorem dK (l:A Ab):sw l=Iv l true:=by
 unfold sw Iv;rw[<-mO (Z l) l 0 (Aq _)];generalize a:Io [46] 0 (Sa l [46]) l=sp
 cases sp with
 |nil=>exfalso;revert a;cases Sa l [46] with
  |zero=>simp[Io]
  |succ k=>rw[Io];split <;> simp
 |cons p ps=>rw[Xi,uf];unfold Gx;simp[Bool.and_assoc]
theorem zdN (l:A Ab):(decide (l=[42]) || sw (Mz l [42,46]))=Hq l true:=by
 rw[dK];unfold Hq Mz Mx
 by_cases b:l=[42]
 ·rw[Az b,Cf b];rfl
 ·rw[Aw b,Ce b,Qq]
  by_cases a:([42,46]:A Ab).isPrefixOf l=true
  ·rw[Az a]
   rw[List.isPrefixOf_iff_prefix] at a;obtain⟨r,rfl⟩:=a
   by_cases d:0<Z r
   ·rw[Az (by constructor;rfl;simp;omega)];rfl
   ·have:r=[]:=Ep.1 (by omega)
    subst this;rw[Aw (by simp)]
    decide
  ·rw[Aw a,Aw]
   intro⟨c,_⟩
   apply a
   rw[List.isPrefixOf_iff_prefix];exact⟨l.drop 2,by rw[<-c,He]⟩
theorem zdO (l:A Ab):decide (Iq l 32=l)=(decide (Z l=0) || (decide (l.head?≠V 32) && decide (l.getLast?≠V 32))):=by
 unfold Iq Lib.trimLeftB Lib.trimRightB;have g:∀(m:A Ab),Z (m.dropWhile (· == 32))<=Z m:=fun m=>List.IsSuffix.length_le (Ss _)
 have d:∀(m:A Ab),m.dropWhile (· == 32)=m↔m.head?≠V 32:=by
  intro m
  cases m with
  |nil=>simp
  |cons c m=>
   rw[List.dropWhile_cons]
   by_cases i:c=32
   ·subst i
    rw[Az (by simp)]
    constructor
    ·intro e;have:=g m;rw[e,Bb] at this;omega
    ·intro e;simp at e
   ·rw[Aw (by simpa using i)];simpa using i
 rw[Eb];simp only[Gd,Sn,Ez]
 constructor
 ·intro h
  by_cases j:Z l=0
  ·exact Or.inl j
  ·right
   have n:Z (l.reverse.dropWhile (· == 32)).reverse<=Z l:=by rw[Nv];have:=g l.reverse;rwa[Nv] at this
   have k:=g (l.reverse.dropWhile (· == 32)).reverse;rw[h] at k;have f:l.reverse.dropWhile (· == 32)=l.reverse:=by
    apply List.IsSuffix.eq_of_length (Ss _)
    rw[Nv] at *;omega
   rw[f,Xr] at h;have a:=(d l).1 h;have b:=(d l.reverse).1 f;rw[List.head?_reverse] at b;exact⟨a,b⟩
 ·intro h
  rcases h with h|⟨a,b⟩
  ·have:l=[]:=Ep.1 h
   subst this;rfl
  ·have f:l.reverse.dropWhile (· == 32)=l.reverse:=(d l.reverse).2 (by rw[List.head?_reverse];exact b)
   rw[f,Xr];exact(d l).2 a
def BytesAt (w:Ag)(b:Ad)(l:A Ab):Prop:=
 ∃(cur:Array Aj) (lo hi:Ad),w.heap[b]?=V (Ae cur 5 (lo,hi))/\(Z l)<=lo/\(Z l)<=cur.size/\∀(j:Ad) (c:Ab),l[j]?=V c->cur[j]?=V (O .u8 c.toNat)
theorem BytesAt.cell {l:A Ab}(h:BytesAt w b l){c:Ab}(a:l[j]?=V c):w.cell? ⟨b,j,S⟩=V (O .u8 c.toNat):=by grind[zB,BytesAt]
theorem BytesAt.free {l:A Ab}(h:BytesAt w b l)(g:j<Z l):w.frozen? ⟨b,j,S⟩=false:=by
 obtain⟨a,i,f,c,d,_,_⟩:=h;unfold World.frozen?
 grind[BytesAt]
theorem BytesAt.set {l:A Ab}(h:BytesAt w b l)(j:Ad)(n:j<Z l)(c:Ab):BytesAt (w.setCell ⟨b,j,S⟩ (O .u8 c.toNat)) b (l.set j c):=by
 obtain⟨a,k,i,d,f,g,m⟩:=h;refine⟨a.setIfInBounds j (O .u8 c.toNat),k,i,zH d _,by rw[Gv];exact f,by rw[Gv,Ff];exact g,?_⟩
 grind[zH,List.length_set,Array.size_setIfInBounds,BytesAt]
theorem BytesAt.new (w:Ag)(s:As):BytesAt (Na w 5 s) w.heap.size s.data.toList:=by
 refine⟨_,_,_,Lib.bytesWorld_at_new w _ s,?_,?_,?_⟩
 ·unfold Lib.bytesCells;simp
 ·unfold Lib.bytesCells;simp
 ·intro j c a
  unfold Lib.bytesCells;have b:j<s.data.size:=by
   have:=(Bo.1 a).1;simpa using this
  rw[Qr (by simpa using b),Array.getElem?_map];have:s.data[j]?=V c:=by rw[<-Nh];exact a
  rw[this];rfl
theorem zm0 (l:A Ab)(i:Ad)(h:i<(Aa l).size):l[i]?=V (Aa l)[i]:=by
 have a:=h;rw[Bd a];rfl
theorem zjB (c:Ab):((c.toNat:Ak)-65+97) % 256=(c+32).toNat:=by
 rw[UInt8.toNat_add];simp;omega
def uL (k:Ad)(l:A Ab):A Ab:=(l.take k).map Mi++l.drop k
theorem dJ (k:Ad)(l:A Ab):Z (uL k l)=Z l:=by grind[uL]
theorem ey (k:Ad)(l:A Ab)(h:k<Z l):(uL k l)[k]?=V l[k]:=by grind[uL]
theorem zaC (k:Ad)(l:A Ab)(h:k<Z l):uL (k+1) l=(uL k l).set k (Mi l[k]):=by
 unfold uL;rw[Co h,Ef,Ed (i:=k) h];have e:Z ((l.take k).map Mi)=k:=by simp;omega
 rw[Mg _ _ (by rw[e];exact Aq _),e,Gp,Vp,Bl]
 rfl
theorem tF (s:As)(w:Ag)(F:s.size<=1000000000000):Am prog 239 #[I s] w fun e w'=>e=Af (I (Aa (Cj s.data.toList)))/\w.grownBy w' S:=by
 have d:∀w,(convert 9 32 (I s)).run prog w = .ok (X (V ⟨w.heap.size,0,S⟩) s.size (grownCap w s.size 0 5)) (Na w 5 s):=fun w=>Lib.run_convert_string_bytes (u:=.string) w _ _ _ s (by kernel_rfl) (by kernel_rfl) (by kernel_rfl)
 have m:Y _:=BytesAt.new w s;have p:Y _:=ww w 5 s;go_in;go_wp2;generalize Na w 5 s=wB at*;generalize grownCap w s.size 0 5=cap at*
 go_loopw [10] (fun iv wr=>∃k:Ad,k<=s.size/\iv=O Ai k/\Y (BytesAt wr w.heap.size (uL k s.data.toList))/\Y (w.grownBy wr S)) (fun iv _=>s.size-(intOf iv).toNat)
 ·exact⟨0,Ax _,rfl,m,p⟩
 ·
  obtain⟨k,E,rfl,f,o⟩:=hrel
  by_cases t:k<s.size
  ·have g:k<Z s.data.toList:=by rw[Cp];exact t
   have B:=f.o.cell (ey k s.data.toList g);have C:=f.o.free (j:=k) (by rw[dJ];exact g);have x:Y _:=zaC k s.data.toList g;have y:Y _:=f.o.set k (by rw[dJ];exact g) (Mi s.data.toList[k]);have a:Y (Mi s.data.toList[k]=if Ql s.data.toList[k].toNat then s.data.toList[k]+32 else s.data.toList[k]):=rfl;have q:Y (Ql s.data.toList[k].toNat=false->BytesAt wr w.heap.size (uL (k+1) s.data.toList)):=fun h=>by
    have e:Mi s.data.toList[k]=s.data.toList[k]:=by unfold Mi;rw[h];rfl
    rw[x.o,e];have:(uL k s.data.toList).set k s.data.toList[k]=uL k s.data.toList:=by
     apply Qt
     intro i;rw[Xc]
     by_cases l:k=i
     ·subst l;rw[Az rfl,Az (by rw[dJ];exact g),ey k _ g]
     ·rw[Aw l]
    rw[this];exact f.o
   generalize s.data.toList[k]=c at*
   cases hL:Ql c.toNat
   ·have n:Y _:=q.o hL
    go_wp2_with (go_at_call 309;refine(fb _ _).mono ?_;rintro e w' ⟨rfl,rfl⟩);exact⟨⟨k+1,by omega,by go_num,n,o⟩,by simp[intOf];omega⟩
   ·rw[hL] at a
    simp only[Gq] at a;go_wp2_with (go_at_call 309;refine(fb _ _).mono ?_;rintro e w' ⟨rfl,rfl⟩);refine⟨⟨k+1,by omega,by go_num,?_,?_⟩,by simp[intOf];omega⟩
    ·show BytesAt _ _ _
     rw[x.o,show((c.toNat:Ak)-65+97) % 256=(Mi c).toNat by rw[a.o];exact zjB c];exact y.o
    ·exact ze o.o (zF _ _ _ _) (Aq _)
  ·have r:k=s.size:=by omega
   subst r;have b:uL s.size s.data.toList=Cj s.data.toList:=by
    unfold uL Cj;rw[Cc (by rw[Cp];exact Aq _),Ga (by rw[Cp];exact Aq _),Cv]
   rw[b] at f;have z:(convert 32 9 (X (V ⟨w.heap.size,0,S⟩) s.size cap)).run prog wr = .ok (I (Aa (Cj s.data.toList))) wr:=by
    have v:(Aa (Cj s.data.toList)).size=s.size:=by rw[Bz,kx,Cp]
    have:=Lib.run_convert_whole (P:=prog) wr 32 5 9 (by kernel_rfl) (by kernel_rfl) (by kernel_rfl) w.heap.size 0 (Aa (Cj s.data.toList)) (fun i l=>by
     rw[Gr]
     apply f.o.cell
     exact zm0 _ i l) cap
    rw[v] at this;exact this
   go_wp2;go_ret;exact⟨rfl,o.o⟩
def vF (c:Ak):Ee:=Ih c true
theorem sI (c:Ak)(w:Ag):Am prog 393 #[O .u8 c] w fun e w'=>e=Af (Av (vF c))/\w'=w:=gy c w
theorem lb (s:As)(w:Ag)(g:s.size<=Bh):Am prog 202 #[I s,.func (.func 393) #[] #[]] w fun e w'=>e=Af (O Ai (By vF s.data.toList:Ad))/\w'=w:=by
 unfold Bh at g;go_in;go_wp2_with fail
 go_loop [8] (fun v=>∃k:Ad,k<=s.size/\v=O Ai k/\Y (By vF s.data.toList=k+By vF (s.data.toList.drop k))) (fun v=>s.size-(intOf v).toNat)
 ·exact⟨0,Ax _,rfl,by show _=_;simp⟩
 ·
  obtain⟨k,h,rfl,b⟩:=hrel
  by_cases d:k<s.size
  ·cases hp:vF s[k].toNat
   ·have c:Y (By vF s.data.toList=k):=by
     have:=b.o;rw[R.span_stop d hp] at this;exact this
    go_wp2_with fail;refine(sI _ _).mono ?_;rintro e f ⟨rfl,a⟩;rw[a,hp];go_wp2;go_ret;exact⟨by rw[c.o];rfl,rfl⟩
   ·have c:Y (By vF s.data.toList=(k+1)+By vF (s.data.toList.drop (k+1))):=by
     have:=b.o;rw[R.span_step d hp] at this;show _=_;omega
    go_wp2_with fail;refine(sI _ _).mono ?_;rintro e f ⟨rfl,a⟩;rw[a,hp];go_wp2;exact⟨⟨k+1,by omega,by go_num,c⟩,by simp[intOf];omega⟩
  ·have c:Y (By vF s.data.toList=s.size):=by
    have:=b.o;rw[R.span_end (k:=k) (by omega)] at this;show _=_;omega
   go_wp2;go_ret;exact⟨by rw[c.o];rfl,rfl⟩
theorem lR (s:As)(w:Ag)(c:s.size<=Bh):Am prog 352 #[I s,.func (.func 393) #[] #[]] w fun e w'=>e=Af (Av (Ec vF s.data.toList))/\w'=w:=by
 have b:Y (Ec vF s.data.toList=((By vF s.data.toList:Ak) == s.size)):=by
  show Ec vF s.data.toList=_;rw[<-Cp,Eb];simp only[Hw];rw[Qk];exact jj vF s.data.toList
 go_in;go_wp2_with fail;refine(lb s _ c).mono ?_;rintro e d ⟨rfl,a⟩;rw[a];go_wp2;go_ret;exact⟨zX (by rw[b.o]),rfl⟩
theorem zbL (s:As)(w:Ag)(g:s.size<=Bh):Am prog 202 #[I s,.func (.func 412) #[] #[]] w fun e w'=>e=Af (O Ai (By Ob s.data.toList:Ad))/\w'=w:=by
 unfold Bh at g;go_in;go_wp2_with fail
 go_loop [8] (fun v=>∃k:Ad,k<=s.size/\v=O Ai k/\Y (By Ob s.data.toList=k+By Ob (s.data.toList.drop k))) (fun v=>s.size-(intOf v).toNat)
 ·exact⟨0,Ax _,rfl,by show _=_;simp⟩
 ·
  obtain⟨k,h,rfl,b⟩:=hrel
  by_cases d:k<s.size
  ·cases hp:Ob s[k].toNat
   ·have c:Y (By Ob s.data.toList=k):=by
     have:=b.o;rw[R.span_stop d hp] at this;exact this
    go_wp2_with fail;refine(wY _ _).mono ?_;rintro e f ⟨rfl,a⟩;rw[a,hp];go_wp2;go_ret;exact⟨by rw[c.o];rfl,rfl⟩
   ·have c:Y (By Ob s.data.toList=(k+1)+By Ob (s.data.toList.drop (k+1))):=by
     have:=b.o;rw[R.span_step d hp] at this;show _=_;omega
    go_wp2_with fail;refine(wY _ _).mono ?_;rintro e f ⟨rfl,a⟩;rw[a,hp];go_wp2;exact⟨⟨k+1,by omega,by go_num,c⟩,by simp[intOf];omega⟩
  ·have c:Y (By Ob s.data.toList=s.size):=by
    have:=b.o;rw[R.span_end (k:=k) (by omega)] at this;show _=_;omega
   go_wp2;go_ret;exact⟨by rw[c.o];rfl,rfl⟩
theorem zbI (s:As)(w:Ag)(c:s.size<=Bh):Am prog 352 #[I s,.func (.func 412) #[] #[]] w fun e w'=>e=Af (Av (Ec Ob s.data.toList))/\w'=w:=by
 have b:Y (Ec Ob s.data.toList=((By Ob s.data.toList:Ak) == s.size)):=by
  show Ec Ob s.data.toList=_;rw[<-Cp,Eb];simp only[Hw];rw[Qk];exact jj Ob s.data.toList
 go_in;go_wp2_with fail;refine(zbL s _ c).mono ?_;rintro e d ⟨rfl,a⟩;rw[a];go_wp2;go_ret;exact⟨zX (by rw[b.o]),rfl⟩
theorem sb (s:As):(s.toList == [])=decide (s.size=0):=by grind[El,Cp]
theorem uB (s:As)(w:Ag)(g:s.size<=Bh):Am prog 354 #[I s] w fun e w'=>e=Af (Av (Gx s.data.toList true))/\w'=w:=by
 have b:Y (Gx s.data.toList true=(Ec vF s.data.toList && decide (0<Z s.data.toList))):=rfl;have f:=sb s;rw[Cp] at b
 by_cases d:s.size=0
 ·rw[Cf d] at f
  have a:Y (Gx s.data.toList true=false):=by show Gx _ _=_;rw[b.o,Ce (by omega)];simp
  go_in;go_wp2;go_ret;exact⟨zX (by rw[a.o]),rfl⟩
 ·rw[Ce d] at f
  have a:Y (Gx s.data.toList true=Ec vF s.data.toList):=by show Gx _ _=_;rw[b.o,Cf (by omega)];simp
  go_in;go_wp2_with fail;refine(lR s _ g).mono ?_;rintro e h ⟨rfl,c⟩;rw[c];go_wp2;go_ret;exact⟨zX (by rw[a.o]),rfl⟩
theorem nO (s:As)(w:Ag)(g:s.size<=Bh):Am prog 380 #[I s] w fun e w'=>e=Af (Av (Hf s.data.toList))/\w'=w:=by
 have b:Y (Hf s.data.toList=(Ec Ob s.data.toList && decide (0<Z s.data.toList))):=rfl;have f:=sb s;rw[Cp] at b
 by_cases d:s.size=0
 ·rw[Cf d] at f
  have a:Y (Hf s.data.toList=false):=by show Hf _=_;rw[b.o,Ce (by omega)];simp
  go_in;go_wp2;go_ret;exact⟨zX (by rw[a.o]),rfl⟩
 ·rw[Ce d] at f
  have a:Y (Hf s.data.toList=Ec Ob s.data.toList):=by show Hf _=_;rw[b.o,Cf (by omega)];simp
  go_in;go_wp2_with fail;refine(zbI s _ g).mono ?_;rintro e h ⟨rfl,c⟩;rw[c];go_wp2;go_ret;exact⟨zX (by rw[a.o]),rfl⟩
theorem zbK (s:As)(w:Ag)(h:s.size<=Bh):Am prog 330 #[I s] w fun e w'=>e=Af (Av (R.path s.data.toList))/\w'=w:=by
 have g:Y (R.path s.data.toList=(Mx s.data.toList [47] && Ec R.pathI s.data.toList)):=by
  show R.path _=_;unfold R.path Mx
  cases s.data.toList with
  |nil=>rfl
  |cons c l=>
   rw[Bool.and_comm]
   congr 1
   simp only[Bb,List.head?_cons,List.isPrefixOf];rw[Eb];simp;exact eq_comm
 have f:Y (∀w,Am prog 216 #[I s,I ⟨#[47]⟩] w fun e w'=>e=Af (Av (Mx s.data.toList [47]))/\w'=w):=fun w=>Tryz.strings_HasPrefix s ⟨#[47]⟩ w
 generalize Mx s.data.toList [47]=b at*
 cases b
 ·go_in
  go_wp2_with fail;refine(f.o _).mono ?_;rintro e d ⟨rfl,a⟩;rw[a];go_wp2;go_ret;exact⟨zX (by rw[g.o];rfl),rfl⟩
 ·go_in
  go_wp2_with fail;refine(f.o _).mono ?_;rintro e d ⟨rfl,a⟩;rw[a];go_wp2_with fail;refine(aY s _ h).mono ?_;rintro e d ⟨rfl,a⟩;rw[a];go_wp2;go_ret;exact⟨zX (by rw[g.o];rfl),rfl⟩
theorem lY (s:As)(w:Ag)(f:s.size<=Bh):Am prog 379 #[I s] w fun e w'=>e=Af (Av (Gz s.data.toList))/\w.grownBy w' S:=by
 have d:Y (Gz s.data.toList=(Ec R.valueI s.data.toList && decide (Iq s.data.toList 32=s.data.toList))):=by
  show Gz _=_;unfold Gz;rw[zdO]
 have h:Y (∀w,Am prog 356 #[I s,I ⟨#[32]⟩] w fun e w'=>e=Af (I (Aa (Iq s.data.toList 32)))/\(w'=w\/w'=w.drew)):=fun w=>Tryz.strings_Trim_one s 32 (by decide) w (by unfold Bh at f;omega)
 have k:((Aa (Iq s.data.toList 32)).toList == s.toList)=decide (Iq s.data.toList 32=s.data.toList):=by rw[El,El,Be,Eb];simp
 generalize Iq s.data.toList 32=tb at*;have c:Y _:=fun w=>pT s w f
 generalize Ec R.valueI s.data.toList=av at*;generalize decide (tb=s.data.toList)=bq at*
 cases av
 ·go_in
  go_wp2_with fail;refine(c.o _).mono ?_;rintro e b ⟨rfl,a⟩;rw[a];go_wp2;go_ret;exact⟨zX (by rw[d.o];rfl),zP _ _⟩
 ·go_in
  go_wp2_with fail;refine(c.o _).mono ?_;rintro e b ⟨rfl,a⟩;rw[a];go_wp2_with fail;refine(h.o _).mono ?_;rintro e j ⟨rfl,g⟩;have i:w.grownBy j S:=by rcases g with rfl|rfl;exact zP _ _;exact zV _
  go_wp2;go_ret;exact⟨zX (by rw[d.o];rfl),i⟩
theorem ae (s:As)(w:Ag)(i:s.size<=1000000000000):Am prog 378 #[I s] w fun e w'=>e=Af (Av (Ft s.data.toList true))/\w.grownBy w' S:=by
 have b:s.size<=Bh:=by unfold Bh;omega
 have c:Y (Ft s.data.toList true=(Gx s.data.toList true && (!decide (Cj s.data.toList=R.host) && (!decide (Cj s.data.toList=Oo) && !decide (Cj s.data.toList=Nm))))):=by
  show Ft s.data.toList true=_;unfold Ft;rw[Qu,Qu,Qu]
 have d:=toLs (Cj s.data.toList) R.host;have f:=toLs (Cj s.data.toList) Oo;have g:=toLs (Cj s.data.toList) Nm;generalize decide (Cj s.data.toList=R.host)=b1 at*;generalize decide (Cj s.data.toList=Oo)=b2 at*;generalize decide (Cj s.data.toList=Nm)=b3 at*;unfold R.host at d;unfold Oo at f;unfold Nm at g;have a:Y _:=fun w=>tF s w i
 generalize j:Aa (Cj s.data.toList)=o at*
 cases b1 <;> cases b2 <;> cases b3
 all_goals
  go_in;go_wp2_with (first
   |(go_at_call 239;refine(a.o _).mono ?_;rintro e k ⟨rfl,h⟩)
   |(go_at_call 354;refine(uB _ _ b).mono ?_;rintro e w' ⟨rfl,rfl⟩))
  go_ret;exact⟨zX (by rw[c.o];simp),h⟩
theorem gf (w:Ag)(l:A As)(k:Ad)(h:k<Z l):(w.alloc (Ae (l.map I).toArray 9)).cell? ⟨w.heap.size,k,S⟩=V (I l[k]):=by
 rw[World.cell?_alloc_new];simp[h]
theorem nN (s:As)(w:Ag)(m:Ak)(E:w.cell? ⟨0,0,S⟩=V (O Ai m))(Q:s.size<=3000):Am prog 325 #[I s] w fun e w'=>e=Af (Av (Iv s.data.toList true))/\w.grownBy w' S:=by
 have z:Y (Iv s.data.toList true=((Qy ⟨#[46]⟩ 0 (Oe s ⟨#[46]⟩) s).map (·.data.toList)).all fun x=>Gx x true):=by
  show Iv _ _=_;rw[Lib.splitB_data,<-dK];rfl
 have r:Y _:=fun(_:Unit)=>Tryz.strings_Split s ⟨#[46]⟩ m w (by omega) E (by decide)
 have C:Z (Qy ⟨#[46]⟩ 0 (Oe s ⟨#[46]⟩) s)=Oe s ⟨#[46]⟩+1:=Lib.splitB_all _ (by decide) 0 _ s rfl;have B:Oe s ⟨#[46]⟩<=s.size:=Lib.countB_le _ (by decide) s.size s (Aq _);have g:∀p∈Qy ⟨#[46]⟩ 0 (Oe s ⟨#[46]⟩) s,p.size<=Bh:=by
  have f:∀(k:Ad) (t:As),t.size<=3000->∀p∈Qy ⟨#[46]⟩ 0 k t,p.size<=Bh:=by
   intro k
   induction k with
   |zero=>intro t ht p a;rw[Lib.splitB_zero] at a;simp at a;subst a;unfold Bh;omega
   |succ k ih=>
    intro t ht p a;rw[Qy] at a
    split at a
    ·simp at a;subst a;unfold Bh;omega
    ·rcases En.1 a with rfl|a
     ·rw[<-Cp,wQ,Cq,Cy,Cp];unfold Bh;omega
     ·exact ih _ (by rw[<-Cp,wQ,Cq,Cy,Cp];omega) p a
  exact f _ s Q
 have q:=J g;clear g E;generalize Oe s ⟨#[46]⟩=n at*;generalize Qy ⟨#[46]⟩ 0 n s=sp at*;have y:Y _:=gf w sp;have o:Y _:=Ac w (Ae (sp.map I).toArray 9) S;go_in;go_wp2_with fail;refine(r.o ()).mono ?_;rintro e w1 ⟨rfl,i⟩;rw[<-i] at y o;clear i;go_wp2_with fail
 go_loop [8] (fun iv=>∃k:Ad,k<=n+1/\iv=O Ai k/\Y (((sp.take k).map (·.data.toList)).all (fun x=>Gx x true)=true)) (fun iv=>n+1-(intOf iv).toNat)
 ·exact⟨0,Ax _,rfl,rfl⟩
 ·
  obtain⟨k,hk,rfl,j⟩:=hrel
  by_cases N:k<n+1
  ·have c:k<Z sp:=by omega
   have c1:=y.o k c;have d:Y _:=q.o sp[k] (Cr c);have H:Y (((sp.take (k+1)).map (·.data.toList)).all (fun x=>Gx x true)=(((sp.take k).map (·.data.toList)).all (fun x=>Gx x true) && Gx sp[k].data.toList true)):=by
    show _=_;rw[Co c,Ef,List.all_append];simp
   have F:Y (Gx sp[k].data.toList true=false->(sp.map (·.data.toList)).all (fun x=>Gx x true)=false):=fun h=>by
    rw[List.all_eq_false];exact⟨sp[k].data.toList,Hr.2 ⟨sp[k],Cr c,rfl⟩,by rw[h];simp⟩
   generalize sp[k]=p at*
   cases hw:Gx p.data.toList true
   ·have l:Y _:=F.o hw
    go_wp2_with fail;refine(uB _ _ d.o).mono ?_;rintro e v ⟨rfl,b⟩;rw[b,hw];clear b v;go_wp2;go_ret;exact⟨zX (by rw[z.o,l.o]),o.o⟩
   ·go_wp2_with fail
    refine(uB _ _ d.o).mono ?_;rintro e v ⟨rfl,b⟩;rw[b,hw];clear b v;go_wp2;exact⟨⟨k+1,by omega,by go_num,by show _=_;rw[H.o,j.o,hw];rfl⟩,by simp[intOf];omega⟩
  ·have u:k=n+1:=by omega
   subst u;rw[Cc (by omega)] at j;go_wp2;go_ret;exact⟨zX (by rw[z.o,j.o]),o.o⟩
abbrev Fh8 (a):=Aa (Mz a [42,46])
theorem zbJ (s:As)(w:Ag)(m:Ak)(g:w.cell? ⟨0,0,S⟩=V (O Ai m))(l:s.size<=3000):Am prog 268 #[I s] w fun e w'=>e=Af (Av (Hq s.data.toList true))/\w.grownBy w' S:=by
 have f:Y (Hq s.data.toList true=(decide (s.data.toList=[42]) || Iv (Mz s.data.toList [42,46]) true)):=by
  show Hq _ _=_;rw[<-zdN,dK]
 have o:(s.toList == [42])=decide (s.data.toList=[42]):=by rw[El,Eb];simp
 have j:Y (∀w,Am prog 244 #[I s,I ⟨#[42,46]⟩] w fun e w'=>e=Af (I (Fh8 s.data.toList))/\w'=w):=fun w=>Tryz.strings_TrimPrefix s ⟨#[42,46]⟩ w
 have a:(Fh8 s.data.toList).size<=3000:=by
  rw[Bz];unfold Mz;split
  ·rw[Cy,Cp];omega
  ·rw[Cp];exact l
 have d:Y (∀w,w.cell? ⟨0,0,S⟩=V (O Ai m)->Am prog 325 #[I (Fh8 s.data.toList)] w fun e w'=>e=Af (Av (Iv (Mz s.data.toList [42,46]) true))/\w.grownBy w' S):=fun w h=>by
  have:=nN (Fh8 s.data.toList) w m h a;rw[Be] at this;exact this
 have i:=J g;generalize decide (s.data.toList=[42])=b at*;generalize Mz s.data.toList [42,46]=tp at*
 cases b
 ·go_in
  go_wp2_with fail;refine(j.o _).mono ?_;rintro e n ⟨rfl,c⟩;rw[c];go_wp2_with fail;refine(d.o _ i.o).mono ?_;rintro e p ⟨rfl,k⟩;go_wp2;go_ret;exact⟨zX (by rw[f.o];rfl),k⟩
 ·go_in
  go_wp2;go_ret;exact⟨zX (by rw[f.o];rfl),zP _ _⟩
theorem su (l:A Ab)(h:(qD l).2=3):(qD l).1<=26:=by
 unfold qD at h ⊢
 grind[qD,xm,yD,jm]
theorem zaD {l:A Ab}(a:∃p,st.tok=zg l p):Z (qA l st).1<=24:=by grind[qA,qR,zg,su,List.length_take,List.length_drop,P.St]
variable {s:As}
theorem PInv.slen (h:PInv w rb s st):(Aa (qA s.data.toList st).1).size<=24:=by grind[Bz,zaD,P.St,PInv,Aa,qA]
def Glob (w:Ag):Prop:=∃m,w.cell? ⟨0,0,S⟩=V (O Ai m)
theorem Glob.keep {row:Br Ad}(h:Glob w)(a:w.grownBy w' row)(b:row≠V 0):Glob w':=by
 obtain⟨m,h⟩:=h;exact⟨m,a.cell h (by simpa using fun e=>b e.symm)⟩
theorem nQ (h:PInv w rb s st):Am prog 331 #[Al (V ⟨rb,0,S⟩)] w fun e w'=>e=Af (.tuple #[I (Aa (qV s.data.toList st).1),O Ai st.tok.at_])/\PInv w' rb s (qV s.data.toList st).2/\w.grownBy w' (V rb):=by
 have j:Y (qV s.data.toList st=(Cj (qA s.data.toList st).1,zh (qA s.data.toList st).2 (!R.header (qA s.data.toList st).1 true) 4 st.tok.at_)):=rfl;have z:=J h;have i:Y ((Aa (qA s.data.toList st).1).size<=1000000000000):=by have:=h.slen;show _<=_;omega
 go_in;have n:Y (w.grownBy w (V rb)):=zP _ _;go_wp2_with fail;refine(js z.o).mono ?_;rintro e N ⟨rfl,k,c⟩;have m:=J k;have u:=J (c);have o:=J (zD n.o u.o);generalize qA s.data.toList st=q at*;obtain⟨H,F⟩:=q;simp only at m j i ⊢;go_wp2_with fail;refine(ae _ _ i.o).mono ?_;rintro e Q ⟨rfl,a⟩;have d:=zT a (V rb);have B:Y _:=(m.o).keep a;have v:=J (d);have p:=J (zD o.o v.o);rw[Be];go_wp2_with fail;refine(yO B.o _ _ _).mono ?_;rintro e w3 ⟨rfl,l,f⟩;have C:=J l;have x:=J (f);have r:=J (zD p.o x.o);go_wp2_with fail;refine(tF _ _ i.o).mono ?_;rintro e w4 ⟨rfl,b⟩;have g:=zT b (V rb);have E:Y _:=(C.o).keep b;have y:=J (g);have t:=J (zD r.o y.o);rw[Be];go_wp2
 go_ret2
 exact⟨by rw[j.o];rfl,by rw[j.o];exact E.o,t.o⟩
theorem sK (h:PInv w rb s st):Am prog 332 #[Al (V ⟨rb,0,S⟩)] w fun e w'=>e=Af (I (Aa (x6 s.data.toList st).1))/\PInv w' rb s (x6 s.data.toList st).2/\w.grownBy w' (V rb):=by
 have g:Y (x6 s.data.toList st=((qA s.data.toList (zS s.data.toList st [61])).1,zh (qA s.data.toList (zS s.data.toList st [61])).2 (!R.value (qA s.data.toList (zS s.data.toList st [61])).1) 4 (zS s.data.toList st [61]).tok.at_)):=rfl;have B:=J h;go_in;have o:Y (w.grownBy w (V rb)):=zP _ _;go_wp2_with fail;refine(y8 B.o _).mono ?_;rintro e N ⟨rfl,k,b⟩;have i:=J k;have v:=J (b);have p:=J (zD o.o v.o);rw[show(⟨#[61]⟩:As).data.toList=[61] from rfl] at i;generalize zS s.data.toList st [61]=st0 at*;have j:Y ((Aa (qA s.data.toList st0).1).size<=Bh):=by have:=i.o.slen;show _<=_;unfold Bh;omega
 go_wp2_with fail;refine(js i.o).mono ?_;rintro e Q ⟨rfl,l,c⟩;have n:=J l;have x:=J (c);have r:=J (zD p.o x.o);generalize qA s.data.toList st0=q at*;obtain⟨H,F⟩:=q;simp only at n g j ⊢;go_wp2_with fail;refine(lY _ _ j.o).mono ?_;rintro e w3 ⟨rfl,a⟩;have d:=zT a (V rb);have C:Y _:=(n.o).keep a;have y:=J (d);have t:=J (zD r.o y.o);rw[Be];go_wp2_with fail;refine(yO C.o _ _ _).mono ?_;rintro e w4 ⟨rfl,m,f⟩;have E:=J m;have z:=J (f);have u:=J (zD t.o z.o);go_wp2;go_ret;exact⟨by rw[g.o];rfl,by rw[g.o];exact E.o,u.o⟩
theorem ly (h:PInv w rb s st)(a:As):Am prog 271 #[Al (V ⟨rb,0,S⟩),I a] w fun e w'=>e=Af (I (Aa (xi s.data.toList st a.data.toList).1))/\PInv w' rb s (xi s.data.toList st a.data.toList).2/\w.grownBy w' (V rb):=by
 have i:Y (xi s.data.toList st a.data.toList=((qA s.data.toList (zS s.data.toList st a.data.toList)).1,zS s.data.toList (zh (qA s.data.toList (zS s.data.toList st a.data.toList)).2 (!R.path (qA s.data.toList (zS s.data.toList st a.data.toList)).1) 4 (zS s.data.toList st a.data.toList).tok.at_) [59])):=rfl;have E:=J h;go_in;have r:Y (w.grownBy w (V rb)):=zP _ _;go_wp2_with fail;refine(y8 E.o _).mono ?_;rintro e w1 ⟨rfl,k,b⟩;have o:=J k;have y:=J (b);have t:=J (zD r.o y.o);generalize zS s.data.toList st a.data.toList=st0 at*;have j:Y ((Aa (qA s.data.toList st0).1).size<=Bh):=by have:=o.o.slen;show _<=_;unfold Bh;omega
 go_wp2_with fail;refine(js o.o).mono ?_;rintro e w2 ⟨rfl,l,c⟩;have p:=J l;have z:=J (c);have u:=J (zD t.o z.o);generalize qA s.data.toList st0=q at*;obtain⟨Q,N⟩:=q;simp only at p i j ⊢;go_wp2_with fail;refine(zbK _ _ j.o).mono ?_;rintro e wX ⟨rfl,g⟩;rw[g];rw[Be];go_wp2_with fail;refine(yO p.o _ _ _).mono ?_;rintro e w3 ⟨rfl,m,d⟩;have F:=J m;have B:=J (d);have v:=J (zD u.o B.o);go_wp2_with fail;refine(y8 F.o _).mono ?_;rintro e w4 ⟨rfl,n,f⟩;have H:=J n;have C:=J (f);have x:=J (zD v.o C.o);go_wp2;go_ret;exact⟨by rw[i.o];rfl,by rw[i.o];exact H.o,x.o⟩
theorem nX (h:PInv w rb s st)(n:Ad):Am prog 333 #[Al (V ⟨rb,0,S⟩),O Ai n] w fun e w'=>e=Af (Fe #[I (Aa (zb s.data.toList st n).1.1),O Ai (zb s.data.toList st n).1.2])/\PInv w' rb s (zb s.data.toList st n).2/\w.grownBy w' (V rb)/\0<=(zb s.data.toList st n).1.2/\(zb s.data.toList st n).1.2<=99999:=by
 have b:Y (zb s.data.toList st n=(((xT s.data.toList st n).1,(qp s.data.toList (xT s.data.toList st n).2).1),
 zh (qp s.data.toList (xT s.data.toList st n).2).2 (decide (1000<(qp s.data.toList (xT s.data.toList st n).2).1)) 4 (xT s.data.toList st n).2.tok.at_)):=rfl
 have HA:Y (xT s.data.toList st n=((qA s.data.toList (zy st n 4)).1,zh (qA s.data.toList (zy st n 4)).2 (!R.upstream (qA s.data.toList (zy st n 4)).1) 4 (zy st n 4).tok.at_)):=rfl;have H0:=J h;have aa:=zO h.rd;go_in;have C0:Y (w.grownBy w (V rb)):=zP _ _;go_wp2_with fail;refine(vq (H0.o.keep (Ac _ _ _)) _ _).mono ?_;rintro e w1 ⟨rfl,I1,c⟩;have J1:=J I1;have G1:Y (w.grownBy w1 (V rb)):=(zD (Ac _ _ _) c);have C1:=J (zD C0.o G1.o);have f:Y (w1.heap[w.heap.size]?=V (Ae #[I ⟨#[]⟩,O Ai 0] 285)):=ql c (by simp;omega);generalize zy st n 4=st0 at*;have HL:Y ((Aa (qA s.data.toList st0).1).size<=Bh):=by have:=J1.o.slen;show _<=_;unfold Bh;omega
 go_wp2_with fail;refine(js J1.o).mono ?_;rintro e w2 ⟨rfl,I2,k⟩;have J2:=J I2;have F:=J (k);have C2:=J (zD C1.o F.o);have g:=J (zE f.o F.o (by simp;omega));generalize qA s.data.toList st0=q at*;obtain⟨d,E⟩:=q;simp only at J2 HA HL ⊢;go_wp2_with fail;refine(nO _ _ HL.o).mono ?_;rintro e wX ⟨rfl,u⟩;rw[u];rw[Be];go_wp2_with fail;refine(yO J2.o _ _ _).mono ?_;rintro e w3 ⟨rfl,I3,l⟩;have J3:=J I3;have H:=J (l);have C3:=J (zD C2.o H.o);have i:=J (zE g.o H.o (by simp;omega));rw[HA.o] at b;simp only at b;generalize zh E (!R.upstream d) 4 st0.tok.at_=st2 at*;go_wp2_with fail;refine(fh J3.o).mono ?_;rintro e w4 ⟨rfl,I4,m,p,r⟩;have J4:=J I4;have N:=J (m);have C4:=J (zD C3.o N.o);have j:=J (zE i.o N.o (by simp;omega));generalize qp s.data.toList st2=q at*;obtain⟨x,ab⟩:=q;simp only at J4 b p r ⊢;go_wp2_with fail;refine(yO J4.o _ _ _).mono ?_;rintro e w5 ⟨rfl,I5,o⟩;have J5:=J I5;have Q:=J (o);have C5:=J (zD C4.o Q.o);have a:=J (zE j.o Q.o (by simp;omega));have y:=cbi 0 a.o;have B:=zm9 0 a.o;have z:=cbi 1 a.o;have C:=zm9 1 a.o;go_wp2;have t:=zD (zF w5 w.heap.size 0 (I (Aa d))) (zF _ w.heap.size 1 (O Ai x));exact Et (v:=.agg #[I (Aa d),O Ai x]) (by simp[Hm,results333,go_sem,y,z]) rfl ⟨by rw[b.o],by rw[b.o];exact J5.o.other t (by omega),ze C5.o t (Aq _),by rw[b.o];exact p,by rw[b.o];exact r⟩
def P.Mt.cells (m:P.Mt):A Aj:=[I (Aa m.name),Av m.ask,I (Aa m.val)]
theorem zfA (h:PInv w rb s st)(n:Ad):Am prog 272 #[Al (V ⟨rb,0,S⟩),O Ai n] w fun e w'=>e=Af (Fe (qo s.data.toList st n).1.cells.toArray)/\PInv w' rb s (qo s.data.toList st n).2/\w.grownBy w' (V rb):=by
 have C:Y (qo s.data.toList st n=(⟨(jC s.data.toList st n).1,qH (jC s.data.toList st n).2 [61],(vz s.data.toList (jC s.data.toList st n).2).1⟩,zS s.data.toList (vz s.data.toList (jC s.data.toList st n).2).2 [59])):=rfl;have HA:Y (jC s.data.toList st n=qV s.data.toList (zS s.data.toList (zy st n 3) qO)):=rfl;have H0:=J h;have aJ:=zO h.rd;go_in;have C0:Y (w.grownBy w (V rb)):=zP _ _;go_wp2_with fail;refine(vq (H0.o.keep (Ac _ _ _)) _ _).mono ?_;rintro e w1 ⟨rfl,I1,o⟩;have J1:=J I1;have s1:w.heap.size+1<=w1.heap.size:=by have h:=o.size;simpa using h
 have G1:Y (w.grownBy w1 (V rb)):=(zD (Ac _ _ _) o);have C1:=J (zD C0.o G1.o);have ay:Y (w1.heap[w.heap.size]?=V (Ae #[I ⟨#[]⟩,Av false,I ⟨#[]⟩] 276)):=ql o (by simp;omega);go_wp2_with fail;refine(y8 J1.o _).mono ?_;rintro e w2 ⟨rfl,I2,ab⟩;have J2:=J I2;have s2:w1.heap.size+0<=w2.heap.size:=by have h:=ab.size;simpa using h
 have G2:=J (ab);have C2:=J (zD C1.o G2.o);have z2:=C2.o.size;have az:=J (zE ay.o G2.o (by simp;omega));rw[show(⟨#[104,101,97,100,101,114]⟩:As).data.toList=qO from rfl] at J2;go_wp2_with fail;refine(nQ J2.o).mono ?_;rintro e i ⟨rfl,I3,ad⟩;have J3:=J I3;have b3:=zO J3.o.rd;have s3:w2.heap.size+0<=i.heap.size:=by have h:=ad.size;simpa using h
 have G3:=J (ad);have C3:=J (zD C2.o G3.o);have z3:=C3.o.size;have aA:=J (zE az.o G3.o (by simp;omega));rw[<-HA.o] at J3;rw[<-HA.o];generalize jC s.data.toList st n=q at*;obtain⟨nm,c⟩:=q;simp only at J3 C ⊢;go_wp2_with fail;refine(vN (J3.o.keep (Ac _ _ _)) _).mono ?_;rintro e w4 ⟨rfl,aa⟩;have ae:=zT aa (V rb);have J4:Y _:=((J3.o.keep (Ac _ _ _))).keep aa;have G4:Y (i.grownBy w4 (V rb)):=(zD (Ac _ _ _) ae);have C4:=J (zD C3.o G4.o);have r:=J (zE aA.o G4.o (by simp;omega));have j:Y (w4.heap[i.heap.size]?=V (Ae #[I (Aa nm),Av false,I ⟨#[]⟩] 276)):=ql ae (by simp;omega);rw[show(⟨#[61]⟩:As).data.toList=[61] from rfl];have p:Y (vz s.data.toList c=if qH c [61] then x6 s.data.toList c else ([],c)):=rfl;generalize vz s.data.toList c=pb at*;obtain⟨l,am⟩:=pb;simp only at C;have aK:=cbi 1 j.o;have aL:=zm9 1 j.o
 cases hask:qH c [61]
 ·rw[hask] at p
  simp only[Ct,Gj] at p;have HV:Y (l=[]):=(Nn p.o).1;have HS:Y (am=c):=(Nn p.o).2;rw[HV.o,HS.o] at C;go_wp2_with fail;refine(y8 J4.o _).mono ?_;rintro e aH ⟨rfl,ai,t⟩;have au:=J ai;have y:=J (t);have an:=J (zD C4.o y.o);have a:=J (zE r.o y.o (by simp;omega));have d:=J (zE j.o y.o (by simp;omega));have aB:=cbi 0 d.o;have aC:=cbi 1 d.o;have aD:=cbi 2 d.o;have af:=cbi 0 a.o;have aE:=zm9 0 a.o;have ag:=cbi 1 a.o;have aF:=zm9 1 a.o;have ah:=cbi 2 a.o;have aG:=zm9 2 a.o;go_wp2;have k:=zD (zD (zF aH w.heap.size 0 (I (Aa nm))) (zF _ w.heap.size 1 (Av false))) (zF _ w.heap.size 2 (I ⟨#[]⟩));exact Et (v:=.agg #[I (Aa nm),Av false,I ⟨#[]⟩]) (by simp[Hm,results272,go_sem,af,ag,ah]) rfl ⟨by rw[C.o,hask];rfl,by rw[C.o];exact au.o.other k (by omega),ze an.o k (Aq _)⟩
 ·rw[hask] at p
  simp only[Gq] at p;have HV:Y ((x6 s.data.toList c).1=l):=by rw[<-p.o];rfl
  have HS:Y ((x6 s.data.toList c).2=am):=by rw[<-p.o];rfl
  go_wp2_with fail;have av:Y _:=J4.o.other (zF w4 i.heap.size 1 (Av true)) (by omega);have ao:=J (ze C4.o (zF w4 i.heap.size 1 (Av true)) (by omega));have H:=J (zE r.o (zF w4 i.heap.size 1 (Av true)) (by simp;omega));have E:Y ((Bs w4 ⟨i.heap.size,1,S⟩ (Av true)).heap[i.heap.size]?=V (Ae #[I (Aa nm),Av true,I ⟨#[]⟩] 276)):=zH j.o (Av true);generalize(Bs w4 ⟨i.heap.size,1,S⟩ (Av true))=wy1 at*;refine(sK av.o).mono ?_;rintro e m ⟨rfl,aj,u⟩;have al:=J aj;have z:=J (u);have ap:=J (zD ao.o z.o);have N:=J (zE H.o z.o (by simp;omega));have f:=J (zE E.o z.o (by simp;omega));rw[HS.o] at al;rw[HV.o];have aM:=cbi 2 f.o;have aN:=zm9 2 f.o;go_wp2_with fail;have aw:Y _:=al.o.other (zF m i.heap.size 2 (I (Aa l))) (by omega);have aq:=J (ze ap.o (zF m i.heap.size 2 (I (Aa l))) (by omega));have Q:=J (zE N.o (zF m i.heap.size 2 (I (Aa l))) (by simp;omega));have F:Y ((Bs m ⟨i.heap.size,2,S⟩ (I (Aa l))).heap[i.heap.size]?=V (Ae #[I (Aa nm),Av true,I (Aa l)] 276)):=zH f.o (I (Aa l));generalize(Bs m ⟨i.heap.size,2,S⟩ (I (Aa l)))=wy3 at*;refine(y8 aw.o _).mono ?_;rintro e aI ⟨rfl,ak,x⟩;have ax:=J ak;have B:=J (x);have ar:=J (zD aq.o B.o);have b:=J (zE Q.o B.o (by simp;omega));have g:=J (zE F.o B.o (by simp;omega));have aB:=cbi 0 g.o;have aC:=cbi 1 g.o;have aD:=cbi 2 g.o;have af:=cbi 0 b.o;have aE:=zm9 0 b.o;have ag:=cbi 1 b.o;have aF:=zm9 1 b.o;have ah:=cbi 2 b.o;have aG:=zm9 2 b.o;go_wp2;have k:=zD (zD (zF aI w.heap.size 0 (I (Aa nm))) (zF _ w.heap.size 1 (Av true))) (zF _ w.heap.size 2 (I (Aa l)));exact Et (v:=.agg #[I (Aa nm),Av true,I (Aa l)]) (by simp[Hm,results272,go_sem,af,ag,ah]) rfl ⟨by rw[C.o,hask];rfl,by rw[C.o];exact ax.o.other k (by omega),ze ar.o k (Aq _)⟩
theorem eD (b:Ad)(a:As)(y:Aj)(c:As)(w:Ag)(d:w.cell? ⟨b,0,S⟩=V (I a)):Am prog 382 #[Fe #[I c,y],Al (V ⟨b,0,S⟩)] w fun e w'=>e=Af (Av (c.toList == a.toList))/\w.grownBy w' S:=by
 have f:=Mk w _ d;go_in;go_wp2;go_ret;exact⟨rfl,Ac _ _ _⟩
theorem pg (b:Ad)(a:As)(y:Aj)(c:As)(w:Ag)(d:w.cell? ⟨b,0,S⟩=V (I a)):Am prog 267 #[Fe #[I c,y],Al (V ⟨b,0,S⟩)] w fun e w'=>e=Af (Av (c.toList == a.toList))/\w.grownBy w' S:=by
 have f:=Mk w _ d;go_in;go_wp2;go_ret;exact⟨rfl,Ac _ _ _⟩
theorem ph (b:Ad)(n m:Ak)(y1 c d f g h:Aj)(w:Ag)(a:w.cell? ⟨b,0,S⟩=V (O Ai n)):Am prog 328 #[Fe #[O Ai m,y1,c,d,f,g,h],Al (V ⟨b,0,S⟩)] w fun e w'=>e=Af (Av (m == n))/\w.grownBy w' S:=by
 have i:=Mk w _ a;go_in;go_wp2;go_ret;exact⟨rfl,Ac _ _ _⟩
def firstAt (p:Ad->Ee):Ad->Ad->Ak
 |0,_=>-1
 |n+1,k=>if p k then k else firstAt p n (k+1)
theorem wn (p:Ad->Ee)(l:A Ee):∀(n k:Ad),(∀j,j<n->l[j]?=V (p (k+j)))->Z l=n->decide (0<=firstAt p n k)=l.any id:=by
 induction l with
 |nil=>intro n k _ b;simp at b;subst b;rfl
 |cons a l ih=>
  intro n k h b
  match n,b with
  |n+1,b=>
   have c:=h 0 (by omega);simp at c;rw[firstAt,List.any_cons];subst c
   cases hp:p k
   ·simp only[Ct,Gj,id,Qq]
    exact ih n (k+1) (fun j hj=>by have:=h (j+1) (by omega);rw[Xb] at this;rw[this];congr 2;omega) (by simpa using b)
   ·simp only[Gq,id,Vu];exact Cf (Sj _)
theorem cR (b:Ad)(f:As)(w:Ag)(g n c:Ad)(a:Ad->As)(y1:Ad->Aj)(E:n<=2000000000000)(t:w.cell? ⟨b,0,S⟩=V (I f))
  (s:∀k,k<n->w.cell? ⟨g,k*2,S⟩=V (I (a k))) (r:∀k,k<n->w.cell? ⟨g,k*2+1,S⟩=V (y1 k)):Am prog 413 #[X (V ⟨g,0,S⟩) n c,.func (.func 382) #[] #[Al (V ⟨b,0,S⟩)]] w fun e w'=>e=Af (O Ai (firstAt (fun k=>(a k).toList == f.toList) n 0))/\w.grownBy w' S:=by
 have v:=J s;have u:=J r;have x:=J t;go_in;go_wp2
 go_loopw [8] (fun iv wr=>∃k:Ad,k<=n/\iv=O Ai k/\Y (firstAt (fun k=>(a k).toList == f.toList) n 0=firstAt (fun k=>(a k).toList == f.toList) (n-k) k)/\Y (w.grownBy wr S)) (fun iv _=>n-(intOf iv).toNat)
 ·exact⟨0,Ax _,rfl,rfl,zP _ _⟩
 ·
  obtain⟨k,C,rfl,o,j⟩:=hrel
  by_cases m:k<n
  ·have z:=j.o.cell (v.o k m) (by simp)
   have B:=j.o.cell (u.o k m) (by simp);have d:Y (firstAt (fun k=>(a k).toList == f.toList) n 0=if ((a k).toList == f.toList)=true then (k:Ak) else firstAt (fun k=>(a k).toList == f.toList) (n-(k+1)) (k+1)):=by
    show _=_;rw[o.o,show n-k=(n-(k+1))+1 by omega,firstAt]
   have p:Y _:=fun(w':Ag) (h:wr.grownBy w' S)=>eD b f (y1 k) (a k) w' (h.cell (j.o.cell x.o (by simp)) (by simp))
   cases hb:(a k).toList == f.toList
   ·rw[hb] at d p
    simp only[Ct,Gj] at d;go_wp2_with fail;refine(p.o _ (zP _ _)).mono ?_;rintro e y ⟨rfl,l⟩;have i:Y _:=zD j.o l;go_wp2;exact⟨⟨k+1,by omega,by go_num,d,i⟩,by simp[intOf];omega⟩
   ·rw[hb] at d p
    simp only[Gq] at d;go_wp2_with fail;refine(p.o _ (zP _ _)).mono ?_;rintro e y ⟨rfl,l⟩;have i:Y _:=zD j.o l;go_wp2;go_ret;exact⟨by rw[d.o];rfl,i.o⟩
  ·have q:k=n:=by omega
   subst q;rw[Gp,firstAt] at o;go_wp2;go_ret;exact⟨by rw[o.o];rfl,j.o⟩
theorem fZ (b:Ad)(i:As)(w:Ag)(v:Aj)(l:A (As))(f:A (A Aj))(n:w.ownsRow 0 280 2 v (Z l) f.flatten)(C:Z l<=2000000000000)(s:w.cell? ⟨b,0,S⟩=V (I i))
  (o:∀k (h:k<Z l),∀j,j<2->∃x,f.flatten[k*2+j]?=V x/\(j=0->x=I l[k])):Am prog 383 #[v,.func (.func 382) #[] #[Al (V ⟨b,0,S⟩)]] w fun e w'=>e=Af (Av (l.any fun x=>x.toList == i.toList))/\w.grownBy w' S:=by
 by_cases t:l=[]
 ·subst t
  obtain⟨a,c,rfl⟩:=zL n;go_in;go_wp2
  go_loopw [8] (fun iv wr=>iv=O Ai 0/\wr=w) (fun _ _=>0)
  ·exact⟨rfl,rfl⟩
  ·
   obtain⟨rfl,rfl⟩:=hrel;go_wp2;go_ret;exact⟨rfl,zP _ _⟩
 ·have m:=Ox.2 t
  obtain⟨g,q,rfl,_,_⟩:=Bm n m;have d:∀k (h:k<Z l) j,j<2->w.cell? ⟨g,k*2+j,S⟩=f.flatten[k*2+j]?:=fun k h j hj=>Ap n (k*2+j) (by omega)
  have r:=cR b i w g (Z l) q (fun k=>l[k]?.getD ⟨#[]⟩) (fun k=>f.flatten[k*2+1]?.getD undef) C s
   (fun k h=>by
    obtain⟨x,p,z⟩:=o k h 0 (by omega);have:=d k h 0 (by omega);rw[Xq] at this p;rw[this,p,z rfl,Bd h];rfl)
   (fun k h=>by obtain⟨x,p,_⟩:=o k h 1 (by omega);rw[d k h 1 (by omega),p];rfl)
  have u:Y (decide (0<=firstAt (fun k=>(l[k]?.getD ⟨#[]⟩).toList == i.toList) (Z l) 0)=l.any fun x=>x.toList == i.toList):=by
   show _=_;rw[wn _ (l.map fun x=>x.toList == i.toList) (Z l) 0 (fun j hj=>by rw[Fq,Bd hj,Gr,Bd hj];rfl) (by simp),Oj];rfl
  have y:Y _:=fun(_:Unit)=>r
  generalize firstAt (fun k=>(l[k]?.getD ⟨#[]⟩).toList == i.toList) (Z l) 0=ix at*;go_in;go_wp2_with fail;refine(y.o ()).mono ?_;rintro e E ⟨rfl,B⟩;go_wp2;go_ret;exact⟨zX u.o,B⟩
theorem tj (b:Ad)(f:As)(w:Ag)(g n c:Ad)(a:Ad->As)(y1:Ad->Aj)(E:n<=2000000000000)(t:w.cell? ⟨b,0,S⟩=V (I f))
  (s:∀k,k<n->w.cell? ⟨g,k*2,S⟩=V (I (a k))) (r:∀k,k<n->w.cell? ⟨g,k*2+1,S⟩=V (y1 k)):Am prog 326 #[X (V ⟨g,0,S⟩) n c,.func (.func 267) #[] #[Al (V ⟨b,0,S⟩)]] w fun e w'=>e=Af (O Ai (firstAt (fun k=>(a k).toList == f.toList) n 0))/\w.grownBy w' S:=by
 have v:=J s;have u:=J r;have x:=J t;go_in;go_wp2
 go_loopw [8] (fun iv wr=>∃k:Ad,k<=n/\iv=O Ai k/\Y (firstAt (fun k=>(a k).toList == f.toList) n 0=firstAt (fun k=>(a k).toList == f.toList) (n-k) k)/\Y (w.grownBy wr S)) (fun iv _=>n-(intOf iv).toNat)
 ·exact⟨0,Ax _,rfl,rfl,zP _ _⟩
 ·
  obtain⟨k,C,rfl,o,j⟩:=hrel
  by_cases m:k<n
  ·have z:=j.o.cell (v.o k m) (by simp)
   have B:=j.o.cell (u.o k m) (by simp);have d:Y (firstAt (fun k=>(a k).toList == f.toList) n 0=if ((a k).toList == f.toList)=true then (k:Ak) else firstAt (fun k=>(a k).toList == f.toList) (n-(k+1)) (k+1)):=by
    show _=_;rw[o.o,show n-k=(n-(k+1))+1 by omega,firstAt]
   have p:Y _:=fun(w':Ag) (h:wr.grownBy w' S)=>pg b f (y1 k) (a k) w' (h.cell (j.o.cell x.o (by simp)) (by simp))
   cases hb:(a k).toList == f.toList
   ·rw[hb] at d p
    simp only[Ct,Gj] at d;go_wp2_with fail;refine(p.o _ (zP _ _)).mono ?_;rintro e y ⟨rfl,l⟩;have i:Y _:=zD j.o l;go_wp2;exact⟨⟨k+1,by omega,by go_num,d,i⟩,by simp[intOf];omega⟩
   ·rw[hb] at d p
    simp only[Gq] at d;go_wp2_with fail;refine(p.o _ (zP _ _)).mono ?_;rintro e y ⟨rfl,l⟩;have i:Y _:=zD j.o l;go_wp2;go_ret;exact⟨by rw[d.o];rfl,i.o⟩
  ·have q:k=n:=by omega
   subst q;rw[Gp,firstAt] at o;go_wp2;go_ret;exact⟨by rw[o.o];rfl,j.o⟩
theorem fB (b:Ad)(i:As)(w:Ag)(v:Aj)(l:A (As))(f:A (A Aj))(n:w.ownsRow 0 146 2 v (Z l) f.flatten)(C:Z l<=2000000000000)(s:w.cell? ⟨b,0,S⟩=V (I i))
  (o:∀k (h:k<Z l),∀j,j<2->∃x,f.flatten[k*2+j]?=V x/\(j=0->x=I l[k])):Am prog 269 #[v,.func (.func 267) #[] #[Al (V ⟨b,0,S⟩)]] w fun e w'=>e=Af (Av (l.any fun x=>x.toList == i.toList))/\w.grownBy w' S:=by
 by_cases t:l=[]
 ·subst t
  obtain⟨a,c,rfl⟩:=zL n;go_in;go_wp2
  go_loopw [8] (fun iv wr=>iv=O Ai 0/\wr=w) (fun _ _=>0)
  ·exact⟨rfl,rfl⟩
  ·
   obtain⟨rfl,rfl⟩:=hrel;go_wp2;go_ret;exact⟨rfl,zP _ _⟩
 ·have m:=Ox.2 t
  obtain⟨g,q,rfl,_,_⟩:=Bm n m;have d:∀k (h:k<Z l) j,j<2->w.cell? ⟨g,k*2+j,S⟩=f.flatten[k*2+j]?:=fun k h j hj=>Ap n (k*2+j) (by omega)
  have r:=tj b i w g (Z l) q (fun k=>l[k]?.getD ⟨#[]⟩) (fun k=>f.flatten[k*2+1]?.getD undef) C s
   (fun k h=>by
    obtain⟨x,p,z⟩:=o k h 0 (by omega);have:=d k h 0 (by omega);rw[Xq] at this p;rw[this,p,z rfl,Bd h];rfl)
   (fun k h=>by obtain⟨x,p,_⟩:=o k h 1 (by omega);rw[d k h 1 (by omega),p];rfl)
  have u:Y (decide (0<=firstAt (fun k=>(l[k]?.getD ⟨#[]⟩).toList == i.toList) (Z l) 0)=l.any fun x=>x.toList == i.toList):=by
   show _=_;rw[wn _ (l.map fun x=>x.toList == i.toList) (Z l) 0 (fun j hj=>by rw[Fq,Bd hj,Gr,Bd hj];rfl) (by simp),Oj];rfl
  have y:Y _:=fun(_:Unit)=>r
  generalize firstAt (fun k=>(l[k]?.getD ⟨#[]⟩).toList == i.toList) (Z l) 0=ix at*;go_in;go_wp2_with fail;refine(y.o ()).mono ?_;rintro e E ⟨rfl,B⟩;go_wp2;go_ret;exact⟨zX u.o,B⟩
theorem tn (b:Ad)(j:Ak)(w:Ag)(g n c:Ad)(a:Ad->Ak)(y1 B C E F H:Ad->Aj)(hn:n<=2000000000000)(z:w.cell? ⟨b,0,S⟩=V (O Ai j))
  (y:∀k,k<n->w.cell? ⟨g,k*7,S⟩=V (O Ai (a k))) (r:∀k,k<n->w.cell? ⟨g,k*7+1,S⟩=V (y1 k)) (s:∀k,k<n->w.cell? ⟨g,k*7+2,S⟩=V (B k)) (t:∀k,k<n->w.cell? ⟨g,k*7+3,S⟩=V (C k)) (u:∀k,k<n->w.cell? ⟨g,k*7+4,S⟩=V (E k)) (v:∀k,k<n->w.cell? ⟨g,k*7+5,S⟩=V (F k)) (x:∀k,k<n->w.cell? ⟨g,k*7+6,S⟩=V (H k)):Am prog 376 #[X (V ⟨g,0,S⟩) n c,.func (.func 328) #[] #[Al (V ⟨b,0,S⟩)]] w fun e w'=>e=Af (O Ai (firstAt (fun k=>a k == j) n 0))/\w.grownBy w' S:=by
 have H0:=J y;have N:=J r;have Q:=J s;have G3:=J t;have G4:=J u;have G5:=J v;have G6:=J x;have HC:=J z;go_in;go_wp2
 go_loopw [8] (fun iv wr=>∃k:Ad,k<=n/\iv=O Ai k/\Y (firstAt (fun k=>a k == j) n 0=firstAt (fun k=>a k == j) (n-k) k)/\Y (w.grownBy wr S)) (fun iv _=>n-(intOf iv).toNat)
 ·exact⟨0,Ax _,rfl,rfl,zP _ _⟩
 ·
  obtain⟨k,hk,rfl,o,i⟩:=hrel
  by_cases d:k<n
  ·have c0:=i.o.cell (H0.o k d) (by simp)
   have c1:=i.o.cell (N.o k d) (by simp);have c2:=i.o.cell (Q.o k d) (by simp);have c3:=i.o.cell (G3.o k d) (by simp);have c4:=i.o.cell (G4.o k d) (by simp);have c5:=i.o.cell (G5.o k d) (by simp);have c6:=i.o.cell (G6.o k d) (by simp);have f:Y (firstAt (fun k=>a k == j) n 0=if (a k == j)=true then (k:Ak) else firstAt (fun k=>a k == j) (n-(k+1)) (k+1)):=by
    show _=_;rw[o.o,show n-k=(n-(k+1))+1 by omega,firstAt]
   have p:Y _:=fun(w':Ag) (h:wr.grownBy w' S)=>ph b j (a k) (y1 k) (B k) (C k) (E k) (F k) (H k) w' (h.cell (i.o.cell HC.o (by simp)) (by simp))
   cases hb:a k == j
   ·rw[hb] at f p
    simp only[Ct,Gj] at f;go_wp2_with fail;refine(p.o _ (zP _ _)).mono ?_;rintro e w1 ⟨rfl,m⟩;have l:Y _:=zD i.o m;go_wp2;exact⟨⟨k+1,by omega,by go_num,f,l⟩,by simp[intOf];omega⟩
   ·rw[hb] at f p
    simp only[Gq] at f;go_wp2_with fail;refine(p.o _ (zP _ _)).mono ?_;rintro e w1 ⟨rfl,m⟩;have l:Y _:=zD i.o m;go_wp2;go_ret;exact⟨by rw[f.o];rfl,l.o⟩
  ·have q:k=n:=by omega
   subst q;rw[Gp,firstAt] at o;go_wp2;go_ret;exact⟨by rw[o.o];rfl,i.o⟩
theorem fC (b:Ad)(n:Ak)(w:Ag)(v:Aj)(l:A (Ak))(h:A (A Aj))(p:w.ownsRow 0 213 7 v (Z l) h.flatten)(C:Z l<=2000000000000)(s:w.cell? ⟨b,0,S⟩=V (O Ai n))
  (m:∀k (f:k<Z l),∀j,j<7->∃x,h.flatten[k*7+j]?=V x/\(j=0->x=O Ai l[k])):Am prog 329 #[v,.func (.func 328) #[] #[Al (V ⟨b,0,S⟩)]] w fun e w'=>e=Af (Av (l.any fun x=>x == n))/\w.grownBy w' S:=by
 by_cases t:l=[]
 ·subst t
  obtain⟨a,c,rfl⟩:=zL p;go_in;go_wp2
  go_loopw [8] (fun iv wr=>iv=O Ai 0/\wr=w) (fun _ _=>0)
  ·exact⟨rfl,rfl⟩
  ·
   obtain⟨rfl,rfl⟩:=hrel;go_wp2;go_ret;exact⟨rfl,zP _ _⟩
 ·have o:=Ox.2 t
  obtain⟨g,q,rfl,_,_⟩:=Bm p o;have d:∀k (f:k<Z l) j,j<7->w.cell? ⟨g,k*7+j,S⟩=h.flatten[k*7+j]?:=fun k f j hj=>Ap p (k*7+j) (by omega)
  have r:=tn b n w g (Z l) q (fun k=>l[k]?.getD 0) (fun k=>h.flatten[k*7+1]?.getD undef) (fun k=>h.flatten[k*7+2]?.getD undef) (fun k=>h.flatten[k*7+3]?.getD undef) (fun k=>h.flatten[k*7+4]?.getD undef) (fun k=>h.flatten[k*7+5]?.getD undef) (fun k=>h.flatten[k*7+6]?.getD undef) C s
   (fun k f=>by
    obtain⟨x,i,z⟩:=m k f 0 (by omega);have:=d k f 0 (by omega);rw[Xq] at this i;rw[this,i,z rfl,Bd f];rfl)
   (fun k f=>by obtain⟨x,i,_⟩:=m k f 1 (by omega);rw[d k f 1 (by omega),i];rfl)
   (fun k f=>by obtain⟨x,i,_⟩:=m k f 2 (by omega);rw[d k f 2 (by omega),i];rfl)
   (fun k f=>by obtain⟨x,i,_⟩:=m k f 3 (by omega);rw[d k f 3 (by omega),i];rfl)
   (fun k f=>by obtain⟨x,i,_⟩:=m k f 4 (by omega);rw[d k f 4 (by omega),i];rfl)
   (fun k f=>by obtain⟨x,i,_⟩:=m k f 5 (by omega);rw[d k f 5 (by omega),i];rfl)
   (fun k f=>by obtain⟨x,i,_⟩:=m k f 6 (by omega);rw[d k f 6 (by omega),i];rfl)
  have u:Y (decide (0<=firstAt (fun k=>l[k]?.getD 0 == n) (Z l) 0)=l.any fun x=>x == n):=by
   show _=_;rw[wn _ (l.map fun x=>x == n) (Z l) 0 (fun j hj=>by rw[Fq,Bd hj,Gr,Bd hj];rfl) (by simp),Oj];rfl
  have y:Y _:=fun(_:Unit)=>r
  generalize firstAt (fun k=>l[k]?.getD 0 == n) (Z l) 0=ix at*;go_in;go_wp2_with fail;refine(y.o ()).mono ?_;rintro e E ⟨rfl,B⟩;go_wp2;go_ret;exact⟨zX u.o,B⟩
theorem pV (x:As)(w:Ag)(g n c:Ad)(a:Ad->As)(o:n<=2000000000000)(i:∀k,k<n->w.cell? ⟨g,k,S⟩=V (I (a k))):Am prog 414 #[X (V ⟨g,0,S⟩) n c,I x] w fun e w'=>e=Af (O Ai (firstAt (fun k=>x.toList == (a k).toList) n 0))/\w'=w:=by
 have j:=J i;clear i;go_in;go_wp2
 go_loop [8] (fun iv=>∃k:Ad,k<=n/\iv=O Ai k/\Y (firstAt (fun k=>x.toList == (a k).toList) n 0=firstAt (fun k=>x.toList == (a k).toList) (n-k) k)) (fun iv=>n-(intOf iv).toNat)
 ·exact⟨0,Ax _,rfl,rfl⟩
 ·
  obtain⟨k,m,rfl,d⟩:=hrel
  by_cases h:k<n
  ·have l:=j.o k h
   have b:Y (firstAt (fun k=>x.toList == (a k).toList) n 0=if (x.toList == (a k).toList)=true then (k:Ak) else firstAt (fun k=>x.toList == (a k).toList) (n-(k+1)) (k+1)):=by
    show _=_;rw[d.o,show n-k=(n-(k+1))+1 by omega,firstAt]
   clear d;generalize a k=nk at*
   cases hb:(x.toList == nk.toList)
   ·rw[hb] at b
    simp only[Ct,Gj] at b;go_wp2;exact⟨⟨k+1,by omega,by go_num,b⟩,by simp[intOf];omega⟩
   ·rw[hb] at b
    simp only[Gq] at b;go_wp2;go_ret;exact⟨by rw[b.o];rfl,rfl⟩
  ·have f:k=n:=by omega
   subst f;rw[Gp,firstAt] at d;go_wp2;go_ret;exact⟨by rw[d.o];rfl,rfl⟩
theorem dg (x:A Ab)(w:Ag)(v:Aj)(l:A (A Ab))(f:w.ownsRow 0 9 1 v (Z l) (zY l))(s:Z l<=2000000000000):Am prog 384 #[v,I (Aa x)] w fun e w'=>e=Af (Av (l.any fun n=>decide (n=x)))/\w'=w:=by
 by_cases p:l=[]
 ·subst p
  obtain⟨a,c,rfl⟩:=zL f;go_in;go_wp2
  go_loop [8] (fun iv=>iv=O Ai 0) (fun _=>0)
  ·rfl
  ·
   subst hrel;go_wp2;go_ret;exact⟨rfl,rfl⟩
 ·have d:=Ox.2 p
  obtain⟨g,h,rfl,_,_⟩:=Bm f d;have i:=pV (Aa x) w g (Z l) h (fun k=>Aa (l[k]?.getD [])) s (fun k hk=>by
   rw[Ap f k (by omega)];unfold zY;rw[Fq,Bd hk];rfl)
  have o:∀a b:A Ab,((Aa a).toList == (Aa b).toList)=decide (b=a):=fun a b=>by rw[toLs,El,Be,Eb];simp[eq_comm]
  simp only[o] at i;have q:Y (decide (0<=firstAt (fun k=>decide (l[k]?.getD []=x)) (Z l) 0)=l.any fun n=>decide (n=x)):=by
   show _=_;rw[wn _ (l.map fun n=>decide (n=x)) (Z l) 0 (fun j hj=>by rw[Fq,Bd hj,Gr,Bd hj];rfl) (by simp),Oj];rfl
  have r:Y _:=fun(_:Unit)=>i
  generalize firstAt (fun k=>decide (l[k]?.getD []=x)) (Z l) 0=ix at*;go_in;go_wp2_with fail;refine(r.o ()).mono ?_;rintro e t ⟨rfl,m⟩;rw[m];go_wp2;go_ret;exact⟨zX q.o,rfl⟩
theorem zjI (l:A (A Ab×A Ab))(k:Ad)(a:k<Z l):(zi l)[k*2]?=V (I (Aa l[k].1))/\(zi l)[k*2+1]?=V (I (Aa l[k].2)):=by
 induction l generalizing k <;> grind[zi,Aa,List.getElem?_append_right,List.length_cons,List.length_nil]
theorem zdD (a b:A Ab):((Aa a).toList == (Aa b).toList)=decide (a=b):=by rw[toLs,El,Be]
theorem lq (b:Ad)(d:A Ab)(w:Ag)(v:Aj)(a:A (A Ab×A Ab))(f:w.ownsRow 0 280 2 v (Z a) (zi a))(i:Z a<=2000000000000)(g:w.cell? ⟨b,0,S⟩=V (I (Aa d))):Am prog 383 #[v,.func (.func 382) #[] #[Al (V ⟨b,0,S⟩)]] w fun e w'=>e=Af (Av ((a.map Bq).any fun n=>decide (n=d)))/\w.grownBy w' S:=by
 have h:=fZ b (Aa d) w v (a.map fun t=>Aa t.1) (a.map fun t=>[I (Aa t.1),I (Aa t.2)]) (by rw[Bv];exact f) (by rw[Bv];exact i) g (fun k hk j hj=>by
  rw[Bv] at hk;have c:=zjI a k hk;unfold zi at c
  match j,hj with
  |0,_=>exact⟨_,c.1,fun _=>by rw[Ha]⟩
  |1,_=>exact⟨_,c.2,fun h=>absurd h (by decide)⟩)
 rw[Oj] at h;simp only[Function.comp_def,zdD] at h;rw[Oj];exact h
theorem PInv.row {b:A Aj}(h:PInv w rb s st)(f:w.ownsRow B e a v n b)(d:w.grownBy w' (V rb))(c:e≠204):w'.ownsRow B e a v n b:=by grind[zJ,zI,P.St,PInv]
theorem nP (h:PInv w rb s st)(c0 c1 c2 c3 c4 vS Q:Aj)(b:A (A Ab×A Ab))(a:A (A Ab))
  (hS:w.ownsRow 0 280 2 vS (Z b) (zi b)) (hD:w.ownsRow 0 9 1 Q (Z a) (zY a)) (hn:Z b<=2000000000000) (hm:Z a<=2000000000000):Am prog 336 #[Al (V ⟨rb,0,S⟩),Fe #[c0,c1,c2,c3,c4,vS,Q]] w fun e w'=>e=Af (I (Aa (qi s.data.toList st (b.map Bq++a)).1))/\PInv w' rb s (qi s.data.toList st (b.map Bq++a)).2/\w.grownBy w' (V rb):=by
 have p:Y (qi s.data.toList st (b.map Bq++a)=((qV s.data.toList st).1,zh (qV s.data.toList st).2 ((b.map Bq++a).any fun n=>decide (n=(qV s.data.toList st).1)) 5 st.tok.at_)):=rfl;have H0:=J h;have ak:=zO h.rd;have ag:=J hS;have ad:=J hD;go_in;have C0:Y (w.grownBy w (V rb)):=zP _ _;have z:=J ag.o;have v:=J ad.o;go_wp2_with fail;refine(nQ (H0.o.keep (Ac _ _ _))).mono ?_;rintro e r ⟨rfl,I1,m⟩;have H:=J I1;have b1:=zO H.o.rd;have G1:Y (w.grownBy r (V rb)):=(zD (Ac _ _ _) m);have C1:=J (zD C0.o G1.o);have B:Y _:=H0.o.row z.o G1.o (by decide);have x:Y _:=H0.o.row v.o G1.o (by decide);have d:Y (r.heap[w.heap.size]?=V (Ae #[c0,c1,c2,c3,c4,vS,Q] 213)):=ql m (by simp;omega);generalize qV s.data.toList st=q at*;obtain⟨N,aq⟩:=q;simp only at H p ⊢;rw[List.any_append] at p;have am:=zO d.o;have al:=cbi 5 d.o;have ae:=J (hn);have af:=J (hm);go_wp2_with fail;refine(lq r.heap.size N _ vS b (Ao B.o _) ae.o (zB (Bn r _))).mono ?_;rintro e w2 ⟨rfl,l⟩;have o:=zT l (V rb);have J2:Y _:=((H.o.keep (Ac _ _ _))).keep l;have G2:Y (r.grownBy w2 (V rb)):=(zD (Ac _ _ _) o);have C2:=J (zD C1.o G2.o);have y:Y _:=H.o.row x.o G2.o (by decide);have f:=J (zE d.o G2.o (by simp;omega));have c:Y (w2.heap[r.heap.size]?=V (Ae #[I (Aa N)] 9)):=ql o (by simp;omega);generalize((b.map Bq).any fun n=>decide (n=N))=b1 at*
 cases b1
 ·have ap:=zO f.o
  have ao:=cbi 6 f.o;have an:=cbi 0 c.o;go_wp2_with fail;refine(dg N _ Q a y.o af.o).mono ?_;rintro e wX ⟨rfl,F⟩;rw[F];go_wp2_with fail;refine(yO J2.o _ _ _).mono ?_;rintro e ar ⟨rfl,C,g⟩;have ah:=J C;have t:=J (g);have aa:=J (zD C2.o t.o);have j:=J (zE c.o t.o (by simp;omega));have aj:=cbi 0 j.o;go_wp2;go_ret;exact⟨by rw[p.o];rfl,by rw[p.o,Qq];exact ah.o,aa.o⟩
 ·go_wp2_with fail
  refine(yO J2.o _ _ _).mono ?_;rintro e au ⟨rfl,E,i⟩;have ai:=J E;have u:=J (i);have ab:=J (zD C2.o u.o);have k:=J (zE c.o u.o (by simp;omega));have aj:=cbi 0 k.o;go_wp2;go_ret;exact⟨by rw[p.o];rfl,by rw[p.o,Vu];exact ai.o,ab.o⟩
abbrev Fh1:=Ae #[I ⟨#[]⟩,I ⟨#[]⟩] 280
abbrev Fh6 (a b c d e f g h i):=Ae #[b,c,d,e,f,X g a h,i] 213
theorem zd9 (h:PInv w rb s st)(g i j k l vS f:Aj)(a:A (A Ab×A Ab))(b:A (A Ab))
  (hS:w.ownsRow 0 280 2 vS (Z a) (zi a)) (hD:w.ownsRow 0 9 1 f (Z b) (zY b)) (hn:Z a<=2000000000000) (hm:Z b<=2000000000000):Am prog 274 #[Al (V ⟨rb,0,S⟩),Fe #[g,i,j,k,l,vS,f]] w fun e w'=>e=Af (Fe #[I (Aa (xj s.data.toList st (Z a) (a.map Bq++b)).1.1),I (Aa (xj s.data.toList st (Z a) (a.map Bq++b)).1.2)])/\PInv w' rb s (xj s.data.toList st (Z a) (a.map Bq++b)).2/\w.grownBy w' (V rb):=by
 have HP:Y (xj s.data.toList st (Z a) (a.map Bq++b)=(((jl s.data.toList st (Z a) (a.map Bq++b)).1,(x6 s.data.toList (jl s.data.toList st (Z a) (a.map Bq++b)).2).1),zS s.data.toList (x6 s.data.toList (jl s.data.toList st (Z a) (a.map Bq++b)).2).2 [59])):=rfl;have HA:Y (jl s.data.toList st (Z a) (a.map Bq++b)=qi s.data.toList (zS s.data.toList (zy st (Z a) 3) xX) (a.map Bq++b)):=rfl;have H0:=J h;have av:=zO h.rd;have ak:=J hS;have ah:=J hD;obtain⟨m,n,rfl⟩:=zL hS;have ai:=J hn;have aj:=J hm;go_in;have C0:Y (w.grownBy w (V rb)):=zP _ _;have B:=J ak.o;have t:=J ah.o;go_wp2_with fail;have J1:Y _:=H0.o.keep (Ac w (Fh6 (Z a) g i j k l m n f) S);have C1:Y (w.grownBy (Eo w (Fh6 (Z a) g i j k l m n f)) (V rb)):=zD C0.o (Ac w (Fh6 (Z a) g i j k l m n f) _);have C:Y _:=Ao B.o (Fh6 (Z a) g i j k l m n f);have u:Y _:=Ao t.o (Fh6 (Z a) g i j k l m n f);have an:Y ((Eo w (Fh6 (Z a) g i j k l m n f)).heap[w.heap.size]?=V (Fh6 (Z a) g i j k l m n f)):=Bn _ _;have s1:w.heap.size+1<=(Eo w (Fh6 (Z a) g i j k l m n f)).heap.size:=by simp
 have t1:(Eo w (Fh6 (Z a) g i j k l m n f)).heap.size<=w.heap.size+1:=by simp
 generalize(Eo w (Fh6 (Z a) g i j k l m n f))=w1 at*;have J2:Y _:=J1.o.keep (Ac w1 Fh1 S);have C2:Y (w.grownBy (Eo w1 Fh1) (V rb)):=zD C1.o (Ac w1 Fh1 _);have E:Y _:=Ao C.o Fh1;have x:Y _:=Ao u.o Fh1;have ao:=J (zE an.o (Ac w1 Fh1 S) (by simp));have o:Y ((Eo w1 Fh1).heap[w1.heap.size]?=V Fh1):=Bn _ _;have s2:w1.heap.size+1<=(Eo w1 Fh1).heap.size:=by simp
 have t2:(Eo w1 Fh1).heap.size<=w1.heap.size+1:=by simp
 generalize(Eo w1 Fh1)=w2 at*;have hE:w1.heap.size=w.heap.size+1:=by omega
 rw[hE] at o;refine(vq J2.o _ _).mono ?_;rintro e w3 ⟨rfl,I3,aa⟩;have J3:=J I3;have p:=J (aa);have C3:=J (zD C2.o p.o);have F:Y _:=J2.o.row E.o p.o (by decide);have y:Y _:=J2.o.row x.o p.o (by decide);have ap:=J (zE ao.o p.o (by simp;omega));have N:=J (zE o.o p.o (by simp;omega));go_wp2_with fail;refine(y8 J3.o _).mono ?_;rintro e w4 ⟨rfl,I4,ab⟩;have J4:=J I4;have r:=J (ab);have C4:=J (zD C3.o r.o);have H:Y _:=J3.o.row F.o r.o (by decide);have z:Y _:=J3.o.row y.o r.o (by decide);have c:=J (zE ap.o r.o (by simp;omega));have Q:=J (zE N.o r.o (by simp;omega));rw[show(⟨#[115,101,116]⟩:As).data.toList=xX from rfl] at J4;have aw:=cbi 0 c.o;have ax:=cbi 1 c.o;have ay:=cbi 2 c.o;have az:=cbi 3 c.o;have aA:=cbi 4 c.o;have aB:=cbi 5 c.o;have aC:=cbi 6 c.o;go_wp2_with fail;refine(nP J4.o g i j k l (X m (Z a) n) f a b H.o z.o ai.o aj.o).mono ?_;rintro e w5 ⟨rfl,I5,ad⟩;have J5:=J I5;have G5:=J (ad);have C5:=J (zD C4.o G5.o);have al:=J (zE Q.o G5.o (by simp;omega));rw[<-HA.o] at J5;rw[<-HA.o];generalize jl s.data.toList st (Z a) (a.map Bq++b)=q at*;obtain⟨nm,au⟩:=q;simp only at J5 HP ⊢;go_wp2_with fail;refine(sK J5.o).mono ?_;rintro e w6 ⟨rfl,I6,ae⟩;have J6:=J I6;have G6:=J (ae);have C6:=J (zD C5.o G6.o);have am:=J (zE al.o G6.o (by simp;omega));generalize x6 s.data.toList au=q at*;obtain⟨vl,aF⟩:=q;simp only at J6 HP ⊢;go_wp2_with fail;refine(y8 J6.o _).mono ?_;rintro e w7 ⟨rfl,I7,af⟩;have J7:=J I7;have G7:=J (af);have C7:=J (zD C6.o G7.o);have d:=J (zE am.o G7.o (by simp;omega));have aq:=cbi 0 d.o;have aD:=zm9 0 d.o;have ar:=cbi 1 d.o;have aE:=zm9 1 d.o;go_wp2;have ag:=zD (zF w7 (w.heap.size+1) 0 (I (Aa nm))) (zF _ (w.heap.size+1) 1 (I (Aa vl)));exact Et (v:=.agg #[I (Aa nm),I (Aa vl)]) (by simp[Hm,results274,go_sem,aq,ar]) rfl ⟨by rw[HP.o],by rw[HP.o];exact J7.o.other ag (by omega),ze C7.o ag (by omega)⟩
theorem lp (h:PInv w rb s st)(N Q c2 c3 c4 t vD:Aj)(b:A (A Ab×A Ab))(a:A (A Ab))
  (hS:w.ownsRow 0 280 2 t (Z b) (zi b)) (hD:w.ownsRow 0 9 1 vD (Z a) (zY a)) (hn:Z b<=2000000000000) (hm:Z a<=2000000000000):Am prog 275 #[Al (V ⟨rb,0,S⟩),Fe #[N,Q,c2,c3,c4,t,vD]] w fun e w'=>e=Af (I (Aa (xO s.data.toList st (Z a) (b.map Bq++a)).1))/\PInv w' rb s (xO s.data.toList st (Z a) (b.map Bq++a)).2/\w.grownBy w' (V rb):=by
 have C:Y (xO s.data.toList st (Z a) (b.map Bq++a)=((je s.data.toList st (Z a) (b.map Bq++a)).1,zS s.data.toList (je s.data.toList st (Z a) (b.map Bq++a)).2 [59])):=rfl;have x:Y (je s.data.toList st (Z a) (b.map Bq++a)=qi s.data.toList (zS s.data.toList (zy st (Z a) 3) qy) (b.map Bq++a)):=rfl;have v:=J h;have aa:=zO h.rd;have E:=J hS;have y:=J hD;obtain⟨da,dc,rfl⟩:=zL hD;have z:=J hn;have B:=J hm;go_in;have C0:Y (w.grownBy w (V rb)):=zP _ _;have j:=J E.o;have f:=J y.o;go_wp2_with fail;refine(vq (v.o.keep (Ac _ _ _)) _ _).mono ?_;rintro e w1 ⟨rfl,I1,d⟩;have F:=J I1;have u:Y (w.grownBy w1 (V rb)):=(zD (Ac _ _ _) d);have C1:=J (zD C0.o u.o);have k:Y _:=v.o.row j.o u.o (by decide);have g:Y _:=v.o.row f.o u.o (by decide);have m:Y (w1.heap[w.heap.size]?=V (Ae #[N,Q,c2,c3,c4,t,X da (Z a) dc] 213)):=ql d (by simp;omega);go_wp2_with fail;refine(y8 F.o _).mono ?_;rintro e w2 ⟨rfl,I2,n⟩;have J2:=J I2;have r:=J (n);have C2:=J (zD C1.o r.o);have l:Y _:=F.o.row k.o r.o (by decide);have i:Y _:=F.o.row g.o r.o (by decide);have c:=J (zE m.o r.o (by simp;omega));rw[show(⟨#[100,114,111,112]⟩:As).data.toList=qy from rfl] at J2;have ab:=cbi 0 c.o;have ad:=cbi 1 c.o;have ae:=cbi 2 c.o;have af:=cbi 3 c.o;have ag:=cbi 4 c.o;have ah:=cbi 5 c.o;have ai:=cbi 6 c.o;go_wp2_with fail;refine(nP J2.o N Q c2 c3 c4 t (X da (Z a) dc) b a l.o i.o z.o B.o).mono ?_;rintro e w3 ⟨rfl,I3,o⟩;have H:=J I3;have G3:=J (o);have C3:=J (zD C2.o G3.o);rw[<-x.o] at H;rw[<-x.o];generalize je s.data.toList st (Z a) (b.map Bq++a)=q at*;obtain⟨nm,aj⟩:=q;simp only at H C ⊢;go_wp2_with fail;refine(y8 H.o _).mono ?_;rintro e w4 ⟨rfl,I4,p⟩;have J4:=J I4;have G4:=J (p);have C4:=J (zD C3.o G4.o);go_wp2;go_ret;exact⟨by rw[C.o];rfl,by rw[C.o];exact J4.o,C4.o⟩
def xe (l:A P.Mt):A Aj:=(l.map P.Mt.cells).flatten
theorem fH (l:A P.Mt)(m:P.Mt):xe (l++[m])=xe l++m.cells:=by simp[xe]
def PRuleVal (w:Ag)(cells:A Aj)(r:P.Rl):Prop:=
 ∃vM vT vS vD,cells=[O Ai r.number,I (Aa r.path),vM,vT,I (Aa r.rep),vS,vD]/\
  w.ownsRow 0 276 3 vM (Z r.ms) (xe r.ms)/\w.ownsRow 0 285 2 vT (Z r.tg) (zx r.tg)/\
  w.ownsRow 0 280 2 vS (Z r.sets) (zi r.sets)/\w.ownsRow 0 9 1 vD (Z r.drops) (zY r.drops)
def PRulesRow (w:Ag)(B:Ad)(v:Aj)(rs:A P.Rl):Prop:=
 ∃css:A (A Aj),w.ownsRow B 213 7 v (Z rs) css.flatten/\All2 (PRuleVal w) css rs
def PHostVal (w:Ag)(cells:A Aj)(h:P.Hst):Prop:=∃vR,cells=[I (Aa h.name),vR]/\PRulesRow w 0 vR h.rules
def PHostsRow (w:Ag)(B:Ad)(v:Aj)(hs:A P.Hst):Prop:=
 ∃css:A (A Aj),w.ownsRow B 146 2 v (Z hs) css.flatten/\All2 (PHostVal w) css hs
def pleaves:A Cs:=[276,285,280,9]
def prtags:A Cs:=213::pleaves
def phtags:A Cs:=146::prtags
theorem jW {row:Br Ad}{a:Cs}{l:A Cs}(h:Safe w row (a::l)):Safe w row l:=by grind[Safe]
theorem PRuleVal.keep {a:A Aj}{r:P.Rl}{row:Br Ad}(h:PRuleVal w a r)(g:w.grownBy w' row)(i:Safe w row pleaves):PRuleVal w' a r:=by
 obtain⟨k,m,l,j,e,b,c,d,f⟩:=h
 grind[x7,P.Rl,PRuleVal,Safe,pleaves]
theorem PRulesRow.keep {g:A P.Rl}{row:Br Ad}(h:PRulesRow w B v g)(d:w.grownBy w' row)(f:Safe w row prtags):PRulesRow w' B v g:=by
 obtain⟨c,i,j⟩:=h;exact⟨c,x7 i d f (by decide),j.map fun a b hab=>hab.keep d (jW f)⟩
theorem PRulesRow.base {b:A P.Rl}(h:PRulesRow w B v b)(c:a<=B):PRulesRow w a v b:=by grind[zo,P.Rl,PRulesRow]
theorem PHostVal.keep {a:A Aj}{h:P.Hst}{row:Br Ad}(f:PHostVal w a h)(c:w.grownBy w' row)(d:Safe w row prtags):PHostVal w' a h:=by
 obtain⟨g,e,b⟩:=f;exact⟨g,e,b.keep c d⟩
theorem PHostsRow.keep {g:A P.Hst}{row:Br Ad}(h:PHostsRow w B v g)(f:w.grownBy w' row)(c:Safe w row phtags):PHostsRow w' B v g:=by
 obtain⟨d,i,j⟩:=h;exact⟨d,x7 i f c (by decide),j.map fun a b hab=>hab.keep f (jW c)⟩
theorem PInv.safe {l:A Cs}(h:PInv w rb s st)(a:204 ∉ l):Safe w (V rb) l:=xQ h.rd a
theorem aE {a:A (A Aj)}{b:A P.Rl}(h:All2 (PRuleVal w) a b)(k:Ad)(f:k<Z b):∃cs,PRuleVal w cs b[k]/\∀j,j<7->a.flatten[k*7+j]?=cs[j]?:=by
 induction h generalizing k with
 |nil=>simp at f
 | @cons c r cs b hc _ ih=>
  have e:Z c=7:=by obtain⟨m,o,n,l,rfl,_⟩:=hc;rfl
  match k with
  |0=>exact⟨c,hc,fun j hj=>by rw[Ci,Cx (by omega)];simp⟩
  |k+1=>
   obtain⟨d,g,i⟩:=ih k (by simpa using f);refine⟨d,g,fun j hj=>?_⟩;rw[Ci,Cl (by omega),e,show(k+1)*7+j-7=k*7+j by omega,i j hj]
theorem mo {a:A (A Aj)}{b:A P.Hst}(h:All2 (PHostVal w) a b)(k:Ad)(f:k<Z b):∃cs,PHostVal w cs b[k]/\∀j,j<2->a.flatten[k*2+j]?=cs[j]?:=by
 induction h generalizing k with
 |nil=>simp at f
 | @cons c r cs rs hc _ ih=>
  have e:Z c=2:=by obtain⟨l,rfl,_⟩:=hc;rfl
  match k with
  |0=>exact⟨c,hc,fun j hj=>by rw[Ci,Cx (by omega)];simp⟩
  |k+1=>
   obtain⟨d,g,i⟩:=ih k (by simpa using f);refine⟨d,g,fun j hj=>?_⟩;rw[Ci,Cl (by omega),e,show(k+1)*2+j-2=k*2+j by omega,i j hj]
theorem al (b:Ad)(n:Ak)(w:Ag)(B:Ad)(v:Aj)(a:A P.Rl)(g:PRulesRow w B v a)(o:Z a<=2000000000000)(l:w.cell? ⟨b,0,S⟩=V (O Ai n)):Am prog 329 #[v,.func (.func 328) #[] #[Al (V ⟨b,0,S⟩)]] w fun e w'=>e=Af (Av ((a.map P.Rl.number).any fun m=>decide (m=n)))/\w.grownBy w' S:=by
 obtain⟨c,d,f⟩:=g;have h:=fC b n w v (a.map P.Rl.number) c (by rw[Bv];exact zo d (Ax _)) (by rw[Bv];exact o) l (fun k hk j hj=>by
  rw[Bv] at hk;obtain⟨p,⟨r,t,s,q,e,_⟩,i⟩:=aE f k hk;subst e;have:=i j hj
  match j,hj with
  |0,_=>exact⟨_,this,fun _=>by rw[Ha]⟩
  |1,_=>exact⟨_,this,fun h=>absurd h (by decide)⟩
  |2,_=>exact⟨_,this,fun h=>absurd h (by decide)⟩
  |3,_=>exact⟨_,this,fun h=>absurd h (by decide)⟩
  |4,_=>exact⟨_,this,fun h=>absurd h (by decide)⟩
  |5,_=>exact⟨_,this,fun h=>absurd h (by decide)⟩
  |6,_=>exact⟨_,this,fun h=>absurd h (by decide)⟩)
 have e:(fun x:Ak=>x == n)=fun m=>decide (m=n):=by funext x;rw[Eb];simp
 rw[e] at h;exact h
theorem ak (b:Ad)(d:A Ab)(w:Ag)(B:Ad)(v:Aj)(a:A P.Hst)(i:PHostsRow w B v a)(o:Z a<=2000000000000)(n:w.cell? ⟨b,0,S⟩=V (I (Aa d))):Am prog 269 #[v,.func (.func 267) #[] #[Al (V ⟨b,0,S⟩)]] w fun e w'=>e=Af (Av ((a.map P.Hst.name).any fun m=>decide (m=d)))/\w.grownBy w' S:=by
 obtain⟨c,f,g⟩:=i;have h:=fB b (Aa d) w v (a.map fun h=>Aa h.name) c (by rw[Bv];exact zo f (Ax _)) (by rw[Bv];exact o) n (fun k hk j hj=>by
  rw[Bv] at hk;obtain⟨p,⟨q,e,_⟩,l⟩:=mo g k hk;subst e;have:=l j hj
  match j,hj with
  |0,_=>exact⟨_,this,fun _=>by rw[Ha]⟩
  |1,_=>exact⟨_,this,fun h=>absurd h (by decide)⟩)
 rw[Oj] at h;simp only[Function.comp_def,zdD] at h;rw[Oj];exact h
theorem nW (h:PInv w rb s st)(B:Ad)(v:Aj)(c:A P.Rl)(Q:PRulesRow w B v c)(hn:Z c<=2000000000000):Am prog 270 #[Al (V ⟨rb,0,S⟩),v] w fun e w'=>e=Af (O Ai (xp s.data.toList st (c.map P.Rl.number)).1)/\PInv w' rb s (xp s.data.toList st (c.map P.Rl.number)).2/\w.grownBy w' (V rb)/\0<=(xp s.data.toList st (c.map P.Rl.number)).1/\(xp s.data.toList st (c.map P.Rl.number)).1<=99999:=by
 have g:Y (xp s.data.toList st (c.map P.Rl.number)=((qp s.data.toList st).1,zh (zh (qp s.data.toList st).2 (decide (65535<(qp s.data.toList st).1)) 4 st.tok.at_) ((c.map P.Rl.number).any fun n=>decide (n=(qp s.data.toList st).1)) 5 st.tok.at_)):=rfl;have E:=J h;have HR:=J (Q);have HN:=J hn;go_in;have C0:Y (w.grownBy w (V rb)):=zP _ _;go_wp2_with fail;refine(fh E.o).mono ?_;rintro e b ⟨rfl,F,l,r,t⟩;have u:=J F;have b1:=zO u.o.rd;have G1:=J (l);have C1:=J (zD C0.o G1.o);generalize qp s.data.toList st=q at*;obtain⟨a,ab⟩:=q;simp only at u g r t ⊢;go_wp2_with fail;have J2:Y _:=u.o.keep (Ac b (Ae #[O Ai a] 3) S);have C2:Y (w.grownBy (Eo b (Ae #[O Ai a] 3)) (V rb)):=zD C1.o (Ac b (Ae #[O Ai a] 3) _);have i:Y ((Eo b (Ae #[O Ai a] 3)).heap[b.heap.size]?=V (Ae #[O Ai a] 3)):=Bn _ _;have s2:b.heap.size+1<=(Eo b (Ae #[O Ai a] 3)).heap.size:=by simp
 have t2:(Eo b (Ae #[O Ai a] 3)).heap.size<=b.heap.size+1:=by simp
 generalize(Eo b (Ae #[O Ai a] 3))=w2 at*;refine(yO J2.o _ _ _).mono ?_;rintro e w3 ⟨rfl,H,m⟩;have J3:=J H;have y:=J (m);have x:=J (zD C2.o y.o);have d:=J (zE i.o y.o (by simp;omega));go_wp2_with fail;refine(al b.heap.size a _ B v c (HR.o.keep x.o (E.o.safe (by decide))) HN.o (zB d.o)).mono ?_;rintro e w4 ⟨rfl,f⟩;have o:=zT f (V rb);have J4:Y _:=(J3.o).keep f;have z:=J (o);have C4:=J (zD x.o z.o);have j:=J (zE d.o z.o (by simp;omega));go_wp2_with fail;refine(yO J4.o _ _ _).mono ?_;rintro e w5 ⟨rfl,N,p⟩;have J5:=J N;have C:=J (p);have C5:=J (zD C4.o C.o);have k:=J (zE j.o C.o (by simp;omega));have aa:=cbi 0 k.o;go_wp2;go_ret;exact⟨by rw[g.o];rfl,by rw[g.o,Oj];exact J5.o,C5.o,by rw[g.o];exact r,by rw[g.o];exact t⟩
abbrev Fh3 (a):=Ae #[I (Aa (Cj a))] 9
theorem aq (h:PInv w rb s st)(B:Ad)(v:Aj)(i:A P.Hst)(hR:PHostsRow w B v i)(hn:Z i<=2000000000000)(hG:Glob w)(N:rb≠0):Am prog 207 #[Al (V ⟨rb,0,S⟩),v] w fun e w'=>e=Af (I (Aa (x8 s.data.toList st (i.map P.Hst.name)).1))/\PInv w' rb s (x8 s.data.toList st (i.map P.Hst.name)).2/\w.grownBy w' (V rb):=by
 have H:Y (x8 s.data.toList st (i.map P.Hst.name)=(Cj (qA s.data.toList st).1,
 zh (zh (qA s.data.toList st).2 (!R.named (qA s.data.toList st).1 true) 4 st.tok.at_) ((i.map P.Hst.name).any fun n=>decide (n=Cj (qA s.data.toList st).1)) 5 st.tok.at_)):=rfl
 have H0:=J h;have HR:=J (hR);have HN:=J hn;have HG:=J (hG);have C:=J (h.slen);go_in;have C0:Y (w.grownBy w (V rb)):=zP _ _;go_wp2_with fail;refine(js H0.o).mono ?_;rintro e w1 ⟨rfl,I1,o⟩;have J1:=J I1;have G1:=J (o);have C1:=J (zD C0.o G1.o);generalize qA s.data.toList st=q at*;obtain⟨a,ab⟩:=q;simp only at J1 H C ⊢;have E:Y ((Aa a).size<=1000000000000):=by have:=C.o;show _<=_;omega
 have F:Y ((Aa a).size<=3000):=by have:=C.o;show _<=_;omega
 go_wp2_with fail;refine(tF _ _ E.o).mono ?_;rintro e b ⟨rfl,d⟩;have p:=zT d (V rb);have J2:Y _:=(J1.o).keep d;have b2:=zO J2.o.rd;have G2:=J (p);have C2:=J (zD C1.o G2.o);rw[Be];go_wp2_with fail;have J3:Y _:=J2.o.keep (Ac b (Fh3 a) S);have Q:Y (w.grownBy (Eo b (Fh3 a)) (V rb)):=zD C2.o (Ac b (Fh3 a) _);have j:Y ((Eo b (Fh3 a)).heap[b.heap.size]?=V (Fh3 a)):=Bn _ _;have s3:b.heap.size+1<=(Eo b (Fh3 a)).heap.size:=by simp
 have t3:(Eo b (Fh3 a)).heap.size<=b.heap.size+1:=by simp
 generalize(Eo b (Fh3 a))=w3 at*;obtain⟨gm,y⟩:=HG.o.keep Q.o (by simpa using N);have z:=J y;refine(zbJ _ _ gm z.o F.o).mono ?_;rintro e w4 ⟨rfl,f⟩;have r:=zT f (V rb);have J4:Y _:=(J3.o).keep f;have G4:=J (r);have C4:=J (zD Q.o G4.o);have k:=J (zE j.o G4.o (by simp;omega));rw[Be];go_wp2_with fail;refine(yO J4.o _ _ _).mono ?_;rintro e w5 ⟨rfl,I5,t⟩;have J5:=J I5;have G5:=J (t);have C5:=J (zD C4.o G5.o);have c:=J (zE k.o G5.o (by simp;omega));go_wp2_with fail;refine(ak b.heap.size (Cj a) _ B v i (HR.o.keep C5.o (H0.o.safe (by decide))) HN.o (zB c.o)).mono ?_;rintro e w6 ⟨rfl,g⟩;have u:=zT g (V rb);have J6:Y _:=(J5.o).keep g;have G6:=J (u);have C6:=J (zD C5.o G6.o);have l:=J (zE c.o G6.o (by simp;omega));go_wp2_with fail;refine(yO J6.o _ _ _).mono ?_;rintro e w7 ⟨rfl,I7,x⟩;have J7:=J I7;have G7:=J (x);have C7:=J (zD C6.o G7.o);have m:=J (zE l.o G7.o (by simp;omega));have aa:=cbi 0 m.o;go_wp2;go_ret;exact⟨by rw[H.o];rfl,by rw[H.o,Oj];exact J7.o,C7.o⟩
theorem zd7 (x:Aj)(n:Ak)(w:Ag):Am prog 335 #[Fe #[x,O Ai n]] w fun e w'=>e=Af (Av (n == 0))/\w.grownBy w' S:=by
 go_in;go_wp2;go_ret;exact⟨rfl,Ac _ _ _⟩
theorem dh (w:Ag)(g n c:Ad)(q:Ad->Aj)(b:Ad->Ak)(y:n<=2000000000000)
  (o:∀k,k<n->w.cell? ⟨g,k*2,S⟩=V (q k)) (p:∀k,k<n->w.cell? ⟨g,k*2+1,S⟩=V (O Ai (b k))):Am prog 381 #[X (V ⟨g,0,S⟩) n c,.func (.func 335) #[] #[]] w fun e w'=>e=Af (O Ai (firstAt (fun k=>b k == 0) n 0))/\w.grownBy w' S:=by
 have r:=J o;have s:=J p;go_in;go_wp2
 go_loopw [8] (fun iv wr=>∃k:Ad,k<=n/\iv=O Ai k/\Y (firstAt (fun k=>b k == 0) n 0=firstAt (fun k=>b k == 0) (n-k) k)/\Y (w.grownBy wr S)) (fun iv _=>n-(intOf iv).toNat)
 ·exact⟨0,Ax _,rfl,rfl,zP _ _⟩
 ·
  obtain⟨k,x,rfl,j,f⟩:=hrel
  by_cases i:k<n
  ·have u:=f.o.cell (r.o k i) (by simp)
   have v:=f.o.cell (s.o k i) (by simp);have a:Y (firstAt (fun k=>b k == 0) n 0=if (b k == 0)=true then (k:Ak) else firstAt (fun k=>b k == 0) (n-(k+1)) (k+1)):=by
    show _=_;rw[j.o,show n-k=(n-(k+1))+1 by omega,firstAt]
   have l:Y _:=fun(w':Ag)=>zd7 (q k) (b k) w'
   cases hb:(b k == 0)
   ·rw[hb] at a l
    simp only[Ct,Gj] at a;go_wp2_with fail;refine(l.o _).mono ?_;rintro e t ⟨rfl,h⟩;have d:Y _:=zD f.o h;go_wp2;exact⟨⟨k+1,by omega,by go_num,a,d⟩,by simp[intOf];omega⟩
   ·rw[hb] at a l
    simp only[Gq] at a;go_wp2_with fail;refine(l.o _).mono ?_;rintro e t ⟨rfl,h⟩;have d:Y _:=zD f.o h;go_wp2;go_ret;exact⟨by rw[a.o];rfl,d.o⟩
  ·have m:k=n:=by omega
   subst m;rw[Gp,firstAt] at j;go_wp2;go_ret;exact⟨by rw[j.o];rfl,f.o⟩
def nz (l:A (A Ab×Ak)):A (A Ab×Ak):=l.filter fun t=>!(t.2 == 0)
theorem bQ (l:A (A Ab×Ak))(k:Ad)(a:k<Z l):(zx l)[k*2]?=V (I (Aa l[k].1))/\(zx l)[k*2+1]?=V (O Ai l[k].2):=by
 induction l generalizing k <;> grind[zx,Aa,List.getElem?_append_right,List.length_cons,List.length_nil]
theorem iD (l:A (A Ab×Ak)):Z (zx l)=Z l*2:=by
 induction l <;> grind[zx,Aa,List.length_append]
theorem zb1 (l:A (A Ab×Ak)):∀(n k:Ad),n+k=Z l->nz (l.take k)=l.take k->
  (firstAt (fun j=>(l[j]?.map Prod.snd).getD 1 == 0) n k = -1/\nz l=l)\/∃i:Ad,firstAt (fun j=>(l[j]?.map Prod.snd).getD 1 == 0) n k=i/\i<Z l/\nz (l.take (i+1))=l.take i:=by
 intro n
 induction n with
 |zero=>intro k h b;left;rw[Cc (by omega)] at b;exact⟨rfl,b⟩
 |succ n ih=>
  intro k h b;have c:k<Z l:=by omega
  rw[firstAt];have e:(l[k]?.map Prod.snd).getD 1=l[k].2:=by rw[Bd c];rfl
  rw[e];have d:nz (l.take (k+1))=l.take k++(if (l[k].2 == 0)=true then [] else [l[k]]):=by
   rw[Co c];unfold nz at b ⊢;rw[Nj,b]
   congr 1
   by_cases a:(l[k].2 == 0)=true
   ·rw[Az a,Mp,Aw (by rw[a];simp)];rfl
   ·rw[Aw a,Mp,Az (by simpa using a)];rfl
  by_cases a:(l[k].2 == 0)=true
  ·rw[Az a] at d ⊢
   right;exact⟨k,rfl,c,by rw[d,Cv]⟩
  ·rw[Aw a] at d ⊢
   exact ih (k+1) (by omega) (by rw[d,Co c])
def DelAt (w:Ag)(g cap:Ad)(l:A (A Ab×Ak))(i j:Ad):Prop:=
 ∃cur:Array Aj,w.heap[g]?=V (Ae cur 285 (0,0))/\cur.size=cap*2/\cur.toList.take (i*2)=zx (nz (l.take j))/\
  ∀(k:Ad) (hk:k<Z l),j<=k->cur[k*2]?=V (I (Aa l[k].1))/\cur[k*2+1]?=V (O Ai l[k].2)
variable {l:A (A Ab×Ak)}
theorem DelAt.keep (h:DelAt w g a l i j)(b:w.grownBy w' S):DelAt w' g a l i j:=by grind[zE,DelAt]
theorem DelAt.skip (h:DelAt w g a l i j)(c:j<Z l)(b:l[j].2=0):DelAt w g a l i (j+1):=by grind[List.take_succ_eq_append_getElem,nz,DelAt]
theorem DelAt.take (h:DelAt w g a l i j)(t:j<Z l)(s:i<j)(v:Z l<=a)(o:l[j].2≠0):DelAt ((w.setCell ⟨g,i*2,S⟩ (I (Aa l[j].1))).setCell ⟨g,i*2+1,S⟩ (O Ai l[j].2)) g a l (i+1) (j+1):=by
 obtain⟨b,p,n,q,r⟩:=h;refine⟨_,zH (zH p _) _,by simp[n],?_,fun k hk hjk=>?_⟩
 ·have e:nz (l.take (j+1))=nz (l.take j)++[l[j]]:=by
   rw[Co t];unfold nz;rw[Nj,Mp,Az (by simpa using o)];rfl
  rw[e,yn,<-q];have x:i*2+1<Z b.toList:=by rw[Array.length_toList,n];omega
  rw[Array.toList_setIfInBounds,Array.toList_setIfInBounds];generalize b.toList=cl at*
  apply Qt
  intro m;rw[Gi,Xc,Xc]
  by_cases u:m<i*2
  ·rw[Az (by omega),Aw (by omega),Aw (by omega),Cx (by rw[Cq];omega),Gi,Az u]
  ·have c:Z (cl.take (i*2))=i*2:=by rw[Cq];omega
   rw[Cl (by omega),c]
   by_cases d:m=i*2
   ·subst d
    rw[Az (by omega),Aw (by omega),Az rfl,Az (by omega),Gp];rfl
   ·by_cases f:m=i*2+1
    ·subst f
     rw[Az (by omega),Az rfl,Az (by simp;omega),show i*2+1-i*2=1 by omega];rfl
    ·rw[Aw (by omega),Qh (by simp;omega)]
 ·have:=r k hk (by omega)
  rw[Cd,Cd,Aw (by omega),Aw (by omega),Cd,Cd,Aw (by omega),Aw (by omega)];exact this
theorem DelAt.cells (h:DelAt w g a l i j)(k:Ad)(c:k<Z l)(b:j<=k):w.cell? ⟨g,k*2,S⟩=V (I (Aa l[k].1))/\w.cell? ⟨g,k*2+1,S⟩=V (O Ai l[k].2):=by grind[zB,DelAt,Aa]
theorem DelAt.any (h:DelAt w g a l i j)(k:Ad)(n:k<a*2):(∃x,w.cell? ⟨g,k,S⟩=V x)/\w.frozen? ⟨g,k,S⟩=false:=by
 obtain⟨b,c,d,f,m⟩:=h;refine⟨?_,zG c⟩;rw[zB c];exact⟨b[k]'(by omega),Fj (by omega)⟩
theorem nu (b:Ad):∀(d:A Aj) (o:Ad) (w:Ag) (c:Array Aj) (t:Cs) (f:Ad×Ad),w.heap[b]?=V (Ae c t f)->
  ∃a:Array Aj,(w.setCells b o d).heap[b]?=V (Ae a t f)/\a.size=c.size/\∀j,j<o->a[j]?=c[j]?:=by
 intro d
 induction d with
 |nil=>intro o w c t f h;exact⟨c,h,rfl,fun _ _=>rfl⟩
 |cons v d ih=>
  intro o w c t f h;rw[World.setCells];obtain⟨a,g,i,k⟩:=ih (o+1) (w.setCell ⟨b,o,S⟩ v) (c.setIfInBounds o v) t f (zH h v);refine⟨a,g,by rw[i];simp,fun j hj=>?_⟩;rw[k j (by omega),Cd,Aw (by omega)]
theorem n9 (b:Ad):∀(a:A Aj) (o:Ad) (w:Ag),w.grownBy (w.setCells b o a) (V b):=by
 intro a
 induction a with
 |nil=>intro o w;exact zP _ _
 |cons v a ih=>intro o w;rw[World.setCells];exact zD (zF _ _ _ _) (ih _ _)
theorem DelAt.done (h:DelAt w g a l i j)(u:j=Z l)(t:Z (nz l)=i)(s:B<=g)(k:i<=a)(f:a<=Bh)(p:A Aj)(z:i*2<=n) :
  (w.setCells g n p).ownsRow B 285 2 (X (V ⟨g,0,S⟩) i a) i (zx (nz l)):=by
 obtain⟨d,q,r,o,_⟩:=h;obtain⟨b,v,x,y⟩:=nu g p n w d _ _ q;subst u;rw[show l.take (Z l)=l from Cc (Aq _)] at o;refine⟨by rw[iD,t],Bf ⟨g,a,b,rfl,s,v,k,f,by rw[x,r],?_⟩⟩;rw[<-o]
 apply Qt
 intro m;rw[Gi,Gi]
 by_cases c:m<i*2
 ·rw[Az c,Az c,Nh,Nh,y m (by omega)]
 ·rw[Aw c,Aw c]
abbrev Fh5 (a):=Nb #[I ⟨#[]⟩,O Ai 0] a
theorem zjE (n:Ad):Z (Fh5 n).toList=n*2:=by simp[Nb]
theorem zm3 (n:Ad):∀v∈(Nb #[I ⟨#[]⟩,O Ai 0] n).toList,v.oneCell'=true:=by
 intro v a;unfold Nb at a;simp at a;obtain⟨i,b,rfl⟩:=a;have:i % 2=0\/i % 2=1:=by omega
 rcases this with h|h <;> simp[h] <;> rfl
theorem eP (w:Ag)(g o n c:Ad)(k:0<n)(d:∀j,j<n*2->(w.cell? ⟨g,o+j,S⟩).isSome=true)(f:∀j,j<n*2->w.frozen? ⟨g,o+j,S⟩=false)(i:Cs) :
  (Builtin.clear_ #[210] i #[X (V ⟨g,o,S⟩) n c]).run prog w = .ok (.tuple #[]) (w.setCells g o (Fh5 n).toList):=by
 have a:=run_storeCells_cells (P:=prog) g o (Fh5 n).toList 0 w (by rw[zjE];simpa using d) (by rw[zjE];simpa using f) (zm3 n);simp only[Xq] at a;have h:prog.underlying 210=V (.slice 285):=by kernel_rfl
 obtain⟨m,rfl⟩:∃m,n=m+1:=⟨n-1,by omega⟩;have b:(Value.agg #[I ⟨#[]⟩,O Ai 0]).cells=#[I ⟨#[]⟩,O Ai 0]:=rfl;simp[Builtin.clear_,run_underlying h,b,a]
theorem nM (w:Ag)(B:Ad)(v:Aj)(l:A (A Ab×Ak))(hv:w.ownsRow B 285 2 v (Z l) (zx l))(hn:Z l<=2000000000000)(Q:0<Z l):Am prog 334 #[v,.func (.func 335) #[] #[]] w fun e w'=>∃v',e=Af v'/\w'.ownsRow B 285 2 v' (Z (nz l)) (zx (nz l))/\w.grownBy w' v.ownBlock:=by
 obtain⟨g,o,rfl,am,an⟩:=Bm hv Q;have c:∀j,j<Z l*2->w.cell? ⟨g,j,S⟩=(zx l)[j]?:=fun j hj=>Ap hv j (by omega)
 have HI:Y _:=fun(_:Unit)=>dh w g (Z l) o (fun k=>I (Aa ((l[k]?.map Bq).getD []))) (fun k=>(l[k]?.map Prod.snd).getD 1) hn
  (fun k q=>by rw[c (k*2) (by omega),(bQ l k q).1,Bd q];rfl)
  (fun k q=>by rw[c (k*2+1) (by omega),(bQ l k q).2,Bd q];rfl)
 have HR:=J hv;clear c hv;rcases zb1 l (Z l) 0 (by omega) (by rfl) with ⟨h1,h2⟩|⟨i,h1,h2,h3⟩
 ·rw[h1] at HI
  have H:=J (h2);clear h1 h2;go_in;go_wp2_with fail;refine(HI.o ()).mono ?_;rintro e w1 ⟨rfl,u⟩;go_wp2;go_ret;exact⟨_,rfl,by rw[H.o];exact World.ownsRow.kept HR.o u (Bf (by simp[Ix])),zT u _⟩
 ·rw[h1] at HI
  have H:=J (h3);have ap:((i:Ak) == -1)=false:=by rw[Ch];omega
  clear h1 h3;go_in;go_wp2_with fail;refine(HI.o ()).mono ?_;rintro e w1 ⟨rfl,u⟩;obtain⟨aj,ak⟩:=HR.o;rcases ak with ⟨hbad,_⟩|⟨g',cap',cur,hve,hB,hblk,hnc,hcm,hcs,htk⟩
  ·cases hbad
  simp only[Au,Ey,Addr.mk.injEq] at hve;obtain⟨⟨rfl,_⟩,_,rfl⟩:=hve;have aa:Y (DelAt w1 g o l i (i+1)):=by
   refine DelAt.keep ⟨cur,hblk,hcs,?_,fun k q hik=>?_⟩ u
   ·rw[H.o]
    have:cur.toList.take (i*2)=(cur.toList.take (Z l*2)).take (i*2):=by rw[List.take_take,Vj (by omega)]
    rw[this,htk]
    apply Qt
    intro m;rw[Gi]
    by_cases hm:m<i*2
    ·rw[Az hm]
     have q:m / 2<Z l:=by omega
     have ai:m / 2<Z (l.take i):=by rw[Cq];omega
     have a1:=bQ l (m / 2) q;have a2:=bQ (l.take i) (m / 2) ai;rw[List.getElem_take] at a2;have:m % 2=0\/m % 2=1:=by omega
     rcases this with h|h
     ·have e:m=m / 2*2:=by omega
      rw[e,a1.1,a2.1]
     ·have e:m=m / 2*2+1:=by omega
      rw[e,a1.2,a2.2]
    ·rw[Aw hm,Qh (by rw[iD,Cq];omega)]
   ·have a:=bQ l k q
    rw[<-htk,Gi,Gi,Az (by omega),Az (by omega),Nh,Nh] at a;exact a
  have af:Y (Z (nz (l.take (i+1)))=i):=by show _=_;rw[H.o,Cq];omega
  have ad:Y (w.grownBy w1 (V g)):=zT u _;clear aj hblk hcs htk u;go_wp2
  go_loopw [5,6] (fun iv jv wr=>∃i j:Ad,i<j/\j<=Z l/\iv=O Ai i/\jv=O Ai j/\Y (Z (nz (l.take j))=i)/\Y (DelAt wr g o l i j)/\Y (w.grownBy wr (V g))) (fun _ jv _=>Z l-(intOf jv).toNat)
  ·exact⟨i,i+1,by omega,by omega,rfl,by go_num,af,aa,ad⟩
  ·
   obtain⟨i,j,ag,ao,rfl,rfl,f,y,HG⟩:=hrel
   by_cases p:j<Z l
   ·obtain⟨d0,d1⟩:=y.o.cells j p (Aq _)
    have HS:Y _:=fun(w':Ag)=>zd7 (I (Aa l[j].1)) l[j].2 w'
    by_cases s:l[j].2=0
    ·have ab:=J (y.o.skip p s)
     have E:Y (Z (nz (l.take (j+1)))=i):=by
      show _=_;rw[Co p];unfold nz;rw[Nj,Mp,Aw (by simp[s])];simpa[nz] using f.o
     have N:(l[j].2 == 0)=true:=by rw[s];rfl
     rw[N] at HS;clear N s;generalize l[j]=t at*;go_wp2_with fail;refine(HS.o _).mono ?_;rintro e r ⟨rfl,d⟩;have b:wr.grownBy r S:=zD (Ac _ _ _) d;have z:Y _:=ab.o.keep b;have C:Y _:=zD HG.o (zT b _);clear d b;go_wp2;exact⟨⟨i,j+1,by omega,by omega,rfl,by go_num,E,z,C⟩,by simp[intOf];omega⟩
    ·have HT:Y (∀r,wr.grownBy r S->DelAt ((r.setCell ⟨g,i*2,S⟩ (I (Aa l[j].1))).setCell ⟨g,i*2+1,S⟩ (O Ai l[j].2)) g o l (i+1) (j+1)):=fun r u=>(y.o.keep u).take p ag hnc s
     have E:Y (Z (nz (l.take (j+1)))=i+1):=by
      show _=_;rw[Co p];unfold nz;rw[Nj,Mp,Az (by simpa using s)];simpa[nz] using f.o
     have N:(l[j].2 == 0)=false:=by rw[Ch];exact s
     rw[N] at HS;clear N s;generalize l[j]=t at*;go_wp2_with fail;refine(HS.o _).mono ?_;rintro e r ⟨rfl,d⟩;have b:wr.grownBy r S:=zD (Ac _ _ _) d;have F:=y.o.keep b;obtain⟨⟨x0,k0⟩,f0⟩:=F.any (i*2) (by omega);obtain⟨⟨x1,k1⟩,f1⟩:=F.any (i*2+1) (by omega);have nb:=ql d (by simp);have v0:=cbi 0 nb;have v1:=cbi 1 nb;have z:Y _:=HT.o r b;have C:Y (w.grownBy ((r.setCell ⟨g,i*2,S⟩ (I (Aa t.1))).setCell ⟨g,i*2+1,S⟩ (O Ai t.2)) (V g)):=zD (zD (zD HG.o (zT b _)) (zF _ _ _ _)) (zF _ _ _ _);clear d b F nb;go_wp2;exact⟨⟨i+1,j+1,by omega,by omega,by go_num,by go_num,E,z,C⟩,by simp[intOf];omega⟩
   ·have ah:j=Z l:=by omega
    subst ah;rw[show l.take (Z l)=l from Cc (Aq _)] at f;have al:=eP wr g (i*2) (Z l-i) (o-i) (by omega)
     (fun m hm=>by obtain⟨⟨x,hx⟩,_⟩:=y.o.any (i*2+m) (by omega);rw[hx];rfl)
     (fun m hm=>(y.o.any (i*2+m) (by omega)).2)
    have HO:Y _:=y.o.done (n:=i*2) rfl f.o hB (by omega) hcm (Nb #[I ⟨#[]⟩,O Ai 0] (Z l-i)).toList (Aq _);have ae:Y _:=zD HG.o (n9 g (Nb #[I ⟨#[]⟩,O Ai 0] (Z l-i)).toList (i*2) wr);generalize(Nb #[I ⟨#[]⟩,O Ai 0] (Z l-i)).toList=zs at*;generalize World.setCells wr g (i*2) zs=wz at*;go_wp2;go_ret;exact⟨_,rfl,by rw[f.o];exact HO.o,ae.o⟩
theorem iz:(prog.info? 285).map (fun i=>(i.zero,i.size,i.bytes))=V (V (Fe #[I ⟨#[]⟩,O Ai 0]),2,24):=by kernel_rfl
abbrev Fh7 (a b c):=Eo a (Ae #[I (Aa b),O Ai c] 285)
theorem oE (h:PInv w rb s st):Am prog 273 #[Al (V ⟨rb,0,S⟩)] w fun e w'=>∃v,e=Af v/\PInv w' rb s (qS s.data.toList st).2/\w.grownBy w' (V rb)/\w'.ownsRow w.heap.size 285 2 v (Z (qS s.data.toList st).1) (zx (qS s.data.toList st).1)/\∀t∈(qS s.data.toList st).1,0<=t.2/\t.2<=99999:=by
 obtain⟨i0,hi,aY,aZ,a0⟩:=Ej iz;have c2:=cbi 2 h.rd;have HP:Y (qS s.data.toList st=(nz (yA s.data.toList st).1,zh (zS s.data.toList (yA s.data.toList st).2 [59]) ((nz (yA s.data.toList st).1).isEmpty) 4 st.tok.at_)):=rfl;have HA:Y (yA s.data.toList st=xG s.data.toList (Z s.data.toList+1) (zb s.data.toList (zS s.data.toList st kh) 0).2 [(zb s.data.toList (zS s.data.toList st kh) 0).1]):=rfl;have H0:=J h;have a3:=zO h.rd;clear h;go_in;have C0:Y (w.grownBy w (V rb)):=zP _ _;go_wp2_with fail;refine(y8 H0.o _).mono ?_;rintro e w1 ⟨rfl,I1,az⟩;have J1:=J I1;have G1:=J (az);have C1:=J (zD C0.o G1.o);clear az I1;rw[show(⟨#[116,111]⟩:As).data.toList=kh from rfl] at J1;generalize zS s.data.toList st kh=st1 at*;have an:Y (∀w,PInv w rb s st1->Am prog 333 #[Al (V ⟨rb,0,S⟩),O Ai 0] w fun e w'=>e=Af (Fe #[I (Aa (zb s.data.toList st1 0).1.1),O Ai (zb s.data.toList st1 0).1.2])/\PInv w' rb s (zb s.data.toList st1 0).2/\w.grownBy w' (V rb)/\0<=(zb s.data.toList st1 0).1.2/\(zb s.data.toList st1 0).1.2<=99999):=fun w h=>nX h 0
 go_wp2_with fail;refine(an.o _ J1.o).mono ?_;rintro e w2 ⟨rfl,I2,aA,aD,aE⟩;have J2:=J I2;have G2:=J (aA);have C2:=J (zD C1.o G2.o);have z2:=C2.o.size;clear aA I2;clear an;generalize zb s.data.toList st1 0=q at*;obtain⟨⟨nm,wt⟩,aH⟩:=q;simp only at J2 HA aD aE ⊢;go_wp2_with fail;have aU:Y ((Fh7 w2 nm wt).ownsRow w.heap.size 285 2 (X (V ⟨w2.heap.size,0,S⟩) 1 1) [(nm,wt)].length (zx [(nm,wt)])):=by
  refine⟨rfl,Bf ⟨w2.heap.size,1,#[I (Aa nm),O Ai wt],rfl,z2,Bn _ _,Aq _,by unfold Bh;omega,rfl,rfl⟩⟩
 have JA:Y (PInv (Fh7 w2 nm wt) rb s aH):=J2.o.keep (Ac _ _ _);have CA:Y (w.grownBy (Fh7 w2 nm wt) (V rb)):=zD C2.o (Ac _ _ _);have aO:Y (∀t∈[(nm,wt)],(0:Ak)<=t.2/\t.2<=99999):=by intro t ht;simp at ht;subst ht;exact⟨aD,aE⟩
 have a8:=J2.o.len
 go_loopw [4] (fun v wr=>∃(n:Ad) (c:A (A Ab×Ak)) (p:P.St),0<Z c/\(Z c)<=p.tok.at_+1/\p.tok.at_<=s.size/\s.size<n+p.tok.at_/\Y (xG s.data.toList n p c=yA s.data.toList st)/\Y (PInv wr rb s p)/\Y (w.grownBy wr (V rb))/\Y (wr.ownsRow w.heap.size 285 2 v (Z c) (zx c))/\Y (∀t∈c,(0:Ak)<=t.2/\t.2<=99999)) (fun v _=>s.size+2-lenOf v)
 ·exact⟨Z s.data.toList+1,[(nm,wt)],aH,by simp,by simp,by have:=J2.o.bd;omega,by rw[Cp];omega,HA.o.symm,JA,CA,aU,aO⟩
 ·
  obtain⟨n,c,p,aW,a4,a9,hn,HL,IR,HR,HO,al⟩:=hrel;obtain⟨n,rfl⟩:∃m,n=m+1:=⟨n-1,by omega⟩;have f:=HL.o;rw[xG] at f;have a2:=J (kM HO.o);obtain⟨ua,uc,rfl⟩:=zL HO.o;have aR:=J HO.o;go_wp2_with fail;refine(vN IR.o _).mono ?_;rintro e ba ⟨rfl,E⟩;have aB:=zT E (V rb);have au:Y _:=(IR.o).keep E;have ag:=J (aB);have af:=J (zD HR.o ag.o);have y:Y _:=zQ aR.o ag.o (by omega);clear aB E;rw[show(⟨#[44]⟩:As).data.toList=[44] from rfl]
  cases hgo:qH p [44]
  ·rw[hgo] at f
   simp only[Ct,Gj] at f;have HT:=J (f.symm);clear f HL;rw[HT.o] at HP;simp only at HP;go_wp2_with fail;refine(y8 au.o _).mono ?_;rintro e a1 ⟨rfl,ao,F⟩;have av:=J ao;have ah:=J (F);have aK:=J (zD af.o ah.o);have g:Y _:=zQ y.o ah.o (by omega);clear F ao;rw[show(⟨#[59]⟩:As).data.toList=[59] from rfl] at av;go_wp2_with fail;refine(nM a1 w.heap.size _ c g.o (by omega) aW).mono ?_;rintro e wD ⟨vD,rfl,ae,ad⟩;have JD:Y _:=av.o.away ad (fun k hk=>by have h1:=(An g.o k hk).1;omega);have CD:=J (qI aK.o ad (fun k hk=>(An g.o k hk).1));obtain⟨da,dc,rfl⟩:=zL ae;have aT:=J ae;clear ae ad;have aP:Y (((Z (nz c):Ak) == 0)=(nz c).isEmpty):=by show _=_;cases nz c with|nil=>rfl|cons a b=>simp;omega
   have z:=J aT.o;generalize aC:Z (nz c)=nzl at*;have aQ:=J aC;clear aC;go_wp2_with fail;refine(yO JD.o _ _ _).mono ?_;rintro e bb ⟨rfl,ap,H⟩;have aw:=J ap;have ai:=J (H);have aL:=J (zD CD.o ai.o);have B:Y _:=zQ z.o ai.o (by omega);clear H ap;rw[aP.o] at aw;go_wp2;go_ret;exact⟨_,rfl,by rw[HP.o];exact aw.o,aL.o,by rw[HP.o];show Ib _ _ _ _ _ (Z (nz c)) _;rw[aQ.o];exact B.o,by rw[HP.o];intro t ht;exact al.o t ((List.mem_filter.1 ht).1)⟩
  ·rw[hgo] at f
   simp only[Gq] at f;have a5:=kF s.data.toList p [44] hgo (by decide);have aX:=fG s.data.toList (zS s.data.toList p [44]) (Z c);have am:=J f;clear f HL;go_wp2_with fail;refine(y8 au.o _).mono ?_;rintro e bc ⟨rfl,aq,N⟩;have ax:=J aq;have aj:=J (N);have aM:=J (zD af.o aj.o);have aS:Y _:=zQ y.o aj.o (by omega);clear N aq;rw[show(⟨#[44]⟩:As).data.toList=[44] from rfl] at ax;generalize zS s.data.toList p [44]=p1 at*;go_wp2_with fail;refine(nX ax.o (Z c)).mono ?_;rintro e aI ⟨rfl,ar,Q,aF,aG⟩;have C:=J ar;have ak:=J (Q);have x:=J (zD aM.o ak.o);have be:=x.o.size;have l:Y _:=zQ aS.o ak.o (by omega);clear Q ar;generalize zb s.data.toList p1 (Z c)=q at*;obtain⟨⟨aa,ab⟩,p2⟩:=q;simp only at C am aF aG aX ⊢;have a7:=C.o.bd;go_wp2_with (at_builtin;refine wpList_append_lies _ rfl _ _ 210 rfl (w.heap.size) 285 i0 _ 2 24 underlying210 hi aY aZ a0 rfl (by decide) _ _ _ rfl (Ao l.o _) ⟨aI.heap.size,0,S⟩ 1 1 [I (Aa aa),O Ai ab] rfl rfl ?c1 ?c2 (by decide) ?c3 ?c4 ?c5 (aI.heap.size+1) (by simp) ?_)
   ·exact zZ _ #[_,_] _ _ (by simp)
   ·intro u hu;simp at hu;rcases hu with rfl|rfl <;> rfl
   ·unfold Bh;omega
   ·omega
   ·have:=x.o.size;simp;omega
   intro ay r aJ j d a6 _;have o:Y (aJ.ownsRow w.heap.size 285 2 (X (V ⟨ay,0,S⟩) (Z c+1) r) (Z (c++[(aa,ab)])) (zx (c++[(aa,ab)]))):=by rw[yn,Ah];exact j
   have i:∀k,(X ua (Z c) uc:Aj).ownBlock=V k->w.heap.size<=k:=fun k hk=>(An l.o k hk).1
   have aV:Y _:=(C.o.keep (Ac _ _ _)).away d (fun k hk=>by have h1:=i k hk;omega);have aN:Y (w.grownBy aJ (V rb)):=qI (zD x.o (Ac _ _ _)) d (fun k hk=>by have h1:=i k hk;omega);clear j d i;go_wp2
   go_roundw
   ·exact⟨n,c++[(aa,ab)],p2,by simp,by rw[Ah];simp;omega,by omega,by omega,am,aV,aN,o.o,fun t ht=>by rcases Ea.1 ht with h|h;exact al.o t h;simp at h;subst h;exact⟨aF,aG⟩⟩
   ·show _<_;rw[show lenOf (X (V ⟨ay,0,S⟩) (Z c+1) r)=Z c+1 from by rw[kM o.o];simp];simp[lenOf];omega
def atOf (w:Ag)(rb:Ad):Ad:=match w.cell? ⟨rb,2,S⟩ with|some v=>(intOf v).toNat|none=>0
theorem jg (h:PInv w rb s st):atOf w rb=st.tok.at_:=by
 unfold atOf;rw[show w.cell? ⟨rb,2,S⟩=V (O Ai st.tok.at_) from zB h.rd];simp[intOf]
theorem iw:(prog.info? 276).map (fun i=>(i.zero,i.size,i.bytes))=V (V (Fe #[I ⟨#[]⟩,Av false,I ⟨#[]⟩]),3,40):=by kernel_rfl
theorem iq:(prog.info? 280).map (fun i=>(i.zero,i.size,i.bytes))=V (V (Fe #[I ⟨#[]⟩,I ⟨#[]⟩]),2,32):=by kernel_rfl
abbrev Fh0:=Ae #[O Ai 0,I ⟨#[]⟩,X S 0 0,X S 0 0,I ⟨#[]⟩,X S 0 0,X S 0 0] 213
abbrev Fh2 (a b):=Ae #[I (Aa a),I (Aa b)] 280
abbrev Fh4 (a b c):=Ae #[I (Aa a),Av b,I (Aa c)] 276
theorem zi9 (h:PInv w rb s st)(B:Ad)(v:Aj)(rs:A P.Rl)(hR:PRulesRow w B v rs)(hn:Z rs<=2000000000000) :
  Am prog 208 #[Al (V ⟨rb,0,S⟩),v] w fun e w'=>∃cs,e=Af (Fe cs.toArray)/\PInv w' rb s (xI s.data.toList st (rs.map P.Rl.number)).2/\w.grownBy w' (V rb)/\PRuleVal w' cs (xI s.data.toList st (rs.map P.Rl.number)).1:=by
 obtain⟨im,mi,ds,dt,du⟩:=Ej iw;obtain⟨is,si,cU,cV,cW⟩:=Ej iq;obtain⟨id,di,cK,cL,cM⟩:=Ej fW;have HP:Y (xI s.data.toList st (rs.map P.Rl.number)=ui s.data.toList (jS s.data.toList st (rs.map P.Rl.number))):=rfl;have HA:Y (jS s.data.toList st (rs.map P.Rl.number)=xp s.data.toList (zS s.data.toList (zy st (Z rs) 6) qz) (rs.map P.Rl.number)):=by show _=_;unfold jS;rw[Bv]
 have H0:=J h;have dN:=zO h.rd;have dO:=h.len;have HR:Y (PRulesRow w B v rs):=hR;have HN:=J hn;obtain⟨va,vc,rfl⟩:∃a c,v=X a (Z rs) c:=by obtain⟨css,h1,_⟩:=hR;exact zL h1
 generalize xI s.data.toList st (rs.map P.Rl.number)=res at*;go_in;have C0:Y (w.grownBy w (V rb)):=zP _ _;go_wp2_with fail;refine(vq (H0.o.keep (Ac _ _ _)) _ _).mono ?_;rintro e w1 ⟨rfl,I1,bD⟩;have J1:=J I1;have s1:w.heap.size+1<=w1.heap.size:=by have h:=bD.size;simpa using h
 have G1:Y (w.grownBy w1 (V rb)):=(zD (Ac _ _ _) bD);have C1:=J (zD C0.o G1.o);have c9:Y (w1.heap[w.heap.size]?=V Fh0):=ql bD (by simp;omega);go_wp2_with fail;refine(y8 J1.o _).mono ?_;rintro e w2 ⟨rfl,I2,ci⟩;have J2:=J I2;have s2:w1.heap.size+0<=w2.heap.size:=by have h:=ci.size;simpa using h
 have G2:Y (w1.grownBy w2 (V rb)):=ci;have C2:=J (zD C1.o G2.o);have z2:=C2.o.size;have da:=J (zE c9.o G2.o (by simp;omega));rw[show(⟨#[114,117,108,101]⟩:As).data.toList=qz from rfl] at J2;go_wp2_with fail;refine(nW J2.o B _ rs (HR.o.keep C2.o (H0.o.safe (by decide))) HN.o).mono ?_;rintro e w3 ⟨rfl,I3,cj,cS,cT⟩;have J3:=J I3;have b3:=zO J3.o.rd;have s3:w2.heap.size+0<=w3.heap.size:=by have h:=cj.size;simpa using h
 have G3:Y (w2.grownBy w3 (V rb)):=cj;have C3:=J (zD C2.o G3.o);have z3:=C3.o.size;have db:=J (zE da.o G3.o (by simp;omega));rw[<-HA.o] at J3 cS cT;rw[<-HA.o];generalize jS s.data.toList st (rs.map P.Rl.number)=qa at*;obtain⟨F,sA⟩:=qa;simp only at J3 cS cT HP ⊢;go_wp2_with fail;refine(y8 (J3.o.keep (Ac _ _ _)) _).mono ?_;rintro e w4 ⟨rfl,I4,ck⟩;have J4:=J I4;have G4:Y (w3.grownBy w4 (V rb)):=(zD (Ac _ _ _) ck);have C4:=J (zD C3.o G4.o);have dc:=J (zE db.o G4.o (by simp;omega));have dk:Y (w4.heap[w3.heap.size]?=V (Ae #[O Ai F,I ⟨#[]⟩,X S 0 0,X S 0 0,I ⟨#[]⟩,X S 0 0,X S 0 0] 213)):=ql ck (by simp;omega);go_wp2_with fail;refine(ly J4.o _).mono ?_;rintro e w5 ⟨rfl,I5,cO⟩;have J5:=J I5;have G5:Y (w4.grownBy w5 (V rb)):=cO;have C5:=J (zD C4.o G5.o);have dd:=J (zE dc.o G5.o (by simp;omega));have cf:=J (zE dk.o G5.o (by simp;omega));have JB:Y (PInv w5 rb s (vH s.data.toList sA).2):=J5;rw[show(xi s.data.toList (zS s.data.toList sA (⟨#[123]⟩:As).data.toList) (⟨#[112,97,116,104]⟩:As).data.toList).1=(vH s.data.toList sA).1 from rfl];have b5:Y (res=uh s.data.toList F (vH s.data.toList sA).1 (qw s.data.toList (Z s.data.toList+1) (vH s.data.toList sA).2 [])):=HP.o;generalize vH s.data.toList sA=qb at*;obtain⟨z,sB⟩:=qb;simp only at JB b5 ⊢;have dP:=cbi 1 cf.o;have dQ:=zm9 1 cf.o;go_wp2_with fail;have J6:Y _:=JB.o.other (zF w5 w3.heap.size 1 (I (Aa z))) (by omega);have C6:=J (ze C5.o (zF w5 w3.heap.size 1 (I (Aa z))) (by omega));have de:=J (zE dd.o (zF w5 w3.heap.size 1 (I (Aa z))) (by simp;omega));have dl:Y ((Bs w5 ⟨w3.heap.size,1,S⟩ (I (Aa z))).heap[w3.heap.size]?=V (Ae #[O Ai F,I (Aa z),X S 0 0,X S 0 0,I ⟨#[]⟩,X S 0 0,X S 0 0] 213)):=zH cf.o (I (Aa z));generalize(Bs w5 ⟨w3.heap.size,1,S⟩ (I (Aa z)))=w6 at*;have b6:Y (res=uh s.data.toList F z (qw s.data.toList (Z s.data.toList+1) sB [])):=b5.o;generalize cN:qw s.data.toList (Z s.data.toList+1) sB []=Qm at*;have c6:=J cN;have dM:=J6.o.bd
 go_loopw [] (fun wr=>∃(n:Ad) (acc:A P.Mt) (p:P.St) (vL:Aj),Z acc<=p.tok.at_/\p.tok.at_<=s.size/\s.size<n+p.tok.at_/\Y (qw s.data.toList n p acc=Qm)/\Y (PInv wr rb s p)/\Y (w.grownBy wr (V rb))/\Y (wr.heap[w.heap.size]?=V Fh0)/\Y (wr.heap[w3.heap.size]?=V (Ae #[O Ai F,I (Aa z),vL,X S 0 0,I ⟨#[]⟩,X S 0 0,X S 0 0] 213))/\Y (wr.ownsRow w.heap.size 276 3 vL (Z acc) (xe acc))) (fun wr=>s.size+1 - atOf wr rb)
 ·exact⟨Z s.data.toList+1,[],sB,_,Ax _,by omega,by rw[Cp];omega,c6.o,J6,C6,de.o,dl.o,Bk _ _ _ _⟩
 ·
  obtain⟨n,f,pm,vL,bA,bG,bF,HL,IR,CR,aK,aN,ak⟩:=hrel;obtain⟨n,rfl⟩:∃m,n=m+1:=⟨n - 1,by omega⟩;have r:=HL.o;rw[qw] at r;obtain⟨Q,aa,rfl⟩:=zL ak.o;go_wp2_with fail;refine(vN IR.o _).mono ?_;rintro e a3 ⟨rfl,ch⟩;have cR:=zT ch (V rb);have cG:Y _:=(IR.o).keep ch;have bz:Y (wr.grownBy a3 (V rb)):=cR;have b0:=J (zD CR.o bz.o);have dV:=b0.o.size;have cI:=J (zE aK.o bz.o (by simp;omega));have aL:=J (zE aN.o bz.o (by simp;omega));have cy:Y _:=zQ ak.o bz.o (by omega);rw[show(⟨#[104,101,97,100,101,114]⟩:As).data.toList=qO from rfl]
  cases hgo:qH pm qO
  ·rw[hgo] at r
   simp only[Ct,Gj] at r;have c2:Y (Qm=(f,pm)):=r.symm;rw[c2.o] at b6;have c5:=J cy;go_wp2_with fail;refine(oE cG.o).mono ?_;rintro e wT ⟨vT,rfl,IT,bv,cl,dr⟩;obtain⟨ta,tc,rfl⟩:=zL cl;have JT:=J IT;have CT:=J (zD b0.o bv);have dj:=J (zE cI.o bv (by simp;omega));have bp:=J (zE aL.o bv (by simp;omega));have cx:Y _:=zQ c5.o bv (by omega);have cd:Y _:=zo cl (show w.heap.size<=a3.heap.size by omega);have b7:Y (res=jy s.data.toList F z f (qS s.data.toList pm)):=b6.o;generalize qS s.data.toList pm=pt at*;obtain⟨tl,aP⟩:=pt;simp only at JT cd b7;have ba:Y (res=wi s.data.toList F z f tl (yu s.data.toList aP) (qk s.data.toList (Z s.data.toList+1) (yu s.data.toList aP).2 [])):=b7.o;have dT:=cbi 3 bp.o;have dU:=zm9 3 bp.o;go_wp2_with fail;have cD:Y _:=JT.o.other (zF wT w3.heap.size 3 (X ta (Z tl) tc)) (by omega);have cX:=J (ze CT.o (zF wT w3.heap.size 3 (X ta (Z tl) tc)) (by omega));have df:=J (zE dj.o (zF wT w3.heap.size 3 (X ta (Z tl) tc)) (by simp;omega));have dm:Y ((Bs wT ⟨w3.heap.size,3,S⟩ (X ta (Z tl) tc)).heap[w3.heap.size]?=V (Ae #[O Ai F,I (Aa z),X Q (Z f) aa,X ta (Z tl) tc,I ⟨#[]⟩,X S 0 0,X S 0 0] 213)):=zH bp.o (X ta (Z tl) tc);have c3:Y _:=zJ cx.o (zF wT w3.heap.size 3 (X ta (Z tl) tc)) (zI bp.o cx.o (by decide));have c7:Y _:=zJ cd.o (zF wT w3.heap.size 3 (X ta (Z tl) tc)) (zI bp.o cd.o (by decide));generalize(Bs wT ⟨w3.heap.size,3,S⟩ (X ta (Z tl) tc))=wEm1 at*;refine(vN cD.o _).mono ?_;rintro e bY ⟨rfl,cg⟩;have cP:=zT cg (V rb);have cE:Y _:=(cD.o).keep cg;have a4:Y (wEm1.grownBy bY (V rb)):=cP;have cu:=J (zD cX.o a4.o);have cH:=J (zE df.o a4.o (by simp;omega));have cJ:=J (zE dm.o a4.o (by simp;omega));have cv:Y _:=zQ c3.o a4.o (by omega);have cz:Y _:=zQ c7.o a4.o (by omega);rw[show(⟨#[114,101,112,108,97,99,101]⟩:As).data.toList=qK from rfl];have aQ:Y (yu s.data.toList aP=if qH aP qK then xi s.data.toList aP qK else ([],aP)):=rfl;generalize yu s.data.toList aP=pc at*;obtain⟨H,sC⟩:=pc;simp only at ba
   cases hch:qH aP qK
   ·rw[hch] at aQ
    simp only[Ct,Gj] at aQ;have c0:Y (H=[]):=(Nn aQ.o).1;have c1:Y (sC=aP):=(Nn aQ.o).2;have cC:Y (PInv bY rb s sC):=by rw[c1.o];exact cE.o
    have dp:Y (bY.heap[w3.heap.size]?=V (Ae #[O Ai F,I (Aa z),X Q (Z f) aa,X ta (Z tl) tc,I (Aa H),X S 0 0,X S 0 0] 213)):=by rw[c0.o];exact cJ.o
    go_wp2_with fail;generalize br:qk s.data.toList (Z s.data.toList+1) sC []=Qs at*;have b9:=J br;have dq:=cC.o.bd
    go_loopw [] (fun wr=>∃(n:Ad) (acc:A (A Ab×A Ab)) (p:P.St) (vL:Aj),Z acc<=p.tok.at_/\p.tok.at_<=s.size/\s.size<n+p.tok.at_/\Y (qk s.data.toList n p acc=Qs)/\Y (PInv wr rb s p)/\Y (w.grownBy wr (V rb))/\Y (wr.heap[w.heap.size]?=V Fh0)/\Y (wr.heap[w3.heap.size]?=V (Ae #[O Ai F,I (Aa z),X Q (Z f) aa,X ta (Z tl) tc,I (Aa H),vL,X S 0 0] 213))/\Y (wr.ownsRow w.heap.size 280 2 vL (Z acc) (zi acc))/\Y (wr.ownsRow w.heap.size 276 3 (X Q (Z f) aa) (Z f) (xe f))/\Y (wr.ownsRow w.heap.size 285 2 (X ta (Z tl) tc) (Z tl) (zx tl))) (fun wr=>s.size+1 - atOf wr rb)
    ·exact⟨Z s.data.toList+1,[],sC,_,Ax _,by omega,by rw[Cp];omega,b9.o,cC,cu,cH.o,dp.o,Bk _ _ _ _,cv.o,cz.o⟩
    ·
     obtain⟨n,b,ps,vL,bA,bG,bF,HL,IR,CR,aK,aN,ak,aV,a0⟩:=hrel;obtain⟨n,rfl⟩:∃m,n=m+1:=⟨n - 1,by omega⟩;have r:=HL.o;rw[qk] at r;obtain⟨ab,ad,rfl⟩:=zL ak.o;go_wp2_with fail;refine(vN IR.o _).mono ?_;rintro e au ⟨rfl,a2⟩;have bu:=zT a2 (V rb);have bl:Y _:=(IR.o).keep a2;have ao:Y (wr.grownBy au (V rb)):=bu;have aT:=J (zD CR.o ao.o);have dL:=aT.o.size;have bn:=J (zE aK.o ao.o (by simp;omega));have x:=J (zE aN.o ao.o (by simp;omega));have aX:Y _:=zQ ak.o ao.o (by omega);have a8:Y _:=zQ aV.o ao.o (by omega);have bh:Y _:=zQ a0.o ao.o (by omega);rw[show(⟨#[115,101,116]⟩:As).data.toList=xX from rfl]
     cases hgo:qH ps xX
     ·rw[hgo] at r
      simp only[Ct,Gj] at r;have b2:Y (Qs=(b,ps)):=r.symm;have aG:Y (res=(⟨F,z,f,tl,H,b,(qf s.data.toList (b.map Bq) (Z s.data.toList+1) ps []).1⟩,zS s.data.toList (qf s.data.toList (b.map Bq) (Z s.data.toList+1) ps []).2 [125])):=by
       show _=_;rw[ba.o,b2.o];rfl
      generalize bq:qf s.data.toList (b.map Bq) (Z s.data.toList+1) ps []=Qd at*;have b8:=J bq;have bw:Z b<=2000000000000:=by omega
      have b4:=J bw;have ca:=J aX;go_wp2_with fail
      go_loopw [] (fun wr=>∃(n:Ad) (acc:A (A Ab)) (p:P.St) (vL:Aj),Z acc<=p.tok.at_/\p.tok.at_<=s.size/\s.size<n+p.tok.at_/\Y (qf s.data.toList (b.map Bq) n p acc=Qd)/\Y (PInv wr rb s p)/\Y (w.grownBy wr (V rb))/\Y (wr.heap[w.heap.size]?=V Fh0)/\Y (wr.heap[w3.heap.size]?=V (Ae #[O Ai F,I (Aa z),X Q (Z f) aa,X ta (Z tl) tc,I (Aa H),X ab (Z b) ad,vL] 213))/\Y (wr.ownsRow w.heap.size 9 1 vL (Z acc) (zY acc))/\Y (wr.ownsRow w.heap.size 276 3 (X Q (Z f) aa) (Z f) (xe f))/\Y (wr.ownsRow w.heap.size 285 2 (X ta (Z tl) tc) (Z tl) (zx tl))/\Y (wr.ownsRow w.heap.size 280 2 (X ab (Z b) ad) (Z b) (zi b))) (fun wr=>s.size+1 - atOf wr rb)
      ·exact⟨Z s.data.toList+1,[],ps,_,Ax _,by omega,by rw[Cp];omega,b8.o,bl,aT,bn.o,x.o,Bk _ _ _ _,a8.o,bh.o,ca.o⟩
      ·
       obtain⟨n,l,pd,vL,bA,bG,bF,HL,IR,CR,aK,aN,ak,aV,a0,cc⟩:=hrel;obtain⟨n,rfl⟩:∃m,n=m+1:=⟨n - 1,by omega⟩;have r:=HL.o;rw[qf] at r;obtain⟨aq,ar,rfl⟩:=zL ak.o;go_wp2_with fail;refine(vN IR.o _).mono ?_;rintro e ah ⟨rfl,a1⟩;have bt:=zT a1 (V rb);have bk:Y _:=(IR.o).keep a1;have ag:Y (wr.grownBy ah (V rb)):=bt;have aS:=J (zD CR.o ag.o);have dK:=aS.o.size;have bm:=J (zE aK.o ag.o (by simp;omega));have t:=J (zE aN.o ag.o (by simp;omega));have aW:Y _:=zQ ak.o ag.o (by omega);have a7:Y _:=zQ aV.o ag.o (by omega);have bg:Y _:=zQ a0.o ag.o (by omega);have aY:Y _:=zQ cc.o ag.o (by omega);rw[show(⟨#[100,114,111,112]⟩:As).data.toList=qy from rfl]
       cases hgo:qH pd qy
       ·rw[hgo] at r
        simp only[Ct,Gj] at r;have b1:Y (Qd=(l,pd)):=r.symm;rw[b1.o] at aG;simp only at aG;go_wp2_with fail;refine(y8 bk.o _).mono ?_;rintro e bx ⟨rfl,bi,bs⟩;have bj:=J bi;have af:Y (ah.grownBy bx (V rb)):=bs;have bZ:=J (zD aS.o af.o);have g:=J (zE bm.o af.o (by simp;omega));have E:=J (zE t.o af.o (by simp;omega));have a9:Y _:=zQ aW.o af.o (by omega);have a6:Y _:=zQ a7.o af.o (by omega);have bf:Y _:=zQ bg.o af.o (by omega);have bc:Y _:=zQ aY.o af.o (by omega);rw[show(⟨#[125]⟩:As).data.toList=[125] from rfl] at bj;have dv:=cbi 0 E.o;have dw:=cbi 1 E.o;have dx:=cbi 2 E.o;have dy:=cbi 3 E.o;have dz:=cbi 4 E.o;have dA:=cbi 5 E.o;have dB:=cbi 6 E.o;have cm:=cbi 0 g.o;have dC:=zm9 0 g.o;have cn:=cbi 1 g.o;have dD:=zm9 1 g.o;have co:=cbi 2 g.o;have dE:=zm9 2 g.o;have cp:=cbi 3 g.o;have dF:=zm9 3 g.o;have cq:=cbi 4 g.o;have dH:=zm9 4 g.o;have cr:=cbi 5 g.o;have dI:=zm9 5 g.o;have ct:=cbi 6 g.o;have dJ:=zm9 6 g.o;go_wp2;have ap:=zD (zD (zD (zD (zD (zD (zF bx w.heap.size 0 (O Ai F)) (zF _ w.heap.size 1 (I (Aa z)))) (zF _ w.heap.size 2 (X Q (Z f) aa))) (zF _ w.heap.size 3 (X ta (Z tl) tc))) (zF _ w.heap.size 4 (I (Aa H)))) (zF _ w.heap.size 5 (X ab (Z b) ad))) (zF _ w.heap.size 6 (X aq (Z l) ar));refine Et (v:=.agg #[O Ai F,I (Aa z),X Q (Z f) aa,X ta (Z tl) tc,I (Aa H),X ab (Z b) ad,X aq (Z l) ar]) (by simp[Hm,results208,go_sem,cm,cn,co,cp,cq,cr,ct]) rfl ⟨[O Ai F,I (Aa z),X Q (Z f) aa,X ta (Z tl) tc,I (Aa H),X ab (Z b) ad,X aq (Z l) ar],rfl,?_,ze bZ.o ap (Aq _),?_⟩
        ·rw[aG.o];exact bj.o.other ap (by omega)
        ·rw[aG.o]
         refine⟨_,_,_,_,rfl,?_,?_,?_,?_⟩
         ·exact zJ (zo a6.o (Ax _)) ap (fun k hk=>zI g.o a6.o (by decide) k hk)
         ·exact zJ (zo bf.o (Ax _)) ap (fun k hk=>zI g.o bf.o (by decide) k hk)
         ·exact zJ (zo bc.o (Ax _)) ap (fun k hk=>zI g.o bc.o (by decide) k hk)
         ·exact zJ (zo a9.o (Ax _)) ap (fun k hk=>zI g.o a9.o (by decide) k hk)
       ·rw[hgo] at r
        simp only[Gq] at r;have aO:=dG s.data.toList pd (Z l) (b.map Bq++l) hgo;have ai:=J r;have bI:=cbi 0 t.o;have bJ:=cbi 1 t.o;have bK:=cbi 2 t.o;have bL:=cbi 3 t.o;have bM:=cbi 4 t.o;have bO:=cbi 5 t.o;have bP:=cbi 6 t.o;have HC:Y (∀w',ah.grownBy w' S->Am prog 275 #[Al (V ⟨rb,0,S⟩),Fe #[O Ai F,I (Aa z),X Q (Z f) aa,X ta (Z tl) tc,I (Aa H),X ab (Z b) ad,X aq (Z l) ar]] w' fun e w''=>e=Af (I (Aa (xO s.data.toList pd (Z l) (b.map Bq++l)).1))/\PInv w'' rb s (xO s.data.toList pd (Z l) (b.map Bq++l)).2/\w'.grownBy w'' (V rb)):=fun w' hg=>lp (bk.o.keep hg) _ _ _ _ _ _ _ b l (zo (zK aY.o hg (fun _ _=>by simp)) (Ax _)) (zo (zK aW.o hg (fun _ _=>by simp)) (Ax _)) b4.o (by omega)
        generalize xO s.data.toList pd (Z l) (b.map Bq++l)=qs at*;obtain⟨C,p2⟩:=qs;simp only at ai aO HC;have az:Y (∀u∈([I (Aa C)]:A Aj),u.oneCell'=true):=by
         intro u hu;simp only[En,Ge,Mn] at hu;subst hu;rfl
        have aB:Y (Z l+1<=Bh):=by show _<=_;unfold Bh;omega
        go_wp2
        go_region_law (first | (refine Ii _ rfl (.tmp 54) (.tmp 58) 22 rfl w.heap.size 9 id _ 1 16 underlying22 di cK cL cM rfl (by decide) _ _ _ (by simp[Im]) (Ao o.o _) ⟨N.heap.size,0,S⟩ 1 1 [I (Aa C)] (by simp[Im]) rfl aE.o az.o (by decide) aB.o (by omega) aA.o (N.heap.size+1) aH.o ?_;intro g9 y w9 an d bB bE;have ae:∀k,(X aq (Z l) ar).ownBlock=V k->w.heap.size<=k:=fun k hk=>(An o.o k hk).1;have J9:Y (PInv w9 rb s p2):=(JN.o.keep (Ac _ _ _)).away d (fun k hk=>by { have h1:=ae k hk;omega });have C9:Y (w.grownBy w9 (V rb)):=qI (zD CN.o (Ac _ _ _)) d ae;have aI:Y (w9.heap[w.heap.size]?=V Fh0):=zw (zE al.o (Ac _ _ S) (by simp)) d (fun k hk=>zI al.o o.o (by decide) k hk);have q:Y (w9.heap[w3.heap.size]?=V (Ae #[O Ai F,I (Aa z),X Q (Z f) aa,X ta (Z tl) tc,I (Aa H),X ab (Z b) ad,X aq (Z l) ar] 213)):=zw (zE i.o (Ac _ _ S) (by simp)) d (fun k hk=>zI i.o o.o (by decide) k hk);have aj:Y (w9.ownsRow w.heap.size 9 1 (X (V ⟨g9,0,S⟩) (Z l+1) y) (Z (l++[C])) (zY (l++[C]))):=by { show Ib _ _ _ _ _ _ _;rw[xl,Ah];exact an };have av:Y _:=zK (Ao aw.o _) d (qB o.o aw.o (by decide));have ax:Y _:=zK (Ao ay.o _) d (qB o.o ay.o (by decide));have bb:Y _:=zK (Ao be.o _) d (qB o.o be.o (by decide));have q9:=cbi 6 q.o;have bH:=zm9 6 q.o;clear an d ae) | (go_simp;go_at_call 275;refine(HC.o _ (zV ah)).mono ?_;rintro e N ⟨rfl,IN,am⟩;have GN:ah.grownBy N (V rb):=zD (zT (zV ah) _) am;have JN:Y (PInv N rb s p2):=IN;have CN:=J (zD aS.o GN);have sN:ah.heap.size<=N.heap.size:=GN.size;have al:=J (zE bm.o GN (by simp;omega));have i:=J (zE t.o GN (by simp;omega));have o:Y _:=zQ aW.o GN (by omega);have aw:Y _:=zQ a7.o GN (by omega);have ay:Y _:=zQ bg.o GN (by omega);have be:Y _:=zQ aY.o GN (by omega);have bQ:=cbi 0 i.o;have bR:=cbi 1 i.o;have bS:=cbi 2 i.o;have bT:=cbi 3 i.o;have bU:=cbi 4 i.o;have bV:=cbi 5 i.o;have bW:=cbi 6 i.o;have bX:=zO i.o;have bN:=zO JN.o.rd;have aE:Y (∀j u,([I (Aa C)]:A Aj)[j]?=V u->(N.alloc (Ae #[I (Aa C)] 9)).cell? ((⟨N.heap.size,0,S⟩:Addr).add j)=V u):=zZ N #[_] _ _ rfl;have aA:Y (w.heap.size<=(N.alloc (Ae #[I (Aa C)] 9)).heap.size):=by { show _<=_;rw[show(N.alloc (Ae #[I (Aa C)] 9)).heap.size=N.heap.size+1 from by simp];omega };have aH:Y ((N.alloc (Ae #[I (Aa C)] 9)).heap.size=N.heap.size+1):=by { show _=_;simp };clear IN am GN))
        all_goals
         have gS:=zF w9 w3.heap.size 6 (X (V ⟨g9,0,S⟩) (Z l+1) y);have JS:Y _:=J9.o.other gS (by omega);have CS:=J (ze C9.o gS (by omega));have aJ:=J (zE aI.o gS (by simp;omega));have aM:Y ((w9.setCell ⟨w3.heap.size,6,S⟩ (X (V ⟨g9,0,S⟩) (Z l+1) y)).heap[w3.heap.size]?=V (Ae #[O Ai F,I (Aa z),X Q (Z f) aa,X ta (Z tl) tc,I (Aa H),X ab (Z b) ad,X (V ⟨g9,0,S⟩) (Z l+1) y] 213)):=zH q.o _;have aF:Y _:=zJ aj.o gS (zI q.o aj.o (by decide));have aU:Y _:=zJ av.o gS (zI q.o av.o (by decide));have aZ:Y _:=zJ ax.o gS (zI q.o ax.o (by decide));have cb:Y _:=zJ bb.o gS (zI q.o bb.o (by decide));have aD:Y (atOf (w9.setCell ⟨w3.heap.size,6,S⟩ (X (V ⟨g9,0,S⟩) (Z l+1) y)) rb=p2.tok.at_):=jg JS.o;have aC:Y (atOf wr rb=pd.tok.at_):=jg IR.o;have bC:=JS.o.bd;go_wp2
         go_roundw
         ·exact⟨n,l++[C],p2,_,by rw[Ah];simp;omega,by omega,by omega,ai,JS,CS,aJ,aM,aF,aU,aZ,cb⟩
         ·rw[aD.o,aC.o];omega
     ·rw[hgo] at r
      simp only[Gq] at r;have aO:=mK s.data.toList ps (Z b) (b.map Bq) hgo;have ai:=J r;have bI:=cbi 0 x.o;have bJ:=cbi 1 x.o;have bK:=cbi 2 x.o;have bL:=cbi 3 x.o;have bM:=cbi 4 x.o;have bO:=cbi 5 x.o;have bP:=cbi 6 x.o;have HC:Y (∀w',au.grownBy w' S->Am prog 274 #[Al (V ⟨rb,0,S⟩),Fe #[O Ai F,I (Aa z),X Q (Z f) aa,X ta (Z tl) tc,I (Aa H),X ab (Z b) ad,X S 0 0]] w' fun e w''=>e=Af (Fe #[I (Aa (xj s.data.toList ps (Z b) (b.map Bq)).1.1),I (Aa (xj s.data.toList ps (Z b) (b.map Bq)).1.2)])/\PInv w'' rb s (xj s.data.toList ps (Z b) (b.map Bq)).2/\w'.grownBy w'' (V rb)):=fun w' hg=>by
       have:=zd9 (bl.o.keep hg) (O Ai F) (I (Aa z)) (X Q (Z f) aa) (X ta (Z tl) tc) (I (Aa H)) (X ab (Z b) ad) (X S 0 0) b [] (zo (zK aX.o hg (fun _ _=>by simp)) (Ax _)) (Bk _ _ _ _) (by omega) (by simp);rw[Cv] at this;exact this
      generalize xj s.data.toList ps (Z b) (b.map Bq)=qs at*;obtain⟨C,p2⟩:=qs;simp only at ai aO HC;have az:Y (∀u∈([I (Aa C.1),I (Aa C.2)]:A Aj),u.oneCell'=true):=by
       intro u hu;simp only[En,Ge,Mn] at hu;rcases hu with rfl | rfl <;> rfl
      have aB:Y (Z b+1<=Bh):=by show _<=_;unfold Bh;omega
      go_wp2
      go_region_law (first | (refine Ii _ rfl (.tmp 44) (.tmp 48) 211 rfl w.heap.size 280 is _ 2 32 underlying211 si cU cV cW rfl (by decide) _ _ _ (by simp[Im]) (Ao o.o _) ⟨N.heap.size,0,S⟩ 1 1 [I (Aa C.1),I (Aa C.2)] (by simp[Im]) rfl aE.o az.o (by decide) aB.o (by omega) aA.o (N.heap.size+1) aH.o ?_;intro g9 y w9 an d bB bE;have ae:∀k,(X ab (Z b) ad).ownBlock=V k->w.heap.size<=k:=fun k hk=>(An o.o k hk).1;have J9:Y (PInv w9 rb s p2):=(JN.o.keep (Ac _ _ _)).away d (fun k hk=>by { have h1:=ae k hk;omega });have C9:Y (w.grownBy w9 (V rb)):=qI (zD CN.o (Ac _ _ _)) d ae;have aI:Y (w9.heap[w.heap.size]?=V Fh0):=zw (zE al.o (Ac _ _ S) (by simp)) d (fun k hk=>zI al.o o.o (by decide) k hk);have q:Y (w9.heap[w3.heap.size]?=V (Ae #[O Ai F,I (Aa z),X Q (Z f) aa,X ta (Z tl) tc,I (Aa H),X ab (Z b) ad,X S 0 0] 213)):=zw (zE i.o (Ac _ _ S) (by simp)) d (fun k hk=>zI i.o o.o (by decide) k hk);have aj:Y (w9.ownsRow w.heap.size 280 2 (X (V ⟨g9,0,S⟩) (Z b+1) y) (Z (b++[C])) (zi (b++[C]))):=by { show Ib _ _ _ _ _ _ _;rw[yW,Ah];exact an };have av:Y _:=zK (Ao aw.o _) d (qB o.o aw.o (by decide));have ax:Y _:=zK (Ao ay.o _) d (qB o.o ay.o (by decide));have q9:=cbi 5 q.o;have bH:=zm9 5 q.o;clear an d ae) | (go_simp;go_at_call 274;refine(HC.o _ (zV au)).mono ?_;rintro e N ⟨rfl,IN,am⟩;have GN:au.grownBy N (V rb):=zD (zT (zV au) _) am;have JN:Y (PInv N rb s p2):=IN;have CN:=J (zD aT.o GN);have sN:au.heap.size<=N.heap.size:=GN.size;have al:=J (zE bn.o GN (by simp;omega));have i:=J (zE x.o GN (by simp;omega));have o:Y _:=zQ aX.o GN (by omega);have aw:Y _:=zQ a8.o GN (by omega);have ay:Y _:=zQ bh.o GN (by omega);have bQ:=cbi 0 i.o;have bR:=cbi 1 i.o;have bS:=cbi 2 i.o;have bT:=cbi 3 i.o;have bU:=cbi 4 i.o;have bV:=cbi 5 i.o;have bW:=cbi 6 i.o;have bX:=zO i.o;have bN:=zO JN.o.rd;have aE:Y (∀j u,([I (Aa C.1),I (Aa C.2)]:A Aj)[j]?=V u->(N.alloc (Fh2 C.1 C.2)).cell? ((⟨N.heap.size,0,S⟩:Addr).add j)=V u):=zZ N #[_,_] _ _ rfl;have aA:Y (w.heap.size<=(N.alloc (Fh2 C.1 C.2)).heap.size):=by { show _<=_;rw[show(N.alloc (Fh2 C.1 C.2)).heap.size=N.heap.size+1 from by simp];omega };have aH:Y ((N.alloc (Fh2 C.1 C.2)).heap.size=N.heap.size+1):=by { show _=_;simp };clear IN am GN))
      all_goals
       have gS:=zF w9 w3.heap.size 5 (X (V ⟨g9,0,S⟩) (Z b+1) y);have JS:Y _:=J9.o.other gS (by omega);have CS:=J (ze C9.o gS (by omega));have aJ:=J (zE aI.o gS (by simp;omega));have aM:Y ((w9.setCell ⟨w3.heap.size,5,S⟩ (X (V ⟨g9,0,S⟩) (Z b+1) y)).heap[w3.heap.size]?=V (Ae #[O Ai F,I (Aa z),X Q (Z f) aa,X ta (Z tl) tc,I (Aa H),X (V ⟨g9,0,S⟩) (Z b+1) y,X S 0 0] 213)):=zH q.o _;have aF:Y _:=zJ aj.o gS (zI q.o aj.o (by decide));have aU:Y _:=zJ av.o gS (zI q.o av.o (by decide));have aZ:Y _:=zJ ax.o gS (zI q.o ax.o (by decide));have aD:Y (atOf (w9.setCell ⟨w3.heap.size,5,S⟩ (X (V ⟨g9,0,S⟩) (Z b+1) y)) rb=p2.tok.at_):=jg JS.o;have aC:Y (atOf wr rb=ps.tok.at_):=jg IR.o;have bC:=JS.o.bd;go_wp2
       go_roundw
       ·exact⟨n,b++[C],p2,_,by rw[Ah];simp;omega,by omega,by omega,ai,JS,CS,aJ,aM,aF,aU,aZ⟩
       ·rw[aD.o,aC.o];omega
   ·rw[hch] at aQ
    simp only[Gq] at aQ;go_wp2_with fail;refine(ly cE.o _).mono ?_;rintro e aR ⟨rfl,cB,cQ⟩;have ce:=J cB;have a5:Y (bY.grownBy aR (V rb)):=cQ;have cY:=J (zD cu.o a5.o);have dg:=J (zE cH.o a5.o (by simp;omega));have bo:=J (zE cJ.o a5.o (by simp;omega));have cw:Y _:=zQ cv.o a5.o (by omega);have cA:Y _:=zQ cz.o a5.o (by omega);rw[show(⟨#[114,101,112,108,97,99,101]⟩:As).data.toList=qK from rfl,<-aQ.o] at ce;rw[show(⟨#[114,101,112,108,97,99,101]⟩:As).data.toList=qK from rfl,<-aQ.o];simp only at ce ⊢;have dR:=cbi 4 bo.o;have dS:=zm9 4 bo.o;go_wp2_with fail;have cF:Y _:=ce.o.other (zF aR w3.heap.size 4 (I (Aa H))) (by omega);have cZ:=J (ze cY.o (zF aR w3.heap.size 4 (I (Aa H))) (by omega));have dh:=J (zE dg.o (zF aR w3.heap.size 4 (I (Aa H))) (by simp;omega));have dn:Y ((Bs aR ⟨w3.heap.size,4,S⟩ (I (Aa H))).heap[w3.heap.size]?=V (Ae #[O Ai F,I (Aa z),X Q (Z f) aa,X ta (Z tl) tc,I (Aa H),X S 0 0,X S 0 0] 213)):=zH bo.o (I (Aa H));have c4:Y _:=zJ cw.o (zF aR w3.heap.size 4 (I (Aa H))) (zI bo.o cw.o (by decide));have c8:Y _:=zJ cA.o (zF aR w3.heap.size 4 (I (Aa H))) (zI bo.o cA.o (by decide));generalize(Bs aR ⟨w3.heap.size,4,S⟩ (I (Aa H)))=wEmy2 at*;generalize br:qk s.data.toList (Z s.data.toList+1) sC []=Qs at*;have b9:=J br;have dq:=cF.o.bd
    go_loopw [] (fun wr=>∃(n:Ad) (acc:A (A Ab×A Ab)) (p:P.St) (vL:Aj),Z acc<=p.tok.at_/\p.tok.at_<=s.size/\s.size<n+p.tok.at_/\Y (qk s.data.toList n p acc=Qs)/\Y (PInv wr rb s p)/\Y (w.grownBy wr (V rb))/\Y (wr.heap[w.heap.size]?=V Fh0)/\Y (wr.heap[w3.heap.size]?=V (Ae #[O Ai F,I (Aa z),X Q (Z f) aa,X ta (Z tl) tc,I (Aa H),vL,X S 0 0] 213))/\Y (wr.ownsRow w.heap.size 280 2 vL (Z acc) (zi acc))/\Y (wr.ownsRow w.heap.size 276 3 (X Q (Z f) aa) (Z f) (xe f))/\Y (wr.ownsRow w.heap.size 285 2 (X ta (Z tl) tc) (Z tl) (zx tl))) (fun wr=>s.size+1 - atOf wr rb)
    ·exact⟨Z s.data.toList+1,[],sC,_,Ax _,by omega,by rw[Cp];omega,b9.o,cF,cZ,dh.o,dn.o,Bk _ _ _ _,c4.o,c8.o⟩
    ·
     obtain⟨n,b,ps,vL,bA,bG,bF,HL,IR,CR,aK,aN,ak,aV,a0⟩:=hrel;obtain⟨n,rfl⟩:∃m,n=m+1:=⟨n - 1,by omega⟩;have r:=HL.o;rw[qk] at r;obtain⟨ab,ad,rfl⟩:=zL ak.o;go_wp2_with fail;refine(vN IR.o _).mono ?_;rintro e au ⟨rfl,a2⟩;have bu:=zT a2 (V rb);have bl:Y _:=(IR.o).keep a2;have ao:Y (wr.grownBy au (V rb)):=bu;have aT:=J (zD CR.o ao.o);have dL:=aT.o.size;have bn:=J (zE aK.o ao.o (by simp;omega));have x:=J (zE aN.o ao.o (by simp;omega));have aX:Y _:=zQ ak.o ao.o (by omega);have a8:Y _:=zQ aV.o ao.o (by omega);have bh:Y _:=zQ a0.o ao.o (by omega);rw[show(⟨#[115,101,116]⟩:As).data.toList=xX from rfl]
     cases hgo:qH ps xX
     ·rw[hgo] at r
      simp only[Ct,Gj] at r;have b2:Y (Qs=(b,ps)):=r.symm;have aG:Y (res=(⟨F,z,f,tl,H,b,(qf s.data.toList (b.map Bq) (Z s.data.toList+1) ps []).1⟩,zS s.data.toList (qf s.data.toList (b.map Bq) (Z s.data.toList+1) ps []).2 [125])):=by
       show _=_;rw[ba.o,b2.o];rfl
      generalize bq:qf s.data.toList (b.map Bq) (Z s.data.toList+1) ps []=Qd at*;have b8:=J bq;have bw:Z b<=2000000000000:=by omega
      have b4:=J bw;have ca:=J aX;go_wp2_with fail
      go_loopw [] (fun wr=>∃(n:Ad) (acc:A (A Ab)) (p:P.St) (vL:Aj),Z acc<=p.tok.at_/\p.tok.at_<=s.size/\s.size<n+p.tok.at_/\Y (qf s.data.toList (b.map Bq) n p acc=Qd)/\Y (PInv wr rb s p)/\Y (w.grownBy wr (V rb))/\Y (wr.heap[w.heap.size]?=V Fh0)/\Y (wr.heap[w3.heap.size]?=V (Ae #[O Ai F,I (Aa z),X Q (Z f) aa,X ta (Z tl) tc,I (Aa H),X ab (Z b) ad,vL] 213))/\Y (wr.ownsRow w.heap.size 9 1 vL (Z acc) (zY acc))/\Y (wr.ownsRow w.heap.size 276 3 (X Q (Z f) aa) (Z f) (xe f))/\Y (wr.ownsRow w.heap.size 285 2 (X ta (Z tl) tc) (Z tl) (zx tl))/\Y (wr.ownsRow w.heap.size 280 2 (X ab (Z b) ad) (Z b) (zi b))) (fun wr=>s.size+1 - atOf wr rb)
      ·exact⟨Z s.data.toList+1,[],ps,_,Ax _,by omega,by rw[Cp];omega,b8.o,bl,aT,bn.o,x.o,Bk _ _ _ _,a8.o,bh.o,ca.o⟩
      ·
       obtain⟨n,l,pd,vL,bA,bG,bF,HL,IR,CR,aK,aN,ak,aV,a0,cc⟩:=hrel;obtain⟨n,rfl⟩:∃m,n=m+1:=⟨n - 1,by omega⟩;have r:=HL.o;rw[qf] at r;obtain⟨aq,ar,rfl⟩:=zL ak.o;go_wp2_with fail;refine(vN IR.o _).mono ?_;rintro e ah ⟨rfl,a1⟩;have bt:=zT a1 (V rb);have bk:Y _:=(IR.o).keep a1;have ag:Y (wr.grownBy ah (V rb)):=bt;have aS:=J (zD CR.o ag.o);have dK:=aS.o.size;have bm:=J (zE aK.o ag.o (by simp;omega));have t:=J (zE aN.o ag.o (by simp;omega));have aW:Y _:=zQ ak.o ag.o (by omega);have a7:Y _:=zQ aV.o ag.o (by omega);have bg:Y _:=zQ a0.o ag.o (by omega);have aY:Y _:=zQ cc.o ag.o (by omega);rw[show(⟨#[100,114,111,112]⟩:As).data.toList=qy from rfl]
       cases hgo:qH pd qy
       ·rw[hgo] at r
        simp only[Ct,Gj] at r;have b1:Y (Qd=(l,pd)):=r.symm;rw[b1.o] at aG;simp only at aG;go_wp2_with fail;refine(y8 bk.o _).mono ?_;rintro e bx ⟨rfl,bi,bs⟩;have bj:=J bi;have af:Y (ah.grownBy bx (V rb)):=bs;have bZ:=J (zD aS.o af.o);have g:=J (zE bm.o af.o (by simp;omega));have E:=J (zE t.o af.o (by simp;omega));have a9:Y _:=zQ aW.o af.o (by omega);have a6:Y _:=zQ a7.o af.o (by omega);have bf:Y _:=zQ bg.o af.o (by omega);have bc:Y _:=zQ aY.o af.o (by omega);rw[show(⟨#[125]⟩:As).data.toList=[125] from rfl] at bj;have dv:=cbi 0 E.o;have dw:=cbi 1 E.o;have dx:=cbi 2 E.o;have dy:=cbi 3 E.o;have dz:=cbi 4 E.o;have dA:=cbi 5 E.o;have dB:=cbi 6 E.o;have cm:=cbi 0 g.o;have dC:=zm9 0 g.o;have cn:=cbi 1 g.o;have dD:=zm9 1 g.o;have co:=cbi 2 g.o;have dE:=zm9 2 g.o;have cp:=cbi 3 g.o;have dF:=zm9 3 g.o;have cq:=cbi 4 g.o;have dH:=zm9 4 g.o;have cr:=cbi 5 g.o;have dI:=zm9 5 g.o;have ct:=cbi 6 g.o;have dJ:=zm9 6 g.o;go_wp2;have ap:=zD (zD (zD (zD (zD (zD (zF bx w.heap.size 0 (O Ai F)) (zF _ w.heap.size 1 (I (Aa z)))) (zF _ w.heap.size 2 (X Q (Z f) aa))) (zF _ w.heap.size 3 (X ta (Z tl) tc))) (zF _ w.heap.size 4 (I (Aa H)))) (zF _ w.heap.size 5 (X ab (Z b) ad))) (zF _ w.heap.size 6 (X aq (Z l) ar));refine Et (v:=.agg #[O Ai F,I (Aa z),X Q (Z f) aa,X ta (Z tl) tc,I (Aa H),X ab (Z b) ad,X aq (Z l) ar]) (by simp[Hm,results208,go_sem,cm,cn,co,cp,cq,cr,ct]) rfl ⟨[O Ai F,I (Aa z),X Q (Z f) aa,X ta (Z tl) tc,I (Aa H),X ab (Z b) ad,X aq (Z l) ar],rfl,?_,ze bZ.o ap (Aq _),?_⟩
        ·rw[aG.o];exact bj.o.other ap (by omega)
        ·rw[aG.o]
         refine⟨_,_,_,_,rfl,?_,?_,?_,?_⟩
         ·exact zJ (zo a6.o (Ax _)) ap (fun k hk=>zI g.o a6.o (by decide) k hk)
         ·exact zJ (zo bf.o (Ax _)) ap (fun k hk=>zI g.o bf.o (by decide) k hk)
         ·exact zJ (zo bc.o (Ax _)) ap (fun k hk=>zI g.o bc.o (by decide) k hk)
         ·exact zJ (zo a9.o (Ax _)) ap (fun k hk=>zI g.o a9.o (by decide) k hk)
       ·rw[hgo] at r
        simp only[Gq] at r;have aO:=dG s.data.toList pd (Z l) (b.map Bq++l) hgo;have ai:=J r;have bI:=cbi 0 t.o;have bJ:=cbi 1 t.o;have bK:=cbi 2 t.o;have bL:=cbi 3 t.o;have bM:=cbi 4 t.o;have bO:=cbi 5 t.o;have bP:=cbi 6 t.o;have HC:Y (∀w',ah.grownBy w' S->Am prog 275 #[Al (V ⟨rb,0,S⟩),Fe #[O Ai F,I (Aa z),X Q (Z f) aa,X ta (Z tl) tc,I (Aa H),X ab (Z b) ad,X aq (Z l) ar]] w' fun e w''=>e=Af (I (Aa (xO s.data.toList pd (Z l) (b.map Bq++l)).1))/\PInv w'' rb s (xO s.data.toList pd (Z l) (b.map Bq++l)).2/\w'.grownBy w'' (V rb)):=fun w' hg=>lp (bk.o.keep hg) _ _ _ _ _ _ _ b l (zo (zK aY.o hg (fun _ _=>by simp)) (Ax _)) (zo (zK aW.o hg (fun _ _=>by simp)) (Ax _)) b4.o (by omega)
        generalize xO s.data.toList pd (Z l) (b.map Bq++l)=qs at*;obtain⟨C,p2⟩:=qs;simp only at ai aO HC;have az:Y (∀u∈([I (Aa C)]:A Aj),u.oneCell'=true):=by
         intro u hu;simp only[En,Ge,Mn] at hu;subst hu;rfl
        have aB:Y (Z l+1<=Bh):=by show _<=_;unfold Bh;omega
        go_wp2
        go_region_law (first | (refine Ii _ rfl (.tmp 54) (.tmp 58) 22 rfl w.heap.size 9 id _ 1 16 underlying22 di cK cL cM rfl (by decide) _ _ _ (by simp[Im]) (Ao o.o _) ⟨N.heap.size,0,S⟩ 1 1 [I (Aa C)] (by simp[Im]) rfl aE.o az.o (by decide) aB.o (by omega) aA.o (N.heap.size+1) aH.o ?_;intro g9 y w9 an d bB bE;have ae:∀k,(X aq (Z l) ar).ownBlock=V k->w.heap.size<=k:=fun k hk=>(An o.o k hk).1;have J9:Y (PInv w9 rb s p2):=(JN.o.keep (Ac _ _ _)).away d (fun k hk=>by { have h1:=ae k hk;omega });have C9:Y (w.grownBy w9 (V rb)):=qI (zD CN.o (Ac _ _ _)) d ae;have aI:Y (w9.heap[w.heap.size]?=V Fh0):=zw (zE al.o (Ac _ _ S) (by simp)) d (fun k hk=>zI al.o o.o (by decide) k hk);have q:Y (w9.heap[w3.heap.size]?=V (Ae #[O Ai F,I (Aa z),X Q (Z f) aa,X ta (Z tl) tc,I (Aa H),X ab (Z b) ad,X aq (Z l) ar] 213)):=zw (zE i.o (Ac _ _ S) (by simp)) d (fun k hk=>zI i.o o.o (by decide) k hk);have aj:Y (w9.ownsRow w.heap.size 9 1 (X (V ⟨g9,0,S⟩) (Z l+1) y) (Z (l++[C])) (zY (l++[C]))):=by { show Ib _ _ _ _ _ _ _;rw[xl,Ah];exact an };have av:Y _:=zK (Ao aw.o _) d (qB o.o aw.o (by decide));have ax:Y _:=zK (Ao ay.o _) d (qB o.o ay.o (by decide));have bb:Y _:=zK (Ao be.o _) d (qB o.o be.o (by decide));have q9:=cbi 6 q.o;have bH:=zm9 6 q.o;clear an d ae) | (go_simp;go_at_call 275;refine(HC.o _ (zV ah)).mono ?_;rintro e N ⟨rfl,IN,am⟩;have GN:ah.grownBy N (V rb):=zD (zT (zV ah) _) am;have JN:Y (PInv N rb s p2):=IN;have CN:=J (zD aS.o GN);have sN:ah.heap.size<=N.heap.size:=GN.size;have al:=J (zE bm.o GN (by simp;omega));have i:=J (zE t.o GN (by simp;omega));have o:Y _:=zQ aW.o GN (by omega);have aw:Y _:=zQ a7.o GN (by omega);have ay:Y _:=zQ bg.o GN (by omega);have be:Y _:=zQ aY.o GN (by omega);have bQ:=cbi 0 i.o;have bR:=cbi 1 i.o;have bS:=cbi 2 i.o;have bT:=cbi 3 i.o;have bU:=cbi 4 i.o;have bV:=cbi 5 i.o;have bW:=cbi 6 i.o;have bX:=zO i.o;have bN:=zO JN.o.rd;have aE:Y (∀j u,([I (Aa C)]:A Aj)[j]?=V u->(N.alloc (Ae #[I (Aa C)] 9)).cell? ((⟨N.heap.size,0,S⟩:Addr).add j)=V u):=zZ N #[_] _ _ rfl;have aA:Y (w.heap.size<=(N.alloc (Ae #[I (Aa C)] 9)).heap.size):=by { show _<=_;rw[show(N.alloc (Ae #[I (Aa C)] 9)).heap.size=N.heap.size+1 from by simp];omega };have aH:Y ((N.alloc (Ae #[I (Aa C)] 9)).heap.size=N.heap.size+1):=by { show _=_;simp };clear IN am GN))
        all_goals
         have gS:=zF w9 w3.heap.size 6 (X (V ⟨g9,0,S⟩) (Z l+1) y);have JS:Y _:=J9.o.other gS (by omega);have CS:=J (ze C9.o gS (by omega));have aJ:=J (zE aI.o gS (by simp;omega));have aM:Y ((w9.setCell ⟨w3.heap.size,6,S⟩ (X (V ⟨g9,0,S⟩) (Z l+1) y)).heap[w3.heap.size]?=V (Ae #[O Ai F,I (Aa z),X Q (Z f) aa,X ta (Z tl) tc,I (Aa H),X ab (Z b) ad,X (V ⟨g9,0,S⟩) (Z l+1) y] 213)):=zH q.o _;have aF:Y _:=zJ aj.o gS (zI q.o aj.o (by decide));have aU:Y _:=zJ av.o gS (zI q.o av.o (by decide));have aZ:Y _:=zJ ax.o gS (zI q.o ax.o (by decide));have cb:Y _:=zJ bb.o gS (zI q.o bb.o (by decide));have aD:Y (atOf (w9.setCell ⟨w3.heap.size,6,S⟩ (X (V ⟨g9,0,S⟩) (Z l+1) y)) rb=p2.tok.at_):=jg JS.o;have aC:Y (atOf wr rb=pd.tok.at_):=jg IR.o;have bC:=JS.o.bd;go_wp2
         go_roundw
         ·exact⟨n,l++[C],p2,_,by rw[Ah];simp;omega,by omega,by omega,ai,JS,CS,aJ,aM,aF,aU,aZ,cb⟩
         ·rw[aD.o,aC.o];omega
     ·rw[hgo] at r
      simp only[Gq] at r;have aO:=mK s.data.toList ps (Z b) (b.map Bq) hgo;have ai:=J r;have bI:=cbi 0 x.o;have bJ:=cbi 1 x.o;have bK:=cbi 2 x.o;have bL:=cbi 3 x.o;have bM:=cbi 4 x.o;have bO:=cbi 5 x.o;have bP:=cbi 6 x.o;have HC:Y (∀w',au.grownBy w' S->Am prog 274 #[Al (V ⟨rb,0,S⟩),Fe #[O Ai F,I (Aa z),X Q (Z f) aa,X ta (Z tl) tc,I (Aa H),X ab (Z b) ad,X S 0 0]] w' fun e w''=>e=Af (Fe #[I (Aa (xj s.data.toList ps (Z b) (b.map Bq)).1.1),I (Aa (xj s.data.toList ps (Z b) (b.map Bq)).1.2)])/\PInv w'' rb s (xj s.data.toList ps (Z b) (b.map Bq)).2/\w'.grownBy w'' (V rb)):=fun w' hg=>by
       have:=zd9 (bl.o.keep hg) (O Ai F) (I (Aa z)) (X Q (Z f) aa) (X ta (Z tl) tc) (I (Aa H)) (X ab (Z b) ad) (X S 0 0) b [] (zo (zK aX.o hg (fun _ _=>by simp)) (Ax _)) (Bk _ _ _ _) (by omega) (by simp);rw[Cv] at this;exact this
      generalize xj s.data.toList ps (Z b) (b.map Bq)=qs at*;obtain⟨C,p2⟩:=qs;simp only at ai aO HC;have az:Y (∀u∈([I (Aa C.1),I (Aa C.2)]:A Aj),u.oneCell'=true):=by
       intro u hu;simp only[En,Ge,Mn] at hu;rcases hu with rfl | rfl <;> rfl
      have aB:Y (Z b+1<=Bh):=by show _<=_;unfold Bh;omega
      go_wp2
      go_region_law (first | (refine Ii _ rfl (.tmp 44) (.tmp 48) 211 rfl w.heap.size 280 is _ 2 32 underlying211 si cU cV cW rfl (by decide) _ _ _ (by simp[Im]) (Ao o.o _) ⟨N.heap.size,0,S⟩ 1 1 [I (Aa C.1),I (Aa C.2)] (by simp[Im]) rfl aE.o az.o (by decide) aB.o (by omega) aA.o (N.heap.size+1) aH.o ?_;intro g9 y w9 an d bB bE;have ae:∀k,(X ab (Z b) ad).ownBlock=V k->w.heap.size<=k:=fun k hk=>(An o.o k hk).1;have J9:Y (PInv w9 rb s p2):=(JN.o.keep (Ac _ _ _)).away d (fun k hk=>by { have h1:=ae k hk;omega });have C9:Y (w.grownBy w9 (V rb)):=qI (zD CN.o (Ac _ _ _)) d ae;have aI:Y (w9.heap[w.heap.size]?=V Fh0):=zw (zE al.o (Ac _ _ S) (by simp)) d (fun k hk=>zI al.o o.o (by decide) k hk);have q:Y (w9.heap[w3.heap.size]?=V (Ae #[O Ai F,I (Aa z),X Q (Z f) aa,X ta (Z tl) tc,I (Aa H),X ab (Z b) ad,X S 0 0] 213)):=zw (zE i.o (Ac _ _ S) (by simp)) d (fun k hk=>zI i.o o.o (by decide) k hk);have aj:Y (w9.ownsRow w.heap.size 280 2 (X (V ⟨g9,0,S⟩) (Z b+1) y) (Z (b++[C])) (zi (b++[C]))):=by { show Ib _ _ _ _ _ _ _;rw[yW,Ah];exact an };have av:Y _:=zK (Ao aw.o _) d (qB o.o aw.o (by decide));have ax:Y _:=zK (Ao ay.o _) d (qB o.o ay.o (by decide));have q9:=cbi 5 q.o;have bH:=zm9 5 q.o;clear an d ae) | (go_simp;go_at_call 274;refine(HC.o _ (zV au)).mono ?_;rintro e N ⟨rfl,IN,am⟩;have GN:au.grownBy N (V rb):=zD (zT (zV au) _) am;have JN:Y (PInv N rb s p2):=IN;have CN:=J (zD aT.o GN);have sN:au.heap.size<=N.heap.size:=GN.size;have al:=J (zE bn.o GN (by simp;omega));have i:=J (zE x.o GN (by simp;omega));have o:Y _:=zQ aX.o GN (by omega);have aw:Y _:=zQ a8.o GN (by omega);have ay:Y _:=zQ bh.o GN (by omega);have bQ:=cbi 0 i.o;have bR:=cbi 1 i.o;have bS:=cbi 2 i.o;have bT:=cbi 3 i.o;have bU:=cbi 4 i.o;have bV:=cbi 5 i.o;have bW:=cbi 6 i.o;have bX:=zO i.o;have bN:=zO JN.o.rd;have aE:Y (∀j u,([I (Aa C.1),I (Aa C.2)]:A Aj)[j]?=V u->(N.alloc (Fh2 C.1 C.2)).cell? ((⟨N.heap.size,0,S⟩:Addr).add j)=V u):=zZ N #[_,_] _ _ rfl;have aA:Y (w.heap.size<=(N.alloc (Fh2 C.1 C.2)).heap.size):=by { show _<=_;rw[show(N.alloc (Fh2 C.1 C.2)).heap.size=N.heap.size+1 from by simp];omega };have aH:Y ((N.alloc (Fh2 C.1 C.2)).heap.size=N.heap.size+1):=by { show _=_;simp };clear IN am GN))
      all_goals
       have gS:=zF w9 w3.heap.size 5 (X (V ⟨g9,0,S⟩) (Z b+1) y);have JS:Y _:=J9.o.other gS (by omega);have CS:=J (ze C9.o gS (by omega));have aJ:=J (zE aI.o gS (by simp;omega));have aM:Y ((w9.setCell ⟨w3.heap.size,5,S⟩ (X (V ⟨g9,0,S⟩) (Z b+1) y)).heap[w3.heap.size]?=V (Ae #[O Ai F,I (Aa z),X Q (Z f) aa,X ta (Z tl) tc,I (Aa H),X (V ⟨g9,0,S⟩) (Z b+1) y,X S 0 0] 213)):=zH q.o _;have aF:Y _:=zJ aj.o gS (zI q.o aj.o (by decide));have aU:Y _:=zJ av.o gS (zI q.o av.o (by decide));have aZ:Y _:=zJ ax.o gS (zI q.o ax.o (by decide));have aD:Y (atOf (w9.setCell ⟨w3.heap.size,5,S⟩ (X (V ⟨g9,0,S⟩) (Z b+1) y)) rb=p2.tok.at_):=jg JS.o;have aC:Y (atOf wr rb=ps.tok.at_):=jg IR.o;have bC:=JS.o.bd;go_wp2
       go_roundw
       ·exact⟨n,b++[C],p2,_,by rw[Ah];simp;omega,by omega,by omega,ai,JS,CS,aJ,aM,aF,aU,aZ⟩
       ·rw[aD.o,aC.o];omega
  ·rw[hgo] at r
   simp only[Gq] at r;have aO:=mI s.data.toList pm (Z f) hgo;have ai:=J r;have bI:=cbi 0 aL.o;have bJ:=cbi 1 aL.o;have bK:=cbi 2 aL.o;have bL:=cbi 3 aL.o;have bM:=cbi 4 aL.o;have bO:=cbi 5 aL.o;have bP:=cbi 6 aL.o;have HC:Y (∀w',a3.grownBy w' S->Am prog 272 #[Al (V ⟨rb,0,S⟩),O Ai (Z f)] w' fun e w''=>e=Af (Fe #[I (Aa (qo s.data.toList pm (Z f)).1.name),Av (qo s.data.toList pm (Z f)).1.ask,I (Aa (qo s.data.toList pm (Z f)).1.val)])/\PInv w'' rb s (qo s.data.toList pm (Z f)).2/\w'.grownBy w'' (V rb)):=fun w' hg=>zfA (cG.o.keep hg) (Z f)
   generalize qo s.data.toList pm (Z f)=qs at*;obtain⟨C,p2⟩:=qs;simp only at ai aO HC;have az:Y (∀u∈([I (Aa C.name),Av C.ask,I (Aa C.val)]:A Aj),u.oneCell'=true):=by
    intro u hu;simp only[En,Ge,Mn] at hu;rcases hu with rfl | rfl | rfl <;> rfl
   have aB:Y (Z f+1<=Bh):=by show _<=_;unfold Bh;omega
   go_wp2
   go_region_law (first | (refine Ii _ rfl (.tmp 24) (.tmp 30) 209 rfl w.heap.size 276 im _ 3 40 underlying209 mi ds dt du rfl (by decide) _ _ _ (by simp[Im]) (Ao o.o _) ⟨N.heap.size,0,S⟩ 1 1 [I (Aa C.name),Av C.ask,I (Aa C.val)] (by simp[Im]) rfl aE.o az.o (by decide) aB.o (by omega) aA.o (N.heap.size+1) aH.o ?_;intro g9 y w9 an d bB bE;have ae:∀k,(X Q (Z f) aa).ownBlock=V k->w.heap.size<=k:=fun k hk=>(An o.o k hk).1;have J9:Y (PInv w9 rb s p2):=(JN.o.keep (Ac _ _ _)).away d (fun k hk=>by { have h1:=ae k hk;omega });have C9:Y (w.grownBy w9 (V rb)):=qI (zD CN.o (Ac _ _ _)) d ae;have aI:Y (w9.heap[w.heap.size]?=V Fh0):=zw (zE al.o (Ac _ _ S) (by simp)) d (fun k hk=>zI al.o o.o (by decide) k hk);have q:Y (w9.heap[w3.heap.size]?=V (Ae #[O Ai F,I (Aa z),X Q (Z f) aa,X S 0 0,I ⟨#[]⟩,X S 0 0,X S 0 0] 213)):=zw (zE i.o (Ac _ _ S) (by simp)) d (fun k hk=>zI i.o o.o (by decide) k hk);have aj:Y (w9.ownsRow w.heap.size 276 3 (X (V ⟨g9,0,S⟩) (Z f+1) y) (Z (f++[C])) (xe (f++[C]))):=by { show Ib _ _ _ _ _ _ _;rw[fH,Ah];exact an };have q9:=cbi 2 q.o;have bH:=zm9 2 q.o;clear an d ae) | (go_simp;go_at_call 272;refine(HC.o _ (zV a3)).mono ?_;rintro e N ⟨rfl,IN,am⟩;have GN:a3.grownBy N (V rb):=zD (zT (zV a3) _) am;have JN:Y (PInv N rb s p2):=IN;have CN:=J (zD b0.o GN);have sN:a3.heap.size<=N.heap.size:=GN.size;have al:=J (zE cI.o GN (by simp;omega));have i:=J (zE aL.o GN (by simp;omega));have o:Y _:=zQ cy.o GN (by omega);have bQ:=cbi 0 i.o;have bR:=cbi 1 i.o;have bS:=cbi 2 i.o;have bT:=cbi 3 i.o;have bU:=cbi 4 i.o;have bV:=cbi 5 i.o;have bW:=cbi 6 i.o;have bX:=zO i.o;have bN:=zO JN.o.rd;have aE:Y (∀j u,([I (Aa C.name),Av C.ask,I (Aa C.val)]:A Aj)[j]?=V u->(N.alloc (Fh4 C.name C.ask C.val)).cell? ((⟨N.heap.size,0,S⟩:Addr).add j)=V u):=zZ N #[_,_,_] _ _ rfl;have aA:Y (w.heap.size<=(N.alloc (Fh4 C.name C.ask C.val)).heap.size):=by { show _<=_;rw[show(N.alloc (Fh4 C.name C.ask C.val)).heap.size=N.heap.size+1 from by simp];omega };have aH:Y ((N.alloc (Fh4 C.name C.ask C.val)).heap.size=N.heap.size+1):=by { show _=_;simp };clear IN am GN))
   all_goals
    have gS:=zF w9 w3.heap.size 2 (X (V ⟨g9,0,S⟩) (Z f+1) y);have JS:Y _:=J9.o.other gS (by omega);have CS:=J (ze C9.o gS (by omega));have aJ:=J (zE aI.o gS (by simp;omega));have aM:Y ((w9.setCell ⟨w3.heap.size,2,S⟩ (X (V ⟨g9,0,S⟩) (Z f+1) y)).heap[w3.heap.size]?=V (Ae #[O Ai F,I (Aa z),X (V ⟨g9,0,S⟩) (Z f+1) y,X S 0 0,I ⟨#[]⟩,X S 0 0,X S 0 0] 213)):=zH q.o _;have aF:Y _:=zJ aj.o gS (zI q.o aj.o (by decide));have aD:Y (atOf (w9.setCell ⟨w3.heap.size,2,S⟩ (X (V ⟨g9,0,S⟩) (Z f+1) y)) rb=p2.tok.at_):=jg JS.o;have aC:Y (atOf wr rb=pm.tok.at_):=jg IR.o;have bC:=JS.o.bd;go_wp2
    go_roundw
    ·exact⟨n,f++[C],p2,_,by rw[Ah];simp;omega,by omega,by omega,ai,JS,CS,aJ,aM,aF⟩
    ·rw[aD.o,aC.o];omega
end Go.Proofs.YtfocdefchbnkpaaGreatDoor
