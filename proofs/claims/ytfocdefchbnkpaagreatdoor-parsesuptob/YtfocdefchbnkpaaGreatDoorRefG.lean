import Derived.Test.YtfocdefchbnkpaaGreatDoorPure1
import Derived.Deep.AppendLies
set_option maxRecDepth 100000
set_option maxHeartbeats 20000000
open Go renaming World->Ag,TypeId->Cs,Value->Aj,Calls->Am,info_parts->Ej,maxLen->Bh,bodyPost_ret->Et,wpList_append_lies->Ei
open Go.ByteArray renaming toList_eq->El
open Go.Ending renaming returned->Af
open Go.IntKind renaming i64->Ai
open Go.Lib renaming indexByte->Mf,bytesWorld->Na
open Go.Obj renaming cells->Ae
open Go.Proofs.YtfocdefchbnkpaaGreatDoor.R renaming Tok->Bx,num->Gk,St->Bw,str->Aa,str_size->Bz,str_toList->Be,notS->Cw,kindS->Fg,cur->Bj,isB->Fz,needS->Cg,signI->Oy,size_eq->Cp,smallI->Ek,span->By,digitI->Ck,numStep->Sk,headerS->Mj,valueS->Ir,pathS->Hu
open Go.RowKit.Below renaming heap_alloc->Vb
open Go.Value renaming string->I,ownBlock->Ix,slice->X,pointer->Al,int->O,agg->Fe,tuple->Cm,bool->Av
open Go.World renaming grownBy_alloc->Ac,ownsRow_nil->Bk,setCell->Bs,ownsRow->Ib
open Go.World.ownsRow renaming alloc->Ao,lt->An
open List renaming length->Z
open Option renaming some->V,none->S
open Or renaming inl->Ay,inr->Bf
open Prod renaming fst->Bq
open UInt8 renaming ofNat->Cb
open _root_ renaming Nat->Ad,List->A,Int->Ak,Option->Br,UInt8->Ab,Bool->Ee,ByteArray->As
namespace Go.Proofs.YtfocdefchbnkpaaGreatDoor
open Go.RowKit Tryz
variable {w w' x y:Ag}{B a n rb g b:Ad}{e:Cs}{v H:Aj}
theorem zQ {b:A Aj}(h:w.ownsRow B e a v n b)(c:w.grownBy w' (V rb))(d:rb<B:=by omega):w'.ownsRow B e a v n b:=by
 refine h.kept c ?_
 cases hv:v.ownBlock with
 |none=>exact Ay rfl
 |some k=>right;have:=(h.lt k hv).1;simp;omega
def yC:A Bx->Ak
 |a::b::r=>if a.k=34/\b.k=49 then Gk b.s+yC (r.drop 1) else 0
 |_=>0
 termination_by l=>Z l
 decreasing_by simp;omega
theorem gG (ts:A Bx)(k:Ad)(h:k+1<Z ts)(a:ts[k].k=34)(b:ts[k+1].k=49):yC (ts.drop k)=Gk ts[k+1].s+yC (ts.drop (k+3)):=by grind[List.drop_eq_getElem_cons,yC,List.drop_drop,Bx,Gk]
theorem fO (ts:A Bx)(k:Ad)(h:¬∃h:k+1<Z ts,ts[k].k=34/\ts[k+1].k=49):yC (ts.drop k)=0:=by
 by_cases b:k+1<Z ts
 ·rw[Ed (by omega),Ed (i:=k+1) (by omega),yC,Aw (fun c=>h ⟨b,c⟩)]
 ·by_cases a:k<Z ts
  ·rw[Ed a,Ga (by omega)];unfold yC;rfl
  ·rw[Ga (by omega)];unfold yC;rfl
variable {ts:A Bx}
theorem zkY {q:Ad}{st:Bw}(h:RInv w rb g q ts st H):Am prog 192 #[Al (V ⟨rb,0,S⟩)] w fun e w'=>e=Af (O Ai (yC (ts.drop st.K)))/\w.grownBy w' S:=by
 have Q:=cbi 1 h.rd;have B:=h.lt;have N:=h.ok.len;have u:=J h;go_in;go_wp2
 go_loopw [3,4] (fun n i wr=>∃(k:Ad) (m:Ak),st.K<=k/\k<=Z ts+3/\i=O Ai k/\n=O Ai m/\0<=m/\m<=100000*k/\Y (m+yC (ts.drop k)=yC (ts.drop st.K))/\Y (w.grownBy wr S)) (fun _ i _=>Z ts+3-(intOf i).toNat)
 ·exact⟨st.K,0,Aq _,by omega,rfl,rfl,by omega,by omega,by show _=_;omega,zP _ _⟩
 ·
  obtain⟨k,m,y,z,rfl,rfl,C,E,l,o⟩:=hrel;have f:Y _:=u.o.keep o.o;have d0:=cbi 0 f.o.rd
  by_cases b:k+1<Z ts
  ·have t0:wr.cell? ⟨g,k*3,S⟩=V (O .u8 ts[k].k):=f.o.tok k (by omega) 0 (by omega)
   have u0:wr.cell? ⟨g,(k+1)*3,S⟩=V (O .u8 ts[k+1].k):=f.o.tok (k+1) b 0 (by omega);have u1:wr.cell? ⟨g,(k+1)*3+1,S⟩=V (I (Aa ts[k+1].s)):=f.o.tok (k+1) b 1 (by omega);have u2:wr.cell? ⟨g,(k+1)*3+2,S⟩=V (O Ai ts[k+1].at_):=f.o.tok (k+1) b 2 (by omega);have p:(k:Ak)+1<Z ts:=by omega
   by_cases a:ts[k].k=34/\ts[k+1].k=49
   ·have t:(ts[k].k == 34)=true:=by rw[a.1];rfl
    have x:(ts[k+1].k == 49)=true:=by rw[a.2];rfl
    have F:=f.o.ok.nums (k+1) ts[k+1] (by rw[Bd b]) a.2;have v:Y ((Aa ts[k+1].s).size<=3000):=by rw[Bz];exact f.o.ok.strs (k+1) ts[k+1] (by rw[Bd b])
    have j:Y ((m+Gk ts[k+1].s)+yC (ts.drop (k+3))=yC (ts.drop st.K)):=by
     have:=l.o;rw[gG ts k b a.1 a.2] at this;show _=_;omega
    generalize ts[k]=ta at*;generalize ts[k+1]=tb at*;go_wp2_with (go_at_call 132;refine(ut _ _ _ _ v.o).mono ?_;rintro e w5 ⟨rfl,r⟩;rw[Be]);exact⟨⟨k+3,m+Gk tb.s,by omega,by omega,by go_num,rfl,by omega,by omega,j,zD o.o r⟩,by simp[intOf];omega⟩
   ·have j:Y (m=yC (ts.drop st.K)):=by
     have:=l.o;rw[fO ts k (fun⟨_,c⟩=>a c)] at this;show _=_;omega
    by_cases d:ts[k].k=34
    ·have t:(ts[k].k == 34)=true:=by rw[d];rfl
     have x:(ts[k+1].k == 49)=false:=by rw[Ch];exact fun c=>a ⟨d,c⟩
     generalize ts[k]=ta at*;generalize ts[k+1]=tb at*;go_wp2;go_ret;exact⟨by rw[<-j.o];rfl,o.o⟩
    ·have t:(ts[k].k == 34)=false:=by rw[Ch];exact d
     generalize ts[k]=ta at*;generalize ts[k+1]=tb at*;go_wp2;go_ret;exact⟨by rw[<-j.o];rfl,o.o⟩
  ·have j:Y (m=yC (ts.drop st.K)):=by
    have:=l.o;rw[fO ts k (fun⟨c,_⟩=>b c)] at this;show _=_;omega
   have p:¬(k:Ak)+1<Z ts:=by omega
   go_wp2;go_ret;exact⟨by rw[<-j.o];rfl,o.o⟩
variable {row:Br Ad}
theorem RInv.away {st:Bw}(h:RInv w rb g a ts st H)(b:w.grownBy w' row)(c:∀k,row=V k->k≠rb/\k≠g):RInv w' rb g a ts st H:=by
 cases row with
 |none=>exact h.keep b
 |some k=>exact h.other b (c k rfl).1 (c k rfl).2
theorem qI {a b c:Ag}{d:Br Ad}(h:a.grownBy b row)(f:b.grownBy c d)(g:∀k,d=V k->a.heap.size<=k):a.grownBy c row:=by
 cases d <;> grind[zD,zT,ze]
def zx (l:A (A Ab×Ak)):A Aj:=(l.map fun t=>[I (Aa t.1),O Ai t.2]).flatten
theorem yn (l:A (A Ab×Ak))(t:A Ab×Ak):zx (l++[t])=zx l++[I (Aa t.1),O Ai t.2]:=by simp[zx]
def qJ (ts : A Bx) (st : Bw) (i : Ad) (acc : A (A Ab × Ak)) : Bw × A (A Ab × Ak) :=
  (Cw (Cw (Cw (Fg ts (Fg ts st 34) 49) (decide ((i : Ak) < 4)) 3 (Bj ts st).at_) (R.upstream (Bj ts st).s) 4 (Bj ts st).at_) (decide (Gk (Bj ts (Fg ts st 34)).s ≤ 1000)) 4 (Bj ts (Fg ts st 34)).at_,
   if 0<Gk (Bj ts (Fg ts st 34)).s then acc ++ [((Bj ts st).s, Gk (Bj ts (Fg ts st 34)).s)] else acc)
def R.tgLoop (ts:A Bx):Ad->Bw->Ad->A (A Ab×Ak)->A (A Ab×Ak)×Bw
 |0,st,_,acc=>(acc,st)
 |n+1,st,i,acc=>
  if st.bad<0 then
   if Fz (qJ ts st i acc).1 (Bj ts (qJ ts st i acc).1) [44] then R.tgLoop ts n (Cg ts (qJ ts st i acc).1 [44]) (i+1) (qJ ts st i acc).2
   else ((qJ ts st i acc).2,(qJ ts st i acc).1)
  else (acc,st)
def R.targetsS (ts : A Bx) (st : Bw) : A (A Ab × Ak) × Bw :=
  ((R.tgLoop ts (Z ts + 1) (Cw (Cg ts st [116, 111]) (decide (0<yC (ts.drop (Cg ts st [116, 111]).K))) 4 (Bj ts st).at_) 0 []).1,
   Cg ts (R.tgLoop ts (Z ts + 1) (Cw (Cg ts st [116, 111]) (decide (0<yC (ts.drop (Cg ts st [116, 111]).K))) 4 (Bj ts st).at_) 0 []).2 [59])
theorem uN (t:Bx)(st:Bw)(a:Ee):st.K<=(R.overS t st a).K:=by grind[R.overS,Bx,Bw]
theorem R.notS_K (st:Bw)(b:Ee)(e a:Ak):(Cw st b e a).K=st.K:=by
 unfold Cw;split <;> rfl
theorem fP (ts:A Bx)(st:Bw)(i:Ad)(a:A (A Ab×Ak)):st.K<=(qJ ts st i a).1.K:=by
 unfold qJ;simp only[R.notS_K];exact Bi (uN _ _ _) (uN _ _ _)
theorem R.needS_yes {st:Bw}{s:A Ab}(h:Fz st (Bj ts st) s=true):Cg ts st s={ st with K:=st.K+1 }:=by grind[Cg,R.overS,Fz,Bx,Bw,Bj]
theorem zd2:(prog.info? 183).map (fun i=>(i.zero,i.size,i.bytes))=V (V (Fe #[I ⟨#[]⟩,O Ai 0]),2,24):=by kernel_rfl
abbrev Ff0 (a b):=Bj a (Fg a b 34)
abbrev Ff1 (a b):=Ae #[O .u8 (Bj a b).k,I (Aa (Bj a b).s),O Ai (Bj a b).at_] 115
abbrev Ff3 (a b):=Cg a b [116,111]
theorem oe {ag:Ad}{st:Bw}(h:RInv w rb g ag ts st H):Am prog 135 #[Al (V ⟨rb,0,S⟩)] w fun e w'=>∃v,e=Af v/\RInv w' rb g ag ts (R.targetsS ts st).2 H/\w.grownBy w' (V rb)/\w'.ownsRow w.heap.size 183 2 v (Z (R.targetsS ts st).1) (zx (R.targetsS ts st).1):=by
 obtain⟨i0,hi,bJ,bK,bL⟩:=Ej zd2;have HP:Y (R.targetsS ts st=((R.tgLoop ts (Z ts+1) (Cw (Ff3 ts st) (decide (0<yC (ts.drop (Ff3 ts st).K))) 4 (Bj ts st).at_) 0 []).1,
 Cg ts (R.tgLoop ts (Z ts+1) (Cw (Ff3 ts st) (decide (0<yC (ts.drop (Ff3 ts st).K))) 4 (Bj ts st).at_) 0 []).2 [59])):=rfl
 have H0:=J h;have bP:=zO h.rd;generalize R.targetsS ts st=r at*;go_in;have C0:Y (w.grownBy w (V rb)):=zP _ _;go_wp2_with fail;refine(qv H0.o _).mono ?_;rintro e w1 ⟨rfl,I1,aQ⟩;have J1:=J I1;have b1:=zO J1.o.rd;have G1:=J (aQ);have C1:=J (zD C0.o G1.o);go_wp2_with fail;refine(zkY (J1.o.keep (Ac _ _ _))).mono ?_;rintro e w2 ⟨rfl,an⟩;have ao:=zT an (V rb);have J2:Y _:=((J1.o.keep (Ac _ _ _))).keep an;have G2:Y (w1.grownBy w2 (V rb)):=(zD (Ac _ _ _) ao);have C2:=J (zD C1.o G2.o);have B:Y (w2.heap[w1.heap.size]?=V (Ff1 ts st)):=ql ao;have b3:=cbi 0 B.o;have b4:=cbi 1 B.o;have b5:=cbi 2 B.o;go_wp2_with fail;refine(j4 J2.o _ _ _ _ _).mono ?_;rintro e w3 ⟨rfl,I3,aR⟩;have J3:=J I3;have G3:=J (aR);have C3:=J (zD C2.o G3.o);generalize Cw (Ff3 ts st) (decide (0<yC (ts.drop (Ff3 ts st).K))) 4 (Bj ts st).at_=st3 at*;go_wp2_with fail
 go_loopw [3,6] (fun v iv wr=>∃(i n:Ad) (c:A (A Ab×Ak)) (s:Bw),iv=O Ai i/\i<=s.K/\s.K<Z ts/\(Z c)<=i/\(Z ts)<n+s.K/\Y (R.tgLoop ts n s i c=R.tgLoop ts (Z ts+1) st3 0 [])/\Y (RInv wr rb g ag ts s H)/\Y (w.grownBy wr (V rb))/\Y (wr.ownsRow w.heap.size 183 2 v (Z c) (zx c))) (fun _ iv _=>Z ts+1-(intOf iv).toNat)
 ·exact⟨0,Z ts+1,[],st3,rfl,Ax _,J3.o.lt,Aq _,by omega,rfl,J3,C3,Bk _ _ _ _⟩
 ·
  obtain⟨i,n,c,s,rfl,bS,bQ,bR,hn,HL,IR,HR,HO⟩:=hrel;have c2:=cbi 2 IR.o.rd;have bU:=IR.o.ok.len;obtain⟨n,rfl⟩:∃m,n=m+1:=⟨n-1,by omega⟩;have o:=HL.o;rw[R.tgLoop] at o
  by_cases hb:s.bad<0
  ·rw[Az hb] at o
   have bI:=fP ts s i c;have ak:Y (qJ ts s i c=(Cw (Cw (Cw (Fg ts (Fg ts s 34) 49) (decide ((i:Ak)<4)) 3 (Bj ts s).at_) (R.upstream (Bj ts s).s) 4 (Bj ts s).at_) (decide (Gk (Ff0 ts s).s<=1000)) 4 (Ff0 ts s).at_,
    if 0<Gk (Ff0 ts s).s then c++[((Bj ts s).s,Gk (Ff0 ts s).s)] else c)):=rfl
   generalize qJ ts s i c=rr at*;obtain⟨s5,aP⟩:=rr;simp only at o bI;have a:=J o;have HU:=J (IR.o.curlen);have bw:Y ((Aa (Bj ts s).s).size<=Bh):=by have:=HU.o;show _<=_;unfold Bh;omega
   have bv:Y _:=(Nn ak.o).1;have b:Y _:=(Nn ak.o).2;have bl:=J HO.o;go_wp2_with fail;refine(kO IR.o 34).mono ?_;rintro e a6 ⟨rfl,aD,aT⟩;have al:=J aD;have bN:=zO al.o.rd;have au:=J (aT);have a9:=J (zD HR.o au.o);have bm:Y _:=zQ bl.o au.o;have HW:=J (al.o.curlen);go_wp2_with fail;refine(kO (al.o.keep (Ac _ _ _)) 49).mono ?_;rintro e ah ⟨rfl,aE,N⟩;have aM:=J aE;have bO:=zO aM.o.rd;have av:Y (a6.grownBy ah (V rb)):=(zD (Ac _ _ _) N);have ba:=J (zD a9.o av.o);have bn:Y _:=zQ bm.o av.o;have d:Y (ah.heap[a6.heap.size]?=V (Ff1 ts s)):=ql N;have bY:=zO d.o;have bV:=cbi 0 d.o;have bW:=cbi 1 d.o;have bX:=cbi 2 d.o;go_wp2_with fail;refine(cp _ _ bw.o).mono ?_;rintro e wX ⟨rfl,a5⟩;rw[a5];rw[Be];go_wp2_with fail;refine(j4 (aM.o.keep (Ac _ _ _)) _ _ _ _ _).mono ?_;rintro e a7 ⟨rfl,aF,Q⟩;have bz:=J aF;have ai:Y (ah.grownBy a7 (V rb)):=(zD (Ac _ _ _) Q);have bb:=J (zD ba.o ai.o);have bo:Y _:=zQ bn.o ai.o;have f:=J (zE d.o ai.o);have bH:Y (a7.heap[ah.heap.size]?=V (Ae #[O .u8 (Ff0 ts s).k,I (Aa (Ff0 ts s).s),O Ai (Ff0 ts s).at_] 115)):=ql Q;have b6:=cbi 0 f.o;have b7:=cbi 1 f.o;have b8:=cbi 2 f.o;go_wp2_with fail;refine(j4 bz.o _ _ _ _ _).mono ?_;rintro e ce ⟨rfl,aG,aU⟩;have bA:=J aG;have ad:=J (aU);have bc:=J (zD bb.o ad.o);have bp:Y _:=zQ bo.o ad.o;have bE:=J (zE f.o ad.o);have j:=J (zE bH.o ad.o);have bZ:=cbi 0 j.o;have b0:=cbi 1 j.o;have b2:=cbi 2 j.o;go_wp2_with fail;refine(ut _ _ _ _ HW.o).mono ?_;rintro e cf ⟨rfl,C⟩;have aV:=zT C (V rb);have bB:Y _:=(bA.o).keep C;have ae:=J (aV);have bd:=J (zD bc.o ae.o);have bq:Y _:=zQ bp.o ae.o;have bF:=J (zE bE.o ae.o);have q:=J (zE j.o ae.o);rw[Be];have b9:=cbi 0 q.o;have ca:=cbi 1 q.o;have cb:=cbi 2 q.o;go_wp2_with fail;refine(j4 bB.o _ _ _ _ _).mono ?_;rintro e bM ⟨rfl,aH,aW⟩;have af:=J aH;have aj:=J (aW);have ab:=J (zD bd.o aj.o);have cm:=ab.o.size;have p:Y _:=zQ bq.o aj.o;have bG:=J (zE bF.o aj.o);rw[<-bv.o] at af;generalize bT:Gk (Ff0 ts s).s=num at*;have cc:=cbi 1 bG.o
   by_cases a4:0<num
   ·rw[Az a4] at b
    go_wp2_with (at_builtin;refine wpList_append_own _ rfl _ _ 123 rfl w.heap.size 183 i0 _ 2 24 underlying123 hi bJ bK bL rfl (by decide) _ _ _ rfl (Ao p.o _) ⟨bM.heap.size,0,S⟩ 1 1 [I (Aa (Bj ts s).s),O Ai num] rfl rfl ?c1 ?c2 ?c3 ?c4 ?c5 ?_)
    ·exact zZ _ #[_,_] _ _
    ·intro u hu;simp at hu;rcases hu with rfl|rfl <;> rfl
    ·unfold Bh;omega
    ·omega
    ·have:=ab.o.size;simp;omega
    intro v9 w9 a3 l _;have bi:Y (w9.ownsRow w.heap.size 183 2 v9 (Z (c++[((Bj ts s).s,num)])) (zx (c++[((Bj ts s).s,num)]))):=by rw[yn,Ah];exact a3
    have am:∀k,(u3:Aj).ownBlock=V k->w.heap.size<=k:=fun k hk=>(An p.o k hk).1
    have J9:Y (RInv w9 rb g ag ts s5 H):=(af.o.keep (Ac _ _ _)).away l (fun k hk=>by have h1:=am k hk;have h2:=H0.o.gl;exact⟨by omega,by omega⟩);have C9:Y (w.grownBy w9 (V rb)):=qI (zD ab.o (Ac _ _ _)) l am;go_wp2_with fail;refine(uC J9.o _).mono ?_;rintro e cg ⟨rfl,E⟩;have aX:=zT E (V rb);have aN:Y _:=(J9.o).keep E;have aw:=J (aX);have ap:=J (zD C9.o aw.o);have t:Y _:=zQ bi.o aw.o
    cases hmore:Fz s5 (Bj ts s5) [44]
    ·rw[Aw (by rw[hmore];simp)] at a
     go_wp2_with fail;refine(qv aN.o _).mono ?_;rintro e ch ⟨rfl,aI,aY⟩;have bC:=J aI;have ax:=J (aY);have be:=J (zD ap.o ax.o);have br:Y _:=zQ t.o ax.o;go_wp2;go_ret;exact⟨_,rfl,by rw[HP.o,<-a.o];exact bC.o,be.o,by rw[HP.o,<-a.o,b.o];exact br.o⟩
    ·rw[Az (by rw[hmore])] at a
     have aa:=R.needS_yes hmore;go_wp2_with fail;refine(qv aN.o _).mono ?_;rintro e ci ⟨rfl,aJ,aZ⟩;have y:=J aJ;have ay:=J (aZ);have bf:=J (zD ap.o ay.o);have bs:Y _:=zQ t.o ay.o;rw[show(⟨#[44]⟩:As).data.toList=[44] from rfl] at y;go_wp2
     go_roundw
     ·exact⟨i+1,n,aP,_,by go_num,by rw[aa];simp;omega,y.o.lt,by rw[b.o];simp;omega,by rw[aa];simp;omega,a,y,bf,by rw[b.o];exact bs.o⟩
     ·simp[intOf];omega
   ·rw[Aw a4] at b
    go_wp2_with fail;refine(uC af.o _).mono ?_;rintro e cj ⟨rfl,F⟩;have a0:=zT F (V rb);have aO:Y _:=(af.o).keep F;have az:=J (a0);have aq:=J (zD ab.o az.o);have x:Y _:=zQ p.o az.o
    cases hmore:Fz s5 (Bj ts s5) [44]
    ·rw[Aw (by rw[hmore];simp)] at a
     go_wp2_with fail;refine(qv aO.o _).mono ?_;rintro e ck ⟨rfl,aK,a1⟩;have bD:=J aK;have aA:=J (a1);have bg:=J (zD aq.o aA.o);have bt:Y _:=zQ x.o aA.o;go_wp2;go_ret;exact⟨_,rfl,by rw[HP.o,<-a.o];exact bD.o,bg.o,by rw[HP.o,<-a.o,b.o];exact bt.o⟩
    ·rw[Az (by rw[hmore])] at a
     have aa:=R.needS_yes hmore;go_wp2_with fail;refine(qv aO.o _).mono ?_;rintro e cl ⟨rfl,aL,a2⟩;have z:=J aL;have aB:=J (a2);have bh:=J (zD aq.o aB.o);have bu:Y _:=zQ x.o aB.o;rw[show(⟨#[44]⟩:As).data.toList=[44] from rfl] at z;go_wp2
     go_roundw
     ·exact⟨i+1,n,aP,_,by go_num,by rw[aa];simp;omega,z.o.lt,by rw[b.o];omega,by rw[aa];simp;omega,a,z,bh,by rw[b.o];exact bu.o⟩
     ·simp[intOf];omega
  ·rw[Aw hb] at o
   have a:=J o;have bj:=J HO.o;go_wp2_with fail;refine(qv IR.o _).mono ?_;rintro e cd ⟨rfl,aC,aS⟩;have bx:=J aC;have ar:=J (aS);have a8:=J (zD HR.o ar.o);have bk:Y _:=zQ bj.o ar.o;go_wp2;go_ret;exact⟨_,rfl,by rw[HP.o,<-a.o];exact bx.o,a8.o,by rw[HP.o,<-a.o];exact bk.o⟩
theorem ez (c:Ab):decide (0<=Mf [123,125,59,61,44] c)=Oy c.toNat:=by
 have:∀n:Fin 256,decide (0<=Mf [123,125,59,61,44] (Cb n.val))=Oy (Cb n.val).toNat:=by decide +kernel
 have h:=this ⟨c.toNat,UInt8.toNat_lt c⟩;simp only[UInt8.ofNat_toNat] at h;exact h
theorem zlD (c:Ab):((c.toNat:Ak).toNat).toUInt8=c:=by simp
theorem lx (s:As)(w:Ag)(r:s.size<=1000000000000):Am prog 204 #[I s] w fun e w'=>e=Af (Cm #[O Ai (qD s.data.toList).1,O Ai (qD s.data.toList).2])/\w.grownBy w' S:=by
 have g:s.size<=Bh:=by unfold Bh;omega
 by_cases l:s.size=0
 ·have a:Y (qD s.data.toList=(0,0)):=by
   have:s.data.toList=[]:=Ep.1 (by rw[Cp];exact l);rw[this];rfl
  have n:s=⟨#[]⟩:=by
   apply yt;exact Ep.1 (by rw[Cp];exact l)
  subst n;go_in;go_wp2
  go_ret2
  exact⟨by rw[a.o];rfl,zP _ _⟩
 ·have o:0<s.size:=by omega
  have b:s.data.toList=s[0]::s.data.toList.drop 1:=by
   have:=R.drop_cons s 0 o;rw[Iw] at this;exact this
  have a:Y (qD s.data.toList=if Ek s[0].toNat then (By Ek s.data.toList,(1:Ak)) else if Ck s[0].toNat then xm s.data.toList else if s[0].toNat=34 then yD s.data.toList else if Oy s[0].toNat then (1,4) else (0,5)):=by
   show qD _=_
   conv=>lhs;rw[b]
   rw[qD,<-b]
  have u:(s.toList == [])=false:=by
   rw[El,b];rfl
  have i:Y _:=fun w=>pY s w g
  have h:Y _:=fun w=>cW s w g
  have j:Y _:=fun w=>cY s w r o
  have c:=ez s[0];have f:Y (∀w,Am prog 264 #[I ⟨#[123,125,59,61,44]⟩,O .u8 s[0].toNat] w fun e w'=>e=Af (O Ai (Mf [123,125,59,61,44] s[0]))/\w'=w):=fun w=>by
   have:=Tryz.strings_IndexByte ⟨#[123,125,59,61,44]⟩ s[0].toNat w;rw[zlD] at this;exact this
  generalize qD s.data.toList=m at*;generalize xm s.data.toList=mn at*;generalize yD s.data.toList=ms at*;generalize By Ek s.data.toList=sp at*;generalize Mf [123,125,59,61,44] s[0]=ix at*
  cases ha:Ek s[0].toNat
  ·rw[ha] at a
   simp only[Ct,Gj] at a
   cases hd:Ck s[0].toNat
   ·rw[hd] at a
    simp only[Ct,Gj] at a
    by_cases d:s[0].toNat=34
    ·rw[Az d] at a
     have k:((s[0].toNat:Ak) == 34)=true:=by rw[d];rfl
     go_in;go_wp2_with (first
      |(go_at_call 260;refine(j3 _ _).mono ?_;rintro e w' ⟨rfl,rfl⟩)
      |(go_at_call 261;refine(jN _ _).mono ?_;rintro e w' ⟨rfl,rfl⟩)
      |(go_at_call 263;refine(j.o _).mono ?_;rintro e v ⟨rfl,t⟩))
     go_ret2
     exact⟨by rw[a.o];rfl,t⟩
    ·rw[Aw d] at a
     have k:((s[0].toNat:Ak) == 34)=false:=by rw[Ch];omega
     cases hsi:Oy s[0].toNat
     ·rw[hsi] at a c
      simp only[Ct,Gj] at a;have p:¬0<=ix:=by simpa using c
      go_in;go_wp2_with (first
       |(go_at_call 260;refine(j3 _ _).mono ?_;rintro e w' ⟨rfl,rfl⟩)
       |(go_at_call 261;refine(jN _ _).mono ?_;rintro e w' ⟨rfl,rfl⟩)
       |(go_at_call 264;refine(f.o _).mono ?_;rintro e w' ⟨rfl,rfl⟩))
      go_ret2
      exact⟨by rw[a.o];rfl,zP _ _⟩
     ·rw[hsi] at a c
      simp only[Gq] at a;have q:0<=ix:=by simpa using c
      go_in;go_wp2_with (first
       |(go_at_call 260;refine(j3 _ _).mono ?_;rintro e w' ⟨rfl,rfl⟩)
       |(go_at_call 261;refine(jN _ _).mono ?_;rintro e w' ⟨rfl,rfl⟩)
       |(go_at_call 264;refine(f.o _).mono ?_;rintro e w' ⟨rfl,rfl⟩))
      go_ret2
      exact⟨by rw[a.o];rfl,zP _ _⟩
   ·rw[hd] at a
    simp only[Gq] at a;go_in;go_wp2_with (first
     |(go_at_call 260;refine(j3 _ _).mono ?_;rintro e w' ⟨rfl,rfl⟩)
     |(go_at_call 261;refine(jN _ _).mono ?_;rintro e w' ⟨rfl,rfl⟩)
     |(go_at_call 262;refine(h.o _).mono ?_;rintro e w' ⟨rfl,rfl⟩))
    go_ret2
    exact⟨by rw[a.o];rfl,zP _ _⟩
  ·rw[ha] at a
   simp only[Gq] at a;go_in;go_wp2_with (first
    |(go_at_call 260;refine(j3 _ _).mono ?_;rintro e w' ⟨rfl,rfl⟩)
    |(go_at_call 202;refine(i.o _).mono ?_;rintro e w' ⟨rfl,rfl⟩))
   go_ret2
   exact⟨by rw[a.o];rfl,zP _ _⟩
theorem mN (l:A Ab)(p:Ad)(a:p<=Z l):qE l p<=Z l:=by grind[R.span_le,xN,List.length_drop,qE]
theorem mQ (l:A Ab)(p:Ad)(a:p<=Z l):(zg l p).at_+Z (zg l p).raw<=Z l:=by grind[mN,kl,qE,List.length_drop,zg,List.length_take]
theorem tT (s:As)(p:Ad)(w:Ag)(hs:s.size<=1000000000000)(N:p<=s.size):Am prog 146 #[I s,O Ai p] w fun e w'=>e=Af (Fe #[O Ai (zg s.data.toList p).k,O Ai (zg s.data.toList p).at_,I (Aa (zg s.data.toList p).raw)])/\w.grownBy w' S:=by
 have x:=bW s p;have h:(s.extract p s.size).size<=Bh:=by rw[<-Cp,x,Cy,Cp];unfold Bh;omega
 have q:=fun w=>pX (s.extract p s.size) w h
 rw[x] at q;have b:=J q;have f:=mN s.data.toList p (by rw[Cp];exact N);rw[Cp] at f;have r:Y (zg s.data.toList p=⟨(qD (s.data.toList.drop (qE s.data.toList p))).2,qE s.data.toList p,(s.data.toList.drop (qE s.data.toList p)).take (qD (s.data.toList.drop (qE s.data.toList p))).1⟩):=rfl;have d:qE s.data.toList p=p+By xN (s.data.toList.drop p):=rfl;generalize By xN (s.data.toList.drop p)=n at*;rw[d] at r f;have y:=bW s (p+n);have i:(s.extract (p+n) s.size).size<=1000000000000:=by rw[<-Cp,y,Cy,Cp];omega
 have l:=fun w=>lx (s.extract (p+n) s.size) w i
 rw[y] at l;have o:=J l;have c:=kl (s.data.toList.drop (p+n));rw[Cy,Cp] at c;generalize qD (s.data.toList.drop (p+n))=m at*;obtain⟨j,E⟩:=m;simp only at r c;go_in;go_wp2_with fail;refine(b.o _).mono ?_;rintro e Q ⟨rfl,g⟩;rw[g];go_wp2_with fail;refine(o.o _).mono ?_;rintro e F ⟨rfl,t⟩;have a:=ql t;have z:=cbi 0 a;have B:=cbi 1 a;have C:=cbi 2 a;have f0:=zm9 0 a;have f1:=zm9 1 a;have f2:=zm9 2 a;have H:Y (w.grownBy F S):=zD (Ac _ _ _) t;go_wp2;have u:=zD (zD (zF F w.heap.size 0 (O Ai E)) (zF _ w.heap.size 1 (O Ai (p+n)))) (zF _ w.heap.size 2 (I (s.extract (p+n) (p+n+j))));refine Et (v:=.agg #[O Ai E,O Ai (p+n),I (s.extract (p+n) (p+n+j))]) (by simp[results,results146,go_sem,z,B,C]) rfl ⟨?_,ze H.o u (Aq _)⟩;rw[r.o,kB,show p+n+j-(p+n)=j by omega];simp
structure P.St where
 tok:P.Tk
 broken:Ee
 err:Ak
 fat:Ak
structure PInv (w:Ag) (rb:Ad) (s:As) (st:P.St):Prop where
 rd:w.heap[rb]?=V (Ae #[I s,O Ai st.tok.k,O Ai st.tok.at_,I (Aa st.tok.raw),Av st.broken,O Ai st.err,O Ai st.fat] 204 (0,0))
 len:s.size<=1000000000000
 tok:∃p,p<=s.size/\st.tok=zg s.data.toList p
variable {s:As}{st:P.St}
theorem PInv.bd (h:PInv w rb s st):st.tok.at_+Z st.tok.raw<=s.size:=by
 obtain⟨p,a,e⟩:=h.tok;rw[e,<-Cp];exact mQ _ _ (by rw[Cp];exact a)
theorem PInv.keep (h:PInv w rb s st)(a:w.grownBy w' S):PInv w' rb s st:=
 ⟨by rw[a.block rb (zO h.rd) (by simp)];exact h.rd,h.len,h.tok⟩
theorem PInv.other (h:PInv w rb s st)(c:w.grownBy w' (V b))(a:b≠rb):PInv w' rb s st:=
 ⟨by rw[c.block rb (zO h.rd) (by simpa using fun e=>a e.symm)];exact h.rd,h.len,h.tok⟩
theorem PInv.away (h:PInv w rb s st)(a:w.grownBy w' row)(b:∀k,row=V k->k≠rb):PInv w' rb s st:=by
 cases row with
 |none=>exact h.keep a
 |some k=>exact h.other a (b k rfl)
def ug (l:A Ab)(st:P.St)(p:Ad):P.St:={ st with tok:=zg l p }
theorem zi6 (h:PInv w rb s st)(p:Ad)(f:p<=s.size):Am prog 100 #[Al (V ⟨rb,0,S⟩),O Ai p] w fun e w'=>e=Af (Cm #[])/\PInv w' rb s (ug s.data.toList st p)/\w.grownBy w' (V rb):=by
 have o:=cbi 0 h.rd;have b:=h.len;have i:=J h;have m:Y _:=fun w=>tT s p w b f
 have j:Y (ug s.data.toList st p={ st with tok:=zg s.data.toList p }):=rfl;have d:Y (∃q,q<=s.size/\zg s.data.toList p=zg s.data.toList q):=⟨p,f,rfl⟩;generalize zg s.data.toList p=t at*;go_in;go_wp2_with fail;refine(m.o _).mono ?_;rintro e g ⟨rfl,c⟩;have a:=i.o.keep c;have r:=cbi 1 a.rd;have u:=cbi 2 a.rd;have v:=cbi 3 a.rd;have x:=zm9 1 a.rd;have y:=zm9 2 a.rd;have z:=zm9 3 a.rd;have n:=J a;have l:=J c;go_wp2
 go_end0
 have c:g.grownBy (((g.setCell ⟨rb,1,S⟩ (O Ai t.k)).setCell ⟨rb,2,S⟩ (O Ai t.at_)).setCell ⟨rb,3,S⟩ (I (Aa t.raw))) (V rb):=
  zD (zD (zF _ _ _ _) (zF _ _ _ _)) (zF _ _ _ _)
 refine⟨rfl,?_,zD (zT l.o _) c⟩;rw[j.o];exact⟨zH (zH (zH n.o.rd _) _) _,b,d.o⟩
def qH (st:P.St)(r:A Ab):Ee:=!st.broken && decide (st.tok.raw=r)
theorem vN (h:PInv w rb s st)(r:As):Am prog 147 #[Al (V ⟨rb,0,S⟩),I r] w fun e w'=>e=Af (Av (qH st r.data.toList))/\w.grownBy w' S:=by
 have c:=cbi 3 h.rd;have b:=cbi 4 h.rd;have a:Y (qH st r.data.toList=(!st.broken && decide (st.tok.raw=r.data.toList))):=rfl;have d:((Aa st.tok.raw).toList == r.toList)=decide (st.tok.raw=r.data.toList):=by rw[El,El,Be,Eb];simp
 generalize decide (st.tok.raw=r.data.toList)=b3 at*
 cases hb:st.broken
 all_goals
  rw[hb] at a b;go_in;go_wp2;go_ret;exact⟨zX (by rw[a.o];try rfl),zP _ _⟩
def qR (l:A Ab)(st:P.St)(fits:Ee):P.St:=
 if fits=true/\st.broken=false then ug l st (st.tok.at_+Z st.tok.raw) else { st with broken:=true }
theorem cZ (h:PInv w rb s st)(a:Ee):Am prog 149 #[Al (V ⟨rb,0,S⟩),Av a] w fun e w'=>e=Af (Av (!(qR s.data.toList st a).broken))/\PInv w' rb s (qR s.data.toList st a)/\w.grownBy w' (V rb):=by
 have o:=cbi 2 h.rd;have p:=cbi 3 h.rd;have k:=cbi 4 h.rd;have q:=zm9 4 h.rd;have f:=h.bd;have c:=h.len;have n:(Aa st.tok.raw).size=Z st.tok.raw:=Bz _;have b:Y (qR s.data.toList st a=if a=true/\st.broken=false then ug s.data.toList st (st.tok.at_+Z st.tok.raw) else { st with broken:=true }):=rfl;have d:=J h;generalize qR s.data.toList st a=st' at*
 cases a
 ·rw[Aw (by simp)] at b
  go_in;go_wp2;go_ret;rw[b.o];exact⟨rfl,⟨zH d.o.rd _,c,d.o.tok⟩,zF _ _ _ _⟩
 ·cases hb:st.broken
  ·rw[Az ⟨rfl,hb⟩] at b
   rw[hb] at k;have l:Y (∀w,PInv w rb s st->Am prog 100 #[Al (V ⟨rb,0,S⟩),O Ai (IntKind.i64.wrap ((st.tok.at_:Ak)+(Z st.tok.raw:Ak)))] w fun e w'=>e=Af (Cm #[])/\PInv w' rb s st'/\w.grownBy w' (V rb)):=fun w h=>by
    have:=zi6 h (st.tok.at_+Z st.tok.raw) f;rw[<-b.o,Int.natCast_add] at this;rw[IntWalk.i64_in _ ⟨by omega,by omega⟩];exact this
   have i:Y (st'.broken=false):=by rw[b.o];exact hb
   go_in;go_wp2
   go_region_with (go_at_call 100;refine(l.o _ (d.o.keep (zV w))).mono ?_;rintro e r ⟨rfl,j,g⟩;have m:=cbi 4 j.rd;rw[i.o] at m)
   all_goals
    go_wp2;go_ret;rw[i.o];exact⟨rfl,j,zD (zT (zV w) _) g⟩
  ·rw[Aw (by rw[hb];simp)] at b
   rw[hb] at k;go_in;go_wp2;go_ret;have e:({ st with broken:=true }:P.St)=st:=by cases st;simp at hb ⊢;exact hb
   rw[b.o,e,hb];exact⟨rfl,d.o,zP _ _⟩
def zS (l:A Ab)(st:P.St)(r:A Ab):P.St:=qR l st (decide (st.tok.raw=r))
def jk (l:A Ab)(st:P.St):P.St:=qR l st (st.tok.k == 0)
theorem y8 (h:PInv w rb s st)(r:As):Am prog 206 #[Al (V ⟨rb,0,S⟩),I r] w fun e w'=>e=Af (Cm #[])/\PInv w' rb s (zS s.data.toList st r.data.toList)/\w.grownBy w' (V rb):=by
 have f:=cbi 3 h.rd;have g:((Aa st.tok.raw).toList == r.toList)=decide (st.tok.raw=r.data.toList):=by rw[El,El,Be,Eb];simp
 have c:Y (zS s.data.toList st r.data.toList=qR s.data.toList st (decide (st.tok.raw=r.data.toList))):=rfl;have b:=J h;generalize decide (st.tok.raw=r.data.toList)=b3 at*;go_in;go_wp2_with fail;refine(cZ b.o b3).mono ?_;rintro e i ⟨rfl,d,a⟩;go_wp2
 go_end0
 exact⟨rfl,by rw[c.o];exact d,a⟩
theorem oC (h:PInv w rb s st):Am prog 102 #[Al (V ⟨rb,0,S⟩)] w fun e w'=>e=Af (Cm #[])/\PInv w' rb s (jk s.data.toList st)/\w.grownBy w' (V rb):=by
 have f:=cbi 1 h.rd;have c:Y (jk s.data.toList st=qR s.data.toList st (st.tok.k == 0)):=rfl;have b:=J h;go_in;go_wp2_with fail;refine(cZ b.o (st.tok.k == 0)).mono ?_;rintro e g ⟨rfl,d,a⟩;go_wp2
 go_end0
 exact⟨rfl,by rw[c.o];exact d,a⟩
theorem gj (l:A Ab)(h:(qD l).2=3):2<=(qD l).1:=by
 unfold qD at h ⊢
 grind[qD,xm,yD]
theorem iC (l:A Ab)(p:Ad)(h:(zg l p).k=3):2<=Z (zg l p).raw:=by grind[zg,gj,kl,qE,List.length_take]
theorem PInv.three (h:PInv w rb s st)(a:st.tok.k=3):2<=Z st.tok.raw:=by grind[iC,P.St,PInv]
def qA (l:A Ab)(st:P.St):A Ab×P.St:=
 (if (qR l st (st.tok.k == 3)).broken then [] else (st.tok.raw.drop 1).take (Z st.tok.raw-2),qR l st (st.tok.k == 3))
theorem zlV {a b:As}{c d:Ak}(h:a=b)(f:c=d):Af (Cm #[I a,O Ai c])=Af (Cm #[I b,O Ai d]):=by rw[h,f]
theorem js (h:PInv w rb s st):Am prog 266 #[Al (V ⟨rb,0,S⟩)] w fun e w'=>e=Af (Cm #[I (Aa (qA s.data.toList st).1),O Ai st.tok.at_])/\PInv w' rb s (qA s.data.toList st).2/\w.grownBy w' (V rb):=by
 have u:=cbi 1 h.rd;have v:=cbi 2 h.rd;have x:=cbi 3 h.rd;have o:=zO h.rd;have p:=h.bd;have m:=h.len;have r:(Aa st.tok.raw).size=Z st.tok.raw:=Bz _;have a:Y (qA s.data.toList st=(if (qR s.data.toList st (st.tok.k == 3)).broken then [] else (st.tok.raw.drop 1).take (Z st.tok.raw-2),qR s.data.toList st (st.tok.k == 3))):=rfl;have g:Y ((qR s.data.toList st (st.tok.k == 3)).broken=false->2<=Z st.tok.raw):=fun hb=>by
  apply h.three
  apply Ng;intro q
  unfold qR at hb;rw[Aw (by intro c;exact q (by simpa using c.1))] at hb;simp at hb
 have n:=J h;go_in;go_wp2_with fail;refine(cZ (n.o.keep (Ac _ _ _)) (st.tok.k == 3)).mono ?_;rintro e t ⟨rfl,j,b⟩;have f:=ql b;have z:=cbi 1 f;have B:=cbi 2 f;have i:Y (w.grownBy t (V rb)):=zD (Ac _ _ _) b;have l:=J j;have d:=g.o;generalize qR s.data.toList st (st.tok.k == 3)=st' at*
 cases hb:st'.broken
 ·rw[hb] at a
  simp only[Ct,Gj] at a;have y:=d hb;go_wp2
  go_region
  go_wp2
  go_ret2
  refine⟨?_,by rw[a.o];exact l.o.keep (zV _),zD i.o (zT (zV _) _)⟩;rw[a.o];exact zlV (by rw[kB,Be,show (Z st.tok.raw)-1-1=Z st.tok.raw-2 by omega]) rfl
 ·rw[hb] at a
  simp only[Gq] at a;go_wp2
  go_region
  go_wp2
  go_ret2
  exact⟨by rw[a.o];rfl,by rw[a.o];exact l.o.keep (zV _),zD i.o (zT (zV _) _)⟩
theorem zdQ:∀(l:A Ab) (n:Ad),l.all (fun c=>Ck c.toNat)=true->(n:Ak)*10 ^ Z l+10 ^ Z l<=1000000000000->∃m:Ad,Lib.decFrom n l=V m/\l.foldl Sk n=m/\(m:Ak)<(n+1)*10 ^ Z l:=by
 intro l
 induction l with
 |nil=>intro n _ _;exact⟨n,rfl,rfl,by simp;omega⟩
 |cons c l ih=>
  intro n h k;rw[Xi,Ez] at h;obtain⟨g,j⟩:=h;unfold Ck at g;simp only[Ez,Gd] at g;rw[Bb,Int.pow_succ] at k;have s:(1:Ak)<=10 ^ Z l:=Int.pow_pos (by decide);have a:Lib.digitVal c=V (c.toNat-48):=by unfold Lib.digitVal;rw[Az (by omega)]
  have o:(n:Ak)<=100000000000:=by
   have:(n:Ak)*10<=n*(10 ^ Z l*10):=by
    apply Int.mul_le_mul_of_nonneg_left <;> omega
   omega
  have f:Sk n c=((n*10+(c.toNat-48):Ad):Ak):=by
   unfold Sk;have i:wrap64 (10*(n:Ak))=10*n:=IntWalk.wrap64_in _ ⟨by omega,by omega⟩;rw[i,show((c.toNat:Ak)-48) % 256=c.toNat-48 by omega,IntWalk.wrap64_in _ ⟨by omega,by omega⟩]
   omega
  have d:((n*10+(c.toNat-48):Ad):Ak)+1<=(n+1)*10:=by omega
  have b:((n*10+(c.toNat-48):Ad):Ak)*10 ^ Z l+10 ^ Z l<=(n+1)*10*10 ^ Z l:=by
   have:(((n*10+(c.toNat-48):Ad):Ak)+1)*10 ^ Z l<=((n+1)*10)*10 ^ Z l:=Int.mul_le_mul_of_nonneg_right d (by omega);rw[Int.add_mul,Int.one_mul] at this;exact this
  have p:((n:Ak)+1)*10*10 ^ Z l=n*(10 ^ Z l*10)+10 ^ Z l*10:=by
   rw[Int.mul_assoc,Int.mul_comm 10,Int.add_mul,Int.one_mul]
  obtain⟨m,q,r,u⟩:=ih (n*10+(c.toNat-48)) j (by omega);refine⟨m,?_,?_,?_⟩
  ·rw[Lib.decFrom,a];exact q
  ·rw[Nu,f];exact r
  ·rw[Bb,Int.pow_succ]
   have t:(((n*10+(c.toNat-48):Ad):Ak)+1)*10 ^ Z l<=(n+1)*(10 ^ Z l*10):=by
    rw[Int.add_mul,Int.one_mul];have:((n:Ak)+1)*(10 ^ Z l*10)=(n+1)*10*10 ^ Z l:=by rw[Int.mul_assoc,Int.mul_comm 10]
    rw[this];exact b
   omega
theorem mM (l:A Ab)(o:Z l<=5)(d:1<=Z l)(b:l.all (fun c=>Ck c.toNat)=true):Lib.atoi l=V (Gk l)/\0<=Gk l/\Gk l<=99999:=by
 have p:(10:Ak) ^ Z l<=100000:=by
  have:∀n:Fin 6,(10:Ak) ^ n.val<=100000:=by decide
  exact this ⟨Z l,by omega⟩
 obtain⟨m,i,j,k⟩:=zdQ l 0 b (by simp;omega);have f:Gk l=m:=j;refine⟨?_,by omega,by simp at k;omega⟩
 match l,d with
 |c::r,_=>
  have a:Ck c.toNat=true:=by rw[Xi,Ez] at b;exact b.1
  unfold Ck at a;simp only[Ez,Gd] at a;have g:(c == 45)=false:=by rw[Ch];intro e;subst e;exact absurd a.1 (by decide)
  have h:(c == 43)=false:=by rw[Ch];intro e;subst e;exact absurd a.1 (by decide)
  unfold Lib.atoi;simp only;rw[g,h];simp only[Ct,Gj];unfold Lib.decNat;simp only[List.isEmpty_cons,Ct,Gj];rw[i,f];rfl
theorem pM (l:A Ab)(h:(qD l).2=2):(qD l).1=By Ck l/\1<=By Ck l/\By Ck l<=5:=by
 unfold qD at h ⊢
 grind[qD,xm,By,yD,Ck]
theorem gn (p:Ak->Ee)(l:A Ab):(l.take (By p l)).all (fun c=>p c.toNat)=true:=by
 induction l <;> grind[By]
theorem PInv.two (h:PInv w rb s st)(a:st.tok.k=2):Z st.tok.raw<=5/\Lib.atoi st.tok.raw=V (Gk st.tok.raw)/\0<=Gk st.tok.raw/\Gk st.tok.raw<=99999:=by grind[zg,pM,kl,qE,By,Ck,List.length_take,mM,gn,P.St,PInv,Gk]
def qp (l:A Ab)(st:P.St):Ak×P.St:=
 (if (qR l st (st.tok.k == 2)).broken then 0 else Gk st.tok.raw,qR l st (st.tok.k == 2))
theorem ww (w:Ag)(e:Cs)(s:As):w.grownBy (Na w e s) S:=
 ⟨rfl,rfl,rfl,by rw[Lib.bytesWorld_size];omega,fun k hk _=>Lib.bytesWorld_at_old w e s k hk⟩
theorem fh (h:PInv w rb s st):Am prog 327 #[Al (V ⟨rb,0,S⟩)] w fun e w'=>e=Af (Cm #[O Ai (qp s.data.toList st).1,O Ai st.tok.at_])/\PInv w' rb s (qp s.data.toList st).2/\w.grownBy w' (V rb)/\0<=(qp s.data.toList st).1/\(qp s.data.toList st).1<=99999:=by
 have F:=cbi 1 h.rd;have H:=cbi 2 h.rd;have N:=cbi 3 h.rd;have B:=zO h.rd;have a:Y (qp s.data.toList st=(if (qR s.data.toList st (st.tok.k == 2)).broken then 0 else Gk st.tok.raw,qR s.data.toList st (st.tok.k == 2))):=rfl;have n:Y ((qR s.data.toList st (st.tok.k == 2)).broken=false->Z st.tok.raw<=5/\Lib.atoi st.tok.raw=V (Gk st.tok.raw)/\0<=Gk st.tok.raw/\Gk st.tok.raw<=99999):=fun hb=>by
  apply h.two
  apply Ng;intro C
  unfold qR at hb;rw[Aw (by intro c;exact C (by simpa using c.1))] at hb;simp at hb
 have v:=J h;clear h;go_in;go_wp2_with fail;refine(cZ (v.o.keep (Ac _ _ _)) (st.tok.k == 2)).mono ?_;rintro e u ⟨rfl,p,d⟩;have g:=ql d;have q1:=cbi 1 g;have q2:=cbi 2 g;have y:=J g;have o:Y (w.grownBy u (V rb)):=zD (Ac _ _ _) d;have q:=J p;have i:=n.o;clear g d p;generalize qR s.data.toList st (st.tok.k == 2)=st' at*
 cases hb:st'.broken
 ·rw[hb] at a
  simp only[Ct,Gj] at a;obtain⟨Q,r,l,m⟩:=i hb;have x:Y (∀w,Am prog 236 #[I (Aa st.tok.raw)] w fun e w'=>e=Af (Cm #[O Ai (Gk st.tok.raw),.nilIface])/\∃t,w'=Na w 5 t):=fun w=>
   Tryz.strconv_Atoi (Aa st.tok.raw) _ (by rw[Bz];omega) (by rw[Be];exact r) w
  clear i hb r;go_wp2_with fail;refine(x.o _).mono ?_;rintro e E ⟨rfl,t,f⟩;have b:u.grownBy E S:=by rw[f];exact ww _ _ _
  have p1:=cbi 1 (zE y.o b);have z:Y _:=q.o.keep b;have j:Y _:=zD o.o (zT b _);clear f b;go_wp2
  go_region
  go_wp2
  go_ret2
  exact⟨by rw[a.o];rfl,by rw[a.o];exact z.o.keep (zV _),zD j.o (zT (zV _) _),by rw[a.o];exact l,by rw[a.o];exact m⟩
 ·rw[hb] at a
  simp only[Gq] at a;clear i hb;go_wp2
  go_region
  go_wp2
  go_ret2
  exact⟨by rw[a.o];rfl,by rw[a.o];exact q.o.keep (zV _),zD o.o (zT (zV _) _),by rw[a.o];exact Int.le_refl _,by rw[a.o];show(0:Ak)<=99999;decide⟩
def xH (st:P.St)(e a:Ak):P.St:=
 if st.err=0\/a<st.fat\/(a=st.fat/\e<st.err) then { st with err:=e,fat:=a } else st
def zh (st:P.St)(b:Ee)(e a:Ak):P.St:=if b then xH st e a else st
def zy (st:P.St)(have_ most:Ak):P.St:=zh st (decide (most<=have_)) 3 st.tok.at_
theorem PInv.noted {e a:Ak}(h:PInv w rb s st)
  (b:w'.heap[rb]?=V (Ae #[I s,O Ai st.tok.k,O Ai st.tok.at_,I (Aa st.tok.raw),Av st.broken,O Ai e,O Ai a] 204 (0,0))):PInv w' rb s { st with err:=e,fat:=a }:=
 ⟨b,h.len,h.tok⟩
abbrev Ff2 (a b):=Ae #[O Ai a,O Ai b] 202
theorem zi7 (h:PInv w rb s st)(b a:Ak):Am prog 324 #[Al (V ⟨rb,0,S⟩),O Ai b,O Ai a] w fun e w'=>e=Af (Cm #[])/\PInv w' rb s (xH st b a)/\w.grownBy w' (V rb):=by
 have t:=cbi 5 h.rd;have u:=cbi 6 h.rd;have v:=zm9 5 h.rd;have x:=zm9 6 h.rd;have l:=zO h.rd;have j:w.grownBy (w.alloc (Ff2 st.err st.fat)) S:=Ac _ _ _;have n:=J h;clear h;have d:Y (∀w',w'.heap[rb]?=V (Ae #[I s,O Ai st.tok.k,O Ai st.tok.at_,I (Aa st.tok.raw),Av st.broken,O Ai b,O Ai a] 204 (0,0))->PInv w' rb s { st with err:=b,fat:=a }):=fun w' hr=>n.o.noted hr
 by_cases g:st.err=0
 ·have i:Y (xH st b a={ st with err:=b,fat:=a }):=by show xH _ _ _=_;unfold xH;rw[Az (Ay g)]
  have q:(st.err == 0)=true:=by rw[g];rfl
  clear g;go_in;go_wp2
  go_end0
  have f:w.grownBy (((w.setCell ⟨rb,5,S⟩ (O Ai b)).setCell ⟨rb,6,S⟩ (O Ai a)).alloc (Ff2 st.err st.fat)) (V rb):=zD (zD (zF _ _ _ _) (zF _ _ _ _)) (Ac _ _ _);refine⟨rfl,?_,f⟩;rw[i.o]
  apply d.o
  rw[Vb _ _ _ (by simp[Bs];exact l)];exact zH (zH n.o.rd _) _
 ·have q:(st.err == 0)=false:=by rw[Ch];exact g
  by_cases o:a<st.fat
  ·have i:Y (xH st b a={ st with err:=b,fat:=a }):=by show xH _ _ _=_;unfold xH;rw[Az (Bf (Ay o))]
   clear g;go_in;go_wp2
   go_end0
   have f:w.grownBy (((w.setCell ⟨rb,5,S⟩ (O Ai b)).setCell ⟨rb,6,S⟩ (O Ai a)).alloc (Ff2 st.err st.fat)) (V rb):=zD (zD (zF _ _ _ _) (zF _ _ _ _)) (Ac _ _ _);refine⟨rfl,?_,f⟩;rw[i.o]
   apply d.o
   rw[Vb _ _ _ (by simp[Bs];exact l)];exact zH (zH n.o.rd _) _
  ·by_cases m:a=st.fat
   ·have r:(a == st.fat)=true:=by rw[m];simp
    by_cases p:b<st.err
    ·have i:Y (xH st b a={ st with err:=b,fat:=a }):=by show xH _ _ _=_;unfold xH;rw[Az (Bf (Bf ⟨m,p⟩))]
     clear g m;go_in;go_wp2
     go_end0
     have f:w.grownBy (((w.setCell ⟨rb,5,S⟩ (O Ai b)).setCell ⟨rb,6,S⟩ (O Ai a)).alloc (Ff2 st.err st.fat)) (V rb):=zD (zD (zF _ _ _ _) (zF _ _ _ _)) (Ac _ _ _);refine⟨rfl,?_,f⟩;rw[i.o]
     apply d.o
     rw[Vb _ _ _ (by simp[Bs];exact l)];exact zH (zH n.o.rd _) _
    ·have i:Y (xH st b a=st):=by show xH _ _ _=_;unfold xH;rw[Aw (by intro c;rcases c with c|c|c;exact g c;exact o c;exact p c.2)]
     clear g m;go_in;go_wp2
     go_end0
     exact⟨rfl,by rw[i.o];exact n.o.keep j,zT j _⟩
   ·have r:(a == st.fat)=false:=by rw[Ch];exact m
    have i:Y (xH st b a=st):=by show xH _ _ _=_;unfold xH;rw[Aw (by intro c;rcases c with c|c|c;exact g c;exact o c;exact m c.1)]
    clear g m;go_in;go_wp2
    go_end0
    exact⟨rfl,by rw[i.o];exact n.o.keep j,zT j _⟩
theorem yO (h:PInv w rb s st)(b:Ee)(d c:Ak):Am prog 265 #[Al (V ⟨rb,0,S⟩),Av b,O Ai d,O Ai c] w fun e w'=>e=Af (Cm #[])/\PInv w' rb s (zh st b d c)/\w.grownBy w' (V rb):=by
 have a:Y (zh st b d c=if b then xH st d c else st):=rfl;have g:=J h
 cases b
 ·simp only[Ct,Gj] at a
  go_in;go_wp2
  go_end0
  exact⟨rfl,by rw[a.o];exact g.o,zP _ _⟩
 ·simp only[Gq] at a
  go_in;go_wp2_with fail;refine(zi7 g.o _ _).mono ?_;rintro e j ⟨rfl,i,f⟩;go_wp2
  go_end0
  exact⟨rfl,by rw[a.o];exact i,f⟩
theorem vq (h:PInv w rb s st)(n m:Ak):Am prog 205 #[Al (V ⟨rb,0,S⟩),O Ai n,O Ai m] w fun e w'=>e=Af (Cm #[])/\PInv w' rb s (zy st n m)/\w.grownBy w' (V rb):=by
 have f:=cbi 2 h.rd;have c:Y (zy st n m=zh st (decide (m<=n)) 3 st.tok.at_):=rfl;have b:=J h;go_in;go_wp2_with fail;refine(yO b.o _ _ _).mono ?_;rintro e g ⟨rfl,d,a⟩;go_wp2
 go_end0
 exact⟨rfl,by rw[c.o];exact d,a⟩
theorem zJ {c:A Aj}(h:w.ownsRow B e a v n c)(d:w.grownBy w' (V b))(f:∀k,v.ownBlock=V k->k≠b):w'.ownsRow B e a v n c:=by
 refine h.kept d ?_
 grind
theorem zw {o:Obj}(h:w.heap[b]?=V o)(a:w.grownBy w' row)(c:∀k,row=V k->k≠b):w'.heap[b]?=V o:=by grind[zE]
theorem zK {b:A Aj}(h:w.ownsRow B e a v n b)(c:w.grownBy w' row)(d:∀k,v.ownBlock=V k->row≠V k):w'.ownsRow B e a v n b:=by
 refine h.kept c ?_
 cases hv:v.ownBlock <;> grind
def lenOf:Aj->Ad|X _ n _=>n|_=>0
theorem kM {b:A Aj}(h:w.ownsRow B e a v n b):lenOf v=n:=by
 rcases h.2 with ⟨rfl,rfl⟩|⟨g,cap,cur,rfl,_⟩ <;> rfl
variable {d:A Aj}
theorem zL (h:w.ownsRow B e b v n d):∃a c,v=X a n c:=by
 rcases h.2 with ⟨rfl,rfl⟩|⟨g,cap,cur,rfl,_⟩
 ·exact⟨_,_,rfl⟩
 grind
structure R.Mt where
 name:A Ab
 val:A Ab
 ask:Ee
def R.Mt.cells (m:R.Mt):A Aj:=[I (Aa m.name),I (Aa m.val),Av m.ask]
def xC (l:A R.Mt):A Aj:=(l.map R.Mt.cells).flatten
theorem k8 (l:A R.Mt)(m:R.Mt):xC (l++[m])=xC l++m.cells:=by simp[xC]
def qO:A Ab:=[104,101,97,100,101,114]
def jK (ts:A Bx)(st:Bw)(n:Ad):A Ab×Bw:=
 Mj ts (Cw (Cg ts st qO) (decide ((n:Ak)<3)) 3 (Bj ts st).at_) []
def wj (ts:A Bx)(s:Bw):A Ab×Bw:=if Fz s (Bj ts s) [61] then Ir ts s else ([],s)
def yK (ts : A Bx) (st : Bw) (acc : A R.Mt) : Bw × A R.Mt :=
  (Cg ts (wj ts (jK ts st (Z acc)).2).2 [59],
   acc ++ [⟨(jK ts st (Z acc)).1, (wj ts (jK ts st (Z acc)).2).1, Fz (jK ts st (Z acc)).2 (Bj ts (jK ts st (Z acc)).2) [61]⟩])
def R.mtLoop (ts:A Bx):Ad->Bw->A R.Mt->A R.Mt×Bw
 |0,st,acc=>(acc,st)
 |n+1,st,acc=>if Fz st (Bj ts st) qO then R.mtLoop ts n (yK ts st acc).1 (yK ts st acc).2 else (acc,st)
def R.matchesS (ts:A Bx)(st:Bw):A R.Mt×Bw:=R.mtLoop ts (Z ts+1) st []
theorem R.among_K (l:A (A Ab))(s:A Ab)(p:Ak)(st:Bw):(R.among l s p st).K=st.K:=by
 unfold R.among
 induction l generalizing st <;> grind[R.among,R.notS_K,Bw]
theorem fK (ts:A Bx)(st:Bw)(l:A (A Ab)):st.K<=(Mj ts st l).2.K:=by
 unfold Mj;simp only[R.among_K,R.notS_K];exact uN _ _ _
theorem R.needS_K (ts:A Bx)(st:Bw)(s:A Ab):st.K<=(Cg ts st s).K:=uN _ _ _
theorem R.kindS_K (ts:A Bx)(st:Bw)(k:Ak):st.K<=(Fg ts st k).K:=uN _ _ _
theorem mU (ts:A Bx)(st:Bw):st.K<=(Ir ts st).2.K:=by grind[Ir,R.notS_K,Nat.le_trans,R.needS_K,R.kindS_K,Bx,Bw]
theorem fM (ts:A Bx)(st:Bw)(a:A R.Mt)(h:Fz st (Bj ts st) qO=true):st.K+1<=(yK ts st a).1.K:=by
 have b:=R.needS_yes h;have c:(Cg ts st qO).K<=(jK ts st (Z a)).2.K:=by
  have:=fK ts (Cw (Cg ts st qO) (decide ((Z a:Ak)<3)) 3 (Bj ts st).at_) []
  rwa[R.notS_K] at this
 have g:(Cg ts st qO).K=st.K+1:=by rw[b]
 have d:(jK ts st (Z a)).2.K<=(wj ts (jK ts st (Z a)).2).2.K:=by
  unfold wj;split
  ·exact mU _ _
  ·exact Aq _
 have f:=R.needS_K ts (wj ts (jK ts st (Z a)).2).2 [59];unfold yK;simp only
 omega
theorem zcZ:(prog.info? 181).map (fun i=>(i.zero,i.size,i.bytes))=V (V (Fe #[I ⟨#[]⟩,I ⟨#[]⟩,Av false]),3,40):=by kernel_rfl
theorem oX {aa:Ad}{st:Bw}(h:RInv w rb g aa ts st H):Am prog 134 #[Al (V ⟨rb,0,S⟩)] w fun e w'=>∃v,e=Af v/\RInv w' rb g aa ts (R.matchesS ts st).2 H/\w.grownBy w' (V rb)/\w'.ownsRow w.heap.size 181 3 v (Z (R.matchesS ts st).1) (xC (R.matchesS ts st).1):=by
 obtain⟨i0,hi,a2,a3,a4⟩:=Ej zcZ;have HP:Y (R.matchesS ts st=R.mtLoop ts (Z ts+1) st []):=rfl;have H0:=J h;have bC:=zO h.rd;have bH:g<w.heap.size:=h.gl;generalize R.matchesS ts st=r at*;go_in;go_wp2_with fail
 go_loopw [3] (fun v wr=>∃(n:Ad) (a:A R.Mt) (s:Bw),Z a<=s.K/\s.K<Z ts/\(Z ts)<n+s.K/\Y (R.mtLoop ts n s a=r)/\Y (RInv wr rb g aa ts s H)/\Y (w.grownBy wr (V rb))/\Y (wr.ownsRow w.heap.size 181 3 v (Z a) (xC a))) (fun v _=>Z ts+1-lenOf v)
 case atStart=>exact⟨Z ts+1,[],st,Ax _,H0.o.lt,by omega,HP.o.symm,H0,zP _ _,Bk _ _ _ _⟩
 case round=>
  obtain⟨n,a,s,bE,bD,hn,HL,IR,HR,HO⟩:=hrel;have bI:=IR.o.ok.len;obtain⟨n,rfl⟩:∃m,n=m+1:=⟨n-1,by omega⟩;have z:=HL.o;rw[R.mtLoop] at z;have bz:Y (lenOf u3=Z a):=kM HO.o;obtain⟨ua,uc,rfl⟩:=zL HO.o;have bg:=J HO.o;go_wp2_with fail;refine(uC IR.o _).mono ?_;rintro e a5 ⟨rfl,ag⟩;have aT:=zT ag (V rb);have aK:Y _:=(IR.o).keep ag;have ar:Y (wr.grownBy a5 (V rb)):=aT;have am:=J (zD HR.o ar.o);have aB:Y _:=zQ bg.o ar.o;rw[show(⟨#[104,101,97,100,101,114]⟩:As).data.toList=qO from rfl]
  cases hgo:Fz s (Bj ts s) qO
  ·rw[Aw (by rw[hgo];simp)] at z
   go_wp2;go_ret;exact⟨_,rfl,by rw[<-z];exact aK.o,am.o,by rw[<-z];exact aB.o⟩
  ·rw[Az (by rw[hgo])] at z
   have bu:=fM ts s a hgo;have o:Y ((yK ts s a).1=Cg ts (wj ts (jK ts s (Z a)).2).2 [59]):=rfl;have t:Y ((yK ts s a).2=a++[⟨(jK ts s (Z a)).1,(wj ts (jK ts s (Z a)).2).1,Fz (jK ts s (Z a)).2 (Bj ts (jK ts s (Z a)).2) [61]⟩]):=rfl;have bv:Z (yK ts s a).2=Z a+1:=by rw[t.o];simp
   generalize yK ts s a=rr at*;obtain⟨s5,aQ⟩:=rr;simp only at z bu o t bv;have aA:=J z;go_wp2_with fail;refine(qv aK.o _).mono ?_;rintro e a6 ⟨rfl,aE,aU⟩;have bn:=J aE;have au:Y (a5.grownBy a6 (V rb)):=aU;have a8:=J (zD am.o au.o);have bh:Y _:=zQ aB.o au.o;go_wp2_with fail;refine(j4 (bn.o.keep (Ac _ _ _)) _ _ _ _ _).mono ?_;rintro e a7 ⟨rfl,aF,aV⟩;have af:=J aF;have av:Y (a6.grownBy a7 (V rb)):=(zD (Ac _ _ _) aV);have a9:=J (zD a8.o av.o);have bi:Y _:=zQ bh.o av.o;go_wp2_with fail;refine(bB af.o (X S 0 0) [] (Bk _ _ _ _) (by simp) (by simp[Ix])).mono ?_;rintro e b ⟨rfl,aG,aW⟩;have aL:=J aG;have bA:=zO aL.o.rd;have aw:Y (a7.grownBy b (V rb)):=aW;have an:=J (zD a9.o aw.o);have bV:=an.o.size;have aC:Y _:=zQ bi.o aw.o;have JA:Y (RInv b rb g aa ts (jK ts s (Z a)).2 H):=aL;have bf:Y (Z (jK ts s (Z a)).1<=3000):=by show _<=_;unfold jK Mj;simp only[kx];exact af.o.ok.strs _ _ af.o.cur
   rw[show(Mj ts (Cw (Cg ts s (⟨#[104,101,97,100,101,114]⟩:As).data.toList) (decide ((Z a:Ak)<3)) 3 ((Bj ts s).at_:Ak)) []).1=(jK ts s (Z a)).1 from rfl];generalize jK ts s (Z a)=pa at*;obtain⟨nm,s3⟩:=pa;simp only at JA o t bf ⊢;have aj:∀k,(X ua (Z a) uc:Aj).ownBlock=V k->k<b.heap.size:=fun k hk=>(An aC.o k hk).2
   go_wp2_with fail;refine(uC (JA.o.keep (Ac _ _ _)) _).mono ?_;rintro e c ⟨rfl,ah⟩;have ai:=zT ah (V rb);have aM:Y _:=((JA.o.keep (Ac _ _ _))).keep ah;have ax:Y (b.grownBy c (V rb)):=(zD (Ac _ _ _) ai);have ab:=J (zD an.o ax.o);have bW:=ab.o.size;have aD:Y _:=zQ aC.o ax.o;have j:Y (c.heap[b.heap.size]?=V (Ae #[I (Aa nm),I ⟨#[]⟩,Av false] 181)):=ql ai;rw[show(⟨#[61]⟩:As).data.toList=[61] from rfl];have HB:Y (wj ts s3=if Fz s3 (Bj ts s3) [61] then Ir ts s3 else ([],s3)):=rfl;generalize wj ts s3=pb at*;obtain⟨vl,s4⟩:=pb;simp only at o t;have bJ:=cbi 0 j.o;have bK:=cbi 1 j.o;have bL:=cbi 2 j.o;have bM:=zm9 2 j.o
   cases hask:Fz s3 (Bj ts s3) [61]
   ·rw[Aw (by rw[hask];simp)] at HB
    obtain⟨a1,a0⟩:=Nn HB.o;have HV:Y (vl=[]):=a1;have ae:Y (s4=s3):=a0;rw[ae.o] at o;have bo:Y _:=aM.o.other (zF c b.heap.size 2 (Av false)) (by omega) (by omega);have ao:=J (ze ab.o (zF c b.heap.size 2 (Av false)));have B:Y _:=zJ aD.o (zF c b.heap.size 2 (Av false)) (fun k hk=>by have:=aj k hk;omega);have bR:c.heap.size<=(Bs c ⟨b.heap.size,2,S⟩ (Av false)).heap.size:=by simp[Bs]
    have bT:(Bs c ⟨b.heap.size,2,S⟩ (Av false)).heap.size<=c.heap.size:=by simp[Bs]
    go_wp2_with (at_builtin;refine Ei _ rfl _ _ 122 rfl (w.heap.size) 181 i0 _ 3 40 underlying122 hi a2 a3 a4 rfl (by decide) _ _ _ rfl (Ao B.o _) ⟨c.heap.size,0,S⟩ 1 1 [I (Aa nm),I (⟨#[]⟩),Av false] rfl rfl ?c1 ?c2 (by decide) ?c3 ?c4 ?c5 (c.heap.size+1) (by simp[Bs]) ?_)
    case c1=>exact zZ _ #[_,_,_] _ _ (by simp[Bs])
    case c2=>intro u hu;simp at hu;rcases hu with rfl|rfl|rfl <;> rfl
    case c3=>unfold Bh;omega
    case c4=>omega
    case c5=>have:=ao.o.size;simp;omega
    intro aR N ak x f bF _;have bj:Y (ak.ownsRow w.heap.size 181 3 (X (V ⟨aR,0,S⟩) (Z a+1) N) (Z (a++[(⟨nm,vl,false⟩:R.Mt)])) (xC (a++[(⟨nm,vl,false⟩:R.Mt)]))):=by rw[k8,Ah];rw[HV.o];exact x
    have p:∀k,(X ua (Z a) uc:Aj).ownBlock=V k->w.heap.size<=k:=fun k hk=>(An B.o k hk).1
    have bp:Y _:=(bo.o.keep (Ac _ _ _)).away f (fun k hk=>by have h1:=p k hk;exact⟨by omega,by omega⟩);have ba:Y (w.grownBy ak (V rb)):=qI (zD ao.o (Ac _ _ _)) f (fun k hk=>by have h1:=p k hk;omega);go_wp2_with fail;refine(qv bp.o _).mono ?_;rintro e bw ⟨rfl,aH,aX⟩;have aN:=J aH;have ay:Y (ak.grownBy bw (V rb)):=aX;have bb:=J (zD ba.o ay.o);have C:Y _:=zQ bj.o ay.o;go_wp2
    go_roundw
    case rel=>exact⟨n,aQ,s5,by omega,by rw[o.o];exact aN.o.lt,by omega,aA,by rw[o.o];exact aN.o,bb,by rw[t.o,hask];exact C.o⟩
    case measure=>show _<_;rw[show lenOf (X (V ⟨aR,0,S⟩) (Z a+1) N)=Z a+1 from by rw[kM C.o];simp];simp[lenOf];omega
   ·rw[Az (by rw[hask])] at HB
    have HV:Y ((Ir ts s3).1=vl):=by rw[<-HB.o];rfl
    have ae:Y ((Ir ts s3).2=s4):=by rw[<-HB.o];rfl
    go_wp2_with fail;have bq:Y _:=aM.o.other (zF c b.heap.size 2 (Av true)) (by omega) (by omega);have bc:=J (ze ab.o (zF c b.heap.size 2 (Av true)));have bk:Y _:=zJ aD.o (zF c b.heap.size 2 (Av true)) (fun k hk=>by have:=aj k hk;omega);have bt:Y ((Bs c ⟨b.heap.size,2,S⟩ (Av true)).heap[b.heap.size]?=V (Ae #[I (Aa nm),I ⟨#[]⟩,Av true] 181)):=zH j.o (Av true);generalize(Bs c ⟨b.heap.size,2,S⟩ (Av true))=wLyy1 at*;refine(sW bq.o).mono ?_;rintro e d ⟨rfl,aI,aY⟩;have aO:=J aI;have ad:Y (wLyy1.grownBy d (V rb)):=aY;have ap:=J (zD bc.o ad.o);have bX:=ap.o.size;have bl:Y _:=zQ bk.o ad.o;have l:=J (zE bt.o ad.o);rw[ae.o] at aO;rw[HV.o];have bN:=cbi 0 l.o;have bO:=cbi 1 l.o;have bQ:=zm9 1 l.o;have bP:=cbi 2 l.o;have br:Y _:=aO.o.other (zF d b.heap.size 1 (I (Aa vl))) (by omega) (by omega);have aq:=J (ze ap.o (zF d b.heap.size 1 (I (Aa vl))));have E:Y _:=zJ bl.o (zF d b.heap.size 1 (I (Aa vl))) (fun k hk=>by have:=aj k hk;omega);have bS:d.heap.size<=(Bs d ⟨b.heap.size,1,S⟩ (I (Aa vl))).heap.size:=by simp[Bs]
    have bU:(Bs d ⟨b.heap.size,1,S⟩ (I (Aa vl))).heap.size<=d.heap.size:=by simp[Bs]
    go_wp2_with (at_builtin;refine Ei _ rfl _ _ 122 rfl (w.heap.size) 181 i0 _ 3 40 underlying122 hi a2 a3 a4 rfl (by decide) _ _ _ rfl (Ao E.o _) ⟨d.heap.size,0,S⟩ 1 1 [I (Aa nm),I (Aa vl),Av true] rfl rfl ?c1 ?c2 (by decide) ?c3 ?c4 ?c5 (d.heap.size+1) (by simp[Bs]) ?_)
    case c1=>exact zZ _ #[_,_,_] _ _ (by simp[Bs])
    case c2=>intro u hu;simp at hu;rcases hu with rfl|rfl|rfl <;> rfl
    case c3=>unfold Bh;omega
    case c4=>omega
    case c5=>have:=aq.o.size;simp;omega
    intro aS Q al y i bG _;have bm:Y (al.ownsRow w.heap.size 181 3 (X (V ⟨aS,0,S⟩) (Z a+1) Q) (Z (a++[(⟨nm,vl,true⟩:R.Mt)])) (xC (a++[(⟨nm,vl,true⟩:R.Mt)]))):=by rw[k8,Ah];exact y
    have q:∀k,(X ua (Z a) uc:Aj).ownBlock=V k->w.heap.size<=k:=fun k hk=>(An E.o k hk).1
    have bs:Y _:=(br.o.keep (Ac _ _ _)).away i (fun k hk=>by have h1:=q k hk;exact⟨by omega,by omega⟩);have bd:Y (w.grownBy al (V rb)):=qI (zD aq.o (Ac _ _ _)) i (fun k hk=>by have h1:=q k hk;omega);go_wp2_with fail;refine(qv bs.o _).mono ?_;rintro e bx ⟨rfl,aJ,aZ⟩;have aP:=J aJ;have az:Y (al.grownBy bx (V rb)):=aZ;have be:=J (zD bd.o az.o);have F:Y _:=zQ bm.o az.o;go_wp2
    go_roundw
    case rel=>exact⟨n,aQ,s5,by omega,by rw[o.o];exact aP.o.lt,by omega,aA,by rw[o.o];exact aP.o,be,by rw[t.o,hask];exact F.o⟩
    case measure=>show _<_;rw[show lenOf (X (V ⟨aS,0,S⟩) (Z a+1) Q)=Z a+1 from by rw[kM F.o];simp];simp[lenOf];omega
structure Kept2 (w w':Ag) (a b:Ad):Prop where
 os:w'.os=w.os
 tape:w'.tape=w.tape
 output:w'.output=w.output
 size:w.heap.size<=w'.heap.size
 block:∀k,k<w.heap.size->k≠a->k≠b->w'.heap[k]?=w.heap[k]?
theorem Kept2.refl (w:Ag)(a b:Ad):Kept2 w w a b:=by grind[Kept2]
theorem Kept2.step (h:Kept2 w x a b)(g:x.grownBy y (V a)):Kept2 w y a b:=
 ⟨g.os.trans h.os,g.tape.trans h.tape,g.output.trans h.output,Bi h.size g.size,fun k hk ha hb=>(g.block k (Eh hk h.size) (by simpa using ha)).trans (h.block k hk ha hb)⟩
theorem Kept2.own (h:Kept2 w x a b)(g:x.grownBy y (V b)):Kept2 w y a b:=
 ⟨g.os.trans h.os,g.tape.trans h.tape,g.output.trans h.output,Bi h.size g.size,fun k hk ha hb=>(g.block k (Eh hk h.size) (by simpa using hb)).trans (h.block k hk ha hb)⟩
theorem Kept2.far (h:Kept2 w x a b)(g:x.grownBy y row)(c:∀k,row=V k->w.heap.size<=k):Kept2 w y a b:=
 ⟨g.os.trans h.os,g.tape.trans h.tape,g.output.trans h.output,Bi h.size g.size,fun k hk ha hb=>(g.block k (Eh hk h.size) (fun e=>by have:=c k e.symm;omega)).trans (h.block k hk ha hb)⟩
theorem Kept2.keep {k:Ad}{o:Obj}(h:Kept2 w w' a b)(f:w.heap[k]?=V o)(c:k≠a)(d:k≠b):w'.heap[k]?=V o:=by grind[Kept2]
theorem qT (h:w.ownsRow B e a v n d):∀k,v.ownBlock=V k->∃c,w.heap[k]?=V (Ae c e (0,0)):=by
 intro k b;rcases h.2 with ⟨rfl,_⟩|⟨g,cap,cur,rfl,_,hg,_⟩
 ·simp[Ix] at b
 ·simp[Ix] at b;subst b;exact⟨cur,hg⟩
theorem qB {d:Ad}{b:Cs}{s i:Ad}{c:Aj}{j a:A Aj}(h:w.ownsRow B e s v n j)(l:w.ownsRow d b i c g a)(f:e≠b:=by decide):∀k,c.ownBlock=V k->v.ownBlock≠V k:=by grind[qT,Option.some.injEq]
theorem zI {a:Array Aj}{t:Cs}{f:Ad×Ad}{s:Ad}(h:w.heap[b]?=V (Ae a t f))(g:w.ownsRow B e s v n d)(c:t≠e:=by decide):∀k,v.ownBlock=V k->k≠b:=by grind[qT,Option.some.injEq]
theorem iV {d b:Aj}{H c:Ad}(f:∀k,d.ownBlock=V k->b.ownBlock≠V k)(g:d.ownBlock=V a\/a=H)(i:∀k,b.ownBlock=V k->k<H):∀k,(X (V ⟨a,0,S⟩) n c).ownBlock=V k->b.ownBlock≠V k:=by
 intro k h j;simp[Ix] at h
 grind
theorem rP {b d:Aj}{H c:Ad}(f:∀k,b.ownBlock=V k->d.ownBlock≠V k)(g:d.ownBlock=V a\/a=H)(i:∀k,b.ownBlock=V k->k<H):∀k,b.ownBlock=V k->(X (V ⟨a,0,S⟩) n c).ownBlock≠V k:=by
 intro k j h;simp[Ix] at h
 grind
theorem zo {s:Ad}{b:A Aj}(h:w.ownsRow B e s v n b)(c:a<=B):w.ownsRow a e s v n b:=by
 refine⟨h.1,?_⟩;rcases h.2 with h2|⟨g,cap,cur,rfl,h3,r⟩
 ·exact Ay h2
 ·exact Bf ⟨g,cap,cur,rfl,by omega,r⟩
def zi (l:A (A Ab×A Ab)):A Aj:=(l.map fun t=>[I (Aa t.1),I (Aa t.2)]).flatten
theorem yW (l:A (A Ab×A Ab))(t:A Ab×A Ab):zi (l++[t])=zi l++[I (Aa t.1),I (Aa t.2)]:=by simp[zi]
theorem xl (l:A (A Ab))(t:A Ab):zY (l++[t])=zY l++[I (Aa t)]:=by simp[zY]
def xX:A Ab:=[115,101,116]
def qy:A Ab:=[100,114,111,112]
def uO (ts:A Bx)(st:Bw)(n:Ad)(am:A (A Ab)):A Ab×Bw:=
 Mj ts (Cw (Cg ts st xX) (decide ((n:Ak)<3)) 3 (Bj ts st).at_) am
def yL (ts:A Bx)(st:Bw)(acc:A (A Ab×A Ab)):Bw×A (A Ab×A Ab):=
 (Cg ts (Ir ts (uO ts st (Z acc) (acc.map Bq)).2).2 [59],acc++[((uO ts st (Z acc) (acc.map Bq)).1,(Ir ts (uO ts st (Z acc) (acc.map Bq)).2).1)])
def R.stLoop (ts:A Bx):Ad->Bw->A (A Ab×A Ab)->A (A Ab×A Ab)×Bw
 |0,st,acc=>(acc,st)
 |n+1,st,acc=>if Fz st (Bj ts st) xX then R.stLoop ts n (yL ts st acc).1 (yL ts st acc).2 else (acc,st)
def fI (ts:A Bx)(st:Bw)(n:Ad)(am:A (A Ab)):A Ab×Bw:=
 Mj ts (Cw (Cg ts st qy) (decide ((n:Ak)<3)) 3 (Bj ts st).at_) am
def yJ (ts:A Bx)(st:Bw)(sets acc:A (A Ab)):Bw×A (A Ab):=
 (Cg ts (fI ts st (Z acc) (sets++acc)).2 [59],acc++[(fI ts st (Z acc) (sets++acc)).1])
def R.dpLoop (ts:A Bx)(sets:A (A Ab)):Ad->Bw->A (A Ab)->A (A Ab)×Bw
 |0,st,acc=>(acc,st)
 |n+1,st,acc=>if Fz st (Bj ts st) qy then R.dpLoop ts sets n (yJ ts st sets acc).1 (yJ ts st sets acc).2 else (acc,st)
def R.editsS (ts : A Bx) (st : Bw) : (A (A Ab × A Ab) × A (A Ab)) × Bw :=
  (((R.stLoop ts (Z ts + 1) st []).1, (R.dpLoop ts ((R.stLoop ts (Z ts + 1) st []).1.map Bq) (Z ts + 1) (R.stLoop ts (Z ts + 1) st []).2 []).1),
   (R.dpLoop ts ((R.stLoop ts (Z ts + 1) st []).1.map Bq) (Z ts + 1) (R.stLoop ts (Z ts + 1) st []).2 []).2)
theorem fN (ts:A Bx)(st:Bw)(a:A (A Ab×A Ab))(h:Fz st (Bj ts st) xX=true):st.K+1<=(yL ts st a).1.K:=by grind[R.needS_yes,Cg,xX,uO,fK,Cw,Bj,R.notS_K,mU,R.needS_K,Ir,yL,Bx,Bw,Fz]
theorem fJ (ts:A Bx)(st:Bw)(a b:A (A Ab))(h:Fz st (Bj ts st) qy=true):st.K+1<=(yJ ts st a b).1.K:=by grind[R.needS_yes,Cg,qy,fI,fK,Cw,Bj,R.notS_K,R.needS_K,yJ,Bx,Bw,Fz]
theorem aM:(prog.info? 185).map (fun i=>(i.zero,i.size,i.bytes))=V (V (Fe #[I ⟨#[]⟩,I ⟨#[]⟩]),2,32):=by kernel_rfl
theorem fW:(prog.info? 9).map (fun i=>(i.zero,i.size,i.bytes))=V (V (I ⟨#[]⟩),1,16):=by kernel_rfl
theorem sU {ad:Ad}{st:Bw}(h:RInv w rb g ad ts st H)(o:Ad)(c0 c1 c2 c3 c4 c5:Aj)
  (hu:w.heap[o]?=V (Ae #[c0,c1,c2,c3,c4,c5,X S 0 0,X S 0 0] 126 (0,0))) (dB:o≠rb) (dC:o≠g):Am prog 136 #[Al (V ⟨rb,0,S⟩),Al (V ⟨o,0,S⟩)] w fun e w'=>e=Af (Cm #[])/\RInv w' rb g ad ts (R.editsS ts st).2 H/\Kept2 w w' rb o/\
   ∃vS vD,w'.heap[o]?=V (Ae #[c0,c1,c2,c3,c4,c5,vS,vD] 126 (0,0))/\w'.ownsRow w.heap.size 185 2 vS (Z (R.editsS ts st).1.1) (zi (R.editsS ts st).1.1)/\w'.ownsRow w.heap.size 9 1 vD (Z (R.editsS ts st).1.2) (zY (R.editsS ts st).1.2):=by
 obtain⟨i0,hi,dk,dl,dm⟩:=Ej aM;obtain⟨i1,hj,aU,aV,aW⟩:=Ej fW;have HP:Y (R.editsS ts st=(((R.stLoop ts (Z ts+1) st []).1,(R.dpLoop ts ((R.stLoop ts (Z ts+1) st []).1.map Bq) (Z ts+1) (R.stLoop ts (Z ts+1) st []).2 []).1),
 (R.dpLoop ts ((R.stLoop ts (Z ts+1) st []).1.map Bq) (Z ts+1) (R.stLoop ts (Z ts+1) st []).2 []).2)):=rfl
 have H0:=J h;have cI:=J hu;have ds:=zO h.rd;have dy:g<w.heap.size:=h.gl;generalize R.editsS ts st=r at*;generalize hq:R.stLoop ts (Z ts+1) st []=q at*;have HQ:=J hq;go_in;go_wp2_with fail
 go_loopw [4,5] (fun v iv wr=>∃(n:Ad) (a:A (A Ab×A Ab)) (s:Bw) (vS:Aj),iv=O Ai (Z a)/\(Z a)<=s.K/\s.K<Z ts/\(Z ts)<n+s.K/\Y (R.stLoop ts n s a=q)/\Y (RInv wr rb g ad ts s H)/\Y (Kept2 w wr rb o)/\Y (wr.heap[o]?=V (Ae #[c0,c1,c2,c3,c4,c5,vS,X S 0 0] 126 (0,0)))/\
   Y (wr.ownsRow w.heap.size 185 2 vS (Z a) (zi a))/\Y (wr.ownsRow w.heap.size 9 1 v (Z a) (zY (a.map Bq)))) (fun _ iv _=>Z ts+1-(intOf iv).toNat)
 case atStart=>exact⟨Z ts+1,[],st,_,rfl,Ax _,H0.o.lt,by omega,HQ.o,H0,Kept2.refl _ _ _,cI,Bk _ _ _ _,Bk _ _ _ _⟩
 case round=>
  obtain⟨n,a,s,vS,rfl,du,dh,hn,HL,IR,HR,HU,HS,HA⟩:=hrel;have dA:=IR.o.ok.len;obtain⟨n,rfl⟩:∃m,n=m+1:=⟨n-1,by omega⟩;have x:=HL.o;rw[R.stLoop] at x;have cX:=J HU.o;have cC:=J HS.o;have cg:=J HA.o;go_wp2_with fail;refine(uC IR.o _).mono ?_;rintro e a0 ⟨rfl,aS⟩;have bL:=zT aS (V rb);have bx:Y _:=(IR.o).keep aS;have aq:Y (wr.grownBy a0 (V rb)):=bL;have a3:Y (Kept2 w a0 rb o):=HR.o.step aq.o;have bD:=J (zE cX.o aq.o);have bj:Y _:=zQ cC.o aq.o;have a8:Y _:=zQ cg.o aq.o;rw[show(⟨#[115,101,116]⟩:As).data.toList=xX from rfl]
  cases hgo:Fz s (Bj ts s) xX
  ·rw[Aw (by rw[hgo];simp)] at x
   have ct:Y (q.1=a):=by rw[<-x];rfl
   have cu:Y (q.2=s):=by rw[<-x];rfl
   rw[ct.o,cu.o] at HP;generalize bV:R.dpLoop ts (a.map Bq) (Z ts+1) s []=q2 at*;have cv:=J bV;go_wp2_with fail
   go_loopw [4,9] (fun v iv wx=>∃(n2:Ad) (b:A (A Ab)) (s2:Bw) (vD:Aj),iv=O Ai (Z b)/\(Z b)<=s2.K/\s2.K<Z ts/\(Z ts)<n2+s2.K/\Y (R.dpLoop ts (a.map Bq) n2 s2 b=q2)/\Y (RInv wx rb g ad ts s2 H)/\Y (Kept2 w wx rb o)/\Y (wx.heap[o]?=V (Ae #[c0,c1,c2,c3,c4,c5,vS,vD] 126 (0,0)))/\
     Y (wx.ownsRow w.heap.size 185 2 vS (Z a) (zi a))/\Y (wx.ownsRow w.heap.size 9 1 v (Z a+Z b) (zY (a.map Bq++b)))/\Y (wx.ownsRow w.heap.size 9 1 vD (Z b) (zY b))/\Y (∀k,v.ownBlock=V k->vD.ownBlock≠V k)) (fun _ iv _=>Z ts+1-(intOf iv).toNat)
   case atStart=>exact⟨Z ts+1,[],s,_,rfl,Ax _,dh,by omega,cv.o,bx,a3,bD,bj,by rw[Cv];exact a8.o,Bk _ _ _ _,by intro k _ f;simp[Ix] at f⟩
   case round=>
    obtain⟨n2,b,s2,vD,rfl,dv,dt,dz,be,IX,HX,cJ,cw,ca,cl,a4⟩:=hrel;obtain⟨n2,rfl⟩:∃m,n2=m+1:=⟨n2-1,by omega⟩;have x:=be.o;rw[R.dpLoop] at x;have dd:=J cJ.o;have cx:=J cw.o;have cb:=J ca.o;have cm:=J cl.o;go_wp2_with fail;refine(uC IX.o _).mono ?_;rintro e aY ⟨rfl,aR⟩;have bG:=zT aR (V rb);have bv:Y _:=(IX.o).keep aR;have ah:Y (wr.grownBy aY (V rb)):=bG;have a2:Y (Kept2 w aY rb o):=HX.o.step ah.o;have bA:=J (zE dd.o ah.o);have bf:Y _:=zQ cx.o ah.o;have cc:Y _:=zQ cb.o ah.o;have bb:Y _:=zQ cm.o ah.o;rw[show(⟨#[100,114,111,112]⟩:As).data.toList=qy from rfl]
    cases hgo2:Fz s2 (Bj ts s2) qy
    ·rw[Aw (by rw[hgo2];simp)] at x
     have cr:Y (q2.1=b):=by rw[<-x];rfl
     have cs:Y (q2.2=s2):=by rw[<-x];rfl
     go_wp2
     go_end0
     exact⟨rfl,by rw[HP.o,cs.o];exact bv.o,a2.o,_,_,bA.o,by rw[HP.o];exact bf.o,by rw[HP.o,cr.o];exact bb.o⟩
    ·rw[Az (by rw[hgo2])] at x
     have aT:=fJ ts s2 (a.map Bq) b hgo2;have aa:Y ((yJ ts s2 (a.map Bq) b).1=Cg ts (fI ts s2 (Z b) (a.map Bq++b)).2 [59]):=rfl;have y:Y ((yJ ts s2 (a.map Bq) b).2=b++[(fI ts s2 (Z b) (a.map Bq++b)).1]):=rfl;have ab:Z (yJ ts s2 (a.map Bq) b).2=Z b+1:=by rw[y.o];simp
     generalize yJ ts s2 (a.map Bq) b=rr at*;obtain⟨s5,aQ⟩:=rr;simp only at x aT aa y ab;have aL:=J x;go_wp2_with fail;refine(qv bv.o _).mono ?_;rintro e aZ ⟨rfl,bm,bH⟩;have cK:=J bm;have ai:Y (aY.grownBy aZ (V rb)):=bH;have bY:Y (Kept2 w aZ rb o):=a2.o.step ai.o;have cY:=J (zE bA.o ai.o);have cy:Y _:=zQ bf.o ai.o;have cd:Y _:=zQ cc.o ai.o;have cn:Y _:=zQ bb.o ai.o;go_wp2_with fail;refine(j4 (cK.o.keep (Ac _ _ _)) _ _ _ _ _).mono ?_;rintro e aC ⟨rfl,bn,bI⟩;have cL:=J bn;have aj:Y (aZ.grownBy aC (V rb)):=(zD (Ac _ _ _) bI);have bZ:Y (Kept2 w aC rb o):=bY.o.step aj.o;have cZ:=J (zE cY.o aj.o);have cz:Y _:=zQ cy.o aj.o;have aJ:Y _:=zQ cd.o aj.o;have co:Y _:=zQ cn.o aj.o;have aX:Z (a.map Bq++b)<=10000:=by rw[Ah,Bv];omega
     have aN:Y (StrRow aC u4 (a.map Bq++b)):=by show Ib _ _ _ _ _ _ _;rw[Ah,Bv];exact zo aJ.o (Ax _)
     go_wp2_with fail;refine(bB cL.o u4 (a.map Bq++b) aN.o aX (fun c=>by have:=(An aJ.o rb c).1;omega)).mono ?_;rintro e ae ⟨rfl,bo,bJ⟩;have cM:=J bo;have ak:Y (aC.grownBy ae (V rb)):=bJ;have aF:Y (Kept2 w ae rb o):=bZ.o.step ak.o;have dJ:=aF.o.size;have bC:=J (zE cZ.o ak.o);have bg:Y _:=zQ cz.o ak.o;have N:Y _:=zQ aJ.o ak.o;have bc:Y _:=zQ co.o ak.o;have JA:Y (RInv ae rb g ad ts (fI ts s2 (Z b) (a.map Bq++b)).2 H):=cM;rw[show(Mj ts (Cw (Cg ts s2 (⟨#[100,114,111,112]⟩:As).data.toList) (decide ((Z b:Ak)<3)) 3 ((Bj ts s2).at_:Ak)) (a.map Bq++b)).1=(fI ts s2 (Z b) (a.map Bq++b)).1 from rfl];generalize fI ts s2 (Z b) (a.map Bq++b)=pa at*;obtain⟨nm,s3⟩:=pa;simp only at JA aa y ⊢;go_wp2_with (at_builtin;refine Ei _ rfl _ _ 22 rfl (w.heap.size) 9 i1 _ 1 16 underlying22 hj aU aV aW rfl (by decide) _ _ _ rfl (Ao N.o _) ⟨ae.heap.size,0,S⟩ 1 1 [I (Aa nm)] rfl rfl ?c1 ?c2 (by decide) ?c3 ?c4 ?c5 (ae.heap.size+1) (by simp) ?_)
     case c1=>exact zZ _ #[_] _ _
     case c2=>intro u hu;simp at hu;subst hu;rfl
     case c3=>unfold Bh;omega
     case c4=>omega
     case c5=>have:=aF.o.size;simp;omega
     intro df bF af bR j di _;have a6:Y (af.ownsRow w.heap.size 9 1 (X (V ⟨df,0,S⟩) (Z a+Z b+1) bF) (Z a+Z b+1) (zY (a.map Bq++b++[nm]))):=by rw[xl];exact bR
     have ay:∀k,(u4:Aj).ownBlock=V k->w.heap.size<=k:=fun k f=>(An N.o k f).1
     have dn:∀k,(u4:Aj).ownBlock=V k->k<ae.heap.size:=fun k f=>(An N.o k f).2
     have cN:Y _:=(JA.o.keep (Ac _ _ _)).away j (fun k f=>by have h1:=ay k f;exact⟨by omega,by omega⟩);have aG:Y (Kept2 w af rb o):=(aF.o.step (Ac _ _ _)).far j (fun k f=>by have h1:=ay k f;omega);have dK:=aG.o.size;have aO:Y (af.heap[o]?=V (Ae #[c0,c1,c2,c3,c4,c5,vS,vD] 126 (0,0))):=zw (zE bC.o (Ac _ _ S)) j (fun k f=>by have h1:=ay k f;have h2:=dn k f;exact zI bC.o N.o (by decide) k f);have bh:Y _:=zK (Ao bg.o _) j (qB N.o bg.o);have am:Y _:=zK (Ao bc.o _) j (fun k f c=>a4.o k c f);have a5:Y _:=iV (n:=Z a+Z b+1) (c:=bF) a4.o di (fun k f=>by have:=(An bc.o k f).2;omega);have dE:=cbi 7 aO.o;go_wp2_with (at_builtin;refine Ei _ rfl _ _ 22 rfl (w.heap.size) 9 i1 _ 1 16 underlying22 hj aU aV aW rfl (by decide) _ _ _ rfl (Ao am.o _) ⟨af.heap.size,0,S⟩ 1 1 [I (Aa nm)] rfl rfl ?c1 ?c2 (by decide) ?c3 ?c4 ?c5 (af.heap.size+1) (by simp) ?_)
     case c1=>exact zZ _ #[_] _ _
     case c2=>intro u hu;simp at hu;subst hu;rfl
     case c3=>unfold Bh;omega
     case c4=>omega
     case c5=>have:=aG.o.size;simp;omega
     intro z d B bS l dj _;have bd:Y (B.ownsRow w.heap.size 9 1 (X (V ⟨z,0,S⟩) (Z b+1) d) (Z (b++[nm])) (zY (b++[nm]))):=by rw[xl,Ah];exact bS
     have az:∀k,(vD:Aj).ownBlock=V k->w.heap.size<=k:=fun k f=>(An am.o k f).1
     have dp:∀k,(vD:Aj).ownBlock=V k->k<af.heap.size:=fun k f=>(An am.o k f).2
     have cO:Y _:=(cN.o.keep (Ac _ _ _)).away l (fun k f=>by have h1:=az k f;exact⟨by omega,by omega⟩);have b0:Y (Kept2 w B rb o):=(aG.o.step (Ac _ _ _)).far l (fun k f=>by have h1:=az k f;omega);have C:Y (B.heap[o]?=V (Ae #[c0,c1,c2,c3,c4,c5,vS,vD] 126 (0,0))):=zw (zE aO.o (Ac _ _ S)) l (fun k f=>by have h1:=az k f;have h2:=dp k f;exact zI aO.o am.o (by decide) k f);have bi:Y _:=zK (Ao bh.o _) l (qB am.o bh.o);have a7:Y _:=zK (Ao a6.o _) l (a5.o);have b9:Y _:=rP (n:=Z b+1) (c:=d) a5.o dj (fun k f=>by have:=(An a6.o k f).2;omega);have dG:=cbi 7 C.o;have dI:=zm9 7 C.o;go_wp2_with fail;have cP:Y _:=cO.o.other (zF B o 7 (X (V ⟨z,0,S⟩) (Z b+1) d)) (by omega) (by omega);have b1:Y (Kept2 w (Bs B ⟨o,7,S⟩ (X (V ⟨z,0,S⟩) (Z b+1) d)) rb o):=b0.o.own (zF B o 7 (X (V ⟨z,0,S⟩) (Z b+1) d));have c6:Y ((Bs B ⟨o,7,S⟩ (X (V ⟨z,0,S⟩) (Z b+1) d)).heap[o]?=V (Ae #[c0,c1,c2,c3,c4,c5,vS,X (V ⟨z,0,S⟩) (Z b+1) d] 126 (0,0))):=zH C.o (X (V ⟨z,0,S⟩) (Z b+1) d);have cA:Y _:=zJ bi.o (zF B o 7 (X (V ⟨z,0,S⟩) (Z b+1) d)) (zI C.o bi.o);have ce:Y _:=zJ a7.o (zF B o 7 (X (V ⟨z,0,S⟩) (Z b+1) d)) (zI C.o a7.o);have cp:Y _:=zJ bd.o (zF B o 7 (X (V ⟨z,0,S⟩) (Z b+1) d)) (zI C.o bd.o);generalize(Bs B ⟨o,7,S⟩ (X (V ⟨z,0,S⟩) (Z b+1) d))=wDy6 at*;refine(qv cP.o _).mono ?_;rintro e bW ⟨rfl,bp,bK⟩;have bw:=J bp;have al:Y (wDy6.grownBy bW (V rb)):=bK;have b2:Y (Kept2 w bW rb o):=b1.o.step al.o;have c7:=J (zE c6.o al.o);have cB:Y _:=zQ cA.o al.o;have cf:Y _:=zQ ce.o al.o;have cq:Y _:=zQ cp.o al.o;go_wp2
     go_roundw
     case rel=>exact⟨n2,aQ,s5,_,by rw[ab];go_num,by omega,by rw[aa.o];exact bw.o.lt,by omega,aL,by rw[aa.o];exact bw.o,b2,c7,cB,by rw[ab,y.o,<-Bl];exact cf.o,by rw[y.o];exact cq.o,b9⟩
     case measure=>simp[intOf];omega
  ·rw[Az (by rw[hgo])] at x
   have aT:=fN ts s a hgo;have aa:Y ((yL ts s a).1=Cg ts (Ir ts (uO ts s (Z a) (a.map Bq)).2).2 [59]):=rfl;have y:Y ((yL ts s a).2=a++[((uO ts s (Z a) (a.map Bq)).1,(Ir ts (uO ts s (Z a) (a.map Bq)).2).1)]):=rfl;have ab:Z (yL ts s a).2=Z a+1:=by rw[y.o];simp
   generalize yL ts s a=rr at*;obtain⟨s5,aQ⟩:=rr;simp only at x aT aa y ab;have aL:=J x;go_wp2_with fail;refine(qv bx.o _).mono ?_;rintro e a1 ⟨rfl,bq,bM⟩;have cQ:=J bq;have ar:Y (a0.grownBy a1 (V rb)):=bM;have b3:Y (Kept2 w a1 rb o):=a3.o.step ar.o;have c8:=J (zE bD.o ar.o);have cD:Y _:=zQ bj.o ar.o;have ch:Y _:=zQ a8.o ar.o;go_wp2_with fail;refine(j4 (cQ.o.keep (Ac _ _ _)) _ _ _ _ _).mono ?_;rintro e aD ⟨rfl,br,bN⟩;have cR:=J br;have au:Y (a1.grownBy aD (V rb)):=(zD (Ac _ _ _) bN);have b4:Y (Kept2 w aD rb o):=b3.o.step au.o;have c9:=J (zE c8.o au.o);have cE:Y _:=zQ cD.o au.o;have aK:Y _:=zQ ch.o au.o;have aX:Z (a.map Bq)<=10000:=by rw[Bv];omega
   have aN:Y (StrRow aD u4 (a.map Bq)):=by show Ib _ _ _ _ _ _ _;rw[Bv];exact zo aK.o (Ax _)
   go_wp2_with fail;refine(bB cR.o u4 (a.map Bq) aN.o aX (fun c=>by have:=(An aK.o rb c).1;omega)).mono ?_;rintro e ag ⟨rfl,bs,bO⟩;have cS:=J bs;have av:Y (aD.grownBy ag (V rb)):=bO;have aH:Y (Kept2 w ag rb o):=b4.o.step av.o;have dL:=aH.o.size;have bE:=J (zE c9.o av.o);have bk:Y _:=zQ cE.o av.o;have Q:Y _:=zQ aK.o av.o;have JA:Y (RInv ag rb g ad ts (uO ts s (Z a) (a.map Bq)).2 H):=cS;rw[show(Mj ts (Cw (Cg ts s (⟨#[115,101,116]⟩:As).data.toList) (decide ((Z a:Ak)<3)) 3 ((Bj ts s).at_:Ak)) (a.map Bq)).1=(uO ts s (Z a) (a.map Bq)).1 from rfl];generalize uO ts s (Z a) (a.map Bq)=pa at*;obtain⟨nm,s3⟩:=pa;simp only at JA aa y ⊢;go_wp2_with (at_builtin;refine Ei _ rfl _ _ 22 rfl (w.heap.size) 9 i1 _ 1 16 underlying22 hj aU aV aW rfl (by decide) _ _ _ rfl (Ao Q.o _) ⟨ag.heap.size,0,S⟩ 1 1 [I (Aa nm)] rfl rfl ?c1 ?c2 (by decide) ?c3 ?c4 ?c5 (ag.heap.size+1) (by simp) ?_)
   case c1=>exact zZ _ #[_] _ _
   case c2=>intro u hu;simp at hu;subst hu;rfl
   case c3=>unfold Bh;omega
   case c4=>omega
   case c5=>have:=aH.o.size;simp;omega
   intro dg de aE bT p dw _;have ci:Y (aE.ownsRow w.heap.size 9 1 (X (V ⟨dg,0,S⟩) (Z a+1) de) (Z a+1) (zY (a.map Bq++[nm]))):=by rw[xl];exact bT
   have aA:∀k,(u4:Aj).ownBlock=V k->w.heap.size<=k:=fun k f=>(An Q.o k f).1
   have dq:∀k,(u4:Aj).ownBlock=V k->k<ag.heap.size:=fun k f=>(An Q.o k f).2
   have cT:Y _:=(JA.o.keep (Ac _ _ _)).away p (fun k f=>by have h1:=aA k f;exact⟨by omega,by omega⟩);have b5:Y (Kept2 w aE rb o):=(aH.o.step (Ac _ _ _)).far p (fun k f=>by have h1:=aA k f;omega);have da:Y (aE.heap[o]?=V (Ae #[c0,c1,c2,c3,c4,c5,vS,X S 0 0] 126 (0,0))):=zw (zE bE.o (Ac _ _ S)) p (fun k f=>by have h1:=aA k f;have h2:=dq k f;exact zI bE.o Q.o (by decide) k f);have cF:Y _:=zK (Ao bk.o _) p (qB Q.o bk.o);go_wp2_with fail;refine(sW cT.o).mono ?_;rintro e ap ⟨rfl,bt,bP⟩;have cU:=J bt;have aw:Y (aE.grownBy ap (V rb)):=bP;have aI:Y (Kept2 w ap rb o):=b5.o.step aw.o;have dM:=aI.o.size;have aP:=J (zE da.o aw.o);have an:Y _:=zQ cF.o aw.o;have a9:Y _:=zQ ci.o aw.o;have dD:=cbi 6 aP.o;go_wp2_with (at_builtin;refine Ei _ rfl _ _ 124 rfl (w.heap.size) 185 i0 _ 2 32 underlying124 hi dk dl dm rfl (by decide) _ _ _ rfl (Ao an.o _) ⟨ap.heap.size,0,S⟩ 1 1 [I (Aa nm),I (Aa (Ir ts s3).1)] rfl rfl ?c1 ?c2 (by decide) ?c3 ?c4 ?c5 (ap.heap.size+1) (by simp) ?_)
   case c1=>exact zZ _ #[_,_] _ _
   case c2=>intro u hu;simp at hu;rcases hu with rfl|rfl <;> rfl
   case c3=>unfold Bh;omega
   case c4=>omega
   case c5=>have:=aI.o.size;simp;omega
   intro E i F bU t dx _;have bl:Y (F.ownsRow w.heap.size 185 2 (X (V ⟨E,0,S⟩) (Z a+1) i) (Z (a++[(nm,(Ir ts s3).1)])) (zi (a++[(nm,(Ir ts s3).1)]))):=by rw[yW,Ah];exact bU
   have aB:∀k,(vS:Aj).ownBlock=V k->w.heap.size<=k:=fun k f=>(An an.o k f).1
   have dr:∀k,(vS:Aj).ownBlock=V k->k<ap.heap.size:=fun k f=>(An an.o k f).2
   have cV:Y _:=(cU.o.keep (Ac _ _ _)).away t (fun k f=>by have h1:=aB k f;exact⟨by omega,by omega⟩);have b6:Y (Kept2 w F rb o):=(aI.o.step (Ac _ _ _)).far t (fun k f=>by have h1:=aB k f;omega);have ao:Y (F.heap[o]?=V (Ae #[c0,c1,c2,c3,c4,c5,vS,X S 0 0] 126 (0,0))):=zw (zE aP.o (Ac _ _ S)) t (fun k f=>by have h1:=aB k f;have h2:=dr k f;exact zI aP.o an.o (by decide) k f);have ba:Y _:=zK (Ao a9.o _) t (qB an.o a9.o);have dF:=cbi 6 ao.o;have dH:=zm9 6 ao.o;go_wp2_with fail;have cW:Y _:=cV.o.other (zF F o 6 (X (V ⟨E,0,S⟩) (Z a+1) i)) (by omega) (by omega);have b7:Y (Kept2 w (Bs F ⟨o,6,S⟩ (X (V ⟨E,0,S⟩) (Z a+1) i)) rb o):=b6.o.own (zF F o 6 (X (V ⟨E,0,S⟩) (Z a+1) i));have db:Y ((Bs F ⟨o,6,S⟩ (X (V ⟨E,0,S⟩) (Z a+1) i)).heap[o]?=V (Ae #[c0,c1,c2,c3,c4,c5,X (V ⟨E,0,S⟩) (Z a+1) i,X S 0 0] 126 (0,0))):=zH ao.o (X (V ⟨E,0,S⟩) (Z a+1) i);have cG:Y _:=zJ bl.o (zF F o 6 (X (V ⟨E,0,S⟩) (Z a+1) i)) (zI ao.o bl.o);have cj:Y _:=zJ ba.o (zF F o 6 (X (V ⟨E,0,S⟩) (Z a+1) i)) (zI ao.o ba.o);generalize(Bs F ⟨o,6,S⟩ (X (V ⟨E,0,S⟩) (Z a+1) i))=wLy7 at*;refine(qv cW.o _).mono ?_;rintro e bX ⟨rfl,bu,bQ⟩;have bz:=J bu;have ax:Y (wLy7.grownBy bX (V rb)):=bQ;have b8:Y (Kept2 w bX rb o):=b7.o.step ax.o;have dc:=J (zE db.o ax.o);have cH:Y _:=zQ cG.o ax.o;have ck:Y _:=zQ cj.o ax.o;go_wp2
   go_roundw
   case rel=>exact⟨n,aQ,s5,_,by rw[ab];go_num,by omega,by rw[aa.o];exact bz.o.lt,by omega,aL,by rw[aa.o];exact bz.o,b8,dc,by rw[y.o];exact cH.o,by rw[ab,y.o,Ef];exact ck.o⟩
   case measure=>simp[intOf];omega
inductive All2 {α β:Type} (R:α->β->Prop):A α->A β->Prop
 |nil:All2 R [] []
 |cons {a:α} {b:β} {l:A α} {m:A β} (h:R a b) (t:All2 R l m):All2 R (a::l) (b::m)
structure R.Rl where
 number:Ak
 path:A Ab
 ms:A R.Mt
 tg:A (A Ab×Ak)
 change:Ee
 to:A Ab
 sets:A (A Ab×A Ab)
 drops:A (A Ab)
def RuleVal (w:Ag)(cells:A Aj)(r:R.Rl):Prop:=
 ∃vM vT vS vD,cells=[O Ai r.number,I (Aa r.path),vM,vT,Av r.change,I (Aa r.to),vS,vD]/\
  w.ownsRow 0 181 3 vM (Z r.ms) (xC r.ms)/\w.ownsRow 0 183 2 vT (Z r.tg) (zx r.tg)/\
  w.ownsRow 0 185 2 vS (Z r.sets) (zi r.sets)/\w.ownsRow 0 9 1 vD (Z r.drops) (zY r.drops)
def RulesRow (w:Ag)(v:Aj)(rs:A R.Rl):Prop:=
 ∃css:A (A Aj),w.ownsRow 0 126 8 v (Z rs) css.flatten/\All2 (RuleVal w) css rs
def qz:A Ab:=[114,117,108,101]
def jB:A Ab:=[112,97,116,104]
def qK:A Ab:=[114,101,112,108,97,99,101]
def R.amongN (l:A Ak)(n:Ak)(p:Ak)(st:Bw):Bw:=l.foldl (fun st a=>Cw st (!decide (a=n)) 5 p) st
def R.rlA2 (ts:A Bx)(s2:Bw)(others:A Ak):Ak×Bw:=
 (Gk (Bj ts s2).s,R.amongN others (Gk (Bj ts s2).s) (Bj ts s2).at_ (Cw (Fg ts s2 49) (decide (Gk (Bj ts s2).s<=65535)) 4 (Bj ts s2).at_))
def R.rlA (ts:A Bx)(st:Bw)(i:Ad)(others:A Ak):Ak×Bw:=
 R.rlA2 ts (Cw (Cg ts st qz) (decide ((i:Ak)<6)) 3 (Bj ts st).at_) others
def R.rlB (ts:A Bx)(st:Bw):A Ab×Bw:=
 ((Hu ts (Cg ts (Cg ts st [123]) jB)).1,Cg ts (Hu ts (Cg ts (Cg ts st [123]) jB)).2 [59])
def R.rlC (ts:A Bx)(st:Bw):A Ab×Bw:=
 if Fz st (Bj ts st) qK then ((Hu ts (Cg ts st qK)).1,Cg ts (Hu ts (Cg ts st qK)).2 [59]) else ([],st)
def R.ruleE (ts:A Bx)(n:Ak)(p:A Ab)(m:A R.Mt)(t:A (A Ab×Ak)×Bw):R.Rl×Bw:=
 (⟨n,p,m,t.1,Fz t.2 (Bj ts t.2) qK,(R.rlC ts t.2).1,(R.editsS ts (R.rlC ts t.2).2).1.1,(R.editsS ts (R.rlC ts t.2).2).1.2⟩,Cg ts (R.editsS ts (R.rlC ts t.2).2).2 [125])
def R.ruleT (ts:A Bx)(a:Ak×Bw):R.Rl×Bw:=
 R.ruleE ts a.1 (R.rlB ts a.2).1 (R.matchesS ts (R.rlB ts a.2).2).1 (R.targetsS ts (R.matchesS ts (R.rlB ts a.2).2).2)
def R.ruleS (ts:A Bx)(st:Bw)(i:Ad)(others:A Ak):R.Rl×Bw:=R.ruleT ts (R.rlA ts st i others)
theorem uu {a:A (A Aj)}{b:A R.Rl}(h:All2 (RuleVal w) a b)(k:Ad)(d:k<Z b):a.flatten[k*8]?=V (O Ai b[k].number):=by
 induction h generalizing k with
 |nil=>simp at d
 | @cons c r cs b hc _ ih=>
  obtain⟨g,j,i,f,rfl,_⟩:=hc
  match k with
  |0=>rfl
  |k+1=>
   rw[Ci,Cl (by simp;omega)];have:=ih k (by simpa using d);simp only[Bb,Bu];rw[show(k+1)*8-(0+1+1+1+1+1+1+1+1)=k*8 by omega];exact this
theorem vp {s:Ad}{c:A Aj}(h:w.ownsRow B e s v n c)(f:Kept2 w w' a b)(d:∀k,v.ownBlock=V k->k≠a/\k≠b):w'.ownsRow B e s v n c:=by
 refine⟨h.1,?_⟩;rcases h.2 with h2|⟨g,cap,cur,rfl,h3,h4,r⟩
 ·exact Ay h2
 ·have:=d g rfl
  exact Bf ⟨g,cap,cur,rfl,h3,by rw[f.block g (zO h4) this.1 this.2];exact h4,r⟩
theorem wy {a b c:Ag}{x y:Ad}(h:a.grownBy b (V x))(d:Kept2 b c x y)(f:a.heap.size<=y:=by omega):a.grownBy c (V x):=
 ⟨d.os.trans h.os,d.tape.trans h.tape,d.output.trans h.output,Bi h.size d.size,fun i hi hr=>(d.block i (Eh hi h.size) (by simpa using hr) (by omega)).trans (h.block i hi hr)⟩
theorem ziP {st:Bw}(h:RInv w rb g B ts st H)(i:Ad)(v:Aj)(u:A R.Rl)(hv:RulesRow w v u)(dK:Z u<=10000)(dg:v.ownBlock≠V rb):Am prog 90 #[Al (V ⟨rb,0,S⟩),O Ai i,v] w fun e w'=>∃cs,e=Af (Fe cs.toArray)/\RInv w' rb g B ts (R.ruleS ts st i (u.map R.Rl.number)).2 H/\w.grownBy w' (V rb)/\RuleVal w' cs (R.ruleS ts st i (u.map R.Rl.number)).1:=by
 have HP:Y (R.ruleS ts st i (u.map R.Rl.number)=R.ruleT ts (R.rlA ts st i (u.map R.Rl.number))):=rfl;have H0:=J h;have dF:=zO h.rd;have dH:g<w.heap.size:=h.gl;obtain⟨dG,aV,bC⟩:=hv;have bh:=J aV;have ch:=J bC;obtain⟨ua,uc,rfl⟩:=zL aV;generalize R.ruleS ts st i (u.map R.Rl.number)=r at*;go_in;have C0:Y (w.grownBy w (V rb)):=zP _ _;go_wp2_with fail;refine(qv (H0.o.keep (Ac _ _ _)) _).mono ?_;rintro e w1 ⟨rfl,I1,aR⟩;have J1:=J I1;have G1:Y (w.grownBy w1 (V rb)):=(zD (Ac _ _ _) aR);have C1:=J (zD C0.o G1.o);have cH:Y (w1.heap[w.heap.size]?=V (Ae #[O Ai 0,I ⟨#[]⟩,X S 0 0,X S 0 0,Av false,I ⟨#[]⟩,X S 0 0,X S 0 0] 126)):=ql aR;go_wp2_with fail;refine(j4 (J1.o.keep (Ac _ _ _)) _ _ _ _ _).mono ?_;rintro e w2 ⟨rfl,I2,bD⟩;have J2:=J I2;have G2:Y (w1.grownBy w2 (V rb)):=(zD (Ac _ _ _) bD);have C2:=J (zD C1.o G2.o);have cI:=J (zE cH.o G2.o);have JW:Y (RInv w2 rb g B ts (Cw (Cg ts st qz) (decide ((i:Ak)<6)) 3 (Bj ts st).at_) H):=J2;have a6:Y (R.rlA ts st i (u.map R.Rl.number)=R.rlA2 ts (Cw (Cg ts st qz) (decide ((i:Ak)<6)) 3 (Bj ts st).at_) (u.map R.Rl.number)):=rfl;generalize Cw (Cg ts st qz) (decide ((i:Ak)<6)) 3 (Bj ts st).at_=st2 at*;have cr:Y ((Aa (Bj ts st2).s).size<=3000):=JW.o.curlen;go_wp2_with fail;refine(kO JW.o 49).mono ?_;rintro e w3 ⟨rfl,I3,bE⟩;have J3:=J I3;have b3:=zO J3.o.rd;have G3:Y (w2.grownBy w3 (V rb)):=bE;have C3:=J (zD C2.o G3.o);have z3:=C3.o.size;have cJ:=J (zE cI.o G3.o);go_wp2_with fail;refine(ut _ _ _ _ cr.o).mono ?_;rintro e c ⟨rfl,aP⟩;have aw:=zT aP (V rb);have J4:Y _:=((J3.o.keep (Ac _ _ _))).keep aP;have b4:=zO J4.o.rd;have s4:w3.heap.size+1<=c.heap.size:=by have h:=aw.size;simpa using h
 have G4:Y (w3.grownBy c (V rb)):=(zD (Ac _ _ _) aw);have C4:=J (zD C3.o G4.o);have z4:=C4.o.size;have cK:=J (zE cJ.o G4.o);have an:Y (c.heap[w3.heap.size]?=V (Ae #[O .u8 (Bj ts st2).k,I (Aa (Bj ts st2).s),O Ai (Bj ts st2).at_] 115)):=ql aw;rw[Be];have a8:Y (R.rlA2 ts st2 (u.map R.Rl.number)=(Gk (Bj ts st2).s,R.amongN (u.map R.Rl.number) (Gk (Bj ts st2).s) (Bj ts st2).at_ (Cw (Fg ts st2 49) (decide (Gk (Bj ts st2).s<=65535)) 4 (Bj ts st2).at_))):=rfl;generalize dJ:Gk (Bj ts st2).s=num at*;have dS:=zO an.o;have dP:=cbi 0 an.o;have dQ:=cbi 1 an.o;have dR:=cbi 2 an.o;go_wp2_with fail;refine(j4 (J4.o.keep (Ac _ _ _)) _ _ _ _ _).mono ?_;rintro e w5 ⟨rfl,I5,aS⟩;have J5:=J I5;have G5:Y (c.grownBy w5 (V rb)):=(zD (Ac _ _ _) aS);have C5:=J (zD C4.o G5.o);have cL:=J (zE cK.o G5.o);have c3:=J (zE an.o G5.o);have bB:Y (w5.heap[c.heap.size]?=V (Ae #[O Ai num,I ⟨#[]⟩,X S 0 0,X S 0 0,Av false,I ⟨#[]⟩,X S 0 0,X S 0 0] 126)):=ql aS;generalize dL:Cw (Fg ts st2 49) (decide (num<=65535)) 4 (Bj ts st2).at_=st4 at*;generalize Bj ts st2=t at*;go_wp2_with fail
 go_loopw [10] (fun iv wr=>∃k:Ad,k<=Z u/\iv=O Ai k/\Y (RInv wr rb g B ts (R.amongN ((u.map R.Rl.number).take k) num t.at_ st4) H)/\Y (w5.grownBy wr (V rb))) (fun iv _=>Z u-(intOf iv).toNat)
 ·exact⟨0,Ax _,rfl,J5,zP _ _⟩
 ·
  obtain⟨k,p,rfl,IR,HR⟩:=hrel
  by_cases bS:k<Z u
  ·obtain⟨gv,gc,bR,_,_⟩:=World.ownsRow.form bh.o (by omega)
   simp only[Value.slice.injEq] at bR;obtain⟨rfl,_,rfl⟩:=bR;have c1:wr.cell? ⟨gv,k*8,S⟩=V (O Ai u[k].number):=by
    have hc:=World.ownsRow.cellAt bh.o (k*8) (by omega);rw[uu ch.o k bS] at hc;exact(zD C5.o HR.o).cell hc (by simpa[Ix] using dg)
   have n8:=zE c3.o HR.o;have nU:=zE bB.o HR.o;have dM:=cbi 0 n8;have dN:=cbi 1 n8;have dO:=cbi 2 n8;have dT:=cbi 0 nU;have HA:Y (R.amongN ((u.map R.Rl.number).take (k+1)) num t.at_ st4=Cw (R.amongN ((u.map R.Rl.number).take k) num t.at_ st4) (!decide (u[k].number=num)) 5 t.at_):=by
    show R.amongN _ _ _ _=_;unfold R.amongN;rw[Co (by rw[Bv];exact bS),Mb,Ha];rfl
   generalize u[k].number=nk at*;generalize R.amongN ((u.map R.Rl.number).take k) num t.at_ st4=stk at*;go_wp2
   go_region_with (go_at_call 85;refine(j4 (IR.o.keep (zV wr)) _ _ _ _ _).mono ?_;rintro e wN ⟨rfl,IN,bF⟩)
   all_goals
    have JN:Y (RInv wN rb g B ts (R.amongN ((u.map R.Rl.number).take (k+1)) num t.at_ st4) H):=by rw[HA.o];exact IN
    have GN:Y (w5.grownBy wN (V rb)):=zD HR.o (zD (zT (zV wr) _) bF);go_wp2;exact⟨⟨k+1,by omega,by go_num,JN,GN⟩,by simp[intOf];omega⟩
  ·rw[Cc (by rw[Bv];omega)] at IR
   have dI:k=Z u:=by omega
   have c2:Y _:=zE cL.o HR.o;have df:Y _:=zE bB.o HR.o;have CX:=J (zD C5.o HR.o);have a7:Y (R.rlA ts st i (u.map R.Rl.number)=(num,R.amongN (u.map R.Rl.number) num t.at_ st4)):=a6.o.trans a8.o;have bg:Y (r=R.ruleT ts (num,R.amongN (u.map R.Rl.number) num t.at_ st4)):=by rw[<-a7.o];exact HP.o
   generalize R.amongN (u.map R.Rl.number) num t.at_ st4=sA at*;go_wp2_with fail;refine(qv IR.o _).mono ?_;rintro e bU ⟨rfl,bn,bG⟩;have cv:=J bn;have ax:Y (wr.grownBy bU (V rb)):=bG;have b0:=J (zD CX.o ax.o);have cO:=J (zE c2.o ax.o);have c4:=J (zE df.o ax.o);go_wp2_with fail;refine(qv cv.o _).mono ?_;rintro e bV ⟨rfl,bo,bH⟩;have cw:=J bo;have ay:Y (bU.grownBy bV (V rb)):=bH;have b1:=J (zD b0.o ay.o);have cP:=J (zE cO.o ay.o);have c5:=J (zE c4.o ay.o);go_wp2_with fail;refine(oZ cw.o).mono ?_;rintro e ad ⟨rfl,bp,bI⟩;have cx:=J bp;have az:Y (bV.grownBy ad (V rb)):=bI;have b2:=J (zD b1.o az.o);have cQ:=J (zE cP.o az.o);have aM:=J (zE c5.o az.o);have HB:Y (R.rlB ts sA=((Hu ts (Cg ts (Cg ts sA [123]) jB)).1,Cg ts (Hu ts (Cg ts (Cg ts sA [123]) jB)).2 [59])):=rfl;have JB:Y (RInv ad rb g B ts (Hu ts (Cg ts (Cg ts sA [123]) jB)).2 H):=cx;rw[show(Hu ts (Cg ts (Cg ts sA (⟨#[123]⟩:As).data.toList) (⟨#[112,97,116,104]⟩:As).data.toList)).1=(Hu ts (Cg ts (Cg ts sA [123]) jB)).1 from rfl];generalize Hu ts (Cg ts (Cg ts sA [123]) jB)=pp at*;obtain⟨j,sP⟩:=pp;simp only at JB HB ⊢;have dU:=cbi 1 aM.o;have dV:=zm9 1 aM.o;go_wp2_with fail;have cy:Y _:=JB.o.other (zF ad c.heap.size 1 (I (Aa j))) (by omega) (by omega);have b5:=J (ze b2.o (zF ad c.heap.size 1 (I (Aa j))));have cR:=J (zE cQ.o (zF ad c.heap.size 1 (I (Aa j))));have c6:Y ((Bs ad ⟨c.heap.size,1,S⟩ (I (Aa j))).heap[c.heap.size]?=V (Ae #[O Ai num,I (Aa j),X S 0 0,X S 0 0,Av false,I ⟨#[]⟩,X S 0 0,X S 0 0] 126)):=zH aM.o (I (Aa j));generalize(Bs ad ⟨c.heap.size,1,S⟩ (I (Aa j)))=wX4 at*;refine(qv cy.o _).mono ?_;rintro e a4 ⟨rfl,bq,bJ⟩;have bw:=J bq;have dA:=zO bw.o.rd;have aA:Y (wX4.grownBy a4 (V rb)):=bJ;have b6:=J (zD b5.o aA.o);have cS:=J (zE cR.o aA.o);have c7:=J (zE c6.o aA.o);have JC:Y (RInv a4 rb g B ts (R.rlB ts sA).2 H):=by rw[HB.o];exact bw.o
   have a9:Y ((R.rlB ts sA).1=j):=by rw[HB.o];rfl
   have ae:Y (r=R.ruleE ts num (R.rlB ts sA).1 (R.matchesS ts (R.rlB ts sA).2).1 (R.targetsS ts (R.matchesS ts (R.rlB ts sA).2).2)):=bg.o;generalize R.rlB ts sA=pb at*;obtain⟨p0,sB⟩:=pb;simp only at JC a9 ae;rw[a9.o] at ae;go_wp2_with fail;refine(oX JC.o).mono ?_;rintro e wM ⟨vM,rfl,IM,ar,aT⟩;obtain⟨F,N,rfl⟩:=zL aT;have JM:=J IM;have bM:=zO JM.o.rd;have sM:a4.heap.size<=wM.heap.size:=ar.size;have CM:=J (zD b6.o ar);have cM:=J (zE cS.o ar);have av:=J (zE c7.o ar);have aD:=J aT;generalize R.matchesS ts sB=pm at*;obtain⟨C,sM⟩:=pm;simp only at JM aD ae;have dW:=cbi 2 av.o;have dX:=zm9 2 av.o;go_wp2_with fail;have cz:Y _:=JM.o.other (zF wM c.heap.size 2 (X F (Z C) N)) (by omega) (by omega);have b7:=J (ze CM.o (zF wM c.heap.size 2 (X F (Z C) N)));have cT:=J (zE cM.o (zF wM c.heap.size 2 (X F (Z C) N)));have c8:Y ((Bs wM ⟨c.heap.size,2,S⟩ (X F (Z C) N)).heap[c.heap.size]?=V (Ae #[O Ai num,I (Aa j),X F (Z C) N,X S 0 0,Av false,I ⟨#[]⟩,X S 0 0,X S 0 0] 126)):=zH av.o (X F (Z C) N);have ci:Y _:=zJ aD.o (zF wM c.heap.size 2 (X F (Z C) N)) (zI av.o aD.o);have d4:wM.heap.size<=(Bs wM ⟨c.heap.size,2,S⟩ (X F (Z C) N)).heap.size:=by simp[Bs]
   have d6:(Bs wM ⟨c.heap.size,2,S⟩ (X F (Z C) N)).heap.size<=wM.heap.size:=by simp[Bs]
   generalize(Bs wM ⟨c.heap.size,2,S⟩ (X F (Z C) N))=wX6 at*;have dB:rb<wX6.heap.size:=by omega
   refine(oe cz.o).mono ?_;rintro e wT ⟨vT,rfl,IT,af,aU⟩;obtain⟨ta,tc,rfl⟩:=zL aU;have JT:=J IT;have E:wX6.heap.size<=wT.heap.size:=af.size;have CT:=J (zD b7.o af);have cN:=J (zE cT.o af);have ap:=J (zE c8.o af);have bc:Y _:=zQ ci.o af;have aH:=J aU;generalize R.targetsS ts sM=pt at*;obtain⟨tl,E⟩:=pt;simp only at JT aH ae;have x:Y (r=(⟨num,j,C,tl,Fz E (Bj ts E) qK,(R.rlC ts E).1,(R.editsS ts (R.rlC ts E).2).1.1,(R.editsS ts (R.rlC ts E).2).1.2⟩,Cg ts (R.editsS ts (R.rlC ts E).2).2 [125])):=ae.o;have dY:=cbi 3 ap.o;have dZ:=zm9 3 ap.o;go_wp2_with fail;have bx:Y _:=JT.o.other (zF wT c.heap.size 3 (X ta (Z tl) tc)) (by omega) (by omega);have b8:=J (ze CT.o (zF wT c.heap.size 3 (X ta (Z tl) tc)));have cU:=J (zE cN.o (zF wT c.heap.size 3 (X ta (Z tl) tc)));have c9:Y ((Bs wT ⟨c.heap.size,3,S⟩ (X ta (Z tl) tc)).heap[c.heap.size]?=V (Ae #[O Ai num,I (Aa j),X F (Z C) N,X ta (Z tl) tc,Av false,I ⟨#[]⟩,X S 0 0,X S 0 0] 126)):=zH ap.o (X ta (Z tl) tc);have cj:Y _:=zJ bc.o (zF wT c.heap.size 3 (X ta (Z tl) tc)) (zI ap.o bc.o);have cn:Y _:=zJ aH.o (zF wT c.heap.size 3 (X ta (Z tl) tc)) (zI ap.o aH.o);generalize(Bs wT ⟨c.heap.size,3,S⟩ (X ta (Z tl) tc))=wX7 at*;refine(uC bx.o _).mono ?_;rintro e l ⟨rfl,aQ⟩;have bK:=zT aQ (V rb);have aK:Y _:=(bx.o).keep aQ;have dC:=zO aK.o.rd;have ag:Y (wX7.grownBy l (V rb)):=bK;have a5:=J (zD b8.o ag.o);have bA:=J (zE cU.o ag.o);have m:=J (zE c9.o ag.o);have Q:Y _:=zQ cj.o ag.o;have au:Y _:=zQ cn.o ag.o;rw[show(⟨#[114,101,112,108,97,99,101]⟩:As).data.toList=qK from rfl];have HC:Y (R.rlC ts E=if Fz E (Bj ts E) qK then ((Hu ts (Cg ts E qK)).1,Cg ts (Hu ts (Cg ts E qK)).2 [59]) else ([],E)):=rfl;generalize R.rlC ts E=pc at*;obtain⟨bT,sC⟩:=pc;simp only at x;have d0:=cbi 4 m.o;have d1:=zm9 4 m.o
   cases hch:Fz E (Bj ts E) qK
   ·rw[Aw (by rw[hch];simp)] at HC
    have aB:Y (bT=[]):=(Nn HC.o).1;have ak:Y (sC=E):=(Nn HC.o).2;rw[hch,aB.o] at x;rw[ak.o] at x;go_wp2_with fail;have cA:Y _:=aK.o.other (zF l c.heap.size 4 (Av false)) (by omega) (by omega);have b9:=J (ze a5.o (zF l c.heap.size 4 (Av false)));have cV:=J (zE bA.o (zF l c.heap.size 4 (Av false)));have aN:Y ((Bs l ⟨c.heap.size,4,S⟩ (Av false)).heap[c.heap.size]?=V (Ae #[O Ai num,I (Aa j),X F (Z C) N,X ta (Z tl) tc,Av false,I ⟨#[]⟩,X S 0 0,X S 0 0] 126)):=zH m.o (Av false);have aE:Y _:=zJ Q.o (zF l c.heap.size 4 (Av false)) (zI m.o Q.o);have aI:Y _:=zJ au.o (zF l c.heap.size 4 (Av false)) (zI m.o au.o);have d5:l.heap.size<=(Bs l ⟨c.heap.size,4,S⟩ (Av false)).heap.size:=by simp[Bs]
    have d7:(Bs l ⟨c.heap.size,4,S⟩ (Av false)).heap.size<=l.heap.size:=by simp[Bs]
    generalize(Bs l ⟨c.heap.size,4,S⟩ (Av false))=wXn1 at*;have dD:rb<wXn1.heap.size:=by omega
    have ct:Y (RInv wXn1 rb g B ts sC H):=by rw[ak.o];exact cA.o
    rw[<-ak.o] at x;refine(sU ct.o c.heap.size _ _ _ _ _ _ aN.o (by omega) (by omega)).mono ?_;rintro e wE ⟨rfl,IE,KE,vS,vD,aq,ab,aa⟩;obtain⟨sa,sc,rfl⟩:=zL ab;obtain⟨da,dc,rfl⟩:=zL aa;have JE:=J IE;have CE:Y (w.grownBy wE (V rb)):=wy b9.o KE;have aL:Y _:=KE.keep cV.o (by omega) (by omega);have aC:Y _:=vp aE.o KE (fun k p=>⟨by have:=(An aE.o k p).1;omega,zI aN.o aE.o (by decide) k p⟩);have aG:Y _:=vp aI.o KE (fun k p=>⟨by have:=(An aI.o k p).1;omega,zI aN.o aI.o (by decide) k p⟩);have ao:=J aq;have am:=J ab;have al:=J aa;generalize R.editsS ts sC=pe at*;obtain⟨⟨sl,dl⟩,dz⟩:=pe;simp only at JE am al ao x;go_wp2_with fail;refine(qv JE.o _).mono ?_;rintro e bW ⟨rfl,br,bL⟩;have cB:=J br;have y:Y (wE.grownBy bW (V rb)):=bL;have ca:=J (zD CE.o y.o);have a:=J (zE aL.o y.o);have d:=J (zE ao.o y.o);have bd:Y _:=zQ aC.o y.o;have bk:Y _:=zQ aG.o y.o;have bi:Y _:=zQ am.o y.o;have ba:Y _:=zQ al.o y.o;have dh:=cbi 0 d.o;have di:=cbi 1 d.o;have dj:=cbi 2 d.o;have dk:=cbi 3 d.o;have dm:=cbi 4 d.o;have dn:=cbi 5 d.o;have dp:=cbi 6 d.o;have dq:=cbi 7 d.o;have aW:=cbi 0 a.o;have dr:=zm9 0 a.o;have aX:=cbi 1 a.o;have ds:=zm9 1 a.o;have aY:=cbi 2 a.o;have dt:=zm9 2 a.o;have aZ:=cbi 3 a.o;have du:=zm9 3 a.o;have a0:=cbi 4 a.o;have dv:=zm9 4 a.o;have a1:=cbi 5 a.o;have dw:=zm9 5 a.o;have a2:=cbi 6 a.o;have dx:=zm9 6 a.o;have a3:=cbi 7 a.o;have dy:=zm9 7 a.o;go_wp2;have q:=zD (zD (zD (zD (zD (zD (zD (zF bW w.heap.size 0 (O Ai num)) (zF _ w.heap.size 1 (I (Aa j)))) (zF _ w.heap.size 2 (X F (Z C) N))) (zF _ w.heap.size 3 (X ta (Z tl) tc))) (zF _ w.heap.size 4 (Av false))) (zF _ w.heap.size 5 (I ⟨#[]⟩))) (zF _ w.heap.size 6 (X sa (Z sl) sc))) (zF _ w.heap.size 7 (X da (Z dl) dc));refine Et (v:=.agg #[O Ai num,I (Aa j),X F (Z C) N,X ta (Z tl) tc,Av false,I ⟨#[]⟩,X sa (Z sl) sc,X da (Z dl) dc]) (by simp[results,results90,go_sem,aW,aX,aY,aZ,a0,a1,a2,a3]) rfl ⟨[O Ai num,I (Aa j),X F (Z C) N,X ta (Z tl) tc,Av false,I ⟨#[]⟩,X sa (Z sl) sc,X da (Z dl) dc],rfl,?_,ze ca.o q (Aq _),?_⟩
    ·rw[x.o];exact cB.o.other q (by omega) (by omega)
    ·rw[x.o]
     refine⟨_,_,_,_,rfl,?_,?_,?_,?_⟩
     ·exact zJ (zo bd.o (Ax _)) q (fun k p=>zI a.o bd.o (by decide) k p)
     ·exact zJ (zo bk.o (Ax _)) q (fun k p=>zI a.o bk.o (by decide) k p)
     ·exact zJ (zo bi.o (Ax _)) q (fun k p=>zI a.o bi.o (by decide) k p)
     ·exact zJ (zo ba.o (Ax _)) q (fun k p=>zI a.o ba.o (by decide) k p)
   ·rw[Az (by rw[hch])] at HC
    rw[hch] at x;go_wp2_with fail;have cC:Y _:=aK.o.other (zF l c.heap.size 4 (Av true)) (by omega) (by omega);have cb:=J (ze a5.o (zF l c.heap.size 4 (Av true)));have cW:=J (zE bA.o (zF l c.heap.size 4 (Av true)));have db:Y ((Bs l ⟨c.heap.size,4,S⟩ (Av true)).heap[c.heap.size]?=V (Ae #[O Ai num,I (Aa j),X F (Z C) N,X ta (Z tl) tc,Av true,I ⟨#[]⟩,X S 0 0,X S 0 0] 126)):=zH m.o (Av true);have ck:Y _:=zJ Q.o (zF l c.heap.size 4 (Av true)) (zI m.o Q.o);have co:Y _:=zJ au.o (zF l c.heap.size 4 (Av true)) (zI m.o au.o);generalize(Bs l ⟨c.heap.size,4,S⟩ (Av true))=wXy1 at*;refine(qv cC.o _).mono ?_;rintro e bX ⟨rfl,bs,bN⟩;have cD:=J bs;have ah:Y (wXy1.grownBy bX (V rb)):=bN;have cc:=J (zD cb.o ah.o);have cX:=J (zE cW.o ah.o);have dd:=J (zE db.o ah.o);have cl:Y _:=zQ ck.o ah.o;have cp:Y _:=zQ co.o ah.o;go_wp2_with fail;refine(oZ cD.o).mono ?_;rintro e o ⟨rfl,bt,bO⟩;have cE:=J bt;have ai:Y (bX.grownBy o (V rb)):=bO;have cd:=J (zD cc.o ai.o);have cY:=J (zE cX.o ai.o);have n:=J (zE dd.o ai.o);have be:Y _:=zQ cl.o ai.o;have bl:Y _:=zQ cp.o ai.o;have JD:Y (RInv o rb g B ts (Hu ts (Cg ts E qK)).2 H):=cE;rw[show(Hu ts (Cg ts E (⟨#[114,101,112,108,97,99,101]⟩:As).data.toList)).1=(Hu ts (Cg ts E qK)).1 from rfl];generalize Hu ts (Cg ts E qK)=pq at*;obtain⟨tq,sQ⟩:=pq;simp only at JD HC ⊢;have aB:Y (bT=tq):=(Nn HC.o).1;have ak:Y (sC=Cg ts sQ [59]):=(Nn HC.o).2;rw[aB.o] at x;have d2:=cbi 5 n.o;have d3:=zm9 5 n.o;go_wp2_with fail;have cF:Y _:=JD.o.other (zF o c.heap.size 5 (I (Aa tq))) (by omega) (by omega);have ce:=J (ze cd.o (zF o c.heap.size 5 (I (Aa tq))));have cZ:=J (zE cY.o (zF o c.heap.size 5 (I (Aa tq))));have de:Y ((Bs o ⟨c.heap.size,5,S⟩ (I (Aa tq))).heap[c.heap.size]?=V (Ae #[O Ai num,I (Aa j),X F (Z C) N,X ta (Z tl) tc,Av true,I (Aa tq),X S 0 0,X S 0 0] 126)):=zH n.o (I (Aa tq));have cm:Y _:=zJ be.o (zF o c.heap.size 5 (I (Aa tq))) (zI n.o be.o);have cq:Y _:=zJ bl.o (zF o c.heap.size 5 (I (Aa tq))) (zI n.o bl.o);generalize(Bs o ⟨c.heap.size,5,S⟩ (I (Aa tq)))=wXy4 at*;refine(qv cF.o _).mono ?_;rintro e bY ⟨rfl,bu,bP⟩;have bz:=J bu;have dE:=zO bz.o.rd;have aj:Y (wXy4.grownBy bY (V rb)):=bP;have cf:=J (zD ce.o aj.o);have c0:=J (zE cZ.o aj.o);have aO:=J (zE de.o aj.o);have aF:Y _:=zQ cm.o aj.o;have aJ:Y _:=zQ cq.o aj.o;have cu:Y (RInv bY rb g B ts sC H):=by rw[ak.o];exact bz.o
    go_wp2_with fail;refine(sU cu.o c.heap.size _ _ _ _ _ _ aO.o (by omega) (by omega)).mono ?_;rintro e wE ⟨rfl,IE,KE,vS,vD,aq,ab,aa⟩;obtain⟨sa,sc,rfl⟩:=zL ab;obtain⟨da,dc,rfl⟩:=zL aa;have JE:=J IE;have CE:Y (w.grownBy wE (V rb)):=wy cf.o KE;have aL:Y _:=KE.keep c0.o (by omega) (by omega);have aC:Y _:=vp aF.o KE (fun k p=>⟨by have:=(An aF.o k p).1;omega,zI aO.o aF.o (by decide) k p⟩);have aG:Y _:=vp aJ.o KE (fun k p=>⟨by have:=(An aJ.o k p).1;omega,zI aO.o aJ.o (by decide) k p⟩);have ao:=J aq;have am:=J ab;have al:=J aa;generalize R.editsS ts sC=pe at*;obtain⟨⟨sl,dl⟩,dz⟩:=pe;simp only at JE am al ao x;go_wp2_with fail;refine(qv JE.o _).mono ?_;rintro e bZ ⟨rfl,bv,bQ⟩;have cG:=J bv;have z:Y (wE.grownBy bZ (V rb)):=bQ;have cg:=J (zD CE.o z.o);have b:=J (zE aL.o z.o);have f:=J (zE ao.o z.o);have bf:Y _:=zQ aC.o z.o;have bm:Y _:=zQ aG.o z.o;have bj:Y _:=zQ am.o z.o;have bb:Y _:=zQ al.o z.o;have dh:=cbi 0 f.o;have di:=cbi 1 f.o;have dj:=cbi 2 f.o;have dk:=cbi 3 f.o;have dm:=cbi 4 f.o;have dn:=cbi 5 f.o;have dp:=cbi 6 f.o;have dq:=cbi 7 f.o;have aW:=cbi 0 b.o;have dr:=zm9 0 b.o;have aX:=cbi 1 b.o;have ds:=zm9 1 b.o;have aY:=cbi 2 b.o;have dt:=zm9 2 b.o;have aZ:=cbi 3 b.o;have du:=zm9 3 b.o;have a0:=cbi 4 b.o;have dv:=zm9 4 b.o;have a1:=cbi 5 b.o;have dw:=zm9 5 b.o;have a2:=cbi 6 b.o;have dx:=zm9 6 b.o;have a3:=cbi 7 b.o;have dy:=zm9 7 b.o;go_wp2;have q:=zD (zD (zD (zD (zD (zD (zD (zF bZ w.heap.size 0 (O Ai num)) (zF _ w.heap.size 1 (I (Aa j)))) (zF _ w.heap.size 2 (X F (Z C) N))) (zF _ w.heap.size 3 (X ta (Z tl) tc))) (zF _ w.heap.size 4 (Av true))) (zF _ w.heap.size 5 (I (Aa tq)))) (zF _ w.heap.size 6 (X sa (Z sl) sc))) (zF _ w.heap.size 7 (X da (Z dl) dc));refine Et (v:=.agg #[O Ai num,I (Aa j),X F (Z C) N,X ta (Z tl) tc,Av true,I (Aa tq),X sa (Z sl) sc,X da (Z dl) dc]) (by simp[results,results90,go_sem,aW,aX,aY,aZ,a0,a1,a2,a3]) rfl ⟨[O Ai num,I (Aa j),X F (Z C) N,X ta (Z tl) tc,Av true,I (Aa tq),X sa (Z sl) sc,X da (Z dl) dc],rfl,?_,ze cg.o q (Aq _),?_⟩
    ·rw[x.o];exact cG.o.other q (by omega) (by omega)
    ·rw[x.o]
     refine⟨_,_,_,_,rfl,?_,?_,?_,?_⟩
     ·exact zJ (zo bf.o (Ax _)) q (fun k p=>zI b.o bf.o (by decide) k p)
     ·exact zJ (zo bm.o (Ax _)) q (fun k p=>zI b.o bm.o (by decide) k p)
     ·exact zJ (zo bj.o (Ax _)) q (fun k p=>zI b.o bj.o (by decide) k p)
     ·exact zJ (zo bb.o (Ax _)) q (fun k p=>zI b.o bb.o (by decide) k p)
end Go.Proofs.YtfocdefchbnkpaaGreatDoor
