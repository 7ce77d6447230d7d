import Derived.Test.YtfocdefchbnkpaaGreatDoorTkE
import Derived.StillTailTactics
set_option maxRecDepth 100000
set_option maxHeartbeats 20000000
open Go renaming World->Ag,Value->Aj,Addr->Eu,Calls->Am,info_parts->Ej,wpList_append_own->Cu,maxLen->Bh,heap_alloc_new->Bn,wp_region_still_tail->Va,wpStill_step->Se
open Go.ByteArray renaming toList_eq->El
open Go.Ending renaming returned->Af
open Go.IntKind renaming i64->Ai,u8->Bp
open Go.Lib renaming byteCells->Ba,byteCells_append->Hl
open Go.Obj renaming cells->Ae
open Go.Proofs.YtfocdefchbnkpaaGreatDoor.R renaming str->Aa,str_toList->Be,Hst->Fp,readS->Gw,plain->Ic
open Go.Proofs.YtfocdefchbnkpaaGreatDoor.R.Mt renaming cells->Qx
open Go.Sort renaming swo_ltStr->Hk,ltInt->Mw,swo_ltInt->Nl
open Go.Value renaming string->I,slice->X,tuple->Cm,int->O,bool->Av,pointer->Al
open Go.Value.slice renaming injEq->Au
open Go.World renaming grownBy_alloc->Ac,ownsRow->Ib,ownsRow_nil->Bk,alloc->Eo,drew->Md
open Go.World.ownsRow renaming lt->An,form->Bm,cellAt->Ap,alloc->Ao
open List renaming replicate->Hs,length->Z
open Option renaming some->V,none->S
open Or renaming inr->Bf,inl->Ay
open UInt8 renaming ofNat->Cb
open _root_ renaming List->A,UInt8->Ab,Int->Ak,Nat->Ad,Option->Br,ByteArray->As
namespace Go.Proofs.YtfocdefchbnkpaaGreatDoor
open Go.RowKit Tryz
variable {w w':Ag}{v:Aj}{l b:A Ab}
theorem Rd.some (h:Rd w v l)(a:l≠[]):∃g c,v=X (V ⟨g,0,S⟩) (Z l) c/\g<w.heap.size/\∀j u,(Ba l)[j]? = .some u->w.cell? ((⟨g,0,S⟩:Eu).add j) = .some u:=by
 rcases h with ⟨_,h⟩|h
 ·exact absurd h a
 ·exact h
theorem kU (l:A Ab):zM l≠[]:=by unfold zM;simp
theorem zm1 (n:Ak):qc n≠[]:=by unfold qc;simp
theorem jb (l:A Ab)(w:Ag)(a:Z l<=255:=by omega):Am prog 137 #[I (Aa l)] w (Gives w (zM l)):=by
 have h:=ziI (Aa l) w (by have:(Aa l).size=Z l:=R.str_size l;omega);rw[Be] at h;exact h
structure BR (r:R.Rl):Prop where
 num:0<=r.number/\r.number<=65535
 path:Z r.path<=24
 ms:Z r.ms<=3/\∀m∈r.ms,Z m.name<=24/\(Z m.val)<=24
 tg:Z r.tg<=4/\∀t∈r.tg,Z t.1<=24/\0<=t.2/\t.2<=65535
 too:Z r.to<=24
 sets:Z r.sets<=3/\∀t∈r.sets,Z t.1<=24/\(Z t.2)<=24
 drops:Z r.drops<=3/\∀t∈r.drops,Z t<=24
variable {α:Type}
def cat (pre:A Ab)(f:α->A Ab)(l:A α)(i:Ad):A Ab:=pre++((l.take i).map f).flatten
theorem mu (a:A Ab)(f:α->A Ab)(l:A α):cat a f l 0=a:=by simp[cat]
theorem zcP (a:A Ab)(f:α->A Ab)(l:A α):cat a f l (Z l)=a++(l.map f).flatten:=by simp[cat]
theorem mr (a:A Ab)(f:α->A Ab)(l:A α)(i:Ad)(h:i<Z l):cat a f l (i+1)=cat a f l i++f l[i]:=by grind[cat,List.take_add_one,List.getElem?_eq_getElem,List.flatten_append,Option.toList_some,List.flatten_cons,List.flatten_nil,List.append_assoc]
theorem zcQ (a:A Ab)(f:α->A Ab)(l:A α)(b:Ad)(c:∀x∈l,Z (f x)<=b)(i:Ad)(h:i<=Z l):Z (cat a f l i)<=Z a+b*i:=by
 induction i <;> grind[mu,List.getElem_mem,mr,List.length_append,Nat.mul_succ,cat]
theorem hid {p:Prop}(h:p):Y p:=h
structure Bt (w0 w:Ag) (a:Br Eu) (k:Ad) (l tot r:A Ab) (N:Ad):Prop where
 own:w.ownsRow w0.heap.size 5 1 (X a (Z l) k) (Z l) (Ba l)
 gr:w0.grownBy w S
 len:Z l<=N
 eq:tot=l++r
theorem Bt.keep {w0:Ag}{a:Br Eu}{k:Ad}{r:A Ab}{N:Ad}(h:Bt w0 w a k l b r N)(g:w.grownBy w' S):Bt w0 w' a k l b r N:=by grind[zK,zD,Bt]
theorem Bt.to {w0:Ag}{a:Br Eu}{k:Ad}{r c:A Ab}{N N':Ad}(h:Bt w0 w a k l b r N)(e:r=c)(d:N<=N'):Bt w0 w a k l b c N':=by grind[Bt]
theorem qG {w w0:Ag}{f:Array Oper}{rest:A Oper}{o:Oper}{ac:Act}{Q:Exit->Act->Ag->Prop}(q:o.guard=S)(s x:Operand)
  (ho:o.op = .call { callee:=.builtin .append,args:=#[s,x],argTypes:=#[32,32] }) {a:Br Eu} {k:Ad} {l:A Ab} (y:A Ab) {r g:A Ab} {C:A Aj} {N:Ad}
  (hs:ac.eval s=X a (Z l) k) (h:Bt w0 w a k l g (y++r) N) (p:Eu) (m c:Ad) (hx:ac.eval x=X (V p) m c) (hm:m=Z y) (hy:Ba y=C)
  (F:∀j u,C[j]?=V u->w.cell? (p.add j)=V u) (hl:Z y<=60) (hN:N<=1000000000)
  (E:∀i n w' l',Y (Bt w0 w' i n l' g r (N+60))->wpList prog f Q rest (ac.put o.dst (X i (Z l') n)) w'):wpList prog f Q (o::rest) ac w:=by
 obtain⟨i0,H,t,v,z⟩:=Ej jD;subst hm hy;have B:=h.len;refine Cu w q s x 32 ho w0.heap.size 5 i0 _ 1 1 underlying32 H t v z rfl (by decide) _ _ _ hs h.own p (Z y) c (Ba y) hx (by rw[xU,Nx]) F (vo y) (by unfold Bh;omega) (by omega) h.gr.size ?_;intro v' w' b d _;obtain⟨i,n,rfl⟩:=zL b;have e:Z l+Z y=Z (l++y):=by rw[Ah]
 rw[e] at b ⊢;refine E i n w' (l++y) ⟨by rw[Hl];exact b,qI h.gr d (fun k hk=>(An h.own k hk).1),by rw[Ah];omega,by rw[h.eq,Bl]⟩
def j9 (f:α->A Ab)(l:A α)(i:Ad):A Ab:=((l.drop i).map f).flatten
theorem bX (f:α->A Ab)(l:A α)(i:Ad)(h:i<Z l)(r:A Ab):j9 f l i++r=f l[i]++(j9 f l (i+1)++r):=by
 unfold j9;rw[Ed h,Er,Ci,Bl]
theorem bY (f:α->A Ab)(l:A α)(r:A Ab):j9 f l (Z l)++r=r:=by unfold j9;rw[List.drop_length];rfl
theorem py (cs:A Aj)(r:R.Rl)(hr:RuleVal w cs r)(hb:BR r) :
  Am prog 138 #[.agg cs.toArray] w (Gives w (qm r)):=by
 obtain⟨vM,vT,vS,vD,rfl,hM,aE,hS,hD⟩:=hr;obtain⟨m1,m2,rfl⟩:=zL hM;obtain⟨t1,t2,rfl⟩:=zL aE;obtain⟨x1,x2,rfl⟩:=zL hS;obtain⟨d1,d2,rfl⟩:=zL hD;have gA:w.grownBy (w.alloc (Ae #[O Ai r.number,I (Aa r.path),X m1 (Z r.ms) m2,X t1 (Z r.tg) t2,Av r.change,I (Aa r.to),X x1 (Z r.sets) x2,X d1 (Z r.drops) d2] 126)) S:=Ac _ _ _;have f:Y ((w.alloc (Ae #[O Ai r.number,I (Aa r.path),X m1 (Z r.ms) m2,X t1 (Z r.tg) t2,Av r.change,I (Aa r.to),X x1 (Z r.sets) x2,X d1 (Z r.drops) d2] 126)).heap[w.heap.size]?=V (Ae #[O Ai r.number,I (Aa r.path),X m1 (Z r.ms) m2,X t1 (Z r.tg) t2,Av r.change,I (Aa r.to),X x1 (Z r.sets) x2,X d1 (Z r.drops) d2] 126)):=Bn _ _;have bn:=hid gA;have HM:=hid (zK hM gA (fun k hk c=>by cases c));have ap:=hid (zK aE gA (fun k hk c=>by cases c));have ao:=hid (zK hS gA (fun k hk c=>by cases c));have aw:=hid (strRow1 (zK hD gA (fun k hk c=>by cases c)));have dP:=hb.path;have dO:=hb.ms.1;have dR:=hb.tg.1;have dS:=hb.too;have dQ:=hb.sets.1;have dF:=hb.drops.1;have bC:=hid hb.ms.2;have bE:=hid hb.tg.2;have bD:=hid hb.sets.2;have bB:=hid hb.drops.2;have bq:Y (qm r=qc r.number++(zM r.path++(Cb (Z r.ms) :: (j9 uK r.ms 0++(Cb (Z r.tg) :: (j9 K.tg r.tg 0++(dy r++(Cb (Z r.sets) :: (j9 K.st r.sets 0++(Cb (Z r.drops) :: j9 zM r.drops 0)))))))))):=by
  show _=_;unfold qm zR j9;simp only[Of,Iw]
 have bo:=hid hb.num;generalize qm r=tot at*;have c0:=cbi 0 f.o;go_in;go_wp2_with fail;generalize(w.alloc (Ae #[O Ai r.number,I (Aa r.path),X m1 (Z r.ms) m2,X t1 (Z r.tg) t2,Av r.change,I (Aa r.to),X x1 (Z r.sets) x2,X d1 (Z r.drops) d2] 126))=wa at*;refine(oi r.number wa bo.o).mono ?_;rintro e w0 ⟨a0,k0,rfl,h0,g0⟩;have B0:Y (Bt wa w0 a0 k0 (qc r.number) tot _ 60):=⟨h0,g0,by rw[kw];omega,bq.o⟩;generalize qc r.number=l0 at*;have el:=cbi 1 (zE f.o B0.o.gr);go_wp2_with fail;refine(jb r.path w0).mono ?_;rintro e eG ⟨c6,dT,rfl,b0,bQ⟩;obtain⟨cP,dn,bI,dG,z⟩:=Rd.some (Rd.of_row b0) (kU _);simp only[Au,Fb] at bI;obtain⟨rfl,rfl⟩:=bI;have aN:=hid (B0.o.keep bQ);have a8:=hid z;have ci:Z ((zM r.path))<=60:=by rw[qr];omega
 go_wp2_with (at_builtin;refine @qG _ _ _ _ _ _ _ rfl _ _ rfl _ _ _ (zM r.path) _ _ _ _ rfl aN.o ⟨cP,0,S⟩ _ _ rfl rfl (rfl) a8.o ci (by omega) ?_);intro a1 k1 w1 l1 B1;have em:=cbi 2 (zE f.o B1.o.gr);have aO:=hid (B1.o.keep (Ac _ (Ae #[O Bp ↑r.ms.length] 5) S));have a9:=hid (zZ w1 #[O Bp ↑r.ms.length] 5 _ rfl);have bs:Y (Ba ([Cb (Z r.ms)])=[O Bp ↑r.ms.length]):=by show _=_;first | rfl | (unfold Ba;simp only[Er,Fa];rw[u8n _])
 have cj:Z (([Cb (Z r.ms)]))<=60:=by simp
 go_wp2_with (at_builtin;refine @qG _ _ _ _ _ _ _ rfl _ _ rfl _ _ _ ([Cb (Z r.ms)]) _ _ _ _ rfl aO.o ⟨w1.heap.size,0,S⟩ _ _ rfl rfl (bs.o) a9.o cj (by omega) ?_);intro a2 k2 w2 l2 B2;obtain⟨ar,ay⟩:∃re,Y (re=Cb (Z r.tg) :: (j9 K.tg r.tg 0++(dy r++(Cb (Z r.sets) :: (j9 K.st r.sets 0++(Cb (Z r.drops) :: j9 zM r.drops 0)))))):=⟨_,hid rfl⟩;rw[<-ay.o] at B2;have cf:=J (B2);go_wp2_with fail
 go_loopw [3,4] (fun sv iv wr=>∃i:Ad,i<=Z r.ms/\iv=O Ai i/\∃a k l,sv=X a (Z l) k/\Y (Bt wa wr a k l tot (j9 uK r.ms i++ar) (180+180*i))) (fun _ iv _=>Z r.ms - (intOf iv).toNat)
 ·exact⟨0,Ax _,rfl,_,_,_,rfl,cf⟩
 ·
  obtain⟨i,F,rfl,aB,aH,li,rfl,aa⟩:=hrel;generalize wr=wRm at*
  by_cases d:i<Z r.ms
  ·have aG:(i:Ak)<Z r.ms:=by omega
   obtain⟨gm,aC,m,_,aF⟩:=Bm HM.o (by omega);simp only[Au] at m;obtain⟨rfl,_,rfl⟩:=m;have aq:=bC.o r.ms[i] (Cr d)
   cases hask:r.ms[i].ask
   ·
    have n:Y (Bt wa wRm aB aH li tot (zM r.ms[i].name++(0 :: (j9 uK r.ms (i+1)++ar))) (180+180*i)):=aa.o.to (by rw[bX uK _ i d];unfold uK;simp[hask]) (Aq _);have ew:=cbi 2 (zE f.o n.o.gr);have dx:wRm.cell? ⟨gm,i*3,S⟩=V (I (Aa r.ms[i].name)):=qY Qx 3 (fun _=>rfl) HM.o n.o.gr i 0 d (by omega) rfl;go_wp2_with fail;refine(jb r.ms[i].name wRm).mono ?_;rintro e eI ⟨c8,dV,rfl,b2,bS⟩;obtain⟨cR,dq,bK,dI,b7⟩:=Rd.some (Rd.of_row b2) (kU _);simp only[Au,Fb] at bK;obtain⟨rfl,rfl⟩:=bK;have aU:=hid (n.o.keep bS);have bg:=hid b7;have cp:Z ((zM r.ms[i].name))<=60:=by rw[qr];omega
    go_wp2_with (at_builtin;refine @qG _ _ _ _ _ _ _ rfl _ _ rfl _ _ _ (zM r.ms[i].name) _ _ _ _ rfl aU.o ⟨cR,0,S⟩ _ _ rfl rfl (rfl) bg.o cp (by omega) ?_);intro dg d5 aL ee H;have ex:=cbi 2 (zE f.o H.o.gr);have cN:aL.cell? ⟨gm,i*3+2,S⟩=V (Av r.ms[i].ask):=qY Qx 3 (fun _=>rfl) HM.o H.o.gr i 2 d (by omega) rfl;rw[hask] at cN;have aV:=hid (H.o.keep (Ac _ (Ae #[O Bp 0] 5) S));have bh:=hid (zZ aL #[O Bp 0] 5 _ rfl);have bx:Y (Ba ([0])=[O Bp 0]):=by show _=_;first | rfl | (unfold Ba;simp only[Er,Fa];rw[u8n _])
    have cq:Z (([0]))<=60:=by simp
    go_wp2_with (at_builtin;refine @qG _ _ _ _ _ _ _ rfl _ _ rfl _ _ _ ([0]) _ _ _ _ rfl aV.o ⟨aL.heap.size,0,S⟩ _ _ rfl rfl (bx.o) bh.o cq (by omega) ?_);intro dh d6 eQ ef cF;go_wp2_with fail
    go_roundw
    ·exact⟨i+1,by omega,by go_num,_,_,_,rfl,cF.o.to rfl (by omega)⟩
    ·simp[intOf];omega
   ·
    have n:Y (Bt wa wRm aB aH li tot (zM r.ms[i].name++(1 :: (zM r.ms[i].val++(j9 uK r.ms (i+1)++ar)))) (180+180*i)):=aa.o.to (by rw[bX uK _ i d];unfold uK;simp[hask]) (Aq _);have ey:=cbi 2 (zE f.o n.o.gr);have dz:wRm.cell? ⟨gm,i*3,S⟩=V (I (Aa r.ms[i].name)):=qY Qx 3 (fun _=>rfl) HM.o n.o.gr i 0 d (by omega) rfl;go_wp2_with fail;refine(jb r.ms[i].name wRm).mono ?_;rintro e eJ ⟨c9,dW,rfl,b3,bT⟩;obtain⟨cS,dr,bL,dJ,b8⟩:=Rd.some (Rd.of_row b3) (kU _);simp only[Au,Fb] at bL;obtain⟨rfl,rfl⟩:=bL;have aW:=hid (n.o.keep bT);have bi:=hid b8;have cr:Z ((zM r.ms[i].name))<=60:=by rw[qr];omega
    go_wp2_with (at_builtin;refine @qG _ _ _ _ _ _ _ rfl _ _ rfl _ _ _ (zM r.ms[i].name) _ _ _ _ rfl aW.o ⟨cS,0,S⟩ _ _ rfl rfl (rfl) bi.o cr (by omega) ?_);intro di d7 aM eg N;have ez:=cbi 2 (zE f.o N.o.gr);have cO:aM.cell? ⟨gm,i*3+2,S⟩=V (Av r.ms[i].ask):=qY Qx 3 (fun _=>rfl) HM.o N.o.gr i 2 d (by omega) rfl;rw[hask] at cO;have aY:=hid (N.o.keep (Ac _ (Ae #[O Bp 1] 5) S));have bj:=hid (zZ aM #[O Bp 1] 5 _ rfl);have bz:Y (Ba ([1])=[O Bp 1]):=by show _=_;first | rfl | (unfold Ba;simp only[Er,Fa];rw[u8n _])
    have ct:Z (([1]))<=60:=by simp
    go_wp2_with (at_builtin;refine @qG _ _ _ _ _ _ _ rfl _ _ rfl _ _ _ ([1]) _ _ _ _ rfl aY.o ⟨aM.heap.size,0,S⟩ _ _ rfl rfl (bz.o) bj.o ct (by omega) ?_);intro dj d8 cB eh Q;have eA:=cbi 2 (zE f.o Q.o.gr);have dA:cB.cell? ⟨gm,i*3+1,S⟩=V (I (Aa r.ms[i].val)):=qY Qx 3 (fun _=>rfl) HM.o Q.o.gr i 1 d (by omega) rfl;go_wp2_with fail;refine(jb r.ms[i].val cB).mono ?_;rintro e eK ⟨da,dX,rfl,b4,bU⟩;obtain⟨cT,ds,bM,dK,b9⟩:=Rd.some (Rd.of_row b4) (kU _);simp only[Au,Fb] at bM;obtain⟨rfl,rfl⟩:=bM;have aZ:=hid (Q.o.keep bU);have bk:=hid b9;have cu:Z ((zM r.ms[i].val))<=60:=by rw[qr];omega
    go_wp2_with (at_builtin;refine @qG _ _ _ _ _ _ _ rfl _ _ rfl _ _ _ (zM r.ms[i].val) _ _ _ _ rfl aZ.o ⟨cT,0,S⟩ _ _ rfl rfl (rfl) bk.o cu (by omega) ?_);intro dk d9 eR ei cG;go_wp2_with fail
    go_roundw
    ·exact⟨i+1,by omega,by go_num,_,_,_,rfl,cG.o.to rfl (by omega)⟩
    ·simp[intOf];omega
  ·have hE:i=Z r.ms:=by omega
   subst hE;have ae:Y (Bt wa wRm aB aH li tot ar 720):=aa.o.to (bY _ _ _) (by omega);rw[ay.o] at ae;have en:=cbi 2 (zE f.o ae.o.gr);have eo:=cbi 3 (zE f.o ae.o.gr);have aP:=hid (ae.o.keep (Ac _ (Ae #[O Bp ↑r.tg.length] 5) S));have ba:=hid (zZ wRm #[O Bp ↑r.tg.length] 5 _ rfl);have bt:Y (Ba ([Cb (Z r.tg)])=[O Bp ↑r.tg.length]):=by show _=_;first | rfl | (unfold Ba;simp only[Er,Fa];rw[u8n _])
   have ck:Z (([Cb (Z r.tg)]))<=60:=by simp
   go_wp2_with (at_builtin;refine @qG _ _ _ _ _ _ _ rfl _ _ rfl _ _ _ ([Cb (Z r.tg)]) _ _ _ _ rfl aP.o ⟨wRm.heap.size,0,S⟩ _ _ rfl rfl (bt.o) ba.o ck (by omega) ?_);intro a3 k3 w3 l3 B3;obtain⟨aK,aA⟩:∃re,Y (re=dy r++(Cb (Z r.sets) :: (j9 K.st r.sets 0++(Cb (Z r.drops) :: j9 zM r.drops 0)))):=⟨_,hid rfl⟩;rw[<-aA.o] at B3;have ch:=J (B3);go_wp2_with fail
   go_loopw [3,5] (fun sv iv wr=>∃i:Ad,i<=Z r.tg/\iv=O Ai i/\∃a k l,sv=X a (Z l) k/\Y (Bt wa wr a k l tot (j9 K.tg r.tg i++aK) (780+180*i))) (fun _ iv _=>Z r.tg - (intOf iv).toNat)
   ·exact⟨0,Ax _,rfl,_,_,_,rfl,ch⟩
   ·
    obtain⟨i,F,rfl,bH,cz,li,rfl,aj⟩:=hrel;generalize wr=wRt at*
    by_cases d:i<Z r.tg
    ·have aG:(i:Ak)<Z r.tg:=by omega
     obtain⟨gm,aC,m,_,aF⟩:=Bm ap.o (by omega);simp only[Au] at m;obtain⟨rfl,_,rfl⟩:=m;have aq:=bE.o r.tg[i] (Cr d);have am:Y (Bt wa wRt bH cz li tot (zM r.tg[i].1++(qc r.tg[i].2++(j9 K.tg r.tg (i+1)++aK))) (780+180*i)):=aj.o.to (by rw[bX K.tg _ i d];unfold K.tg;simp[]) (Aq _);have eD:=cbi 3 (zE f.o am.o.gr);have dD:wRt.cell? ⟨gm,i*2,S⟩=V (I (Aa r.tg[i].1)):=qY (fun t:A Ab×Ak=>[I (Aa t.1),O Ai t.2]) 2 (fun _=>rfl) ap.o am.o.gr i 0 d (by omega) rfl;go_wp2_with fail;refine(jb r.tg[i].1 wRt).mono ?_;rintro e eN ⟨dd,d0,rfl,cd,bZ⟩;obtain⟨cW,dv,bP,dN,cc⟩:=Rd.some (Rd.of_row cd) (kU _);simp only[Au,Fb] at bP;obtain⟨rfl,rfl⟩:=bP;have o:=hid (am.o.keep bZ);have u:=hid cc;have C:Z ((zM r.tg[i].1))<=60:=by rw[qr];omega
     go_wp2_with (at_builtin;refine @qG _ _ _ _ _ _ _ rfl _ _ rfl _ _ _ (zM r.tg[i].1) _ _ _ _ rfl o.o ⟨cW,0,S⟩ _ _ rfl rfl (rfl) u.o C (by omega) ?_);intro cK cZ au c2 q;have eE:=cbi 3 (zE f.o q.o.gr);have dE:au.cell? ⟨gm,i*2+1,S⟩=V (O Ai r.tg[i].2):=qY (fun t:A Ab×Ak=>[I (Aa t.1),O Ai t.2]) 2 (fun _=>rfl) ap.o q.o.gr i 1 d (by omega) rfl;go_wp2_with fail;refine(oi r.tg[i].2 au aq.2).mono ?_;rintro e c4 ⟨cJ,cY,rfl,B,y⟩;obtain⟨aD,cM,x,cX,j⟩:=Rd.some (Rd.of_row B) (zm1 _);simp only[Au,Fb] at x;obtain⟨rfl,rfl⟩:=x;have p:=hid (q.o.keep y);have v:=hid j;have E:Z ((qc r.tg[i].2))<=60:=by rw[kw];omega
     go_wp2_with (at_builtin;refine @qG _ _ _ _ _ _ _ rfl _ _ rfl _ _ _ (qc r.tg[i].2) _ _ _ _ rfl p.o ⟨aD,0,S⟩ _ _ rfl rfl (rfl) v.o E (by omega) ?_);intro cL c1 c5 c3 av;go_wp2_with fail
     go_roundw
     ·exact⟨i+1,by omega,by go_num,_,_,_,rfl,av.o.to rfl (by omega)⟩
     ·simp[intOf];omega
    ·have hE:i=Z r.tg:=by omega
     subst hE;have g:Y (Bt wa wRt bH cz li tot aK 1500):=aj.o.to (bY _ _ _) (by omega);rw[aA.o] at g;have ep:=cbi 3 (zE f.o g.o.gr);have ag:Y (∀b,r.change=b->dy r=if b then 1 :: zM r.to else [0]):=by
      intro b hb;unfold dy;rw[hb]
     have cA:=cbi 4 (zE f.o g.o.gr);obtain⟨bb,ab⟩:∃bb,Y (r.change=bb):=⟨_,hid rfl⟩;rw[ab.o] at cA
     go_upto_if 93 with fail
     go_cut [3] (fun sv wx=>∃a k l,sv=X a (Z l) k/\Y (Bt wa wx a k l tot (Cb (Z r.sets) :: (j9 K.st r.sets 0++(Cb (Z r.drops) :: j9 zM r.drops 0))) 1620))
     ·
      rcases Bool.eq_false_or_eq_true bb with hbb | hbb
      ·
       subst hbb;have br:=ag.o true ab.o;rw[br] at g;rw[Az rfl,Of] at g;have o:=hid (g.o.keep (Ac _ (Ae #[O Bp 1] 5) S));have u:=hid (zZ wRt #[O Bp 1] 5 _ rfl);have bA:Y (Ba ([1])=[O Bp 1]):=by show _=_;first | rfl | (unfold Ba;simp only[Er,Fa];rw[u8n _])
       have C:Z (([1]))<=60:=by simp
       go_wp2_with (at_builtin;refine @qG _ _ _ _ _ _ _ rfl _ _ rfl _ _ _ ([1]) _ _ _ _ rfl o.o ⟨wRt.heap.size,0,S⟩ _ _ rfl rfl (bA.o) u.o C (by omega) ?_);intro cK cZ au c2 q;have eF:=cbi 5 (zE f.o q.o.gr);go_wp2_with fail;refine(jb r.to au).mono ?_;rintro e c4 ⟨cJ,cY,rfl,B,y⟩;obtain⟨aD,cM,x,cX,j⟩:=Rd.some (Rd.of_row B) (kU _);simp only[Au,Fb] at x;obtain⟨rfl,rfl⟩:=x;have p:=hid (q.o.keep y);have v:=hid j;have E:Z ((zM r.to))<=60:=by rw[qr];omega
       go_wp2_with (at_builtin;refine @qG _ _ _ _ _ _ _ rfl _ _ rfl _ _ _ (zM r.to) _ _ _ _ rfl p.o ⟨aD,0,S⟩ _ _ rfl rfl (rfl) v.o E (by omega) ?_);intro cL c1 c5 c3 av;go_wp2_with fail
       go_meet
       ·exact⟨_,_,_,rfl,av.o.to rfl (by omega)⟩
      ·
       subst hbb;have bp:=ag.o false ab.o;rw[bp] at g;rw[Aw (by simp),Of,Hc] at g;have aT:=hid (g.o.keep (Ac _ (Ae #[O Bp 0] 5) S));have bf:=hid (zZ wRt #[O Bp 0] 5 _ rfl);have bw:Y (Ba ([0])=[O Bp 0]):=by show _=_;first | rfl | (unfold Ba;simp only[Er,Fa];rw[u8n _])
       have co:Z (([0]))<=60:=by simp
       go_wp2_with (at_builtin;refine @qG _ _ _ _ _ _ _ rfl _ _ rfl _ _ _ ([0]) _ _ _ _ rfl aT.o ⟨wRt.heap.size,0,S⟩ _ _ rfl rfl (bw.o) bf.o co (by omega) ?_);intro df d4 eP ed cE;go_wp2_with fail
       go_meet
       ·exact⟨_,_,_,rfl,cE.o.to rfl (by omega)⟩
     ·
      obtain⟨aX,kX,lX,rfl,BX⟩:=hcut;generalize wc=wX at*;have er:=cbi 6 (zE f.o BX.o.gr);have aQ:=hid (BX.o.keep (Ac _ (Ae #[O Bp ↑r.sets.length] 5) S));have bc:=hid (zZ wX #[O Bp ↑r.sets.length] 5 _ rfl);have bu:Y (Ba ([Cb (Z r.sets)])=[O Bp ↑r.sets.length]):=by show _=_;first | rfl | (unfold Ba;simp only[Er,Fa];rw[u8n _])
      have cl:Z (([Cb (Z r.sets)]))<=60:=by simp
      go_wp2_with (at_builtin;refine @qG _ _ _ _ _ _ _ rfl _ _ rfl _ _ _ ([Cb (Z r.sets)]) _ _ _ _ rfl aQ.o ⟨wX.heap.size,0,S⟩ _ _ rfl rfl (bu.o) bc.o cl (by omega) ?_);intro a5 k5 w5 l5 B5;obtain⟨aJ,az⟩:∃re,Y (re=Cb (Z r.drops) :: j9 zM r.drops 0):=⟨_,hid rfl⟩;rw[<-az.o] at B5;have cg:=J (B5);go_wp2_with fail
      go_loopw [3,6] (fun sv iv wr=>∃i:Ad,i<=Z r.sets/\iv=O Ai i/\∃a k l,sv=X a (Z l) k/\Y (Bt wa wr a k l tot (j9 K.st r.sets i++aJ) (1680+180*i))) (fun _ iv _=>Z r.sets - (intOf iv).toNat)
      ·exact⟨0,Ax _,rfl,_,_,_,rfl,cg⟩
      ·
       obtain⟨i,F,rfl,bG,cy,li,rfl,ai⟩:=hrel;generalize wr=wRs at*
       by_cases d:i<Z r.sets
       ·have aG:(i:Ak)<Z r.sets:=by omega
        obtain⟨gm,aC,m,_,aF⟩:=Bm ao.o (by omega);simp only[Au] at m;obtain⟨rfl,_,rfl⟩:=m;have aq:=bD.o r.sets[i] (Cr d);have al:Y (Bt wa wRs bG cy li tot (zM r.sets[i].1++(zM r.sets[i].2++(j9 K.st r.sets (i+1)++aJ))) (1680+180*i)):=ai.o.to (by rw[bX K.st _ i d];unfold K.st;simp[]) (Aq _);have eB:=cbi 6 (zE f.o al.o.gr);have dB:wRs.cell? ⟨gm,i*2,S⟩=V (I (Aa r.sets[i].1)):=qY (fun t:A Ab×A Ab=>[I (Aa t.1),I (Aa t.2)]) 2 (fun _=>rfl) ao.o al.o.gr i 0 d (by omega) rfl;go_wp2_with fail;refine(jb r.sets[i].1 wRs).mono ?_;rintro e eL ⟨db,dY,rfl,z,bV⟩;obtain⟨cU,dt,bN,dL,ca⟩:=Rd.some (Rd.of_row z) (kU _);simp only[Au,Fb] at bN;obtain⟨rfl,rfl⟩:=bN;have a4:=hid (al.o.keep bV);have bl:=hid ca;have cv:Z ((zM r.sets[i].1))<=60:=by rw[qr];omega
        go_wp2_with (at_builtin;refine @qG _ _ _ _ _ _ _ rfl _ _ rfl _ _ _ (zM r.sets[i].1) _ _ _ _ rfl a4.o ⟨cU,0,S⟩ _ _ rfl rfl (rfl) bl.o cv (by omega) ?_);intro dl ea cC ej an;have eC:=cbi 6 (zE f.o an.o.gr);have dC:cC.cell? ⟨gm,i*2+1,S⟩=V (I (Aa r.sets[i].2)):=qY (fun t:A Ab×A Ab=>[I (Aa t.1),I (Aa t.2)]) 2 (fun _=>rfl) ao.o an.o.gr i 1 d (by omega) rfl;go_wp2_with fail;refine(jb r.sets[i].2 cC).mono ?_;rintro e eM ⟨dc,dZ,rfl,b5,bW⟩;obtain⟨cV,du,bO,dM,cb⟩:=Rd.some (Rd.of_row b5) (kU _);simp only[Au,Fb] at bO;obtain⟨rfl,rfl⟩:=bO;have a7:=hid (an.o.keep bW);have bm:=hid cb;have cw:Z ((zM r.sets[i].2))<=60:=by rw[qr];omega
        go_wp2_with (at_builtin;refine @qG _ _ _ _ _ _ _ rfl _ _ rfl _ _ _ (zM r.sets[i].2) _ _ _ _ rfl a7.o ⟨cV,0,S⟩ _ _ rfl rfl (rfl) bm.o cw (by omega) ?_);intro dm eb eS ek cH;go_wp2_with fail
        go_roundw
        ·exact⟨i+1,by omega,by go_num,_,_,_,rfl,cH.o.to rfl (by omega)⟩
        ·simp[intOf];omega
       ·have hE:i=Z r.sets:=by omega
        subst hE;have af:Y (Bt wa wRs bG cy li tot aJ 2220):=ai.o.to (bY _ _ _) (by omega);rw[az.o] at af;have es:=cbi 6 (zE f.o af.o.gr);have et:=cbi 7 (zE f.o af.o.gr);have aR:=hid (af.o.keep (Ac _ (Ae #[O Bp ↑r.drops.length] 5) S));have bd:=hid (zZ wRs #[O Bp ↑r.drops.length] 5 _ rfl);have bv:Y (Ba ([Cb (Z r.drops)])=[O Bp ↑r.drops.length]):=by show _=_;first | rfl | (unfold Ba;simp only[Er,Fa];rw[u8n _])
        have cm:Z (([Cb (Z r.drops)]))<=60:=by simp
        go_wp2_with (at_builtin;refine @qG _ _ _ _ _ _ _ rfl _ _ rfl _ _ _ ([Cb (Z r.drops)]) _ _ _ _ rfl aR.o ⟨wRs.heap.size,0,S⟩ _ _ rfl rfl (bv.o) bd.o cm (by omega) ?_);intro a6 k6 w6 l6 B6;have BN:Y (Bt wa w6 a6 k6 l6 tot (j9 zM r.drops 0++[]) 2280):=B6.o.to (Cv _).symm (Aq _);obtain⟨aI,ax⟩:∃re,Y (re=([]:A Ab)):=⟨_,hid rfl⟩;rw[<-ax.o] at BN;have ce:=J (BN);go_wp2_with fail
        go_loopw [3,7] (fun sv iv wr=>∃i:Ad,i<=Z r.drops/\iv=O Ai i/\∃a k l,sv=X a (Z l) k/\Y (Bt wa wr a k l tot (j9 zM r.drops i++aI) (2280+180*i))) (fun _ iv _=>Z r.drops - (intOf iv).toNat)
        ·exact⟨0,Ax _,rfl,_,_,_,rfl,ce⟩
        ·
         obtain⟨i,F,rfl,bF,cx,li,rfl,ah⟩:=hrel;generalize wr=wRd at*
         by_cases d:i<Z r.drops
         ·have aG:(i:Ak)<Z r.drops:=by omega
          obtain⟨gm,aC,m,_,aF⟩:=Bm aw.o (by omega);simp only[Au] at m;obtain⟨rfl,_,rfl⟩:=m;have aq:=bB.o r.drops[i] (Cr d);have ak:Y (Bt wa wRd bF cx li tot (zM r.drops[i]++(j9 zM r.drops (i+1)++aI)) (2280+180*i)):=ah.o.to (by rw[bX zM _ i d]) (Aq _);have ev:=cbi 7 (zE f.o ak.o.gr);have dw:wRd.cell? ⟨gm,i,S⟩=V (I (Aa r.drops[i])):=by have h:=qY (fun s=>[I (Aa s)]) 1 (fun _=>rfl) aw.o ak.o.gr i 0 d (by omega) rfl;rw[Nx] at h;exact h
          go_wp2_with fail;refine(jb r.drops[i] wRd).mono ?_;rintro e eH ⟨c7,dU,rfl,b1,bR⟩;obtain⟨cQ,dp,bJ,dH,b6⟩:=Rd.some (Rd.of_row b1) (kU _);simp only[Au,Fb] at bJ;obtain⟨rfl,rfl⟩:=bJ;have aS:=hid (ak.o.keep bR);have be:=hid b6;have cn:Z ((zM r.drops[i]))<=60:=by rw[qr];omega
          go_wp2_with (at_builtin;refine @qG _ _ _ _ _ _ _ rfl _ _ rfl _ _ _ (zM r.drops[i]) _ _ _ _ rfl aS.o ⟨cQ,0,S⟩ _ _ rfl rfl (rfl) be.o cn (by omega) ?_);intro de d3 eO ec cD;go_wp2_with fail
          go_roundw
          ·exact⟨i+1,by omega,by go_num,_,_,_,rfl,cD.o.to rfl (by omega)⟩
          ·simp[intOf];omega
         ·have hE:i=Z r.drops:=by omega
          subst hE;have ad:Y (Bt wa wRd bF cx li tot aI 2820):=ah.o.to (bY _ _ _) (by omega);rw[ax.o] at ad;have eu:=cbi 7 (zE f.o ad.o.gr);have cI:Y (tot=li):=by show _=_;have h:=ad.o.eq;rwa[Cv] at h
          go_wp2_with fail;go_ret;rw[cI.o];exact⟨_,_,rfl,ke ad.o.own bn.o.size,zD bn.o ad.o.gr⟩
theorem ziR (r:R.Rl):qm r≠[]:=by unfold qm qc;simp
theorem nt {r:R.Rl}(h:BR r):Z (qm r)<=1200:=by
 have a:=xx uK 60 r.ms (fun m hm=>by
  have:=h.ms.2 m hm;unfold uK;split <;> simp only[Ah,Bb,Bu,qr] <;> omega)
 have b:=xx K.tg 60 r.tg (fun m hm=>by
  have:=h.tg.2 m hm;unfold K.tg;simp only[Ah,qr,kw];omega)
 have c:=xx K.st 60 r.sets (fun m hm=>by
  have:=h.sets.2 m hm;unfold K.st;simp only[Ah,qr];omega)
 have d:=xx zM 60 r.drops (fun m hm=>by
  have:=h.drops.2 m hm;rw[qr];omega)
 grind[xx,uK,List.length_append,List.length_cons,List.length_nil,qr,K.tg,kw,K.st,zM,dy,qm,R.Rl,BR]
structure BH (h:Fp):Prop where
 nl:Z h.name<=24
 rl:Z h.rules<=6
 rules:∀r∈h.rules,BR r
theorem zhC {x:Fp}(h:BH x):Z (yr x)<=8000:=by
 have a:=xx qm 1200 x.rules (fun r hr=>nt (h.rules r hr));have:=h.nl;have:=h.rl;unfold yr;rw[Ah,qr];omega
def head4 (n:Ad):A Ab:=[83,89,49,Cb n]
theorem zeC (w:Ag)(n:Ad)(a:n<=255):(w.alloc (Ae #[O Bp 83,O Bp 89,O Bp 49,O Bp n] 5)).ownsRow w.heap.size 5 1 (X (V ⟨w.heap.size,0,S⟩) (Z (head4 n)) 4) (Z (head4 n)) (Ba (head4 n)):=by
 have h:=uY w (head4 n) (by unfold head4;simp);have e:Ba (head4 n)=[O Bp 83,O Bp 89,O Bp 49,O Bp n]:=by
  unfold Ba head4;simp only[Er,Fa];rw[u8n n a];rfl
 grind[uY,head4,u8n]
theorem zdZ (a:A Fp):cat (head4 (Z a)) yr a (Z a)=kV a:=by
 rw[zcP];rfl
theorem na {B:Ad}(v:Aj)(b:A Fp)(hH:HostsRow w B v b)(hn:Z b<=12)(aE:∀h∈b,BH h):Am prog 92 #[v] w (Gives w (t7 b)):=by
 obtain⟨i0,hi,ae,af,ag⟩:=Ej jD;obtain⟨bT,aC,a8⟩:=hH;obtain⟨ha,hc,rfl⟩:=zL aC;have y:=J (aC);have N:=J (a8);have aT:=J (aE);have am:Y (t7 b=kV b++(xF (yg (kV b))++[])):=by show _=_;rw[Cv];rfl
 have aN:=J (zeC w (Z b) (by omega));have aM:Y (w.grownBy (w.alloc (Ae #[O Bp 83,O Bp 89,O Bp 49,O Bp (Z b)] 5)) S):=Ac _ _ _;have aH:Y (∀x∈b,Z (yr x)<=8000):=fun x hx=>zhC (aE x hx)
 have aj:Y (cat (head4 (Z b)) yr b 0=head4 (Z b)):=mu _ _ _;have h4:Z (head4 (Z b))=4:=rfl;have ai:=J (zdZ b);generalize t7 b=tot at*;go_in;go_wp2_with fail
 go_loopw [3,4] (fun sv iv wr=>∃i:Ad,i<=Z b/\iv=O Ai i/\(∃a k,sv=X a (Z (cat (head4 (Z b)) yr b i)) k/\Y (wr.ownsRow w.heap.size 5 1 (X a (Z (cat (head4 (Z b)) yr b i)) k) (Z (cat (head4 (Z b)) yr b i)) (Ba (cat (head4 (Z b)) yr b i))))/\Y (w.grownBy wr S)) (fun _ iv _=>Z b-(intOf iv).toNat)
 case atStart=>exact⟨0,Ax _,rfl,⟨_,_,by rw[aj.o];rfl,by rw[aj.o];exact aN⟩,aM⟩
 case round=>
  obtain⟨i,bB,rfl,⟨aR,kR,rfl,OR⟩,GR⟩:=hrel;generalize wr=wR at*;have aB:=zcQ (head4 (Z b)) yr b 8000 aH.o i bB
  by_cases ad:i<Z b
  ·have b0:(i:Ak)<Z b:=by omega
   obtain⟨gm,bV,bg,_,_⟩:=Bm y.o (by omega);simp only[Au] at bg;obtain⟨rfl,_,rfl⟩:=bg;obtain⟨vR,bj,bA⟩:=gQ N.o i ad;obtain⟨bS,aD,a9⟩:=bA;obtain⟨ra,rc,rfl⟩:=zL aD;have H0:Y (w.cell? ⟨gm,i*2,S⟩=V (I (Aa b[i].name))):=by
    show _=_;rw[Ap y.o (i*2) (by omega),wV N.o i ad]
   have H1:Y (w.cell? ⟨gm,i*2+1,S⟩=V (X ra b[i].rules.length rc)):=by
    show _=_;rw[Ap y.o (i*2+1) (by omega),bj]
   have d:=J (aD);have bn:=J (a9);have ab:=aT.o b[i] (Cr ad);obtain⟨nx,ak⟩:∃nx,Y (cat (head4 (Z b)) yr b (i+1)=nx):=⟨_,rfl⟩;have aP:Y (nx=cat (head4 (Z b)) yr b i++(zM b[i].name++(Cb b[i].rules.length::((b[i].rules.map qm).flatten++[])))):=by
    show _=_;rw[<-ak.o,mr _ _ _ _ ad,Cv];rfl
   have b4:Z (cat (head4 (Z b)) yr b i)<=100000:=by omega
   generalize cat (head4 (Z b)) yr b i=li at*;generalize b[i]=hh at*;have b2:=ab.nl;have b9:=ab.rl;have aU:=J (ab.rules);have e0:=GR.o.cell H0.o (by simp);go_wp2_with fail;refine(jb hh.name wR).mono ?_;rintro e ch ⟨bN,bE,rfl,ba,ax⟩;obtain⟨bw,bQ,a2,bX,bc⟩:=Rd.some (Rd.of_row ba) (kU _);simp only[Au,Fb] at a2;obtain⟨rfl,rfl⟩:=a2;have ar:=J (zK OR.o ax (fun k hk c=>by cases c));have C:=J (zD GR.o ax);have aI:=J (bc);have ca:Z (zM hh.name)<=60:=by rw[qr];omega
   go_wp2_with (at_builtin;refine Cu _ rfl _ _ 32 rfl w.heap.size 5 i0 _ 1 1 underlying32 hi ae af ag rfl (by decide) _ _ _ rfl ar.o ⟨bw,0,S⟩ (Z (zM hh.name)) bE (Ba (zM hh.name)) rfl ?a1 aI.o (vo (zM hh.name)) ?a4 ?a5 ?a6 ?_)
   case a1=>rw[xU,Nx]
   case a4=>unfold Bh;omega
   case a5=>omega
   case a6=>exact C.o.size
   intro cd t g o _;obtain⟨a0,bk,rfl⟩:=zL g;have an:Y (Z (li)+Z (zM hh.name)=Z (li++zM hh.name)):=by show _=_;rw[Ah]
   have aW:Y (t.ownsRow w.heap.size 5 1 (X a0 (Z (li++zM hh.name)) bk) (Z (li++zM hh.name)) (Ba (li++zM hh.name))):=by
    show Ib _ _ _ _ _ _ _;rw[<-an.o,Hl];exact g
   have ah:=J (qI C.o o (fun k hk=>(An ar.o k hk).1));have b6:Z (li++zM hh.name)<=100060:=by rw[Ah];omega
   have aO:Y (nx=(li++zM hh.name)++(Cb (Z hh.rules)::((hh.rules.map qm).flatten++[]))):=by show _=_;rw[aP.o];simp only[Bl]
   rw[an.o];generalize li++zM hh.name=lp1 at*;have e1:=ah.o.cell H1.o (by simp);have au:Y ((t.alloc (Ae #[O Bp ↑hh.rules.length] 5)).ownsRow w.heap.size 5 1 (X a0 (Z (lp1)) bk) (Z (lp1)) (Ba (lp1))):=Ao aW.o _;have E:Y (w.grownBy (t.alloc (Ae #[O Bp ↑hh.rules.length] 5)) S):=zD ah.o (Ac _ _ S);have aJ:Y (∀j u,([O Bp ↑hh.rules.length]:A Aj)[j]?=V u->(t.alloc (Ae #[O Bp ↑hh.rules.length] 5)).cell? ((⟨t.heap.size,0,S⟩:Eu).add j)=V u):=zZ t #[_] _ _ rfl;have aV:Y (Ba ([Cb (Z hh.rules)])=[O Bp ↑hh.rules.length]):=by show _=_;first|rfl|(unfold Ba;simp only[Er,Fa];rw[u8n _])
   have cb:Z ([Cb (Z hh.rules)])<=60:=by simp
   go_wp2_with (at_builtin;refine Cu _ rfl _ _ 32 rfl w.heap.size 5 i0 _ 1 1 underlying32 hi ae af ag rfl (by decide) _ _ _ rfl au.o ⟨t.heap.size,0,S⟩ 1 1 ([O Bp ↑hh.rules.length]) rfl ?a1 aJ.o (fun u hu=>by simp at hu;subst hu;rfl) ?a4 ?a5 ?a6 ?_)
   case a1=>rfl
   case a4=>unfold Bh;omega
   case a5=>omega
   case a6=>exact E.o.size
   intro ce bK l p _;obtain⟨bt,bH,rfl⟩:=zL l;have ao:Y (Z (lp1)+1=Z (lp1++[Cb (Z hh.rules)])):=by show _=_;rw[Ah];rfl
   have aX:Y (bK.ownsRow w.heap.size 5 1 (X bt (Z (lp1++[Cb (Z hh.rules)])) bH) (Z (lp1++[Cb (Z hh.rules)])) (Ba (lp1++[Cb (Z hh.rules)]))):=by
    show Ib _ _ _ _ _ _ _;rw[<-ao.o,Hl,aV.o];exact l
   have aF:=J (qI E.o p (fun k hk=>(An au.o k hk).1));have b7:Z (lp1++[Cb (Z hh.rules)])<=100120:=by rw[Ah];omega
   have bp:Y (nx=(lp1++[Cb (Z hh.rules)])++((hh.rules.map qm).flatten++[])):=by show _=_;rw[aO.o];simp only[Bl,Of,Hc]
   rw[ao.o];generalize lp1++[Cb (Z hh.rules)]=lp2 at*;have Q:Y (cat lp2 qm hh.rules 0=lp2):=mu _ _ _;have bo:Y (∀x∈hh.rules,Z (qm x)<=1200):=fun x hx=>nt (aU.o x hx)
   go_wp2_with fail
   go_loopw [3,5] (fun sv iv wr=>∃j:Ad,j<=Z hh.rules/\iv=O Ai j/\(∃a k,sv=X a (Z (cat lp2 qm hh.rules j)) k/\Y (wr.ownsRow w.heap.size 5 1 (X a (Z (cat lp2 qm hh.rules j)) k) (Z (cat lp2 qm hh.rules j)) (Ba (cat lp2 qm hh.rules j))))/\Y (w.grownBy wr S)) (fun _ iv _=>Z hh.rules-(intOf iv).toNat)
   case atStart=>exact⟨0,Ax _,rfl,⟨_,_,by rw[Q.o],by rw[Q.o];exact aX⟩,aF⟩
   case round=>
    obtain⟨j,bC,rfl,⟨aS,kS,rfl,OS⟩,z⟩:=hrel;generalize wr=wS at*;have bD:=zcQ lp2 qm hh.rules 1200 bo.o j bC;have f1:=z.o.cell H1.o (by simp)
    by_cases aA:j<Z hh.rules
    ·have b1:(j:Ak)<Z hh.rules:=by omega
     obtain⟨s,bW,bh,_,_⟩:=Bm d.o (by omega);simp only[Au] at bh;obtain⟨rfl,_,rfl⟩:=bh;obtain⟨cs,bi,f⟩:=fs bn.o j aA;have bs:Y (RuleVal wS cs hh.rules[j]):=bi.keep z.o (za _ _);have aG:=J (aU.o hh.rules[j] (Cr aA));obtain⟨ny,al⟩:∃ny,Y (cat lp2 qm hh.rules (j+1)=ny):=⟨_,rfl⟩;have aQ:Y (ny=cat lp2 qm hh.rules j++(qm hh.rules[j]++[])):=by
      show _=_;rw[<-al.o,mr _ _ _ _ aA,Cv]
     have b5:Z (cat lp2 qm hh.rules j)<=110000:=by omega
     have b8:=nt aG.o;generalize cat lp2 qm hh.rules j=lj at*;generalize hh.rules[j]=rl at*;obtain⟨vM,vT,vS,vD,rfl,hM,hT,hS,hD⟩:=bi;obtain⟨m1,m2,rfl⟩:=zL hM;obtain⟨t1,t2,rfl⟩:=zL hT;obtain⟨x1,x2,rfl⟩:=zL hS;obtain⟨d1,d2,rfl⟩:=zL hD;have g0:wS.cell? ⟨s,j*8,S⟩=V (O Ai rl.number):=by
      refine z.o.cell (a:=⟨s,j*8,S⟩) ?_ (by simp);rw[Ap d.o (j*8) (by omega)];exact f 0 (by omega)
     have g1:wS.cell? ⟨s,j*8+1,S⟩=V (I (Aa rl.path)):=by
      refine z.o.cell (a:=⟨s,j*8+1,S⟩) ?_ (by simp);rw[Ap d.o (j*8+1) (by omega)];exact f 1 (by omega)
     have g2:wS.cell? ⟨s,j*8+2,S⟩=V (X m1 (Z rl.ms) m2):=by
      refine z.o.cell (a:=⟨s,j*8+2,S⟩) ?_ (by simp);rw[Ap d.o (j*8+2) (by omega)];exact f 2 (by omega)
     have g3:wS.cell? ⟨s,j*8+3,S⟩=V (X t1 (Z rl.tg) t2):=by
      refine z.o.cell (a:=⟨s,j*8+3,S⟩) ?_ (by simp);rw[Ap d.o (j*8+3) (by omega)];exact f 3 (by omega)
     have g4:wS.cell? ⟨s,j*8+4,S⟩=V (Av rl.change):=by
      refine z.o.cell (a:=⟨s,j*8+4,S⟩) ?_ (by simp);rw[Ap d.o (j*8+4) (by omega)];exact f 4 (by omega)
     have g5:wS.cell? ⟨s,j*8+5,S⟩=V (I (Aa rl.to)):=by
      refine z.o.cell (a:=⟨s,j*8+5,S⟩) ?_ (by simp);rw[Ap d.o (j*8+5) (by omega)];exact f 5 (by omega)
     have g6:wS.cell? ⟨s,j*8+6,S⟩=V (X x1 (Z rl.sets) x2):=by
      refine z.o.cell (a:=⟨s,j*8+6,S⟩) ?_ (by simp);rw[Ap d.o (j*8+6) (by omega)];exact f 6 (by omega)
     have g7:wS.cell? ⟨s,j*8+7,S⟩=V (X d1 (Z rl.drops) d2):=by
      refine z.o.cell (a:=⟨s,j*8+7,S⟩) ?_ (by simp);rw[Ap d.o (j*8+7) (by omega)];exact f 7 (by omega)
     go_wp2_with fail;refine(py _ rl bs.o aG.o).mono ?_;rintro e ci ⟨bO,bF,rfl,bb,ay⟩;obtain⟨bx,bR,a3,bY,bd⟩:=Rd.some (Rd.of_row bb) (ziR _);simp only[Au,Fb] at a3;obtain⟨rfl,rfl⟩:=a3;have av:=J (zK OS.o ay (fun k hk c=>by cases c));have F:=J (zD z.o ay);have aK:=J (bd);go_wp2_with (at_builtin;refine Cu _ rfl _ _ 32 rfl w.heap.size 5 i0 _ 1 1 underlying32 hi ae af ag rfl (by decide) _ _ _ rfl av.o ⟨bx,0,S⟩ (Z (qm rl)) bF (Ba (qm rl)) rfl ?a1 aK.o (vo (qm rl)) ?a4 ?a5 ?a6 ?_)
     case a1=>rw[xU,Nx]
     case a4=>unfold Bh;omega
     case a5=>omega
     case a6=>exact F.o.size
     intro cf bL m q _;obtain⟨bu,bI,rfl⟩:=zL m;have ap:Y (Z (lj)+Z (qm rl)=Z (lj++qm rl)):=by show _=_;rw[Ah]
     have aY:Y (bL.ownsRow w.heap.size 5 1 (X bu (Z (lj++qm rl)) bI) (Z (lj++qm rl)) (Ba (lj++qm rl))):=by
      show Ib _ _ _ _ _ _ _;rw[<-ap.o,Hl];exact m
     have bl:=J (qI F.o q (fun k hk=>(An av.o k hk).1));have bq:Y (ny=(lj++qm rl)++([])):=by show _=_;rw[aQ.o];simp only[Bl]
     rw[ap.o];generalize lj++qm rl=lq1 at*;have aa:Y (lq1=ny):=by show _=_;rw[bq.o,Cv]
     rw[aa.o] at aY ⊢;go_wp2_with fail
     go_roundw
     case rel=>exact⟨j+1,by omega,by go_num,⟨_,_,by rw[al.o],by rw[al.o];exact aY⟩,bl⟩
     case measure=>simp[intOf];omega
    ·have hE:j=Z hh.rules:=by omega
     subst hE;have aa:Y (cat lp2 qm hh.rules (Z hh.rules)=nx):=by show _=_;rw[zcP,bp.o,Cv]
     rw[aa.o] at OS ⊢;go_wp2_with fail
     go_roundw
     case rel=>exact⟨i+1,by omega,by go_num,⟨_,_,by rw[ak.o],by rw[ak.o];exact OS⟩,z⟩
     case measure=>simp[intOf];omega
  ·have hE:i=Z b:=by omega
   subst hE;rw[ai.o] at OR aB ⊢;have b3:Z (kV b)<=100000:=by omega
   generalize kV b=lA at*;go_wp2_with fail;refine(zkW aR kR lA (Rd.of_row OR.o) (by omega)).mono ?_;rintro e cj ⟨bP,bG,rfl,bf,az⟩;obtain⟨bz,bU,a7,bZ,be⟩:=Rd.some (Rd.of_row bf) (by unfold xF;simp);simp only[Au,Fb] at a7;obtain⟨rfl,rfl⟩:=a7;have aw:=J (zK OR.o az (fun k hk c=>by cases c));have H:=J (zD GR.o az);have aL:=J (be);have cc:Z (xF (yg lA))<=60:=by unfold xF;simp
   go_wp2_with (at_builtin;refine Cu _ rfl _ _ 32 rfl w.heap.size 5 i0 _ 1 1 underlying32 hi ae af ag rfl (by decide) _ _ _ rfl aw.o ⟨bz,0,S⟩ (Z (xF (yg lA))) bG (Ba (xF (yg lA))) rfl ?a1 aL.o (vo (xF (yg lA))) ?a4 ?a5 ?a6 ?_)
   case a1=>rw[xU,Nx]
   case a4=>unfold Bh;omega
   case a5=>omega
   case a6=>exact H.o.size
   intro cg bM n r _;obtain⟨bv,bJ,rfl⟩:=zL n;have aq:Y (Z (lA)+Z (xF (yg lA))=Z (lA++xF (yg lA))):=by show _=_;rw[Ah]
   have aZ:Y (bM.ownsRow w.heap.size 5 1 (X bv (Z (lA++xF (yg lA))) bJ) (Z (lA++xF (yg lA))) (Ba (lA++xF (yg lA)))):=by
    show Ib _ _ _ _ _ _ _;rw[<-aq.o,Hl];exact n
   have bm:=J (qI H.o r (fun k hk=>(An aw.o k hk).1));have br:Y (tot=(lA++xF (yg lA))++([])):=by show _=_;rw[am.o];simp only[Bl]
   rw[aq.o];generalize lA++xF (yg lA)=lz1 at*;have aa:Y (lz1=tot):=by show _=_;rw[br.o,Cv]
   rw[aa.o] at aZ ⊢;go_wp2_with fail;go_ret;exact⟨_,_,rfl,aZ.o,bm.o⟩
theorem TInv.safe {a:Ad}{s:T.St}{l:A TypeId}(h:TInv w a v b s)(c:257 ∉ l):Safe w (V a) l:=by grind[T.St,TInv,Safe]
theorem TInv.bad {a:Ad}{s:T.St}(h:TInv w a v b s):w.cell? ⟨a,2,S⟩=V (Av s.bad):=by
 obtain⟨p,_,_,c⟩:=h.ex;exact zB c
theorem io {a:A (A Aj)}{b:A Fp}(h:All2 (HostVal w) a b)(k:Ad)(d:k<Z b):a.flatten[k*2]?=V (I (Aa b[k].name)):=by
 induction h generalizing k with
 |nil=>simp at d
 | @cons c r cs rs hc _ ih=>
  obtain⟨f,rfl,_⟩:=hc
  match k with
  |0=>rfl
  |k+1=>
   have:=ih k (by simpa using d);rw[Ci,Cl (by simp;omega)];simp only[Bb,Bu];rw[show(k+1)*2-(0+1+1)=k*2 by omega];exact this
theorem rK (m:Ad)(s:T.St):(zr m s).1<=m:=by
 unfold zr
 split
 ·simp
 ·omega
theorem aB (n:Ad)(a:A R.Rl)(s:T.St)(h:s.bad=false):yE (n+1) a s=yE n (a++[(jE s).1]) (qP (jE s).2 (match a.getLast? with|none=>true|some x=>decide (x.number<(jE s).1.number))):=by
 rw[yE,h];rfl
abbrev Hi1 (a b):=yE (zr 6 (yB a b).2).1 [] (zr 6 (yB a b).2).2
theorem aA (n:Ad)(a:A Fp)(s:T.St)(h:s.bad=false):yj (n+1) a s=yj n (a++[⟨(yB s a).1,(Hi1 s a).1⟩]) (Hi1 s a).2:=by
 rw[yj,h];rfl
theorem zgY {x:P.Hst}(h:VHst x):BH (toR x) where
 nl:=h.nl
 rl:=by show(Z (x.rules.map toRl))<=6;rw[Bv];exact h.rl
 rules:=fun r hr=>by
  obtain⟨y,c,rfl⟩:=Hr.1 (show r∈x.rules.map toRl from hr);have a:=h.rules y c;exact⟨a.num,a.pl,⟨by show(Z (y.ms.map mtOf))<=3;rw[Bv];exact a.ml,fun m hm=>by
   obtain⟨z,b,rfl⟩:=Hr.1 (show m∈y.ms.map mtOf from hm);exact⟨(a.ms z b).nl,(a.ms z b).vl⟩⟩,⟨a.tl,fun t ht=>⟨(a.tg t ht).ul,by have:=(a.tg t ht).lo;omega,by have:=(a.tg t ht).hi;omega⟩⟩,by show (Z y.rep)<=24;rcases a.rep with e|e;rw[e];simp;exact e.2,
   ⟨a.sl,fun t ht=>⟨(a.sets t ht).nl,(a.sets t ht).vl⟩⟩,⟨a.dl,fun t ht=>(a.drops t ht).nl⟩⟩
theorem zj7 {x y:P.Rl}(h:toRl x=toRl y):x=y:=by
 obtain⟨n,p,t,tg,rp,st,N⟩:=x;obtain⟨Q,p',d,w,u,v,f⟩:=y;simp only[toRl,rlOf,R.Rl.mk.injEq] at h;obtain⟨k,l,m,o,_,q,r,s⟩:=h;have c:t=d:=List.map_inj_right (fun a b e=>by
  obtain⟨z,B,C⟩:=a;obtain⟨E,F,H⟩:=b;simp only[mtOf,R.Mt.mk.injEq] at e;obtain⟨g,i,j⟩:=e;rw[g,i,j]) |>.1 m
 rw[k,l,c,o,q,r,s]
theorem zlB {a b:A P.Hst}(h:a.map toR=b.map toR):a=b:=by grind[List.map_inj_right,toR,Fp,zj7,P.Hst]
theorem ng (hr:RdO w v b)(hv:b≠[]->∀g o n c,v=X (V ⟨g,o,S⟩) n c->g<w.heap.size)(hl:Z b<=140737488355328:=by omega) :
  Am prog 96 #[v] w fun e w'=>w.grownBy w' S/\((∃C u,VHs C/\x4 C=b/\e=Af (Cm #[u,Av true])/\HostsRow w' 0 u (C.map toR))\/((∀C,VHs C->x4 C≠b)/\∃u,e=Af (Cm #[u,Av false]))):=by
 obtain⟨i0,hi,bQ,bR,bS⟩:=Ej zd0;obtain⟨i1,hj,bo,bp,bq⟩:=Ej zcY;obtain⟨va,vc,rfl,cg⟩:=hr.form;have gA:w.grownBy (w.alloc (Ae #[X va (Z b) vc,O Ai 0,Av false] 257)) S:=Ac _ _ S;have I0:Y (TInv (w.alloc (Ae #[X va (Z b) vc,O Ai 0,Av false] 257)) w.heap.size (X va (Z b) vc) b ⟨b,false⟩):=⟨⟨0,Ax _,rfl,Bn _ _⟩,hr.keep gA (fun g o n c e c2=>by cases c2),fun h0 g o n c e=>by have:=hv h0 g o n c e;omega,hl⟩;have aS:=J (gA);have aJ:Y (tL b=yj (zr 4 (wG ⟨b,false⟩)).1 [] (zr 4 (wG ⟨b,false⟩)).2):=rfl;have ba:Y (wG ⟨b,false⟩=qP (xD (xD (xD ⟨b,false⟩).2).2).2 (decide ((xD ⟨b,false⟩).1=83) && (decide ((xD (xD ⟨b,false⟩).2).1=89) && decide ((xD (xD (xD ⟨b,false⟩).2).2).1=49)))):=rfl;clear hr hv gA;obtain⟨aj,aw⟩:∃aj,Y (aj=tL b):=⟨_,rfl⟩;rw[<-aw.o] at aJ;generalize wG ⟨b,false⟩=hd at*;generalize(⟨b,false⟩:T.St)=s0 at*;go_in;go_wp2_with fail;generalize(w.alloc (Ae #[X va (Z b) vc,O Ai 0,Av false] 257))=wa at*;generalize bl:w.heap.size=tb at*;have aY:=J (bl);clear bl;have au:Y (∀(wu w1:Ag) (s1:T.St) (row:Br Ad),TInv wu tb (X va (Z b) vc) b s1->wu.grownBy w1 row->(∀k,row=V k->wa.heap.size<=k)->TInv w1 tb (X va (Z b) vc) b s1):=fun wu w1 s1 row h1 h2 h3=>I0.o.far h1 h2 h3
 have G0:Y (wa.grownBy wa (V tb)):=zP _ _;refine(uX I0.o).mono ?_;rintro e w1 ⟨rfl,i1,g1⟩;have I1:=J (i1);have G1:=J (zD G0.o g1);clear i1 g1 I0 G0;generalize xD (s0)=o1 at*;go_wp2_with fail;refine(uX I1.o).mono ?_;rintro e w2 ⟨rfl,i2,g2⟩;have I2:=J (i2);have G2:=J (zD G1.o g2);clear i2 g2 I1 G1;generalize xD ((o1.2))=o2 at*;go_wp2_with fail;refine(uX I2.o).mono ?_;rintro e w3 ⟨rfl,i3,g3⟩;have I3:=J (i3);have G3:=J (zD G2.o g3);clear i3 g3 I2 G2;generalize xD ((o2.2))=o3 at*;have HM:Y (∀bb,bb=(decide (o1.1=83) && (decide (o2.1=89) && decide (o3.1=49)))->Am prog 141 #[Al (V ⟨tb,0,S⟩),Av bb] w3 fun e w'=>e=Af (Cm #[])/\TInv w' tb (X va (Z b) vc) b hd/\wa.grownBy w' (V tb)):=fun bb hb=>by
  rw[ba.o,hb];exact(yP I3.o _).mono fun e w' ⟨q1,q2,q3⟩=>⟨q1,q2,zD G3.o q3⟩
 clear ba I3 G3;go_upto_region 5 with fail
 go_cut [] from 5 (fun wx=>Y (TInv wx tb (X va (Z b) vc) b hd)/\Y (wa.grownBy wx (V tb)))
 ·
  go_wp2_with fail
  all_goals
   refine(HM.o _ ?_).mono ?_
   rotate_left 1
   ·rintro e w4 ⟨rfl,i4,g4⟩
    have I4:=J (i4);have G4:=J (g4);clear i4 g4 HM;go_wp2_with fail
    go_meet
    ·exact⟨I4,G4⟩
   ·by_cases q1:o1.1=83 <;> by_cases q2:o2.1=89 <;> simp only[q1,q2,decide_true,decide_false,Bool.true_and,Bool.false_and] <;> first
     | rfl
     | (exfalso;omega)
     | (rw[Eb];simp;omega)
 ·
  obtain⟨I4,G4⟩:=hcut;clear HM;have hN:=rK 4 hd;have HF:=J (kD I4.o 4);generalize zr 4 hd=fw at*;obtain⟨N,s5⟩:=fw;simp only at HF hN aJ;go_wp2_with fail;refine HF.o.mono ?_;rintro e w5 ⟨rfl,i5,g5⟩;have I5:=J (i5);have G5:=J (zD G4.o g5);clear i5 g5 I4 G4 HF;go_wp2_with fail
  go_loopw [8,10] (fun u iv wr=>∃(f:A Fp) (st:T.St) (ai:A (A Aj)),Z f<=N/\iv=O Ai (Z f)/\Y (aj=yj (N - Z f) f st)/\Y (TInv wr tb (X va (Z b) vc) b st)/\Y (wa.grownBy wr (V tb))/\Y (wr.ownsRow wa.heap.size 119 2 u (Z f) ai.flatten)/\Y (All2 (HostVal wr) ai f)) (fun _ iv _=>N - (intOf iv).toNat)
  ·exact⟨[],s5,[],Ax _,rfl,by show _=_;rw[aJ.o];rfl,I5,G5,Bk _ _ _ _,.nil⟩
  ·
   obtain⟨f,st,ai,b9,rfl,HL,IR,GR,HO,HA⟩:=hrel;clear I5 G5 aJ;have cb:=IR.o.bad;obtain⟨ua,uc,rfl⟩:=zL HO.o
   by_cases cc:Z f<N
   ·have bn:(Z f:Ak)<N:=by omega
    cases hbad:st.bad
    ·rw[hbad] at cb
     have al:Y (aj=yj (N - (Z f+1)) (f++[⟨(yB st f).1,(yE (zr 6 (yB st f).2).1 [] (zr 6 (yB st f).2).2).1⟩]) (yE (zr 6 (yB st f).2).1 [] (zr 6 (yB st f).2).2).2):=by show _=_;rw[HL.o,show N - Z f=N - (Z f+1)+1 by omega];exact aA _ _ _ hbad
     have aH:Y (yB st f=((zj st).1,qP (qP (zj st).2 (R.named (zj st).1 false)) (match f.getLast? with | none=>true | some x=>qd x.name (zj st).1))):=rfl;have bN:=j7 st;have CW:Y (wr.grownBy wr (V tb)):=zP _ _;have a0:=J (IR);have a9:Y (∀(wu w':Ag) (s1:T.St) (row:Br Ad),TInv wu tb (X va (Z b) vc) b s1->wu.grownBy w' row->(∀k,row=V k->wr.heap.size<=k)->TInv w' tb (X va (Z b) vc) b s1):=fun wu w' s1 row h1 h2 h3=>IR.o.far h1 h2 h3
     clear HL;generalize yB st f=ha at*;go_wp2_with fail;refine(vB IR.o).mono ?_;rintro e z ⟨rfl,bi,a3⟩;have a1:=J bi;have b3:=a1.o.tlt;have cj:wr.heap.size+0<=z.heap.size:=by have h:=a3.size;simpa using h
     have bv:=J (a3);have a6:=J (zD CW.o bv.o);have cm:=a6.o.size;clear a3 bi;generalize zj st=tx at*;obtain⟨r,s1⟩:=tx;simp only at a1 aH bN;go_wp2_with fail;have bD:Y _:=a1.o.keep (Ac z (Ae #[I (Aa r),X S 0 0] 119) S);have bu:Y (wr.grownBy (Eo z (Ae #[I (Aa r),X S 0 0] 119)) (V tb)):=zD a6.o (Ac z (Ae #[I (Aa r),X S 0 0] 119) _);have bw:Y ((Eo z (Ae #[I (Aa r),X S 0 0] 119)).heap[z.heap.size]?=V (Ae #[I (Aa r),X S 0 0] 119)):=Bn _ _;have ck:z.heap.size+1<=(Eo z (Ae #[I (Aa r),X S 0 0] 119)).heap.size:=by simp
     have cl:(Eo z (Ae #[I (Aa r),X S 0 0] 119)).heap.size<=z.heap.size+1:=by simp
     generalize(Eo z (Ae #[I (Aa r),X S 0 0] 119))=wL2 at*;have hv:=sO (Aa r) false wL2 (by rw[R.str_size];unfold Bh;omega);rw[Be] at hv;have HV:=J (hv);clear hv;refine HV.o.mono ?_;rintro e wX ⟨rfl,bt⟩;rw[bt];clear bt wX HV;generalize R.named r false=nd at*;go_wp2_with fail;refine(yP bD.o nd).mono ?_;rintro e aG ⟨rfl,bj,bm⟩;have bE:=J bj;have a7:=J (bm);have aO:=J (zD bu.o a7.o);have aQ:=J (zE bw.o a7.o);clear bm bj;generalize qP s1 nd=s2 at*;have ci:=cbi 0 aQ.o;go_upto_region 14 with fail
     go_cut [] from 61 to 76 (fun wx=>Y (TInv wx tb (X va (Z b) vc) b (ha.2))/\Y (wr.grownBy wx (V tb))/\Y (wx.heap[z.heap.size]?=V (Ae #[I (Aa r),X S 0 0] 119)))
     ·
      have ab:Y (∀bb,bb=(match f.getLast? with | none=>true | some x=>qd x.name r)->Am prog 141 #[Al (V ⟨tb,0,S⟩),Av bb] aG.drew fun e w'=>e=Af (Cm #[])/\TInv w' tb (X va (Z b) vc) b ha.2/\aG.grownBy w' (V tb)):=fun bb hb=>by
       rw[aH.o,<-hb];exact(yP (bE.o.keep (zV _)) bb).mono fun e w' ⟨q1,q2,q3⟩=>⟨q1,q2,zD (zT (zV _) _) q3⟩
      generalize E:Z f=n1 at*
      by_cases ag:n1=0
      ·have HZ:=J (ag)
       have h0:f=[]:=Ep.1 (by omega);have ah:Y (true=(match f.getLast? with | none=>true | some x=>qd x.name r)):=by show _=_;rw[h0];rfl
       clear h0 E ag;refine Va 15 (by kernel_rfl) (by kernel_rfl) ?_;simp only[Fk,Gm,In,Iw]
       iterate 4 still_step
       iterate 10 (refine Se (fun K hK=>?_);go_simp;rw[Az HZ.o];refine hK _ ?_;clear hK K)
       refine Se (fun K hK=>?_)
       go_simp
       rw[Az HZ.o];refine hK _ ?_;clear hK K;refine wpStill_nil ?_;go_wp2_with fail;show Am _ _ _ (Md aG) _;refine(ab.o _ ah.o).mono ?_;rintro e w6 ⟨rfl,i6,g6⟩;have I6:=J (i6);have G6:=J (zD aO.o g6);have B6:=J (zE aQ.o g6 (fun c=>by have:=Bc c;omega));clear i6 g6 ab ah;go_wp2_with fail
       go_meet
       ·exact⟨I6,G6,B6⟩
      ·have bO:0<n1:=by omega
       have HZ:=J (ag);obtain⟨m,F⟩:∃m,Y (n1=m+1):=⟨n1 - 1,by show _=_;omega⟩;have am:m<Z f:=by rw[E,F.o];omega
       have bM:(m:Ak)<n1:=by rw[F.o];omega
       have cd:(n1:Ak) - 1=(m:Ak):=by rw[F.o];omega
       have hw:IntKind.i64.wrap (m:Ak)=(m:Ak):=by rw[IntKind.wrap_i64];omega
       obtain⟨gu,b7,e1,_,_⟩:=Bm HO.o (by omega);simp only[Au,Fb] at e1;obtain⟨rfl,rfl⟩:=e1;have cN:aG.cell? ⟨gu,m*2,S⟩=V (I (Aa f[m].name)):=by
        have bP:=x7 HO.o aO.o (a0.o.safe (l:=htags) (by decide));rw[Ap bP (m*2) (by rw[F.o];omega)];exact io HA.o m am
       have ah:Y (((n1:Ak) == 0 || Op.bytesLess (Aa f[m].name).toList (Aa r).toList)=(match f.getLast? with | none=>true | some x=>qd x.name r)):=by
        show _=_;have e:f.getLast?=V f[m]:=by rw[Vl,E,F.o,Nat.add_sub_cancel,Bd am]
        rw[wk,e,show((n1:Ak) == 0)=false from(by rw[Ch];omega),Qq]
       generalize f[m]=hl' at*;clear E am F ag;refine Va 15 (by kernel_rfl) (by kernel_rfl) ?_;simp only[Fk,Gm,In,Iw]
       iterate 4 still_step
       iterate 10 (refine Se (fun K hK=>?_);go_simp;rw[Aw HZ.o];refine hK _ ?_;clear hK K)
       refine Se (fun K hK=>?_)
       go_simp
       refine hK _ ?_;clear hK K;refine wpStill_nil ?_;go_wp2_with fail;show Am _ _ _ (Md aG) _;refine(ab.o _ ah.o).mono ?_;rintro e w6 ⟨rfl,i6,g6⟩;have I6:=J (i6);have G6:=J (zD aO.o g6);have B6:=J (zE aQ.o g6 (fun c=>by have:=Bc c;omega));clear i6 g6 ab ah;go_wp2_with fail
       go_meet
       ·exact⟨I6,G6,B6⟩
     ·
      obtain⟨I7,G7,B7⟩:=hcut;have bB:=rK 6 ha.2;have aR:=J (kD I7.o 6);have br:ha.1=r:=by rw[aH.o]
      rw[br] at al;clear aH br;generalize zr 6 ha.2=fk at*;obtain⟨Kn,s7⟩:=fk;simp only at aR al bB;generalize bs:yE Kn [] s7=rr at*;have bc:=J (bs.symm);clear bs;go_wp2_with fail;refine aR.o.mono ?_;rintro e w8 ⟨rfl,i8,g8⟩;have I8:=J (i8);have G8:=J (zD G7.o g8);have B8:=J (zE B7.o g8 (fun c=>by have:=Bc c;omega));clear i8 g8 aR I7 G7 B7;generalize wr=wo at*;go_wp2_with fail
      go_loopw [14] (fun iv wz=>∃(p:A R.Rl) (s9:T.St) (vR:Aj) (af:A (A Aj)),Z p<=Kn/\iv=O Ai (Z p)/\Y (rr=yE (Kn - Z p) p s9)/\Y (TInv wz tb (X va (Z b) vc) b s9)/\Y (wo.grownBy wz (V tb))/\Y (wz.heap[z.heap.size]?=V (Ae #[I (Aa r),vR] 119))/\Y (wz.ownsRow wo.heap.size 126 8 vR (Z p) af.flatten)/\Y (All2 (RuleVal wz) af p)) (fun iv _=>Kn - (intOf iv).toNat)
      ·exact⟨[],s7,_,[],Ax _,rfl,bc,I8,G8,B8,Bk _ _ _ _,.nil⟩
      ·
       obtain⟨p,s9,vR,af,b8,rfl,HQ,IZ,GZ,BZ,RZ,AZ⟩:=hrel;clear I8 G8 B8 bc;have cz:=IZ.o.bad;obtain⟨H,Q,rfl⟩:=zL RZ.o;have bJ:=cbi 0 BZ.o;have bK:=cbi 1 BZ.o;have ca:=zO BZ.o
       by_cases bL:Z p<Kn
       ·have bk:(Z p:Ak)<Kn:=by omega
        cases hbd:s9.bad
        ·rw[hbd] at cz
         have aI:Y (rr=yE (Kn - (Z p+1)) (p++[(jE s9).1]) (qP (jE s9).2 (match p.getLast? with | none=>true | some x=>decide (x.number<(jE s9).1.number)))):=by show _=_;rw[HQ.o,show Kn - Z p=Kn - (Z p+1)+1 by omega];exact aB _ _ _ hbd
         have aZ:=J (zg0 IZ.o);clear HQ;generalize jE s9=tr at*;obtain⟨d,bT⟩:=tr;simp only at aZ aI;go_wp2_with fail;refine aZ.o.mono ?_;rintro e wA ⟨cs,rfl,a4,iA,gA⟩;have a5:=IZ.o.safe (l:=rtags) (by decide);obtain⟨vM,vT,vS,vD,rfl,hM,hT,hS,hD⟩:=id a4;obtain⟨m1,m2,rfl⟩:=zL hM;obtain⟨t1,t2,rfl⟩:=zL hT;obtain⟨x1,x2,rfl⟩:=zL hS;obtain⟨d1,d2,rfl⟩:=zL hD;have bd:=J (a4);have IA:=J (iA);have GA:=J (zD GZ.o gA);have BA:=J (zE BZ.o gA (fun c=>by have:=Bc c;omega));have RA:=J (x7 RZ.o gA a5);have AA:=J (AZ.o.map fun a b hab=>hab.keep gA (jW a5));have zA:=gA.size;clear a4 iA gA a5 hM hT hS hD aZ IZ GZ BZ RZ AZ cz bJ bK;have gU:wA.grownBy (wA.alloc (Ae #[O Ai d.number,I (Aa d.path),X m1 (Z d.ms) m2,X t1 (Z d.tg) t2,Av d.change,I (Aa d.to),X x1 (Z d.sets) x2,X d1 (Z d.drops) d2] 126)) S:=Ac _ _ S;have IU:=J (IA.o.keep gU);have GU:Y (wo.grownBy (wA.alloc (Ae #[O Ai d.number,I (Aa d.path),X m1 (Z d.ms) m2,X t1 (Z d.tg) t2,Av d.change,I (Aa d.to),X x1 (Z d.sets) x2,X d1 (Z d.drops) d2] 126)) (V tb)):=zD GA.o (zT gU _);have BU:=J (zE BA.o gU);have UU:Y ((wA.alloc (Ae #[O Ai d.number,I (Aa d.path),X m1 (Z d.ms) m2,X t1 (Z d.tg) t2,Av d.change,I (Aa d.to),X x1 (Z d.sets) x2,X d1 (Z d.drops) d2] 126)).heap[wA.heap.size]?=V (Ae #[O Ai d.number,I (Aa d.path),X m1 (Z d.ms) m2,X t1 (Z d.tg) t2,Av d.change,I (Aa d.to),X x1 (Z d.sets) x2,X d1 (Z d.drops) d2] 126)):=Bn _ _;have RU:Y ((wA.alloc (Ae #[O Ai d.number,I (Aa d.path),X m1 (Z d.ms) m2,X t1 (Z d.tg) t2,Av d.change,I (Aa d.to),X x1 (Z d.sets) x2,X d1 (Z d.drops) d2] 126)).ownsRow wo.heap.size 126 8 (X H (Z p) Q) (Z p) af.flatten):=Ao RA.o _;have AU:Y (All2 (RuleVal (wA.alloc (Ae #[O Ai d.number,I (Aa d.path),X m1 (Z d.ms) m2,X t1 (Z d.tg) t2,Av d.change,I (Aa d.to),X x1 (Z d.sets) x2,X d1 (Z d.drops) d2] 126))) af p):=AA.o.map fun a b hab=>hab.keep gU (za _ _)
         have VU:Y (RuleVal (wA.alloc (Ae #[O Ai d.number,I (Aa d.path),X m1 (Z d.ms) m2,X t1 (Z d.tg) t2,Av d.change,I (Aa d.to),X x1 (Z d.sets) x2,X d1 (Z d.drops) d2] 126)) [O Ai d.number,I (Aa d.path),X m1 (Z d.ms) m2,X t1 (Z d.tg) t2,Av d.change,I (Aa d.to),X x1 (Z d.sets) x2,X d1 (Z d.drops) d2] d):=bd.o.keep gU (za _ _);have bF:Y (∀k,(X H (Z p) Q).ownBlock=V k->k<wA.heap.size):=fun k hk=>(An RA.o k hk).2
         clear gU IA GA BA RA AA bd;go_upto_region 20 with fail;generalize wA.alloc (Ae #[O Ai d.number,I (Aa d.path),X m1 (Z d.ms) m2,X t1 (Z d.tg) t2,Av d.change,I (Aa d.to),X x1 (Z d.sets) x2,X d1 (Z d.drops) d2] 126)=wU at*;obtain⟨an,aK⟩:∃an,Y (an=qP bT (match p.getLast? with | none=>true | some x=>decide (x.number<d.number))):=⟨_,rfl⟩;rw[<-aK.o] at aI
         go_cut [] from 93 to 108 (fun wx=>Y (TInv wx tb (X va (Z b) vc) b an)/\Y (wU.grownBy wx (V tb)))
         ·
          have ab:Y (∀bb,bb=(match p.getLast? with | none=>true | some x=>decide (x.number<d.number))->Am prog 141 #[Al (V ⟨tb,0,S⟩),Av bb] wU.drew fun e w'=>e=Af (Cm #[])/\TInv w' tb (X va (Z b) vc) b an/\wU.grownBy w' (V tb)):=fun bb hb=>by
           rw[aK.o,<-hb];exact(yP (IU.o.keep (zV _)) bb).mono fun e w' ⟨q1,q2,q3⟩=>⟨q1,q2,zD (zT (zV _) _) q3⟩
          have cH:=cbi 1 BU.o;have cU:=cbi 0 UU.o;have cf:Z p<=6:=by omega
          clear aI al aK bk bL;generalize E:Z p=n2 at*
          by_cases ag:n2=0
          ·have HZ:=J (ag)
           have h0:p=[]:=Ep.1 (by omega);have ah:Y (true=(match p.getLast? with | none=>true | some x=>decide (x.number<d.number))):=by show _=_;rw[h0];rfl
           clear h0 E ag;refine Va 15 (by kernel_rfl) (by kernel_rfl) ?_;simp only[Fk,Gm,In,Iw]
           iterate 4 still_step
           iterate 10 (refine Se (fun K hK=>?_);go_simp;rw[Az HZ.o];refine hK _ ?_;clear hK K)
           refine Se (fun K hK=>?_)
           go_simp
           rw[Az HZ.o];refine hK _ ?_;clear hK K;refine wpStill_nil ?_;go_wp2_with fail;show Am _ _ _ (Md wU) _;refine(ab.o _ ah.o).mono ?_;rintro e w6 ⟨rfl,i6,g6⟩;have I6:=J (i6);have G6:=J (g6);clear i6 g6 ab ah;go_wp2_with fail
           go_meet
           ·exact⟨I6,G6⟩
          ·have HZ:=J (ag)
           obtain⟨m,F⟩:∃m,Y (n2=m+1):=⟨n2 - 1,by show _=_;omega⟩;have am:m<Z p:=by rw[E,F.o];omega
           have bM:(m:Ak)<n2:=by rw[F.o];omega
           have ce:(n2:Ak) - 1=(m:Ak):=by rw[F.o];omega
           have hw:IntKind.i64.wrap (m:Ak)=(m:Ak):=by rw[IntKind.wrap_i64];omega
           obtain⟨gr,b6,e1,_,_⟩:=Bm RU.o (by omega);simp only[Au,Fb] at e1;obtain⟨rfl,rfl⟩:=e1;have cN:wU.cell? ⟨gr,m*8,S⟩=V (O Ai p[m].number):=by
            rw[Ap RU.o (m*8) (by rw[F.o];omega)];obtain⟨cs,h1,h2⟩:=fs AU.o m am;obtain⟨q1,q2,q3,q4,rfl,_⟩:=h1;exact h2 0 (by omega)
           have bx:Y (p.getLast?=V p[m]):=by show _=_;rw[Vl,E,F.o,Nat.add_sub_cancel,Bd am]
           generalize p[m]=rl' at*;clear E am F;have bO:0<n2:=by omega
           clear ag;refine Va 15 (by kernel_rfl) (by kernel_rfl) ?_;simp only[Fk,Gm,In,Iw]
           iterate 4 still_step
           iterate 10 (refine Se (fun K hK=>?_);go_simp;rw[Aw HZ.o];refine hK _ ?_;clear hK K)
           refine Se (fun K hK=>?_)
           go_simp
           refine hK _ ?_;clear hK K;refine wpStill_nil ?_;go_wp2_with fail;show Am _ _ _ (Md wU) _;refine(ab.o _ (by rw[bx.o];show _=decide (rl'.number<d.number);rw[show((n2:Ak) == 0)=false from(by rw[Ch];omega),Qq])).mono ?_;rintro e w6 ⟨rfl,i6,g6⟩;have I6:=J (i6);have G6:=J (g6);clear i6 g6 ab;go_wp2_with fail
           go_meet
           ·exact⟨I6,G6⟩
         ·
          obtain⟨IX,GX⟩:=hcut;have aN:=IU.o.safe (l:=rtags) (by decide);have BC:=J (zE BU.o GX.o (fun c=>by have:=Bc c;omega));have UC:=J (zE UU.o GX.o (fun c=>by have:=Bc c;omega));have RC:=J (x7 RU.o GX.o aN);have AC:=J (AU.o.map fun a b hab=>hab.keep GX.o (jW aN));have VC:=J (VU.o.keep GX.o (jW aN));have GC:=J (zD GU.o GX.o);have zC:=GC.o.size;have bI:=cbi 1 BC.o;have bU:=cbi 0 UC.o;have bV:=cbi 1 UC.o;have bW:=cbi 2 UC.o;have bX:=cbi 3 UC.o;have bY:=cbi 4 UC.o;have bZ:=cbi 5 UC.o;have b0:=cbi 6 UC.o;have b1:=cbi 7 UC.o;clear aN GX IU GU BU UU RU AU VU bF aK;go_wp2_with (at_builtin;refine Cu _ rfl _ _ 117 rfl wo.heap.size 126 i0 _ 8 144 underlying117 hi bQ bR bS rfl (by decide) _ _ _ rfl (Ao RC.o _) ⟨wc.heap.size,0,S⟩ 1 1 [O Ai d.number,I (Aa d.path),X m1 (Z d.ms) m2,X t1 (Z d.tg) t2,Av d.change,I (Aa d.to),X x1 (Z d.sets) x2,X d1 (Z d.drops) d2] rfl rfl ?c1 ?c2 ?c3 ?c4 ?c5 ?_)
          ·exact zZ _ #[_,_,_,_,_,_,_,_] _ _
          ·intro u hu;simp only[En,Ge,Mn] at hu;rcases hu with rfl | rfl | rfl | rfl | rfl | rfl | rfl | rfl <;> rfl
          ·unfold Bh;omega
          ·omega
          ·simp;omega
          intro v9 w9 t i _;obtain⟨aE,aF,rfl⟩:=zL t;have gO:wc.grownBy (wc.alloc (Ae #[O Ai d.number,I (Aa d.path),X m1 (Z d.ms) m2,X t1 (Z d.tg) t2,Av d.change,I (Aa d.to),X x1 (Z d.sets) x2,X d1 (Z d.drops) d2] 126)) S:=Ac _ _ S;have s:Safe (wc.alloc (Ae #[O Ai d.number,I (Aa d.path),X m1 (Z d.ms) m2,X t1 (Z d.tg) t2,Av d.change,I (Aa d.to),X x1 (Z d.sets) x2,X d1 (Z d.drops) d2] 126)) (X H (Z p) Q).ownBlock leaves:=xk (Ao RC.o _);have B:∀k,(X H (Z p) Q).ownBlock=V k->wo.heap.size<=k:=fun k hk=>(An RC.o k hk).1
          have I9:Y (TInv w9 tb (X va (Z b) vc) b an):=a9.o _ _ _ _ (IX.o.keep gO) i B;have G9:Y (wo.grownBy w9 (V tb)):=qI (zD GC.o (zT gO _)) i B;have B9:Y (w9.heap[z.heap.size]?=V (Ae #[I (Aa r),X H (Z p) Q] 119)):=zw (zE BC.o gO) i (zI (zE BC.o gO) (Ao RC.o _));have O9:Y (w9.ownsRow wo.heap.size 126 8 (X aE (Z p+1) aF) (Z (p++[d])) (af++([[O Ai d.number,I (Aa d.path),X m1 (Z d.ms) m2,X t1 (Z d.tg) t2,Av d.change,I (Aa d.to),X x1 (Z d.sets) x2,X d1 (Z d.drops) d2]]:A (A Aj))).flatten):=by rw[Ah,Eg];exact t
          have A9:Y (All2 (RuleVal w9) (af++([[O Ai d.number,I (Aa d.path),X m1 (Z d.ms) m2,X t1 (Z d.tg) t2,Av d.change,I (Aa d.to),X x1 (Z d.sets) x2,X d1 (Z d.drops) d2]]:A (A Aj))) (p++[d])):=(AC.o.snoc VC.o).map fun a b hab=>(hab.keep gO (za _ _)).keep i s
          have q9:=cbi 1 B9.o;have ch:=zm9 1 B9.o;clear t i gO s B IX BC UC RC AC VC GC bI bU bV bW bX bY bZ b0 b1;have gS:=zF w9 (z.heap.size) 1 (X aE (Z p+1) aF);have IS:Y (TInv (w9.setCell ⟨z.heap.size,1,S⟩ (X aE (Z p+1) aF)) tb (X va (Z b) vc) b an):=a9.o _ _ _ _ I9.o gS (fun k hk=>by have:=Bc hk;omega);have GS:=J (ze G9.o gS);have BS:Y ((w9.setCell ⟨z.heap.size,1,S⟩ (X aE (Z p+1) aF)).heap[z.heap.size]?=V (Ae #[I (Aa r),X aE (Z p+1) aF] 119)):=zH B9.o _;have OS:Y _:=zJ O9.o gS (zI B9.o O9.o);have AS:=J (A9.o.map fun a b hab=>hab.keep gS (xQ B9.o));clear gS I9 G9 B9 O9 A9;go_wp2_with fail
          go_roundw
          ·exact⟨p++[d],an,_,_,by simp;omega,by simp,by rw[Ah];exact aI,IS,GS,BS,OS,AS⟩
          ·simp[intOf];omega
        ·rw[hbd] at cz
         have aa:Y (rr=(p,s9)):=by show _=_;rw[HQ.o,show Kn - Z p=Kn - (Z p+1)+1 by omega,yE,hbd];rfl
         clear HQ;have aU:Y (aj=yj (N - (Z f+1)) (f++[⟨r,p⟩]) s9):=by show _=_;rw[al.o,aa.o]
         clear al aa;have ao:=a0.o.safe (l:=htags) (by decide);have ad:=J (x7 HO.o GZ.o ao);have ar:=J (HA.o.map fun a b hab=>hab.keep GZ.o (jW ao));have av:Y (HostVal wr [I (Aa r),X H (Z p) Q] ⟨r,p⟩):=⟨_,rfl,RulesRowB.zero ⟨af,RZ.o,AZ.o⟩⟩;have ak:=J (zD GR.o GZ.o);have b2:=ak.o.size;clear ao HO HA GR RZ AZ;have ax:Y (∀j u,([I (Aa r),X H (Z p) Q]:A Aj)[j]?=V u->(wr.alloc (Ae #[I (Aa r),X H (Z p) Q] 119)).cell? ((⟨wr.heap.size,0,S⟩:Eu).add j)=V u):=zZ wr #[_,_] _ _ rfl;have ay:Y (∀u∈([I (Aa r),X H (Z p) Q]:A Aj),u.oneCell'=true):=by intro u hu;simp only[En,Ge,Mn] at hu;rcases hu with rfl | rfl <;> rfl
         have az:Y (Z f+1<=Bh):=by show _<=_;unfold Bh;omega
         have aC:Y ((Z f+1)*40<=140737488355328):=by show _<=_;omega
         have aD:Y (wa.heap.size<=(wr.alloc (Ae #[I (Aa r),X H (Z p) Q] 119)).heap.size):=by show _<=_;simp;omega
         go_upto_region 22 with fail;go_wp2_with (at_builtin;refine Cu _ rfl _ _ 67 rfl wa.heap.size 119 i1 _ 2 40 underlying67 hj bo bp bq rfl (by decide) _ _ _ rfl (Ao ad.o _) ⟨wr.heap.size,0,S⟩ 1 1 [I (Aa r),X H (Z p) Q] rfl rfl ax.o ay.o az.o aC.o aD.o ?_);intro v9 w9 t i _;have gO:wr.grownBy (wr.alloc (Ae #[I (Aa r),X H (Z p) Q] 119)) S:=Ac _ _ S;have s:Safe (wr.alloc (Ae #[I (Aa r),X H (Z p) Q] 119)) (X ua (Z f) uc).ownBlock rtags:=xk (Ao ad.o _);have B:∀k,(X ua (Z f) uc).ownBlock=V k->wa.heap.size<=k:=fun k hk=>(An ad.o k hk).1
         have I9:Y (TInv w9 tb (X va (Z b) vc) b s9):=au.o _ _ _ _ (IZ.o.keep gO) i B;have G9:Y (wa.grownBy w9 (V tb)):=qI (zD ak.o (zT gO _)) i B;have O9:Y (w9.ownsRow wa.heap.size 119 2 v9 (Z (f++[(⟨r,p⟩:Fp)])) (ai++([[I (Aa r),X H (Z p) Q]]:A (A Aj))).flatten):=by rw[Ah,Eg];exact t
         have A9:Y (All2 (HostVal w9) (ai++([[I (Aa r),X H (Z p) Q]]:A (A Aj))) (f++[(⟨r,p⟩:Fp)])):=(ar.o.snoc av.o).map fun a b hab=>(hab.keep gO (za _ _)).keep i s
         clear t i gO s B IZ ad ar av ak GZ BZ ax ay az aC aD;go_wp2_with fail
         go_roundw
         ·exact⟨f++[⟨r,p⟩],s9,_,by simp;omega,by simp,by rw[Ah];exact aU,I9,G9,O9,A9⟩
         ·simp[intOf];omega
       ·have bk:¬(Z p:Ak)<Kn:=by omega
        have aa:Y (rr=(p,s9)):=by show _=_;rw[HQ.o,show Kn - Z p=0 by omega];rfl
        clear HQ;have aU:Y (aj=yj (N - (Z f+1)) (f++[⟨r,p⟩]) s9):=by show _=_;rw[al.o,aa.o]
        clear al aa;have ao:=a0.o.safe (l:=htags) (by decide);have ad:=J (x7 HO.o GZ.o ao);have ar:=J (HA.o.map fun a b hab=>hab.keep GZ.o (jW ao));have av:Y (HostVal wr [I (Aa r),X H (Z p) Q] ⟨r,p⟩):=⟨_,rfl,RulesRowB.zero ⟨af,RZ.o,AZ.o⟩⟩;have ak:=J (zD GR.o GZ.o);have b2:=ak.o.size;clear ao HO HA GR RZ AZ;have ax:Y (∀j u,([I (Aa r),X H (Z p) Q]:A Aj)[j]?=V u->(wr.alloc (Ae #[I (Aa r),X H (Z p) Q] 119)).cell? ((⟨wr.heap.size,0,S⟩:Eu).add j)=V u):=zZ wr #[_,_] _ _ rfl;have ay:Y (∀u∈([I (Aa r),X H (Z p) Q]:A Aj),u.oneCell'=true):=by intro u hu;simp only[En,Ge,Mn] at hu;rcases hu with rfl | rfl <;> rfl
        have az:Y (Z f+1<=Bh):=by show _<=_;unfold Bh;omega
        have aC:Y ((Z f+1)*40<=140737488355328):=by show _<=_;omega
        have aD:Y (wa.heap.size<=(wr.alloc (Ae #[I (Aa r),X H (Z p) Q] 119)).heap.size):=by show _<=_;simp;omega
        go_upto_region 22 with fail;go_wp2_with (at_builtin;refine Cu _ rfl _ _ 67 rfl wa.heap.size 119 i1 _ 2 40 underlying67 hj bo bp bq rfl (by decide) _ _ _ rfl (Ao ad.o _) ⟨wr.heap.size,0,S⟩ 1 1 [I (Aa r),X H (Z p) Q] rfl rfl ax.o ay.o az.o aC.o aD.o ?_);intro v9 w9 t i _;have gO:wr.grownBy (wr.alloc (Ae #[I (Aa r),X H (Z p) Q] 119)) S:=Ac _ _ S;have s:Safe (wr.alloc (Ae #[I (Aa r),X H (Z p) Q] 119)) (X ua (Z f) uc).ownBlock rtags:=xk (Ao ad.o _);have B:∀k,(X ua (Z f) uc).ownBlock=V k->wa.heap.size<=k:=fun k hk=>(An ad.o k hk).1
        have I9:Y (TInv w9 tb (X va (Z b) vc) b s9):=au.o _ _ _ _ (IZ.o.keep gO) i B;have G9:Y (wa.grownBy w9 (V tb)):=qI (zD ak.o (zT gO _)) i B;have O9:Y (w9.ownsRow wa.heap.size 119 2 v9 (Z (f++[(⟨r,p⟩:Fp)])) (ai++([[I (Aa r),X H (Z p) Q]]:A (A Aj))).flatten):=by rw[Ah,Eg];exact t
        have A9:Y (All2 (HostVal w9) (ai++([[I (Aa r),X H (Z p) Q]]:A (A Aj))) (f++[(⟨r,p⟩:Fp)])):=(ar.o.snoc av.o).map fun a b hab=>(hab.keep gO (za _ _)).keep i s
        clear t i gO s B IZ ad ar av ak GZ BZ ax ay az aC aD;go_wp2_with fail
        go_roundw
        ·exact⟨f++[⟨r,p⟩],s9,_,by simp;omega,by simp,by rw[Ah];exact aU,I9,G9,O9,A9⟩
        ·simp[intOf];omega
    ·rw[hbad] at cb
     have aa:Y (aj=(f,st)):=by show _=_;rw[HL.o,show N - Z f=N - (Z f+1)+1 by omega,yj,hbad];rfl
     have ae:Y (tL b=(f,st)):=by show _=_;rw[<-aw.o];exact aa.o
     clear HL aw aa;have aq:=hbad
     by_cases bH:False
     ·exact bH.elim
     ·have aV:Y (∀C,VHs C->x4 C≠b):=fun C h1 h2=>by
       have h3:=(mV C h1).2;rw[h2,ae.o] at h3;rw[aq] at h3;cases h3
      have ap:Y (w.grownBy wr S):=ze aS.o GR.o (by rw[aY.o];exact Aq _);clear HO HA ae GR IR au;go_wp2
      go_ret2
      exact⟨ap.o,Bf ⟨aV.o,_,rfl⟩⟩
   ·have bn:¬(Z f:Ak)<N:=by omega
    have aa:Y (aj=(f,st)):=by show _=_;rw[HL.o,show N - Z f=0 by omega];rfl
    have ae:Y (tL b=(f,st)):=by show _=_;rw[<-aw.o];exact aa.o
    clear HL aw aa
    cases aq:st.bad
    ·rw[aq] at cb
     obtain⟨C,aM,a2⟩:=zgQ (b:=b) (by rw[ae.o];exact aq);have bC:=J (aM);have bG:f=C.map toR:=by rw[ae.o] at a2;exact a2
     subst bG;simp only[Bv] at bn;have aT:Y (HostsRow wr 0 (X ua (Z C) uc) (C.map toR)):=by
      have h:=HO.o;rw[Bv] at h;exact⟨ai,by rw[Bv];exact zo h (Ax _),HA.o⟩
     have aX:Y (Am prog 92 #[X ua (Z C) uc] wr (Gives wr (x4 C))):=by
      have h:=na _ (C.map toR) aT.o (by rw[Bv];have:=aM.hl;omega) (fun x hx=>by obtain⟨y,hy,rfl⟩:=Hr.1 hx;exact zgY (aM.hosts y hy));rw[be] at h;exact h
     have HU:Y (∀q,VHs q->x4 q=b->q=C):=fun q h1 h2=>by
      have h3:=(mV q h1).1;rw[h2,ae.o] at h3;exact zlB h3.symm
     have ap:Y (w.grownBy wr S):=ze aS.o GR.o (by rw[aY.o];exact Aq _);have bf:=J (IR.o.rd);clear aM a2 HO HA ae GR IR au;obtain⟨pk,aW⟩:∃pk,Y (pk=x4 C):=⟨_,rfl⟩;rw[<-aW.o] at aX;go_wp2_with fail;refine aX.o.mono ?_;rintro e wP ⟨aP,kP,rfl,hP,gP⟩;have bh:=J (RdO.of_row hP);have bg:Y (RdO wP (X va (Z b) vc) b):=bf.o.keep gP (fun g o n c e c2=>by cases c2);have GP:=J (zD ap.o gP);have bA:Y (HostsRow wP 0 (X ua (Z C) uc) (C.map toR)):=aT.o.keep gP (za _ _);have b4:(convert 32 9 (X aP (Z pk) kP)).run prog wP.drew = .ok (I (Aa pk)) wP.drew:=j8 (bh.o.keep (zV _) (fun g o n c e c2=>by cases c2));have b5:(convert 32 9 (X va (Z b) vc)).run prog wP.drew = .ok (I (Aa b)) wP.drew:=j8 (bg.o.keep (zV _) (fun g o n c e c2=>by cases c2));clear hP gP aX bh bg bf ap aT;go_wp2
     go_region
     all_goals
      go_wp2
      go_ret2
      have GD:w.grownBy wP.drew S:=zD GP.o (zV _);have bz:HostsRow wP.drew 0 (X ua (Z C) uc) (C.map toR):=bA.o.keep (zV _) (za _ _);have a8:((Aa pk).toList == (Aa b).toList)=decide (pk=b):=by
       rw[El,El,Be,Be,Eb];simp
      refine⟨GD,?_⟩
      by_cases aL:pk=b
      ·refine Ay ⟨C,X ua (Z C) uc,bC.o,aW.o.symm.trans aL,?_,bz⟩
       show Af (Cm #[X ua (Z C) uc,Av ((Aa pk).toList == (Aa b).toList)])=_;rw[a8];simp[aL]
      ·refine Bf ⟨fun q h1 h2=>aL (by rw[aW.o,<-HU.o q h1 h2];exact h2),X ua (Z C) uc,?_⟩
       show Af (Cm #[X ua (Z C) uc,Av ((Aa pk).toList == (Aa b).toList)])=_;rw[a8];simp[aL]
    ·rw[aq] at cb
     have aV:Y (∀C,VHs C->x4 C≠b):=fun C h1 h2=>by
      have h3:=(mV C h1).2;rw[h2,ae.o] at h3;rw[aq] at h3;cases h3
     have ap:Y (w.grownBy wr S):=ze aS.o GR.o (by rw[aY.o];exact Aq _);clear HO HA ae GR IR au;go_wp2
     go_ret2
     exact⟨ap.o,Bf ⟨aV.o,_,rfl⟩⟩
theorem zdC (lt:α->α->Bool)(a:∀x,lt x x=false)(c:∀x y z,lt x y=true->lt y z=true->lt x z=true)(b:∀x y z,lt x y=false->lt y z=false->lt x z=false)(l:A α) :
  ∃p:A α,p.Perm l/\p.Pairwise (fun x y=>lt y x=false):=by
 refine⟨l.mergeSort (fun x y=>!lt y x),List.mergeSort_perm _ _,?_⟩
 grind[List.mergeSort_perm,List.pairwise_mergeSort,Bool.not_eq_true']
theorem zcC (b:A P.Hst):∃hs',SrtH b hs':=by
 obtain⟨p,c,d⟩:=zdC (fun x y:P.Hst=>Go.Sort.ltStr x.name y.name) (fun x=>Hk.irrefl _) (fun x y z=>Hk.trans _ _ _) (fun x y z=>Hk.ntrans _ _ _) b;have a:∀rs:A P.Rl,∃q:A P.Rl,q.Perm rs/\q.Pairwise (fun x y=>Mw y.number x.number=false):=fun rs=>
  zdC (fun x y:P.Rl=>Mw x.number y.number) (fun x=>Nl.irrefl _) (fun x y z=>Nl.trans _ _ _) (fun x y z=>Nl.ntrans _ _ _) rs
 refine⟨p.map fun h=>⟨h.name,(a h.rules).choose⟩,p,c,d,by simp,fun j a1 a2=>?_⟩;rw[Ha];exact⟨rfl,(a p[j].rules).choose_spec.1,(a p[j].rules).choose_spec.2⟩
theorem zdB (h:(xg l).1=0):∃b,VHs b/\qx (Gw l).1=b.map toR/\yz l=x4 b:=by
 have c:(xA l).1=0:=by rw[vg];exact h
 obtain⟨m,d,f⟩:=m8 c;obtain⟨g,e⟩:=co l m d f;rw[e] at g;obtain⟨b,a⟩:=zcC (zp l).1;obtain⟨i,j,k⟩:=mB l d f;exact⟨b,dt a i j k,by rw[e];exact(zcB a g).symm,(zd4 c a).1⟩
def L.st (l:A Ab)(i:Ad):A Aj:=Ba l++(Hs i (O Bp 77)++Hs (8-i) (O Bp 0))
theorem ziX (l:A Ab)(i:Ad)(h:i<=8):Z (L.st l i)=Z l+8:=by grind[L.st,List.length_append,xU]
theorem zl6 (l:A Ab)(b_0 b:A Aj)(a:b_0=Ba l)(d:b=(madeCells #[O Bp 0] (Z l+8)).toList):splice b 0 b_0=L.st l 0:=by
 have c:Z b_0=Z l:=by rw[a,xU]
 unfold splice L.st;rw[Gm,Hc,d,lF,List.drop_replicate,Gr,c,a];simp
theorem zlZ (l:A Ab)(i:Ad)(h:i<8):(L.st l i).set (Z l+i) (O Bp 77)=L.st l (i+1):=by
 unfold L.st;rw[Mg _ _ (by rw[xU];omega),xU,Ow,Mg _ _ (by simp),Hx,Gp,show 8-i=(8-(i+1))+1 by omega,List.replicate_succ,Vp,List.replicate_succ'];simp
abbrev Hi0 (a):=Ae (L.st a 8).toArray 5 (0,0)
theorem rh {H:Br Eu}{q:Ad}(hr:RdO w (X H (Z l) q) l)(hl:Z l<=1000000000000)(B:H=S->l=[]):Am prog 94 #[X H (Z l) q] w fun e w'=>∃g vin,e=Af (Cm #[X (V ⟨g,0,S⟩) (Z l+8) (Z l+8),vin])/\w.heap.size<=g/\w'.heap[g]?=V (Hi0 l)/\w.grownBy w' S/\RdO w' vin l/\∀k,vin.ownBlock=V k->k=g:=by
 obtain⟨i0,hi,al,E,am⟩:=Ej jD;have aa:=J (hr);have ak:(prog.info? 5).map (·.size)=V 1:=by rw[hi];simp[E]
 obtain⟨F,f⟩:∃F,Y (F=(madeCells #[O Bp 0] (Z l+8)).toList):=⟨_,rfl⟩;have aj:Z F=Z l+8:=by rw[f.o];simp[madeCells]
 obtain⟨b_0,r⟩:∃b_0,Y (b_0=Ba l):=⟨_,rfl⟩;have y:Y (Z b_0=Nat.min (Z l) (Z l+8)):=by show _=_;rw[r.o,xU];exact(Vj (by omega)).symm
 have ae:Z b_0=Z l:=by rw[r.o,xU]
 go_in;go_wp2_with (at_make;refine wpList_make_full _ rfl _ _ 32 rfl w.heap.size 5 i0 (O Bp 0) 1 underlying32 hi al E _ _ _ _ (Z l+8) rfl rfl rfl rfl ?b2 ?b3 (Aq _) ?_)
 ·rw[am];omega
 ·unfold Bh;omega
 intro w1 c a;have n:=J (a);have s:=J (nF c f.o);go_wp2_with (refine wpList_copy_splice rfl _ _ 32 32 rfl 5 underlying32 ak _ _ (Z l+8) (Z l+8) (Z l) q rfl rfl w.heap.size 0 F 5 s.o b_0 y.o ?hpos ?hfit ?h1 w.heap.size w (qh n.o) (Aq _) ?_)
 ·
  intro hp;rcases aa.o with ⟨_,_,_,h2⟩|⟨g,o,c',e1,_,_,h3⟩
  ·rw[h2] at hp;simp at hp
  ·simp only[Au] at e1
   obtain⟨rfl,_,_⟩:=e1;refine⟨_,rfl,fun j u hu=>?_⟩;rw[r.o] at hu;unfold Ba at hu;rw[Fq,Oz] at hu;obtain⟨x,hx,rfl⟩:=hu;rw[bV];exact(n.o.cell (h3 j x hx) (by simp))
 ·omega
 ·rw[r.o];exact vo _
 intro w2 z m;have t:Y (w2.heap[w.heap.size]?=V (Ae (L.st l 0).toArray 5 (0,0))):=by rw[<-zl6 l b_0 F r.o f.o];exact z
 have v:=J (zt m);go_wp2_with fail
 go_loopw [5] (fun iv wr=>∃j:Ad,j<=8/\iv=O Ai (Z l+j:Ad)/\Y (wr.heap[w.heap.size]?=V (Ae (L.st l j).toArray 5 (0,0)))/\Y (w.grownBy wr S)) (fun iv _=>Z l+8-(intOf iv).toNat)
 ·exact⟨0,by omega,rfl,t,v⟩
 ·
  obtain⟨j,hj,rfl,b,d⟩:=hrel;have ah:=ziX l j hj
  by_cases ai:j<8
  ·have ao:((Z l+j:Ad):Ak)<((Z l+8:Ad):Ak):=by omega
   have ap:(Z l:Ak)+j<Z l+8:=by omega
   obtain⟨u0,C⟩:∃u0,(L.st l j)[Z l+j]?=V u0:=⟨_,Bd (by omega)⟩;have cj:wr.cell? ⟨w.heap.size,Z l+j,S⟩=V u0:=by rw[zB b.o];simpa using C
   have fj:wr.frozen? ⟨w.heap.size,Z l+j,S⟩=false:=zG b.o;have N:Y ((wr.setCell ⟨w.heap.size,Z l+j,S⟩ (O Bp 77)).heap[w.heap.size]?=V (Ae (L.st l (j+1)).toArray 5 (0,0))):=by
    have h:=zH b.o (i:=Z l+j) (O Bp 77);show _=_;rw[<-zlZ l j ai]
    simpa using h
   have Q:Y (w.grownBy (wr.setCell ⟨w.heap.size,Z l+j,S⟩ (O Bp 77)) S):=ze d.o (zF _ _ _ _) (Aq _);go_wp2_with fail
   go_roundw
   ·exact⟨j+1,by omega,by go_num,N,Q⟩
   ·simp[intOf];omega
  ·have af:j=8:=by omega
   subst af;have ab:Y (∀W:Ag,W.heap[w.heap.size]?=V (Hi0 l)->∀j u,l[j]?=V u->W.cell? ⟨w.heap.size,0+j,S⟩=V (O Bp u.toNat)):=fun W hW j u hu=>by
    have ag:j<Z l:=(Bo.1 hu).1;rw[zB hW,Gr];have:(L.st l 8)[j]?=V (O Bp u.toNat):=by
     unfold L.st;rw[Cx (by rw[xU];exact ag)];unfold Ba;rw[Fq,hu];rfl
    simpa using this
   cases H with
   |none=>
    obtain rfl:=B rfl;have hq:∀W,(binOp .eql 32 (X S 0 q) (X S 0 0)).run prog W = .ok (Av true) W:=fun W=>Lib.run_eql_slice_nil W _ _ S 0 q 0 0 underlying32
    go_wp2
    go_ret2
    exact⟨w.heap.size,X S 0 0,rfl,Aq _,b.o,d.o,Ay ⟨S,0,rfl,rfl⟩,fun k e=>by cases e⟩
   |some ad=>
    have an:Z l<=Z l+8:=by omega
    have hq:∀W,(binOp .eql 32 (X (V ad) (Z l) q) (X S 0 0)).run prog W = .ok (Av false) W:=fun W=>Lib.run_eql_slice_nil W _ _ (V ad) (Z l) q 0 0 underlying32
    go_wp2
    go_region
    all_goals
     go_wp2
     go_ret2
     have p:=zE b.o (zV wr);exact⟨w.heap.size,X (V ⟨w.heap.size,0,S⟩) (Z l) (Z l+8),rfl,Aq _,p,zD d.o (zV _),Bf ⟨w.heap.size,0,Z l+8,rfl,by omega,zO p,ab.o _ p⟩,fun k e=>(Bc e).symm⟩
def L.cl (l:A Ab)(i:Ad):A Aj:=Hs i (O Bp 99)++(L.st l 8).drop i
theorem zm5 (l:A Ab)(i:Ad):(L.cl l i)[i]?=(L.st l 8)[i]?:=by grind[L.cl,L.st]
theorem zlL (l:A Ab)(i:Ad)(h:i<Z l+8):(L.cl l i).set i (O Bp 99)=L.cl l (i+1):=by
 unfold L.cl;rw[Mg _ _ (by simp),Hx,Gp,Ed (i:=i) (by rw[ziX l 8 (by omega)];exact h),Vp,List.replicate_succ'];simp
theorem zlY (l:A Ab)(i:Ad)(h:i<Z l):(L.st l 8)[i]?=V (O Bp l[i].toNat):=by
 unfold L.st;rw[Cx (by rw[xU];exact h)];unfold Ba;rw[Fq,Bd h];rfl
theorem zl5 (l:A Ab)(i:Ad)(a:Z l<=i)(b:i<Z l+8):(L.st l 8)[i]?=V (O Bp 77):=by grind[L.st,List.getElem?_append_right,xU,List.getElem?_append_left]
theorem rg {g:Ad}{u:Br Eu}{C:Ad}(y:w.heap[g]?=V (Hi0 l))(B:RdO w (X u (Z l) C) l)(r:l=[]\/∀d o,u=V ⟨d,o,S⟩->d≠g)(hl:Z l<=1000000000000):Am prog 95 #[X (V ⟨g,0,S⟩) (Z l+8) (Z l+8),X u (Z l) C] w fun e w'=>e=Af (Av true)/\w.grownBy w' (V g):=by
 have k:=J (B);have j:=J (r);have m:=J (y);go_in;go_wp2_with fail
 go_loopw [5,6] (fun ov iv wr=>∃i:Ad,i<=Z l+8/\ov=Av true/\iv=O Ai i/\Y (wr.heap[g]?=V (Ae (L.cl l i).toArray 5 (0,0)))/\Y (w.grownBy wr (V g))) (fun _ iv _=>Z l+8-(intOf iv).toNat)
 ·exact⟨0,Ax _,rfl,rfl,m,zP _ _⟩
 ·
  obtain⟨i,H,rfl,rfl,b,c⟩:=hrel
  by_cases t:i<Z l+8
  ·have F:(i:Ak)<Z l+8:=by omega
   have f:wr.cell? ⟨g,i,S⟩=(L.st l 8)[i]?:=by rw[zB b.o,<-zm5 l i];simp
   have Q:wr.frozen? ⟨g,i,S⟩=false:=zG b.o;have n:Y (∀W,wr.grownBy W S->(W.setCell ⟨g,i,S⟩ (O Bp 99)).heap[g]?=V (Ae (L.cl l (i+1)).toArray 5 (0,0))):=fun W hW=>by
    have h:=zH (zE b.o hW) (i:=i) (O Bp 99);rw[<-zlL l i t]
    simpa using h
   have p:Y (∀W,wr.grownBy W S->w.grownBy (W.setCell ⟨g,i,S⟩ (O Bp 99)) (V g)):=fun W hW=>zD (zD c.o (zT hW _)) (zF _ _ _ _)
   by_cases a:i<Z l
   ·have s:(i:Ak)<Z l:=by omega
    obtain⟨d,o,rfl,N,E⟩:∃d o,u=V ⟨d,o,S⟩/\d≠g/\wr.cell? ⟨d,o+i,S⟩=V (O Bp l[i].toNat):=by
     rcases k.o with ⟨_,_,_,h2⟩|⟨d,o,c',e1,_,_,h3⟩
     ·rw[h2] at a;simp at a
     ·simp only[Au,Fb] at e1
      have z:d≠g:=by
       rcases j.o with q|q
       ·rw[q] at a;simp at a
       ·exact q d o e1.1
      exact⟨d,o,e1.1,z,c.o.cell (h3 i _ (Bd a)) (by simpa using z)⟩
    rw[zlY l i a] at f;generalize l[i]=x at*;go_wp2_with fail;go_quiet (fail);go_wp2_with fail;exact⟨⟨i+1,by omega,rfl,by go_num,n.o _ (x3 _ _),p.o _ (x3 _ _)⟩,by simp[intOf];omega⟩
   ·have s:¬(i:Ak)<Z l:=by omega
    rw[zl5 l i (by omega) t] at f;go_wp2_with fail
    go_roundw
    ·exact⟨i+1,by omega,rfl,by go_num,n.o _ (zP _ _),p.o _ (zP _ _)⟩
    ·simp[intOf];omega
  ·have v:i=Z l+8:=by omega
   subst v;go_wp2;go_ret;exact⟨rfl,c.o⟩
theorem VRl.ub {r:P.Rl}(h:VRl r):UBr r where
 num:=h.num
 path:=by have:=h.pl;omega
 ml:=by have:=h.ml;omega
 ms:=fun m hm=>⟨by have:=(h.ms m hm).nl;omega,by have:=(h.ms m hm).vl;omega⟩
 tl:=by have:=h.tl;omega
 tg:=fun t ht=>⟨by have:=(h.tg t ht).ul;omega,by have:=(h.tg t ht).lo;omega,by have:=(h.tg t ht).hi;omega⟩
 rep:=by rcases h.rep with e|e;rw[e];simp;omega
 sl:=by have:=h.sl;omega
 sets:=fun t ht=>⟨by have:=(h.sets t ht).nl;omega,by have:=(h.sets t ht).vl;omega⟩
 dl:=by have:=h.dl;omega
 drops:=fun t ht=>by have:=(h.drops t ht).nl;omega
theorem VHst.ub {x:P.Hst}(h:VHst x):UBh x:=⟨by have:=h.nl;omega,by have:=h.rl;omega,fun r hr=>(h.rules r hr).ub⟩
theorem VHs.lines {a:A P.Hst}(h:VHs a):Z (a.map fun h=>R.hostLines (toR h)).flatten<=70000000000:=by
 have b:=h.hl;have c:=R.flat_len (fun h:P.Hst=>R.hostLines (toR h)) 256000000 a (fun x hx=>(h.hosts x hx).ub.lines)
 omega
theorem zbM (C:RdO w v b)(h:∀g o n c,v=X (V ⟨g,o,S⟩) n c->g<w.heap.size)(z:Z b<=140737488355328)(y:Glob w)(s:GT w):Am prog 19 #[v] w fun e w'=>w.grownBy w' S/\((∃d,VHs d/\x4 d=b/\e=Af (Cm #[I (Aa (Ic (d.map toR))),O Ai 0]))\/((∀d,VHs d->x4 d≠b)/\e=Af (Cm #[I ⟨#[]⟩,O Ai 6]))):=by
 have q:=J (zeT C h z y s);have r:=J (s);go_in;go_wp2_with fail;refine q.o.mono ?_;rintro e k ⟨i,⟨d,a,c,h,B,rfl,f⟩|⟨j,rfl⟩⟩
 ·have l:k.grownBy (k.alloc (Ae #[X a (Z d) c] 88)) S:=Ac _ _ S
  have t:Y (Am prog 42 #[.agg #[X a (Z d) c]] (k.alloc (Ae #[X a (Z d) c] 88)) fun e w'=>e=Af (I (Aa (Ic (d.map toR))))/\w.grownBy w' S):=by
   refine(tu _ d (f.keep l (za _ _)) (by have:=h.hl;omega) (by have:=h.lines;omega) (fun x hx=>(h.hosts x hx).ub.small) (r.o.grown (zD i l))).mono ?_;rintro e w' ⟨N,Q⟩;exact⟨N,zD (zD i l) Q⟩
  have F:=J (h);have p:=J (B);have H:(k.alloc (Ae #[X a (Z d) c] 88)).cell? ⟨k.heap.size,0,S⟩=V (X a (Z d) c):=zB (Bn _ _);go_wp2_with fail;refine t.o.mono ?_;rintro e w2 ⟨rfl,u⟩;have m:=J (u);go_wp2
  go_ret2
  exact⟨m.o,Ay ⟨d,F.o,p.o,rfl⟩⟩
 ·have E:=J (j)
  have m:=J (i);go_wp2
  go_ret2
  exact⟨zD m.o (Ac _ _ S),Bf ⟨E.o,rfl⟩⟩
theorem gR {b:Br Eu}{j:Ad}(hr:RdO w (X b (Z l) j) l)(hv:l≠[]->∀g o,b=V ⟨g,o,S⟩->g<w.heap.size)(N:b=S->l=[])(hl:Z l<=1000000000000)(hG:Glob w)(hT:GT w):Am prog 57 #[X b (Z l) j] w fun e w'=>e=Af (Av true)/\w.grownBy w' S:=by
 have aa:=J (hr);have h:=J (hv);have HG:=J (hG);have HT:=J (hT);have H1:=J (rh hr hl N);clear hr hv hG hT;go_in;go_wp2_with fail;refine H1.o.mono ?_;rintro e w1 ⟨g,ad,rfl,H,r,g1,s,Q⟩;have G1:=J (g1);have C:=J (r);have ab:=zO r;obtain⟨ia,ic,rfl,_⟩:=s.form;have H2:Y (Am prog 19 #[X ia (Z l) ic] w1 fun e w'=>w1.grownBy w' S/\((∃hs,VHs hs/\x4 hs=l/\e=Af (Cm #[I (Aa (Ic (hs.map toR))),O Ai 0]))\/((∀hs,VHs hs->x4 hs≠l)/\e=Af (Cm #[I ⟨#[]⟩,O Ai 6])))):=zbM s (fun g' o n c e=>by rw[Q g' (by rw[e];rfl)];exact ab) (by omega) (HG.o.grown g1) (HT.o.grown g1);clear r g1 s Q;go_wp2_with fail;refine H2.o.mono ?_;rintro e w2 ⟨g2,F⟩;have m:=J (zE C.o g2);have z:=J (zD G1.o g2);have d:Y (RdO w2 (X b (Z l) j) l):=aa.o.keep z.o (fun g o n c e c2=>by cases c2);have H3:Y (Am prog 95 #[X (V ⟨g,0,S⟩) (Z l+8) (Z l+8),X b (Z l) j] w2 fun e w'=>e=Af (Av true)/\w2.grownBy w' (V g)):=rg m.o d.o (by
  by_cases v:l=[]
  ·exact Ay v
  ·exact Bf fun g' o e=>by have:=h.o v g' o e;omega) hl
 clear g2;rcases F with ⟨hs,hvs,hpk,rfl⟩|⟨hno,rfl⟩
 ·go_wp2_with fail
  refine H3.o.mono ?_;rintro e t ⟨rfl,q⟩;have k:=J (ze z.o q H);have f:RdO t (X b (Z l) j) l:=by
   by_cases i:l=[]
   ·subst i;exact Ay ⟨b,j,rfl,rfl⟩
   ·exact d.o.keep q (fun g' o n c e c2=>by
     simp only[Au] at e;have:=h.o i g' o e.1;have:=Bc c2;omega)
  have B:Y (Am prog 96 #[X b (Z l) j] t fun e w'=>t.grownBy w' S/\((∃hs u,VHs hs/\x4 hs=l/\e=Af (Cm #[u,Av true])/\HostsRow w' 0 u (hs.map toR))\/((∀hs,VHs hs->x4 hs≠l)/\∃u,e=Af (Cm #[u,Av false])))):=ng f (fun v g' o n c e=>by
   simp only[Au] at e;have:=h.o v g' o e.1;exact Eh this k.o.size)
  clear q f;go_wp2_with fail;refine B.o.mono ?_;rintro e w4 ⟨E,a⟩;have G4:=J (zD k.o E);clear E;have HN:Y (∀n W,Am prog 36 #[O Ai n] W fun e w'=>e=Af (O Ai n)/\w'=W):=fun n W=>tD n W
  rcases a with ⟨hs2,u,hv2,hp2,rfl,hrow⟩|⟨hno,_⟩
  ·have he:hs2=hs:=by rw[<-mf hs2 hv2,<-mf hs hvs,hp2,hpk]
   subst he;obtain⟨ua,uc,rfl⟩:∃ua uc,u=X ua (Z (hs2.map toR)) uc:=by obtain⟨css,h1,_⟩:=hrow;exact zL h1
   have p:Y (Am prog 35 #[X ua (Z (hs2.map toR)) uc] w4 fun e w'=>e=Af (I (Aa (Ic (hs2.map toR))))/\w.grownBy w' S):=(sS _ (hs2.map toR) hrow (by rw[Bv];have:=hvs.hl;omega) (fun x hx=>by obtain⟨y,hy,rfl⟩:=Hr.1 hx;exact(hvs.hosts y hy).ub.small)).mono fun e w' ⟨q1,q2⟩=>⟨q1,zD G4.o q2⟩
   rw[Bv] at p ⊢;clear hrow hvs hv2 hpk hp2;generalize Ic (hs2.map toR)=pl at*;go_wp2_with fail;refine p.o.mono ?_;rintro e w5 ⟨rfl,g5⟩;have G5:=J (g5);clear g5;go_wp2_with (go_at_call 36;refine(HN.o _ _).mono ?_;rintro e w' ⟨rfl,rfl⟩);go_ret;exact⟨rfl,G5.o⟩
  ·exact absurd hpk (hno hs hvs)
 ·go_wp2_with fail
  refine H3.o.mono ?_;rintro e t ⟨rfl,q⟩;have k:=J (ze z.o q H);have f:RdO t (X b (Z l) j) l:=by
   by_cases i:l=[]
   ·subst i;exact Ay ⟨b,j,rfl,rfl⟩
   ·exact d.o.keep q (fun g' o n c e c2=>by
     simp only[Au] at e;have:=h.o i g' o e.1;have:=Bc c2;omega)
  have B:Y (Am prog 96 #[X b (Z l) j] t fun e w'=>t.grownBy w' S/\((∃hs u,VHs hs/\x4 hs=l/\e=Af (Cm #[u,Av true])/\HostsRow w' 0 u (hs.map toR))\/((∀hs,VHs hs->x4 hs≠l)/\∃u,e=Af (Cm #[u,Av false])))):=ng f (fun v g' o n c e=>by
   simp only[Au] at e;have:=h.o v g' o e.1;exact Eh this k.o.size)
  clear q f;go_wp2_with fail;refine B.o.mono ?_;rintro e w4 ⟨E,a⟩;have G4:=J (zD k.o E);clear E;have HN:Y (∀n W,Am prog 36 #[O Ai n] W fun e w'=>e=Af (O Ai n)/\w'=W):=fun n W=>tD n W
  rcases a with ⟨hs2,u,hv2,hp2,_,_⟩|⟨_,u,rfl⟩
  ·exact absurd hp2 (hno hs2 hv2)
  ·clear hno
   go_wp2_with (go_at_call 36;refine(HN.o _ _).mono ?_;rintro e w' ⟨rfl,rfl⟩);go_ret;exact⟨rfl,G4.o⟩
theorem nH (a:A P.Hst):Z (x4 a)=Z (xM a)+4:=by unfold x4 xF;simp
theorem rj {b B:Ad}{p o q:Aj}{es:A (Aj×Ad×Ad)}(h:L.Inv w b B p o q es)(s:As)(C:s.size<=Bh)(hB:B<=w.heap.size)(aw:Z es<=100000000)(hG:Glob w):Am prog 56 #[Al (V ⟨b,0,S⟩),I s] w fun e w'=>e=Af (Av true)/\∃a i f,Z a=4/\w.heap[b]?=V (Ae #[p,i,f,o,q] 77 (0,0))/\L.Inv w' b B p o q (es++a)/\Turn w w' (L.F b i f (X S 0 0))/\L.Fr w' b w.heap.size f a:=by
 have H0:=J (h);have ab:=J (zi3 s w C hG);have ae:Y (∀W,Am prog 34 #[I s] W fun e w'=>∃v,e=Af (Cm #[v,O Ai (xg s.data.toList).1,O Ai (xg s.data.toList).2])/\Below W.heap.size W w'/\((xg s.data.toList).1=0->HostsRow w' W.heap.size v (qx (Gw s.data.toList).1))):=fun W=>bA s W C
 have t:Y ((xg s.data.toList).1=0->∃E,VHs E/\qx (Gw s.data.toList).1=E.map toR/\yz s.data.toList=x4 E):=fun h=>zdB h
 have r:Y ((xg s.data.toList).1≠0->yz s.data.toList=[]):=fun h=>by unfold yz;rw[Aw h]
 clear hG h;generalize yz s.data.toList=pt at*;generalize xg s.data.toList=er at*;generalize qx (Gw s.data.toList).1=hsr at*;obtain⟨m,ax⟩:=er;simp only at ab ae t r;have HN:Y (∀W,Am prog 36 #[O Ai m] W fun e w'=>e=Af (O Ai m)/\w'=W):=fun W=>tD m W
 go_in;go_wp2_with fail;refine ab.o.mono ?_;rintro e w1 ⟨a1,k1,rfl,am,g1⟩;have ak:=J (am);have G1:=J (g1);clear am g1 ab;go_wp2_with fail;refine(ae.o w1).mono ?_;rintro e H ⟨v,rfl,al,an⟩;have g2:=zt al;have G2:=J (zD G1.o g2);have l:Y (H.ownsRow w.heap.size 5 1 (X a1 (Z pt) k1) (Z pt) (Ba pt)):=zK ak.o g2 (fun _ _ c=>by cases c);have Q:=J (an);clear al an ae g2 ak G1;have j:Y (∀(W:Ag),w.grownBy W S->W.ownsRow w.heap.size 5 1 (X a1 (Z pt) k1) (Z pt) (Ba pt)->Z pt<=1000000000->Am prog 93 #[Al (V ⟨b,0,S⟩),X a1 (Z pt) k1] W fun e w'=>e=Af (Cm #[])/\∃a i f,Z a=4/\w.heap[b]?=V (Ae #[p,i,f,o,q] 77 (0,0))/\L.Inv w' b B p o q (es++a)/\Turn w w' (L.F b i f (X S 0 0))/\L.Fr w' b w.heap.size f a):=fun W hW d ai=>by
  refine(zeG (H0.o.keep hW) a1 (Z pt) k1 w.heap.size _ d hB hW.size (fun e he g hg=>(An (H0.o.all e he) g hg).2) aw ai).mono ?_;rintro e w' ⟨rfl,a,i,f,q1,q2,q3,q4,q5⟩;obtain⟨aq,ar,c1,c2,c3⟩:=H0.o.ex;have hq:=zE c1 hW (by simp);rw[hq] at q2;simp only[Ey,Obj.cells.injEq] at q2;have e1:aq=i/\ar=f:=by have:=q2.1;simp at this;exact this
  obtain⟨rfl,rfl⟩:=e1;refine⟨rfl,a,aq,ar,q1,c1,q3,⟨q4.os.trans hW.os,q4.tape.trans hW.tape,q4.output.trans hW.output,Bi hW.size q4.size,fun k hk hn=>(q4.block k (Eh hk hW.size) (fun hF=>?_)).trans (hW.block k hk (by simp))⟩,q5⟩;rcases hF with z|z|z|z
  ·exact hn (Ay z)
  ·exact hn (Bf (Ay z))
  ·exact hn (Bf (Bf (Ay z)))
  ·have:=(An d k z).1;omega
 by_cases ag:m=0
 ·subst ag
  obtain⟨E,n,ap,ah⟩:=t.o rfl;have d:=Q.o rfl;rw[ap] at d;obtain⟨ua,uc,rfl⟩:∃ua uc,v=X ua (Z (E.map toR)) uc:=by obtain⟨css,h1,_⟩:=d;exact zL h1
  have aa:Y (Am prog 92 #[X ua (Z (E.map toR)) uc] H (Gives H pt)):=by
   have h:=na _ (E.map toR) d (by rw[Bv];have:=n.hl;omega) (fun x u=>by obtain⟨y,hy,rfl⟩:=Hr.1 u;exact zgY (n.hosts y hy));rw[be,<-ah] at h;exact h
  have ai:Z pt<=1000000000:=by
   rw[ah,nH];have h1:=xx qX 8000 E (fun x u=>aJ (n.hosts x u).pk);have:=n.hl;unfold xM;rw[Ah];simp;omega
  rw[Bv] at aa ⊢;clear d n ap ah t r Q;go_wp2_with fail;refine aa.o.mono ?_;rintro e w3 ⟨a3,k3,rfl,ao,g3⟩;have G3:=J (zD G2.o g3);have ad:Y (w3.ownsRow w.heap.size 5 1 (X a1 (Z pt) k1) (Z pt) (Ba pt)):=zK l.o g3 (fun _ _ c=>by cases c);have au:=j8 (RdO.of_row ad.o);have av:=j8 (RdO.of_row ao);have N:=J (j.o w3 G3.o ad.o ai);clear ao g3 G2 l aa j ad;go_wp2_with (first
   |(go_at_call 36;refine(HN.o _).mono ?_;rintro e w' ⟨rfl,rfl⟩)
   |(go_at_call 93;refine N.o.mono ?_;rintro e w4 ⟨rfl,u⟩;have af:Y (∃a i f,Z a=4/\w.heap[b]?=V (Ae #[p,i,f,o,q] 77 (0,0))/\L.Inv w4 b B p o q (es++a)/\Turn w w4 (L.F b i f (X S 0 0))/\L.Fr w4 b w.heap.size f a):=u;clear u))
  go_ret;exact⟨rfl,af.o⟩
 ·have aj:=J (r.o ag)
  have ay:(m == 0)=false:=by rw[Ch];exact ag
  have au:(convert 32 9 (X a1 (Z pt) k1)).run prog H = .ok (I ⟨#[]⟩) H:=by
   have h:=j8 (RdO.of_row l.o);rw[show Aa pt=⟨#[]⟩ by rw[aj.o];rfl] at h;exact h
  have av:=t8 H S 0;have N:Y (Am prog 93 #[Al (V ⟨b,0,S⟩),X a1 (Z pt) k1] H fun e w'=>e=Af (Cm #[])/\∃a i f,Z a=4/\w.heap[b]?=V (Ae #[p,i,f,o,q] 77 (0,0))/\L.Inv w' b B p o q (es++a)/\Turn w w' (L.F b i f (X S 0 0))/\L.Fr w' b w.heap.size f a):=j.o H G2.o l.o (by rw[aj.o];simp);clear t r Q j G2 l;go_wp2_with (first
   |(go_at_call 36;refine(HN.o _).mono ?_;rintro e w' ⟨rfl,rfl⟩)
   |(go_at_call 93;refine N.o.mono ?_;rintro e w4 ⟨rfl,u⟩;have af:Y (∃a i f,Z a=4/\w.heap[b]?=V (Ae #[p,i,f,o,q] 77 (0,0))/\L.Inv w4 b B p o q (es++a)/\Turn w w4 (L.F b i f (X S 0 0))/\L.Fr w4 b w.heap.size f a):=u;clear u))
  go_ret;exact⟨rfl,af.o⟩
theorem lB (c:Ak)(n:Ad)(w:Ag)(h:-9223372036854775808<=c)(i:c<9223372036854775808)(d:0<n)(g:n<9223372036854775808:=by omega):Am prog 60 #[O Ai c,O Ai n] w fun e w'=>(∃k:Ad,k<n/\e=Af (O Ai k))/\w'=w:=by
 by_cases j:c<0
 ·obtain⟨m,b⟩:∃m:Ad,c = -(m:Ak)-1:=⟨(-c-1).toNat,by omega⟩
  have f:m<9223372036854775808:=by omega
  have a:m % n<n:=Nat.mod_lt _ d;subst b;go_in;go_wp2;go_ret;refine⟨⟨m % n,a,?_⟩,rfl⟩;show Af (O Ai ((m:Ak) % (n:Ak)))=_
  go_num
 ·obtain⟨m,b⟩:∃m:Ad,c=(m:Ak):=⟨c.toNat,by omega⟩
  have a:m % n<n:=Nat.mod_lt _ d;subst b;go_in;go_wp2;go_ret;refine⟨⟨m % n,a,?_⟩,rfl⟩;show Af (O Ai ((m:Ak) % (n:Ak)))=_
  go_num
theorem zlE (a b:Ak):∃r:Ab,bits .xor Bp a b=(r.toNat:Ak):=by
 have h:∃x:Ak,bits .xor Bp a b=IntKind.u8.wrap x:=⟨_,rfl⟩;obtain⟨x,d⟩:=h;have c:IntKind.u8.wrap x=x % 256:=rfl;rw[d,c];refine⟨Cb (x % 256).toNat,?_⟩;rw[Qc]
 omega
def zgN (w:Ag)(e:Ending)(w':Ag):Prop:=∃a k,∃l:A Ab,e=Af (X a (Z l) k)/\w'.ownsRow w.heap.size 5 1 (X a (Z l) k) (Z l) (Ba l)/\w.grownBy w' S/\(Z l)<=1000000000
theorem zhL (s:As)(c:Ak)(n:Ad)(w:Ag)(z:s.size<=Bh)(Q:-9223372036854775808<=c)(h2:c<9223372036854775808):Am prog 58 #[I s,O Ai c,O .u64 n] w (zgN w):=by
 have o:=J (bA s w z);have f:Y ((xg s.data.toList).1=0->∃j,VHs j/\qx (Gw s.data.toList).1=j.map toR/\yz s.data.toList=x4 j):=fun h=>zdB h
 generalize yz s.data.toList=pt at*;generalize xg s.data.toList=er at*;generalize qx (Gw s.data.toList).1=hsr at*;obtain⟨q,ah⟩:=er;simp only at o f;go_in;go_wp2_with fail;refine o.o.mono ?_;rintro e w1 ⟨v,rfl,t,B⟩;have N:=J (zt t);have l:=J (B);clear t B o
 by_cases u:q=0
 ·subst u
  obtain⟨j,d,E,i⟩:=f.o rfl;have a:=l.o rfl;rw[E] at a;obtain⟨ua,uc,rfl⟩:∃ua uc,v=X ua (Z (j.map toR)) uc:=by obtain⟨css,Q,_⟩:=a;exact zL Q
  have m:Y (Am prog 92 #[X ua (Z (j.map toR)) uc] w1 (Gives w1 pt)):=by
   have h:=na _ (j.map toR) a (by rw[Bv];have:=d.hl;omega) (fun x hx=>by obtain⟨y,hy,rfl⟩:=Hr.1 hx;exact zgY (d.hosts y hy));rw[be,<-i] at h;exact h
  have af:Z pt<=1000000000:=by
   rw[i,nH];have Q:=xx qX 8000 j (fun x hx=>aJ (d.hosts x hx).pk);have:=d.hl;unfold xM;rw[Ah];simp;omega
  have ag:0<Z pt:=by
   rw[i,nH];omega
  rw[Bv] at m ⊢;clear a d E i f l;go_wp2_with fail;refine m.o.mono ?_;rintro e w3 ⟨a3,k3,rfl,C,g3⟩;have G3:=J (zD N.o g3);have b:=J (zo C N.o.size);have p:=J (lB c (Z pt) w3 Q h2 ag);clear C g3 m N;go_wp2_with fail;refine p.o.mono ?_;rintro e wX ⟨⟨k,hk,rfl⟩,H⟩;rw[H];clear H wX p;obtain⟨g,gc,e1,ad,_⟩:=Bm b.o (by omega);simp only[Au,Fb] at e1;obtain⟨rfl,rfl⟩:=e1;have ai:(k:Ak)<Z pt:=by omega
  have ab:=xU pt;have ck:w3.cell? ⟨g,k,S⟩=V (O Bp (pt[k].toNat:Ad)):=by
   rw[Ap b.o k (by omega)];unfold Ba;simp[hk]
  have fk:=World.ownsRow.frozenAt b.o k;obtain⟨r,hx⟩:=zlE (pt[k].toNat:Ak) ((n:Ak) % 256);obtain⟨F,ae⟩:=World.ownsRow.stored b.o k (O Bp (r.toNat:Ad));have aa:Y ((w3.setCell ⟨g,k,S⟩ (O Bp (r.toNat:Ad))).ownsRow w.heap.size 5 1 (X (V ⟨g,0,S⟩) (Z pt) k3) (Z pt) (Ba (pt.set k r))):=by
   have e:Ba (pt.set k r)=(Ba pt).set k (O Bp (r.toNat:Ad)):=by unfold Ba;rw[List.map_set]
   rw[e];exact F
  have G4:Y (w.grownBy (w3.setCell ⟨g,k,S⟩ (O Bp (r.toNat:Ad))) S):=ze G3.o (zF _ _ _ _) ad;clear F ae b G3 ab;generalize pt[k]=pk at*;go_wp2;go_ret;have e:Z (pt.set k r)=Z pt:=Gv;refine⟨V ⟨g,0,S⟩,k3,pt.set k r,?_,?_,G4.o,?_⟩
  ·rw[e];rfl
  ·rw[e];exact aa.o
  ·rw[e];exact af
 ·have aj:(q == 0)=false:=by rw[Ch];exact u
  clear f l;go_wp2;go_ret;exact⟨S,0,[],rfl,Bk _ _ _ _,N.o,by simp⟩
theorem Turn.of_grown {F:Ad->Prop}(g:w.grownBy w' S):Turn w w' F:=⟨g.os,g.tape,g.output,g.size,fun k hk _=>g.block k hk (by simp)⟩
structure L.Arg (w:Ag) (s:As) (sa:Br Eu) (sc:Ad) (l:A Ab):Prop where
 sz:s.size<=Bh
 rd:RdO w (X sa (Z l) sc) l
 bk:l≠[]->∀g o,sa=V ⟨g,o,S⟩->g<w.heap.size
 nil:sa=S->l=[]
 ln:Z l<=1000000000000
theorem L.Arg.keep {s:As}{b:Br Eu}{d:Ad}(h:L.Arg w s b d l)(a:w.grownBy w' S):L.Arg w' s b d l:=
 ⟨h.sz,h.rd.keep a (fun _ _ _ _ _ c=>by cases c),fun h0 g o e=>Eh (h.bk h0 g o e) a.size,h.nil,h.ln⟩
end Go.Proofs.YtfocdefchbnkpaaGreatDoor
