import Derived.Test.YtfocdefchbnkpaaGreatDoorProR
import Derived.Test.YtfocdefchbnkpaaGreatDoorRefN
import Derived.Shelf.Strings.Repeat
import Derived.Shelf.Strings.OnBuilder
import Derived.Shelf.Strconv.Itoa3
set_option maxRecDepth 100000
set_option maxHeartbeats 20000000
open Go renaming Value->Aj,World->Ag,Addr->Eu,maxLen->Bh,Calls->Am,info_parts->Ej
open Go.Ending renaming returned->Af
open Go.IntKind renaming u8->Bp,i64->Ai
open Go.Lib renaming index->Es,cut->Ca,contains->Sx
open Go.Obj renaming cells->Ae
open Go.Proofs.YtfocdefchbnkpaaGreatDoor.R renaming St->Bw,Tok->Bx,overS->Hn,notS->Cw,needS->Cg,kindS->Fg,cur->Bj,among->Ip,amongN->Mu,Ok->So,num->Gk,pathS->Hu,path->Hp,valueS->Ir,headerS->Mj,Mt->Nt,mtLoop->On,lower->Cj,tgLoop->Gb,stLoop->Ie,dpLoop->Nf,Rl->Gn,ruleS->Nw,ruleE->Sb,rlA->Qw,rlB->My,matchesS->If,targetsS->Hg,rlC->Qi,editsS->Il,isB->Fz,rlA2->Xv,rlLoop->Nd,Hst->Fp,hostS->Mm,hsLoop->Ns,readS->Gw,at0->Me,span->By,insideI->Gc,smallI->Ek,digitI->Ck,signI->Oy,tend->Qe,toksGo->Nc,notS_bad->Gl,needS_bad->Ig,value->Gz,header->Ft,wHost->Hy,upstream->Hf,named->Hq,str->Aa,q->Fi,str_size->Bz,lnMt->Gg,dec->Sm,decI->Hz,lnTg->Hv,lnTgs->Ho,lnSet->Em,lnDrop->Cz,lnTo->Sw,lnHead->Vd,lines->Fu,hostLines->Ex,plain->Ic,numStep->Sk,partI->Ih,lowC->Mi,word->Gx,allB->Ec,labelsGo->Ht
open Go.Shelf renaming Ren->Ij
open Go.Sort renaming SWO->Vh,ltStr->Iy,swo_ltStr->Hk
open Go.Value renaming int->O,slice->X,pointer->Al,tuple->Cm,string->I,bool->Av
open Go.Value.slice renaming injEq->Au
open Go.World renaming grownBy_alloc->Ac
open Go.World.ownsRow renaming cellAt->Ap,lt->An,alloc->Ao
open List renaming replicate->Hs,length->Z
open Nat renaming strongRecOn->Xp
open Option renaming none->S,some->V
open Or renaming inl->Ay,inr->Bf
open Prod renaming fst->Bq
open UInt8 renaming ofNat->Cb
open _root_ renaming Bool->Ee,Int->Ak,List->A,UInt8->Ab,Nat->Ad,Option->Br,ByteArray->As
namespace Go.Proofs.YtfocdefchbnkpaaGreatDoor
open Go.RowKit Tryz
def Fine (st:Bw):Prop:=st.bad<0/\st.E=0
theorem rU {t:Bx}{st:Bw}{a:Ee}(h:Fine (Hn t st a)):Fine st/\a=true:=by grind[Hn,Bx,Bw,Fine]
theorem yq {st:Bw}{b:Ee}{e a:Ak}(c:e≠0)(h:Fine (Cw st b e a)):Fine st/\b=true:=by grind[Cw,Bw,Fine]
variable {ts:A Bx}
theorem xV {st:Bw}{s:A Ab}(h:Fine (Cg ts st s)):Fine st:=(rU h).1
theorem kK {st:Bw}{k:Ak}(h:Fine (Fg ts st k)):Fine st/\(Bj ts st).k=k:=by grind[rU,Bx,Bw,Fine,Fg,Bj]
theorem mz {s:A Ab}{p:Ak}:∀(l:A (A Ab)) {st:Bw},Fine (Ip l s p st)->Fine st/\s ∉ l:=by
 intro l
 induction l <;> grind[Cw,yq,Bw,Fine,Ip]
theorem iX {s:Ak}{p:Ak}:∀(l:A Ak) {st:Bw},Fine (Mu l s p st)->Fine st/\s ∉ l:=by
 intro l
 induction l <;> grind[Cw,yq,Bw,Fine,Mu]
theorem kn (a:So ts)(st:Bw):Z (Bj ts st).s<=3000:=by grind[Bj,Bx,So,Bw]
theorem zcS (a:So ts)(st:Bw)(b:(Bj ts st).k=49):0<=Gk (Bj ts st).s/\Gk (Bj ts st).s<=99999:=by grind[Bj,Bx,So,Bw,Gk]
theorem rV {st:Bw}(h:Fine (Hu ts st).2):Fine st/\Hp (Hu ts st).1=true:=by grind[yq,kK,Bx,Bw,Fine,Hu,Hp]
theorem n7 {st:Bw}(h:Fine (Ir ts st).2):Fine st:=xV (kK (yq (by decide) h).1).1
theorem fT {st:Bw}{l:A (A Ab)}(h:Fine (Mj ts st l).2):Fine st:=
 (kK (yq (by decide) (mz l h).1).1).1
theorem zeQ {l:A Ab}(h:Hp l=true):l≠[]:=by
 intro e;subst e;simp[Hp] at h
def FewM (l:A Nt):Prop:=Z l<=3/\∀m∈l,Z m.name<=3000/\(Z m.val)<=3000
theorem ie (c:So ts)(n:Ad):∀(st:Bw) (a:A Nt),Fine (On ts n st a).2->Fine st/\(FewM a->FewM (On ts n st a).1):=by
 induction n with
 |zero=>intro st a h;exact⟨h,id⟩
 |succ n ih=>
  intro st a h;unfold On at h ⊢
  split at h
  ·rename_i hb
   rw[Az hb];obtain⟨f,g⟩:=ih _ _ h;have d:=xV f;have i:Fine (jK ts st (Z a)).2:=by
    unfold wj at d;split at d
    ·exact n7 d
    ·exact d
   obtain⟨j,k⟩:=yq (by decide) (fT i);refine⟨xV j,fun ha=>g ⟨?_,?_⟩⟩
   ·have:Z a<3:=by have:=Iz k;omega
    unfold yK;simp;omega
   ·intro m b
    unfold yK at b;rcases Ea.1 b with b|b
    ·exact ha.2 m b
    ·simp at b;subst b
     refine⟨by show(Z (Cj _))<=3000;rw[kx];exact kn c _,?_⟩;show(Z (wj ts (jK ts st (Z a)).2).1)<=3000;unfold wj;split
     ·exact kn c _
     ·simp
  ·rename_i hb;rw[Aw hb];exact⟨h,id⟩
def FewT (i:Ad)(l:A (A Ab×Ak)):Prop:=i<=4/\(Z l)<=i/\∀t∈l,Z t.1<=3000/\0<=t.2/\t.2<=99999
theorem ii (c:So ts)(n:Ad):∀(st:Bw) (i:Ad) (a:A (A Ab×Ak)),Fine (Gb ts n st i a).2->Fine st/\(FewT i a->∃j,FewT j (Gb ts n st i a).1):=by
 induction n with
 |zero=>intro st i a h;exact⟨h,fun h=>⟨i,h⟩⟩
 |succ n ih=>
  intro st i a h;unfold Gb at h ⊢
  split at h
  ·rename_i hb
   rw[Az hb];have g:∀(k:Fine (qJ ts st i a).1),Fine st/\(FewT i a->FewT (i+1) (qJ ts st i a).2):=by
    intro k;obtain⟨l,w⟩:=yq (by decide) k;obtain⟨m,x⟩:=yq (by decide) l;obtain⟨o,p⟩:=yq (by decide) m;obtain⟨q,r⟩:=kK o;obtain⟨s,_⟩:=kK q;have y:i<4:=by have:=Iz p;omega
    refine⟨s,fun ha=>⟨by omega,?_,?_⟩⟩
    ·have:=ha.2.1
     unfold qJ;simp only;split
     ·simp;omega
     ·omega
    ·intro t b
     unfold qJ at b;simp only at b
     split at b
     ·rcases Ea.1 b with b|b
      ·exact ha.2.2 t b
      ·simp at b;subst b
       exact⟨kn c _,zcS c _ r⟩
     ·exact ha.2.2 t b
   split at h
   ·rename_i hc
    rw[Az hc];obtain⟨u,v⟩:=ih _ _ _ h;obtain⟨d,f⟩:=g (xV u);exact⟨d,fun ha=>v (f ha)⟩
   ·rename_i hc
    rw[Aw hc];obtain⟨d,f⟩:=g h;exact⟨d,fun ha=>⟨_,f ha⟩⟩
  ·rename_i hb;rw[Aw hb];exact⟨h,fun h=>⟨i,h⟩⟩
def FewS (l:A (A Ab×A Ab)):Prop:=Z l<=3/\∀m∈l,Z m.1<=3000/\(Z m.2)<=3000
theorem ig (c:So ts)(n:Ad):∀(st:Bw) (a:A (A Ab×A Ab)),Fine (Ie ts n st a).2->Fine st/\(FewS a->FewS (Ie ts n st a).1):=by
 induction n with
 |zero=>intro st a h;exact⟨h,id⟩
 |succ n ih=>
  intro st a h;unfold Ie at h ⊢
  split at h
  ·rename_i hb
   rw[Az hb];obtain⟨d,f⟩:=ih _ _ h;obtain⟨g,i⟩:=yq (by decide) (fT (n7 (xV d)));refine⟨xV g,fun ha=>f ⟨?_,?_⟩⟩
   ·have:Z a<3:=by have:=Iz i;omega
    unfold yL;simp;omega
   ·intro m b
    unfold yL at b;rcases Ea.1 b with b|b
    ·exact ha.2 m b
    ·simp at b;subst b
     exact⟨by show(Z (Cj _))<=3000;rw[kx];exact kn c _,kn c _⟩
  ·rename_i hb;rw[Aw hb];exact⟨h,id⟩
def FewD (l:A (A Ab)):Prop:=Z l<=3/\∀m∈l,Z m<=3000
theorem iY (d:So ts)(b:A (A Ab))(n:Ad):∀(st:Bw) (a:A (A Ab)),Fine (Nf ts b n st a).2->Fine st/\(FewD a->FewD (Nf ts b n st a).1):=by
 induction n with
 |zero=>intro st a h;exact⟨h,id⟩
 |succ n ih=>
  intro st a h;unfold Nf at h ⊢
  split at h
  ·rename_i hb
   rw[Az hb];obtain⟨f,g⟩:=ih _ _ h;obtain⟨i,j⟩:=yq (by decide) (fT (xV f));refine⟨xV i,fun ha=>g ⟨?_,?_⟩⟩
   ·have:Z a<3:=by have:=Iz j;omega
    unfold yJ;simp;omega
   ·intro m c
    unfold yJ at c;rcases Ea.1 c with c|c
    ·exact ha.2 m c
    ·simp at c;subst c
     show(Z (Cj _))<=3000;rw[kx];exact kn d _
  ·rename_i hb;rw[Aw hb];exact⟨h,id⟩
def GoodRl (r:Gn):Prop:=R.Small r/\(r.change=true->r.to≠[])
theorem ze9 (b:So ts)(st:Bw)(i:Ad)(a:A Ak)(h:Fine (Nw ts st i a).2):Fine st/\i<6/\(Nw ts st i a).1.number ∉ a/\GoodRl (Nw ts st i a).1:=by
 unfold Nw R.ruleT Sb at h ⊢;simp only at h ⊢;generalize hA:Qw ts st i a=b_0 at*;generalize hB:My ts b_0.2=B at*;generalize hM:If ts B.2=M at*;generalize hT:Hg ts M.2=T at*;generalize hC:Qi ts T.2=C at*;have q:=xV h;unfold Il at q;simp only at q;obtain⟨h2,H⟩:=iY b _ _ _ _ q;obtain⟨o,N⟩:=ig b _ _ _ h2;have hc:Fine T.2/\(Z C.1)<=3000/\(Fz T.2 (Bj ts T.2) qK=true->C.1≠[]):=by
  rw[<-hC] at o ⊢;unfold Qi at o ⊢
  split at o
  ·rename_i n
   rw[Az n];obtain⟨d,f⟩:=rV (xV o);exact⟨xV d,kn b _,fun _=>zeQ f⟩
  ·rename_i n
   rw[Aw n];exact⟨o,by simp,fun e=>absurd e n⟩
 obtain⟨m,x,y⟩:=hc;have c:Fine M.2/\∃j,FewT j T.1:=by
  rw[<-hT] at m ⊢;unfold Hg at m ⊢;obtain⟨d,f⟩:=ii b _ _ _ _ (xV m);exact⟨xV (yq (by decide) d).1,f ⟨by decide,by simp,fun t c=>by simp at c⟩⟩
 obtain⟨l,j,z⟩:=c;have hm:Fine B.2/\FewM M.1:=by
  rw[<-hM] at l ⊢;unfold If at l ⊢;obtain⟨d,f⟩:=ie b _ _ _ l;exact⟨d,f ⟨by simp,fun t c=>by simp at c⟩⟩
 obtain⟨k,p⟩:=hm;have n:Fine b_0.2/\(Z B.1)<=3000:=by
  rw[<-hB] at k ⊢;unfold My at k ⊢;exact⟨xV (xV (rV (xV k)).1),kn b _⟩
 obtain⟨g,w⟩:=n;have ha:Fine st/\i<6/\b_0.1 ∉ a/\0<=b_0.1/\b_0.1<=99999:=by
  rw[<-hA] at g ⊢;unfold Qw Xv at g ⊢;obtain⟨d,f⟩:=iX _ g;obtain⟨Q,g4⟩:=yq (by decide) d;obtain⟨g5,g6⟩:=kK Q;obtain⟨g7,g8⟩:=yq (by decide) g5;exact⟨xV g7,by have:=Iz g8;omega,f,zcS b _ g6⟩
 obtain⟨r,s,u,v⟩:=ha;have F:=N ⟨by simp,fun t c=>by simp at c⟩;have E:=H ⟨by simp,fun t c=>by simp at c⟩;refine⟨r,s,u,⟨v,w,⟨by have:=p.1;simp only;omega,p.2⟩,⟨by have:=z.1;have:=z.2.1;simp only;omega,z.2.2⟩,x,⟨by have:=F.1;unfold Il;simp only;omega,F.2⟩,⟨by have:=E.1;unfold Il;simp only;omega,E.2⟩⟩,y⟩
def GoodRs (l:A Gn):Prop:=Z l<=6/\(l.map R.Rl.number).Pairwise (·≠·)/\∀r∈l,GoodRl r
theorem gL (f:So ts)(n:Ad):∀(st:Bw) (c:A Gn),Fine (Nd ts n st c).2->Fine st/\(GoodRs c->GoodRs (Nd ts n st c).1):=by
 induction n with
 |zero=>intro st c h;exact⟨h,id⟩
 |succ n ih=>
  intro st c h;unfold Nd at h ⊢
  split at h
  ·rename_i hb
   rw[Az hb];obtain⟨g,i⟩:=ih _ _ h;obtain⟨j,m,k,l⟩:=ze9 f _ _ _ g;refine⟨j,fun ha=>i ⟨by rw[Ah];simp;omega,?_,?_⟩⟩
   ·rw[Ef,Fx]
    refine⟨ha.2.1,by simp,fun a hm b hb2=>?_⟩;simp at hb2;subst hb2;exact fun e=>k (e ▸ hm)
   ·intro r d
    rcases Ea.1 d with d|d
    ·exact ha.2.2 r d
    ·simp at d;subst d;exact l
  ·rename_i hb;rw[Aw hb];exact⟨h,id⟩
def GoodHst (h:Fp):Prop:=Z h.name<=3000/\GoodRs h.rules
theorem ze8 (b:So ts)(st:Bw)(a:A (A Ab))(h:Fine (Mm ts st a).2):Fine st/\(Z a)<4/\(Mm ts st a).1.name ∉ a/\GoodHst (Mm ts st a).1:=by
 unfold Mm R.hsB at h ⊢;simp only at h ⊢;obtain⟨c,d⟩:=gL b _ _ _ (xV h);have f:=xV c;have g:=d ⟨by simp,.nil,fun r hr=>by simp at hr⟩
 grind[Mm,R.hsB,gL,xV,R.hsA,R.hsA2,mz,kK,yq,Cj,kx,kn,Bx,So,Bw,Fine,GoodHst]
def GoodHs (l:A Fp):Prop:=Z l<=4/\(l.map R.Hst.name).Pairwise (·≠·)/\∀r∈l,GoodHst r
theorem iZ (f:So ts)(n:Ad):∀(st:Bw) (c:A Fp),Fine (Ns ts n st c).2->Fine st/\(GoodHs c->GoodHs (Ns ts n st c).1):=by
 induction n with
 |zero=>intro st c h;exact⟨h,id⟩
 |succ n ih=>
  intro st c h;unfold Ns at h ⊢
  split at h
  ·rename_i hb
   rw[Az hb];obtain⟨g,i⟩:=ih _ _ h;obtain⟨j,k,l,m⟩:=ze8 f _ _ g;refine⟨j,fun ha=>i ⟨by rw[Ah];simp at k ⊢;omega,?_,?_⟩⟩
   ·rw[Ef,Fx]
    refine⟨ha.2.1,by simp,fun a hm b hb2=>?_⟩;simp at hb2;subst hb2;exact fun e=>l (e ▸ hm)
   ·intro r d
    rcases Ea.1 d with d|d
    ·exact ha.2.2 r d
    ·simp at d;subst d;exact m
  ·rename_i hb;rw[Aw hb];exact⟨h,id⟩
theorem zfU (l:A Ab)(b:Z l<=3000)(h:Fine (Gw l).2):GoodHs (Gw l).1:=by
 obtain⟨a,_⟩:=R.toks_ok l b;exact(iZ a _ _ _ h).2 ⟨by simp,.nil,fun r hr=>by simp at hr⟩
def L.sg (k n m:Ad):A Aj:=(List.range m).map fun i=>O Bp (xR k (n+i):Ad)
theorem fE (k n m:Ad):Z (L.sg k n m)=m:=by simp[L.sg]
theorem dE (k n m p:Ad)(h:p<=m):(L.sg k n m).take p=L.sg k n p:=by
 unfold L.sg;rw[<-List.map_take,List.take_range,Vj h]
theorem mG (k n m:Ad):L.sg k 0 n++L.sg k n m=L.sg k 0 (n+m):=by
 unfold L.sg;rw[List.range_add,Ef,Ny]
 congr 1
 simp
theorem eg (k n m:Ad):∀u∈L.sg k n m,u.oneCell'=true:=by
 intro u a;unfold L.sg at a;obtain⟨i,_,rfl⟩:=Hr.1 a;rfl
variable {w w':Ag}{B c m n k:Ad}{a:Br Eu}
theorem bC {e:TypeId}{d:A Aj}(h:w.ownsRow B e 1 (X a n c) n d)(i:m<=n):w.ownsRow B e 1 (X a m c) m (d.take m):=by
 obtain⟨f,b⟩:=h;refine⟨by rw[Cq];omega,?_⟩;rcases b with ⟨b,h3⟩|⟨g,cap,cur,b,hB,hb,hle,hmx,hsz,htk⟩
 ·simp only[Au] at b
  exact Ay ⟨by rw[b.1,b.2.2];congr 1;omega,by omega⟩
 ·simp only[Au,Fb] at b
  refine Bf ⟨g,cap,cur,by rw[b.1,b.2],hB,hb,by omega,hmx,hsz,?_⟩;rw[<-htk,List.take_take,Vj (by omega),Nx]
def L.Out (w:Ag)(B:Ad)(a:Br Eu)(c k n p m:Ad)(v:Aj):Prop:=
 (v=X a (n+m) c/\m<=p/\a≠S)\/(w.ownsRow B 5 1 v (n+m) (L.sg k 0 (n+m))/\∀g,v.ownBlock=V g->(X a n c).ownBlock≠V g)
variable {v:Aj}
theorem L.Out.row {p:Ad}(h:L.Out w B a c k n p m v)(b:w.ownsRow B 5 1 (X a (n+p) c) (n+p) (L.sg k 0 (n+p))):w.ownsRow B 5 1 v (n+m) (L.sg k 0 (n+m)):=by
 rcases h with ⟨rfl,hm,_⟩|⟨h,_⟩
 ·have:=bC b (m:=n+m) (by omega)
  rwa[dE _ _ _ _ (by omega)] at this
 ·exact h
theorem L.Out.step {p b:Ad}(h:L.Out w B a c k n p m v)(d:w.grownBy w' (X a n c).ownBlock)(f:p<=b):L.Out w' B a c k n b m v:=by grind[zK,L.Out]
theorem kE {w:Ag}{v:Array Oper}{rest:A Oper}{o:Oper}{ac:Act}{Q:Exit->Act->Ag->Prop}(q:o.guard=S)(s x:Operand)
  (ho:o.op = .call { callee:=.builtin .append,args:=#[s,x],argTypes:=#[32,32] })
  {B:Ad} {l:TypeInfo} (hi:prog.info? 5=V l) (H:l.zero=V (O Bp 0)) (t:l.size=1) (N:l.bytes=1)
  (a:Br Eu) (c k n p m:Ad) (hs:ac.eval s=X a n c) (hr:w.ownsRow B 5 1 (X a (n+p) c) (n+p) (L.sg k 0 (n+p)))
  (y:Eu) (hx:ac.eval x=X (V y) m m) (C:∀j u,(L.sg k n m)[j]?=V u->w.cell? (y.add j)=V u) (r:p<=m) (hm:0<m) (hb:n+m<=100000000000) (hB:B<=w.heap.size)
  (hK:∀E w' p',Y (p<=p'/\p'<=m/\w'.ownsRow B 5 1 (X a (n+p') c) (n+p') (L.sg k 0 (n+p'))/\L.Out w' B a c k n p' m E/\w.grownBy w' (X a n c).ownBlock)->wpList prog v Q rest (ac.put o.dst E) w'):wpList prog v Q (o::rest) ac w:=by
 have d:w.ownsRow B 5 1 (X a n c) n (L.sg k 0 n):=by
  have:=bC hr (m:=n) (by omega)
  rwa[dE _ _ _ _ (by omega)] at this
 by_cases f:n+m<=c/\a≠S
 ·rcases d.2 with ⟨h,_⟩|⟨g,cap,cur,h,hBg,_⟩
  ·simp only[Au] at h;exact absurd h.1 f.2
  ·simp only[Au,Fb] at h
   obtain⟨rfl,rfl⟩:=h;refine wpList_append_fits w q s x 32 ho B 5 l 1 underlying32 hi t g n c (L.sg k 0 n) hs d y m m (L.sg k n m) hx (by rw[fE];omega) C (eg _ _ _) f.1 ?_;intro w' i z;rw[mG] at i;exact hK _ w' m ⟨r,Aq _,i,Ay ⟨rfl,Aq _,by simp⟩,z⟩
 ·refine wpList_append_grows w q s x 32 ho 5 l _ 1 1 underlying32 hi H t N rfl (by decide) a n c (L.sg k 0 n) hs ?_ (by rw[fE];omega) ?_ y m m (L.sg k n m) hx (by rw[fE];omega) C (eg _ _ _) ?_ (by unfold Bh;omega) (by omega) ?_
  ·intro e
   rcases d.2 with ⟨h,h0⟩|⟨g,cap,cur,h,_⟩
   ·simp only[Au] at h;exact⟨h0,h.2.2⟩
   ·simp only[Au] at h;rw[e] at h;cases h.1
  ·intro b e j u F
   rcases d.2 with ⟨h,h0⟩|⟨g,cap,cur,h,hBg,hb2,hle,hmx,hsz,htk⟩
   ·simp only[Au] at h;rw[e] at h;cases h.1
   ·simp only[Au,Fb] at h
    rw[e] at h;obtain⟨h,rfl⟩:=h;obtain rfl:=Bc h;subst e;have hj:j<n:=by have:=(Bo.1 F).1;rwa[fE] at this
    have:=Ap d j (by omega);unfold Addr.add
    split
    ·rename_i h0;subst h0;rw[this];exact F
    ·simp only[Gr];rw[this];exact F
  ·by_cases ha:a=S
   ·rcases d.2 with ⟨h,h0⟩|⟨g,cap,cur,h,_⟩
    ·simp only[Au] at h;omega
    ·simp only[Au] at h;rw[ha] at h;cases h.1
   ·have:¬n+m<=c:=fun h=>f ⟨h,ha⟩
    omega
  ·intro E w' i z
   rw[mG] at i;refine hK E w' p ⟨Aq _,r,zK hr z (fun _ _ c=>by cases c),Bf ⟨zo i hB,fun g hg C=>?_⟩,zT z _⟩;have l1:=(An i g hg).1;have l2:=(An d g C).2
   omega
structure Turn (w w':Ag) (F:Ad->Prop):Prop where
 os:w'.os=w.os
 tape:w'.tape=w.tape
 output:w'.output=w.output
 size:w.heap.size<=w'.heap.size
 block:∀k,k<w.heap.size->¬F k->w'.heap[k]?=w.heap[k]?
theorem Turn.refl (w:Ag)(F:Ad->Prop):Turn w w F:=by grind[Turn]
theorem Turn.step {x y:Ag}{F:Ad->Prop}{row:Br Ad}(h:Turn w x F)(g:x.grownBy y row)(a:∀k,row=V k->F k\/w.heap.size<=k):Turn w y F:=
 ⟨g.os.trans h.os,g.tape.trans h.tape,g.output.trans h.output,Bi h.size g.size,fun k hk hn=>(g.block k (Eh hk h.size) (fun e=>by rcases a k e.symm with h1|h1;exact hn h1;omega)).trans (h.block k hk hn)⟩
theorem Turn.grown {w0:Ag}{F:Ad->Prop}{row:Br Ad}(h:Turn w w' F)(g:w0.grownBy w row)(a:∀k,F k->w0.heap.size<=k):w0.grownBy w' row:=
 ⟨h.os.trans g.os,h.tape.trans g.tape,h.output.trans g.output,Bi g.size h.size,fun k hk hn=>(h.block k (Eh hk g.size) (fun c=>by have:=a k c;omega)).trans (g.block k hk hn)⟩
theorem Turn.trans {x y:Ag}{F G H:Ad->Prop}(h:Turn w x F)(g:Turn x y G)(a:∀k,F k->H k)(b:∀k,G k->H k):Turn w y H:=by grind[Turn]
theorem Turn.keep {F:Ad->Prop}{o:Obj}(h:Turn w w' F)(a:w.heap[k]?=V o)(b:¬F k):w'.heap[k]?=V o:=by
 rw[h.block k (zO a) b];exact a
theorem Turn.row {F:Ad->Prop}{e:TypeId}{s:Ad}{a:A Aj}(h:w.ownsRow B e s v n a)(c:Turn w w' F)(b:∀k,v.ownBlock=V k->¬F k):w'.ownsRow B e s v n a:=by
 refine⟨h.1,?_⟩;rcases h.2 with h|⟨g,cap,cur,rfl,hB,hb,r⟩
 ·exact Ay h
 ·exact Bf ⟨g,cap,cur,rfl,hB,c.keep hb (b g rfl),r⟩
structure L.Inv (w:Ag) (wb B:Ad) (vl ve vm:Aj) (es:A (Aj×Ad×Ad)):Prop where
 ex:∃vb vk,w.heap[wb]?=V (Ae #[vl,vb,vk,ve,vm] 77 (0,0))/\w.ownsRow B 32 1 vb (Z es) (es.map (·.1))/\w.ownsRow B 3 1 vk (Z es) (es.map fun e=>O Ai (e.2.1:Ad))
 all:∀e∈es,w.ownsRow B 5 1 e.1 e.2.2 (L.sg e.2.1 0 e.2.2)
 low:B<=wb
 bd:∀e∈es,e.2.1<1000000000000/\e.2.2<1000000000000
def L.Fr (w':Ag)(wb N:Ad)(vk:Aj)(es:A (Aj×Ad×Ad)):Prop:=(∀e∈es,∀k,e.1.ownBlock=V k->N<=k)/\∀c0 c1 c2 c3 c4,w'.heap[wb]?=V (Ae #[c0,c1,c2,c3,c4] 77 (0,0))->∀k,c2.ownBlock=V k->vk.ownBlock=V k\/N<=k
def L.F (wb:Ad)(vb vk va:Aj)(k:Ad):Prop:=k=wb\/vb.ownBlock=V k\/vk.ownBlock=V k\/va.ownBlock=V k
theorem zkH (k n i:Ad)(a:A Aj)(c:Z a=n)(b:i<n):(L.sg k 0 i++a.drop i).set i (O Bp (xR k i:Ad))=L.sg k 0 (i+1)++a.drop (i+1):=by
 have e:Z (L.sg k 0 i)=i:=fE _ _ _;rw[Mg _ _ (by rw[e];exact Aq _),e,Gp,Ed (i:=i) (by omega),Vp,<-mG k i 1];simp[L.sg]
theorem zkG (k n i:Ad)(a:A Aj)(c:Z a=n)(b:i<=n):Z (L.sg k 0 i++a.drop i)=n:=by simp_all[L.sg]
theorem zkB:(prog.info? 32).map (fun i=>(i.zero,i.size,i.bytes))=V (V (X S 0 0),1,24):=by kernel_rfl
theorem ip:(prog.info? 3).map (fun i=>(i.zero,i.size,i.bytes))=V (V (O Ai 0),1,8):=by kernel_rfl
abbrev Gc0 (a b c d e f g h i):=Ae #[X a b c,X d (b+1) e,X f (b+2) g,X h (b+3) i] 32
theorem zeG {t:Ad}{vl ve vm:Aj}{b:A (Aj×Ad×Ad)}(h:L.Inv w t B vl ve vm b)(l:Br Eu)(n f o:Ad)(xs:A Aj)(hr:w.ownsRow o 5 1 (X l n f) n xs)
  (au:B<=o) (av:o<=w.heap.size) (bf:∀e∈b,∀g,e.1.ownBlock=V g->g<o) (bX:Z b<=100000000) (hn:n<=1000000000):Am prog 93 #[Al (V ⟨t,0,S⟩),X l n f] w fun e w'=>e=Af (Cm #[])/\∃es' vb vk,Z es'=4/\w.heap[t]?=V (Ae #[vl,vb,vk,ve,vm] 77 (0,0))/\L.Inv w' t B vl ve vm (b++es')/\Turn w w' (L.F t vb vk (X l n f))/\L.Fr w' t o vk es':=by
 obtain⟨i0,hi,aO,aP,aQ⟩:=Ej jD;obtain⟨i1,hj,bI,bJ,bK⟩:=Ej zkB;obtain⟨i2,a,bL,bM,bN⟩:=Ej ip;obtain⟨vb,vk,aJ,aM,aN⟩:=h.ex;obtain⟨b1,b2,rfl⟩:=zL aM;obtain⟨k1,k2,rfl⟩:=zL aN;have am:=J (aJ);have q1:=cbi 1 aJ;have aA:=J (aM);have aE:=J (aN);have bt:=J (h.all);have HR:=J (hr);have bu:=J (bf);have bP:=h.low;have bv:=J (h.bd);obtain⟨K,hK⟩:∃K,K=Z b / 4+1:=⟨_,rfl⟩;have bz:Y ((Z b:Ak) / 4+1=(K:Ak)):=by show _=_;omega
 have bW:K<=30000000:=by omega
 clear h aJ aM aN hr bf hK;go_in;go_wp2_with fail;rw[bz.o];have bs:Z xs=n:=by have:=HR.o.1;omega
 have ag:Y (Turn w w (fun k=>(X l n f).ownBlock=V k)):=Turn.refl _ _;have ae:=J (HR)
 go_loopw [6] (fun iv wr=>∃i:Ad,i<=n/\iv=O Ai i/\Y (wr.ownsRow o 5 1 (X l n f) n (L.sg K 0 i++xs.drop i))/\Y (Turn w wr (fun k=>(X l n f).ownBlock=V k))) (fun iv _=>n-(intOf iv).toNat)
 ·exact⟨0,Ax _,rfl,ae,ag⟩
 ·
  obtain⟨i,bH,rfl,E,aj⟩:=hrel;clear ae ag
  by_cases bQ:i<n
  ·have bY:(i:Ak)<n:=by omega
   obtain⟨g,gc,e1,_,_⟩:=World.ownsRow.form E.o (by omega);simp only[Au,Fb] at e1;obtain⟨rfl,rfl⟩:=e1;have bc:=J (fX K i wr (by omega) (by omega));have bO:=zkG K n i xs bs bH;obtain⟨u0,br⟩:∃u0,(L.sg K 0 i++xs.drop i)[i]?=V u0:=⟨_,Bd (by omega)⟩;have ci:wr.cell? ⟨g,i,S⟩=V u0:=by rw[Ap E.o i (by omega)];exact br
   have fi:wr.frozen? ⟨g,i,S⟩=false:=World.ownsRow.frozenAt E.o i;obtain⟨aL,bi⟩:=World.ownsRow.stored E.o i (O Bp (xR K i:Ad));rw[zkH K n i xs bs bQ] at aL;have an:=J (aL);have ah:Y (Turn w (wr.setCell ⟨g,i,S⟩ (O Bp (xR K i:Ad))) (fun k=>(X (V ⟨g,0,S⟩) n f).ownBlock=V k)):=aj.o.step bi (fun k a=>Ay (by rw[<-a];rfl));clear aL bi br bO E aj;go_wp2_with fail;refine bc.o.mono ?_;rintro e wX ⟨rfl,d⟩;rw[d];clear d wX bc;go_wp2_with fail
   go_roundw
   ·exact⟨i+1,by omega,by go_num,an,ah⟩
   ·simp[intOf];omega
  ·have bG:n=i:=by omega
   subst bG;have ae:Y (wr.ownsRow o 5 1 (X l (n+0) f) (n+0) (L.sg K 0 (n+0))):=by
    have h:=E.o;rw[Ga (by omega),Cv] at h;exact h
   have ag:=J (aj);have b5:o<=wr.heap.size:=Bi av aj.o.size;have ao:Y (∀W,Am prog 65 #[O Ai K,O Ai n] W fun e w'=>e=Af (O Bp (xR K n:Ad))/\w'=W):=fun W=>fX K n W (by omega) (by omega)
   have ay:Y (∀W,Am prog 65 #[O Ai K,O Ai ((n:Ak)+1)] W fun e w'=>e=Af (O Bp (xR K (n+1):Ad))/\w'=W):=fun W=>fX K (n+1) W (by omega) (by omega)
   have bb:Y (∀W,Am prog 65 #[O Ai K,O Ai ((n:Ak)+2)] W fun e w'=>e=Af (O Bp (xR K (n+2):Ad))/\w'=W):=fun W=>fX K (n+2) W (by omega) (by omega)
   have bD:n+1<=100000000000:=by omega
   have bE:n+2<=100000000000:=by omega
   have bF:n+3<=100000000000:=by omega
   clear E aj;go_wp2_with fail;refine(ao.o _).mono ?_;rintro e wX ⟨rfl,d⟩;rw[d];clear d wX;have aR:Y ((wr.alloc (Ae #[O Bp (xR K (n):Ad)] 5)).ownsRow o 5 1 (X l (n+0) f) (n+0) (L.sg K 0 (n+0))):=Ao ae.o _;have aY:Y (∀j u,(L.sg K n 1)[j]?=V u->(wr.alloc (Ae #[O Bp (xR K (n):Ad)] 5)).cell? ((⟨wr.heap.size,0,S⟩:Eu).add j)=V u):=zZ wr #[_] _ _ rfl;have aU:Y (o<=(wr.alloc (Ae #[O Bp (xR K (n):Ad)] 5)).heap.size):=by show _<=_;simp;omega
   have bS:0<=1:=by omega
   go_wp2_with (at_builtin;refine @kE _ _ _ _ _ _ rfl (.tmp 30) (.tmp 34) rfl o i0 hi aO aP aQ l f K n 0 1 rfl aR.o ⟨wr.heap.size,0,S⟩ rfl aY.o bS (Vn _) bD aU.o ?_);intro v1 w1 p1 hh;obtain⟨bZ,bo,bj,bh⟩:=hh.o;clear hh;have be:wr.grownBy (wr.alloc (Ae #[O Bp (xR K (n):Ad)] 5)) (X l n f).ownBlock:=Ac _ _ _;have ba:=J (bo);have a4:=J (bj);have az:Y (Turn w w1 (fun k=>(X l n f).ownBlock=V k)):=(ag.o.step be (fun k a=>Ay a)).step bh (fun k a=>Ay a);have b6:o<=w1.heap.size:=Bi av az.o.size;clear bo bj bh be aR aY aU ae ag;go_wp2_with fail;refine(ao.o _).mono ?_;rintro e wX ⟨rfl,d⟩;rw[d];clear d wX;go_wp2_with fail;refine(ay.o _).mono ?_;rintro e wX ⟨rfl,d⟩;rw[d];clear d wX;have aS:Y ((w1.alloc (Ae #[O Bp (xR K (n):Ad),O Bp (xR K (n+1):Ad)] 5)).ownsRow o 5 1 (X l (n+p1) f) (n+p1) (L.sg K 0 (n+p1))):=Ao ba.o _;have aZ:Y (∀j u,(L.sg K n 2)[j]?=V u->(w1.alloc (Ae #[O Bp (xR K (n):Ad),O Bp (xR K (n+1):Ad)] 5)).cell? ((⟨w1.heap.size,0,S⟩:Eu).add j)=V u):=zZ w1 #[_,_] _ _ rfl;have aV:Y (o<=(w1.alloc (Ae #[O Bp (xR K (n):Ad),O Bp (xR K (n+1):Ad)] 5)).heap.size):=by show _<=_;simp;omega
   have bT:p1<=2:=by omega
   go_wp2_with (at_builtin;refine @kE _ _ _ _ _ _ rfl (.tmp 36) (.tmp 44) rfl o i0 hi aO aP aQ l f K n p1 2 rfl aS.o ⟨w1.heap.size,0,S⟩ rfl aZ.o bT (Vn _) bE aV.o ?_);intro v2 w2 p2 hh;obtain⟨bR,b0,bp,bk,aK⟩:=hh.o;clear hh;have aI:w1.grownBy (w1.alloc (Ae #[O Bp (xR K (n):Ad),O Bp (xR K (n+1):Ad)] 5)) (X l n f).ownBlock:=Ac _ _ _;have an:=J (bp);have a7:=J (bk);have a5:Y (L.Out w2 o l f K n p2 1 v1):=(a4.o.step aI (Aq _)).step aK bR;have ah:Y (Turn w w2 (fun k=>(X l n f).ownBlock=V k)):=(az.o.step aI (fun k a=>Ay a)).step aK (fun k a=>Ay a);have b7:o<=w2.heap.size:=Bi av ah.o.size;clear bp bk aK aI aS aZ aV ba az a4;go_wp2_with fail;refine(ao.o _).mono ?_;rintro e wX ⟨rfl,d⟩;rw[d];clear d wX;go_wp2_with fail;refine(ay.o _).mono ?_;rintro e wX ⟨rfl,d⟩;rw[d];clear d wX;go_wp2_with fail;refine(bb.o _).mono ?_;rintro e wX ⟨rfl,d⟩;rw[d];clear d wX;have aT:Y ((w2.alloc (Ae #[O Bp (xR K (n):Ad),O Bp (xR K (n+1):Ad),O Bp (xR K (n+2):Ad)] 5)).ownsRow o 5 1 (X l (n+p2) f) (n+p2) (L.sg K 0 (n+p2))):=Ao an.o _;have a0:Y (∀j u,(L.sg K n 3)[j]?=V u->(w2.alloc (Ae #[O Bp (xR K (n):Ad),O Bp (xR K (n+1):Ad),O Bp (xR K (n+2):Ad)] 5)).cell? ((⟨w2.heap.size,0,S⟩:Eu).add j)=V u):=zZ w2 #[_,_,_] _ _ rfl;have aW:Y (o<=(w2.alloc (Ae #[O Bp (xR K (n):Ad),O Bp (xR K (n+1):Ad),O Bp (xR K (n+2):Ad)] 5)).heap.size):=by show _<=_;simp;omega
   have bU:p2<=3:=by omega
   go_wp2_with (at_builtin;refine @kE _ _ _ _ _ _ rfl (.tmp 46) (.tmp 58) rfl o i0 hi aO aP aQ l f K n p2 3 rfl aT.o ⟨w2.heap.size,0,S⟩ rfl a0.o bU (Vn _) bF aW.o ?_);intro v3 x p3 hh;obtain⟨bn,b3,bq,bl,ax⟩:=hh.o;clear hh;have ar:w2.grownBy (w2.alloc (Ae #[O Bp (xR K (n):Ad),O Bp (xR K (n+1):Ad),O Bp (xR K (n+2):Ad)] 5)) (X l n f).ownBlock:=Ac _ _ _;have af:=J (bq);have a9:=J (bl);have a6:Y (L.Out x o l f K n p3 1 v1):=(a5.o.step ar (Aq _)).step ax bn;have a8:Y (L.Out x o l f K n p3 2 v2):=(a7.o.step ar (Aq _)).step ax bn;have ai:Y (Turn w x (fun k=>(X l n f).ownBlock=V k)):=(ah.o.step ar (fun k a=>Ay a)).step ax (fun k a=>Ay a);have b8:o<=x.heap.size:=Bi av ai.o.size;clear bq bl ax ar aT a0 aW an ah a5 a7;have e1:=a6.o.row af.o;have e2:=a8.o.row af.o;have e3:=a9.o.row af.o;have e0:x.ownsRow o 5 1 (X l n f) n (L.sg K 0 n):=by
    have h:=bC af.o (m:=n) (by omega)
    rwa[dE _ _ _ _ (by omega)] at h
   obtain⟨a1,c1,rfl⟩:=zL e1;obtain⟨a2,c2,rfl⟩:=zL e2;obtain⟨a3,c3,rfl⟩:=zL e3;have bx:Y (∀e∈([(X l n f,K,n),(X a1 (n+1) c1,K,n+1),(X a2 (n+2) c2,K,n+2),(X a3 (n+3) c3,K,n+3)]:A (Aj×Ad×Ad)),∀k,e.1.ownBlock=V k->o<=k):=fun e C k a=>by
    simp only[En,Ge,Mn] at C;rcases C with rfl|rfl|rfl|rfl
    ·exact(An e0 k a).1
    ·exact(An e1 k a).1
    ·exact(An e2 k a).1
    ·exact(An e3 k a).1
   have E0:=J (zo e0 au);have E1:=J (zo e1 au);have E2:=J (zo e2 au);have E3:=J (zo e3 au);have N:=J (ai.o.keep am.o (fun hF=>zI am.o HR.o (by decide) t hF rfl));have ap:=J (Turn.row aA.o ai.o (fun k a hF=>qB HR.o aA.o (by decide) k a hF));have aF:=J (Turn.row aE.o ai.o (fun k a hF=>qB HR.o aE.o (by decide) k a hF));clear e0 e1 e2 e3 a6 a8 a9 af ao ay bb;have r1:=cbi 1 N.o;have bV:B<=x.heap.size:=by omega
   have ab:Y (∀j u,([X l n f,X a1 (n+1) c1,X a2 (n+2) c2,X a3 (n+3) c3]:A Aj)[j]?=V u->(x.alloc (Gc0 l n f a1 c1 a2 c2 a3 c3)).cell? ((⟨x.heap.size,0,S⟩:Eu).add j)=V u):=zZ x #[_,_,_,_] _ _ rfl;have ad:Y (∀u∈([X l n f,X a1 (n+1) c1,X a2 (n+2) c2,X a3 (n+3) c3]:A Aj),u.oneCell'=true):=by intro u hu;simp only[En,Ge,Mn] at hu;rcases hu with rfl|rfl|rfl|rfl <;> rfl
   have aa:Y (Z b+4<=Bh):=by show _<=_;unfold Bh;omega
   have ak:Y ((Z b+4)*24<=140737488355328):=by show _<=_;omega
   have al:Y (B<=(x.alloc (Gc0 l n f a1 c1 a2 c2 a3 c3)).heap.size):=by show _<=_;simp;omega
   go_wp2_with (at_builtin;refine wpList_append_own _ rfl (.tmp 64) (.tmp 69) 74 rfl B 32 i1 _ 1 24 underlying74 hj bI bJ bK rfl (by decide) _ _ _ rfl (Ao ap.o _) ⟨x.heap.size,0,S⟩ 4 4 [X l n f,X a1 (n+1) c1,X a2 (n+2) c2,X a3 (n+3) c3] rfl rfl ab.o ad.o aa.o ak.o al.o ?_);intro b9 w4 H r _;obtain⟨b4,c4,rfl⟩:=zL H;have gB:x.grownBy (x.alloc (Gc0 l n f a1 c1 a2 c2 a3 c3)) S:=Ac _ _ S;have T4:Y (Turn x w4 (fun k=>k=t\/(X b1 (Z b) b2).ownBlock=V k\/(X k1 (Z b) k2).ownBlock=V k)):=((Turn.refl x _).step gB (fun k a=>by cases a)).step r (fun k a=>Ay (Bf (Ay a)));have y:Y (w4.heap[t]?=V (Ae #[vl,X b1 (Z b) b2,X k1 (Z b) k2,ve,vm] 77 (0,0))):=zw (zE N.o gB (by simp)) r (zI (zE N.o gB (by simp)) (Ao ap.o _) (by decide));have aB:=J (H);have aG:Y (w4.ownsRow B 3 1 (X k1 (Z b) k2) (Z b) (b.map fun e=>O Ai (e.2.1:Ad))):=zK (Ao aF.o _) r (fun k a c=>qB (Ao ap.o (Gc0 l n f a1 c1 a2 c2 a3 c3)) (Ao aF.o (Gc0 l n f a1 c1 a2 c2 a3 c3)) (by decide) k a c);have r4:=cbi 1 y.o;have f4:=zm9 1 y.o;have gS:=zF w4 t 1 (X b4 (Z b+4) c4);have T5:Y (Turn x (w4.setCell ⟨t,1,S⟩ (X b4 (Z b+4) c4)) (fun k=>k=t\/(X b1 (Z b) b2).ownBlock=V k\/(X k1 (Z b) k2).ownBlock=V k)):=T4.o.step gS (fun k a=>Ay (Ay (Bc a).symm));have Q:Y ((w4.setCell ⟨t,1,S⟩ (X b4 (Z b+4) c4)).heap[t]?=V (Ae #[vl,X b4 (Z b+4) c4,X k1 (Z b) k2,ve,vm] 77 (0,0))):=zH y.o _;have aC:=J (zJ aB.o gS (zI y.o aB.o (by decide)));have aq:=J (zJ aG.o gS (zI y.o aG.o (by decide)));clear H r gB gS ab ad aa ak al r1 T4 aB aG;go_upto_region 10 with fail;generalize(w4.setCell ⟨t,1,S⟩ (X b4 (Z b+4) c4))=w5 at*;have ca:B<=w5.heap.size:=Bi bV T5.o.size;have r5:=cbi 2 Q.o;have ab:Y (∀j u,([O Ai K,O Ai K,O Ai K,O Ai K]:A Aj)[j]?=V u->(w5.alloc (Ae #[O Ai K,O Ai K,O Ai K,O Ai K] 3)).cell? ((⟨w5.heap.size,0,S⟩:Eu).add j)=V u):=zZ w5 #[_,_,_,_] _ _ rfl;have ad:Y (∀u∈([O Ai K,O Ai K,O Ai K,O Ai K]:A Aj),u.oneCell'=true):=by intro u hu;simp only[En,Ge,Mn] at hu;rcases hu with rfl|rfl|rfl|rfl <;> rfl
   have aa:Y (Z b+4<=Bh):=by show _<=_;unfold Bh;omega
   have ak:Y ((Z b+4)*8<=140737488355328):=by show _<=_;omega
   have al:Y (B<=(w5.alloc (Ae #[O Ai K,O Ai K,O Ai K,O Ai K] 3)).heap.size):=by show _<=_;simp;omega
   go_wp2_with (at_builtin;refine wpList_append_lies _ rfl (.tmp 77) (.tmp 82) 55 rfl B 3 i2 _ 1 8 underlying55 a bL bM bN rfl (by decide) _ _ _ rfl (Ao aq.o _) ⟨w5.heap.size,0,S⟩ 4 4 [O Ai K,O Ai K,O Ai K,O Ai K] rfl rfl ab.o ad.o (by decide) aa.o ak.o al.o (w5.heap.size+1) (by simp) ?_);intro g6 c6 w6 bm s bg _;have bw:Y (∀k,(X (V ⟨g6,0,S⟩) (Z b+4) c6).ownBlock=V k->(X k1 (Z b) k2).ownBlock=V k\/o<=k):=fun k a=>by
    have e:g6=k:=Bc a;rw[<-e];rcases bg with h|h
    ·exact Ay h
    ·have:=T5.o.size;exact Bf (by omega)
   clear bg;generalize(V (⟨g6,0,S⟩:Eu))=k6 at*;have gB:w5.grownBy (w5.alloc (Ae #[O Ai K,O Ai K,O Ai K,O Ai K] 3)) S:=Ac _ _ S;have T6:Y (Turn x w6 (fun k=>k=t\/(X b1 (Z b) b2).ownBlock=V k\/(X k1 (Z b) k2).ownBlock=V k)):=(T5.o.step gB (fun k a=>by cases a)).step s (fun k a=>Ay (Bf (Bf a)));have z:Y (w6.heap[t]?=V (Ae #[vl,X b4 (Z b+4) c4,X k1 (Z b) k2,ve,vm] 77 (0,0))):=zw (zE Q.o gB (by simp)) s (zI (zE Q.o gB (by simp)) (Ao aq.o _) (by decide));have aH:=J (bm);have aD:Y (w6.ownsRow B 32 1 (X b4 (Z b+4) c4) (Z b+4) (b.map (·.1)++[X l n f,X a1 (n+1) c1,X a2 (n+2) c2,X a3 (n+3) c3])):=zK (Ao aC.o _) s (fun k a c=>qB (Ao aq.o (Ae #[O Ai K,O Ai K,O Ai K,O Ai K] 3)) (Ao aC.o (Ae #[O Ai K,O Ai K,O Ai K,O Ai K] 3)) (by decide) k a c);have r6:=cbi 2 z.o;have f6:=zm9 2 z.o;have gS:=zF w6 t 2 (X k6 (Z b+4) c6);have T7:=J (T6.o.step gS (fun k a=>Ay (Ay (Bc a).symm)));have aX:Y ((w6.setCell ⟨t,2,S⟩ (X k6 (Z b+4) c6)).heap[t]?=V (Ae #[vl,X b4 (Z b+4) c4,X k6 (Z b+4) c6,ve,vm] 77 (0,0))):=zH z.o _;have bA:=J (zJ aD.o gS (zI z.o aD.o (by decide)));have bB:=J (zJ aH.o gS (zI z.o aH.o (by decide)));clear bm s gB gS ab ad aa ak al r5 Q aC aq T5 T6 aD aH;go_wp2
   go_end0
   have aw:∀{v:Aj} {m:Ad} {ys:A Aj},x.ownsRow B 5 1 v m ys->∀k,v.ownBlock=V k->¬(k=t\/(X b1 (Z b) b2).ownBlock=V k\/(X k1 (Z b) k2).ownBlock=V k):=fun p k a hF=>by
    rcases hF with q|q|q
    ·exact zI N.o p (by decide) k a q
    ·exact qB p ap.o (by decide) k q a
    ·exact qB p aF.o (by decide) k q a
   have TF:Turn w (w6.setCell ⟨t,2,S⟩ (X k6 (Z b+4) c6)) (L.F t (X b1 (Z b) b2) (X k1 (Z b) k2) (X l n f)):=ai.o.trans T7.o (fun k a=>Bf (Bf (Bf a))) (fun k a=>by
    rcases a with q|q|q
    ·exact Ay q
    ·exact Bf (Ay q)
    ·exact Bf (Bf (Ay q)))
   refine⟨rfl,[(X l n f,K,n),(X a1 (n+1) c1,K,n+1),(X a2 (n+2) c2,K,n+2),(X a3 (n+3) c3,K,n+3)],_,_,rfl,am.o,⟨⟨_,_,aX.o,?_,?_⟩,?_,bP,?_⟩,TF,bx.o,fun c0 c1 c2 c3 c4 hc k a=>by
    rw[aX.o] at hc;simp only[Ey,Obj.cells.injEq] at hc;have e2:X k6 (Z b+4) c6=c2:=by have:=hc.1;simp at this;exact this.2.2.1
    exact bw.o k (by rw[e2];exact a)⟩
   ·have h:=bA.o
    rw[Ah,Ef];exact h
   ·have h:=bB.o
    rw[Ah,Ef];exact h
   ·intro e C
    rcases Ea.1 C with C|C
    ·have p:=bt.o e C
     refine Turn.row p TF (fun k a hF=>?_);rcases hF with q|q|q|q
     ·exact zI am.o p (by decide) k a q
     ·exact qB p aA.o (by decide) k q a
     ·exact qB p aE.o (by decide) k q a
     ·have l1:=bu.o e C k a
      have l2:=(An HR.o k q).1
      omega
    ·simp only[En,Ge,Mn] at C
     rcases C with rfl|rfl|rfl|rfl
     ·exact Turn.row E0.o T7.o (aw E0.o)
     ·exact Turn.row E1.o T7.o (aw E1.o)
     ·exact Turn.row E2.o T7.o (aw E2.o)
     ·exact Turn.row E3.o T7.o (aw E3.o)
   ·intro e C
    rcases Ea.1 C with C|C
    ·exact bv.o e C
    ·simp only[En,Ge,Mn] at C
     rcases C with rfl|rfl|rfl|rfl <;> exact⟨by dsimp only;omega,by dsimp only;omega⟩
theorem L.Inv.keep {i:Ad}{f d g:Aj}{b:A (Aj×Ad×Ad)}(h:L.Inv w i B f d g b)(a:w.grownBy w' S):L.Inv w' i B f d g b:=by
 obtain⟨m,n,j,k,l⟩:=h.ex;exact⟨⟨m,n,zE j a (by simp),zK k a (fun _ _ c=>by cases c),zK l a (fun _ _ c=>by cases c)⟩,fun e he=>zK (h.all e he) a (fun _ _ c=>by cases c),h.low,h.bd⟩
end Go.Proofs.YtfocdefchbnkpaaGreatDoor
namespace Go.Proofs
open Go.Shelf Go.RowKit Go.Lib Go.Sort Tryz
def Tryz.lays105_ren: Ij := ⟨fun|105 => 157|212 => 215|99 => 216|165 => 217|166 => 156|170 => 218|169 => 69|263 => 295|264 => 296|206 => 230|240 => 214|241 => 297|276 => 294|277 => 345|n => n, fun|9 => 9|3 => 3|4 => 4|20 => 20|0 => 0|46 => 220|109 => 327|5 => 5|72 => 141|76 => 271|51 => 152|146 => 388|53 => 60|148 => 390|70 => 139|37 => 32|75 => 270|127 => 215|164 => 386|80 => 58|n => n, fun|n => n⟩
theorem Tryz.lays105: Go.Proofs.Lays.n105 prog Tryz.lays105_ren := {
 mixed:=by kernel_rfl
 f99:=func216.trans (cgk (by kernel_rfl))
 f105:=func157.trans (cgk (by kernel_rfl))
 f165:=func217.trans (cgk (by kernel_rfl))
 f166:=func156.trans (cgk (by kernel_rfl))
 f169:=func69.trans (cgk (by kernel_rfl))
 f170:=func218.trans (cgk (by kernel_rfl))
 f206:=func230.trans (cgk (by kernel_rfl))
 f212:=func215.trans (cgk (by kernel_rfl))
 f240:=func214.trans (cgk (by kernel_rfl))
 f241:=func297.trans (cgk (by kernel_rfl))
 f263:=func295.trans (cgk (by kernel_rfl))
 f264:=func296.trans (cgk (by kernel_rfl))
 f276:=func294.trans (cgk (by kernel_rfl))
 f277:=func345.trans (cgk (by kernel_rfl))
 t0:=underlying0
 a0:=isAgg0
 z0:=sizeOf0
 v0:=zeroValue0
 t3:=underlying3
 a3:=isAgg3
 z3:=sizeOf3
 v3:=zeroValue3
 t4:=underlying4
 a4:=isAgg4
 z4:=sizeOf4
 v4:=zeroValue4
 t5:=underlying5
 a5:=isAgg5
 z5:=sizeOf5
 v5:=zeroValue5
 t9:=underlying9
 a9:=isAgg9
 z9:=sizeOf9
 v9:=zeroValue9
 t20:=underlying20
 a20:=isAgg20
 z20:=sizeOf20
 v20:=zeroValue20
 t37:=underlying32
 a37:=isAgg32
 z37:=sizeOf32
 v37:=zeroValue32
 t46:=underlying220
 a46:=isAgg220
 z46:=sizeOf220
 v46:=zeroValue220
 t51:=underlying152
 a51:=isAgg152
 z51:=sizeOf152
 v51:=zeroValue152
 t53:=underlying60
 a53:=isAgg60
 z53:=sizeOf60
 v53:=zeroValue60
 t70:=underlying139
 a70:=isAgg139
 z70:=sizeOf139
 v70:=zeroValue139
 t72:=underlying141
 a72:=isAgg141
 z72:=sizeOf141
 v72:=zeroValue141
 t75:=underlying270
 a75:=isAgg270
 z75:=sizeOf270
 v75:=zeroValue270
 t76:=underlying271
 a76:=isAgg271
 z76:=sizeOf271
 v76:=zeroValue271
 t109:=underlying327
 a109:=isAgg327
 z109:=sizeOf327
 v109:=zeroValue327
 t127:=underlying215
 a127:=isAgg215
 z127:=sizeOf215
 v127:=zeroValue215
 t146:=underlying388
 a146:=isAgg388
 z146:=sizeOf388
 v146:=zeroValue388
 t148:=underlying390
 a148:=isAgg390
 z148:=sizeOf390
 v148:=zeroValue390
 t164:=underlying386
 a164:=isAgg386
 z164:=sizeOf386
 v164:=zeroValue386 }
def Tryz.lays156_ren: Ij := ⟨fun|156 => 220|165 => 217|166 => 156|169 => 69|240 => 214|241 => 297|276 => 294|277 => 345|n => n, fun|31 => 22|9 => 9|3 => 3|4 => 4|0 => 0|20 => 20|72 => 141|76 => 271|70 => 139|37 => 32|75 => 270|127 => 215|164 => 386|5 => 5|80 => 58|n => n, fun|n => n⟩
theorem Tryz.lays156: Go.Proofs.Lays.n156 prog Tryz.lays156_ren := {
 mixed:=by kernel_rfl
 f156:=func220.trans (cgk (by kernel_rfl))
 f165:=func217.trans (cgk (by kernel_rfl))
 f166:=func156.trans (cgk (by kernel_rfl))
 f169:=func69.trans (cgk (by kernel_rfl))
 f240:=func214.trans (cgk (by kernel_rfl))
 f241:=func297.trans (cgk (by kernel_rfl))
 f276:=func294.trans (cgk (by kernel_rfl))
 f277:=func345.trans (cgk (by kernel_rfl))
 t0:=underlying0
 a0:=isAgg0
 z0:=sizeOf0
 v0:=zeroValue0
 t3:=underlying3
 a3:=isAgg3
 z3:=sizeOf3
 v3:=zeroValue3
 t4:=underlying4
 a4:=isAgg4
 z4:=sizeOf4
 v4:=zeroValue4
 t9:=underlying9
 a9:=isAgg9
 z9:=sizeOf9
 v9:=zeroValue9
 t20:=underlying20
 a20:=isAgg20
 z20:=sizeOf20
 v20:=zeroValue20
 t31:=underlying22
 a31:=isAgg22
 z31:=sizeOf22
 v31:=zeroValue22
 t37:=underlying32
 a37:=isAgg32
 z37:=sizeOf32
 v37:=zeroValue32
 t70:=underlying139
 a70:=isAgg139
 z70:=sizeOf139
 v70:=zeroValue139
 t72:=underlying141
 a72:=isAgg141
 z72:=sizeOf141
 v72:=zeroValue141
 t75:=underlying270
 a75:=isAgg270
 z75:=sizeOf270
 v75:=zeroValue270
 t76:=underlying271
 a76:=isAgg271
 z76:=sizeOf271
 v76:=zeroValue271
 t127:=underlying215
 a127:=isAgg215
 z127:=sizeOf215
 v127:=zeroValue215
 t164:=underlying386
 a164:=isAgg386
 z164:=sizeOf386
 v164:=zeroValue386 }
def Tryz.laysM171_ren: Ij := ⟨fun|171 => 159|243 => 219|246 => 298|283 => 346|284 => 347|285 => 348|286 => 349|129 => 285|317 => 387|318 => 388|319 => 389|320 => 390|337 => 415|338 => 416|n => n, fun|3 => 3|9 => 9|2 => 2|4 => 4|171 => 415|0 => 0|53 => 60|37 => 32|5 => 5|173 => 417|212 => 441|51 => 152|20 => 20|213 => 442|46 => 220|232 => 469|233 => 470|n => n, fun|17 => 1|18 => 4|19 => 5|n => n⟩
theorem Tryz.laysM171: Go.Proofs.LaysM.n171 prog Tryz.laysM171_ren := {
 mixed:=by kernel_rfl
 f129:=func285.trans (cgk (by kernel_rfl))
 f171:=func159.trans (cgk (by kernel_rfl))
 f243:=func219.trans (cgk (by kernel_rfl))
 f246:=func298.trans (cgk (by kernel_rfl))
 f283:=func346.trans (cgk (by kernel_rfl))
 f284:=func347.trans (cgk (by kernel_rfl))
 f285:=func348.trans (cgk (by kernel_rfl))
 f286:=func349.trans (cgk (by kernel_rfl))
 f317:=func387.trans (cgk (by kernel_rfl))
 f318:=func388.trans (cgk (by kernel_rfl))
 f319:=func389.trans (cgk (by kernel_rfl))
 f320:=func390.trans (cgk (by kernel_rfl))
 f337:=func415.trans (cgk (by kernel_rfl))
 f338:=func416.trans (cgk (by kernel_rfl))
 t0:=underlying0
 a0:=isAgg0
 z0:=sizeOf0
 v0:=zeroValue0
 t2:=underlying2
 a2:=isAgg2
 z2:=sizeOf2
 v2:=zeroValue2
 t3:=underlying3
 a3:=isAgg3
 z3:=sizeOf3
 v3:=zeroValue3
 t4:=underlying4
 a4:=isAgg4
 z4:=sizeOf4
 v4:=zeroValue4
 t5:=underlying5
 a5:=isAgg5
 z5:=sizeOf5
 v5:=zeroValue5
 t9:=underlying9
 a9:=isAgg9
 z9:=sizeOf9
 v9:=zeroValue9
 t20:=underlying20
 a20:=isAgg20
 z20:=sizeOf20
 v20:=zeroValue20
 t37:=underlying32
 a37:=isAgg32
 z37:=sizeOf32
 v37:=zeroValue32
 t46:=underlying220
 a46:=isAgg220
 z46:=sizeOf220
 v46:=zeroValue220
 t51:=underlying152
 a51:=isAgg152
 z51:=sizeOf152
 v51:=zeroValue152
 t53:=underlying60
 a53:=isAgg60
 z53:=sizeOf60
 v53:=zeroValue60
 t171:=underlying415
 a171:=isAgg415
 z171:=sizeOf415
 v171:=zeroValue415
 t173:=underlying417
 a173:=isAgg417
 z173:=sizeOf417
 v173:=zeroValue417
 t212:=underlying441
 a212:=isAgg441
 z212:=sizeOf441
 v212:=zeroValue441
 t213:=underlying442
 a213:=isAgg442
 z213:=sizeOf442
 t232:=underlying469
 a232:=isAgg469
 z232:=sizeOf469
 v232:=zeroValue469
 t233:=underlying470
 a233:=isAgg470
 z233:=sizeOf470
 v233:=zeroValue470
 g17:=by kernel_rfl
 g18:=by kernel_rfl
 g19:=by kernel_rfl
 i0:=by kernel_rfl
 i2:=by kernel_rfl
 i3:=by kernel_rfl
 i4:=by kernel_rfl
 i5:=by kernel_rfl
 i9:=by kernel_rfl
 i20:=by kernel_rfl
 i37:=by kernel_rfl
 i46:=by kernel_rfl
 i51:=by kernel_rfl
 i53:=by kernel_rfl
 i171:=by kernel_rfl
 i173:=by kernel_rfl
 i212:=by kernel_rfl
 i232:=by kernel_rfl
 i233:=by kernel_rfl
 m17:=by kernel_rfl
 m18:=by kernel_rfl
 m19:=by kernel_rfl }
theorem Tryz.extra105: Builder.Extra prog Tryz.lays105_ren := {
 sizeBuilder:=by kernel_rfl
 liesBuilder:=by kernel_rfl
 t5:=underlying5
 a5:=isAgg5
 z5:=sizeOf5
 v5:=zeroValue5
 infoByte:=by kernel_rfl
 cellsByte:=by kernel_rfl
 sizeByte:=by kernel_rfl
 neB5:=by decide }
theorem Tryz.extra156: Builder.Extra prog Tryz.lays156_ren := {
 sizeBuilder:=by kernel_rfl
 liesBuilder:=by kernel_rfl
 t5:=underlying5
 a5:=isAgg5
 z5:=sizeOf5
 v5:=zeroValue5
 infoByte:=by kernel_rfl
 cellsByte:=by kernel_rfl
 sizeByte:=by kernel_rfl
 neB5:=by decide }
theorem Tryz.strings_Repeat (s : As) (c : Ad) (w : Ag) (hc : c ≤ 9223372036854775807) (hlen : s.size * c ≤ 140737488355328):Am prog 157 #[I s, O Ai c] w fun e w' => e=Af (I ⟨(Lib.repeatL s.data.toList c).toArray⟩) ∧ Below w.heap.size w w' := Any.strings_Repeat Tryz.lays105 Tryz.extra105 s c w hc hlen
theorem Tryz.strings_Join (bk o c : Ad) (xs : A As) (sep : As) (w : Ag)
    (hcells : ∀ (j : Ad) x, xs[j]? = V x → w.cell? ⟨bk, o + j, S⟩=V (I x))
    (hbk : bk<w.heap.size) (hN : Z xs ≤ 140737488355328) (hcap : Z xs ≤ c)
    (hlen : Z (Lib.join (xs.map (·.data.toList)) sep.data.toList) ≤ 140737488355328):Am prog 220 #[X (V ⟨bk, o, S⟩) (Z xs) c, I sep] w fun e w' => e=Af (I ⟨(Lib.join (xs.map (·.data.toList)) sep.data.toList).toArray⟩) ∧ Below w.heap.size w w' := Any.strings_Join Tryz.lays156 Tryz.extra156 bk o c xs sep w hcells hbk hN hcap hlen
theorem Tryz.strconv_Itoa (n : Ak) (h0 : -9223372036854775808 ≤ n) (h1 : n ≤ 9223372036854775807) (w : Ag) (htab : Lib.TabIs prog w "internal/strconv.uint64pow10" .u64 Lib.pow10Tab) :
    Am prog 159 #[O Ai n] w fun e w' => e=Af (I ⟨(Lib.itoa n).toArray⟩) ∧ ∃ k os, w'=Sort.grow (w.drewN k) os := Any.strconv_Itoa Tryz.laysM171 n h0 h1 w htab
end Go.Proofs
namespace Go.Proofs.YtfocdefchbnkpaaGreatDoor
open Go.RowKit Tryz
theorem zk7 (x:Ab):Es [] [x] = -1:=rfl
theorem toNat34 (c:Ab):((c.toNat:Ak)=34↔c=34):=by
 constructor
 ·intro h;apply Hb.1;show c.toNat=34;omega
 ·intro h;subst h;rfl
theorem toNat10 (c:Ab):((c.toNat:Ak)=10↔c=10):=by
 constructor
 ·intro h;apply Hb.1;show c.toNat=10;omega
 ·intro h;subst h;rfl
theorem zaE (t:A Ab) :
  (Me t (By Gc t)=34/\By Gc t<Z t/\Es t [34]=By Gc t/\Es (t.take (By Gc t)) [10] = -1)\/
  ((By Gc t=Z t\/Me t (By Gc t)=10)/\(Es t [34] = -1\/(0<=Es t [34]/\0<=Es (t.take (Es t [34]).toNat) [10]))):=by
 induction t with
 |nil=>right;exact⟨Ay rfl,Ay rfl⟩
 |cons c r ih=>
  rw[By]
  by_cases a:c=34
  ·left
   have f:Gc c.toNat=false:=by subst a;rfl
   rw[Aw (by rw[f];simp)];refine⟨by subst a;rfl,by simp,by rw[jq,Az a];rfl,by simp[zk7]⟩
  ·by_cases b:c=10
   ·right
    have f:Gc c.toNat=false:=by subst b;rfl
    rw[Aw (by rw[f];simp)];refine⟨Bf (by subst b;rfl),?_⟩;rw[jq,Aw a]
    by_cases d:Es r [34] = -1
    ·left;rw[Az d]
    ·right
     rw[Aw d];have i:=Lib.index_ge r [34];refine⟨by omega,?_⟩;obtain⟨n,h⟩:∃n,(Es r [34]+1).toNat=n+1:=⟨(Es r [34]).toNat,by omega⟩;rw[h,Fk,jq,Az b];exact Int.le_refl 0
   ·have f:Gc c.toNat=true:=by
     unfold Gc;apply Cf;exact⟨fun e=>a ((toNat34 c).1 e),fun e=>b ((toNat10 c).1 e)⟩
    rw[Az f];have g:∀n,Me (c::r) (n+1)=Me r n:=fun n=>rfl
    rw[g];rcases ih with ⟨h1,d,h3,h4⟩|⟨h1,d⟩
    ·left
     refine⟨h1,by simp;omega,?_,?_⟩
     ·rw[jq,Aw a,Aw (by omega),h3];rfl
     ·rw[Fk,jq,Aw b,Az h4]
    ·right
     refine⟨?_,?_⟩
     ·rcases h1 with h1|h1
      ·left;simp[h1]
      ·right;exact h1
     ·rw[jq,Aw a]
      rcases d with d|⟨d,h3⟩
      ·left;rw[Az d]
      ·right
       rw[Aw (by omega)];refine⟨by omega,?_⟩;obtain⟨n,h⟩:∃n:Ad,Es r [34]=(n:Ak):=⟨(Es r [34]).toNat,by omega⟩;rw[h] at h3 ⊢;rw[show((n:Ak)+1).toNat=n+1 by omega,Fk,jq,Aw b];rw[show((n:Ak)).toNat=n by omega] at h3;rw[Aw (by omega)];omega
inductive TokSim (t:Bx) (p:P.Tk):Prop
 |fin (h:p.at_=t.at_) (k:t.k=0) (j:p.k=0) (r:p.raw=[])
 |word (h:p.at_=t.at_) (k:t.k=119) (j:p.k=1) (r:p.raw=t.s) (c:Ab) (cs:A Ab) (e:t.s=c::cs) (hc:Ek c.toNat=true)
 |num (h:p.at_=t.at_) (k:t.k=49) (j:p.k=2) (r:p.raw=t.s) (c:Ab) (cs:A Ab) (e:t.s=c::cs) (hc:Ck c.toNat=true)
 |str (h:p.at_=t.at_) (k:t.k=34) (j:p.k=3) (r:p.raw=34::t.s++[34])
 |sign (h:p.at_=t.at_) (k:t.k=115) (j:p.k=4) (r:p.raw=t.s) (c:Ab) (e:t.s=[c]) (hc:Oy c.toNat=true)
 |wrong (h:p.at_=t.at_) (k:t.k=120) (j:p.k=5) (r:p.raw=[])
theorem TokSim.place {t:Bx}{p:P.Tk}(h:TokSim t p):p.at_=t.at_:=by cases h <;> assumption
variable {l r s t:A Ab}{i n:Ad}
theorem sx (h:i<Z l)(a:Me l i=32\/Me l i=10):zg l i=zg l (i+1):=by grind[qE,List.drop_eq_getElem_cons,By,Me,List.getElem?_eq_getElem,xN,zg]
theorem bO (h:i<Z l)(a:¬(Me l i=32\/Me l i=10)):qE l i=i:=by
 unfold qE;rw[Ed h,By,Aw]
 ·rfl
 ·unfold Me at a
  rw[Gf,Bd h] at a;simp only[Option.getD_some] at a;unfold xN;simp only[Sn,Hw];exact a
theorem mS (h:i<Z l):∃c,l.drop i=c::l.drop (i+1)/\Me l i=c.toNat:=by
 refine⟨l[i],Ed h,?_⟩;unfold Me;rw[Gf,Bd h];rfl
theorem zaG (l:A Ab)(i n:Ad):Me (l.drop i) n=Me l (i+n):=by simp_all[Me]
theorem iB (t:A Ab) :
  (Me t (By Gc t)=34/\By Gc t<Z t/\jm t=decide (24<By Gc t)/\(Z (Ca t [34]).1)=By Gc t)\/
  ((By Gc t=Z t\/Me t (By Gc t)=10)/\jm t=true):=by
 rcases zaE t with ⟨h1,h2,h3,h4⟩|⟨h1,h2⟩
 ·left
  have a:Ca t [34]=(t.take (By Gc t),t.drop (By Gc t+1),true):=by
   unfold Ca;rw[Az (by omega),h3];rfl
  have b:Z (t.take (By Gc t))=By Gc t:=by rw[Cq];omega
  refine⟨h1,h2,?_,by rw[a];exact b⟩;unfold jm Sx;rw[a];simp only;rw[b,h4];simp
 ·right
  refine⟨h1,?_⟩;unfold jm Sx;rcases h2 with h2|⟨h2,h3⟩
  ·have a:Ca t [34]=(t,[],false):=by unfold Ca;rw[Aw (by omega)]
   rw[a];rfl
  ·have a:Ca t [34]=(t.take (Es t [34]).toNat,t.drop ((Es t [34]).toNat+1),true):=by unfold Ca;rw[Az h2];rfl
   rw[a];simp only;rw[Cf h3];simp
theorem zj8 (h:i<Z l)(t:¬(Me l i=32\/Me l i=10)):TokSim (R.tok l i) (zg l i)/\((Qe l i).2≠120->(Qe l i).1=i+Z (zg l i).raw):=by
 obtain⟨c,u,s⟩:=mS h;have w:By Ek (l.drop (i+1))<=Z l-(i+1):=by have:=R.span_le Ek (l.drop (i+1));rwa[Cy] at this
 have v:By Ck (l.drop (i+1))<=Z l-(i+1):=by have:=R.span_le Ck (l.drop (i+1));rwa[Cy] at this
 unfold zg;rw[bO h t];unfold R.tok Qe qD;rw[u,s];simp only
 by_cases b:Ek c.toNat=true
 ·rw[Az b,Az b]
  simp only;rw[By,Az b];refine⟨.word rfl rfl rfl ?_ c ((l.drop (i+1)).take (By Ek (l.drop (i+1)))) ?_ b,fun _=>?_⟩
  ·rw[Aw (by decide),show i+1+By Ek (l.drop (i+1))-i=By Ek (l.drop (i+1))+1 by omega]
  ·rw[Aw (by decide),show i+1+By Ek (l.drop (i+1))-i=By Ek (l.drop (i+1))+1 by omega,Fk]
  ·rw[Fk,Bb,Cq,Cy];omega
 ·rw[Aw b,Aw b]
  by_cases f:Ck c.toNat=true
  ·rw[Az f,Az f]
   unfold xm;rw[By,Az f]
   by_cases p:5<By Ck (l.drop (i+1))+1
   ·rw[Az p,Az (by omega)]
    exact⟨.wrong rfl rfl rfl rfl,fun h=>absurd rfl h⟩
   ·rw[Aw p,Aw (by omega)]
    simp only;refine⟨.num rfl rfl rfl ?_ c ((l.drop (i+1)).take (By Ck (l.drop (i+1)))) ?_ f,fun _=>?_⟩
    ·rw[Aw (by decide),show i+1+By Ck (l.drop (i+1))-i=By Ck (l.drop (i+1))+1 by omega]
    ·rw[Aw (by decide),show i+1+By Ck (l.drop (i+1))-i=By Ck (l.drop (i+1))+1 by omega,Fk]
    ·rw[Fk,Bb,Cq,Cy];omega
  ·rw[Aw f,Aw f]
   by_cases m:(c.toNat:Ak)=34
   ·have a:c.toNat=34:=by omega
    rw[Az m,Az a];unfold yD;rw[In,Iw];have q:=iB (l.drop (i+1));rw[zaG,Cy] at q;rcases q with ⟨g1,g2,g3,g4⟩|⟨g1,g2⟩
    ·rw[g3,g4]
     by_cases g:24<By Gc (l.drop (i+1))
     ·rw[Az (Cf g),Az (Bf (Bf (by omega)))]
      exact⟨.wrong rfl rfl rfl rfl,fun h=>absurd rfl h⟩
     ·have x:¬(i+1+By Gc (l.drop (i+1))=Z l\/Me l (i+1+By Gc (l.drop (i+1)))=10\/24<i+1+By Gc (l.drop (i+1))-i-1):=by rw[g1];omega
      have y:¬(decide (24<By Gc (l.drop (i+1)))=true):=by simpa using g
      rw[Aw x,Aw y];simp only;refine⟨.str rfl rfl rfl ?_,fun _=>?_⟩
      ·simp only[Gq]
       rw[show i+1+By Gc (l.drop (i+1))+1-1-(i+1)=By Gc (l.drop (i+1)) by omega];rw[Fk,show c=34 from(toNat34 c).1 m];rw[Co (by rw[Cy];omega)];show 34::_=34::_
       congr 2
       obtain⟨d,n,o⟩:=mS (l:=l) (i:=i+1+By Gc (l.drop (i+1))) (by omega);rw[g1] at o;have k:d=34:=(toNat34 d).1 o.symm;rw[List.getElem_drop];have r:=Ed (l:=l) (i:=i+1+By Gc (l.drop (i+1))) (by omega);rw[r] at n;rw[(Vf n).1,k]
      ·rw[Fk,Bb,Cq,Cy];omega
    ·rw[Az g2,Az (by rcases g1 with g1|g1;exact Ay (by omega);exact Bf (Ay g1))]
     exact⟨.wrong rfl rfl rfl rfl,fun h=>absurd rfl h⟩
   ·have a:¬c.toNat=34:=by omega
    rw[Aw m,Aw a]
    by_cases j:Oy c.toNat=true
    ·rw[Az j,Az j]
     simp only;refine⟨.sign rfl rfl rfl ?_ c ?_ j,fun _=>?_⟩
     ·rw[Aw (by decide),show i+1-i=1 by omega]
     ·rw[Aw (by decide),show i+1-i=1 by omega];rfl
     ·rfl
    ·rw[Aw j,Aw j]
     exact⟨.wrong rfl rfl rfl rfl,fun h=>absurd rfl h⟩
theorem zdH:∀(n i:Ad),Z l+1-i<=n->i<=Z l->∃t r,Nc n l i=t::r/\TokSim t (zg l i)/\
  ((t.k=0\/t.k=120)/\r=[]\/(t.k≠0/\t.k≠120)/\∃m,Z l+1-(t.at_+Z (zg l i).raw)<=m/\t.at_+Z (zg l i).raw<=Z l/\r=Nc m l (t.at_+Z (zg l i).raw)):=by
 intro n
 induction n with
 |zero=>intro i p v;omega
 |succ n ih=>
  intro i p v;rw[Nc]
  by_cases d:i<Z l
  ·rw[Az d]
   by_cases b:Me l i=32\/Me l i=10
   ·rw[Az b,sx d b]
    exact ih (i+1) (by omega) (by omega)
   ·rw[Aw b]
    obtain⟨f,q⟩:=zj8 d b;have u:(R.tok l i).k=(Qe l i).2:=rfl;have g:(R.tok l i).at_=i:=rfl
    by_cases a:(Qe l i).2=120
    ·rw[Az a]
     exact⟨_,_,rfl,f,Ay ⟨Bf (by rw[u,a]),rfl⟩⟩
    ·rw[Aw a]
     have s:=q a;have w:Z (zg l i).raw<=Z l-i:=by
      unfold zg;rw[bO d b];simp only[Cq,Cy];omega
     have o:(R.tok l i).k≠0:=by
      intro e;rw[u] at e;clear f q s a p ih;unfold Qe at e
      repeat' (split at e)
      all_goals simp at e
     have x:1<=Z (zg l i).raw:=by
      cases f with
      |fin h k=>exact absurd k o
      |word h k j r c cs e=>rw[r,e];simp
      |num h k j r c cs e=>rw[r,e];simp
      |str h k j r=>rw[r];simp
      |sign h k j r c e=>rw[r,e];simp
      |wrong h k=>exact absurd k a
     refine⟨_,_,rfl,f,Bf ⟨⟨o,a⟩,n,?_,?_,?_⟩⟩
     ·rw[g];omega
     ·rw[g];omega
     ·rw[g,s]
  ·rw[Aw d]
   have e:i=Z l:=by omega
   subst e;refine⟨_,_,rfl,.fin ?_ rfl ?_ ?_,Ay ⟨Ay rfl,rfl⟩⟩ <;> simp[zg,qE,By,qD]
structure Sim (l:A Ab) (ts:A Bx) (st:Bw) (p:P.St):Prop where
 nb:st.bad<0
 nk:p.broken=false
 link:∃m q,Z l+1-q<=m/\q<=Z l/\ts.drop st.K=Nc m l q/\p.tok=zg l q
 err:p.err=st.E
 fat:st.E≠0->p.fat=st.at_
 past:st.E≠0->st.at_<p.tok.at_
structure Dead (st:Bw) (p:P.St):Prop where
 bad:0<=st.bad
 broken:p.broken=true
 place:(p.tok.at_:Ak)=st.bad
def Res (l:A Ab)(ts:A Bx)(Q:Prop)(st:Bw)(p:P.St):Prop:=(Sim l ts st p/\Q)\/Dead st p
variable {ts:A Bx}{Q:Prop}{a b:Bw}{p:P.St}
theorem Res.bind {c:Prop}{st:Bw}{b:P.St}(h:Res l ts Q st p)(g:0<=st.bad->a=st)(i:p.broken=true->b.broken=true/\b.tok=p.tok)
  (j:Sim l ts st p->Q->Res l ts c a b):Res l ts c a b:=by
 rcases h with ⟨h,q⟩|h
 ·exact j h q
 ·right
  obtain⟨d,f⟩:=i h.broken;rw[g h.bad];exact⟨h.bad,d,by rw[f];exact h.place⟩
theorem Res.mono {a:Prop}{st:Bw}(h:Res l ts Q st p)(b:Q->a):Res l ts a st p:=by grind[Bx,Bw,P.St,Res]
theorem dL (t:Bx)(st:Bw)(b:Ee):(Hn t st b).E=st.E:=by unfold Hn;split;rfl;split <;> rfl
theorem tX (t:Bx)(st:Bw)(b:Ee):(Hn t st b).at_=st.at_:=by unfold Hn;split;rfl;split <;> rfl
theorem Sim.tok {st:Bw}(h:Sim l ts st p):TokSim (Bj ts st) p.tok/\st.K<Z ts:=by grind[zdH,List.drop_of_length_le,Bj,List.getElem?_eq_getElem,List.drop_eq_getElem_cons,List.cons.inj,Bx,Bw,P.St,Sim,TokSim]
theorem nI {st:Bw}(h:Sim l ts st p)(b:Ee)(E:b=true->(Bj ts st).k≠0/\(Bj ts st).k≠120) :
  (b=true/\Sim l ts (Hn (Bj ts st) st b) (qR l p b)/\p.tok.at_<(qR l p b).tok.at_/\p.tok.at_+Z p.tok.raw<=(qR l p b).tok.at_)\/(b=false/\Dead (Hn (Bj ts st) st b) (qR l p b)):=by
 have w:=h.tok;obtain⟨m,q,y,B,g,i⟩:=h.link;obtain⟨t,r,x,n,o⟩:=zdH m q y B;have s:Bj ts st=t:=by
  unfold Bj;rw[Gf,Bd w.2];rw[x,Ed w.2] at g;exact(Vf g).1
 unfold Hn qR;rw[Aw (by have:=h.nb;omega)]
 cases b
 ·right
  rw[Aw (by simp),Aw (by simp)];have:=n.place;exact⟨rfl,⟨by rw[s];exact Sj _,rfl,by rw[s,i,this]⟩⟩
 ·left
  rw[Az rfl,Az ⟨rfl,h.nk⟩];have a:=E rfl;rw[s] at a;rcases o with ⟨o,_⟩|⟨_,m',h8,h9,h10⟩
  ·exact absurd o (by intro h;rcases h with h|h;exact a.1 h;exact a.2 h)
  have d:p.tok.at_+Z p.tok.raw=t.at_+Z (zg l q).raw:=by rw[i,n.place]
  have f:1<=Z (zg l q).raw:=by
   cases n with
   |fin h k=>exact absurd k a.1
   |word h k j r c cs e=>rw[r,e];simp
   |num h k j r c cs e=>rw[r,e];simp
   |str h k j r=>rw[r];simp
   |sign h k j r c e=>rw[r,e];simp
   |wrong h k=>exact absurd k a.2
  have u:p.tok.at_+Z p.tok.raw<=(zg l (p.tok.at_+Z p.tok.raw)).at_:=by
   unfold zg qE;simp only;omega
  have v:p.tok.at_<(zg l (p.tok.at_+Z p.tok.raw)).at_:=by
   have:1<=Z p.tok.raw:=by rw[i];exact f
   omega
  refine⟨rfl,⟨h.nb,h.nk,⟨m',p.tok.at_+Z p.tok.raw,by rw[d];exact h8,by rw[d];exact h9,?_,rfl⟩,h.err,h.fat,?_⟩,v,u⟩
  ·rw[d,<-h10]
   rw[x,Ed w.2] at g;exact(Vf g).2
  ·intro C
   have z:=h.past C;have:(ug l p (p.tok.at_+Z p.tok.raw)).tok.at_=(zg l (p.tok.at_+Z p.tok.raw)).at_:=rfl;rw[this];show st.at_<_
   omega
def headOk (r:A Ab):Prop:=∃c cs,r=c::cs/\Ck c.toNat=false/\c≠34
theorem kT {st:Bw}(h:Sim l ts st p)(g:headOk r):Fz st (Bj ts st) r=decide (p.tok.raw=r)/\qH p r=Fz st (Bj ts st) r/\(Fz st (Bj ts st) r=true->(Bj ts st).k≠0/\(Bj ts st).k≠120):=by
 have e:Fz st (Bj ts st) r=decide (p.tok.raw=r):=by
  obtain⟨c,b,rfl,f,a⟩:=g;unfold Fz;rw[Cf h.nb]
  cases h.tok.1 with
  |fin _ k j r=>rw[k,r];simp
  |word _ k j r=>rw[k,r];simp
  |num _ k j r c' cs' e hc=>
   rw[k,r,e];have:¬(c'::cs'=c::b):=by intro h;rw[(Vf h).1,f] at hc;cases hc
   rw[Ce this];rfl
  |str _ k j r=>
   rw[k,r];have:¬(34::(Bj ts st).s++[34]=c::b):=by intro h;exact a (Vf h).1.symm
   rw[Ce this];rfl
  |sign _ k j r=>rw[k,r];simp
  |wrong _ k j r=>rw[k,r];simp
 refine⟨e,?_,?_⟩
 ·rw[e];unfold qH;rw[h.nk];simp
 ·intro d
  unfold Fz at d;simp only[Ez,Sn,Hw] at d
  omega
theorem yh {st:Bw}(h:Sim l ts st p)(c:headOk r):Res l ts (p.tok.at_<(zS l p r).tok.at_/\Fz st (Bj ts st) r=true) (Cg ts st r) (zS l p r):=by
 obtain⟨a,f,b⟩:=kT h c;unfold Cg zS;rw[<-a];rcases nI h (Fz st (Bj ts st) r) b with ⟨e,s,lt,_⟩|⟨_,d⟩
 ·exact Ay ⟨s,lt,e⟩
 ·exact Bf d
def Still (p p':P.St):Prop:=p.broken=true->p'.broken=true/\p'.tok=p.tok
theorem Still.trans {a b c:P.St}(h:Still a b)(k:Still b c):Still a c:=by grind[P.St,Still]
theorem zcE (p:P.St):Still p p:=fun h=>⟨h,rfl⟩
theorem uv (l:A Ab)(p:P.St)(b:Ee):Still p (qR l p b):=by grind[qR,P.St,Still]
theorem qu (l:A Ab)(p:P.St)(r:A Ab):Still p (zS l p r):=uv _ _ _
theorem kQ (l:A Ab)(p:P.St):Still p (qA l p).2:=uv _ _ _
theorem du (l:A Ab)(p:P.St):Still p (qp l p).2:=uv _ _ _
theorem zbF (p:P.St)(e a:Ak):(xH p e a).tok=p.tok/\(xH p e a).broken=p.broken:=by grind[xH,P.St]
theorem x9 (p:P.St)(b:Ee)(e a:Ak):(zh p b e a).tok=p.tok/\(zh p b e a).broken=p.broken:=by grind[zh,zbF,P.St]
theorem jR (p:P.St)(b:Ee)(e a:Ak):(zh p b e a).tok=p.tok:=(x9 p b e a).1
theorem yQ (p:P.St)(b:Ee)(e a:Ak):Still p (zh p b e a):=by grind[x9,P.St,Still,zh]
theorem zg9 (p:P.St)(a b:Ak):Still p (zy p a b):=yQ _ _ _ _
theorem jO (h:p.broken=true):qH p r=false:=by unfold qH;rw[h];rfl
theorem df (l:A Ab)(p:P.St)(b c:Ee)(e a:Ak):qR l (zh p c e a) b=zh (qR l p b) c e a:=by grind[qR,zh,xH,ug,P.St]
theorem zgC (l:A Ab)(p:P.St)(r:A Ab)(c:Ee)(e a:Ak):zS l (zh p c e a) r=zh (zS l p r) c e a:=by
 unfold zS;rw[(x9 p c e a).1,df]
theorem zj1 (l:A Ab)(p:P.St)(c:Ee)(e a:Ak):qA l (zh p c e a)=((qA l p).1,zh (qA l p).2 c e a):=by grind[qA,x9,df,P.St,zh]
def Noted (st:Bw)(a e:Ak):Prop:=st.E≠0->st.at_<a\/(st.at_=a/\st.E<=e)
theorem zhV {st:Bw}(h:Sim l ts st p)(b:Ee)(e a:Ak)(d:Noted st a e)(c:a<p.tok.at_):Sim l ts (Cw st b e a) (zh p (!b) e a)/\∀e',e<=e'->Noted (Cw st b e a) a e':=by grind[Cw,zh,xH,Bx,Bw,P.St,Sim,Noted]
theorem jr {st:Bw}{a e:Ak}(h:Noted st a e)(t:Bx)(b:Ee):Noted (Hn t st b) a e:=by grind[Noted,Bw,Bx,Hn]
theorem vY {st:Bw}(h:Sim l ts st p)(e:Ak):Noted st (Bj ts st).at_ e:=by
 intro a;left;have:=h.past a;rw[h.tok.1.place] at this;exact this
theorem dB {st:Bw}(h:Sim l ts st p):Res l ts ((qA l p).1=(Bj ts st).s/\p.tok.at_<(qA l p).2.tok.at_) (Fg ts st 34) (qA l p).2:=by
 have a:=h.tok.1;have b:(p.tok.k == 3)=((Bj ts st).k == 34):=by
  cases a with
  |fin _ k j=>rw[k,j];rfl
  |word _ k j=>rw[k,j];rfl
  |num _ k j=>rw[k,j];rfl
  |str _ k j=>rw[k,j];rfl
  |sign _ k j=>rw[k,j];rfl
  |wrong _ k j=>rw[k,j];rfl
 unfold qA Fg;rw[b];rcases nI h ((Bj ts st).k == 34) (fun e=>by rw[Hw] at e;omega) with ⟨e,s,lt,_⟩|⟨_,d⟩
 ·left
  refine⟨s,?_,lt⟩;rw[Aw (by rw[s.nk];simp)];rw[Hw] at e
  cases a with
  |fin _ k j=>omega
  |word _ k j=>omega
  |num _ k j=>omega
  |sign _ k j=>omega
  |wrong _ k j=>omega
  |str _ k j r=>rw[r];simp
 ·exact Bf d
theorem zd3 {st:Bw}(h:Sim l ts st p):Res l ts ((qp l p).1=Gk (Bj ts st).s/\p.tok.at_<(qp l p).2.tok.at_/\(Bj ts st).k=49) (Fg ts st 49) (qp l p).2:=by
 have a:=h.tok.1;have b:(p.tok.k == 2)=((Bj ts st).k == 49):=by
  cases a with
  |fin _ k j=>rw[k,j];rfl
  |word _ k j=>rw[k,j];rfl
  |num _ k j=>rw[k,j];rfl
  |str _ k j=>rw[k,j];rfl
  |sign _ k j=>rw[k,j];rfl
  |wrong _ k j=>rw[k,j];rfl
 unfold qp Fg;rw[b];rcases nI h ((Bj ts st).k == 49) (fun e=>by rw[Hw] at e;omega) with ⟨e,s,lt,_⟩|⟨_,d⟩
 ·left
  rw[Hw] at e;refine⟨s,?_,lt,e⟩;rw[Aw (by rw[s.nk];simp)]
  cases a with
  |fin _ k j=>omega
  |word _ k j=>omega
  |str _ k j=>omega
  |sign _ k j=>omega
  |wrong _ k j=>omega
  |num _ k j r=>rw[r]
 ·exact Bf d
theorem xy {st:Bw}(h:Dead st p)(b:Ee)(e a:Ak):Dead st (zh p b e a):=by grind[x9,Bw,P.St,Dead,zh]
theorem Res.note {st:Bw}(h:Res l ts Q st p)(b:Ee)(e:Ak)(a:Ak)(i:Sim l ts st p->Q->Noted st a e/\a<p.tok.at_):Res l ts (Q/\∀e',e<=e'->Noted (Cw st b e a) a e') (Cw st b e a) (zh p (!b) e a):=by
 rcases h with ⟨h,q⟩|h
 ·obtain⟨c,d⟩:=i h q
  obtain⟨f,g⟩:=zhV h b e a c d;exact Ay ⟨f,q,g⟩
 ·right;rw[Gl h.bad];exact xy h _ _ _
theorem zeP {st:Bw}(h:Sim l ts st p):Res l ts ((qA l p).1=(Hu ts st).1/\p.tok.at_<(qA l p).2.tok.at_) (Hu ts st).2 (zh (qA l p).2 (!R.path (qA l p).1) 4 p.tok.at_):=by
 have a:=dB h;unfold Hu;simp only;rcases a with ⟨a,q1,q2⟩|d
 ·rw[q1,h.tok.1.place]
  rw[h.tok.1.place] at q2;have:=Res.note (Ay ⟨a,trivial⟩:Res l ts True _ _) (Hp (Bj ts st).s) 4 (Bj ts st).at_ (fun _ _=>⟨jr (vY h 4) _ _,by omega⟩);exact this.mono (fun _=>⟨rfl,by omega⟩)
 ·right;rw[Gl d.bad];exact xy d _ _ _
variable {c:Ab}
theorem jQ {a:A Ab}(b:Ck c.toNat=false)(d:c≠34):headOk (c::a):=⟨c,a,rfl,b,d⟩
theorem lN {st:Bw}(h:Sim l ts st p)(w:A Ab)(c:headOk w):Res l ts ((xi l p w).1=(Hu ts (Cg ts st w)).1/\p.tok.at_<(xi l p w).2.tok.at_) (Cg ts (Hu ts (Cg ts st w)).2 [59]) (xi l p w).2:=by
 have b:=yh h c;unfold xi;simp only;refine Res.bind b (fun hb=>by rw[R.pathS_bad hb,Ig hb]) (((kQ _ _).trans (yQ _ _ _ _)).trans (qu _ _ _)) (fun s1 q1=>?_);refine Res.bind (zeP s1) (fun hb=>Ig hb) (qu _ _ _) (fun s2 q2=>?_);refine(yh s2 (jQ rfl (by decide))).mono (fun q3=>⟨q2.1,?_⟩);have e:=(x9 (qA l (zS l p w)).2 (!R.path (qA l (zS l p w)).1) 4 (zS l p w).tok.at_).1;have a:=q3.1;rw[e] at a
 omega
theorem bE (l:A Ab)(p:P.St)(w:A Ab):Still p (xi l p w).2:=by grind[qu,kQ,yQ,P.St,Still,xi]
theorem sj {st:Bw}(h:Sim l ts st p):Res l ts ((x6 l p).1=(Ir ts st).1/\p.tok.at_<(x6 l p).2.tok.at_) (Ir ts st).2 (x6 l p).2:=by
 unfold x6 Ir;simp only;refine Res.bind (yh h (r:=[61]) (jQ rfl (by decide))) (fun hb=>by rw[R.kindS_bad hb,Gl hb]) ((kQ _ _).trans (yQ _ _ _ _)) (fun s1 q1=>?_);rcases dB s1 with ⟨h1,q2,q3⟩|d
 ·rw[q2,s1.tok.1.place]
  rw[s1.tok.1.place] at q3;have:=Res.note (Ay ⟨h1,trivial⟩:Res l ts True _ _) (Gz (Bj ts (Cg ts st [61])).s) 4 (Bj ts (Cg ts st [61])).at_ (fun _ _=>⟨jr (vY s1 4) _ _,by omega⟩);refine this.mono (fun _=>⟨rfl,?_⟩);rw[(x9 _ _ _ _).1];have:=q1.1;rw[s1.tok.1.place] at this;omega
 ·right;rw[Gl d.bad];exact xy d _ _ _
theorem ox (l:A Ab)(p:P.St):Still p (x6 l p).2:=((qu _ _ _).trans (kQ _ _)).trans (yQ _ _ _ _)
theorem iP {l:A (A Ab)}{a:Ak}:∀{st:Bw},Ip l s a st=Cw st (!l.any fun n=>decide (n=s)) 5 a:=by
 unfold Ip
 induction l with
 |nil=>intro st;simp[Cw]
 |cons x l ih=>
  intro st;rw[Nu,ih,List.any_cons]
  by_cases h:x=s
  ·subst h
   rw[show decide (x≠x)=false by simp,show decide (x=x)=true by simp,Vu,Bool.not_true]
   by_cases b:st.E=0/\st.bad<0
   ·have d:Cw st false 5 a={ st with E:=5,at_:=a }:=by unfold Cw;rw[Az ⟨rfl,b.1,b.2⟩]
    rw[d];unfold Cw;rw[Aw (fun c=>absurd c.2.1 (by simp))]
   ·have d:Cw st false 5 a=st:=by unfold Cw;rw[Aw (fun c=>b c.2)]
    rw[d];unfold Cw;rw[Aw (fun c=>b c.2)]
  ·rw[show decide (x≠s)=true by simpa using h,show decide (x=s)=false by simpa using h,Qq]
   have:Cw st true 5 a=st:=by unfold Cw;rw[Aw (by simp)]
   rw[this]
theorem ze0 {l:A Ak}{s:Ak}{a:Ak}:∀{st:Bw},Mu l s a st=Cw st (!l.any fun n=>decide (n=s)) 5 a:=by
 unfold Mu
 induction l with
 |nil=>intro st;simp[Cw]
 |cons x l ih=>
  intro st;rw[Nu,ih,List.any_cons]
  by_cases h:x=s
  ·subst h
   rw[show decide (x=x)=true by simp,Vu,Bool.not_true]
   by_cases b:st.E=0/\st.bad<0
   ·have d:Cw st false 5 a={ st with E:=5,at_:=a }:=by unfold Cw;rw[Az ⟨rfl,b.1,b.2⟩]
    rw[d];unfold Cw;rw[Aw (fun c=>absurd c.2.1 (by simp))]
   ·have d:Cw st false 5 a=st:=by unfold Cw;rw[Aw (fun c=>b c.2)]
    rw[d];unfold Cw;rw[Aw (fun c=>b c.2)]
  ·rw[show decide (x=s)=false by simpa using h,Qq,Bool.not_false]
   have:Cw st true 5 a=st:=by unfold Cw;rw[Aw (by simp)]
   rw[this]
theorem tZ {st:Bw}(h:Sim l ts st p)(a:A (A Ab)):Res l ts ((qi l p a).1=(Mj ts st a).1/\p.tok.at_<(qi l p a).2.tok.at_) (Mj ts st a).2 (qi l p a).2:=by
 unfold qi qV Mj;simp only;rw[iP];rcases dB h with ⟨h1,q2,q3⟩|d
 ·rw[q2,h.tok.1.place]
  rw[h.tok.1.place] at q3;have c:=Res.note (Ay ⟨h1,trivial⟩:Res l ts True _ _) (Ft (Bj ts st).s true) 4 (Bj ts st).at_ (fun _ _=>⟨jr (vY h 4) _ _,by omega⟩);have b:=Res.note c (!a.any fun n=>decide (n=Cj (Bj ts st).s)) 5 (Bj ts st).at_ (fun _ q=>⟨q.2 5 (by decide),by rw[(x9 _ _ _ _).1];omega⟩);rw[Bool.not_not] at b;refine b.mono (fun _=>⟨rfl,?_⟩);rw[(x9 _ _ _ _).1,(x9 _ _ _ _).1];omega
 ·right;rw[Gl (by rw[Gl d.bad];exact d.bad),Gl d.bad];exact xy (xy d _ _ _) _ _ _
theorem d9 (l:A Ab)(p:P.St):Still p (qV l p).2:=(kQ _ _).trans (yQ _ _ _ _)
theorem d8 (l:A Ab)(p:P.St)(a:A (A Ab)):Still p (qi l p a).2:=(d9 _ _).trans (yQ _ _ _ _)
theorem zaZ (l:A Ab)(p:P.St):qi l p []=qV l p:=by unfold qi;simp[zh]
theorem fY {st:Bw}(h:Sim l ts st p)(r:A Ab)(c:headOk r)(n:Ad)(m:Ak):Res l ts (p.tok.at_<(zS l (zy p n m) r).tok.at_/\Fz st (Bj ts st) r=true) (Cw (Cg ts st r) (decide ((n:Ak)<m)) 3 (Bj ts st).at_) (zS l (zy p n m) r):=by
 unfold zy;rw[zgC];have b:decide (m<=(n:Ak))=!decide ((n:Ak)<m):=by
  rw[Eb];simp
 rw[b,h.tok.1.place];have a:=yh h c;rw[h.tok.1.place] at a;have d:=Res.note a (decide ((n:Ak)<m)) 3 (Bj ts st).at_ (fun _ q=>⟨jr (vY h 3) _ _,by omega⟩);refine d.mono (fun q=>⟨?_,q.1.2⟩);rw[(x9 _ _ _ _).1];exact q.1.1
theorem hd59:headOk [59]:=jQ rfl (by decide)
theorem hd61:headOk [61]:=jQ rfl (by decide)
theorem hd44:headOk [44]:=jQ rfl (by decide)
theorem hd123:headOk [123]:=jQ rfl (by decide)
theorem hd125:headOk [125]:=jQ rfl (by decide)
theorem hdHeader:headOk qO:=jQ rfl (by decide)
theorem hdSet:headOk xX:=jQ rfl (by decide)
theorem hdDrop:headOk qy:=jQ rfl (by decide)
theorem hdRule:headOk qz:=jQ rfl (by decide)
theorem hdPath:headOk jB:=jQ rfl (by decide)
theorem hdReplace:headOk qK:=jQ rfl (by decide)
theorem hdHost:headOk Hy:=jQ rfl (by decide)
theorem hdTo:headOk kh:=jQ rfl (by decide)
def mtOf (m:P.Mt):Nt:=⟨m.name,m.val,m.ask⟩
theorem zeM {st:Bw}(h:Sim l ts st p)(a:A Nt)(n:Ad)(f:Z a=n):Res l ts ((yK ts st a).2=a++[mtOf (qo l p n).1]/\p.tok.at_<(qo l p n).2.tok.at_) (yK ts st a).1 (qo l p n).2:=by
 subst f;unfold qo yK;simp only;have g:Res l ts ((jC l p (Z a)).1=(jK ts st (Z a)).1/\p.tok.at_<(jC l p (Z a)).2.tok.at_) (jK ts st (Z a)).2 (jC l p (Z a)).2:=by
  unfold jC jK;have i:=fY h qO hdHeader (Z a) 3;refine Res.bind i (fun b=>R.headerS_bad b) (d9 _ _) (fun s1 q1=>?_);have c:=tZ s1 [];rw[zaZ] at c;exact c.mono (fun q=>⟨q.1,by have:=q1.1;have:=q.2;omega⟩)
 refine Res.bind g (fun b=>by unfold wj;rw[R.isB_bad b,Aw (by simp),Ig b]) ?_ (fun s1 q1=>?_)
 ·refine Still.trans ?_ (qu _ _ _)
  intro b;unfold vz;rw[jO b];exact⟨b,rfl⟩
 obtain⟨_,d,_⟩:=kT s1 hd61;unfold vz wj mtOf;rw[d,q1.1]
 cases hask:Fz (jK ts st (Z a)).2 (Bj ts (jK ts st (Z a)).2) [61]
 ·simp only[Ct,Gj]
  exact(yh s1 hd59).mono (fun q=>⟨trivial,by have:=q1.2;have:=q.1;omega⟩)
 ·simp only[Gq]
  refine Res.bind (sj s1) (fun b=>Ig b) (qu _ _ _) (fun s2 q2=>?_);exact(yh s2 hd59).mono (fun q=>⟨by rw[q2.1],by have:=q1.2;have:=q2.2;have:=q.1;omega⟩)
theorem Sim.atLe {st:Bw}(h:Sim l ts st p):p.tok.at_<=Z l:=by
 obtain⟨m,q,c,a,d,b⟩:=h.link;rw[b];have:=mQ l q a;omega
theorem zbC:∀(n m:Ad) {st:Bw} {p:P.St} (b:A Nt) (a:A P.Mt),Sim l ts st p->b=a.map mtOf->Z ts<n+st.K->Z l<m+p.tok.at_->
  Res l ts ((On ts n st b).1=(qw l m p a).1.map mtOf/\p.tok.at_<=(qw l m p a).2.tok.at_) (On ts n st b).2 (qw l m p a).2:=by
 intro n
 induction n with
 |zero=>intro m st p b a h _ j _;have:=h.tok.2;omega
 |succ n ih=>
  intro m st p b a h f j g
  match m,g with
  |0,g=>have:=h.atLe;omega
  |m+1,g=>
   obtain⟨_,i,_⟩:=kT h hdHeader;rw[On,qw,i]
   cases hgo:Fz st (Bj ts st) qO
   ·simp only[Ct,Gj]
    exact Ay ⟨h,f,Aq _⟩
   ·simp only[Gq]
    have r:=fM ts st b hgo;have o:=zeM h b (Z a) (by rw[f,Bv]);rcases o with ⟨s1,q1,q2⟩|d
    ·have:=ih m (b++[mtOf (qo l p (Z a)).1]) (a++[(qo l p (Z a)).1]) s1 (by rw[f];simp) (by omega) (by omega)
     rw[q1];exact this.mono (fun q=>⟨q.1,by have:=q.2;omega⟩)
    ·right
     rw[R.mtLoop_bad d.bad];have:∀k c,qw l k (qo l p (Z a)).2 c=(c,(qo l p (Z a)).2):=by
      intro k c;cases k
      ·rfl
      ·rw[qw,jO d.broken];rfl
     rw[this];exact d
theorem dA (l:A Ab)(n:Ad)(p:P.St)(a:A P.Mt):Still p (qw l n p a).2:=by
 intro b
 cases n
 ·exact⟨b,rfl⟩
 ·rw[qw,jO b];exact⟨b,rfl⟩
theorem lH (l:A Ab)(p:P.St)(c:Ee)(e a:Ak):qp l (zh p c e a)=((qp l p).1,zh (qp l p).2 c e a):=by grind[qp,x9,df,P.St,zh]
theorem mT (st:Bw)(b:Ee)(e a:Ak)(h:st.E≠0):Cw st b e a=st:=by unfold Cw;rw[Aw (fun c=>h c.2.1)]
variable {k:Ak}
theorem gE {st:Bw}(a:st.bad<0)(h:(Bj ts st).k=k):Fg ts st k={ st with K:=st.K+1 }:=by grind[Fg,Hn,Bx,Bw,Bj]
def wsum (l:A (A Ab×Ak)):Ak:=(l.map Prod.snd).sum
theorem sn (l:A (A Ab×Ak))(t:A Ab×Ak):wsum (l++[t])=wsum l+t.2:=by simp[wsum]
theorem zcH {st:Bw}(z:So ts)(h:Sim l ts st p)(i:Ad)(b:A (A Ab×Ak)):Res l ts ((qJ ts st i b).2=b++([(zb l p i).1].filter fun t=>!(t.2 == 0))/\0<=(zb l p i).1.2/\p.tok.at_<(zb l p i).2.tok.at_/\(qJ ts st i b).1.K=st.K+2/\
   (st.E=0->(qJ ts st i b).1.E≠0->p.tok.at_<=(qJ ts st i b).1.at_)/\(st.E≠0->(qJ ts st i b).1.E=st.E/\(qJ ts st i b).1.at_=st.at_)/\
   yC (ts.drop st.K)=(zb l p i).1.2+yC (ts.drop (st.K+3))) (qJ ts st i b).1 (zb l p i).2:=by
 unfold zb xT zy;simp only;rw[zj1];simp only;rw[lH,lH];simp only;simp only[jR];unfold qJ;simp only;rcases dB h with ⟨h1,q1,q2⟩|d
 ·have m:(Bj ts st).k=34:=by
   apply Ng;intro hc
   have:=h1.nb;unfold Fg Hn at this;rw[Aw (by have:=h.nb;omega),Aw (by simpa using hc)] at this;have:(0:Ak)<=(Bj ts st).at_:=Sj _;simp only at *;omega
  have f:=gE h.nb m;rcases zd3 h1 with ⟨h2,g1,g2,g3⟩|d
  ·have g:Fg ts (Fg ts st 34) 49={ st with K:=st.K+2 }:=by rw[gE h1.nb g3,f]
   have B:=h.tok.1.place;have u:=h1.tok.1.place;rw[q1,g1,B,u];have n:=h1.tok.2;have r:=z.nums _ _ (show ts[(Fg ts st 34).K]?=V (Bj ts (Fg ts st 34)) by unfold Bj;rw[Gf,Bd n];rfl) g3;have x:decide ((4:Ak)<=i)=!decide ((i:Ak)<4):=by rw[Eb];simp
   have y:decide (1000<Gk (Bj ts (Fg ts st 34)).s)=!decide (Gk (Bj ts (Fg ts st 34)).s<=1000):=by rw[Eb];simp
   rw[x,y];have o:Noted (Fg ts (Fg ts st 34) 49) (Bj ts st).at_ 3:=jr (jr (vY h 3) _ _) _ _;have N:((Bj ts (Fg ts st 34)).at_:Ak)<(qp l (qA l p).2).2.tok.at_:=by rw[u] at g2;omega
   have r1:=Res.note (Ay ⟨h2,trivial⟩:Res l ts True _ _) (decide ((i:Ak)<4)) 3 (Bj ts st).at_ (fun _ _=>⟨o,by omega⟩);have r2:=Res.note r1 (Hf (Bj ts st).s) 4 (Bj ts st).at_ (fun _ q=>⟨q.2 4 (by decide),by rw[(x9 _ _ _ _).1];omega⟩);have r3:=Res.note r2 (decide (Gk (Bj ts (Fg ts st 34)).s<=1000)) 4 (Bj ts (Fg ts st 34)).at_ (fun _ q=>⟨fun v=>by
     rcases q.2 4 (by decide) v with c|c
     ·left;omega
     ·left;omega,by rw[(x9 _ _ _ _).1,(x9 _ _ _ _).1];exact N⟩)
   refine r3.mono (fun _=>⟨?_,r.1,?_,?_,?_,?_,?_⟩)
   ·by_cases F:0<Gk (Bj ts (Fg ts st 34)).s
    ·rw[Az F,Mp,Az (by simp;omega)];rfl
    ·rw[Aw F,Mp,Aw (by simp;omega)];simp
   ·omega
   ·rw[R.notS_K,R.notS_K,R.notS_K,g]
   ·intro v
    rw[g];unfold Cw;simp only
    repeat' split
    all_goals simp_all
    all_goals omega
   ·intro v
    have q:∀ok e a,Cw { st with K:=st.K+2 } ok e a={ st with K:=st.K+2 }:=fun ok e a=>mT _ _ _ _ v
    rw[g,q,q,q];exact⟨rfl,rfl⟩
   ·have w:=h.tok.2
    have H:ts[st.K]=Bj ts st:=by unfold Bj;rw[Gf,Bd w];rfl
    have j:st.K+1<Z ts:=by rw[f] at n;exact n
    have C:ts[st.K+1]=Bj ts (Fg ts st 34):=by rw[f];unfold Bj;simp only;rw[Gf,Bd j];rfl
    rw[gG ts st.K j (by rw[H];exact m) (by rw[C];exact g3),C]
  ·right
   rw[Gl (by rw[Gl (by rw[Gl d.bad];exact d.bad),Gl d.bad];exact d.bad),Gl (by rw[Gl d.bad];exact d.bad),Gl d.bad];exact xy (xy (xy d _ _ _) _ _ _) _ _ _
 ·right
  have Q:Fg ts (Fg ts st 34) 49=Fg ts st 34:=R.kindS_bad d.bad;rw[Q];rw[Gl (by rw[Gl (by rw[Gl d.bad];exact d.bad),Gl d.bad];exact d.bad),Gl (by rw[Gl d.bad];exact d.bad),Gl d.bad];have:=du l (qA l p).2 d.broken;exact xy (xy (xy ⟨d.bad,this.1,by rw[this.2];exact d.place⟩ _ _ _) _ _ _) _ _ _
theorem uy (l:A Ab)(p:P.St)(n:Ad):Still p (zb l p n).2:=
 ((((zg9 _ _ _).trans (kQ _ _)).trans (yQ _ _ _ _)).trans (du _ _)).trans (yQ _ _ _ _)
theorem kr (l:A Ab)(n:Ad)(p:P.St)(a:A (A Ab×Ak)):Still p (xG l n p a).2:=by
 intro b
 cases n
 ·exact⟨b,rfl⟩
 ·rw[xG,jO b];exact⟨b,rfl⟩
theorem zcJ (y:So ts):∀(n m:Ad) {st:Bw} {p:P.St} (i:Ad) (b a:A (A Ab×Ak)),Sim l ts st p->Z a=i->b=nz a->(∀t∈a,0<=t.2)->Z ts<n+st.K->Z l<m+p.tok.at_->
  Res l ts ((Gb ts n st i b).1=nz (xG l m (zb l p i).2 (a++[(zb l p i).1])).1/\(∀t∈(xG l m (zb l p i).2 (a++[(zb l p i).1])).1,0<=t.2)/\
   p.tok.at_<(xG l m (zb l p i).2 (a++[(zb l p i).1])).2.tok.at_/\
   (st.E=0->(Gb ts n st i b).2.E≠0->p.tok.at_<=(Gb ts n st i b).2.at_)/\(st.E≠0->(Gb ts n st i b).2.E=st.E/\(Gb ts n st i b).2.at_=st.at_)/\
   wsum a+yC (ts.drop st.K)=wsum (xG l m (zb l p i).2 (a++[(zb l p i).1])).1+yC (ts.drop ((Gb ts n st i b).2.K+1))) (Gb ts n st i b).2 (xG l m (zb l p i).2 (a++[(zb l p i).1])).2:=by
 intro n
 induction n with
 |zero=>intro m st p i b a h _ _ _ N _;have:=h.tok.2;omega
 |succ n ih=>
  intro m st p i b a h B H r N x
  match m,x with
  |0,x=>have:=h.atLe;omega
  |m+1,x=>
   rw[Gb,Az h.nb];rcases zcH y h i b with ⟨s1,q1,q2,q3,q4,q5,q6,q7⟩|d
   ·obtain⟨_,F,_⟩:=kT s1 hd44
    rw[xG,F];have f:∀t∈a++[(zb l p i).1],0<=t.2:=by
     intro t j;rcases Ea.1 j with j|j
     ·exact r t j
     ·simp at j;rw[j];exact q2
    have o:(qJ ts st i b).2=nz (a++[(zb l p i).1]):=by
     rw[q1,H];unfold nz;rw[Nj]
    cases hgo:Fz (qJ ts st i b).1 (Bj ts (qJ ts st i b).1) [44]
    ·simp only[Ct,Gj]
     left
     refine⟨s1,o,f,q3,q5,q6,?_⟩;rw[sn,q7,q4];show wsum a+((zb l p i).1.2+yC (ts.drop (st.K+3)))=wsum a+(zb l p i).1.2+yC (ts.drop (st.K+2+1));rw[show st.K+2+1=st.K+3 from rfl];omega
    ·simp only[Gq]
     have c:=R.needS_yes hgo;rcases yh s1 hd44 with ⟨s2,g1,_⟩|d
     ·have z:=ih m (i+1) (qJ ts st i b).2 (a++[(zb l p i).1]) s2 (by simp[B]) o f (by rw[c];simp only;omega) (by omega)
      have k:Z (a++[(zb l p i).1])=i+1:=by simp[B]
      rw[k];refine z.mono (fun q=>⟨q.1,q.2.1,by have:=q.2.2.1;omega,?_,?_,?_⟩)
      ·intro u w
       by_cases g:(qJ ts st i b).1.E=0
       ·have:=q.2.2.2.1 (by rw[c];exact g) w
        have:=q3
        omega
       ·have v:=q.2.2.2.2.1 (by rw[c];exact g)
        have:=q5 u g;rw[v.2,c];exact this
      ·intro u
       have C:=q6 u;have v:=q.2.2.2.2.1 (by rw[c];show(qJ ts st i b).1.E≠0;rw[C.1];exact u);rw[v.1,v.2,c];exact C
      ·have:=q.2.2.2.2.2
       rw[sn] at this;rw[<-this,q7,c];simp only;rw[q4];show wsum a+((zb l p i).1.2+yC (ts.drop (st.K+3)))=wsum a+(zb l p i).1.2+yC (ts.drop (st.K+2+1));rw[show st.K+2+1=st.K+3 from rfl];omega
     ·right
      rw[R.tgLoop_bad d.bad];have s:=((uy l (zS l (zb l p i).2 [44]) (Z (a++[(zb l p i).1]))).trans (kr l m _ (a++[(zb l p i).1]++[(zb l (zS l (zb l p i).2 [44]) (Z (a++[(zb l p i).1]))).1]))) d.broken;exact⟨d.bad,s.1,by rw[s.2];exact d.place⟩
   ·right
    rw[R.isB_bad d.bad];simp only[Ct,Gj];have s:=kr l (m+1) (zb l p i).2 (a++[(zb l p i).1]) d.broken;exact⟨d.bad,s.1,by rw[s.2];exact d.place⟩
def SameT (a b:Bw):Prop:=a.K=b.K/\a.bad=b.bad
theorem sY (h:SameT a b)(t:Bx)(k:Ee):SameT (Hn t a k) (Hn t b k):=by grind[Hn,Bw,SameT,Bx]
theorem ft (h:SameT a b)(ts:A Bx):Bj ts a=Bj ts b:=by unfold Bj;rw[h.1]
theorem ol (h:SameT a b)(t:Bx)(r:A Ab):Fz a t r=Fz b t r:=by unfold Fz;rw[h.2]
theorem dn (h:SameT a b)(ts:A Bx)(k:Ak):SameT (Fg ts a k) (Fg ts b k):=by unfold Fg;rw[ft h];exact sY h _ _
theorem tJ (h:SameT a b)(ts:A Bx)(r:A Ab):SameT (Cg ts a r) (Cg ts b r):=by unfold Cg;rw[ft h,ol h];exact sY h _ _
theorem om (st:Bw)(b:Ee)(e a:Ak):SameT (Cw st b e a) st:=by grind[Cw,Bw,SameT]
theorem SameT.symm (h:SameT a b):SameT b a:=⟨h.1.symm,h.2.symm⟩
theorem zc9 (h:SameT a b)(ts:A Bx)(i:Ad)(c:A (A Ab×Ak)):(qJ ts a i c).2=(qJ ts b i c).2/\SameT (qJ ts a i c).1 (qJ ts b i c).1:=by
 unfold qJ;simp only;have d:=dn h ts 34;have f:=dn d ts 49
 grind[qJ,dn,ft,om,Bw,SameT,Bx]
theorem oo (ts:A Bx):∀(n:Ad) {a b:Bw} (_:SameT a b) (i:Ad) (c:A (A Ab×Ak)),(Gb ts n a i c).1=(Gb ts n b i c).1/\SameT (Gb ts n a i c).2 (Gb ts n b i c).2:=by
 intro n
 induction n <;> grind[Gb,zc9,ft,ol,tJ,Bx,Bw,SameT]
theorem zj4 (ts:A Bx):∀(n:Ad) {st:Bw} (_:st.E≠0) (i:Ad) (a:A (A Ab×Ak)),(Gb ts n st i a).2.E=st.E/\(Gb ts n st i a).2.at_=st.at_:=by
 intro n
 induction n <;> grind[Gb,Fg,dL,tX,qJ,Cw,mT,Cg,Bx,Bw]
def Lost (l:A Ab)(ts:A Bx)(st:Bw)(p:P.St):Prop:=Sim l ts { st with E:=p.err,at_:=p.fat } p/\(Bj ts st).k=34
theorem zlR {l:A (A Ab×Ak)}(h:∀t∈l,0<=t.2):0<=wsum l/\((nz l).isEmpty=!decide (0<wsum l)):=by
 induction l <;> grind[wsum,nz]
theorem dN (h:Dead a p)(c:SameT a b):Dead b p:=by grind[Bw,P.St,Dead,SameT]
theorem za2 {st:Bw}(ah:So ts)(h:Sim l ts st p):Res l ts ((qS l p).1=(Hg ts st).1/\p.tok.at_<(qS l p).2.tok.at_) (Hg ts st).2 (qS l p).2\/Lost l ts (Hg ts st).2 (qS l p).2:=by
 have pl:=h.tok.1.place;unfold qS Hg;simp only;have aa:=yh h hdTo;rw[show kh=[116,111] from rfl] at aa;generalize hb:yC (ts.drop (Cg ts st [116,111]).K)=sm;rcases aa with ⟨s1,q1,_⟩|d
 ·have ad:(Cg ts st [116,111]).E=st.E:=by unfold Cg;rw[dL]
  have ab:(Cg ts st [116,111]).at_=st.at_:=by unfold Cg;rw[tX]
  generalize ai:zS l p [116,111]=p1 at*;generalize Cg ts st [116,111]=st1 at*;have C:yA l p=xG l (Z l+1) (zb l p1 0).2 ([]++[(zb l p1 0).1]):=by
   unfold yA;rw[show kh=[116,111] from rfl,ai];rfl
  have v:=zcJ ah (Z ts+1) (Z l+1) 0 [] [] s1 rfl rfl (by simp) (by omega) (by omega);rw[<-C,show wsum []=0 from rfl,hb] at v;have a:=oo ts (Z ts+1) (om st1 (decide (0<sm)) 4 (Bj ts st).at_) 0 [];have u:=zj4 ts (Z ts+1) (st:=Cw st1 (decide (0<sm)) 4 (Bj ts st).at_);generalize yA l p=pa at*;obtain⟨b,i⟩:=pa;simp only at v ⊢;rcases v with ⟨s2,a1,a2,a3,a4,a5,a6⟩|d
  · -- the run without the note of 'to'
   rcases yh s2 hd59 with ⟨s3,b1,b2⟩|d
   ·have w:=R.needS_yes b2
    obtain⟨z1,z2⟩:=zlR a2;have ag:(b.filter fun t=>!(t.2 == 0))=nz b:=rfl;rw[ag,z2,a.1,a1];have ae:(Cg ts (Gb ts (Z ts+1) st1 0 []).2 [59]).K=(Gb ts (Z ts+1) st1 0 []).2.K+1:=by rw[w]
    have f:=tJ a.2 ts [59];have r:(Cg ts (Gb ts (Z ts+1) st1 0 []).2 [59]).E=(Gb ts (Z ts+1) st1 0 []).2.E:=by rw[w]
    have B:(Cg ts (Gb ts (Z ts+1) st1 0 []).2 [59]).at_=(Gb ts (Z ts+1) st1 0 []).2.at_:=by rw[w]
    by_cases hl:yC (ts.drop ((Gb ts (Z ts+1) st1 0 []).2.K+1))=0
    ·left
     rw[hl] at a6;have aj:sm=wsum b:=by omega
     rw[<-aj]
     by_cases y:0<sm
     ·rw[Cf y]
      have s:Cw st1 true 4 (Bj ts st).at_=st1:=by unfold Cw;rw[Aw (by simp)]
      rw[s]
      left
      refine⟨?_,(by first|rfl|trivial),?_⟩
      ·simpa[zh] using s3
      ·rw[jR];omega
     ·rw[Ce y]
      rw[Ce y] at a u f;simp only[Bool.not_false]
      by_cases n:st1.E=0
      ·have s:Cw st1 false 4 (Bj ts st).at_={ st1 with E:=4,at_:=(Bj ts st).at_ }:=by unfold Cw;rw[Az ⟨rfl,n,s1.nb⟩]
       rw[s] at u f ⊢;obtain⟨z,f2⟩:=u (by show(4:Ak)≠0;decide) 0 [];simp only at z f2;have g1:(Cg ts (Gb ts (Z ts+1) { st1 with E:=4,at_:=(Bj ts st).at_ } 0 []).2 [59]).E=4:=by unfold Cg;rw[dL,z]
       have g2:(Cg ts (Gb ts (Z ts+1) { st1 with E:=4,at_:=(Bj ts st).at_ } 0 []).2 [59]).at_=(Bj ts st).at_:=by unfold Cg;rw[tX,f2]
       have g:zh (zS l i [59]) true 4 p.tok.at_={ zS l i [59] with err:=4,fat:=p.tok.at_ }:=by
        unfold zh xH;rw[Az rfl,Az]
        by_cases hz:(zS l i [59]).err=0
        ·exact Ay hz
        ·right;left
         have e3:(Gb ts (Z ts+1) st1 0 []).2.E≠0:=by rw[<-r,<-s3.err];exact hz
         have e4:=a4 n e3;rw[s3.fat (by rw[r];exact e3),B]
         omega
       rw[g]
       left
       refine⟨⟨by rw[f.2];exact s3.nb,s3.nk,?_,by rw[g1],fun _=>by rw[g2,<-pl],fun _=>?_⟩,(by first|rfl|trivial),?_⟩
       ·obtain⟨m,q,k1,k2,k3,k4⟩:=s3.link
        exact⟨m,q,k1,k2,by rw[f.1];exact k3,k4⟩
       ·rw[g2,<-pl]
        show(p.tok.at_:Ak)<(zS l i [59]).tok.at_
        omega
       ·show p.tok.at_<(zS l i [59]).tok.at_
        omega
      ·have s:Cw st1 false 4 (Bj ts st).at_=st1:=mT _ _ _ _ n
       rw[s];obtain⟨z,f2⟩:=a5 n;have Q:(zS l i [59]).fat=st1.at_:=by rw[s3.fat (by rw[r,z];exact n),B,f2]
       have N:(zS l i [59]).err=st1.E:=by rw[s3.err,r,z]
       have ak:st1.at_<p.tok.at_:=by rw[ab];exact h.past (by rw[<-ad];exact n)
       have g:zh (zS l i [59]) true 4 p.tok.at_=zS l i [59]:=by
        unfold zh xH;rw[Az rfl,N,Q,Aw];intro c;rcases c with c|c|c
        ·exact n c
        ·omega
        ·omega
       rw[g];exact Ay ⟨s3,(by first|rfl|trivial),by omega⟩
    ·right
     have af:(Bj ts (Cg ts (Gb ts (Z ts+1) st1 0 []).2 [59])).k=34:=by
      apply Ng;intro H
      apply hl
      rw[<-ae]
      apply fO
      rintro⟨hx,h1,_⟩
      apply H
      unfold Bj;rw[Gf,Bd (by omega)];exact h1
     refine⟨?_,by rw[ft f];exact af⟩;have j:=jR (zS l i [59]) (!decide (0<wsum b)) 4 p.tok.at_;have F:=(x9 (zS l i [59]) (!decide (0<wsum b)) 4 p.tok.at_).2;obtain⟨m,q,k1,k2,k3,k4⟩:=s3.link;refine⟨by show _<_;rw[f.2];exact s3.nb,by rw[F];exact s3.nk,⟨m,q,k1,k2,by show ts.drop _=_;rw[f.1];exact k3,by rw[j];exact k4⟩,rfl,fun _=>rfl,?_⟩;intro n;rw[j];show(zh (zS l i [59]) (!decide (0<wsum b)) 4 p.tok.at_).fat<_;have o:=n;unfold zh xH at o ⊢
     split
     ·split
      ·show(p.tok.at_:Ak)<_;omega
      ·rename_i _ H
       have hz:(zS l i [59]).err≠0:=fun e=>H (Ay e)
       rw[s3.fat (by rw[<-s3.err];exact hz)];exact s3.past (by rw[<-s3.err];exact hz)
     ·rename_i H
      rw[Aw H] at o;rw[s3.fat (by rw[<-s3.err];exact o)];exact s3.past (by rw[<-s3.err];exact o)
   ·left;right
    exact xy (dN d (tJ a.2.symm ts [59])) _ _ _
  ·left;right
   have d1:=dN d a.2.symm;rw[Ig d1.bad];have x:=qu l i [59] d1.broken;exact xy ⟨d1.bad,x.1,by rw[x.2];exact d1.place⟩ _ _ _
 ·left;right
  have s:Cw (Cg ts st [116,111]) (decide (0<sm)) 4 (Bj ts st).at_=Cg ts st [116,111]:=Gl d.bad;rw[s,R.tgLoop_bad d.bad];rw[Ig d.bad];have x:Still (zS l p [116,111]) (zh (zS l (yA l p).2 [59]) ((yA l p).1.filter fun t=>!(t.2 == 0)).isEmpty 4 p.tok.at_):=by
   refine Still.trans ?_ (yQ _ _ _ _);refine Still.trans ?_ (qu _ _ _);exact(uy _ _ _).trans (kr _ _ _ _)
  have x:=x d.broken;exact⟨d.bad,x.1,by rw[x.2];exact d.place⟩
theorem zl4 {st:Bw}(h:Sim l ts st p)(a:A (A Ab×A Ab)):Res l ts ((yL ts st a).2=a++[(xj l p (Z a) (a.map Bq)).1]/\p.tok.at_<(xj l p (Z a) (a.map Bq)).2.tok.at_) (yL ts st a).1 (xj l p (Z a) (a.map Bq)).2:=by
 unfold xj yL;simp only;have b:Res l ts ((jl l p (Z a) (a.map Bq)).1=(uO ts st (Z a) (a.map Bq)).1/\p.tok.at_<(jl l p (Z a) (a.map Bq)).2.tok.at_) (uO ts st (Z a) (a.map Bq)).2 (jl l p (Z a) (a.map Bq)).2:=by
  unfold jl uO;refine Res.bind (fY h xX hdSet (Z a) 3) (fun hb=>R.headerS_bad hb) (d8 _ _ _) (fun s1 q1=>?_);exact(tZ s1 (a.map Bq)).mono (fun q=>⟨q.1,by have:=q1.1;have:=q.2;omega⟩)
 refine Res.bind b (fun hb=>by rw[R.valueS_bad hb,Ig hb]) ((ox _ _).trans (qu _ _ _)) (fun s1 q1=>?_);refine Res.bind (sj s1) (fun hb=>Ig hb) (qu _ _ _) (fun s2 q2=>?_);exact(yh s2 hd59).mono (fun q=>⟨by rw[q1.1,q2.1],by have:=q1.2;have:=q2.2;have:=q.1;omega⟩)
theorem zh6 {st:Bw}(h:Sim l ts st p)(b a:A (A Ab)):Res l ts ((yJ ts st b a).2=a++[(xO l p (Z a) (b++a)).1]/\p.tok.at_<(xO l p (Z a) (b++a)).2.tok.at_) (yJ ts st b a).1 (xO l p (Z a) (b++a)).2:=by
 unfold xO yJ;simp only;have c:Res l ts ((je l p (Z a) (b++a)).1=(fI ts st (Z a) (b++a)).1/\p.tok.at_<(je l p (Z a) (b++a)).2.tok.at_) (fI ts st (Z a) (b++a)).2 (je l p (Z a) (b++a)).2:=by
  unfold je fI;refine Res.bind (fY h qy hdDrop (Z a) 3) (fun hb=>R.headerS_bad hb) (d8 _ _ _) (fun s1 q1=>?_);exact(tZ s1 (b++a)).mono (fun q=>⟨q.1,by have:=q1.1;have:=q.2;omega⟩)
 refine Res.bind c (fun hb=>Ig hb) (qu _ _ _) (fun s1 q1=>?_);exact(yh s1 hd59).mono (fun q=>⟨by rw[q1.1],by have:=q1.2;have:=q.1;omega⟩)
theorem ux (l:A Ab)(n:Ad)(p:P.St)(a:A (A Ab×A Ab)):Still p (qk l n p a).2:=by
 intro b
 cases n
 ·exact⟨b,rfl⟩
 ·rw[qk,jO b];exact⟨b,rfl⟩
theorem kq (l:A Ab)(a:A (A Ab))(n:Ad)(p:P.St)(b:A (A Ab)):Still p (qf l a n p b).2:=by
 intro c
 cases n
 ·exact⟨c,rfl⟩
 ·rw[qf,jO c];exact⟨c,rfl⟩
theorem zcD:∀(n m:Ad) {st:Bw} {p:P.St} (a:A (A Ab×A Ab)),Sim l ts st p->Z ts<n+st.K->Z l<m+p.tok.at_->
  Res l ts ((Ie ts n st a).1=(qk l m p a).1/\p.tok.at_<=(qk l m p a).2.tok.at_) (Ie ts n st a).2 (qk l m p a).2:=by
 intro n
 induction n with
 |zero=>intro m st p a h g _;have:=h.tok.2;omega
 |succ n ih=>
  intro m st p a h g b
  match m,b with
  |0,b=>have:=h.atLe;omega
  |m+1,b=>
   obtain⟨_,f,_⟩:=kT h hdSet;rw[Ie,qk,f]
   cases hgo:Fz st (Bj ts st) xX
   ·simp only[Ct,Gj]
    exact Ay ⟨h,(by first|rfl|trivial),Aq _⟩
   ·simp only[Gq]
    have i:=fN ts st a hgo;rcases zl4 h a with ⟨s1,q1,q2⟩|d
    ·rw[q1]
     exact(ih m _ s1 (by omega) (by omega)).mono (fun q=>⟨q.1,by have:=q.2;omega⟩)
    ·right
     rw[R.stLoop_bad d.bad];have c:=ux l m _ (a++[(xj l p (Z a) (a.map Bq)).1]) d.broken;exact⟨d.bad,c.1,by rw[c.2];exact d.place⟩
theorem zaY (a:A (A Ab)):∀(n m:Ad) {st:Bw} {p:P.St} (b:A (A Ab)),Sim l ts st p->Z ts<n+st.K->Z l<m+p.tok.at_->
  Res l ts ((Nf ts a n st b).1=(qf l a m p b).1/\p.tok.at_<=(qf l a m p b).2.tok.at_) (Nf ts a n st b).2 (qf l a m p b).2:=by
 intro n
 induction n with
 |zero=>intro m st p b h i _;have:=h.tok.2;omega
 |succ n ih=>
  intro m st p b h i c
  match m,c with
  |0,c=>have:=h.atLe;omega
  |m+1,c=>
   obtain⟨_,g,_⟩:=kT h hdDrop;rw[Nf,qf,g]
   cases hgo:Fz st (Bj ts st) qy
   ·simp only[Ct,Gj]
    exact Ay ⟨h,(by first|rfl|trivial),Aq _⟩
   ·simp only[Gq]
    have j:=fJ ts st a b hgo;rcases zh6 h a b with ⟨s1,q1,q2⟩|d
    ·rw[q1]
     exact(ih m _ s1 (by omega) (by omega)).mono (fun q=>⟨q.1,by have:=q.2;omega⟩)
    ·right
     rw[R.dpLoop_bad d.bad];have f:=kq l a m _ (b++[(xO l p (Z b) (a++b)).1]) d.broken;exact⟨d.bad,f.1,by rw[f.2];exact d.place⟩
def rlOf (r:P.Rl)(ch:Ee):Gn:=⟨r.number,r.path,r.ms.map mtOf,r.tg,ch,r.rep,r.sets,r.drops⟩
def RlSim (a:Gn)(b:P.Rl):Prop:=a=rlOf b a.change/\(a.change=false->b.rep=[])
theorem zc6 {st:Bw}(h:Sim l ts st p)(a:A Ak):Res l ts ((xp l p a).1=(Xv ts st a).1/\p.tok.at_<(xp l p a).2.tok.at_) (Xv ts st a).2 (xp l p a).2:=by
 unfold xp Xv;simp only;rw[ze0];rcases zd3 h with ⟨h1,q2,q3,_⟩|d
 ·rw[q2,h.tok.1.place]
  rw[h.tok.1.place] at q3;have c:decide (65535<Gk (Bj ts st).s)=!decide (Gk (Bj ts st).s<=65535):=by rw[Eb];simp
  rw[c];have f:=Res.note (Ay ⟨h1,trivial⟩:Res l ts True _ _) (decide (Gk (Bj ts st).s<=65535)) 4 (Bj ts st).at_ (fun _ _=>⟨jr (vY h 4) _ _,by omega⟩);have b:=Res.note f (!a.any fun n=>decide (n=Gk (Bj ts st).s)) 5 (Bj ts st).at_ (fun _ q=>⟨q.2 5 (by decide),by rw[jR];omega⟩);rw[Bool.not_not] at b;refine b.mono (fun _=>⟨rfl,?_⟩);rw[jR,jR];omega
 ·right;rw[Gl (by rw[Gl d.bad];exact d.bad),Gl d.bad];exact xy (xy d _ _ _) _ _ _
theorem eR (l:A Ab)(p:P.St)(o:A Ak):Still p (xp l p o).2:=by grind[du,yQ,P.St,Still,xp]
theorem zgA (l:A Ab)(p:P.St):Still p (vH l p).2:=(qu _ _ _).trans (bE _ _ _)
theorem zgB (l:A Ab)(p:P.St):Still p (yu l p).2:=by grind[yu,bE,zcE,P.St,Still]
theorem uI (l:A Ab)(p:P.St):Still p (qS l p).2:=by
 unfold qS;refine Still.trans ?_ (yQ _ _ _ _);refine Still.trans ?_ (qu _ _ _);exact((qu _ _ _).trans (uy _ _ _)).trans (kr _ _ _ _)
theorem ot (l:A Ab)(n:Ak)(a:A Ab)(m:A P.Mt)(t:A (A Ab×Ak))(c:A Ab×P.St)(s:A (A Ab×A Ab)×P.St):Still s.2 (wi l n a m t c s).2:=
 (kq _ _ _ _ _).trans (qu _ _ _)
theorem uD (l:A Ab)(n:Ak)(a:A Ab)(m:A P.Mt)(t:A (A Ab×Ak)×P.St):Still t.2 (jy l n a m t).2:=by grind[zgB,ux,ot,P.Mt,P.St,Still,jy]
theorem ou (l:A Ab)(a:Ak×P.St):Still a.2 (ui l a).2:=
 (((zgA _ _).trans (dA _ _ _ _)).trans (uI _ _)).trans (uD _ _ _ _ _)
theorem zl1 {st:Bw}(h:Sim l ts st p)(a:A Ak):Res l ts ((jS l p a).1=(Qw ts st (Z a) a).1/\p.tok.at_<(jS l p a).2.tok.at_) (Qw ts st (Z a) a).2 (jS l p a).2:=by
 unfold jS Qw;refine Res.bind (fY h qz hdRule (Z a) 6) (fun hb=>by unfold Xv;simp only;rw[R.kindS_bad hb,Gl hb,R.amongN_bad hb]) (eR _ _ _) (fun s1 q1=>?_);exact(zc6 s1 a).mono (fun q=>⟨q.1,by have:=q1.1;have:=q.2;omega⟩)
theorem zg4 {d:A (A Ab×Ak)×Bw}{b:A (A Ab×Ak)×P.St}(h:Sim l ts d.2 b.2)(n:Ak)(a:A Ab)(g:A Nt)(f:A P.Mt)(j:g=f.map mtOf)(k:d.1=b.1):Res l ts (RlSim (Sb ts n a g d).1 (jy l n a f b).1/\b.2.tok.at_<(jy l n a f b).2.tok.at_) (Sb ts n a g d).2 (jy l n a f b).2:=by
 unfold Sb jy wi Il;simp only;obtain⟨_,i,_⟩:=kT h hdReplace;have m:Res l ts ((yu l b.2).1=(Qi ts d.2).1/\(Fz d.2 (Bj ts d.2) qK=false->(yu l b.2).1=[])/\b.2.tok.at_<=(yu l b.2).2.tok.at_) (Qi ts d.2).2 (yu l b.2).2:=by
  unfold yu Qi;rw[i]
  cases hb:Fz d.2 (Bj ts d.2) qK
  ·simp only[Ct,Gj]
   exact Ay ⟨h,(by first|rfl|trivial),(by first|trivial|exact fun _=>rfl),Aq _⟩
  ·simp only[Gq]
   exact(lN h qK hdReplace).mono (fun q=>⟨q.1,fun c=>absurd c (by simp),by have:=q.2;omega⟩)
 refine Res.bind m (fun hb=>by rw[R.stLoop_bad hb,R.dpLoop_bad hb,Ig hb]) (((ux _ _ _ _).trans (kq _ _ _ _ _)).trans (qu _ _ _)) (fun s1 q1=>?_);refine Res.bind (zcD (Z ts+1) (Z l+1) [] s1 (by omega) (by omega)) (fun hb=>by rw[R.dpLoop_bad hb,Ig hb]) ((kq _ _ _ _ _).trans (qu _ _ _)) (fun s2 q2=>?_);rw[q2.1];refine Res.bind (zaY ((qk l (Z l+1) (yu l b.2).2 []).1.map Bq) (Z ts+1) (Z l+1) [] s2 (by omega) (by omega)) (fun hb=>Ig hb) (qu _ _ _) (fun s3 q3=>?_);refine(yh s3 hd125).mono (fun q=>⟨⟨?_,?_⟩,by have:=q1.2.2;have:=q2.2;have:=q3.2;have:=q.1;omega⟩)
 ·unfold rlOf
  simp only;rw[j,k,q1.1,q3.1]
 ·exact q1.2.1
theorem iU (ts:A Bx)(st:Bw)(e a:Ak):Bj ts { st with E:=e,at_:=a }=Bj ts st:=rfl
theorem l7 (st:Bw)(t:Bx)(r:A Ab)(e a:Ak):Fz { st with E:=e,at_:=a } t r=Fz st t r:=rfl
theorem zc5 {f:A (A Ab×Ak)×Bw}{i:A (A Ab×Ak)×P.St}(h:Lost l ts f.2 i.2)(n:Ak)(a:A Ab)(x:A Nt)(w:A P.Mt):Dead (Sb ts n a x f).2 (jy l n a w i).2:=by
 obtain⟨h,u⟩:=h;have g:∀r,Fz f.2 (Bj ts f.2) r=false:=by
  intro r;unfold Fz;rw[u];simp
 have j:∀r,headOk r->qH i.2 r=false:=by
  intro r v;rw[(kT h v).2.1,iU,l7,g]
 unfold Sb jy wi Il;simp only;have k:Qi ts f.2=([],f.2):=by unfold Qi;rw[g];rfl
 have m:yu l i.2=([],i.2):=by unfold yu;rw[j _ hdReplace];rfl
 rw[k,m];simp only;have o:∀n,Ie ts n f.2 []=([],f.2):=by intro n;cases n;rfl;rw[Ie,g];rfl
 have p:∀n,qk l n i.2 []=([],i.2):=by intro n;cases n;rfl;rw[qk,j _ hdSet];rfl
 rw[o,p];simp only;have q:∀s n,Nf ts s n f.2 []=([],f.2):=by intro s n;cases n;rfl;rw[Nf,g];rfl
 have t:∀s n,qf l s n i.2 []=([],i.2):=by intro s n;cases n;rfl;rw[qf,j _ hdDrop];rfl
 rw[q,t];simp only;rcases yh h hd125 with ⟨_,_,c⟩|d
 ·rw[iU,l7,g] at c;cases c
 ·refine dN d ?_
  exact tJ (a:={ f.2 with E:=i.2.err,at_:=i.2.fat }) (b:=f.2) ⟨rfl,rfl⟩ ts [125]
theorem ziT {st:Bw}(j:So ts)(h:Sim l ts st p)(b:A Ak):Res l ts (RlSim (Nw ts st (Z b) b).1 (xI l p b).1/\p.tok.at_<(xI l p b).2.tok.at_) (Nw ts st (Z b) b).2 (xI l p b).2:=by
 unfold Nw xI;have k:∀a,R.ruleT ts a=Sb ts a.1 (My ts a.2).1 (If ts (My ts a.2).2).1 (Hg ts (If ts (My ts a.2).2).2):=fun a=>rfl
 refine Res.bind (zl1 h b) (fun c=>by
  have:=R.ruleS_bad (ts:=ts) (st:=(Qw ts st (Z b) b).2) (i:=0) (l:=[]) c;rw[k];have r:(My ts (Qw ts st (Z b) b).2).2=(Qw ts st (Z b) b).2:=R.rlB_bad c;have g:If ts (Qw ts st (Z b) b).2=([],(Qw ts st (Z b) b).2):=R.mtLoop_bad c;rw[r,g];have f:(Hg ts (Qw ts st (Z b) b).2).2=(Qw ts st (Z b) b).2:=R.targetsS_bad c;unfold Sb;simp only;rw[f,R.rlC_bad c,R.editsS_bad c,Ig c]) (ou _ _) (fun s0 q0=>?_)
 rw[k];unfold ui uh;rw[q0.1];generalize(Qw ts st (Z b) b).2=sA at*;generalize(Qw ts st (Z b) b).1=num at*;generalize(jS l p b).2=pA at*;have s:Res l ts ((vH l pA).1=(My ts sA).1/\pA.tok.at_<(vH l pA).2.tok.at_) (My ts sA).2 (vH l pA).2:=by
  unfold vH My;simp only;refine Res.bind (yh s0 hd123) (fun c=>by rw[Ig c,R.pathS_bad c,Ig c]) (bE _ _ _) (fun s1 q1=>?_);exact(lN s1 jB hdPath).mono (fun q=>⟨q.1,by have:=q1.1;have:=q.2;omega⟩)
 have d:∀(t:A (A Ab×Ak)×Bw) n a m,0<=t.2.bad->(Sb ts n a m t).2=t.2:=by
  intro t n a m c;unfold Sb;simp only;rw[R.rlC_bad c,R.editsS_bad c,Ig c]
 refine Res.bind s (fun c=>by
  have g:If ts (My ts sA).2=([],(My ts sA).2):=R.mtLoop_bad c;rw[g];have f:(Hg ts (My ts sA).2).2=(My ts sA).2:=R.targetsS_bad c;exact(d (Hg ts (My ts sA).2) num (My ts sA).1 [] (by rw[f];exact c)).trans f) (((dA _ _ _ _).trans (uI _ _)).trans (uD _ _ _ _ _)) (fun s1 q1=>?_)
 rw[q1.1];have u:=q1.2;generalize(My ts sA).2=sB at*;generalize(My ts sA).1=pth at*;generalize(vH l pA).2=pB at*;have o:=zbC (Z ts+1) (Z l+1) [] [] s1 rfl (by omega) (by omega);rw[show On ts (Z ts+1) sB []=If ts sB from rfl] at o;generalize If ts sB=mR at*;generalize qw l (Z l+1) pB []=mP at*;refine Res.bind o (fun c=>by
  have f:(Hg ts mR.2).2=mR.2:=R.targetsS_bad c;exact(d (Hg ts mR.2) num pth mR.1 (by rw[f];exact c)).trans f) ((uI _ _).trans (uD _ _ _ _ _)) (fun s2 q2=>?_)
 rcases za2 j s2 with hr|hl
 ·generalize Hg ts mR.2=tR at*
  generalize qS l mP.2=tP at*;refine Res.bind hr (fun c=>d tR num pth mR.1 c) (uD _ _ _ _ _) (fun s3 q3=>?_);exact(zg4 s3 num pth mR.1 mP.1 q2.1 q3.1.symm).mono (fun q=>⟨q.1,by have:=q2.2;have:=q3.2;have:=q.2;omega⟩)
 ·exact Bf (zc5 hl num pth mR.1 mP.1)
theorem aI {st:Bw}(h:Sim l ts st p)(a:A (A Ab)):Res l ts ((x8 l p a).1=(R.hsA2 ts st a).1/\p.tok.at_<(x8 l p a).2.tok.at_) (R.hsA2 ts st a).2 (x8 l p a).2:=by
 unfold x8 R.hsA2 bK;simp only;rw[iP];rcases dB h with ⟨h1,q2,q3⟩|d
 ·rw[q2,h.tok.1.place]
  rw[h.tok.1.place] at q3;have c:=Res.note (Ay ⟨h1,trivial⟩:Res l ts True _ _) (Hq (Bj ts st).s true) 4 (Bj ts st).at_ (fun _ _=>⟨jr (vY h 4) _ _,by omega⟩);have b:=Res.note c (!a.any fun n=>decide (n=Cj (Bj ts st).s)) 5 (Bj ts st).at_ (fun _ q=>⟨q.2 5 (by decide),by rw[jR];omega⟩);rw[Bool.not_not] at b;refine b.mono (fun _=>⟨rfl,?_⟩);rw[jR,jR];omega
 ·right;rw[Gl (by rw[Gl d.bad];exact d.bad),Gl d.bad];exact xy (xy d _ _ _) _ _ _
theorem pD (l:A Ab)(p:P.St)(o:A (A Ab)):Still p (x8 l p o).2:=by grind[kQ,yQ,P.St,Still,x8]
theorem np {a:A Gn}{b:A P.Rl}(h:All2 RlSim a b):a.map R.Rl.number=b.map P.Rl.number:=by
 induction h with
 |nil=>rfl
 |cons h _ ih=>rw[Er,Er,ih,h.1];rfl
theorem uw (l:A Ab)(n:Ad)(p:P.St)(a:A P.Rl):Still p (xB l n p a).2:=by
 intro b
 cases n
 ·exact⟨b,rfl⟩
 ·rw[xB,jO b];exact⟨b,rfl⟩
theorem zc4 (g:So ts):∀(n m:Ad) {st:Bw} {p:P.St} (b:A Gn) (a:A P.Rl),Sim l ts st p->All2 RlSim b a->Z ts<n+st.K->Z l<m+p.tok.at_->
  Res l ts (All2 RlSim (Nd ts n st b).1 (xB l m p a).1/\p.tok.at_<=(xB l m p a).2.tok.at_) (Nd ts n st b).2 (xB l m p a).2:=by
 intro n
 induction n with
 |zero=>intro m st p b a h _ o _;have:=h.tok.2;omega
 |succ n ih=>
  intro m st p b a h c o f
  match m,f with
  |0,f=>have:=h.atLe;omega
  |m+1,f=>
   obtain⟨_,k,_⟩:=kT h hdRule;rw[Nd,xB,k]
   cases hgo:Fz st (Bj ts st) qz
   ·simp only[Ct,Gj]
    exact Ay ⟨h,c,Aq _⟩
   ·simp only[Gq]
    have r:=R.ruleS_K ts st (Z b) (b.map R.Rl.number) hgo;have i:=ziT g h (a.map P.Rl.number);rw[Bv,<-c.len,<-np c] at i;rw[<-np c];rcases i with ⟨s1,q1,q2⟩|d
    ·exact(ih m _ _ s1 (c.snoc q1) (by omega) (by omega)).mono (fun q=>⟨q.1,by have:=q.2;omega⟩)
    ·right
     rw[R.rlLoop_bad d.bad];have j:=uw l m _ (a++[(xI l p (b.map R.Rl.number)).1]) d.broken;exact⟨d.bad,j.1,by rw[j.2];exact d.place⟩
def HstSim (a:Fp)(b:P.Hst):Prop:=a.name=b.name/\All2 RlSim a.rules b.rules
theorem zeE {a:A Fp}{b:A P.Hst}(h:All2 HstSim a b):a.map R.Hst.name=b.map P.Hst.name:=by
 induction h <;> grind[Fp,P.Hst,All2,HstSim]
theorem zhE {st:Bw}(b:So ts)(h:Sim l ts st p)(a:A (A Ab)):Res l ts (HstSim (Mm ts st a).1 (xP l p a).1/\p.tok.at_<(xP l p a).2.tok.at_) (Mm ts st a).2 (xP l p a).2:=by
 unfold Mm xP;have c:Res l ts ((kg l p a).1=(R.hsA ts st a).1/\p.tok.at_<(kg l p a).2.tok.at_) (R.hsA ts st a).2 (kg l p a).2:=by
  unfold kg R.hsA;refine Res.bind (fY h Hy hdHost (Z a) 4) (fun hb=>by unfold R.hsA2;simp only;rw[R.kindS_bad hb,Gl hb,R.among_bad hb]) (pD _ _ _) (fun s1 q1=>?_);exact(aI s1 a).mono (fun q=>⟨q.1,by have:=q1.1;have:=q.2;omega⟩)
 refine Res.bind c (fun hb=>R.hsB_bad hb) (((qu _ _ _).trans (uw _ _ _ _)).trans (qu _ _ _)) (fun s1 q1=>?_);unfold R.hsB eu;simp only;refine Res.bind (yh s1 hd123) (fun hb=>by rw[R.rlLoop_bad hb,Ig hb]) ((uw _ _ _ _).trans (qu _ _ _)) (fun s2 q2=>?_);refine Res.bind (zc4 b (Z ts+1) (Z l+1) [] [] s2 .nil (by omega) (by omega)) (fun hb=>Ig hb) (qu _ _ _) (fun s3 q3=>?_);exact(yh s3 hd125).mono (fun q=>⟨⟨q1.1.symm,q3.1⟩,by have:=q1.2;have:=q2.1;have:=q3.2;have:=q.1;omega⟩)
theorem zlM (w:So ts):∀(n m:Ad) {st:Bw} {p:P.St} (a:A Fp) (b:A P.Hst),Sim l ts st p->All2 HstSim a b->Z ts+1<n+st.K->Z l<m+p.tok.at_->
  ((Ns ts n st a).2.bad<0/\(jk l (qg l m p b).2).broken=false/\(jk l (qg l m p b).2).err=(Ns ts n st a).2.E/\((Ns ts n st a).2.E≠0->(jk l (qg l m p b).2).fat=(Ns ts n st a).2.at_)/\All2 HstSim (Ns ts n st a).1 (qg l m p b).1)\/
  Dead (Ns ts n st a).2 (jk l (qg l m p b).2):=by
 intro n
 induction n with
 |zero=>intro m st p a b h _ F _;have:=h.tok.2;omega
 |succ n ih=>
  intro m st p a b h r F v
  match m,v with
  |0,v=>have:=h.atLe;omega
  |m+1,v=>
   obtain⟨_,z,_⟩:=kT h hdHost;rw[qg,z,Ns]
   by_cases q:(Bj ts st).k=0
   · -- the end
    rw[Aw (fun c=>c.2 q)];have B:Fz st (Bj ts st) Hy=false:=by unfold Fz;rw[q];simp
    rw[B];simp only[Ct,Gj]
    left
    have t:p.tok.k=0:=by
     cases h.tok.1 with
     |fin _ k j=>exact j
     |word _ k j=>omega
     |num _ k j=>omega
     |str _ k j=>omega
     |sign _ k j=>omega
     |wrong _ k j=>omega
    have s:jk l p=ug l p (p.tok.at_+Z p.tok.raw):=by
     unfold jk qR;rw[t,Az ⟨rfl,h.nk⟩]
    rw[s];exact⟨h.nb,h.nk,h.err,h.fat,r⟩
   ·rw[Az ⟨h.nb,q⟩]
    cases hgo:Fz st (Bj ts st) Hy
    · -- no host
     simp only[Ct,Gj]
     right
     have o:=R.needS_no h.nb hgo;have i:0<=(Cg ts st Hy).bad:=by rw[o];exact Sj _
     have C:(Mm ts st (a.map R.Hst.name)).2=Cg ts st Hy:=by
      unfold Mm;have:=R.hsA_bad (ts:=ts) (st:=st) (l:=a.map R.Hst.name) i;rw[R.hsB_bad (by rw[this];exact i),this]
     have g:∀k f,(Ns ts k (Cg ts st Hy) f).2=Cg ts st Hy:=by
      intro k f;cases k
      ·rfl
      ·rw[Ns,Aw (fun c=>by have:=c.1;omega)]
     rw[C,g];have t:¬p.tok.k=0:=by
      cases h.tok.1 with
      |fin _ k j=>exact absurd k q
      |word _ k j=>omega
      |num _ k j=>omega
      |str _ k j=>omega
      |sign _ k j=>omega
      |wrong _ k j=>omega
     have s:jk l p={ p with broken:=true }:=by
      unfold jk qR;rw[Aw (fun c=>t (by simpa using c.1))]
     rw[s];exact⟨i,rfl,by rw[o];show(p.tok.at_:Ak)=_;rw[h.tok.1.place]⟩
    ·simp only[Gq]
     have x:=zhE w h (b.map P.Hst.name);rw[<-zeE r] at x ⊢;rcases x with ⟨s1,q1,q2⟩|d
     ·have H:=R.hostS_go ts st (a.map R.Hst.name) h.nb s1.nb
      exact ih m _ _ s1 (r.snoc q1) (by omega) (by omega)
     ·right
      have g:∀k f,(Ns ts k (Mm ts st (a.map R.Hst.name)).2 f).2=(Mm ts st (a.map R.Hst.name)).2:=by
       intro k f;cases k
       ·rfl
       ·rw[Ns,Aw (fun c=>by have:=c.1;have:=d.bad;omega)]
      have u:∀k f,(qg l k (xP l p (a.map R.Hst.name)).2 f).2=(xP l p (a.map R.Hst.name)).2:=by
       intro k f;cases k
       ·rfl
       ·rw[qg,jO d.broken];rfl
      rw[g,u];have y:=uv l (xP l p (a.map R.Hst.name)).2 ((xP l p (a.map R.Hst.name)).2.tok.k == 0) d.broken;exact⟨d.bad,y.1,by rw[show(jk l (xP l p (a.map R.Hst.name)).2).tok=(xP l p (a.map R.Hst.name)).2.tok from y.2];exact d.place⟩
theorem oP (l:A Ab)(c:Z l<=3000) :
  ((Gw l).2.bad<0/\(zp l).2.broken=false/\(zp l).2.err=(Gw l).2.E/\((Gw l).2.E≠0->(zp l).2.fat=(Gw l).2.at_)/\All2 HstSim (Gw l).1 (zp l).1)\/Dead (Gw l).2 (zp l).2:=by
 obtain⟨a,b⟩:=R.toks_ok l c;unfold Gw zp;simp only;refine zlM a (Z (R.toks l)+2) (Z l+1) [] [] ⟨by show(-1:Ak)<0;decide,rfl,⟨Z l+1,0,by omega,by omega,rfl,rfl⟩,rfl,fun h=>absurd rfl h,fun h=>absurd rfl h⟩ .nil (by omega) (by omega)
theorem vg (l:A Ab):xA l=xg l:=by
 unfold xA xg
 by_cases b:3000<Z l
 ·rw[Az b,Az b]
 ·rw[Aw b,Aw b]
  rcases oP l (by omega) with ⟨h1,h2,h3,h4,_⟩|d
  ·rw[Aw (by omega)]
   unfold yV;rw[Aw (by rw[h2];simp),h3]
   by_cases a:(Gw l).2.E=0
   ·rw[Aw (by simpa using a),Az a,a]
   ·rw[Az a,Aw a,h4 a]
  ·rw[Az d.bad]
   unfold yV;rw[Az d.broken,d.place]
def toRl (r:P.Rl):Gn:=rlOf r (decide (r.rep≠[]))
def toR (h:P.Hst):Fp:=⟨h.name,h.rules.map toRl⟩
theorem zm6 {a:Gn}{b:P.Rl}(h:RlSim a b)(g:GoodRl a):a=toRl b:=by
 obtain⟨c,f⟩:=h;have e:a.change=decide (b.rep≠[]):=by
  cases hc:a.change with
  |false=>rw[f hc];simp
  |true=>
   have d:=g.2 hc;rw[c] at d;exact(Cf d).symm
 rw[c,e];rfl
theorem zlX {a:A Gn}{b:A P.Rl}(h:All2 RlSim a b)(c:∀r∈a,GoodRl r):a=b.map toRl:=by
 induction h <;> grind[zm6,Gn,P.Rl,All2,RlSim,GoodRl,toRl]
theorem zlN {a:Fp}{b:P.Hst}(h:HstSim a b)(f:GoodHst a):a=toR b:=by
 obtain⟨c,d⟩:=h
 cases a
 simp only at c d;rw[c,zlX d f.2.2.2];rfl
theorem zk5 {a:A Fp}{b:A P.Hst}(h:All2 HstSim a b)(c:∀r∈a,GoodHst r):a=b.map toR:=by
 induction h <;> grind[zlN,Fp,P.Hst,All2,HstSim,GoodHst,toR]
theorem co (l:A Ab)(c:Z l<=3000)(a:(zp l).2.broken=false)(f:(zp l).2.err=0):GoodHs (Gw l).1/\(Gw l).1=(zp l).1.map toR:=by
 rcases oP l c with ⟨h1,h2,h3,h4,h5⟩|d
 ·have b:=zfU l c ⟨h1,by rw[<-h3];exact f⟩
  exact⟨b,zk5 h5 b.2.2⟩
 ·rw[d.broken] at a;cases a
theorem oO (l:A Ab)(d:Z l<=3000)(b:(zp l).2.broken=false)(c:(zp l).2.err=0):Z (zp l).1<=12/\∀h∈(zp l).1,Z h.rules<=12:=by
 obtain⟨a,e⟩:=co l d b c;rw[e] at a;refine⟨by have:=a.1;simp at this;omega,fun h hh=>?_⟩;have:=(a.2.2 (toR h) (Hh hh)).2.1;simp[toR] at this;omega
section
variable {α:Type} (lt:α->α->Ee)
def gIns (out:A α)(x:α):A α:=out.take (Z (out.takeWhile fun o=>lt o x))++[x]++out.drop (Z (out.takeWhile fun o=>lt o x))
def gSort (l:A α):A α:=l.foldl (gIns lt) []
theorem zeB (out:A α)(x:α):(gIns lt out x).Perm (x::out):=by
 unfold gIns;rw[Bl,List.singleton_append];refine List.perm_middle.trans ?_;rw[He]
theorem zl7 (p:α->Ee)(l:A α):l.take (Z (l.takeWhile p))=l.takeWhile p:=by
 induction l with
 |nil=>rfl
 |cons a l ih=>
  rw[Sf];split
  ·rw[Bb,Fk,ih]
  ·rfl
theorem zjX (p:α->Ee)(l:A α):l.drop (Z (l.takeWhile p))=l.dropWhile p:=by
 induction l with
 |nil=>rfl
 |cons a l ih=>
  rw[Sf,List.dropWhile_cons];split
  ·rw[Bb,In,ih]
  ·rfl
theorem zlP (p:α->Ee)(l:A α):∀a∈l.takeWhile p,p a=true:=by
 induction l with
 |nil=>intro a c;simp at c
 |cons b l ih=>
  intro a c;rw[Sf] at c
  split at c
  ·rename_i hb
   rcases En.1 c with rfl|c
   ·exact hb
   ·exact ih a c
  ·simp at c
theorem zlO (g:Vh lt)(x:α)(l:A α)(f:l.Pairwise (fun a b=>lt b a=false)):∀a∈l.dropWhile (fun o=>lt o x),lt a x=false:=by
 induction l with
 |nil=>intro a c;simp at c
 |cons b l ih=>
  intro a c;rw[List.pairwise_cons] at f;rw[List.dropWhile_cons] at c
  split at c
  ·exact ih f.2 a c
  ·rename_i hb
   have d:lt b x=false:=by simpa using hb
   rcases En.1 c with rfl|c
   ·exact d
   ·exact g.ntrans a b x (f.1 a c) d
theorem ik (d:Vh lt)(out:A α)(x:α)(h:out.Pairwise (fun a b=>lt b a=false)):(gIns lt out x).Pairwise (fun a b=>lt b a=false):=by
 unfold gIns;rw[zl7,zjX];have c:=h;rw[<-List.takeWhile_append_dropWhile (p:=fun o=>lt o x) (l:=out),Fx] at c;obtain⟨f,g,i⟩:=c;rw[Bl,List.singleton_append,Fx,List.pairwise_cons];refine⟨f,⟨fun b hb=>zlO lt d x out h b hb,g⟩,fun a ha b hb=>?_⟩;rcases En.1 hb with rfl|hb
 ·have:=zlP _ _ a ha
  exact Go.Sort.SWO.asymmA d this
 ·exact i a ha b hb
theorem gFold (f:Vh lt)(l:A α):∀out:A α,out.Pairwise (fun a b=>lt b a=false)->(l.foldl (gIns lt) out).Perm (l++out)/\(l.foldl (gIns lt) out).Pairwise (fun a b=>lt b a=false):=by
 induction l with
 |nil=>intro out h;exact⟨List.Perm.refl _,h⟩
 |cons x l ih=>
  intro out h;obtain⟨c,d⟩:=ih (gIns lt out x) (ik lt f out x h);refine⟨c.trans ?_,d⟩;refine((zeB lt out x).append_left l).trans ?_;exact List.perm_middle
end
def rlLt (a b:Gn):Ee:=decide (a.number<b.number)
def hsLt (a b:Fp):Ee:=qd a.name b.name
theorem za0:Vh rlLt:=⟨fun x=>by simp[rlLt],fun x y z h1 h2=>by simp[rlLt] at *;omega,fun x y z h1 h2=>by simp[rlLt] at *;omega⟩
theorem yc (a b:A Ab):qd a b=Iy a b:=by unfold qd Iy;rw[bytesLess_eq]
theorem oz:Vh hsLt:=⟨fun x=>by unfold hsLt;rw[yc];exact Hk.irrefl _,fun x y z=>by unfold hsLt;rw[yc,yc,yc];exact Hk.trans _ _ _,fun x y z=>by unfold hsLt;rw[yc,yc,yc];exact Hk.ntrans _ _ _⟩
theorem pE (a b:A Ab)(c:Iy a b=false)(d:Iy b a=false):a=b:=by
 unfold Iy at c d
 grind[List.le_antisymm]
theorem eQ (l:A Gn):zf l=gSort rlLt l:=rfl
theorem ga (l:A Fp):qx l=gSort hsLt (l.map fun h=>⟨h.name,zf h.rules⟩):=by
 unfold qx gSort;rw[List.foldl_map];rfl
variable {α:Type}
theorem vQ {β:Type}{f:α->β}(l:A α)(h:(l.map f).Pairwise (·≠·)){a b:α}(c:a∈l)(d:b∈l)(e:f a=f b):a=b:=by
 induction l with
 |nil=>simp at c
 |cons x l ih=>
  rw[Er,List.pairwise_cons] at h;rcases En.1 c with ea|ha1
  ·rcases En.1 d with eb|hb1
   ·rw[ea,eb]
   ·exact absurd (ea ▸ e) (h.1 _ (Hh hb1))
  ·rcases En.1 d with eb|hb1
   ·exact absurd (eb ▸ e).symm (h.1 _ (Hh ha1))
   ·exact ih h.2 ha1 hb1
theorem zc8 (l m:A Gn)(g:m.Perm l)(p:m.Pairwise (fun a b=>rlLt b a=false))(o:(l.map R.Rl.number).Pairwise (·≠·)):m=zf l:=by
 obtain⟨c,j⟩:=gFold rlLt za0 l [] .nil;rw[Cv] at c;rw[eQ];refine Sd (le:=fun a b=>rlLt b a=false) ?_ p j (g.trans c.symm);intro a b k n h i;have e:a.number=b.number:=by simp[rlLt] at h i;omega
 have d:=g.mem_iff.1 k;have f:=c.mem_iff.1 n;exact vQ l o d f e
def srtH (h:Fp):Fp:=⟨h.name,zf h.rules⟩
theorem zb4 (l m:A Fp)(h:m.Perm (l.map srtH))(o:m.Pairwise (fun a b=>hsLt b a=false))(n:(l.map R.Hst.name).Pairwise (·≠·)):m=qx l:=by
 obtain⟨f,i⟩:=gFold hsLt oz (l.map srtH) [] .nil;rw[Cv] at f;rw[ga];refine Sd (le:=fun a b=>hsLt b a=false) ?_ o i (h.trans f.symm);intro a b j k c d;unfold hsLt at c d;rw[yc] at c d;have e:a.name=b.name:=pE _ _ d c;have g:((l.map srtH).map R.Hst.name).Pairwise (·≠·):=by rw[Ny];exact n
 exact vQ _ g (h.mem_iff.1 j) (f.mem_iff.1 k) e
theorem zg8 {a b:P.Hst}(h:SrtR a b)(g:((toR a).rules.map R.Rl.number).Pairwise (·≠·)):toR b=srtH (toR a):=by
 obtain⟨c,d,f⟩:=h;have e:b.rules.map toRl=zf (a.rules.map toRl):=by
  refine zc8 _ _ (d.map toRl) ?_ g;rw[Ma];exact f
 unfold toR srtH;simp only;rw[c,e]
theorem zcB {f c:A P.Hst}(h:SrtH f c)(i:GoodHs (f.map toR)):c.map toR=qx (f.map toR):=by
 obtain⟨p,g,n,o,q⟩:=h;have e:c.map toR=(p.map toR).map srtH:=by
  apply Xj
  ·simp[o]
  ·intro j l m
   simp only[Ha];have k:j<Z p:=by simpa using m
   have r:j<Z c:=by simpa using l
   refine zg8 (q j k r) ?_;exact(i.2.2 (toR p[j]) (Hh (g.mem_iff.1 (Cr k)))).2.2.1
 refine zb4 _ _ ?_ ?_ i.2.1
 ·rw[e];exact((g.map toR).map srtH)
 ·rw[e,Ma,Ma]
  refine n.imp ?_;intro a b d;show qd b.name a.name=false;rw[yc];exact d
theorem gd {l:A Fp}(c:GoodHs l):Z (qx l)<=4/\∀h∈qx l,R.SmallH h:=by
 refine⟨by rw[dq];exact c.1,fun h hh=>?_⟩;obtain⟨a,_⟩:=gFold hsLt oz (l.map srtH) [] .nil;rw[Cv] at a;rw[ga] at hh;obtain⟨x,g,rfl⟩:=Hr.1 (a.mem_iff.1 hh);obtain⟨d,i,_,f⟩:=c.2.2 x g;refine⟨d,?_,fun r hr=>?_⟩
 ·show(Z (zf x.rules))<=4000
  rw[bD];omega
 ·obtain⟨b,_⟩:=gFold rlLt za0 x.rules [] .nil
  rw[Cv] at b;exact(f r (b.mem_iff.1 hr)).1
theorem ziZ (l:A Ab):(⟨#[34]⟩:As)++Aa l++⟨#[34]⟩=Aa (Fi l):=by
 apply ByteArray.ext
 simp[Aa,Fi]
theorem ye (l:A Ab)(w:Ag)(a:Z l<=3000):Am prog 105 #[I (Aa l)] w fun e w'=>e=Af (I (Aa (Fi l)))/\w'=w:=by
 have b:(Aa l).size<=3000:=by rw[Bz];exact a
 have e:=ziZ l;go_in;go_wp2;go_ret;exact⟨rfl,rfl⟩
variable {w:Ag}
theorem Kept.cell {B:Ad}{l:A TypeId}{w':Ag}(h:Kept B l w w'){b:Ad}{c:Array Aj}{t:TypeId}{f:Ad×Ad}(a:w.heap[b]?=V (Ae c t f))(d:t ∉ l):w'.heap[b]?=V (Ae c t f):=by grind[Kept]
theorem WInv.grown {w':Ag}{b:Ad}{op:Ak}(h:WInv w b l op)(a:w.grownBy w' S):WInv w' b l op:=by
 rcases h with ⟨v,hb,ho⟩|⟨v,hb,ho⟩
 ·exact Ay ⟨v,zE hb a (by simp),zK ho a (fun k hk c=>by cases c)⟩
 ·exact Bf ⟨v,zE hb a (by simp),zK ho a (fun k hk c=>by cases c)⟩
theorem WInv.op {a:Ad}{op:Ak}(h:WInv w a l op):w.cell? ⟨a,2,S⟩=V (O Ai op):=by
 rcases h with ⟨v,hb,ho⟩|⟨v,hb,ho⟩
 ·exact zB hb
 ·exact zB hb
def lnS (op:Ad)(ps:A (A Ab)):A Ab:=Hs (2*op) 32++ps.flatten++[10]
theorem zl0 (op:Ad):Lib.repeatL (⟨#[32,32]⟩:As).data.toList op=Hs (2*op) 32:=by
 have h:=Lib.repeatL_replicate 32 2 op;rw[Nat.mul_comm];exact h
theorem lw {b:Ad}{op:Ad}(h:WInv w b l op)(g c:Ad)(a:A (A Ab))(y:w.heap[g]?=V (Ae (zY a).toArray 9 (0,0)))(ab:op<=3)
  (hl:Z l+6+Z a.flatten+1<=140737488355328) (hn:Z a<=1000):Am prog 104 #[Al (V ⟨b,0,S⟩),X (V ⟨g,0,S⟩) (Z a) c] w fun e w'=>e=Af (Cm #[])/\WInv w' b (l++lnS op a) op/\Kept b wtags w w':=by
 have c2:=h.op;have s:=J (h);have F:=J y;have t:Y (∀W,w.grownBy W S->Am prog 157 #[I ⟨#[32,32]⟩,O Ai op] W fun e w'=>e=Af (I (Aa (Hs (2*op) 32)))/\w.grownBy w' S/\w'.cell? ⟨b,2,S⟩=V (O Ai op)):=fun W hW=>
  (Tryz.strings_Repeat ⟨#[32,32]⟩ op W (by omega) (by show 2*op<=_;omega)).mono fun e w' ⟨h1,d⟩=>⟨by rw[h1,zl0];rfl,zD hW (zt d),(s.o.grown (zD hW (zt d))).op⟩
 have o:Y (∀W,w.grownBy W S->Am prog 156 #[Al (V ⟨b,0,S⟩),I (Aa (Hs (2*op) 32))] W fun e w'=>∃n:Ak,e=Af (Cm #[O Ai n,.nilIface])/\WInv w' b (l++Hs (2*op) 32) op/\Kept b wtags w w'/\w'.cell? ⟨b,2,S⟩=V (O Ai op)):=fun W hW=>
  (oN (s.o.grown hW) (Aa (Hs (2*op) 32)) (by rw[Bz,Hx];omega)).mono fun e w' ⟨h1,d,f⟩=>⟨_,h1,by rw[R.str_toList] at d;exact d,(xJ hW).trans f,d.op⟩
 go_in;go_wp2_with fail
 go_region_held3 (fun W=>W.cell? ⟨b,2,S⟩=V (O Ai op)) (go_keep) (first
  |(go_at_call 157;show Am _ _ _ (World.drew w) _;refine(t.o _ (zV w)).mono ?_;rintro e wR ⟨rfl,m,H⟩;have k:Y (w.grownBy wR S):=m;clear m)
  |(go_at_call 156;refine(o.o _ k.o).mono ?_;rintro e B ⟨nT,rfl,v,x,N⟩;have C:Y (WInv B b (l++Hs (2*op) 32) op):=v;have E:Y (Kept b wtags w B):=x;clear v x))
 all_goals
  go_wp2_with fail
  go_loopw [17] (fun iv wr=>∃i:Ad,i<=Z a/\iv=O Ai i/\Y (WInv wr b (l++Hs (2*op) 32++(a.take i).flatten) op)/\Y (Kept b wtags w wr)) (fun iv _=>Z a-(intOf iv).toNat)
  ·exact⟨0,Ax _,rfl,by rw[Gm,Ew,Cv];exact C,E⟩
  ·
   obtain⟨i,aa,rfl,u,q⟩:=hrel
   by_cases j:i<Z a
   ·have Q:(i:Ak)<Z a:=by omega
    have d0:wr.cell? ⟨g,i,S⟩=V (I (Aa a[i])):=by
     rw[Lib.cell_of_heap (q.o.cell F.o (by decide))];simp[zY,j]
    have r:Z (a.take i).flatten+a[i].length<=Z a.flatten:=by
     have e:a=a.take i++a[i]::a.drop (i+1):=by rw[<-Ed j,He]
     have:=congrArg (fun z=>Z (List.flatten z)) e;simp only[Eg,Ci,Ah] at this
     omega
    have o:Y (Am prog 156 #[Al (V ⟨b,0,S⟩),I (Aa a[i])] wr fun e w'=>∃n:Ak,e=Af (Cm #[O Ai n,.nilIface])/\WInv w' b (l++Hs (2*op) 32++(a.take (i+1)).flatten) op/\Kept b wtags w w'):=
     (oN u.o (Aa a[i]) (by rw[Bz];simp only[Ah,Hx];omega)).mono fun e w' ⟨h1,d,f⟩=>⟨_,h1,by
      rw[R.str_toList,Bl,<-List.flatten_concat,<-Co j] at d;exact d,q.o.trans f⟩
    generalize a[i]=pi at*;go_wp2_with (go_at_call 156;refine o.o.mono ?_;rintro e w2 ⟨n2,rfl,d,f⟩)
    go_roundw
    ·exact⟨i+1,by omega,by go_num,d,f⟩
    ·simp[intOf];omega
   ·have p:Y (Am prog 158 #[Al (V ⟨b,0,S⟩),O Bp 10] wr fun e w'=>e=Af .nilIface/\WInv w' b (l++lnS op a) op/\Kept b wtags w w'):=
     (zfQ u.o 10 (by rw[show i=Z a by omega,Cc (Aq _)];simp only[Ah,Hx];omega)).mono fun e w' ⟨h1,d,f⟩=>⟨h1,by
      rw[show i=Z a by omega,Cc (Aq _)] at d;unfold lnS;rw[<-Bl,<-Bl];exact d,q.o.trans f⟩
    go_wp2_with (go_at_call 158;refine p.o.mono ?_;rintro e w2 ⟨rfl,d,f⟩)
    go_end0
    exact⟨rfl,d,f⟩
abbrev Gc3 (a b c):=Ae #[I (Aa a),Av b,I (Aa c)] 276
theorem zbV {a:Ad}(h:WInv w a l (2:Ad))(m:P.Mt)(t:Z m.name<=3000)(u:Z m.val<=3000)(z:Z l<=100000000000000):Am prog 160 #[Al (V ⟨a,0,S⟩),.agg #[I (Aa m.name),Av m.ask,I (Aa m.val)]] w fun e w'=>e=Af (Cm #[])/\WInv w' a (l++Gg (mtOf m)) (2:Ad)/\Kept a wtags w w':=by
 have d:Y ((w.alloc (Gc3 m.name m.ask m.val)).heap[w.heap.size]?=V (Gc3 m.name m.ask m.val)):=heap_alloc_new _ _;have r:=cbi 0 d.o;have s:=cbi 2 d.o;have b:Y (w.grownBy (w.alloc (Gc3 m.name m.ask m.val)) S):=Ac _ _ _;have k:Y (∀W (ps:A (A Ab)),w.grownBy W S->Z ps<=10->Z ps.flatten<=10000->Am prog 104 #[Al (V ⟨a,0,S⟩),X (V ⟨W.heap.size,0,S⟩) (Z ps) (Z ps)] (W.alloc (Ae (zY ps).toArray 9)) fun e w'=>e=Af (Cm #[])/\WInv w' a (l++lnS 2 ps) (2:Ad)/\Kept a wtags w w'/\Kept a wtags W w'):=fun W ps hW hp1 hp2=>
  (lw (op:=2) (h.grown (zD hW (Ac _ _ _))) W.heap.size (Z ps) ps (heap_alloc_new _ _) (by omega) (by omega) (by omega)).mono fun e w' ⟨g1,j,f⟩=>⟨g1,j,(xJ (zD hW (Ac _ _ S))).trans f,(xJ (Ac _ _ S)).trans f⟩
 have p:Y (Gg (mtOf m)=lnS 2 (if m.ask then [[104,101,97,100,101,114,32],Fi m.name,[32,61,32],Fi m.val,[59]] else [[104,101,97,100,101,114,32],Fi m.name,[59]])):=by
  show Gg (mtOf m)=_;unfold Gg mtOf lnS
  cases m.ask <;> simp
 have g:Y (∀W,Am prog 105 #[I (Aa m.name)] W fun e w'=>e=Af (I (Aa (Fi m.name)))/\w'=W):=fun W=>ye m.name W t
 have i:Y (∀W,Am prog 105 #[I (Aa m.val)] W fun e w'=>e=Af (I (Aa (Fi m.val)))/\w'=W):=fun W=>ye m.val W u
 rw[p.o]
 cases hask:m.ask with
 |false=>
  rw[hask] at r s b;have n:Y (Am prog 104 #[Al (V ⟨a,0,S⟩),X (V ⟨w.heap.size+1,0,S⟩) 3 3] ((w.alloc (Ae #[I (Aa m.name),Av false,I (Aa m.val)] 276)).alloc (Ae #[I ⟨#[104,101,97,100,101,114,32]⟩,I (Aa (Fi m.name)),I ⟨#[59]⟩] 9)) fun e w'=>e=Af (Cm #[])/\WInv w' a (l++lnS 2 [[104,101,97,100,101,114,32],Fi m.name,[59]]) (2:Ad)/\Kept a wtags w w'):=by
   have h:=k.o _ [[104,101,97,100,101,114,32],Fi m.name,[59]] b.o (by simp) (by simp[R.q_len];omega);rw[show(w.alloc (Ae #[I (Aa m.name),Av false,I (Aa m.val)] 276)).heap.size=w.heap.size+1 by simp] at h;exact Calls.mono h fun e w' ⟨k1,k2,k3,_⟩=>⟨k1,k2,k3⟩
  simp only[Ct,Gj];generalize l++lnS 2 [[104,101,97,100,101,114,32],Fi m.name,[59]]=lo at*;go_in;go_wp2_with (go_at_call 105;refine(g.o _).mono ?_;rintro e w' ⟨rfl,rfl⟩);refine n.o.mono ?_;rintro e v ⟨rfl,j,f⟩;go_wp2
  go_end0
  exact⟨rfl,j,f⟩
 |true=>
  rw[hask] at r s b;have o:Y (Am prog 104 #[Al (V ⟨a,0,S⟩),X (V ⟨w.heap.size+1,0,S⟩) 5 5] (((w.alloc (Ae #[I (Aa m.name),Av true,I (Aa m.val)] 276)).drew).alloc (Ae #[I ⟨#[104,101,97,100,101,114,32]⟩,I (Aa (Fi m.name)),I ⟨#[32,61,32]⟩,I (Aa (Fi m.val)),I ⟨#[59]⟩] 9)) fun e w'=>e=Af (Cm #[])/\WInv w' a (l++lnS 2 [[104,101,97,100,101,114,32],Fi m.name,[32,61,32],Fi m.val,[59]]) (2:Ad)/\Kept a wtags w w'/\w'.cell? ⟨w.heap.size,0,S⟩=V (I (Aa m.name))/\w'.cell? ⟨w.heap.size,2,S⟩=V (I (Aa m.val))):=by
   have h:=k.o _ [[104,101,97,100,101,114,32],Fi m.name,[32,61,32],Fi m.val,[59]] (zD b.o (zV _)) (by simp) (by simp[R.q_len];omega);rw[show((w.alloc (Ae #[I (Aa m.name),Av true,I (Aa m.val)] 276)).drew).heap.size=w.heap.size+1 by simp[World.drew]] at h;rw[hask] at d;exact Calls.mono h fun e w' ⟨k1,k2,k3,k4⟩=>⟨k1,k2,k3,zB (k4.cell (c:=#[I (Aa m.name),Av true,I (Aa m.val)]) d.o (by decide)),zB (k4.cell (c:=#[I (Aa m.name),Av true,I (Aa m.val)]) d.o (by decide))⟩
  simp only[Gq];generalize l++lnS 2 [[104,101,97,100,101,114,32],Fi m.name,[32,61,32],Fi m.val,[59]]=lo at*;go_in;go_wp2_with fail
  go_region_held3 (fun W=>W.cell? ⟨w.heap.size,0,S⟩=V (I (Aa m.name))/\W.cell? ⟨w.heap.size,2,S⟩=V (I (Aa m.val))) (go_keep) (first
   |(go_at_call 105;refine(g.o _).mono ?_;rintro e w' ⟨rfl,rfl⟩)
   |(go_at_call 105;refine(i.o _).mono ?_;rintro e w' ⟨rfl,rfl⟩)
   |(go_at_call 104;refine o.o.mono ?_;rintro e v ⟨rfl,j,f,x,y⟩))
  all_goals
   go_wp2;refine bodyPost_ret (results_none rfl _ _ _) rfl ?_;exact⟨rfl,j,f⟩
theorem zaX (n:Ad):Lib.decDigits n=Sm n:=by
 induction n using Xp with
 |_ n ih=>
  rw[Lib.decDigits,Sm]
  by_cases h:n<10
  ·rw[dif_pos h,Az h]
  ·rw[dif_neg h,Aw h,ih (n / 10) (by omega)]
theorem zhJ (n:Ak)(h:0<=n):Lib.itoa n=Hz n:=by
 unfold Lib.itoa Hz;rw[Aw (by omega),zaX]
theorem l9 (l:A (A Ab×Ak)):Lib.join (l.map Hv) [44,32]=Ho l:=by
 cases l with
 |nil=>rfl
 |cons a l=>
  rw[Er,Lib.join_cons];unfold Ho Lib.joinTail;rw[Ny];rfl
def uF (r:P.Rl):A Ab:=if r.rep=[] then [] else lnS 2 [[114,101,112,108,97,99,101,32],Fi r.rep,[59]]
def jx (r:P.Rl):A Ab:=lnS 1 [[114,117,108,101,32],Hz r.number,[32,123]]
def kj (r:P.Rl):A Ab:=lnS 2 [[112,97,116,104,32],Fi r.path,[59]]
def wF (r:P.Rl):A Ab:=lnS 2 [[116,111,32],Ho r.tg,[59]]
theorem ziU (t:A Ab×A Ab):lnS 2 [[115,101,116,32],Fi t.1,[32,61,32],Fi t.2,[59]]=Em t:=by
 unfold lnS Em;simp
theorem zcT (t:A Ab):lnS 2 [[100,114,111,112,32],Fi t,[59]]=Cz t:=by
 unfold lnS Cz;simp
theorem zlU (r:P.Rl):uF r=Sw (toRl r):=by
 unfold uF Sw toRl rlOf lnS
 by_cases h:r.rep=[] <;> simp[h]
theorem zk1 (r:P.Rl):jx r++kj r=Vd (toRl r):=by
 unfold jx kj Vd toRl rlOf lnS;simp
theorem zhN (r:P.Rl):jx r++kj r++(r.ms.map fun m=>Gg (mtOf m)).flatten++wF r++uF r++(r.sets.map Em).flatten++(r.drops.map Cz).flatten++lnS 1 [[125]]=Fu (toRl r):=by
 have e:(toRl r).ms.map Gg=r.ms.map fun m=>Gg (mtOf m):=by
  show(r.ms.map mtOf).map Gg=_;rw[Ny];rfl
 rw[zlU,zk1];unfold Fu wF lnS;rw[e];show _=Vd (toRl r)++_++_++Ho r.tg++_++_++(r.sets.map Em).flatten++(r.drops.map Cz).flatten++_;simp
theorem zk2 (h:P.Hst):lnS 0 [[104,111,115,116,32],Fi h.name,[32,123]]++(h.rules.map fun r=>Fu (toRl r)).flatten++lnS 0 [[125]]=Ex (toR h):=by
 have e:(toR h).rules.map Fu=h.rules.map fun r=>Fu (toRl r):=by
  show(h.rules.map toRl).map Fu=_;rw[Ny];rfl
 unfold Ex lnS;rw[e];show _=_++Fi h.name++_++_++_;simp
theorem nK (a:A P.Hst):Ic (a.map toR)=(a.map fun h=>Ex (toR h)).flatten:=by
 unfold Ic;rw[Ny];rfl
theorem dropAdd (l:A Ab)(a b:Ad):l.drop (a+b)=(l.drop a).drop b:=by rw[List.drop_drop]
theorem pC (p:Ak->Ee)(a b:A Ab)(d:∀c∈a,p c.toNat=true)(f:∀c cs,b=c::cs->p c.toNat=false):By p (a++b)=Z a:=by
 induction a with
 |nil=>
  cases b with
  |nil=>rfl
  |cons c cs=>show(if p c.toNat then _ else 0)=0;rw[f c cs rfl];rfl
 |cons x a ih=>
  show(if p x.toNat then By p (a++b)+1 else 0)=_;rw[d x (by simp),Az rfl,ih (fun c h=>d c (by simp[h]))];rfl
structure TokAt (t r:A Ab) (k:Ak):Prop where
 ms:qD (t++r)=(Z t,k)
 nb:∀c cs,t++r=c::cs->xN c.toNat=false
theorem zj9 (t r:A Ab)(h:t≠[])(b:∀c∈t,Ek c.toNat=true)(f:∀c cs,r=c::cs->Ek c.toNat=false):TokAt t r 1:=by
 match t,h with
 |c::t,_=>
  have a:=b c (by simp);refine⟨?_,fun d ds e=>?_⟩
  ·show(if Ek c.toNat then (By Ek ((c::t)++r),(1:Ak)) else _)=_
   rw[Az a,pC _ _ _ b f]
  ·cases e
   unfold Ek at a;unfold xN;simp at a ⊢;omega
theorem tok_num (t r:A Ab)(h:t≠[])(i:Z t<=5)(f:∀c∈t,Ck c.toNat=true)(g:∀c cs,r=c::cs->Ck c.toNat=false):TokAt t r 2:=by
 match t,h with
 |c::t,_=>
  have a:=f c (by simp);have b:Ek c.toNat=false:=by unfold Ck at a;unfold Ek;simp at a ⊢;omega
  refine⟨?_,fun d ds e=>?_⟩
  ·show(if Ek c.toNat then _ else if Ck c.toNat then xm ((c::t)++r) else _)=_
   rw[Aw (by rw[b];simp),Az a];unfold xm;rw[pC _ _ _ f g,Aw (by omega)]
  ·cases e
   unfold Ck at a;unfold xN;simp at a ⊢;omega
theorem zk6 (s r:A Ab)(x:Ab)(h:x ∉ s):Es (s++x::r) [x]=Z s:=by
 induction s <;> grind[jq]
theorem zhF (s:A Ab)(x:Ab)(h:x ∉ s):Es s [x] = -1:=by
 induction s with
 |nil=>rfl
 |cons c s ih=>
  rw[jq,Aw (fun e=>h (by simp[e])),ih (fun hh=>h (by simp[hh])),Az rfl]
theorem zlC (s r:A Ab)(g:Z s<=24)(b:(34:Ab) ∉ s)(a:(10:Ab) ∉ s):TokAt (Fi s) r 3:=by
 have f:Ca (s++34::r) [34]=(s,r,true):=by
  unfold Ca;rw[zk6 s r 34 b,Az (by omega)];simp
 refine⟨?_,fun d ds e=>?_⟩
 ·have e:Fi s++r=34::(s++34::r):=by unfold Fi;simp
  rw[e,qD,Aw (by decide),Aw (by decide),Az (by decide)];unfold yD jm Sx;rw[In,Iw,f];show(if (!true || (decide (24<Z s) || decide (0<=Es s [10])))=true then ((0:Ad),(5:Ak)) else _)=_;rw[zhF s 10 a,Aw (by simp;omega)];unfold Fi;simp
 ·have c:Fi s++r=34::(s++34::r):=by unfold Fi;simp
  rw[c] at e;cases e;decide
theorem za6 (c:Ab)(r:A Ab)(a:Oy c.toNat=true):TokAt [c] r 4:=by
 have b:Ek c.toNat=false:=by unfold Oy at a;unfold Ek;simp at a ⊢;omega
 have f:Ck c.toNat=false:=by unfold Oy at a;unfold Ck;simp at a ⊢;omega
 have g:¬c.toNat=34:=by unfold Oy at a;simp at a;omega
 refine⟨?_,fun d ds e=>?_⟩
 ·show(if Ek c.toNat then _ else if Ck c.toNat then _ else if c.toNat=34 then _ else if Oy c.toNat then ((1:Ad),(4:Ak)) else _)=_
  rw[Aw (by rw[b];simp),Aw (by rw[f];simp),Aw g,Az a];rfl
 grind[Ek,Oy,Ck,xN,TokAt]
theorem zlH (t r:A Ab)(h:t≠[])(a:(t.all fun c=>Ek c.toNat)=true):TokAt t (32::r) 1:=
 zj9 t _ h (fun c hc=>Mq.1 a c hc) (fun c cs e=>by cases e;decide)
structure At (l rest:A Ab) (st:P.St):Prop where
 ok:st.broken=false
 err:st.err=0
 pos:∃p b,(∀c∈b,xN c.toNat=true)/\l.drop p=b++rest/\p<=Z l/\st.tok=zg l p
theorem At.blank {st:P.St}(h:At l (c::r) st)(d:xN c.toNat=true):At l r st:=by
 obtain⟨p,b,a,f,g,e⟩:=h.pos;exact⟨h.ok,h.err,p,b++[c],fun x hx=>by rcases Ea.1 hx with hx|hx;exact a x hx;simp at hx;rw[hx];exact d,by rw[f];simp,g,e⟩
theorem At.blanks {l r:A Ab}{st:P.St}:∀(b:A Ab),At l (b++r) st->(b.all fun c=>xN c.toNat)=true->At l r st
 |[],h,_=>h
 |c::b,h,hb=>by
  simp only[Xi,Ez] at hb;exact At.blanks b (At.blank h hb.1) hb.2
theorem At.tok {st:P.St}(h:At l (t++r) st)(i:TokAt t r k):st.tok.raw=t/\st.tok.k=k/\At l r (qR l st true):=by
 obtain⟨p,f,m,a,q,e⟩:=h.pos;have o:By xN (l.drop p)=Z f:=by rw[a];exact pC _ _ _ m i.nb
 have d:qE l p=p+Z f:=by unfold qE;rw[o]
 have j:l.drop (qE l p)=t++r:=by rw[d,dropAdd,a,List.drop_left]
 have b:st.tok.raw=t:=by
  rw[e];show(l.drop (qE l p)).take (qD (l.drop (qE l p))).1=t;rw[j,i.ms,List.take_left]
 have n:st.tok.k=k:=by rw[e];show(qD (l.drop (qE l p))).2=k;rw[j,i.ms]
 have g:st.tok.at_=p+Z f:=by rw[e];exact d
 refine⟨b,n,?_⟩;unfold qR;rw[Az ⟨rfl,h.ok⟩];refine⟨h.ok,h.err,p+Z f+Z t,[],(fun c hc=>by cases hc),?_,?_,?_⟩
 ·rw[dropAdd,dropAdd,a,List.drop_left,List.drop_left];rfl
 ·have:=congrArg Z a;simp only[Cy,Ah] at this;omega
 ·show zg l (st.tok.at_+Z st.tok.raw)=_;rw[g,b]
theorem At.take {st:P.St}(h:At l (t++r) st)(a:TokAt t r k):At l r (zS l st t):=by
 obtain⟨b,_,c⟩:=h.tok a
 grind[zS,P.St,At,TokAt]
theorem At.sees {st:P.St}(h:At l (t++r) st)(b:TokAt t r k)(x:A Ab):qH st x=decide (t=x):=by
 obtain⟨a,_,_⟩:=h.tok b;unfold qH;rw[a,h.ok];simp
theorem At.word {st:P.St}(t:A Ab)(h:At l (t++32::r) st)(a:t≠[])(b:(t.all fun c=>Ek c.toNat)=true):At l r (zS l st t):=
 (h.take (zlH t r a b)).blank (by decide)
theorem At.sign {st:P.St}(c:Ab)(h:At l (c::r) st)(a:Oy c.toNat=true):At l r (zS l st [c]):=At.take (t:=[c]) h (za6 c r a)
theorem At.str {st:P.St}(h:At l (Fi s++r) st)(g:Z s<=24)(b:(34:Ab) ∉ s)(a:(10:Ab) ∉ s) :
  (qA l st).1=s/\At l r (qA l st).2:=by
 obtain⟨d,f,c⟩:=h.tok (zlC s r g b a);unfold qA;rw[f,show((3:Ak) == 3)=true from rfl];refine⟨?_,c⟩;rw[c.ok,d];unfold Fi;simp
theorem zh5 (n:Ad):Sm n≠[]:=by unfold Sm;split <;> simp
theorem mw (n:Ad):∀c∈Sm n,Ck c.toNat=true:=by
 induction n using Xp with
 |ind n ih=>
  intro c a;have d:∀k,k<10->Ck (Cb (48+k)).toNat=true:=by decide
  unfold Sm at a
  split at a
  ·rename_i h;rw[Si] at a;rw[a];exact d n h
  ·rcases Ea.1 a with a|a
   ·exact ih (n / 10) (by omega) c a
   ·rw[Si] at a;rw[a];exact d (n % 10) (Nat.mod_lt _ (by decide))
theorem zhW (l:A Ab)(c:Ab):Gk (l++[c])=Sk (Gk l) c:=by unfold Gk;rw[Mb];rfl
theorem zkI (n:Ad)(h:n<=99999):Gk (Sm n)=n:=by
 induction n using Xp with
 |ind n ih=>
  have d:∀k,k<10->(Cb (48+k)).toNat=48+k:=by decide
  unfold Sm
  split
  ·rename_i hn
   show Sk 0 (Cb (48+n))=n;unfold Sk;rw[d n hn];simp only[wrap64];omega
  ·rw[zhW,ih (n / 10) (by omega) (by omega)]
   unfold Sk;rw[d (n % 10) (by omega)];simp only[wrap64];omega
theorem At.num {n:Ak}{st:P.St}(h:At l (Hz n++r) st)(a:0<=n/\n<=99999)(b:∀c cs,r=c::cs->Ck c.toNat=false) :
  (qp l st).1=n/\At l r (qp l st).2:=by
 obtain⟨d,f,g⟩:=h.tok (tok_num (Hz n) r (zh5 _) (R.decI_len n a) (mw _) b)
 grind[tok_num,Hz,zh5,R.decI_len,mw,qp,Gk,Sm,zkI,P.St,At,Ck]
theorem kN (st:P.St)(a b:Ak)(h:a<b):zy st a b=st:=by grind[zy,zh,P.St]
theorem jG (st:P.St)(b:Ee)(e a:Ak)(h:b=false):zh st b e a=st:=by rw[h];rfl
theorem cQ (h:Ih c.toNat false=true):c≠34/\c≠10/\Ih c.toNat true=true/\Mi c=c:=by
 have b:Ek c.toNat=true\/Ck c.toNat=true\/(c.toNat:Ak)=45:=by unfold Ih at h;simpa[or_assoc] using h
 have a:(97<=c.toNat/\c.toNat<=122)\/(48<=c.toNat/\c.toNat<=57)\/c.toNat=45:=by
  rcases b with h|h|h
  ·left;unfold Ek at h;simp at h;omega
  ·right;left;unfold Ck at h;simp at h;omega
  ·right;right;omega
 refine⟨fun e=>by subst e;revert a;decide,fun e=>by subst e;revert a;decide,?_,?_⟩
 ·unfold Ih at h ⊢;simp at h ⊢;exact Ay h
 ·unfold Mi R.largeI;rw[Aw (by simp;omega)]
theorem zdI (h:Gx s false=true):(34:Ab) ∉ s/\(10:Ab) ∉ s/\Gx s true=true/\Cj s=s:=by
 unfold Gx Ec at h;simp only[Ez,Mq,Gd] at h;refine⟨fun hm=>(cQ (h.1 _ hm)).1 rfl,fun hm=>(cQ (h.1 _ hm)).2.1 rfl,?_,?_⟩
 ·unfold Gx Ec
  simp only[Ez,Mq,Gd];exact⟨fun c hc=>(cQ (h.1 c hc)).2.2.1,h.2⟩
 ·unfold Cj
  conv=>rhs;rw[<-List.map_id s]
  exact List.map_congr_left fun c hc=>(cQ (h.1 c hc)).2.2.2
theorem rX (h:Ft s false=true):(34:Ab) ∉ s/\(10:Ab) ∉ s/\Ft s true=true/\Cj s=s:=by
 unfold Ft at h ⊢;rw[Ez] at h ⊢;obtain⟨a,b,c,d⟩:=zdI h.1;exact⟨a,b,⟨c,h.2⟩,d⟩
theorem pJ (h:Gz s=true):(34:Ab) ∉ s/\(10:Ab) ∉ s:=by
 unfold Gz Ec at h;simp only[Ez,Mq] at h;refine⟨fun hm=>?_,fun hm=>?_⟩
 ·have:=h.1 _ hm;revert this;decide
 ·have:=h.1 _ hm;revert this;decide
theorem zd5 (h:Hp s=true):(34:Ab) ∉ s/\(10:Ab) ∉ s:=by
 unfold Hp Ec at h;simp only[Ez,Mq] at h;refine⟨fun hm=>?_,fun hm=>?_⟩
 ·have:=h.1 _ hm;revert this;decide
 ·have:=h.1 _ hm;revert this;decide
theorem gi (h:Hf s=true):(34:Ab) ∉ s/\(10:Ab) ∉ s:=by
 unfold Hf Ec at h;simp only[Ez,Mq] at h;refine⟨fun hm=>?_,fun hm=>?_⟩
 ·have:=h.1 _ hm;revert this;decide
 ·have:=h.1 _ hm;revert this;decide
theorem tC:∀(s:A Ab) (n:Ad),Ht false s n=true->(34:Ab) ∉ s/\(10:Ab) ∉ s/\Ht true s n=true/\Cj s=s
 |[],n,h=>⟨by simp,by simp,by simpa[Ht] using h,rfl⟩
 |c::s,n,h=>by
  unfold Ht at h ⊢
  by_cases a:(c.toNat:Ak)=46/\0<n
  ·rw[Az a] at h ⊢
   obtain⟨b,d,f,g⟩:=tC s 0 h;have j:c=46:=Hb.1 (by have:=a.1;show c.toNat=46;omega);subst j;exact⟨by simp[b],by simp[d],f,by show Mi 46::Cj s=_;rw[g];rfl⟩
  ·rw[Aw a] at h ⊢
   by_cases i:Ih c.toNat false=true
   ·rw[Az i] at h
    obtain⟨b,d,f,g⟩:=tC s (n+1) h;obtain⟨k,l,m,o⟩:=cQ i;rw[Az m];exact⟨by simp[b,Ne.symm k],by simp[d,Ne.symm l],f,by show Mi c::Cj s=_;rw[g,o]⟩
   ·rw[Aw i] at h;cases h
theorem zhR (h:Hq s false=true):(34:Ab) ∉ s/\(10:Ab) ∉ s/\Hq s true=true/\Cj s=s:=by
 unfold Hq at h ⊢
 by_cases f:s=[42]
 ·rw[Az f];subst f;exact⟨by decide,by decide,rfl,by decide⟩
 ·rw[Aw f] at h ⊢
  by_cases g:s.take 2=[42,46]/\2<Z s
  ·rw[Az g] at h ⊢
   obtain⟨b,c,d,a⟩:=tC _ 0 h;have e:s=[42,46]++s.drop 2:=by rw[<-g.1,He]
   refine⟨?_,?_,d,?_⟩
   ·rw[e];simp;exact b
   ·rw[e];simp;exact c
   ·rw[e]
    show Cj ([42,46]++s.drop 2)=_;unfold Cj at a ⊢;rw[Ef,a];rfl
  ·rw[Aw g] at h ⊢
   obtain⟨b,c,d,a⟩:=tC _ 0 h;exact⟨b,c,d,a⟩
structure VMt (m:P.Mt):Prop where
 name:Ft m.name false=true
 nl:Z m.name<=24
 val:Gz m.val=true
 vl:Z m.val<=24
 no:m.ask=false->m.val=[]
structure VTg (t:A Ab×Ak):Prop where
 up:Hf t.1=true
 ul:Z t.1<=24
 lo:1<=t.2
 hi:t.2<=1000
structure VSt (t:A Ab×A Ab):Prop where
 name:Ft t.1 false=true
 nl:Z t.1<=24
 val:Gz t.2=true
 vl:Z t.2<=24
structure VDp (t:A Ab):Prop where
 name:Ft t false=true
 nl:Z t<=24
structure VRl (r:P.Rl):Prop where
 num:0<=r.number/\r.number<=65535
 path:Hp r.path=true
 pl:Z r.path<=24
 ml:Z r.ms<=3
 ms:∀m∈r.ms,VMt m
 t0:r.tg≠[]
 tl:Z r.tg<=4
 tg:∀t∈r.tg,VTg t
 rep:r.rep=[]\/(Hp r.rep=true/\(Z r.rep)<=24)
 sl:Z r.sets<=3
 sets:∀s∈r.sets,VSt s
 dl:Z r.drops<=3
 drops:∀d∈r.drops,VDp d
 once:(r.sets.map Bq++r.drops).Pairwise (·≠·)
structure VHst (h:P.Hst):Prop where
 name:Hq h.name false=true
 nl:Z h.name<=24
 rl:Z h.rules<=6
 ord:(h.rules.map P.Rl.number).Pairwise (·<·)
 rules:∀r∈h.rules,VRl r
structure VHs (hs:A P.Hst):Prop where
 hl:Z hs<=4
 ord:(hs.map P.Hst.name).Pairwise (fun a b=>qd a b=true)
 hosts:∀h∈hs,VHst h
theorem At.path {st:P.St}(w:A Ab)(h:At l (w++32::(Fi s++59::r)) st)(b:w≠[])(i:(w.all fun c=>Ek c.toNat)=true)(a:Hp s=true)(j:Z s<=24) :
  (xi l st w).1=s/\At l r (xi l st w).2:=by
 have d:=h.word w b i;obtain⟨f,g⟩:=d.str j (zd5 a).1 (zd5 a).2;unfold xi;rw[f];refine⟨rfl,?_⟩;rw[jG _ _ _ _ (by rw[a];rfl)];exact g.sign 59 (by decide)
theorem At.header {st:P.St}(h:At l (Fi s++r) st)(b:Ft s false=true)(a:Z s<=24) :
  (qV l st).1=s/\At l r (qV l st).2:=by
 obtain⟨c,d,i,j⟩:=rX b;obtain⟨f,g⟩:=h.str a c d
 grind[rX,qV,jG,P.St,At,Fi,Ft]
theorem At.value {st:P.St}(h:At l (61::32::(Fi s++r)) st)(a:Gz s=true)(c:Z s<=24) :
  (x6 l st).1=s/\At l r (x6 l st).2:=by
 have b:=(h.sign 61 (by decide)).blank (by decide);obtain⟨d,f⟩:=b.str c (pJ a).1 (pJ a).2
 grind[pJ,x6,jG,P.St,At,Fi,Gz]
theorem At.seesSign {st:P.St}(h:At l (c::r) st)(a:Oy c.toNat=true)(x:A Ab):qH st x=decide ([c]=x):=At.sees (t:=[c]) h (za6 c r a) x
theorem At.seesWord {st:P.St}(t:A Ab)(h:At l (t++32::r) st)(a:t≠[])(b:(t.all fun c=>Ek c.toNat)=true)(x:A Ab):qH st x=decide (t=x):=h.sees (zlH t r a b) x
theorem At.match_ {st:P.St}(m:P.Mt)(n:Ad)(h:At l (Gg (mtOf m)++r) st)(b:VMt m)(u:n<3) :
  (qo l st n).1=m/\At l r (qo l st n).2:=by
 have e:Gg (mtOf m)++r=[32,32,32,32]++(qO++32::(Fi m.name++((if m.ask then [32,61,32]++Fi m.val else [])++59::10::r))):=by
  unfold Gg mtOf qO;simp
 rw[e] at h;have p:=(h.blanks _ (by decide)).word qO (by decide) (by decide);obtain⟨f,g⟩:=p.header b.name b.nl;have i:jC l st n=qV l (zS l st qO):=by unfold jC;rw[kN _ _ _ (by omega)]
 obtain⟨v,t,j⟩:=m;simp only at f g b
 cases t with
 |true=>
  have d:At l (61::32::(Fi j++59::10::r)) (qV l (zS l st qO)).2:=by
   refine At.blank (c:=32) ?_ (by decide)
   simpa using g
  have a:qH (qV l (zS l st qO)).2 [61]=true:=by rw[d.seesSign (by decide)];decide
  obtain⟨k,o⟩:=d.value b.val b.vl;unfold qo vz;rw[i,a,Az rfl,f,k];exact⟨rfl,(o.sign 59 (by decide)).blank (by decide)⟩
 |false=>
  have d:At l (59::10::r) (qV l (zS l st qO)).2:=by simpa using g
  have a:qH (qV l (zS l st qO)).2 [61]=false:=by rw[d.seesSign (by decide)];decide
  have s:j=[]:=b.no rfl;unfold qo vz;rw[i,a,Aw (by simp),f,s];exact⟨rfl,(d.sign 59 (by decide)).blank (by decide)⟩
theorem At.mtLoop {l r:A Ab}(d:∀st,At l r st->qH st qO=false):∀(c:A P.Mt) (a:Ad) (st:P.St) (b:A P.Mt),
  At l ((c.map fun m=>Gg (mtOf m)).flatten++r) st->(∀m∈c,VMt m)->Z b+Z c<=3->Z c<a->(qw l a st b).1=b++c/\At l r (qw l a st b).2
 |[],a+1,st,b,h,_,_,_=>by
  have f:=h;unfold qw;rw[d st f,Aw (by simp)];exact⟨by simp,f⟩
 |m::c,a+1,st,b,h,hv,hl,hf=>by
  have f:At l (Gg (mtOf m)++((c.map fun m=>Gg (mtOf m)).flatten++r)) st:=by simpa using h
  have j:qH st qO=true:=by
   have e:Gg (mtOf m)++((c.map fun m=>Gg (mtOf m)).flatten++r)=[32,32,32,32]++(qO++32::(Fi m.name++((if m.ask then [32,61,32]++Fi m.val else [])++59::10::((c.map fun m=>Gg (mtOf m)).flatten++r)))):=by
    unfold Gg mtOf qO;simp
   rw[e] at f;rw[(f.blanks _ (by decide)).seesWord qO (by decide) (by decide)];simp
  simp only[Bb] at hl hf;obtain⟨g,i⟩:=f.match_ m (Z b) (hv m (by simp)) (by omega);unfold qw;rw[j,Az rfl,g];have:=At.mtLoop d c a _ (b++[m]) i (fun x hx=>hv x (by simp[hx])) (by simp;omega) (by omega);exact⟨by rw[this.1];simp,this.2⟩
theorem At.target {st:P.St}(t:A Ab×Ak)(n:Ad)(c:Ab)(h:At l (Hv t++c::r) st)(a:VTg t)(m:n<4)(k:Ck c.toNat=false) :
  (zb l st n).1=t/\At l (c::r) (zb l st n).2:=by
 have e:Hv t++c::r=Fi t.1++32::(Hz t.2++c::r):=by unfold Hv;simp
 rw[e] at h;obtain⟨b,f⟩:=h.str a.ul (gi a.up).1 (gi a.up).2;have j:xT l st n=(t.1,(qA l st).2):=by
  unfold xT;rw[kN _ _ _ (by omega),b,jG _ _ _ _ (by rw[a.up];rfl)]
 obtain⟨g,i⟩:=(f.blank (by decide)).num ⟨by have:=a.lo;omega,by have:=a.hi;omega⟩ (fun d ds e=>by cases e;exact k);unfold zb;rw[j];simp only;rw[g,jG _ _ _ _ (by have:=a.hi;simp;omega)];exact⟨rfl,i⟩
theorem At.tgLoop {l r:A Ab}:∀(ts:A (A Ab×Ak)) (a:Ad) (st:P.St) (b:A (A Ab×Ak)),
  At l ((ts.map fun u=>[44,32]++Hv u).flatten++59::r) st->(∀t∈ts,VTg t)->Z b+Z ts<=4->Z ts<a->(xG l a st b).1=b++ts/\At l (59::r) (xG l a st b).2
 |[],a+1,st,b,h,_,_,_=>by
  have d:=h;unfold xG;rw[d.seesSign (by decide),Aw (by decide)];exact⟨by simp,d⟩
 |t::ts,a+1,st,b,h,hv,hl,hf=>by
  have d:At l (44::32::(Hv t++((ts.map fun u=>[44,32]++Hv u).flatten++59::r))) st:=by simpa using h
  have n:qH st [44]=true:=by rw[d.seesSign (by decide)];decide
  have g:=(d.sign 44 (by decide)).blank (by decide);simp only[Bb] at hl hf;obtain⟨c,j,i,m⟩:∃c j,(ts.map fun u=>[44,32]++Hv u).flatten++59::r=c::j/\Ck c.toNat=false:=by
   cases ts with
   |nil=>exact⟨59,r,rfl,by decide⟩
   |cons u us=>exact⟨44,_,rfl,by decide⟩
  rw[i] at g;obtain⟨k,f⟩:=g.target t (Z b) c (hv t (by simp)) (by omega) m;rw[<-i] at f;unfold xG;rw[n,Az rfl,k];have:=At.tgLoop ts a _ (b++[t]) f (fun x hx=>hv x (by simp[hx])) (by simp;omega) (by omega);exact⟨by rw[this.1];simp,this.2⟩
theorem At.targets {st:P.St}(ts:A (A Ab×Ak))(h:At l (kh++32::(Ho ts++59::r)) st)(o:ts≠[])(d:∀t∈ts,VTg t)(v:Z ts<=4)(s:Z ts<=Z l) :
  (qS l st).1=ts/\At l r (qS l st).2:=by
 match ts,o with
 |t::ts,_=>
  have p:=h.word kh (by decide) (by decide);have a:At l (Hv t++((ts.map fun u=>[44,32]++Hv u).flatten++59::r)) (zS l st kh):=by simpa[Ho] using p
  obtain⟨c,j,i,q⟩:∃c j,(ts.map fun u=>[44,32]++Hv u).flatten++59::r=c::j/\Ck c.toNat=false:=by
   cases ts with
   |nil=>exact⟨59,r,rfl,by decide⟩
   |cons u us=>exact⟨44,_,rfl,by decide⟩
  rw[i] at a;obtain⟨k,f⟩:=a.target t 0 c (d t (by simp)) (by omega) q;rw[<-i] at f;simp only[Bb] at v s;obtain⟨m,n⟩:=At.tgLoop ts (Z l+1) _ [t] f (fun x hx=>d x (by simp[hx])) (by simp;omega) (by omega);have g:(yA l st).1=t::ts/\At l (59::r) (yA l st).2:=by
   unfold yA;rw[k];exact⟨m,n⟩
  have b:(t::ts).filter (fun t=>!(t.2 == 0))=t::ts:=List.filter_eq_self.2 fun x hx=>by
   have:=(d x hx).lo;simp;omega
  unfold qS;rw[g.1,b];refine⟨rfl,?_⟩;rw[jG _ _ _ _ (by rfl)];exact g.2.sign 59 (by decide)
theorem At.edited {st:P.St}(a:A (A Ab))(h:At l (Fi s++r) st)(c:Ft s false=true)(b:Z s<=24)(g:s ∉ a) :
  (qi l st a).1=s/\At l r (qi l st a).2:=by
 obtain⟨d,f⟩:=h.header c b
 grind[qi,jG,List.any_eq_false,P.St,At,Fi,Ft]
theorem At.set_ {st:P.St}(t:A Ab×A Ab)(n:Ad)(a:A (A Ab))(h:At l (Em t++r) st)(b:VSt t)(m:n<3)(k:t.1 ∉ a) :
  (xj l st n a).1=t/\At l r (xj l st n a).2:=by
 have e:Em t++r=[32,32,32,32]++(xX++32::(Fi t.1++32::61::32::(Fi t.2++59::10::r))):=by
  unfold Em xX;simp
 rw[e] at h;have i:=(h.blanks _ (by decide)).word xX (by decide) (by decide);have j:jl l st n a=qi l (zS l st xX) a:=by unfold jl;rw[kN _ _ _ (by omega)]
 obtain⟨c,d⟩:=i.edited a b.name b.nl k;obtain⟨f,g⟩:=(d.blank (by decide)).value b.val b.vl;unfold xj;rw[j,c,f];exact⟨rfl,(g.sign 59 (by decide)).blank (by decide)⟩
theorem At.drop_ {st:P.St}(t:A Ab)(n:Ad)(a:A (A Ab))(h:At l (Cz t++r) st)(b:VDp t)(j:n<3)(i:t ∉ a) :
  (xO l st n a).1=t/\At l r (xO l st n a).2:=by
 have e:Cz t++r=[32,32,32,32]++(qy++32::(Fi t++59::10::r)):=by
  unfold Cz qy;simp
 rw[e] at h;have f:=(h.blanks _ (by decide)).word qy (by decide) (by decide);have g:je l st n a=qi l (zS l st qy) a:=by unfold je;rw[kN _ _ _ (by omega)]
 obtain⟨c,d⟩:=f.edited a b.name b.nl i;unfold xO;rw[g,c];exact⟨rfl,(d.sign 59 (by decide)).blank (by decide)⟩
theorem At.stLoop {l r:A Ab}(c:∀st,At l r st->qH st xX=false):∀(ts:A (A Ab×A Ab)) (b:Ad) (st:P.St) (a:A (A Ab×A Ab)),
  At l ((ts.map Em).flatten++r) st->(∀m∈ts,VSt m)->((a++ts).map Bq).Pairwise (·≠·)->Z a+Z ts<=3->Z ts<b->(qk l b st a).1=a++ts/\At l r (qk l b st a).2
 |[],b+1,st,a,h,_,_,_,_=>by
  have d:=h;unfold qk;rw[c st d,Aw (by simp)];exact⟨by simp,d⟩
 |t::ts,b+1,st,a,h,hv,hp,hl,hf=>by
  have d:At l (Em t++((ts.map Em).flatten++r)) st:=by simpa using h
  have k:qH st xX=true:=by
   have e:Em t++((ts.map Em).flatten++r)=[32,32,32,32]++(xX++32::(Fi t.1++32::61::32::(Fi t.2++59::10::((ts.map Em).flatten++r)))):=by
    unfold Em xX;simp
   rw[e] at d;rw[(d.blanks _ (by decide)).seesWord xX (by decide) (by decide)];simp
  simp only[Bb] at hl hf;have f:t.1 ∉ a.map Bq:=by
   rw[Ef,Fx] at hp;intro j;exact hp.2.2 _ j t.1 (by simp) rfl
  obtain⟨g,i⟩:=d.set_ t (Z a) (a.map Bq) (hv t (by simp)) (by omega) f;unfold qk;rw[k,Az rfl,g];have:=At.stLoop c ts b _ (a++[t]) i (fun x hx=>hv x (by simp[hx])) (by simpa using hp) (by simp;omega) (by omega);exact⟨by rw[this.1];simp,this.2⟩
theorem At.dpLoop {l r:A Ab}(c:A (A Ab))(d:∀st,At l r st->qH st qy=false):∀(ts:A (A Ab)) (b:Ad) (st:P.St) (a:A (A Ab)),
  At l ((ts.map Cz).flatten++r) st->(∀m∈ts,VDp m)->(c++a++ts).Pairwise (·≠·)->Z a+Z ts<=3->Z ts<b->(qf l c b st a).1=a++ts/\At l r (qf l c b st a).2
 |[],b+1,st,a,h,_,_,_,_=>by
  have f:=h;unfold qf;rw[d st f,Aw (by simp)];exact⟨by simp,f⟩
 |t::ts,b+1,st,a,h,hv,hp,hl,hf=>by
  have f:At l (Cz t++((ts.map Cz).flatten++r)) st:=by simpa using h
  have n:qH st qy=true:=by
   have e:Cz t++((ts.map Cz).flatten++r)=[32,32,32,32]++(qy++32::(Fi t++59::10::((ts.map Cz).flatten++r))):=by
    unfold Cz qy;simp
   rw[e] at f;rw[(f.blanks _ (by decide)).seesWord qy (by decide) (by decide)];simp
  simp only[Bb] at hl hf;have g:t ∉ c++a:=by
   rw[Fx] at hp;intro k;exact hp.2.2 _ k t (by simp) rfl
  obtain⟨i,j⟩:=f.drop_ t (Z a) (c++a) (hv t (by simp)) (by omega) g;unfold qf;rw[n,Az rfl,i];have:=At.dpLoop c d ts b _ (a++[t]) j (fun x hx=>hv x (by simp[hx])) (by simpa using hp) (by simp;omega) (by omega);exact⟨by rw[this.1];simp,this.2⟩
theorem At.len {st:P.St}(h:At l r st):Z r<=Z l:=by grind[Z,List.length_drop,List.length_append,P.St,At]
theorem zeK (x:P.Rl):Sw (toRl x)=if x.rep=[] then [] else [32,32,32,32]++(qK++32::(Fi x.rep++[59,10])):=by
 unfold Sw toRl rlOf qK
 by_cases h:x.rep=[] <;> simp[h]
theorem nE (x:P.Rl)(r:A Ab):Fu (toRl x)++r=[32,32]++(qz++32::(Hz x.number++32::123::([10,32,32,32,32]++(jB++32::(Fi x.path++59::10::((x.ms.map fun m=>Gg (mtOf m)).flatten++
  ([32,32,32,32]++(kh++32::(Ho x.tg++59::10::(Sw (toRl x)++((x.sets.map Em).flatten++((x.drops.map Cz).flatten++32::32::125::10::r)))))))))))):=by
 have e:(toRl x).ms.map Gg=x.ms.map fun m=>Gg (mtOf m):=by
  show(x.ms.map mtOf).map Gg=_;rw[Ny];rfl
 unfold Fu Vd;rw[e];show(([32,32,114,117,108,101,32]++Hz x.number++_++Fi x.path++_)++_++_++Ho x.tg++_++_++(x.sets.map Em).flatten++(x.drops.map Cz).flatten++_)++r=_;unfold qz jB kh;simp
theorem rt (a:A (A Ab))(w:A Ab)(c:qy≠w)(f:[125]≠w)(st:P.St)(h:At l ((a.map Cz).flatten++32::32::125::r) st):qH st w=false:=by
 cases a with
 |nil=>
  have b:At l ([32,32]++125::r) st:=h;rw[(b.blanks _ (by decide)).seesSign (by decide)];simpa using f
 |cons d a=>
  have e:((d::a).map Cz).flatten++32::32::125::r=[32,32,32,32]++(qy++32::(Fi d++59::10::((a.map Cz).flatten++32::32::125::r))):=by
   rw[Er,Ci];unfold Cz qy;simp
  rw[e] at h;rw[(h.blanks _ (by decide)).seesWord qy (by decide) (by decide)];simpa using c
theorem zhU (a:A (A Ab×A Ab))(b:A (A Ab))(w:A Ab)(c:xX≠w)(f:qy≠w)(g:[125]≠w)(st:P.St)(h:At l ((a.map Em).flatten++((b.map Cz).flatten++32::32::125::r)) st):qH st w=false:=by
 cases a with
 |nil=>exact rt b w f g st h
 |cons d a=>
  have e:((d::a).map Em).flatten++((b.map Cz).flatten++32::32::125::r)=[32,32,32,32]++(xX++32::(Fi d.1++32::61::32::(Fi d.2++59::10::((a.map Em).flatten++((b.map Cz).flatten++32::32::125::r))))):=by
   rw[Er,Ci];unfold Em xX;simp
  rw[e] at h;rw[(h.blanks _ (by decide)).seesWord xX (by decide) (by decide)];simpa using c
theorem At.rule {st:P.St}(x:P.Rl)(a:A Ak)(h:At l (Fu (toRl x)++r) st)(f:VRl x)(hn:Z a<6)(ho:x.number ∉ a) :
  (xI l st a).1=x/\At l r (xI l st a).2:=by
 rw[nE] at h;have C:8<=Z l:=by
  have:=h.len;simp only[Ah,Bb,qz,Bu] at this;omega
 have h1:=(h.blanks _ (by decide)).word qz (by decide) (by decide);obtain⟨n1,n2⟩:=h1.num ⟨f.num.1,by have:=f.num.2;omega⟩ (fun c cs e=>by cases e;decide);have hA:jS l st a=(x.number,(qp l (zS l st qz)).2):=by
  unfold jS xp;rw[kN _ _ _ (by omega),n1];rw[jG _ (decide (65535<x.number)) _ _ (by have:=f.num.2;simp;omega)];rw[jG _ _ _ _ (by rw[Xd];intro y hy;simp;intro e;subst e;exact ho hy)]
 have h2:=((n2.blank (by decide)).sign 123 (by decide)).blanks _ (by decide);obtain⟨v,w⟩:=h2.path jB (by decide) (by decide) f.path f.pl;have hB:vH l (qp l (zS l st qz)).2=xi l (zS l (qp l (zS l st qz)).2 [123]) jB:=rfl;rw[<-hB] at v w;generalize hb:vH l (qp l (zS l st qz)).2=b at v w;obtain⟨F,H⟩:=At.mtLoop (l:=l) (fun s i=>by rw[(i.blanks [32,32,32,32] (by decide)).seesWord kh (by decide) (by decide)];decide) x.ms (Z l+1) b.2 [] (w.blank (by decide)) f.ms (by have:=f.ml;simp;omega) (by have:=f.ml;omega);generalize hm:qw l (Z l+1) b.2 []=m at F H;obtain⟨Q,t2⟩:=At.targets x.tg (H.blanks _ (by decide)) f.t0 f.tg f.tl (by have:=f.tl;omega);generalize ht:qS l m.2=t at Q t2;have hC:(yu l t.2).1=x.rep/\At l ((x.sets.map Em).flatten++((x.drops.map Cz).flatten++32::32::125::10::r)) (yu l t.2).2:=by
  have j:=t2.blank (by decide);rw[zeK] at j;unfold yu
  by_cases o:x.rep=[]
  ·rw[Az o] at j
   have u:=j;rw[zhU _ _ qK (by decide) (by decide) (by decide) _ u,Aw (by simp)];exact⟨o.symm,u⟩
  ·rw[Aw o] at j
   have u:At l ([32,32,32,32]++(qK++32::(Fi x.rep++59::(10::((x.sets.map Em).flatten++((x.drops.map Cz).flatten++32::32::125::10::r)))))) t.2:=by simpa using j
   have t5:=u.blanks _ (by decide);have E:=f.rep.resolve_left o;rw[t5.seesWord qK (by decide) (by decide),Az (by simp)];obtain⟨k,n⟩:=t5.path qK (by decide) (by decide) E.1 E.2;exact⟨k,n.blank (by decide)⟩
 obtain⟨k,n⟩:=hC;generalize hc:yu l t.2=c at k n;have g:=f.once;obtain⟨p,N⟩:=At.stLoop (l:=l) (fun s i=>rt x.drops xX (by decide) (by decide) s i) x.sets (Z l+1) c.2 [] n f.sets (by rw[Hc];exact(Fx.1 g).1) (by have:=f.sl;simp;omega) (by have:=f.sl;omega);rw[Hc] at p;generalize i:qk l (Z l+1) c.2 []=s at p N;obtain⟨z,B⟩:=At.dpLoop (l:=l) (s.1.map Bq) (fun q hq=>by rw[(At.blanks [32,32] hq (by decide)).seesSign (by decide)];decide) x.drops (Z l+1) s.2 [] N f.drops (by rw[p,Cv];exact g) (by have:=f.dl;simp;omega) (by have:=f.dl;omega);rw[Hc] at z;generalize hd:qf l (s.1.map Bq) (Z l+1) s.2 []=d at z B;have hR:xI l st a=(⟨x.number,b.1,m.1,t.1,c.1,s.1,d.1⟩,zS l d.2 [125]):=by
  unfold xI;rw[hA];unfold ui;simp only;rw[hb,hm];unfold uh;rw[ht];unfold jy;rw[hc,i];unfold wi;rw[hd]
 rw[hR];refine⟨?_,((B.blanks [32,32] (by decide)).sign 125 (by decide)).blank (by decide)⟩;show(⟨x.number,b.1,m.1,t.1,c.1,s.1,d.1⟩:P.Rl)=x;rw[v,F,Q,k,p,z];rfl
theorem At.rlLoop {l r:A Ab}(d:∀st,At l r st->qH st qz=false):∀(c:A P.Rl) (b:Ad) (st:P.St) (a:A P.Rl),
  At l ((c.map fun x=>Fu (toRl x)).flatten++r) st->(∀m∈c,VRl m)->((a++c).map P.Rl.number).Pairwise (·<·)->Z a+Z c<=6->Z c<b->(xB l b st a).1=a++c/\At l r (xB l b st a).2
 |[],b+1,st,a,h,_,_,_,_=>by
  have f:=h;unfold xB;rw[d st f,Aw (by simp)];exact⟨by simp,f⟩
 |x::c,b+1,st,a,h,hv,hp,hl,hf=>by
  have f:At l (Fu (toRl x)++((c.map fun x=>Fu (toRl x)).flatten++r)) st:=by simpa using h
  have o:qH st qz=true:=by
   have i:=f;rw[nE] at i;rw[(i.blanks _ (by decide)).seesWord qz (by decide) (by decide)];simp
  simp only[Bb] at hl hf;have g:x.number ∉ a.map P.Rl.number:=by
   rw[Ef,Fx] at hp;intro n;have:=hp.2.2 _ n x.number (by simp)
   omega
  obtain⟨j,k⟩:=f.rule x (a.map P.Rl.number) (hv x (by simp)) (by simp;omega) g;unfold xB;rw[o,Az rfl,j];have:=At.rlLoop d c b _ (a++[x]) k (fun y hy=>hv y (by simp[hy])) (by simpa using hp) (by simp;omega) (by omega);exact⟨by rw[this.1];simp,this.2⟩
theorem tN (x:P.Hst)(r:A Ab):Ex (toR x)++r=Hy++32::(Fi x.name++32::123::10::((x.rules.map fun x=>Fu (toRl x)).flatten++125::10::r)):=by
 have e:(toR x).rules.map Fu=x.rules.map fun r=>Fu (toRl r):=by
  show(x.rules.map toRl).map Fu=_;rw[Ny];rfl
 grind[toR,Fu,toRl,List.map_map,Ex,Hy,Fi,P.Hst]
theorem At.host {st:P.St}(x:P.Hst)(a:A (A Ab))(h:At l (Ex (toR x)++r) st)(b:VHst x)(v:Z a<4)(n:x.name ∉ a) :
  (xP l st a).1=x/\At l r (xP l st a).2:=by
 rw[tN] at h;have c:7<=Z l:=by
  have:=h.len;simp only[Ah,Bb,Hy,Bu,R.q_len] at this;omega
 obtain⟨p,q,t,u⟩:=zhR b.name;have j:=h.word Hy (by decide) (by decide);obtain⟨d,f⟩:=j.str b.nl p q;have m:kg l st a=(x.name,(qA l (zS l st Hy)).2):=by
  unfold kg x8 bK;rw[kN _ _ _ (by omega),d,u];rw[jG _ (!R.named x.name true) _ _ (by rw[t];rfl)];rw[jG _ _ _ _ (by rw[Xd];intro y o;simp;intro e;subst e;exact n o)]
 have k:=((f.blank (by decide)).sign 123 (by decide)).blank (by decide);obtain⟨g,i⟩:=At.rlLoop (l:=l) (fun s hs=>by rw[hs.seesSign (by decide)];decide) x.rules (Z l+1) _ [] k b.rules (by rw[Hc];exact b.ord) (by have:=b.rl;simp;omega) (by have:=b.rl;omega);unfold xP eu;rw[m];simp only;rw[g];exact⟨rfl,(i.sign 125 (by decide)).blank (by decide)⟩
theorem tO (a:A Ab):qd a a=false:=by
 unfold qd
 induction a with
 |nil=>rfl
 |cons c a ih=>unfold Op.bytesLess;simp[ih]
theorem At.hsLoop {l:A Ab}:∀(g:A P.Hst) (f:Ad) (st:P.St) (d:A P.Hst),
  At l (g.map fun x=>Ex (toR x)).flatten st->(∀m∈g,VHst m)->((d++g).map P.Hst.name).Pairwise (fun a b=>qd a b=true)->Z d+Z g<=4->Z g<f->(qg l f st d).1=d++g/\At l [] (qg l f st d).2
 |[],f+1,st,d,h,_,_,_,_=>by
  have i:=h;have r:TokAt [] [] 0:=⟨rfl,fun c cs e=>by cases e⟩;unfold qg;rw[i.sees r,Aw (by decide)];exact⟨by simp,i⟩
 |x::g,f+1,st,d,h,hv,hp,hl,hf=>by
  have i:At l (Ex (toR x)++(g.map fun x=>Ex (toR x)).flatten) st:=by simpa using h
  have q:qH st Hy=true:=by
   have k:=i;rw[tN] at k;rw[k.seesWord Hy (by decide) (by decide)];simp
  simp only[Bb] at hl hf;have j:x.name ∉ d.map P.Hst.name:=by
   rw[Ef,Fx] at hp;intro p;have:=hp.2.2 _ p x.name (by simp);rw[tO] at this;cases this
  obtain⟨n,o⟩:=i.host x (d.map P.Hst.name) (hv x (by simp)) (by simp;omega) j;unfold qg;rw[q,Az rfl,n];have:=At.hsLoop g f _ (d++[x]) o (fun y hy=>hv y (by simp[hy])) (by simpa using hp) (by simp;omega) (by omega);exact⟨by rw[this.1];simp,this.2⟩
abbrev Gc2 (a):=qg a (Z a+1) (kW a) []
theorem zbX (a:A P.Hst)(b:VHs a):(zp (Ic (a.map toR))).1=a/\(zp (Ic (a.map toR))).2.broken=false/\(zp (Ic (a.map toR))).2.err=0:=by
 rw[nK];generalize g:(a.map fun h=>Ex (toR h)).flatten=l;have n:At l (a.map fun h=>Ex (toR h)).flatten (kW l):=⟨rfl,rfl,0,[],(fun c hc=>by cases hc),by rw[g];rfl,Ax _,rfl⟩;have o:Z a<Z l+1:=by
  have:Z a<=Z l:=by
   rw[<-g];have:∀xs:A P.Hst,Z xs<=Z (xs.map fun h=>Ex (toR h)).flatten:=fun xs=>by
    induction xs with
    |nil=>simp
    |cons x xs ih=>
     rw[Er,Ci,Ah,Bb];have:1<=Z (Ex (toR x)):=by unfold Ex;simp only[Ah,Bb,Bu];omega
     omega
   exact this a
  omega
 obtain⟨i,j⟩:=At.hsLoop a (Z l+1) (kW l) [] n b.hosts (by rw[Hc];exact b.ord) (by have:=b.hl;simp;omega) o;have m:=j;obtain⟨_,p,d⟩:=m.tok (t:=[]) (r:=[]) (k:=0) ⟨rfl,fun c cs e=>by cases e⟩;have f:jk l (Gc2 l).2=qR l (Gc2 l).2 true:=by
  unfold jk;rw[p];rfl
 unfold zp;exact⟨by rw[i];rfl,by rw[f];exact d.ok,by rw[f];exact d.err⟩
def PFine (st:P.St):Prop:=st.broken=false/\st.err=0
def Tkd (l:A Ab)(st:P.St):Prop:=∃p,st.tok=zg l p
theorem vU {st:P.St}{b:Ee}{e a:Ak}(c:e≠0)(h:PFine (zh st b e a)):PFine st/\b=false:=by grind[zh,xH,P.St,PFine]
theorem jX {st:P.St}(b:Ee)(e a:Ak)(h:Tkd l st):Tkd l (zh st b e a):=by grind[zh,xH,P.St,Tkd]
theorem tE {st:P.St}{a b:Ak}(h:PFine (zy st a b)):PFine st/\a<b:=by grind[zy,vU,P.St,PFine]
theorem jJ {st:P.St}(a b:Ak)(h:Tkd l st):Tkd l (zy st a b):=jX _ _ _ h
theorem mA {st:P.St}{b:Ee}(h:PFine (qR l st b)):PFine st/\b=true:=by
 unfold qR at h
 split at h
 ·rename_i hc;exact⟨⟨hc.2,h.2⟩,hc.1⟩
 ·exact absurd h.1 (by simp)
theorem pH {st:P.St}(b:Ee)(h:Tkd l st):Tkd l (qR l st b):=by
 unfold qR
 split
 ·exact⟨_,rfl⟩
 ·exact h
theorem j0 {st:P.St}(h:PFine (zS l st r)):PFine st:=(mA h).1
theorem qt {st:P.St}(r:A Ab)(h:Tkd l st):Tkd l (zS l st r):=pH _ h
theorem gq (r:A Ab)(h:(qD r).2=3):(qD r).1<=26:=by
 unfold qD at h ⊢
 grind[qD,xm,yD,jm]
theorem lG (r:A Ab)(h:(qD r).2=2):(qD r).1=By Ck r/\By Ck r<=5:=by
 unfold qD at h ⊢
 grind[qD,xm,yD,By,Ck]
theorem nJ {st:P.St}(f:Tkd l st)(h:PFine (qA l st).2):PFine st/\(Z (qA l st).1)<=24:=by
 obtain⟨b,c⟩:=mA (show PFine (qR l st (st.tok.k == 3)) from h);refine⟨b,?_⟩;obtain⟨p,d⟩:=f;have a:st.tok.k=3:=by simpa using c
 have g:Z st.tok.raw<=26:=by
  rw[d] at a ⊢;have:=gq _ a;show(Z ((l.drop (qE l p)).take (qD (l.drop (qE l p))).1))<=26;rw[Cq];omega
 unfold qA;simp only
 split
 ·simp
 ·rw[Cq];omega
theorem dC {st:P.St}(a:Tkd l st):Tkd l (qA l st).2:=pH _ a
theorem zbG {st:P.St}(i:Tkd l st)(h:PFine (qp l st).2):PFine st/\0<=(qp l st).1/\(qp l st).1<=99999:=by
 obtain⟨d,f⟩:=mA (show PFine (qR l st (st.tok.k == 2)) from h);refine⟨d,?_⟩;obtain⟨p,g⟩:=i;have a:st.tok.k=2:=by simpa using f
 have b:Z st.tok.raw<=5/\∀c∈st.tok.raw,Ck c.toNat=true:=by
  rw[g] at a ⊢;obtain⟨j,m⟩:=lG _ a;show(Z ((l.drop (qE l p)).take (qD (l.drop (qE l p))).1))<=5/\∀c∈(l.drop (qE l p)).take (qD (l.drop (qE l p))).1,_;rw[j];exact⟨by rw[Cq];omega,R.span_all _ _⟩
 unfold qp;simp only
 split
 ·omega
 ·exact R.num_le st.tok.raw b.2 b.1
theorem zdG {st:P.St}(a:Tkd l st):Tkd l (qp l st).2:=pH _ a
theorem zjC (p:Ab->Ee)(h:(List.range 256).all (fun n=>p (Cb n))=true)(c:Ab):p c=true:=by
 have:=Mq.1 h c.toNat (List.mem_range.2 c.toNat_lt)
 rwa[UInt8.ofNat_toNat] at this
theorem lD (c:Ab):Ih c.toNat true=true->Ih (Mi c).toNat false=true:=by
 have:=zjC (fun c=>!R.partI c.toNat true || Ih (Mi c).toNat false) (by decide +kernel) c;simp only[Sn,Xg] at this;intro h;rcases this with h'|h'
 ·rw[h] at h';cases h'
 ·exact h'
theorem aN (c:Ab):(Mi c=46↔c=46)/\(Mi c=42↔c=42):=by
 have:=zjC (fun c=>decide ((Mi c=46↔c=46)/\(Mi c=42↔c=42))) (by decide +kernel) c
 simpa using this
theorem za7 (h:Gx s true=true):Gx (Cj s) false=true:=by
 unfold Gx Ec Cj at*;simp only[Ez,Mq,Gd,Hr,Bv] at*;exact⟨fun c ⟨d,hd,e⟩=>by rw[<-e];exact lD d (h.1 d hd),h.2⟩
theorem lE (s:A Ab)(h:Gx s true=true):Cj (Cj s)=Cj s:=(zdI (za7 h)).2.2.2
theorem zb3 (h:Ft s true=true):Ft (Cj s) false=true:=by
 unfold Ft at h ⊢;rw[Ez] at h ⊢;exact⟨za7 h.1,by rw[lE s h.1];exact h.2⟩
theorem uo:∀(s:A Ab) (n:Ad),Ht true s n=true->Ht false (Cj s) n=true
 |[],n,h=>by simpa[Ht,Cj] using h
 |c::s,n,h=>by
  show Ht false (Mi c::Cj s) n=true;unfold Ht at h ⊢;have a:((Mi c).toNat:Ak)=46↔(c.toNat:Ak)=46:=by
   have:=(aN c).1
   constructor
   ·intro e;have:c=46:=this.1 (Hb.1 (by show(Mi c).toNat=46;omega));subst this;rfl
   ·intro e;have:Mi c=46:=this.2 (Hb.1 (by show c.toNat=46;omega));rw[this];rfl
  by_cases b:(c.toNat:Ak)=46/\0<n
  ·rw[Az b] at h
   rw[Az ⟨a.2 b.1,b.2⟩];exact uo s 0 h
  ·rw[Aw b] at h
   rw[Aw (fun hh=>b ⟨a.1 hh.1,hh.2⟩)]
   by_cases d:Ih c.toNat true=true
   ·rw[Az d] at h
    rw[Az (lD c d)];exact uo s (n+1) h
   ·rw[Aw d] at h;cases h
theorem zeN (h:Hq s true=true):Hq (Cj s) false=true:=by
 unfold Hq at h ⊢
 by_cases g:s=[42]
 ·subst g;rfl
 ·rw[Aw g] at h
  have i:¬Cj s=[42]:=by
   intro e
   apply g
   have d:Z s=1:=by have:=congrArg Z e;simpa[Cj] using this
   obtain⟨c,rfl⟩:=List.length_eq_one_iff.1 d;have:Mi c=42:=by simpa[Cj] using e
   rw[(aN c).2.1 this]
  rw[Aw i];have k:Z (Cj s)=Z s:=by unfold Cj;simp
  have j:(Cj s).take 2=[42,46]↔s.take 2=[42,46]:=by
   unfold Cj;rw[<-List.map_take]
   constructor
   ·intro e
    rcases hq:s.take 2 with _|⟨a,_|⟨b,_|⟨c,q⟩⟩⟩
    ·rw[hq] at e;simp at e
    ·rw[hq] at e;simp at e
    ·rw[hq] at e
     simp only[Er,Fa,List.cons.injEq,and_true] at e;rw[(aN a).2.1 e.1,(aN b).1.1 e.2]
    ·rw[hq] at e;simp at e
   ·intro e;rw[e];rfl
  by_cases f:s.take 2=[42,46]/\2<Z s
  ·rw[Az f] at h
   rw[Az ⟨j.2 f.1,by omega⟩];have:(Cj s).drop 2=Cj (s.drop 2):=by unfold Cj;rw[List.map_drop]
   unfold R.labels;rw[this];exact uo _ 0 h
  ·rw[Aw f] at h
   rw[Aw (fun hh=>f ⟨j.1 hh.1,by omega⟩)];exact uo _ 0 h
theorem zgV {a:A (A Ab)}{x:A Ab}(h:(a.any fun n=>decide (n=x))=false):x ∉ a:=by grind
theorem zjW {a:A Ak}{x:Ak}(h:(a.any fun n=>decide (n=x))=false):x ∉ a:=by grind
theorem nG {b:Ee}(h:(!b)=false):b=true:=by cases b with|true=>rfl|false=>cases h
theorem lP {st:P.St}{a:A (A Ab)}(j:Tkd l st)(h:PFine (x8 l st a).2):PFine st/\Hq (x8 l st a).1 false=true/\(Z (x8 l st a).1)<=24/\(x8 l st a).1 ∉ a:=by
 obtain⟨b,c⟩:=vU (by decide) (show PFine (zh (zh (qA l st).2 (!bK (qA l st).1) 4 st.tok.at_) (a.any fun n=>decide (n=Cj (qA l st).1)) 5 st.tok.at_) from h);obtain⟨d,f⟩:=vU (by decide) b;obtain⟨g,i⟩:=nJ j d;exact⟨g,zeN (nG f),by show(Z (Cj _))<=24;unfold Cj;rw[Bv];exact i,zgV c⟩
theorem eW {st:P.St}(a:A (A Ab))(b:Tkd l st):Tkd l (x8 l st a).2:=jX _ _ _ (jX _ _ _ (dC b))
theorem zd6 {st:P.St}{w:A Ab}(a:Tkd l st)(h:PFine (xi l st w).2):PFine st/\Hp (xi l st w).1=true/\(Z (xi l st w).1)<=24:=by grind[j0,PFine,zS,zh,qA,vU,nJ,qt,nG,P.St,Tkd,xi,Hp]
theorem za4 {st:P.St}(w:A Ab)(a:Tkd l st):Tkd l (xi l st w).2:=qt _ (jX _ _ _ (dC (qt _ a)))
theorem ry {st:P.St}(a:Tkd l st)(h:PFine (qV l st).2):PFine st/\Ft (qV l st).1 false=true/\(Z (qV l st).1)<=24:=by grind[vU,PFine,zh,qA,nJ,zb3,nG,Cj,List.length_map,P.St,Tkd,qV,Ft]
theorem pG {st:P.St}(a:Tkd l st):Tkd l (qV l st).2:=jX _ _ _ (dC a)
theorem lQ {st:P.St}(a:Tkd l st)(h:PFine (x6 l st).2):PFine st/\Gz (x6 l st).1=true/\(Z (x6 l st).1)<=24:=by grind[vU,PFine,zh,qA,zS,nJ,qt,j0,nG,P.St,Tkd,x6,Gz]
theorem sd {st:P.St}(a:Tkd l st):Tkd l (x6 l st).2:=jX _ _ _ (dC (qt _ a))
theorem zdF {st:P.St}(n:Ad)(a:Tkd l st):Tkd l (jC l st n).2:=pG (qt _ (jJ _ _ a))
theorem zl8 {st:P.St}(a:Tkd l st):Tkd l (vz l st).2:=by grind[vz,sd,P.St,Tkd]
theorem zhZ {st:P.St}(d:Tkd l st)(h:PFine (qo l st n).2):PFine st/\n<3/\VMt (qo l st n).1:=by
 have a:=j0 (show PFine (zS l (vz l (jC l st n).2).2 [59]) from h);have b:PFine (jC l st n).2/\Gz (vz l (jC l st n).2).1=true/\(Z (vz l (jC l st n).2).1)<=24/\(qH (jC l st n).2 [61]=false->(vz l (jC l st n).2).1=[]):=by
  unfold vz at a ⊢
  by_cases c:qH (jC l st n).2 [61]=true
  ·rw[Az c] at a ⊢
   obtain⟨f,g,i⟩:=lQ (zdF n d) a;exact⟨f,g,i,fun h=>by rw[c] at h;cases h⟩
  ·rw[Aw c] at a ⊢
   exact⟨a,rfl,by simp,fun _=>rfl⟩
 obtain⟨j,k,m⟩:=ry (qt _ (jJ _ _ d)) (show PFine (qV l (zS l (zy st n 3) qO)).2 from b.1);obtain⟨o,p⟩:=tE (j0 j);exact⟨o,by omega,k,m,b.2.1,b.2.2.1,b.2.2.2⟩
theorem zgF {st:P.St}(n:Ad)(a:Tkd l st):Tkd l (qo l st n).2:=qt _ (zl8 (zdF n a))
theorem rq {l:A Ab}:∀(d:Ad) (st:P.St) (c:A P.Mt),Tkd l st->Tkd l (qw l d st c).2/\(PFine (qw l d st c).2->PFine st/\(Z c<=3->(∀m∈c,VMt m)->Z (qw l d st c).1<=3/\∀m∈(qw l d st c).1,VMt m))
 |0,st,c,ht=>⟨ht,fun h=>⟨h,fun a b=>⟨a,b⟩⟩⟩
 |d+1,st,c,ht=>by
  unfold qw
  by_cases f:qH st qO=true
  ·rw[Az f]
   obtain⟨g,i⟩:=rq d (qo l st (Z c)).2 (c++[(qo l st (Z c)).1]) (zgF _ ht);refine⟨g,fun h=>?_⟩;obtain⟨j,k⟩:=i h;obtain⟨n,p,o⟩:=zhZ ht j;exact⟨n,fun d1 d2=>k (by simp;omega) (fun m hm=>by rcases Ea.1 hm with hm|hm;exact d2 m hm;simp at hm;rw[hm];exact o)⟩
  ·rw[Aw f]
   exact⟨ht,fun h=>⟨h,fun a b=>⟨a,b⟩⟩⟩
theorem fu {st:P.St}(n:Ad)(a:Tkd l st):Tkd l (xT l st n).2:=jX _ _ _ (dC (jJ _ _ a))
theorem rz {st:P.St}(b:Tkd l st)(h:PFine (zb l st n).2):PFine st/\n<4/\Hf (zb l st n).1.1=true/\(Z (zb l st n).1.1)<=24/\0<=(zb l st n).1.2/\(zb l st n).1.2<=1000:=by
 obtain⟨a,c⟩:=vU (by decide) (show PFine (zh (qp l (xT l st n).2).2 (decide (1000<(qp l (xT l st n).2).1)) 4 (xT l st n).2.tok.at_) from h);obtain⟨d,f,_⟩:=zbG (fu n b) a
 grind[vU,PFine,zh,qp,xT,zbG,fu,qA,zy,nJ,jJ,tE,nG,P.St,Tkd,zb,Hf]
theorem bI {st:P.St}(n:Ad)(a:Tkd l st):Tkd l (zb l st n).2:=jX _ _ _ (zdG (fu n a))
def VT0 (t:A Ab×Ak):Prop:=Hf t.1=true/\(Z t.1)<=24/\0<=t.2/\t.2<=1000
theorem dv {l:A Ab}:∀(d:Ad) (st:P.St) (c:A (A Ab×Ak)),Tkd l st->Tkd l (xG l d st c).2/\(PFine (xG l d st c).2->PFine st/\(Z c<=4->(∀m∈c,VT0 m)->Z (xG l d st c).1<=4/\∀m∈(xG l d st c).1,VT0 m))
 |0,st,c,ht=>⟨ht,fun h=>⟨h,fun a b=>⟨a,b⟩⟩⟩
 |d+1,st,c,ht=>by
  unfold xG
  by_cases f:qH st [44]=true
  ·rw[Az f]
   obtain⟨g,i⟩:=dv d (zb l (zS l st [44]) (Z c)).2 (c++[(zb l (zS l st [44]) (Z c)).1]) (bI _ (qt _ ht));refine⟨g,fun h=>?_⟩;obtain⟨j,k⟩:=i h;obtain⟨n,p,o⟩:=rz (qt _ ht) j;exact⟨j0 n,fun d1 d2=>k (by simp;omega) (fun m hm=>by rcases Ea.1 hm with hm|hm;exact d2 m hm;simp at hm;rw[hm];exact o)⟩
  ·rw[Aw f]
   exact⟨ht,fun h=>⟨h,fun a b=>⟨a,b⟩⟩⟩
theorem zgG {st:P.St}(a:Tkd l st):Tkd l (yA l st).2:=(dv _ _ _ (bI _ (qt _ a))).1
theorem zbH {st:P.St}(c:Tkd l st)(h:PFine (qS l st).2):PFine st/\(qS l st).1≠[]/\(Z (qS l st).1)<=4/\∀t∈(qS l st).1,VTg t:=by
 obtain⟨n,b⟩:=vU (by decide) (show PFine (zh (zS l (yA l st).2 [59]) (((yA l st).1.filter fun t=>!(t.2 == 0)).isEmpty) 4 st.tok.at_) from h);have o:=j0 n;obtain⟨d,f⟩:=(dv (Z l+1) _ [(zb l (zS l st kh) 0).1] (bI _ (qt _ c))).2 (show PFine (yA l st).2 from o);obtain⟨g,u,i⟩:=rz (qt _ c) d;obtain⟨j,k⟩:=f (by simp) (fun m hm=>by simp at hm;rw[hm];exact i);refine⟨j0 g,?_,?_,fun t htm=>?_⟩
 ·show((yA l st).1.filter fun t=>!(t.2 == 0))≠[]
  intro e;rw[e] at b;cases b
 ·show(Z ((yA l st).1.filter fun t=>!(t.2 == 0)))<=4
  exact Bi (List.length_filter_le _ _) j
 ·have a:t∈(yA l st).1.filter fun t=>!(t.2 == 0):=htm
  rw[List.mem_filter] at a;obtain⟨q,r,v,s⟩:=k t a.1;have p:t.2≠0:=by simpa using a.2
  exact⟨q,r,by omega,s⟩
theorem za5 {st:P.St}(a:Tkd l st):Tkd l (qS l st).2:=jX _ _ _ (qt _ (zgG a))
theorem rx {st:P.St}{a:A (A Ab)}(b:Tkd l st)(h:PFine (qi l st a).2):PFine st/\Ft (qi l st a).1 false=true/\(Z (qi l st a).1)<=24/\(qi l st a).1 ∉ a:=by grind[vU,PFine,zh,qV,ry,zgV,P.St,Tkd,qi,Ft]
theorem bH {st:P.St}(a:A (A Ab))(b:Tkd l st):Tkd l (qi l st a).2:=jX _ _ _ (pG b)
theorem zlT {st:P.St}{a:A (A Ab)}(b:Tkd l st)(h:PFine (xj l st n a).2):PFine st/\n<3/\VSt (xj l st n a).1/\(xj l st n a).1.1 ∉ a:=by
 have o:=j0 (show PFine (zS l (x6 l (jl l st n a).2).2 [59]) from h);have p:Tkd l (jl l st n a).2:=bH a (qt _ (jJ _ _ b));obtain⟨c,d,f⟩:=lQ p o;obtain⟨g,i,j,k⟩:=rx (qt _ (jJ _ _ b)) (show PFine (qi l (zS l (zy st n 3) xX) a).2 from c);obtain⟨m,q⟩:=tE (j0 g);exact⟨m,by omega,⟨i,j,d,f⟩,k⟩
theorem zlA {st:P.St}(n:Ad)(a:A (A Ab))(b:Tkd l st):Tkd l (xj l st n a).2:=qt _ (sd (bH a (qt _ (jJ _ _ b))))
theorem zkK {st:P.St}{a:A (A Ab)}(j:Tkd l st)(h:PFine (xO l st n a).2):PFine st/\n<3/\VDp (xO l st n a).1/\(xO l st n a).1 ∉ a:=by
 have i:=j0 (show PFine (zS l (je l st n a).2 [59]) from h);obtain⟨b,c,d,f⟩:=rx (qt _ (jJ _ _ j)) (show PFine (qi l (zS l (zy st n 3) qy) a).2 from i);obtain⟨g,k⟩:=tE (j0 b);exact⟨g,by omega,⟨c,d⟩,f⟩
theorem zj6 {st:P.St}(n:Ad)(a:A (A Ab))(b:Tkd l st):Tkd l (xO l st n a).2:=qt _ (bH a (qt _ (jJ _ _ b)))
theorem cm {l:A α}{x:α}(h:l.Pairwise (·≠·))(a:x ∉ l):(l++[x]).Pairwise (·≠·):=by grind
theorem sZ {l:A Ab}:∀(f:Ad) (st:P.St) (d:A (A Ab×A Ab)),Tkd l st->Tkd l (qk l f st d).2/\(PFine (qk l f st d).2->PFine st/\(Z d<=3->(∀m∈d,VSt m)->(d.map Bq).Pairwise (·≠·)->
  (Z (qk l f st d).1)<=3/\(∀m∈(qk l f st d).1,VSt m)/\((qk l f st d).1.map Bq).Pairwise (·≠·)))
 |0,st,d,ht=>⟨ht,fun h=>⟨h,fun a b c=>⟨a,b,c⟩⟩⟩
 |f+1,st,d,ht=>by
  unfold qk
  by_cases g:qH st xX=true
  ·rw[Az g]
   obtain⟨i,j⟩:=sZ f (xj l st (Z d) (d.map Bq)).2 (d++[(xj l st (Z d) (d.map Bq)).1]) (zlA _ _ ht);refine⟨i,fun h=>?_⟩;obtain⟨k,n⟩:=j h;obtain⟨o,r,p,q⟩:=zlT ht k;exact⟨o,fun d1 d2 d3=>n (by simp;omega) (fun m hm=>by rcases Ea.1 hm with hm|hm;exact d2 m hm;simp at hm;rw[hm];exact p) (by rw[Ef];exact cm d3 q)⟩
  ·rw[Aw g]
   exact⟨ht,fun h=>⟨h,fun a b c=>⟨a,b,c⟩⟩⟩
theorem rQ {l:A Ab}(d:A (A Ab)):∀(g:Ad) (st:P.St) (f:A (A Ab)),Tkd l st->Tkd l (qf l d g st f).2/\(PFine (qf l d g st f).2->PFine st/\(Z f<=3->(∀m∈f,VDp m)->(d++f).Pairwise (·≠·)->
  (Z (qf l d g st f).1)<=3/\(∀m∈(qf l d g st f).1,VDp m)/\(d++(qf l d g st f).1).Pairwise (·≠·)))
 |0,st,f,ht=>⟨ht,fun h=>⟨h,fun a b c=>⟨a,b,c⟩⟩⟩
 |g+1,st,f,ht=>by
  unfold qf
  by_cases i:qH st qy=true
  ·rw[Az i]
   obtain⟨j,k⟩:=rQ d g (xO l st (Z f) (d++f)).2 (f++[(xO l st (Z f) (d++f)).1]) (zj6 _ _ ht);refine⟨j,fun h=>?_⟩;obtain⟨n,o⟩:=k h;obtain⟨p,s,q,r⟩:=zkK ht n;exact⟨p,fun d1 d2 d3=>o (by simp;omega) (fun m hm=>by rcases Ea.1 hm with hm|hm;exact d2 m hm;simp at hm;rw[hm];exact q) (by rw[<-Bl];exact cm d3 r)⟩
  ·rw[Aw i]
   exact⟨ht,fun h=>⟨h,fun a b c=>⟨a,b,c⟩⟩⟩
theorem zlS {st:P.St}{a:A Ak}(m:Tkd l st)(h:PFine (jS l st a).2):PFine st/\(Z a)<6/\0<=(jS l st a).1/\(jS l st a).1<=65535/\(jS l st a).1 ∉ a:=by
 have b:Tkd l (zS l (zy st (Z a) 6) qz):=qt _ (jJ _ _ m);unfold jS xp at h ⊢;obtain⟨c,d⟩:=vU (by decide) h;obtain⟨f,g⟩:=vU (by decide) c;obtain⟨i,j,_⟩:=zbG b f;obtain⟨k,n⟩:=tE (j0 i);exact⟨k,by omega,j,by simpa using g,zjW d⟩
theorem zl9 {st:P.St}(a:A Ak)(b:Tkd l st):Tkd l (jS l st a).2:=jX _ _ _ (jX _ _ _ (zdG (qt _ (jJ _ _ b))))
theorem zlW {st:P.St}(a:Tkd l st):Tkd l (yu l st).2/\(PFine (yu l st).2->PFine st/\((yu l st).1=[]\/(Hp (yu l st).1=true/\(Z (yu l st).1)<=24))):=by grind[yu,qH,qK,za4,zd6,P.St,Tkd,PFine,Hp]
theorem zl3 {st:P.St}(f:A Ak)(F:Tkd l st):Tkd l (xI l st f).2/\(PFine (xI l st f).2->PFine st/\(Z f)<6/\(xI l st f).1.number ∉ f/\VRl (xI l st f).1):=by
 generalize j:jS l st f=a;generalize k:vH l a.2=b;generalize v:qw l (Z l+1) b.2 []=m;generalize g:qS l m.2=t;generalize u:yu l t.2=c;generalize w:qk l (Z l+1) c.2 []=s;generalize E:qf l (s.1.map Bq) (Z l+1) s.2 []=d;have hR:xI l st f=(⟨a.1,b.1,m.1,t.1,c.1,s.1,d.1⟩,zS l d.2 [125]):=by
  unfold xI;rw[j];unfold ui;rw[k,v];unfold uh;rw[g];unfold jy;rw[u,w];unfold wi;rw[E]
 rw[hR];have n:=zl9 f F;have kb:Tkd l (vH l a.2).2:=by rw[j] at n;exact za4 _ (qt _ n)
 have i:=rq (Z l+1) (vH l a.2).2 [] kb;rw[k] at i;have kt:Tkd l (qS l m.2).2:=by rw[v] at i;exact za5 i.1
 have o:=zlW kt;rw[g] at o;have q:=sZ (Z l+1) (yu l t.2).2 [] o.1;rw[u] at q;have p:=rQ (s.1.map Bq) (Z l+1) (qk l (Z l+1) c.2 []).2 [] q.1;rw[w] at p;rw[E] at p;rw[w] at q;rw[u] at o;rw[v] at i;refine⟨qt _ p.1,fun h=>?_⟩;obtain⟨d1,d2⟩:=p.2 (j0 h);obtain⟨s1,s2⟩:=q.2 d1;obtain⟨s3,s4,s5⟩:=s2 (by simp) (by simp) (by simp);obtain⟨d3,d4,d5⟩:=d2 (by simp) (by simp) (by simpa using s5);obtain⟨c1,c2⟩:=o.2 s1;obtain⟨t1,N,Q,t4⟩:=zbH i.1 (by rw[g];exact c1);rw[g] at N Q t4;obtain⟨H,m2⟩:=i.2 t1;obtain⟨m3,m4⟩:=m2 (by simp) (by simp);rw[j] at n;obtain⟨b1,B,C⟩:=zd6 (qt [123] n) (show PFine (xi l (zS l a.2 [123]) jB).2 by rw[<-k] at H;exact H);have r:xi l (zS l a.2 [123]) jB=b:=k;rw[r] at B C;obtain⟨a1,a2,x,y,z⟩:=zlS F (show PFine (jS l st f).2 by rw[j];exact j0 b1);rw[j] at x y z;exact⟨a1,a2,z,⟨⟨x,y⟩,B,C,m3,m4,N,Q,t4,c2,s3,s4,d3,d4,d5⟩⟩
theorem sX {l:A Ab}:∀(f:Ad) (st:P.St) (d:A P.Rl),Tkd l st->Tkd l (xB l f st d).2/\(PFine (xB l f st d).2->PFine st/\(Z d<=6->(∀m∈d,VRl m)->(d.map P.Rl.number).Pairwise (·≠·)->
  (Z (xB l f st d).1)<=6/\(∀m∈(xB l f st d).1,VRl m)/\((xB l f st d).1.map P.Rl.number).Pairwise (·≠·)))
 |0,st,d,ht=>⟨ht,fun h=>⟨h,fun a b c=>⟨a,b,c⟩⟩⟩
 |f+1,st,d,ht=>by
  unfold xB
  by_cases g:qH st qz=true
  ·rw[Az g]
   obtain⟨s,t⟩:=zl3 (d.map P.Rl.number) ht;obtain⟨i,j⟩:=sX f (xI l st (d.map P.Rl.number)).2 (d++[(xI l st (d.map P.Rl.number)).1]) s;refine⟨i,fun h=>?_⟩;obtain⟨k,n⟩:=j h;obtain⟨o,p,q,r⟩:=t k;rw[Bv] at p;exact⟨o,fun d1 d2 d3=>n (by simp;omega) (fun m hm=>by rcases Ea.1 hm with hm|hm;exact d2 m hm;simp at hm;rw[hm];exact r) (by rw[Ef];exact cm d3 q)⟩
  ·rw[Aw g]
   exact⟨ht,fun h=>⟨h,fun a b c=>⟨a,b,c⟩⟩⟩
structure UHst (h:P.Hst):Prop where
 name:Hq h.name false=true
 nl:Z h.name<=24
 rl:Z h.rules<=6
 once:(h.rules.map P.Rl.number).Pairwise (·≠·)
 rules:∀r∈h.rules,VRl r
theorem zk4 {st:P.St}(a:A (A Ab))(b:Tkd l st):Tkd l (xP l st a).2/\(PFine (xP l st a).2->PFine st/\(Z a)<4/\(xP l st a).1.name ∉ a/\UHst (xP l st a).1):=by
 have q:Tkd l (kg l st a).2:=eW a (qt _ (jJ _ _ b));have c:=sX (Z l+1) (zS l (kg l st a).2 [123]) [] (qt _ q);refine⟨qt _ c.1,fun h=>?_⟩;obtain⟨d,f⟩:=c.2 (j0 (show PFine (zS l (xB l (Z l+1) (zS l (kg l st a).2 [123]) []).2 [125]) from h));obtain⟨g,i,j⟩:=f (by simp) (by simp) (by simp);obtain⟨k,m,n,o⟩:=lP (qt Hy (jJ (Z a) 4 b)) (show PFine (kg l st a).2 from j0 d);obtain⟨p,r⟩:=tE (j0 k);exact⟨p,by omega,o,m,n,g,j,i⟩
theorem rY {l:A Ab}:∀(f:Ad) (st:P.St) (d:A P.Hst),Tkd l st->Tkd l (qg l f st d).2/\(PFine (qg l f st d).2->PFine st/\(Z d<=4->(∀m∈d,UHst m)->(d.map P.Hst.name).Pairwise (·≠·)->
  (Z (qg l f st d).1)<=4/\(∀m∈(qg l f st d).1,UHst m)/\((qg l f st d).1.map P.Hst.name).Pairwise (·≠·)))
 |0,st,d,ht=>⟨ht,fun h=>⟨h,fun a b c=>⟨a,b,c⟩⟩⟩
 |f+1,st,d,ht=>by
  unfold qg
  by_cases g:qH st Hy=true
  ·rw[Az g]
   obtain⟨s,t⟩:=zk4 (d.map P.Hst.name) ht;obtain⟨i,j⟩:=rY f (xP l st (d.map P.Hst.name)).2 (d++[(xP l st (d.map P.Hst.name)).1]) s;refine⟨i,fun h=>?_⟩;obtain⟨k,n⟩:=j h;obtain⟨o,p,q,r⟩:=t k;rw[Bv] at p;exact⟨o,fun d1 d2 d3=>n (by simp;omega) (fun m hm=>by rcases Ea.1 hm with hm|hm;exact d2 m hm;simp at hm;rw[hm];exact r) (by rw[Ef];exact cm d3 q)⟩
  ·rw[Aw g]
   exact⟨ht,fun h=>⟨h,fun a b c=>⟨a,b,c⟩⟩⟩
theorem mB (l:A Ab)(a:(zp l).2.broken=false)(b:(zp l).2.err=0) :
  (Z (zp l).1)<=4/\(∀h∈(zp l).1,UHst h)/\((zp l).1.map P.Hst.name).Pairwise (·≠·):=by
 have k:=rY (Z l+1) (kW l) [] ⟨0,rfl⟩;have c:PFine (Gc2 l).2:=(mA (show PFine (qR l (Gc2 l).2 _) from⟨a,b⟩)).1;exact(k.2 c).2 (by simp) (by simp) (by simp)
def zM (s:A Ab):A Ab:=Cb (Z s)::s
def qc (n:Ak):A Ab:=[Cb (n.toNat % 256),Cb (n.toNat / 256)]
def zR (f:α->A Ab)(l:A α):A Ab:=Cb (Z l)::(l.map f).flatten
def K.mt (m:P.Mt):A Ab:=zM m.name++(if m.ask then 1::zM m.val else [0])
def K.tg (t:A Ab×Ak):A Ab:=zM t.1++qc t.2
def K.st (t:A Ab×A Ab):A Ab:=zM t.1++zM t.2
def f7 (r:A Ab):A Ab:=if r=[] then [0] else 1::zM r
def qN (r:P.Rl):A Ab:=qc r.number++(zM r.path++(zR K.mt r.ms++(zR K.tg r.tg++(f7 r.rep++(zR K.st r.sets++zR zM r.drops)))))
def qX (h:P.Hst):A Ab:=zM h.name++zR qN h.rules
def xM (hs:A P.Hst):A Ab:=[83,89,49]++zR qX hs
def vw (s:Ad):Ad:=if s % 2=1 then (s / 2) ^^^ 3988292384 else s / 2
def mF (s:Ad)(c:Ab):Ad:=vw (vw (vw (vw (vw (vw (vw (vw (s ^^^ c.toNat))))))))
def yg (l:A Ab):Ad:=4294967295-l.foldl mF 4294967295
def xF (n:Ad):A Ab:=[Cb (n % 256),Cb (n / 256 % 256),Cb (n / 65536 % 256),Cb (n / 16777216 % 256)]
def x4 (hs:A P.Hst):A Ab:=xM hs++xF (yg (xM hs))
def vG (n:Ad)(r:A Ab):A Ab×A Ab:=(r.take n++Hs (n-Z r) 0,r.drop n)
def qq (r:A Ab):Ad×A Ab:=((r.headD 0).toNat,r.drop 1)
def zu (r:A Ab):A Ab×A Ab:=vG (qq r).1 (qq r).2
def yo (r:A Ab):Ak×A Ab:=(((qq r).1+(qq (qq r).2).1*256:Ad),(qq (qq r).2).2)
def qW {α:Type}(f:A Ab->α×A Ab):Ad->A Ab->A α×A Ab
 |0,r=>([],r)
 |n+1,r=>((f r).1::(qW f n (f r).2).1,(qW f n (f r).2).2)
def zW (f:A Ab->α×A Ab)(r:A Ab):A α×A Ab:=qW f (qq r).1 (qq r).2
def qn (r:A Ab):(A Ab×Ee)×A Ab:=if (qq r).1=0 then (([],false),(qq r).2) else (((zu (qq r).2).1,true),(zu (qq r).2).2)
def U.mt (r:A Ab):P.Mt×A Ab:=(⟨(zu r).1,(qn (zu r).2).1.2,(qn (zu r).2).1.1⟩,(qn (zu r).2).2)
def U.tg (r:A Ab):(A Ab×Ak)×A Ab:=(((zu r).1,(yo (zu r).2).1),(yo (zu r).2).2)
def wO (r:A Ab):A Ab×A Ab:=((qn r).1.1,(qn r).2)
def U.st (r:A Ab):(A Ab×A Ab)×A Ab:=(((zu r).1,(zu (zu r).2).1),(zu (zu r).2).2)
def yF (r0:A Ab):P.Rl×A Ab:=
 (⟨(yo r0).1,(zu (yo r0).2).1,(zW U.mt (zu (yo r0).2).2).1,(zW U.tg (zW U.mt (zu (yo r0).2).2).2).1,(wO (zW U.tg (zW U.mt (zu (yo r0).2).2).2).2).1,
  (zW U.st (wO (zW U.tg (zW U.mt (zu (yo r0).2).2).2).2).2).1,(zW zu (zW U.st (wO (zW U.tg (zW U.mt (zu (yo r0).2).2).2).2).2).2).1⟩,
  (zW zu (zW U.st (wO (zW U.tg (zW U.mt (zu (yo r0).2).2).2).2).2).2).2)
def yY (r:A Ab):P.Hst×A Ab:=(⟨(zu r).1,(zW yF (zu r).2).1⟩,(zW yF (zu r).2).2)
def jM (b:A Ab):A P.Hst:=(zW yY (b.drop 3)).1
theorem u8n (n:Ad)(h:n<=255):(Cb n).toNat=n:=by
 rw[Qc];omega
theorem vj (s r:A Ab)(h:Z s<=255):zu (zM s++r)=(s,r):=by
 have a:qq (zM s++r)=(Z s,s++r):=by
  unfold qq zM;show((Cb (Z s)).toNat,s++r)=_;rw[u8n _ (by omega)]
 unfold zu vG;rw[a];simp
theorem uS (n:Ad)(r:A Ab)(h:n<=255):qq (Cb n::r)=(n,r):=by grind[qq,Cb,u8n]
theorem iM (n:Ak)(r:A Ab)(h:0<=n/\n<=65535):yo (qc n++r)=(n,r):=by grind[qq,qc,Cb,uS,yo]
theorem mh {α:Type}(f:A Ab->α×A Ab)(g:α->A Ab):∀(l:A α) (r:A Ab),(∀x∈l,∀r,f (g x++r)=(x,r))->qW f (Z l) ((l.map g).flatten++r)=(l,r)
 |[],r,_=>rfl
 |x::l,r,h=>by
  have e:((x::l).map g).flatten++r=g x++((l.map g).flatten++r):=by simp
  rw[e,Bb];unfold qW;rw[h x (by simp),mh f g l r (fun y hy=>h y (by simp[hy]))]
theorem jz (f:A Ab->α×A Ab)(g:α->A Ab)(l:A α)(r:A Ab)(a:Z l<=255)(h:∀x∈l,∀r,f (g x++r)=(x,r)):zW f (zR g l++r)=(l,r):=by grind[zW,qq,zR,uS,mh]
theorem zjS (m:P.Mt)(f:VMt m)(r:A Ab):U.mt (K.mt m++r)=(m,r):=by
 obtain⟨b,g,a⟩:=m;have h:zu (K.mt ⟨b,g,a⟩++r)=(b,(if g then 1::zM a else [0])++r):=by
  unfold K.mt;rw[Bl];exact vj _ _ (by have d:Z b<=24:=f.nl;show (Z b)<=255;omega)
 unfold U.mt;rw[h]
 cases g with
 |true=>
  have c:qn (1::zM a++r)=((a,true),r):=by
   unfold qn;have:qq (1::zM a++r)=(1,zM a++r):=uS 1 _ (by omega);rw[this,Aw (by simp),vj _ _ (by have d:Z a<=24:=f.vl;omega)]
  simp only[Gq];rw[c]
 |false=>
  have c:qn ([0]++r)=(([],false),r):=by
   unfold qn;have:qq ([0]++r)=(0,r):=uS 0 _ (by omega);rw[this,Az rfl]
  have i:a=[]:=f.no rfl;simp only[Ct,Gj];rw[c,i]
theorem zjU (t:A Ab×Ak)(a:VTg t)(r:A Ab):U.tg (K.tg t++r)=(t,r):=by grind[zu,K.tg,qc,List.append_assoc,vj,U.tg,iM,VTg]
theorem zjT (t:A Ab×A Ab)(a:VSt t)(r:A Ab):U.st (K.st t++r)=(t,r):=by grind[zu,K.st,zM,List.append_assoc,vj,U.st,VSt]
theorem zgT (s r:A Ab)(h:Z s<=24):wO (f7 s++r)=(s,r):=by
 unfold wO f7
 by_cases b:s=[]
 ·rw[Az b,b]
  have a:qn ([0]++r)=(([],false),r):=by
   unfold qn;have:qq ([0]++r)=(0,r):=uS 0 _ (by omega);rw[this,Az rfl]
  rw[a]
 ·rw[Aw b]
  have a:qn (1::zM s++r)=((s,true),r):=by
   unfold qn;have:qq (1::zM s++r)=(1,zM s++r):=uS 1 _ (by omega);rw[this,Aw (by simp),vj _ _ (by omega)]
  rw[a]
abbrev Gc1 (a b c d e f):=zR K.mt a++(zR K.tg b++(f7 c++(zR K.st d++(zR zM e++f))))
theorem zdX (x:P.Rl)(a:VRl x)(r:A Ab):yF (qN x++r)=(x,r):=by
 have b:Z x.rep<=24:=by rcases a.rep with h|h;rw[h];simp;exact h.2
 have e:qN x++r=qc x.number++(zM x.path++(Gc1 x.ms x.tg x.rep x.sets x.drops r)):=by
  unfold qN;simp only[Bl]
 unfold yF;rw[e,iM _ _ a.num];simp only;rw[vj _ _ (by have:=a.pl;omega)];simp only;rw[jz U.mt K.mt x.ms _ (by have:=a.ml;omega) (fun m hm r=>zjS m (a.ms m hm) r)];simp only;rw[jz U.tg K.tg x.tg _ (by have:=a.tl;omega) (fun m hm r=>zjU m (a.tg m hm) r)];simp only;rw[zgT _ _ b];simp only;rw[jz U.st K.st x.sets _ (by have:=a.sl;omega) (fun m hm r=>zjT m (a.sets m hm) r)];simp only;rw[jz zu zM x.drops _ (by have:=a.dl;omega) (fun m hm r=>vj m r (by have:=(a.drops m hm).nl;omega))]
theorem zdW (x:P.Hst)(a:VHst x)(r:A Ab):yY (qX x++r)=(x,r):=by grind[zu,qX,zR,qN,List.append_assoc,vj,yY,jz,yF,zdX,P.Hst,VHst]
theorem mf (a:A P.Hst)(b:VHs a):jM (x4 a)=a:=by grind[x4,zR,qX,xF,yg,xM,jM,jz,yY,zdW,P.Hst,VHs]
structure T.St where
 rest:A Ab
 bad:Ee
def xD (s:T.St):Ad×T.St:=match s.rest with|[]=>(0,⟨[],true⟩)|c::r=>(c.toNat,⟨r,s.bad⟩)
def zr (most:Ad)(s:T.St):Ad×T.St:=if most<(xD s).1 then (0,⟨(xD s).2.rest,true⟩) else xD s
def zj (s:T.St):A Ab×T.St:=
 if (Z (zr 24 s).2.rest)<(zr 24 s).1 then ([],⟨(zr 24 s).2.rest,true⟩) else ((zr 24 s).2.rest.take (zr 24 s).1,⟨(zr 24 s).2.rest.drop (zr 24 s).1,(zr 24 s).2.bad⟩)
def xa (s:T.St):Ak×T.St:=(((xD s).1+256*(xD (xD s).2).1:Ad),(xD (xD s).2).2)
def qP (s:T.St)(ok:Ee):T.St:=if ok then s else ⟨s.rest,true⟩
def wH (s:T.St):A Ab×T.St:=((zj s).1,qP (zj s).2 (Ft (zj s).1 false))
def ki (s:T.St):A Ab×T.St:=((zj s).1,qP (zj s).2 (Gz (zj s).1))
def T.mt (s:T.St):Nt×T.St:=
 if (zr 1 (wH s).2).1=1 then (⟨(wH s).1,(ki (zr 1 (wH s).2).2).1,true⟩,(ki (zr 1 (wH s).2).2).2)
 else (⟨(wH s).1,[],false⟩,(zr 1 (wH s).2).2)
def qU {α:Type}(f:T.St->α×T.St):Ad->T.St->A α×T.St
 |0,s=>([],s)
 |n+1,s=>((f s).1::(qU f n (f s).2).1,(qU f n (f s).2).2)
def jU (s:T.St):A Nt×T.St:=qU T.mt (zr 3 s).1 (zr 3 s).2
def T.tg (s:T.St):(A Ab×Ak)×T.St:=
 (((zj s).1,(xa (zj s).2).1),qP (xa (zj s).2).2 (Hf (zj s).1 && (decide (0<(xa (zj s).2).1) && decide ((xa (zj s).2).1<=1000))))
def jL (s:T.St):A (A Ab×Ak)×T.St:=qU T.tg (zr 4 s).1 (qP (zr 4 s).2 (decide (0<(zr 4 s).1)))
def T.st (s:T.St):(A Ab×A Ab)×T.St:=(((zj s).1,(ki (zj s).2).1),(ki (zj s).2).2)
def vE (s:T.St):A (A Ab×A Ab)×T.St:=qU T.st (zr 3 s).1 (zr 3 s).2
def uQ (s:T.St):A (A Ab)×T.St:=qU zj (zr 3 s).1 (zr 3 s).2
def jf:A (A Ab)->A (A Ab)->T.St->T.St
 |_,[],s=>s
 |am,x::r,s=>jf (am++[x]) r (am.foldl (fun s a=>qP s (decide (x≠a))) (qP s (Ft x false)))
def xE (s:T.St):(A (A Ab×A Ab)×A (A Ab))×T.St:=
 (((vE s).1,(uQ (vE s).2).1),jf [] ((vE s).1.map Bq++(uQ (vE s).2).1) (uQ (vE s).2).2)
def yv (s:T.St):A Ab×T.St:=((zj s).1,qP (zj s).2 (Hp (zj s).1))
def T.to (s:T.St):(Ee×A Ab)×T.St:=
 if (zr 1 s).1=1 then ((true,(yv (zr 1 s).2).1),(yv (zr 1 s).2).2) else ((false,[]),(zr 1 s).2)
def jE (s : T.St) : Gn × T.St :=
  (⟨(xa s).1, (yv (xa s).2).1, (jU (yv (xa s).2).2).1, (jL (jU (yv (xa s).2).2).2).1, (T.to (jL (jU (yv (xa s).2).2).2).2).1.1, (T.to (jL (jU (yv (xa s).2).2).2).2).1.2,
     (xE (T.to (jL (jU (yv (xa s).2).2).2).2).2).1.1, (xE (T.to (jL (jU (yv (xa s).2).2).2).2).2).1.2⟩,
   (xE (T.to (jL (jU (yv (xa s).2).2).2).2).2).2)
def yE:Ad->A Gn->T.St->A Gn×T.St
 |0,acc,s=>(acc,s)
 |n+1,acc,s=>if s.bad then (acc,s) else
  yE n (acc++[(jE s).1]) (qP (jE s).2 (match acc.getLast? with|none=>true|some x=>decide (x.number<(jE s).1.number)))
def yB (s:T.St)(acc:A Fp):A Ab×T.St:=
 ((zj s).1,qP (qP (zj s).2 (Hq (zj s).1 false)) (match acc.getLast? with|none=>true|some x=>qd x.name (zj s).1))
def yj:Ad->A Fp->T.St->A Fp×T.St
 |0,acc,s=>(acc,s)
 |n+1,acc,s=>if s.bad then (acc,s) else
  yj n (acc++[⟨(yB s acc).1,(yE (zr 6 (yB s acc).2).1 [] (zr 6 (yB s acc).2).2).1⟩]) (yE (zr 6 (yB s acc).2).1 [] (zr 6 (yB s acc).2).2).2
def wG (s:T.St):T.St:=
 qP (xD (xD (xD s).2).2).2 (decide ((xD s).1=83) && (decide ((xD (xD s).2).1=89) && decide ((xD (xD (xD s).2).2).1=49)))
def tL (b:A Ab):A Fp×T.St:=yj (zr 4 (wG ⟨b,false⟩)).1 [] (zr 4 (wG ⟨b,false⟩)).2
theorem iI (n:Ad)(r:A Ab)(h:n<=255):xD ⟨Cb n::r,false⟩=(n,⟨r,false⟩):=by grind[xD,u8n]
theorem jo (n m:Ad)(r:A Ab)(h:n<=m)(a:m<=255):zr m ⟨Cb n::r,false⟩=(n,⟨r,false⟩):=by grind[zr,iI]
theorem vi (s r:A Ab)(h:Z s<=24):zj ⟨zM s++r,false⟩=(s,⟨r,false⟩):=by grind[zr,zM,jo,zj]
theorem iJ (n:Ak)(r:A Ab)(h:0<=n/\n<=65535):xa ⟨qc n++r,false⟩=(n,⟨r,false⟩):=by grind[xD,qc,Cb,iI,xa]
theorem yx (s:T.St)(b:Ee)(h:b=true):qP s b=s:=by rw[h];rfl
theorem wK {α β:Type}(f:T.St->β×T.St)(g:α->A Ab)(c:α->β):∀(l:A α) (r:A Ab),(∀x∈l,∀r,f ⟨g x++r,false⟩=(c x,⟨r,false⟩))->qU f (Z l) ⟨(l.map g).flatten++r,false⟩=(l.map c,⟨r,false⟩)
 |[],r,_=>rfl
 |x::l,r,h=>by
  have e:((x::l).map g).flatten++r=g x++((l.map g).flatten++r):=by simp
  rw[e,Bb];unfold qU;rw[h x (by simp),wK f g c l r (fun y hy=>h y (by simp[hy]))]
  rfl
theorem zjL (m:P.Mt)(b:VMt m)(r:A Ab):T.mt ⟨K.mt m++r,false⟩=(mtOf m,⟨r,false⟩):=by
 obtain⟨d,c,a⟩:=m;have k:=b.name;have g:Gz a=true:=b.val;have h:zj ⟨K.mt ⟨d,c,a⟩++r,false⟩=(d,⟨(if c then 1::zM a else [0])++r,false⟩):=by
  unfold K.mt;rw[Bl];exact vi _ _ b.nl
 have j:wH ⟨K.mt ⟨d,c,a⟩++r,false⟩=(d,⟨(if c then 1::zM a else [0])++r,false⟩):=by
  unfold wH;rw[h,yx _ _ k]
 unfold T.mt;rw[j]
 cases c with
 |true=>
  have f:zr 1 ⟨1::zM a++r,false⟩=(1,⟨zM a++r,false⟩):=jo 1 1 _ (by omega) (by omega);have i:ki ⟨zM a++r,false⟩=(a,⟨r,false⟩):=by unfold ki;rw[vi _ _ b.vl,yx _ _ g]
  simp only[Gq];rw[f];simp only[Gq];rw[i];rfl
 |false=>
  have f:zr 1 ⟨[0]++r,false⟩=(0,⟨r,false⟩):=jo 0 1 _ (by omega) (by omega);have g:a=[]:=b.no rfl;simp only[Ct,Gj];rw[f,Aw (by simp),g];rfl
theorem zjR (t:A Ab×Ak)(a:VTg t)(r:A Ab):T.tg ⟨K.tg t++r,false⟩=(t,⟨r,false⟩):=by grind[zj,K.tg,qc,List.append_assoc,vi,T.tg,iJ,yx,VTg]
theorem zjQ (t:A Ab×A Ab)(a:VSt t)(r:A Ab):T.st ⟨K.st t++r,false⟩=(t,⟨r,false⟩):=by grind[zj,K.st,zM,List.append_assoc,vi,T.st,ki,yx,VSt]
theorem mW:∀(r c:A (A Ab)) (s:T.St),(∀x∈r,Ft x false=true)->(c++r).Pairwise (·≠·)->jf c r s=s
 |[],c,s,_,_=>rfl
 |x::r,c,s,hh,hp=>by
  have d:∀(l:A (A Ab)),(∀a∈l,x≠a)->l.foldl (fun s a=>qP s (decide (x≠a))) s=s:=fun l=>by
   induction l with
   |nil=>intro _;rfl
   |cons a l ih=>intro h;rw[Nu,yx _ _ (by simpa using h a (by simp))];exact ih (fun b hb=>h b (by simp[hb]))
  unfold jf;rw[yx s _ (hh x (by simp)),d c (fun a ha e=>by rw[Fx] at hp;exact hp.2.2 a ha x (by simp) e.symm)];exact mW r (c++[x]) s (fun y hy=>hh y (by simp[hy])) (by simpa using hp)
theorem zdV (x:P.Rl)(f:VRl x)(r:A Ab):jE ⟨qN x++r,false⟩=(toRl x,⟨r,false⟩):=by
 have e:qN x++r=qc x.number++(zM x.path++(Gc1 x.ms x.tg x.rep x.sets x.drops r)):=by
  unfold qN;simp only[Bl]
 have j:xa ⟨qN x++r,false⟩=(x.number,⟨zM x.path++(Gc1 x.ms x.tg x.rep x.sets x.drops r),false⟩):=by rw[e];exact iJ _ _ f.num
 have k:∀q,yv ⟨zM x.path++q,false⟩=(x.path,⟨q,false⟩):=fun q=>by unfold yv;rw[vi _ _ f.pl,yx _ _ f.path]
 have l:∀q,jU ⟨zR K.mt x.ms++q,false⟩=(x.ms.map mtOf,⟨q,false⟩):=fun q=>by
  have a:zr 3 ⟨zR K.mt x.ms++q,false⟩=(Z x.ms,⟨(x.ms.map K.mt).flatten++q,false⟩):=jo _ _ _ f.ml (by omega);unfold jU;rw[a];exact wK T.mt K.mt mtOf x.ms q (fun m hm r=>zjL m (f.ms m hm) r)
 have n:∀q,jL ⟨zR K.tg x.tg++q,false⟩=(x.tg,⟨q,false⟩):=fun q=>by
  have a:zr 4 ⟨zR K.tg x.tg++q,false⟩=(Z x.tg,⟨(x.tg.map K.tg).flatten++q,false⟩):=jo _ _ _ f.tl (by omega);have g:=Ox.2 f.t0;unfold jL;rw[a];simp only;rw[yx _ _ (by simpa using g)];have:=wK T.tg K.tg id x.tg q (fun m hm r=>zjR m (f.tg m hm) r);rw[List.map_id] at this;exact this
 have o:∀q,T.to ⟨f7 x.rep++q,false⟩=((decide (x.rep≠[]),x.rep),⟨q,false⟩):=fun q=>by
  unfold T.to f7
  by_cases h:x.rep=[]
  ·rw[Az h]
   have a:zr 1 ⟨[0]++q,false⟩=(0,⟨q,false⟩):=jo 0 1 _ (by omega) (by omega);rw[a,Aw (by simp),h];rfl
  ·rw[Aw h]
   have a:zr 1 ⟨1::zM x.rep++q,false⟩=(1,⟨zM x.rep++q,false⟩):=jo 1 1 _ (by omega) (by omega);have i:=f.rep.resolve_left h;rw[a,Az rfl];unfold yv;simp only;rw[vi _ _ i.2];simp only;rw[yx _ _ i.1];simp[h]
 have p:∀q,xE ⟨zR K.st x.sets++(zR zM x.drops++q),false⟩=((x.sets,x.drops),⟨q,false⟩):=fun q=>by
  have a:zr 3 ⟨zR K.st x.sets++(zR zM x.drops++q),false⟩=(Z x.sets,⟨(x.sets.map K.st).flatten++(zR zM x.drops++q),false⟩):=jo _ _ _ f.sl (by omega);have b:vE ⟨zR K.st x.sets++(zR zM x.drops++q),false⟩=(x.sets,⟨zR zM x.drops++q,false⟩):=by
   unfold vE;rw[a];have:=wK T.st K.st id x.sets (zR zM x.drops++q) (fun m hm r=>zjQ m (f.sets m hm) r);rw[List.map_id] at this;exact this
  have c:zr 3 ⟨zR zM x.drops++q,false⟩=(Z x.drops,⟨(x.drops.map zM).flatten++q,false⟩):=jo _ _ _ f.dl (by omega);have d:uQ ⟨zR zM x.drops++q,false⟩=(x.drops,⟨q,false⟩):=by
   unfold uQ;rw[c];have:=wK zj zM id x.drops q (fun m hm r=>vi m r (f.drops m hm).nl);rw[List.map_id] at this;exact this
  unfold xE;rw[b];simp only;rw[d];simp only;rw[mW _ [] _ (fun y hy=>by
   rcases Ea.1 hy with hy|hy
   ·obtain⟨z,s,rfl⟩:=Hr.1 hy;exact(f.sets z s).name
   ·exact(f.drops y hy).name) (by rw[Hc];exact f.once)]
 unfold jE;rw[j];simp only;rw[k];simp only;rw[l];simp only;rw[n];simp only;rw[o];simp only;rw[p]
 rfl
theorem me:∀(b:A P.Rl) (a:A P.Rl) (r:A Ab),(∀x∈b,VRl x)->((a++b).map P.Rl.number).Pairwise (·<·)->yE (Z b) (a.map toRl) ⟨(b.map qN).flatten++r,false⟩=((a++b).map toRl,⟨r,false⟩)
 |[],a,r,_,_=>by simp[yE]
 |x::b,a,r,hv,hp=>by
  have e:((x::b).map qN).flatten++r=qN x++((b.map qN).flatten++r):=by simp
  rw[e,Bb];unfold yE;rw[Aw (by simp),zdV x (hv x (by simp))];simp only;have d:(match (a.map toRl).getLast? with|none=>true|some y=>decide (y.number<(toRl x).number))=true:=by
   cases hl:(a.map toRl).getLast? with
   |none=>rfl
   |some y=>
    have c:=List.mem_of_getLast? hl;obtain⟨z,f,rfl⟩:=Hr.1 c;rw[Ef,Fx] at hp;have:=hp.2.2 z.number (Hh f) x.number (by simp);show decide (z.number<x.number)=true
    simpa using this
  rw[yx _ _ d];have:=me b (a++[x]) r (fun y c=>hv y (by simp[c])) (by simpa using hp);rw[Ef] at this
  simpa using this
theorem mX:∀(d:A P.Hst) (c:A P.Hst) (r:A Ab),(∀x∈d,VHst x)->((c++d).map P.Hst.name).Pairwise (fun a b=>qd a b=true)->yj (Z d) (c.map toR) ⟨(d.map qX).flatten++r,false⟩=((c++d).map toR,⟨r,false⟩)
 |[],c,r,_,_=>by simp[yj]
 |x::d,c,r,hv,hp=>by
  have f:=hv x (by simp);have e:((x::d).map qX).flatten++r=zM x.name++(zR qN x.rules++((d.map qX).flatten++r)):=by unfold qX;simp
  rw[e,Bb];unfold yj;have k:(match (c.map toR).getLast? with|none=>true|some y=>qd y.name x.name)=true:=by
   cases hl:(c.map toR).getLast? with
   |none=>rfl
   |some y=>
    have g:=List.mem_of_getLast? hl;obtain⟨z,l,rfl⟩:=Hr.1 g;rw[Ef,Fx] at hp;exact hp.2.2 z.name (Hh l) x.name (by simp)
  have i:yB ⟨zM x.name++(zR qN x.rules++((d.map qX).flatten++r)),false⟩ (c.map toR)=(x.name,⟨zR qN x.rules++((d.map qX).flatten++r),false⟩):=by
   unfold yB;rw[vi _ _ f.nl];simp only;rw[yx _ _ f.name,yx _ _ k]
  have j:zr 6 ⟨zR qN x.rules++((d.map qX).flatten++r),false⟩=(Z x.rules,⟨(x.rules.map qN).flatten++((d.map qX).flatten++r),false⟩):=jo _ _ _ f.rl (by omega);have h:=me x.rules [] ((d.map qX).flatten++r) f.rules (by rw[Hc];exact f.ord);rw[Fa,Hc] at h;rw[Aw (by simp),i];simp only;rw[j];simp only;rw[h];simp only;have:=mX d (c++[x]) r (fun y g=>hv y (by simp[g])) (by simpa using hp);rw[Ef] at this
  simpa[toR] using this
theorem mV (b:A P.Hst)(d:VHs b):(tL (x4 b)).1=b.map toR/\(tL (x4 b)).2.bad=false:=by
 have h:wG ⟨x4 b,false⟩=⟨zR qX b++xF (yg (xM b)),false⟩:=by
  have e:x4 b=83::89::49::(zR qX b++xF (yg (xM b))):=by unfold x4 xM;simp
  rw[e];unfold wG;have a:∀(c:Ab) q,xD ⟨c::q,false⟩=(c.toNat,⟨q,false⟩):=fun c q=>rfl
  rw[a,a,a];rfl
 have g:zr 4 ⟨zR qX b++xF (yg (xM b)),false⟩=(Z b,⟨(b.map qX).flatten++xF (yg (xM b)),false⟩):=jo _ _ _ d.hl (by omega);have f:=mX b [] (xF (yg (xM b))) d.hosts (by rw[Hc];exact d.ord);rw[Fa,Hc] at f;unfold tL;rw[h,g];simp only;rw[f];exact⟨rfl,rfl⟩
end Go.Proofs.YtfocdefchbnkpaaGreatDoor
