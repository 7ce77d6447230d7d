import Derived.Test.YtfocdefchbnkpaaGreatDoorRefS
import Derived.Lib.SlBytesConst
set_option maxRecDepth 100000
set_option maxHeartbeats 20000000
open Go renaming World->Ag,Calls->Am,maxLen->Bh,Value->Aj,info_parts->Ej,heap_alloc_new->Bn,Addr->Eu,wpList_append_own->Cu,convert->Oh,run_convert_bytes_back->Qb
open Go.ByteArray renaming toList_eq->El
open Go.Calls renaming mono->Oq
open Go.Ending renaming returned->Af
open Go.IntKind renaming i64->Ai,u8->Bp
open Go.Lib renaming byteCells->Ba,byteCells_append->Hl,bytesWorld->Na
open Go.Obj renaming cells->Ae
open Go.Proofs.YtfocdefchbnkpaaGreatDoor.R renaming value->Gz,header->Ft,path->Hp,Hst->Fp,plain->Ic,str->Aa,decI->Hz,lnTgs->Ho,lnTg->Hv,decI_len->Sl,q_len->Fy,flat_len->Od,q->Fi,str_toList->Be,str_size->Bz,lines->Fu,lnMt->Gg,lnSet->Em,lnDrop->Cz,SmallH->Qn,hostLines->Ex,readS->Gw,size_eq->Cp
open Go.RowKit renaming wrap64->Sv
open Go.Sort renaming ltStr->Iy,ltInt->Mw,grow->Vt
open Go.Value renaming slice->X,string->I,pointer->Al,int->O,tuple->Cm,agg->Fe,bool->Av
open Go.Value.slice renaming injEq->Au
open Go.World renaming grownBy_alloc->Ac,ownsRow->Ib,drew->Md,setCell->Bs,ownsRow_nil->Bk
open Go.World.ownsRow renaming lt->An,cellAt->Ap,form->Bm,alloc->Ao
open List renaming length->Z
open Option renaming some->V,none->S
open Or renaming inl->Ay,inr->Bf
open UInt8 renaming ofNat->Cb
open _root_ renaming List->A,UInt8->Ab,Nat->Ad,Int->Ak,ByteArray->As,Option->Br
namespace Go.Proofs.YtfocdefchbnkpaaGreatDoor
open Go.RowKit Tryz
variable {b l:A Ab}
theorem zbE {a:A Ab}(c:Iy b a=false)(d:a≠b):qd a b=true:=by grind[yc,pE,qd]
theorem zbD {a:A Ab}(h:qd a b=true):Iy b a=false:=by
 rw[yc] at h;exact Go.Sort.SWO.asymmA Go.Sort.swo_ltStr h
variable {α:Type}
theorem ziE {R b_0:α->α->Prop}{l:A α}(c:l.Pairwise R)(d:l.Pairwise b_0):l.Pairwise (fun a b=>R a b/\b_0 a b):=by
 induction l <;> simp_all
theorem dt {g c:A P.Hst}(h:SrtH g c)(w:Z g<=4)(z:∀x∈g,UHst x)(t:(g.map P.Hst.name).Pairwise (·≠·)):VHs c:=by
 obtain⟨p,i,s,l,m⟩:=h;have y:c.map P.Hst.name=p.map P.Hst.name:=by
  apply Xj
  ·simp[l]
  ·intro j o q
   simp only[Ha];exact(m j (by simpa using q) (by simpa using o)).1
 have d:(p.map P.Hst.name).Pairwise (·≠·):=(i.map P.Hst.name).symm.pairwise t (fun e=>fun e'=>e e'.symm);refine⟨by rw[l,i.length_eq];exact w,?_,fun x hx=>?_⟩
 ·rw[y,Ma]
  rw[Ma] at d;exact(ziE s d).imp fun⟨a,b⟩=>zbE a b
 ·obtain⟨j,v,rfl⟩:=List.getElem_of_mem hx
  obtain⟨n,k,B⟩:=m j (by omega) v;have u:=z _ (i.mem_iff.1 (Cr (by omega:j<Z p)));have f:(c[j].rules.map P.Rl.number).Pairwise (·≠·):=(k.map P.Rl.number).symm.pairwise u.once (fun e=>fun e'=>e e'.symm);refine⟨by rw[n];exact u.name,by rw[n];exact u.nl,by rw[k.length_eq];exact u.rl,?_,fun r hr=>u.rules r (k.mem_iff.1 hr)⟩;rw[Ma] at f ⊢;refine(ziE B f).imp fun⟨a,b⟩=>?_
  unfold Mw at a;simp at a;omega
theorem zc7 {a b:A P.Rl}(g:b.Perm a)(i:b.Pairwise (fun x y=>Mw y.number x.number=false))(c:(a.map P.Rl.number).Pairwise (·<·)):b=a:=by
 refine Sd (le:=fun x y=>Mw y.number x.number=false) ?_ i ?_ g
 ·intro x y j k d f
  have e:x.number=y.number:=by unfold Mw at d f;simp at d f;omega
  exact vQ a (c.imp fun h=>by omega) (g.mem_iff.1 j) k e
 ·rw[Ma] at c
  exact c.imp fun h=>by unfold Mw;simp;omega
theorem ziV {d c:A P.Hst}(k:VHs d)(h:SrtH d c):c=d:=by
 obtain⟨p,l,n,o,q⟩:=h;have i:p=d:=by
  refine Sd (le:=fun x y=>Iy y.name x.name=false) ?_ n ?_ l
  ·intro x y r s g f
   have e:x.name=y.name:=pE _ _ f g;refine vQ d (k.ord.imp fun {a b} h e=>?_) (l.mem_iff.1 r) s e;subst e;rw[tO] at h;cases h
  ·have:=k.ord
   rw[Ma] at this;exact this.imp fun h=>zbD h
 subst i
 apply Xj
 ·exact o
 ·intro j g f
  obtain⟨m,t,u⟩:=q j f g;have v:=k.hosts p[j] (Cr f);have e:=zc7 t u v.ord;generalize c[j]=a at*;generalize p[j]=b at*;obtain⟨w,z⟩:=a;obtain⟨B,C⟩:=b;simp only at m e;rw[m,e]
variable {s:T.St}
theorem iF (h:(xD s).2.bad=false):s.bad=false/\(xD s).1<=255:=by
 unfold xD at h ⊢
 cases hr:s.rest with
 |nil=>rw[hr] at h;cases h
 |cons c r=>rw[hr] at h;exact⟨h,by have:=c.toNat_lt;simp only;omega⟩
theorem vI {m:Ad}(h:(zr m s).2.bad=false):s.bad=false/\(zr m s).1<=m:=by grind[zr,iF,T.St]
theorem kI (h:(zj s).2.bad=false):s.bad=false/\(Z (zj s).1)<=24:=by grind[zj,vI,List.length_take,T.St]
theorem iH {s:T.St}(h:(xa s).2.bad=false):s.bad=false/\0<=(xa s).1/\(xa s).1<=65535:=by grind[iF,xD,T.St,xa]
theorem yy {b:Bool}(h:(qP s b).bad=false):s.bad=false/\b=true:=by grind[T.St,qP]
theorem wJ {α:Type}(f:T.St->α×T.St)(b_0:α->Prop)(g:∀s,(f s).2.bad=false->s.bad=false/\b_0 (f s).1):∀(n:Ad) (s:T.St),(qU f n s).2.bad=false->s.bad=false/\(Z (qU f n s).1)=n/\∀x∈(qU f n s).1,b_0 x
 |0,s,h=>⟨h,rfl,fun x hx=>by cases hx⟩
 |n+1,s,h=>by
  obtain⟨a,b,c⟩:=wJ f b_0 g n (f s).2 (show(qU f n (f s).2).2.bad=false from h);obtain⟨d,e⟩:=g s a;refine⟨d,by show(Z (_::_))=_;rw[Bb,b],fun x hx=>?_⟩;rcases En.1 hx with rfl|hx
  ·exact e
  ·exact c x hx
theorem iE (h:(ki s).2.bad=false):s.bad=false/\Gz (ki s).1=true/\(Z (ki s).1)<=24:=by grind[yy,qP,zj,Gz,kI,T.St,ki]
theorem zjM (s:T.St)(h:(T.mt s).2.bad=false):s.bad=false/\∃m,VMt m/\(T.mt s).1=mtOf m:=by
 have g:∀(hh:(wH s).2.bad=false),s.bad=false/\Ft (wH s).1 false=true/\(Z (wH s).1)<=24:=fun hh=>by
  obtain⟨a,b⟩:=yy (show(qP (zj s).2 (Ft (zj s).1 false)).bad=false from hh);obtain⟨c,d⟩:=kI a;exact⟨c,b,d⟩
 unfold T.mt at h ⊢
 by_cases i:(zr 1 (wH s).2).1=1
 ·rw[Az i] at h ⊢
  obtain⟨a,b,c⟩:=iE h;obtain⟨d,e,f⟩:=g (vI a).1;generalize(ki (zr 1 (wH s).2).2).1=vl at*;generalize(wH s).1=nm at*;refine⟨d,⟨nm,true,vl⟩,?_,rfl⟩;exact { name:=e,nl:=f,val:=b,vl:=c,no:=fun h=>by cases h }
 ·rw[Aw i] at h ⊢
  obtain⟨d,e,f⟩:=g (vI h).1;generalize(wH s).1=nm at*;refine⟨d,⟨nm,false,[]⟩,?_,rfl⟩;exact { name:=e,nl:=f,val:=rfl,vl:=Ax _,no:=fun _=>rfl }
theorem sD {α β:Type}(c:α->β)(b_0:α->Prop):∀(l:A β),(∀x∈l,∃a,b_0 a/\x=c a)->∃d:A α,l=d.map c/\∀a∈d,b_0 a
 |[],_=>⟨[],rfl,fun a h=>by cases h⟩
 |x::l,h=>by
  obtain⟨d,e,g⟩:=sD c b_0 l (fun y hy=>h y (by simp[hy]));obtain⟨a,i,f⟩:=h x (by simp);exact⟨a::d,by rw[e,f];rfl,fun b hb=>by rcases En.1 hb with rfl|hb;exact i;exact g b hb⟩
theorem zgR {s:T.St}(h:(jU s).2.bad=false):s.bad=false/\∃f:A P.Mt,(jU s).1=f.map mtOf/\(Z f)<=3/\∀m∈f,VMt m:=by
 obtain⟨a,b,c⟩:=wJ T.mt (fun x=>∃m,VMt m/\x=mtOf m) zjM _ _ h;obtain⟨d,e⟩:=vI a;obtain⟨f,g,j⟩:=sD mtOf VMt _ c;refine⟨d,f,g,?_,j⟩;have i:=congrArg Z g;rw[Bv] at i;rw[<-i,b];exact e
theorem zjO (s:T.St)(h:(T.tg s).2.bad=false):s.bad=false/\VTg (T.tg s).1:=by
 obtain⟨a,b⟩:=yy (show(qP (xa (zj s).2).2 _).bad=false from h);obtain⟨c,_⟩:=iH a;obtain⟨d,e⟩:=kI c;simp only[Ez,Gd] at b;exact⟨d,b.1,e,by have:=b.2.1;show 1<=(xa (zj s).2).1;omega,b.2.2⟩
theorem zgS {s:T.St}(h:(jL s).2.bad=false):s.bad=false/\(jL s).1≠[]/\(Z (jL s).1)<=4/\∀t∈(jL s).1,VTg t:=by
 obtain⟨a,b,c⟩:=wJ T.tg VTg zjO _ _ h;obtain⟨d,e⟩:=yy a;obtain⟨f,g⟩:=vI d;have i:Z (jL s).1=(zr 4 s).1:=b;refine⟨f,fun e2=>?_,by rw[i];exact g,c⟩;rw[e2] at i;simp at e i;omega
theorem zjN (s:T.St)(h:(T.st s).2.bad=false):s.bad=false/\(Z (T.st s).1.1)<=24/\Gz (T.st s).1.2=true/\(Z (T.st s).1.2)<=24:=by grind[iE,ki,zj,kI,T.St,T.st,Gz]
theorem mZ:∀(r b:A (A Ab)) (s:T.St),(jf b r s).bad=false->b.Pairwise (·≠·)->s.bad=false/\(∀x∈r,Ft x false=true)/\(b++r).Pairwise (·≠·)
 |[],b,s,h,hp=>⟨h,(fun x hx=>by cases hx),by rw[Cv];exact hp⟩
 |x::r,b,s,h,hp=>by
  have f:∀(l:A (A Ab)) (s:T.St),(l.foldl (fun s a=>qP s (decide (x≠a))) s).bad=false->s.bad=false/\x ∉ l:=fun l=>by
   induction l with
   |nil=>intro s h;exact⟨h,by simp⟩
   |cons a l ih=>
    intro s h;rw[Nu] at h;obtain⟨g,i⟩:=ih _ h;obtain⟨j,k⟩:=yy g;exact⟨j,by simp only[En,not_or];exact⟨by simpa using k,i⟩⟩
  unfold jf at h;have z:(b.foldl (fun s a=>qP s (decide (x≠a))) (qP s (Ft x false))).bad=false->s.bad=false/\Ft x false=true/\x ∉ b:=fun hh=>by
   obtain⟨m,n⟩:=f b _ hh;obtain⟨o,p⟩:=yy m;exact⟨o,p,n⟩
  have d:∀(r b:A (A Ab)) (s:T.St),(jf b r s).bad=false->s.bad=false:=fun r=>by
   induction r with
   |nil=>intro b s h;exact h
   |cons y r ih=>
    intro b s h;unfold jf at h;have B:=ih _ _ h;have c:∀(l:A (A Ab)) (s:T.St),(l.foldl (fun s a=>qP s (decide (y≠a))) s).bad=false->s.bad=false:=fun l=>by
     induction l with
     |nil=>intro s h;exact h
     |cons a l ih=>intro s h;rw[Nu] at h;exact(yy (ih _ h)).1
    exact(yy (c b _ B)).1
  obtain⟨q,t,u⟩:=z (d r _ _ h);obtain⟨_,v,w⟩:=mZ r (b++[x]) _ h (cm hp u);exact⟨q,fun y hy=>by rcases En.1 hy with rfl|hy;exact t;exact v y hy,by simpa using w⟩
abbrev Gje (a):=qU zj (zr 3 (vE a).2).1 (zr 3 (vE a).2).2
theorem zaS {s:T.St}(h:(xE s).2.bad=false):s.bad=false/\(Z (xE s).1.1)<=3/\(∀x∈(xE s).1.1,VSt x)/\(Z (xE s).1.2)<=3/\(∀x∈(xE s).1.2,VDp x)/\((xE s).1.1.map Prod.fst++(xE s).1.2).Pairwise (·≠·):=by
 obtain⟨c,a,b⟩:=mZ _ [] _ (show(jf [] ((vE s).1.map Prod.fst++(uQ (vE s).2).1) (uQ (vE s).2).2).bad=false from h) .nil;obtain⟨d,f,g⟩:=wJ zj (fun x=>Z x<=24) (fun s h=>kI h) _ _ (show(Gje s).2.bad=false from c);obtain⟨i,j⟩:=vI d;obtain⟨k,l,m⟩:=wJ T.st (fun x=>Z x.1<=24/\Gz x.2=true/\(Z x.2)<=24) zjN _ _ (show(qU T.st (zr 3 s).1 (zr 3 s).2).2.bad=false from i);obtain⟨n,o⟩:=vI k;refine⟨n,?_,fun x hx=>?_,?_,fun x hx=>?_,by rw[Hc] at b;exact b⟩
 ·show(Z (qU T.st (zr 3 s).1 (zr 3 s).2).1)<=3;rw[l];exact o
 ·obtain⟨p,q,r⟩:=m x hx
  exact⟨a x.1 (Mo _ (Hh hx)),p,q,r⟩
 ·show(Z (Gje s).1)<=3;rw[f];exact j
 ·exact⟨a x (Mh _ hx),g x hx⟩
theorem iG {s:T.St}(h:(yv s).2.bad=false):s.bad=false/\Hp (yv s).1=true/\(Z (yv s).1)<=24:=by grind[yy,qP,zj,Hp,kI,T.St,yv]
theorem zkJ {s:A Ab}(h:Hp s=true):s≠[]:=by
 intro e;subst e;revert h;decide
theorem zjP {s:T.St}(h:(T.to s).2.bad=false):s.bad=false/\(T.to s).1.1=decide ((T.to s).1.2≠[])/\((T.to s).1.2=[]\/(Hp (T.to s).1.2=true/\(Z (T.to s).1.2)<=24)):=by grind[T.to,zr,iG,vI,zkJ,T.St,Hp]
theorem zdU (h:(jE s).2.bad=false):s.bad=false/\∃x,VRl x/\(jE s).1=toRl x:=by
 have n:=@iH s;unfold jE at h ⊢;generalize xa s=a at*;have o:=@iG a.2;generalize yv a.2=b at*;have p:=@zgR b.2;generalize jU b.2=c at*;have q:=@zgS c.2;generalize jL c.2=d at*;have r:=@zjP d.2;generalize T.to d.2=e at*;have t:=@zaS e.2;generalize xE e.2=f at*;simp only at h;obtain⟨g,i,j,k,l,m⟩:=t h;obtain⟨C,E,F⟩:=r g;obtain⟨t1,t2,t3,t4⟩:=q C;obtain⟨u,ms,v,w,y⟩:=p t1;obtain⟨H,N,Q⟩:=o u;obtain⟨z,B⟩:=n H;refine⟨z,⟨a.1,b.1,ms,d.1,e.1.2,f.1.1,f.1.2⟩,?_,?_⟩
 ·exact { num:=B,path:=N,pl:=Q,ml:=w,ms:=y,t0:=t2,tl:=t3,tg:=t4,rep:=F,sl:=i,sets:=j,dl:=k,drops:=l,once:=m }
 ·unfold toRl rlOf
  simp only;rw[v,E]
theorem bT:∀(n:Ad) (a:A R.Rl) (s:T.St),(yE n a s).2.bad=false->s.bad=false
 |0,a,s,h=>h
 |n+1,a,s,h=>by
  unfold yE at h
  by_cases b:s.bad=true
  ·rw[Az b] at h;exact h
  ·simpa using b
theorem md:∀(n:Ad) (a:A P.Rl) (s:T.St),(yE n (a.map toRl) s).2.bad=false->(∀x∈a,VRl x)->(a.map P.Rl.number).Pairwise (·<·)->∃b:A P.Rl,(yE n (a.map toRl) s).1=b.map toRl/\(Z b)<=Z a+n/\(∀x∈b,VRl x)/\(b.map P.Rl.number).Pairwise (·<·)
 |0,a,s,_,hv,hp=>⟨a,rfl,by omega,hv,hp⟩
 |n+1,a,s,h,hv,hp=>by
  unfold yE at h ⊢
  by_cases c:s.bad=true
  ·rw[Az c] at h;rw[h] at c;cases c
  ·rw[Aw c] at h ⊢
   obtain⟨i,d⟩:=yy (bT _ _ _ h);obtain⟨_,x,r,g⟩:=zdU i;rw[g] at h ⊢;have e:a.map toRl++[toRl x]=(a++[x]).map toRl:=by simp
   rw[e] at h ⊢;have f:((a++[x]).map P.Rl.number).Pairwise (·<·):=by
    rw[Ef,Fx];refine⟨hp,by simp,fun y hy z hz=>?_⟩;simp only[Er,Fa,Si] at hz;subst hz;rw[g] at d;rcases Xk a with rfl|⟨l,q,rfl⟩
    ·cases hy
    ·rw[Og,Ef,Er,Fa,List.getLast?_concat] at d
     have t:q.number<x.number:=by have p:(toRl q).number<(toRl x).number:=by { simpa using d };exact p
     rw[Og,Ef,Fx] at hp;rw[Og,Ef,Ea] at hy;rcases hy with hy|hy
     ·have:=hp.2.2 y hy q.number (by simp);omega
     ·simp at hy;omega
   obtain⟨b,j,k,m,o⟩:=md n (a++[x]) _ h (fun y hy=>by rcases Ea.1 hy with hy|hy;exact hv y hy;simp at hy;rw[hy];exact r) f;exact⟨b,j,by simp at k;omega,m,o⟩
theorem bS:∀(n:Ad) (a:A Fp) (s:T.St),(yj n a s).2.bad=false->s.bad=false
 |0,a,s,h=>h
 |n+1,a,s,h=>by
  unfold yj at h
  by_cases b:s.bad=true
  ·rw[Az b] at h;exact h
  ·simpa using b
theorem aO {a c:A Ab}(d:qd a b=true)(f:qd b c=true):qd a c=true:=by
 rw[yc] at *;exact Go.Sort.swo_ltStr.trans _ _ _ d f
theorem tY:∀(n:Ad) (c:A P.Hst) (s:T.St),(yj n (c.map toR) s).2.bad=false->(∀x∈c,VHst x)->(c.map P.Hst.name).Pairwise (fun a b=>qd a b=true)->∃f:A P.Hst,(yj n (c.map toR) s).1=f.map toR/\(Z f)<=Z c+n/\(∀x∈f,VHst x)/\(f.map P.Hst.name).Pairwise (fun a b=>qd a b=true)
 |0,c,s,_,hv,hp=>⟨c,rfl,by omega,hv,hp⟩
 |n+1,c,s,h,hv,hp=>by
  unfold yj at h ⊢
  by_cases g:s.bad=true
  ·rw[Az g] at h;rw[h] at g;cases g
  ·rw[Aw g] at h ⊢
   have o:=bS _ _ _ h;obtain⟨d,E,F,H,N⟩:=md (zr 6 (yB s (c.map toR)).2).1 [] (zr 6 (yB s (c.map toR)).2).2 o (fun x hx=>by cases hx) .nil;obtain⟨Q,f2⟩:=vI (bT _ _ _ o);obtain⟨p,k⟩:=yy (show(qP (qP (zj s).2 (R.named (zj s).1 false)) _).bad=false from Q);obtain⟨r,t⟩:=yy p;obtain⟨_,u⟩:=kI r;have hA:(yB s (c.map toR)).1=(zj s).1:=rfl;have i:(yE (zr 6 (yB s (c.map toR)).2).1 [] (zr 6 (yB s (c.map toR)).2).2).1=d.map toRl:=E;rw[hA,i] at h ⊢;generalize(zj s).1=nm at*;have e:c.map toR++[(⟨nm,d.map toRl⟩:Fp)]=(c++[(⟨nm,d⟩:P.Hst)]).map toR:=by simp[toR]
   rw[e] at h ⊢;have vx:VHst ⟨nm,d⟩:=⟨t,u,by simp at F;show (Z d)<=6;omega,N,H⟩;have j:((c++[(⟨nm,d⟩:P.Hst)]).map P.Hst.name).Pairwise (fun a b=>qd a b=true):=by
    rw[Ef,Fx];refine⟨hp,by simp,fun y hy z hz=>?_⟩;simp only[Er,Fa,Si] at hz;rw[hz];rcases Xk c with rfl|⟨l,q,rfl⟩
    ·cases hy
    ·rw[Og,Ef,Er,Fa,List.getLast?_concat] at k
     have m:=k;rw[Og,Ef,Fx] at hp;rw[Og,Ef,Ea] at hy;rcases hy with hy|hy
     ·exact aO (hp.2.2 y hy q.name (by simp)) m
     ·simp at hy;rw[hy];exact m
   obtain⟨f,v,w,B,C⟩:=tY n (c++[⟨nm,d⟩]) _ h (fun y hy=>by rcases Ea.1 hy with hy|hy;exact hv y hy;simp at hy;rw[hy];exact vx) j;exact⟨f,v,by simp at w;omega,B,C⟩
theorem zgQ (h:(tL b).2.bad=false):∃hs,VHs hs/\(tL b).1=hs.map toR:=by
 obtain⟨g,a,c,d,f⟩:=tY (zr 4 (wG ⟨b,false⟩)).1 [] (zr 4 (wG ⟨b,false⟩)).2 h (fun x hx=>by cases hx) .nil
 grind[tY,zr,wG,vI,bS,tL,VHs,toR]
abbrev Gjd (a):=zp (Ic ((jM a).map toR))
theorem zgH {a:A P.Hst}(d:VHs a)(c:x4 a=b):jM b=a/\(Gjd b).1=a/\(Gjd b).2.broken=false/\(Gjd b).2.err=0/\∀hs',SrtH a hs'->hs'=a:=by grind[jM,mf,zbX,ziV,P.Hst,VHs,x4,zp,Ic,toR,SrtH]
theorem zdP:(prog).cellsOf 5=1:=by kernel_rfl
variable {w w':Ag}{op:Ak}
theorem oL {d:Ad}(h:WInv w d l op)(m:l≠[]):Am prog 69 #[Al (V ⟨d,0,S⟩)] w fun e w'=>e=Af (I (Aa l))/\Kept d wtags w w':=by
 obtain⟨p,v,o,c⟩:∃p v,w.heap[d]?=V (Ae #[p,v,O Ai op] 143 (0,0))/\w.ownsRow (d+1) 5 1 v (Z l) (Ba l):=by
  rcases h with ⟨v,n,h2⟩|⟨v,n,h2⟩
  ·exact⟨_,v,n,h2⟩
  ·exact⟨_,v,n,h2⟩
 have t:Z l≠0:=by simpa using m
 obtain⟨g,a,b,rfl,N,B,aa,q,Q,i⟩:∃g a b,v=X (V ⟨g,0,S⟩) (Z l) a/\d+1<=g/\w.heap[g]?=V (Ae b 5 (0,0))/\(Z l)<=a/\a<=Bh/\b.size=a*1/\b.toList.take (Z l*1)=Ba l:=by
  rcases c.2 with ⟨_,hz⟩|⟨g,a,b,hv,r⟩
  ·exact absurd hz t
  ·exact⟨g,a,b,hv,r⟩
 have c1:w.drew.cell? ⟨d,1,S⟩=V (X (V ⟨g,0,S⟩) (Z l) a):=by
  have n:=o;exact zB n
 have F:(Builtin.unsafeSliceData_ #[32] 215 #[X (V ⟨g,0,S⟩) (Z l) a]).run prog w.drew = .ok (Al (V ⟨g,0,S⟩)) w.drew:=
  Lib.run_unsafeSliceData_row _ _ _ _ _ _ (by omega)
 have H:(Builtin.unsafeString_ #[215,3] 9 #[Al (V ⟨g,0,S⟩),O Ai (Z l)]).run prog w.drew = .ok (I ⟨l.toArray⟩) (w.drew.freeze ⟨g,0,S⟩ (Z l)):=by
  refine Lib.run_unsafeString_row w.drew 215 3 9 5 underlying215 zdP g b.size (by have s:w.drew.heap[g]?=V (.cells b 5 (0,0)):=B;simp[World.shape?,s]) l m (by omega) (by unfold Bh at q;omega) ?_;intro j x hx;have:=c.cells (g:=g) rfl j (O Bp x.toNat) (by simp[Ba,hx]);exact this
 have E:Y (Kept d wtags w (w.drew.freeze ⟨g,0,S⟩ (Z l))):=by
  have u:∀k,k≠g->(w.drew.freeze ⟨g,0,S⟩ (Z l)).heap[k]?=w.heap[k]?:=by
   intro k C;show((w.drew).freeze ⟨g,0,S⟩ (Z l)).heap[k]?=(w.drew).heap[k]?;generalize w.drew=wd;simp[World.freeze,m,Sy,Ne.symm C]
  have y:w.heap.size<=(w.drew.freeze ⟨g,0,S⟩ (Z l)).heap.size:=by
   show(w.drew).heap.size<=_;generalize w.drew=wd;simp[World.freeze,m]
  have f:(w.drew.freeze ⟨g,0,S⟩ (Z l)).os=w.os/\(w.drew.freeze ⟨g,0,S⟩ (Z l)).tape=w.tape/\(w.drew.freeze ⟨g,0,S⟩ (Z l)).output=w.output:=by
   show _=(w.drew).os/\_=(w.drew).tape/\_=(w.drew).output;generalize w.drew=wd;simp[World.freeze,m]
  refine⟨f.1,f.2.1,f.2.2,y,fun k C ht=>u k (fun e=>?_)⟩;subst e;rcases ht with ht|ht
  ·omega
  ·exact ht _ _ _ B (by decide)
 have z:(prog).follows Departure.mixedOrders=true:=by kernel_rfl
 go_in;go_wp2
 go_region_o
 all_goals (go_wp2;go_ret;exact⟨rfl,E.o⟩)
theorem eG {b:Ad}{p:Aj}(a:w.heap[b]?=V (Ae #[p,X S 0 0,O Ai op] 143 (0,0))):Am prog 69 #[Al (V ⟨b,0,S⟩)] w fun e w'=>e=Af (I (Aa []))/\Kept b wtags w w':=by
 have i:w.drew.cell? ⟨b,1,S⟩=V (X S 0 0):=by
  have f:=a;exact zB f
 have g:(Builtin.unsafeSliceData_ #[32] 215 #[X S 0 0]).run prog w.drew = .ok (Al S) w.drew:=rfl;have h:∀W:Ag,(Builtin.unsafeString_ #[215,3] 9 #[Al S,O Ai 0]).run prog W = .ok (I ⟨#[]⟩) W:=fun W=>by kernel_rfl
 have c:(prog).follows Departure.mixedOrders=true:=by kernel_rfl
 have d:Y (Kept b wtags w w.drew):=xJ (zV _);go_in;go_wp2
 go_region_o
 all_goals (go_wp2;go_ret;exact⟨rfl,d.o⟩)
def GT (w:Ag):Prop:=Lib.TabIs prog w "internal/strconv.uint64pow10" .u64 Lib.pow10Tab
theorem GT.block (h:GT w):∃g,(prog).globalNamed "internal/strconv.uint64pow10" = V g/\g<w.heap.size:=by
 unfold GT Lib.TabIs World.var? at h
 cases hg:(prog).globalNamed "internal/strconv.uint64pow10" <;> grind[GT,Array.getElem?_eq_none]
theorem GT.same (h:GT w)(a:∀g,(prog).globalNamed "internal/strconv.uint64pow10" = V g->w'.heap[g]?=w.heap[g]?):GT w':=by
 unfold GT Lib.TabIs World.var? at*
 cases hg:(prog).globalNamed "internal/strconv.uint64pow10" <;> grind[GT]
theorem GT.grown (h:GT w)(b:w.grownBy w' S):GT w':=h.same fun g e=>by
 obtain⟨d,a,c⟩:=h.block;obtain rfl:=Bc (e.symm.trans a);exact b.block g c (by simp)
def GTB (B:Ad):Prop:=∀g,(prog).globalNamed "internal/strconv.uint64pow10" = V g->g<B
theorem GT.bound (h:GT w):GTB w.heap.size:=fun g e=>by
 obtain⟨c,a,b⟩:=h.block;obtain rfl:=Bc (e.symm.trans a);exact b
variable {B n a:Ad}
theorem GT.kept {l:A TypeId}(h:GT w)(b:Kept B l w w')(a:GTB B):GT w':=h.same fun g e=>b.block g (h.bound g e) (Ay (a g e))
theorem nA (w:Ag)(k:Ad)(a:Array Obj):w.grownBy (Vt (w.drewN k) a) S:=by
 refine zD (jP w k) ?_;generalize w.drewN k=u;exact⟨rfl,rfl,rfl,by simp[Vt],fun j hj _=>by simp[Vt,Qr hj]⟩
theorem lv (a:GT w)(n:Ak)(b:0<=n/\n<=99999):Am prog 159 #[O Ai n] w fun e w'=>e=Af (I (Aa (Hz n)))/\w.grownBy w' S:=by
 refine(Tryz.strconv_Itoa n (by omega) (by omega) w a).mono ?_;rintro e w' ⟨rfl,k,c,rfl⟩;refine⟨?_,nA w k c⟩;rw[zhJ n b.1];rfl
theorem zdE (l:A (A Ab×Ak))(b:∀t∈l,Z t.1<=3000/\0<=t.2/\t.2<=99999):Z (Ho l)<=Z l*3200:=by
 have a:∀t∈l,Z (Hv t)<=3100:=fun t a=>by
  have h:=b t a;have f:=Sl t.2 h.2;unfold Hv;simp only[Ah,Fy,Bb,Bu];omega
 cases l with
 |nil=>simp[Ho]
 |cons t l=>
  have c:=a t (by simp);have d:Z (l.map fun u=>[44,32]++Hv u).flatten<=Z l*3200:=Od _ _ _ (fun u hu=>by
   have:=a u (by simp[hu]);simp only[Ah,Bb,Bu];omega)
  unfold Ho;rw[Ah,Bb,Sr];omega
theorem rE (l:A (A Ab))(x:A Ab):zY (l++[x])=zY l++[I (Aa x)]:=by simp[zY]
theorem zcF (x:A Ab)(n:Ak):Aa (Fi x)++(⟨#[32]⟩:As)++Aa (Hz n)=Aa (Hv (x,n)):=by
 apply ByteArray.ext
 simp[Aa,Hv]
abbrev Gj2 (a b):=Ae #[I (Aa a),O Ai b] 285
abbrev Gj8 (a b):=Aa (Fi a)++⟨#[32]⟩++Aa (Hz b)
theorem zbS (l:A (A Ab×Ak))(v:Aj)(p:w.ownsRow 0 285 2 v (Z l) (zx l))(hn:Z l<=4000)
  (hs:∀t∈l,Z t.1<=3000/\0<=t.2/\t.2<=99999) (hT:GT w):Am prog 161 #[v] w fun e w'=>e=Af (I (Aa (Ho l)))/\w.grownBy w' S:=by
 obtain⟨i0,hi,ah,ai,aj⟩:=Ej fW;obtain⟨va,vc,rfl⟩:=zL p;have HR:=J (p);have HS:=J (hs);have HT:=J (hT);have H:Y (∀W g a,w.grownBy W S->W.ownsRow w.heap.size 9 1 (X (V ⟨g,0,S⟩) (Z l) a) (Z l) (zY (l.map Hv))->Am prog 220 #[X (V ⟨g,0,S⟩) (Z l) a,I ⟨#[44,32]⟩] W fun e w'=>e=Af (I (Aa (Ho l)))/\w.grownBy w' S):=fun W g a hW ho=>by
  have e1:((l.map Hv).map Aa).map (fun b=>b.data.toList)=l.map Hv:=by
   rw[Ny];have:((fun b:As=>b.data.toList) ∘ Aa)=id:=by funext x;exact Be x
   rw[this,List.map_id]
  have hb:=(An ho g rfl).2;have hc:Z l<=a:=by
   rcases ho.2 with ⟨h,_⟩|⟨g',cap',cur,h,_,_,h3,_⟩
   ·cases h
   ·cases h;exact h3
  have h:=Tryz.strings_Join g 0 a ((l.map Hv).map Aa) ⟨#[44,32]⟩ W (fun j x hx=>by
   have hj:j<Z l:=by have:=(Bo.1 hx).1;simpa using this
   rw[Gr,Ap ho j (by omega)];unfold zY;rw[Fq] at hx ⊢
   cases hq:(l.map Hv)[j]? with
   |none=>rw[hq] at hx;cases hx
   |some y=>rw[hq] at hx;simp at hx ⊢;exact hx) hb (by simp;omega) (by simpa using hc) (by
    rw[e1];show(Z (Lib.join (l.map Hv) [44,32]))<=_;rw[l9];have:=zdE l hs;omega)
  rw[e1,show(⟨#[44,32]⟩:As).data.toList=[44,32] from rfl,l9,Bv,Bv] at h;exact Oq h fun e w' ⟨h1,h2⟩=>⟨h1,zD hW (zt h2)⟩
 go_in;go_wp2_with (at_make;refine wpList_make_own _ rfl _ _ 22 rfl w.heap.size 9 i0 (I ⟨#[]⟩) 1 underlying22 hi ah ai _ _ _ (Z l) rfl rfl (by omega) ?b2 ?b3 (Aq _) ?_)
 ·rw[aj];omega
 ·unfold Bh;omega
 intro w0 m d;have ad:=J (m);have aa:=J d;go_wp2
 go_loopw [3,11] (fun sv iv wr=>∃k:Ad,k<=Z l/\iv=O Ai k/\(∃g a,sv=X (V ⟨g,0,S⟩) k a/\Y (wr.ownsRow w.heap.size 9 1 (X (V ⟨g,0,S⟩) k a) k (zY ((l.take k).map Hv))))/\Y (w.grownBy wr S)) (fun _ iv _=>Z l-(intOf iv).toNat)
 ·exact⟨0,Ax _,rfl,⟨_,_,rfl,ad⟩,aa⟩
 ·
  obtain⟨k,hk,rfl,⟨g,a,rfl,HO⟩,N⟩:=hrel
  by_cases s:k<Z l
  ·have aC:(k:Ak)<Z l:=by omega
   obtain⟨gt,ax,ag,_,aB⟩:=Bm HR.o (by omega);simp only[Au] at ag;obtain⟨rfl,_,rfl⟩:=ag;have d0:wr.cell? ⟨gt,k*2,S⟩=V (I (Aa l[k].1)):=qY (fun t:A Ab×Ak=>[I (Aa t.1),O Ai t.2]) 2 (fun _=>rfl) HR.o N.o k 0 s (by omega) rfl;have d1:wr.cell? ⟨gt,k*2+1,S⟩=V (O Ai l[k].2):=qY (fun t:A Ab×Ak=>[I (Aa t.1),O Ai t.2]) 2 (fun _=>rfl) HR.o N.o k 1 s (by omega) rfl;have r:=HS.o l[k] (Cr s);have an:Y (zY ((l.take (k+1)).map Hv)=zY ((l.take k).map Hv)++[I (Aa (Hv l[k]))]):=by
    show _=_;rw[Co s,Ef,List.map_singleton,rE]
   generalize l[k]=t at*;obtain⟨x,n⟩:=t;simp only at d0 d1 r;have HN:=J (r.2);have zq:(Aa (Fi x)).size<=3002:=by rw[Bz,Fy];omega
   have zd:(Aa (Hz n)).size<=5:=by rw[Bz];exact Sl _ r.2
   have ay:¬(9223372036854775807<(Aa (Fi x)).size+1):=by omega
   have az:¬(9223372036854775807<(Aa (Fi x)).size+1+(Aa (Hz n)).size):=by omega
   have HQ:Y (∀W,Am prog 105 #[I (Aa x)] W fun e w'=>e=Af (I (Aa (Fi x)))/\w'=W):=fun W=>ye x W r.1
   have HI:Y (∀W,w.grownBy W S->Am prog 159 #[O Ai n] W fun e w'=>e=Af (I (Aa (Hz n)))/\W.grownBy w' S):=fun W hW=>lv (HT.o.grown hW) n HN.o
   have E:Y ((wr.alloc (Gj2 x n)).heap[wr.heap.size]?=V (Gj2 x n)):=Bn _ _;have F:Y (wr.grownBy (wr.alloc (Gj2 x n)) S):=Ac _ _ _;have aE:=N.o.size;have au:=J (zK HO.o F.o (fun k hk c=>by cases c));have ab:=J (zD N.o F.o);have b0:=cbi 0 E.o;have b1:=cbi 1 E.o;have bl:=zO E.o;have al:Y (∀u∈([I (Gj8 x n)]:A Aj),u.oneCell'=true):=by
    intro u hu;simp only[En,Ge,Mn] at hu;subst hu;rfl
   have ap:Y (k+1<=Bh):=by show _<=_;unfold Bh;omega
   have Q:=J (zcF x n);go_wp2;generalize wr.alloc (Gj2 x n)=wx at*
   go_region_law (first|(refine step_append_lies _ rfl (.tmp 15) (.tmp 24) 22 rfl w.heap.size 9 i0 _ 1 16 underlying22 hi ah ai aj rfl (by decide) _ _ _ (by simp[Act.eval]) (Ao z.o _) ⟨i.heap.size,0,S⟩ 1 1 [I (Gj8 x n)] (by simp[Act.eval]) rfl aq.o al.o (by decide) ap.o (by omega) am.o (i.heap.size+1) av.o ?_;intro g9 B w9 o f aA aD;have C:∀j,(X (V ⟨g,0,S⟩) k a).ownBlock=V j->w.heap.size<=j:=fun j hj=>(An z.o j hj).1;have C9:Y (w.grownBy w9 S):=qI (zD ak.o (Ac _ _ _)) f C;have ar:Y (w9.ownsRow w.heap.size 9 1 (X (V ⟨g9,0,S⟩) (k+1) B) (k+1) (zY ((l.take (k+1)).map Hv))):=by { show Ib _ _ _ _ _ _ _;rw[an.o,<-Q.o];exact o };clear o f C)|(go_simp;go_at_call 159;refine(HI.o _ (zD ab.o (zV wx))).mono ?_;rintro e i ⟨rfl,af⟩;have GN:wx.grownBy i S:=zD (zV wx) af;have ak:=J (zD ab.o GN);have z:=J (zK au.o GN (fun k hk c=>by cases c));have sN:wx.heap.size<=i.heap.size:=GN.size;have aq:Y (∀j u,([I (Gj8 x n)]:A Aj)[j]?=V u->(i.alloc (Ae #[I (Gj8 x n)] 9)).cell? ((⟨i.heap.size,0,S⟩:Eu).add j)=V u):=zZ i #[_] _ _ rfl;have am:Y (w.heap.size<=(i.alloc (Ae #[I (Gj8 x n)] 9)).heap.size):=by { show _<=_;rw[show(i.alloc (Ae #[I (Gj8 x n)] 9)).heap.size=i.heap.size+1 from by simp];omega };have av:Y ((i.alloc (Ae #[I (Gj8 x n)] 9)).heap.size=i.heap.size+1):=by { show _=_;simp };clear af GN)|(go_simp;go_at_call 105;refine(HQ.o _).mono ?_;rintro e w' ⟨rfl,rfl⟩))
   all_goals
    go_wp2
    go_roundw
    ·exact⟨k+1,by omega,by go_num,⟨g9,B,rfl,ar⟩,C9⟩
    ·simp[intOf];omega
  ·have aw:k=Z l:=by omega
   subst aw;have ae:Y (wr.ownsRow w.heap.size 9 1 (X (V ⟨g,0,S⟩) (Z l) a) (Z l) (zY (l.map Hv))):=by
    have h:=HO.o;rw[Ia] at h;exact h
   have ao:=J (H.o wr g a N.o ae.o);go_wp2_with (go_at_call 220;refine ao.o.mono ?_;rintro e w2 ⟨rfl,h2⟩);go_ret;exact⟨rfl,h2⟩
variable {v:Aj}
theorem vP {b:Ad}{l:A TypeId}{e:TypeId}{s:Ad}{a:A Aj}(h:w.ownsRow B e s v n a)(c:Kept b l w w')(d:e ∉ l):w'.ownsRow B e s v n a:=by
 refine⟨h.1,?_⟩;rcases h.2 with h|⟨g,cap,cur,rfl,hB,hb,r⟩
 ·exact Ay h
 ·exact Bf ⟨g,cap,cur,rfl,hB,c.cell hb d,r⟩
theorem WInv.setOp {b:Ad}(h:WInv w b l op)(a:Ak):WInv (w.setCell ⟨b,2,S⟩ (O Ai a)) b l a/\Kept b wtags w (w.setCell ⟨b,2,S⟩ (O Ai a)):=by
 have c:=zF w b 2 (O Ai a);rcases h with ⟨v,hb,ho⟩|⟨v,hb,ho⟩
 ·exact⟨Ay ⟨v,zH hb _,zK ho c (fun k hk e=>by have:=(An ho k hk).1;cases e;omega)⟩,v8 c hb (by decide) (Aq _)⟩
 ·exact⟨Bf ⟨v,zH hb _,zK ho c (fun k hk e=>by have:=(An ho k hk).1;cases e;omega)⟩,v8 c hb (by decide) (Aq _)⟩
theorem WInv.fz (h:WInv w a l op):w.frozen? ⟨a,2,S⟩=false:=by
 rcases h with ⟨v,hb,ho⟩|⟨v,hb,ho⟩
 ·exact zG hb
 ·exact zG hb
theorem jV {w0 W:Ag}{b:Ad}{op:Ad}(h:WInv W b l op)(d:Kept b wtags w0 W)(a:A (A Ab))(c:op<=3)(g:Z l<=100000000000000)(i:Z a<=10)(f:Z a.flatten<=100000000):Am prog 104 #[Al (V ⟨b,0,S⟩),X (V ⟨W.heap.size,0,S⟩) (Z a) (Z a)] (W.alloc (Ae (zY a).toArray 9)) fun e w'=>e=Af (Cm #[])/\WInv w' b (l++lnS op a) op/\Kept b wtags w0 w':=
 (lw (op:=op) (h.grown (Ac _ _ _)) W.heap.size (Z a) a (Bn _ _) c (by omega) (by omega)).mono fun e w' ⟨g1,g2,g3⟩=>⟨g1,g2,(d.trans (xJ (Ac _ _ S))).trans g3⟩
theorem kL (f:α->A Ab)(l:A α)(k:Ad)(b:k<Z l)(a:A Ab):a++((l.take (k+1)).map f).flatten=a++((l.take k).map f).flatten++f l[k]:=by
 rw[v7 f l k b,Bl]
theorem zfS (h:WInv w a l (1:Ad))(cs:A Aj)(r:P.Rl)(hr:PRuleVal w cs r)(hs:R.Small (toRl r))(hl:Z l<=90000000000000)(hT:GT w)(hB:GTB a):Am prog 106 #[Al (V ⟨a,0,S⟩),Fe cs.toArray] w fun e w'=>e=Af (Cm #[])/\WInv w' a (l++Fu (toRl r)) (1:Ad)/\Kept a wtags w w':=by
 obtain⟨vM,vT,vS,vD,rfl,hM,ay,hS,hD⟩:=hr;obtain⟨m1,m2,rfl⟩:=zL hM;obtain⟨t1,t2,rfl⟩:=zL ay;obtain⟨x1,x2,rfl⟩:=zL hS;obtain⟨H,N,rfl⟩:=zL hD;have gA:w.grownBy (w.alloc (Ae #[O Ai r.number,I (Aa r.path),X m1 (Z r.ms) m2,X t1 (Z r.tg) t2,I (Aa r.rep),X x1 (Z r.sets) x2,X H (Z r.drops) N] 213)) S:=Ac _ _ _;have B:Y ((w.alloc (Ae #[O Ai r.number,I (Aa r.path),X m1 (Z r.ms) m2,X t1 (Z r.tg) t2,I (Aa r.rep),X x1 (Z r.sets) x2,X H (Z r.drops) N] 213)).heap[w.heap.size]?=V (Ae #[O Ai r.number,I (Aa r.path),X m1 (Z r.ms) m2,X t1 (Z r.tg) t2,I (Aa r.rep),X x1 (Z r.sets) x2,X H (Z r.drops) N] 213)):=Bn _ _;have J0:Y (WInv (w.alloc (Ae #[O Ai r.number,I (Aa r.path),X m1 (Z r.ms) m2,X t1 (Z r.tg) t2,I (Aa r.rep),X x1 (Z r.sets) x2,X H (Z r.drops) N] 213)) a l (1:Ad)):=h.grown gA;have av:Y (GT (w.alloc (Ae #[O Ai r.number,I (Aa r.path),X m1 (Z r.ms) m2,X t1 (Z r.tg) t2,I (Aa r.rep),X x1 (Z r.sets) x2,X H (Z r.drops) N] 213))):=hT.grown gA;have a8:Y (GTB a):=hB;have aE:Y (Kept a wtags w (w.alloc (Ae #[O Ai r.number,I (Aa r.path),X m1 (Z r.ms) m2,X t1 (Z r.tg) t2,I (Aa r.rep),X x1 (Z r.sets) x2,X H (Z r.drops) N] 213))):=xJ gA;have HM:=J (zK hM gA (fun k hk c=>by cases c));have aO:=J (zK ay gA (fun k hk c=>by cases c));have aa:=J (zK hS gA (fun k hk c=>by cases c));have ai:=J (zK hD gA (fun k hk c=>by cases c));have K0:Y (Kept a wtags (w.alloc (Ae #[O Ai r.number,I (Aa r.path),X m1 (Z r.ms) m2,X t1 (Z r.tg) t2,I (Aa r.rep),X x1 (Z r.sets) x2,X H (Z r.drops) N] 213)) (w.alloc (Ae #[O Ai r.number,I (Aa r.path),X m1 (Z r.ms) m2,X t1 (Z r.tg) t2,I (Aa r.rep),X x1 (Z r.sets) x2,X H (Z r.drops) N] 213))):=Kept.refl _ _ _;have aD:0<=r.number/\r.number<=99999:=hs.num;have aL:Y (0<=r.number/\r.number<=99999):=aD;have ba:Z r.path<=3000:=hs.path;have bb:Z r.rep<=3000:=hs.to;have aw:Y (∀m∈r.ms,Z m.name<=3000/\(Z m.val)<=3000):=fun m hm=>hs.ms.2 (mtOf m) (Hh hm)
 have bl:Z r.ms<=4000:=by have:=hs.ms.1;simpa[toRl,rlOf] using this
 have ax:Y (∀t∈r.tg,Z t.1<=3000/\0<=t.2/\t.2<=99999):=hs.tg.2;have be:Z r.tg<=4000:=hs.tg.1;have ad:Y (∀t∈r.sets,Z t.1<=3000/\(Z t.2)<=3000):=hs.sets.2;have bn:Z r.sets<=4000:=hs.sets.1;have ab:Y (∀t∈r.drops,Z t<=3000):=hs.drops.2;have bk:Z r.drops<=4000:=hs.drops.1;have bj:Z (Hz r.number)<=5:=Sl _ aD;have bd:=zdE r.tg ax.o;have aI:Y (jx r++kj r++(r.ms.map fun m=>Gg (mtOf m)).flatten++wF r++uF r++(r.sets.map Em).flatten++(r.drops.map Cz).flatten++lnS 1 [[125]]=Fu (toRl r)):=zhN r;have HI:Y (Am prog 159 #[O Ai r.number] (w.alloc (Ae #[O Ai r.number,I (Aa r.path),X m1 (Z r.ms) m2,X t1 (Z r.tg) t2,I (Aa r.rep),X x1 (Z r.sets) x2,X H (Z r.drops) N] 213)) fun e w'=>e=Af (I (Aa (Hz r.number)))/\(w.alloc (Ae #[O Ai r.number,I (Aa r.path),X m1 (Z r.ms) m2,X t1 (Z r.tg) t2,I (Aa r.rep),X x1 (Z r.sets) x2,X H (Z r.drops) N] 213)).grownBy w' S):=lv av.o r.number aL.o;have aN:Y (∀W,Am prog 105 #[I (Aa r.path)] W fun e w'=>e=Af (I (Aa (Fi r.path)))/\w'=W):=fun W=>ye r.path W ba
 have au:Y (∀W,Am prog 105 #[I (Aa r.rep)] W fun e w'=>e=Af (I (Aa (Fi r.rep)))/\w'=W):=fun W=>ye r.rep W bb
 clear h hT hB hM ay hS hD hs aD;generalize Fu (toRl r)=res at*;go_in;go_wp2_with fail;refine HI.o.mono ?_;rintro e wI ⟨rfl,az⟩;have KI:Y (Kept a wtags (w.alloc (Ae #[O Ai r.number,I (Aa r.path),X m1 (Z r.ms) m2,X t1 (Z r.tg) t2,I (Aa r.rep),X x1 (Z r.sets) x2,X H (Z r.drops) N] 213)) wI):=K0.o.trans (xJ az);have JI:Y (WInv wI a l (1:Ad)):=J0.o.grown az;generalize w.alloc (Ae #[O Ai r.number,I (Aa r.path),X m1 (Z r.ms) m2,X t1 (Z r.tg) t2,I (Aa r.rep),X x1 (Z r.sets) x2,X H (Z r.drops) N] 213)=wa at*;clear az gA;go_wp2_with fail;have aF:Y (Am prog 104 #[Al (V ⟨a,0,S⟩),X (V ⟨wI.heap.size,0,S⟩) 3 3] (wI.alloc (Ae #[I ⟨#[114,117,108,101,32]⟩,I (Aa (Hz r.number)),I ⟨#[32,123]⟩] 9)) fun e w'=>e=Af (Cm #[])/\WInv w' a (l++jx r) (1:Ad)/\Kept a wtags wa w'):=by
  have h:=jV JI.o KI.o [[114,117,108,101,32],Hz r.number,[32,123]] (by decide) (by omega) (by simp) (by simp only[Ci,Ew,Ah,Bb,Bu];omega);exact h
 refine aF.o.mono ?_;rintro e w1 ⟨rfl,aW,a1⟩;have J1:Y (WInv w1 a (l++jx r) (1:Ad)):=aW;have K1:Y (Kept a wtags wa w1):=a1;clear aW a1;have c1:w1.cell? ⟨a,2,S⟩=V (O Ai 1):=WInv.op J1.o;have f1:w1.frozen? ⟨a,2,S⟩=false:=WInv.fz J1.o;obtain⟨aX,a2⟩:=WInv.setOp J1.o (2:Ad);have J2:Y (WInv (w1.setCell ⟨a,2,S⟩ (O Ai 2)) a (l++jx r) (2:Ad)):=aX;have K2:Y (Kept a wtags wa (w1.setCell ⟨a,2,S⟩ (O Ai 2))):=K1.o.trans a2;have a7:Z (l++jx r)<=90000000001000:=by
  show(Z (l++lnS 1 [[114,117,108,101,32],Hz r.number,[32,123]]))<=_;unfold lnS;simp only[Ci,Ew,Ah,Bb,Bu,Hx];omega
 clear aX a2;have aP:=K2.o.cell B.o (by decide);have br:=cbi 1 aP;clear aP;go_wp2_with fail;refine(aN.o _).mono ?_;rintro e wq ⟨rfl,x⟩;subst x;generalize w1.setCell ⟨a,2,S⟩ (O Ai 2)=w2 at*;go_wp2_with fail;have aG:Y (Am prog 104 #[Al (V ⟨a,0,S⟩),X (V ⟨w2.heap.size,0,S⟩) 3 3] (w2.alloc (Ae #[I ⟨#[112,97,116,104,32]⟩,I (Aa (Fi r.path)),I ⟨#[59]⟩] 9)) fun e w'=>e=Af (Cm #[])/\WInv w' a (l++jx r++kj r) (2:Ad)/\Kept a wtags wa w'):=by
  have h:=jV J2.o K2.o [[112,97,116,104,32],Fi r.path,[59]] (by decide) (by omega) (by simp) (by simp only[Ci,Ew,Ah,Bb,Bu,Fy];omega);exact h
 refine aG.o.mono ?_;rintro e w3 ⟨rfl,aY,a3⟩;have J3:Y (WInv w3 a (l++jx r++kj r) (2:Ad)):=aY;have K3:Y (Kept a wtags wa w3):=a3;clear aY a3;have bo:Z (l++jx r++kj r)<=90000000010000:=by
  rw[Ah];show _+Z (lnS 2 [[112,97,116,104,32],Fi r.path,[59]])<=_;unfold lnS;simp only[Ci,Ew,Ah,Bb,Bu,Hx,Fy] at a7 ⊢;omega
 have aM:Y (l++res=(l++jx r++kj r)++((r.ms.map fun m=>Gg (mtOf m)).flatten++wF r++uF r++(r.sets.map Em).flatten++(r.drops.map Cz).flatten++lnS 1 [[125]])):=by
  show _=_;rw[<-aI.o];simp only[Bl]
 generalize l++jx r++kj r=pre at*;clear a7 c1 f1;have aQ:=K3.o.cell B.o (by decide);have bs:=cbi 2 aQ;clear aQ;go_wp2_with fail
 go_loopw [32] (fun iv wr=>∃k:Ad,k<=Z r.ms/\iv=O Ai k/\Y (WInv wr a (pre++((r.ms.take k).map (fun m=>Gg (mtOf m))).flatten) (2:Ad))/\(Z (pre++((r.ms.take k).map (fun m=>Gg (mtOf m))).flatten))<=90000000010000+6100*k/\Y (Kept a wtags wa wr)) (fun iv _=>Z r.ms-(intOf iv).toNat)
 ·exact⟨0,Ax _,rfl,by rw[Gm,Fa,Ew,Cv];exact J3,by rw[Gm,Fa,Ew,Cv];omega,K3⟩
 ·
  obtain⟨k,hk,rfl,i,p,j⟩:=hrel
  by_cases b:k<Z r.ms
  ·have al:(k:Ak)<Z r.ms:=by omega
   obtain⟨gm,aj,o,_,ak⟩:=Bm HM.o (by omega);simp only[Au] at o;obtain⟨rfl,_,rfl⟩:=o;have d:=vP HM.o j.o (by decide);have e0:wr.cell? ⟨gm,k*3,S⟩=V (I (Aa r.ms[k].name)):=qY P.Mt.cells 3 (fun _=>rfl) d (zP _ _) k 0 b (by omega) rfl;have e1:wr.cell? ⟨gm,k*3+1,S⟩=V (Av r.ms[k].ask):=qY P.Mt.cells 3 (fun _=>rfl) d (zP _ _) k 1 b (by omega) rfl;have e2:wr.cell? ⟨gm,k*3+2,S⟩=V (I (Aa r.ms[k].val)):=qY P.Mt.cells 3 (fun _=>rfl) d (zP _ _) k 2 b (by omega) rfl;clear d;have aC:=aw.o r.ms[k] (Cr b);have n:=kL (fun m=>Gg (mtOf m)) r.ms k b pre;have a9:Z (Gg (mtOf r.ms[k]))<=6100:=by
    unfold Gg mtOf;split <;> simp only[Ah,Fy,Bb,Bu] <;> omega
   have aK:Y (Am prog 160 #[Al (V ⟨a,0,S⟩),Fe #[I (Aa r.ms[k].name),Av r.ms[k].ask,I (Aa r.ms[k].val)]] (wr.alloc (Ae #[I (Aa r.ms[k].name),Av r.ms[k].ask,I (Aa r.ms[k].val)] 276)) fun e w'=>e=Af (Cm #[])/\WInv w' a (pre++((r.ms.take (k+1)).map (fun m=>Gg (mtOf m))).flatten) (2:Ad)/\Kept a wtags wa w'/\(Z (pre++((r.ms.take (k+1)).map (fun m=>Gg (mtOf m))).flatten))<=90000000010000+6100*(k+1)):=by
    refine(zbV (i.o.grown (Ac _ _ S)) r.ms[k] aC.1 aC.2 (by omega)).mono ?_;rintro e w' ⟨rfl,q1,q2⟩;rw[n];exact⟨rfl,q1,(j.o.trans (xJ (Ac _ _ S))).trans q2,by rw[Ah];omega⟩
   clear n a9 aC;generalize r.ms[k]=m at*;obtain⟨mn,ma,mv⟩:=m;simp only at e0 e1 e2 aK;go_wp2_with (go_at_call 160;refine aK.o.mono ?_;rintro e w2 ⟨rfl,h2,h3,h4⟩)
   go_roundw
   ·exact⟨k+1,by omega,by go_num,h2,h4,h3⟩
   ·simp[intOf];omega
  ·have HE:k=Z r.ms:=by omega
   subst HE;rw[Ia] at i p;have F:Y (l++res=(pre++(r.ms.map (fun m=>Gg (mtOf m))).flatten)++(wF r++uF r++(r.sets.map Em).flatten++(r.drops.map Cz).flatten++lnS 1 [[125]])):=by
    show _=_;rw[aM.o];simp only[Bl]
   generalize pre++(r.ms.map (fun m=>Gg (mtOf m))).flatten=pre2 at*;have bp:Z pre2<=90000100000000:=by omega
   clear p;have aR:=j.o.cell B.o (by decide);have bt:=cbi 3 aR;clear aR;have aH:Y (Am prog 161 #[X t1 (Z r.tg) t2] wr fun e w'=>e=Af (I (Aa (Ho r.tg)))/\wr.grownBy w' S):=zbS r.tg _ (vP aO.o j.o (by decide)) be ax.o (av.o.kept j.o a8.o);go_wp2_with fail;refine aH.o.mono ?_;rintro e wL ⟨rfl,aA⟩;have KL:Y (Kept a wtags wa wL):=j.o.trans (xJ aA);have JL:Y (WInv wL a pre2 (2:Ad)):=WInv.grown i.o aA;clear aA i j;go_wp2_with fail;have Q:Y (Am prog 104 #[Al (V ⟨a,0,S⟩),X (V ⟨wL.heap.size,0,S⟩) 3 3] (wL.alloc (Ae #[I ⟨#[116,111,32]⟩,I (Aa (Ho r.tg)),I ⟨#[59]⟩] 9)) fun e w'=>e=Af (Cm #[])/\WInv w' a (pre2++wF r) (2:Ad)/\Kept a wtags wa w'):=by
    have h:=jV JL.o KL.o [[116,111,32],Ho r.tg,[59]] (by decide) (by omega) (by simp) (by simp only[Ci,Ew,Ah,Bb,Bu];omega);exact h
   refine Q.o.mono ?_;rintro e w5 ⟨rfl,aZ,a4⟩;have J5:Y (WInv w5 a (pre2++wF r) (2:Ad)):=aZ;have K5:Y (Kept a wtags wa w5):=a4;clear aZ a4;have bf:Z (pre2++wF r)<=90000200000000:=by
    rw[Ah];show _+Z (lnS 2 [[116,111,32],Ho r.tg,[59]])<=_;unfold lnS;simp only[Ci,Ew,Ah,Bb,Bu,Hx];omega
   clear bd
   by_cases z:r.rep=[]
   ·have bm:Aa r.rep=⟨#[]⟩:=by rw[z];rfl
    have y:Y (l++res=(pre2++wF r)++((r.sets.map Em).flatten++(r.drops.map Cz).flatten++lnS 1 [[125]])):=by
     show _=_;rw[F.o];unfold uF;rw[Az z];simp only[Bl,Hc]
    have v:Y (wa.ownsRow 0 9 1 (X H (Z r.drops) N) (Z r.drops) (r.drops.map fun s=>[I (Aa s)]).flatten):=strRow1 ai.o;clear z;generalize pre2++wF r=pre at*;have ae:=K5.o.cell B.o (by decide);have bh:=cbi 4 ae;clear ae;have aT:=K5.o.cell B.o (by decide);have bv:=cbi 5 aT;clear aT;go_wp2_with fail
    go_loopw [58] (fun iv wr=>∃k:Ad,k<=Z r.sets/\iv=O Ai k/\Y (WInv wr a (pre++((r.sets.take k).map Em).flatten) (2:Ad))/\(Z (pre++((r.sets.take k).map Em).flatten))<=90000300000000+6100*k/\Y (Kept a wtags wa wr)) (fun iv _=>Z r.sets-(intOf iv).toNat)
    ·exact⟨0,Ax _,rfl,by rw[Gm,Fa,Ew,Cv];exact J5,by rw[Gm,Fa,Ew,Cv];omega,K5⟩
    ·
     obtain⟨k,hk,rfl,i,p,j⟩:=hrel
     by_cases b:k<Z r.sets
     ·have al:(k:Ak)<Z r.sets:=by omega
      obtain⟨gm,aj,o,_,ak⟩:=Bm aa.o (by omega);simp only[Au] at o;obtain⟨rfl,_,rfl⟩:=o;have d:=vP aa.o j.o (by decide);have e0:wr.cell? ⟨gm,k*2,S⟩=V (I (Aa r.sets[k].1)):=qY (fun t:A Ab×A Ab=>[I (Aa t.1),I (Aa t.2)]) 2 (fun _=>rfl) d (zP _ _) k 0 b (by omega) rfl;have e1:wr.cell? ⟨gm,k*2+1,S⟩=V (I (Aa r.sets[k].2)):=qY (fun t:A Ab×A Ab=>[I (Aa t.1),I (Aa t.2)]) 2 (fun _=>rfl) d (zP _ _) k 1 b (by omega) rfl;clear d;have C:=ad.o r.sets[k] (Cr b);have n:=kL Em r.sets k b pre;generalize bc:r.sets[k]=st at*;obtain⟨f,g⟩:=st;simp only at e0 e1 C;have ap:Y (∀W,Am prog 105 #[I (Aa f)] W fun e w'=>e=Af (I (Aa (Fi f)))/\w'=W):=fun W=>ye f W C.1
      have aq:Y (∀W,Am prog 105 #[I (Aa g)] W fun e w'=>e=Af (I (Aa (Fi g)))/\w'=W):=fun W=>ye g W C.2
      have u:Y ((wr.alloc (Ae #[I (Aa f),I (Aa g)] 280)).heap[wr.heap.size]?=V (Ae #[I (Aa f),I (Aa g)] 280)):=Bn _ _;have b0:=cbi 0 u.o;have b1:=cbi 1 u.o;have Q:Y (Am prog 104 #[Al (V ⟨a,0,S⟩),X (V ⟨wr.heap.size+1,0,S⟩) 5 5] (((wr.alloc (Ae #[I (Aa f),I (Aa g)] 280)).drew).alloc (Ae #[I ⟨#[115,101,116,32]⟩,I (Aa (Fi f)),I ⟨#[32,61,32]⟩,I (Aa (Fi g)),I ⟨#[59]⟩] 9)) fun e w'=>e=Af (Cm #[])/\WInv w' a (pre++((r.sets.take (k+1)).map Em).flatten) (2:Ad)/\Kept a wtags wa w'/\(Z (pre++((r.sets.take (k+1)).map Em).flatten))<=90000300000000+6100*(k+1)/\w'.cell? ⟨wr.heap.size,0,S⟩=V (I (Aa f))/\w'.cell? ⟨wr.heap.size,1,S⟩=V (I (Aa g))):=by
       have gD:wr.grownBy (wr.alloc (Ae #[I (Aa f),I (Aa g)] 280)).drew S:=zD (Ac _ _ S) (zV _);have h:=jV (w0:=(wr.alloc (Ae #[I (Aa f),I (Aa g)] 280)).drew) (i.o.grown gD) (Kept.refl _ _ _) [[115,101,116,32],Fi f,[32,61,32],Fi g,[59]] (by decide) (by omega) (by simp) (by simp only[Ci,Ew,Ah,Bb,Bu,Fy];omega);rw[show((wr.alloc (Ae #[I (Aa f),I (Aa g)] 280)).drew).heap.size=wr.heap.size+1 by simp[Md]] at h;have aB:Z (Em (f,g))<=6100:=by
        unfold Em;simp only[Ah,Fy,Bb,Bu];omega
       rw[n];refine Oq h fun e w' ⟨q1,q2,q3⟩=>⟨q1,?_,(j.o.trans (xJ gD)).trans q3,by rw[Ah];omega,zB (q3.cell (c:=#[I (Aa f),I (Aa g)]) u.o (by decide)),zB (q3.cell (c:=#[I (Aa f),I (Aa g)]) u.o (by decide))⟩
       rw[ziU (f,g)] at q2;exact q2
      clear n C i j;go_wp2_with fail
      go_region_held3 (fun W=>W.cell? ⟨wr.heap.size,0,S⟩=V (I (Aa f))/\W.cell? ⟨wr.heap.size,1,S⟩=V (I (Aa g))) (go_keep) (first
       |(go_at_call 105;refine(ap.o _).mono ?_;rintro e w' ⟨rfl,rfl⟩)
       |(go_at_call 105;refine(aq.o _).mono ?_;rintro e w' ⟨rfl,rfl⟩)
       |(go_at_call 104;refine Q.o.mono ?_;rintro e w3 ⟨rfl,h2,h3,h4,g4,g5⟩))
      all_goals
       go_wp2
       go_roundw
       ·exact⟨k+1,by omega,by go_num,h2,h4,h3⟩
       ·simp[intOf];omega
     ·have HE:k=Z r.sets:=by omega
      subst HE;rw[Ia] at i p;have E:Y (l++res=(pre++(r.sets.map Em).flatten)++((r.drops.map Cz).flatten++lnS 1 [[125]])):=by
       show _=_;rw[y.o];simp only[Bl]
      generalize pre++(r.sets.map Em).flatten=pre at*;have bg:Z pre<=90000400000000:=by omega
      have J6:Y (WInv wr a pre (2:Ad)):=i;have K6:Y (Kept a wtags wa wr):=j;clear p i j hk;have aS:=K6.o.cell B.o (by decide);have bu:=cbi 6 aS;clear aS;go_wp2_with fail
      go_loopw [75] (fun iv wr=>∃k:Ad,k<=Z r.drops/\iv=O Ai k/\Y (WInv wr a (pre++((r.drops.take k).map Cz).flatten) (2:Ad))/\(Z (pre++((r.drops.take k).map Cz).flatten))<=90000400000000+6100*k/\Y (Kept a wtags wa wr)) (fun iv _=>Z r.drops-(intOf iv).toNat)
      ·exact⟨0,Ax _,rfl,by rw[Gm,Fa,Ew,Cv];exact J6,by rw[Gm,Fa,Ew,Cv];omega,K6⟩
      ·
       obtain⟨k,hk,rfl,i,p,j⟩:=hrel
       by_cases b:k<Z r.drops
       ·have al:(k:Ak)<Z r.drops:=by omega
        obtain⟨gm,aj,o,_,ak⟩:=Bm v.o (by omega);simp only[Au] at o;obtain⟨rfl,_,rfl⟩:=o;have d:=vP v.o j.o (by decide);have e0:wr.cell? ⟨gm,k*1,S⟩=V (I (Aa r.drops[k])):=qY (fun s=>[I (Aa s)]) 1 (fun _=>rfl) d (zP _ _) k 0 b (by omega) rfl;clear d;rw[Nx] at e0;have ah:=ab.o r.drops[k] (Cr b);have n:=kL Cz r.drops k b pre;generalize r.drops[k]=dk at*;have ar:Y (∀W,Am prog 105 #[I (Aa dk)] W fun e w'=>e=Af (I (Aa (Fi dk)))/\w'=W):=fun W=>ye dk W ah
        have an:Y (Am prog 104 #[Al (V ⟨a,0,S⟩),X (V ⟨wr.heap.size,0,S⟩) 3 3] (wr.alloc (Ae #[I ⟨#[100,114,111,112,32]⟩,I (Aa (Fi dk)),I ⟨#[59]⟩] 9)) fun e w'=>e=Af (Cm #[])/\WInv w' a (pre++((r.drops.take (k+1)).map Cz).flatten) (2:Ad)/\Kept a wtags wa w'/\(Z (pre++((r.drops.take (k+1)).map Cz).flatten))<=90000400000000+6100*(k+1)):=by
         have h:=jV i.o j.o [[100,114,111,112,32],Fi dk,[59]] (by decide) (by omega) (by simp) (by simp only[Ci,Ew,Ah,Bb,Bu,Fy];omega);have aB:Z (Cz dk)<=6100:=by
          unfold Cz;simp only[Ah,Fy,Bb,Bu];omega
         rw[n];refine Oq h fun e w' ⟨q1,q2,q3⟩=>⟨q1,?_,q3,by rw[Ah];omega⟩
         rw[zcT dk] at q2;exact q2
        clear n ah i j;go_wp2_with fail;refine(ar.o _).mono ?_;rintro e wq ⟨rfl,x⟩;rw[x];clear x wq;go_wp2_with fail;refine an.o.mono ?_;rintro e w7 ⟨rfl,h2,h3,h4⟩;go_wp2
        go_roundw
        ·exact⟨k+1,by omega,by go_num,h2,h4,h3⟩
        ·simp[intOf];omega
       ·have HE:k=Z r.drops:=by omega
        subst HE;rw[Ia] at i p;have ao:Y (l++res=(pre++(r.drops.map Cz).flatten)++lnS 1 [[125]]):=by
         show _=_;rw[E.o];simp only[Bl]
        generalize pre++(r.drops.map Cz).flatten=pre8 at*;have c8:wr.cell? ⟨a,2,S⟩=V (O Ai 2):=WInv.op i.o;have f8:wr.frozen? ⟨a,2,S⟩=false:=WInv.fz i.o;obtain⟨af,ag⟩:=WInv.setOp i.o (1:Ad);have J8:Y (WInv (wr.setCell ⟨a,2,S⟩ (O Ai 1)) a pre8 (1:Ad)):=af;have K8:Y (Kept a wtags wa (wr.setCell ⟨a,2,S⟩ (O Ai 1))):=j.o.trans ag;clear af ag i j;have am:Y (Am prog 104 #[Al (V ⟨a,0,S⟩),X (V ⟨wr.heap.size,0,S⟩) 1 1] ((wr.setCell ⟨a,2,S⟩ (O Ai 1)).alloc (Ae #[I ⟨#[125]⟩] 9)) fun e w'=>e=Af (Cm #[])/\WInv w' a (pre8++lnS 1 [[125]]) (1:Ad)/\Kept a wtags wa w'):=by
         have h:=jV J8.o K8.o [[125]] (by decide) (by omega) (by simp) (by simp);rw[show(wr.setCell ⟨a,2,S⟩ (O Ai 1)).heap.size=wr.heap.size by simp[Bs]] at h;exact h
        go_wp2_with fail;refine am.o.mono ?_;rintro e w9 ⟨rfl,h2,h3⟩;go_wp2
        go_end0
        rw[ao.o];exact⟨rfl,h2,aE.o.trans h3⟩
   ·have y:Y (l++res=(pre2++wF r++uF r)++((r.sets.map Em).flatten++(r.drops.map Cz).flatten++lnS 1 [[125]])):=by
     show _=_;rw[F.o];simp only[Bl]
    have a6:uF r=lnS 2 [[114,101,112,108,97,99,101,32],Fi r.rep,[59]]:=by unfold uF;rw[Aw z]
    have v:Y (wa.ownsRow 0 9 1 (X H (Z r.drops) N) (Z r.drops) (r.drops.map fun s=>[I (Aa s)]).flatten):=strRow1 ai.o;rw[a6] at y;have bi:(Aa r.rep).toList.isEmpty=false:=by
     rw[El,Be]
     cases h:r.rep with
     |nil=>exact absurd h z
     |cons _ _=>rfl
    clear a6 z;have ae:=K5.o.cell B.o (by decide);have bh:=cbi 4 ae;clear ae;go_wp2_with fail;refine(au.o _).mono ?_;rintro e wq ⟨rfl,x⟩;rw[x];clear x wq;go_wp2_with fail;have aJ:Y (Am prog 104 #[Al (V ⟨a,0,S⟩),X (V ⟨w5.heap.size,0,S⟩) 3 3] (w5.alloc (Ae #[I ⟨#[114,101,112,108,97,99,101,32]⟩,I (Aa (Fi r.rep)),I ⟨#[59]⟩] 9)) fun e w'=>e=Af (Cm #[])/\WInv w' a (pre2++wF r++lnS 2 [[114,101,112,108,97,99,101,32],Fi r.rep,[59]]) (2:Ad)/\Kept a wtags wa w'):=by
     have h:=jV J5.o K5.o [[114,101,112,108,97,99,101,32],Fi r.rep,[59]] (by decide) (by omega) (by simp) (by simp only[Ci,Ew,Ah,Bb,Bu,Fy];omega);exact h
    refine aJ.o.mono ?_;rintro e wp ⟨rfl,a0,a5⟩;have Jp:Y (WInv wp a (pre2++wF r++lnS 2 [[114,101,112,108,97,99,101,32],Fi r.rep,[59]]) (2:Ad)):=a0;have Kp:Y (Kept a wtags wa wp):=a5;clear a0 a5;have bq:Z (pre2++wF r++lnS 2 [[114,101,112,108,97,99,101,32],Fi r.rep,[59]])<=90000300000000:=by
     rw[Ah];unfold lnS;simp only[Ci,Ew,Ah,Bb,Bu,Hx,Fy] at bf ⊢;omega
    generalize pre2++wF r++lnS 2 [[114,101,112,108,97,99,101,32],Fi r.rep,[59]]=pre at*;have aV:=Kp.o.cell B.o (by decide);have bx:=cbi 5 aV;clear aV;go_wp2_with fail
    go_loopw [58] (fun iv wr=>∃k:Ad,k<=Z r.sets/\iv=O Ai k/\Y (WInv wr a (pre++((r.sets.take k).map Em).flatten) (2:Ad))/\(Z (pre++((r.sets.take k).map Em).flatten))<=90000300000000+6100*k/\Y (Kept a wtags wa wr)) (fun iv _=>Z r.sets-(intOf iv).toNat)
    ·exact⟨0,Ax _,rfl,by rw[Gm,Fa,Ew,Cv];exact Jp,by rw[Gm,Fa,Ew,Cv];omega,Kp⟩
    ·
     obtain⟨k,hk,rfl,i,p,j⟩:=hrel
     by_cases b:k<Z r.sets
     ·have al:(k:Ak)<Z r.sets:=by omega
      obtain⟨gm,aj,o,_,ak⟩:=Bm aa.o (by omega);simp only[Au] at o;obtain⟨rfl,_,rfl⟩:=o;have d:=vP aa.o j.o (by decide);have e0:wr.cell? ⟨gm,k*2,S⟩=V (I (Aa r.sets[k].1)):=qY (fun t:A Ab×A Ab=>[I (Aa t.1),I (Aa t.2)]) 2 (fun _=>rfl) d (zP _ _) k 0 b (by omega) rfl;have e1:wr.cell? ⟨gm,k*2+1,S⟩=V (I (Aa r.sets[k].2)):=qY (fun t:A Ab×A Ab=>[I (Aa t.1),I (Aa t.2)]) 2 (fun _=>rfl) d (zP _ _) k 1 b (by omega) rfl;clear d;have C:=ad.o r.sets[k] (Cr b);have n:=kL Em r.sets k b pre;generalize bc:r.sets[k]=st at*;obtain⟨f,g⟩:=st;simp only at e0 e1 C;have ap:Y (∀W,Am prog 105 #[I (Aa f)] W fun e w'=>e=Af (I (Aa (Fi f)))/\w'=W):=fun W=>ye f W C.1
      have aq:Y (∀W,Am prog 105 #[I (Aa g)] W fun e w'=>e=Af (I (Aa (Fi g)))/\w'=W):=fun W=>ye g W C.2
      have u:Y ((wr.alloc (Ae #[I (Aa f),I (Aa g)] 280)).heap[wr.heap.size]?=V (Ae #[I (Aa f),I (Aa g)] 280)):=Bn _ _;have b0:=cbi 0 u.o;have b1:=cbi 1 u.o;have Q:Y (Am prog 104 #[Al (V ⟨a,0,S⟩),X (V ⟨wr.heap.size+1,0,S⟩) 5 5] (((wr.alloc (Ae #[I (Aa f),I (Aa g)] 280)).drew).alloc (Ae #[I ⟨#[115,101,116,32]⟩,I (Aa (Fi f)),I ⟨#[32,61,32]⟩,I (Aa (Fi g)),I ⟨#[59]⟩] 9)) fun e w'=>e=Af (Cm #[])/\WInv w' a (pre++((r.sets.take (k+1)).map Em).flatten) (2:Ad)/\Kept a wtags wa w'/\(Z (pre++((r.sets.take (k+1)).map Em).flatten))<=90000300000000+6100*(k+1)/\w'.cell? ⟨wr.heap.size,0,S⟩=V (I (Aa f))/\w'.cell? ⟨wr.heap.size,1,S⟩=V (I (Aa g))):=by
       have gD:wr.grownBy (wr.alloc (Ae #[I (Aa f),I (Aa g)] 280)).drew S:=zD (Ac _ _ S) (zV _);have h:=jV (w0:=(wr.alloc (Ae #[I (Aa f),I (Aa g)] 280)).drew) (i.o.grown gD) (Kept.refl _ _ _) [[115,101,116,32],Fi f,[32,61,32],Fi g,[59]] (by decide) (by omega) (by simp) (by simp only[Ci,Ew,Ah,Bb,Bu,Fy];omega);rw[show((wr.alloc (Ae #[I (Aa f),I (Aa g)] 280)).drew).heap.size=wr.heap.size+1 by simp[Md]] at h;have aB:Z (Em (f,g))<=6100:=by
        unfold Em;simp only[Ah,Fy,Bb,Bu];omega
       rw[n];refine Oq h fun e w' ⟨q1,q2,q3⟩=>⟨q1,?_,(j.o.trans (xJ gD)).trans q3,by rw[Ah];omega,zB (q3.cell (c:=#[I (Aa f),I (Aa g)]) u.o (by decide)),zB (q3.cell (c:=#[I (Aa f),I (Aa g)]) u.o (by decide))⟩
       rw[ziU (f,g)] at q2;exact q2
      clear n C i j;go_wp2_with fail
      go_region_held3 (fun W=>W.cell? ⟨wr.heap.size,0,S⟩=V (I (Aa f))/\W.cell? ⟨wr.heap.size,1,S⟩=V (I (Aa g))) (go_keep) (first
       |(go_at_call 105;refine(ap.o _).mono ?_;rintro e w' ⟨rfl,rfl⟩)
       |(go_at_call 105;refine(aq.o _).mono ?_;rintro e w' ⟨rfl,rfl⟩)
       |(go_at_call 104;refine Q.o.mono ?_;rintro e w3 ⟨rfl,h2,h3,h4,g4,g5⟩))
      all_goals
       go_wp2
       go_roundw
       ·exact⟨k+1,by omega,by go_num,h2,h4,h3⟩
       ·simp[intOf];omega
     ·have HE:k=Z r.sets:=by omega
      subst HE;rw[Ia] at i p;have E:Y (l++res=(pre++(r.sets.map Em).flatten)++((r.drops.map Cz).flatten++lnS 1 [[125]])):=by
       show _=_;rw[y.o];simp only[Bl]
      generalize pre++(r.sets.map Em).flatten=pre at*;have bg:Z pre<=90000400000000:=by omega
      have J6:Y (WInv wr a pre (2:Ad)):=i;have K6:Y (Kept a wtags wa wr):=j;clear p i j hk;have aU:=K6.o.cell B.o (by decide);have bw:=cbi 6 aU;clear aU;go_wp2_with fail
      go_loopw [75] (fun iv wr=>∃k:Ad,k<=Z r.drops/\iv=O Ai k/\Y (WInv wr a (pre++((r.drops.take k).map Cz).flatten) (2:Ad))/\(Z (pre++((r.drops.take k).map Cz).flatten))<=90000400000000+6100*k/\Y (Kept a wtags wa wr)) (fun iv _=>Z r.drops-(intOf iv).toNat)
      ·exact⟨0,Ax _,rfl,by rw[Gm,Fa,Ew,Cv];exact J6,by rw[Gm,Fa,Ew,Cv];omega,K6⟩
      ·
       obtain⟨k,hk,rfl,i,p,j⟩:=hrel
       by_cases b:k<Z r.drops
       ·have al:(k:Ak)<Z r.drops:=by omega
        obtain⟨gm,aj,o,_,ak⟩:=Bm v.o (by omega);simp only[Au] at o;obtain⟨rfl,_,rfl⟩:=o;have d:=vP v.o j.o (by decide);have e0:wr.cell? ⟨gm,k*1,S⟩=V (I (Aa r.drops[k])):=qY (fun s=>[I (Aa s)]) 1 (fun _=>rfl) d (zP _ _) k 0 b (by omega) rfl;clear d;rw[Nx] at e0;have ah:=ab.o r.drops[k] (Cr b);have n:=kL Cz r.drops k b pre;generalize r.drops[k]=dk at*;have ar:Y (∀W,Am prog 105 #[I (Aa dk)] W fun e w'=>e=Af (I (Aa (Fi dk)))/\w'=W):=fun W=>ye dk W ah
        have an:Y (Am prog 104 #[Al (V ⟨a,0,S⟩),X (V ⟨wr.heap.size,0,S⟩) 3 3] (wr.alloc (Ae #[I ⟨#[100,114,111,112,32]⟩,I (Aa (Fi dk)),I ⟨#[59]⟩] 9)) fun e w'=>e=Af (Cm #[])/\WInv w' a (pre++((r.drops.take (k+1)).map Cz).flatten) (2:Ad)/\Kept a wtags wa w'/\(Z (pre++((r.drops.take (k+1)).map Cz).flatten))<=90000400000000+6100*(k+1)):=by
         have h:=jV i.o j.o [[100,114,111,112,32],Fi dk,[59]] (by decide) (by omega) (by simp) (by simp only[Ci,Ew,Ah,Bb,Bu,Fy];omega);have aB:Z (Cz dk)<=6100:=by
          unfold Cz;simp only[Ah,Fy,Bb,Bu];omega
         rw[n];refine Oq h fun e w' ⟨q1,q2,q3⟩=>⟨q1,?_,q3,by rw[Ah];omega⟩
         rw[zcT dk] at q2;exact q2
        clear n ah i j;go_wp2_with fail;refine(ar.o _).mono ?_;rintro e wq ⟨rfl,x⟩;rw[x];clear x wq;go_wp2_with fail;refine an.o.mono ?_;rintro e w7 ⟨rfl,h2,h3,h4⟩;go_wp2
        go_roundw
        ·exact⟨k+1,by omega,by go_num,h2,h4,h3⟩
        ·simp[intOf];omega
       ·have HE:k=Z r.drops:=by omega
        subst HE;rw[Ia] at i p;have ao:Y (l++res=(pre++(r.drops.map Cz).flatten)++lnS 1 [[125]]):=by
         show _=_;rw[E.o];simp only[Bl]
        generalize pre++(r.drops.map Cz).flatten=pre8 at*;have c8:wr.cell? ⟨a,2,S⟩=V (O Ai 2):=WInv.op i.o;have f8:wr.frozen? ⟨a,2,S⟩=false:=WInv.fz i.o;obtain⟨af,ag⟩:=WInv.setOp i.o (1:Ad);have J8:Y (WInv (wr.setCell ⟨a,2,S⟩ (O Ai 1)) a pre8 (1:Ad)):=af;have K8:Y (Kept a wtags wa (wr.setCell ⟨a,2,S⟩ (O Ai 1))):=j.o.trans ag;clear af ag i j;have am:Y (Am prog 104 #[Al (V ⟨a,0,S⟩),X (V ⟨wr.heap.size,0,S⟩) 1 1] ((wr.setCell ⟨a,2,S⟩ (O Ai 1)).alloc (Ae #[I ⟨#[125]⟩] 9)) fun e w'=>e=Af (Cm #[])/\WInv w' a (pre8++lnS 1 [[125]]) (1:Ad)/\Kept a wtags wa w'):=by
         have h:=jV J8.o K8.o [[125]] (by decide) (by omega) (by simp) (by simp);rw[show(wr.setCell ⟨a,2,S⟩ (O Ai 1)).heap.size=wr.heap.size by simp[Bs]] at h;exact h
        go_wp2_with fail;refine am.o.mono ?_;rintro e w9 ⟨rfl,h2,h3⟩;go_wp2
        go_end0
        rw[ao.o];exact⟨rfl,h2,aE.o.trans h3⟩
theorem PRuleVal.kept {a:A Aj}{r:P.Rl}(h:PRuleVal w a r)(b:Kept B wtags w w'):PRuleVal w' a r:=by grind[vP,P.Rl,PRuleVal,Kept,wtags]
theorem zfR {f:Ad}(h:WInv w f l (0:Ad))(cs:A Aj)(x:P.Hst)(hv:PHostVal w cs x)(hs:Qn (toR x))(hl:Z l<=80000000000000)(hT:GT w)(hB:GTB f):Am prog 68 #[Al (V ⟨f,0,S⟩),Fe cs.toArray] w fun e w'=>e=Af (Cm #[])/\WInv w' f (l++Ex (toR x)) (0:Ad)/\Kept f wtags w w':=by
 obtain⟨vR,rfl,au,i,s⟩:=hv;obtain⟨m,n,rfl⟩:=zL i;have C:w.grownBy (w.alloc (Ae #[I (Aa x.name),X m (Z x.rules) n] 146)) S:=Ac _ _ _;have E:Y ((w.alloc (Ae #[I (Aa x.name),X m (Z x.rules) n] 146)).heap[w.heap.size]?=V (Ae #[I (Aa x.name),X m (Z x.rules) n] 146)):=Bn _ _;have J0:Y (WInv (w.alloc (Ae #[I (Aa x.name),X m (Z x.rules) n] 146)) f l (0:Ad)):=h.grown C;have ab:Y (GT (w.alloc (Ae #[I (Aa x.name),X m (Z x.rules) n] 146))):=hT.grown C;have F:Y (GTB f):=hB;have ao:Y (Kept f wtags w (w.alloc (Ae #[I (Aa x.name),X m (Z x.rules) n] 146))):=xJ C;have HR:=J (zK i C (fun k hk c=>by cases c));have HA:Y (All2 (PRuleVal (w.alloc (Ae #[I (Aa x.name),X m (Z x.rules) n] 146))) au x.rules):=s.map fun a b hab=>hab.keep C (za _ _)
 have K0:Y (Kept f wtags (w.alloc (Ae #[I (Aa x.name),X m (Z x.rules) n] 146)) (w.alloc (Ae #[I (Aa x.name),X m (Z x.rules) n] 146))):=Kept.refl _ _ _;have z:Z x.name<=3000:=hs.name;have aB:Z x.rules<=4000:=by have:=hs.rules.1;simpa[toR] using this
 have t:Y (∀r∈x.rules,R.Small (toRl r)):=fun r hr=>hs.rules.2 (toRl r) (Hh hr)
 have N:Y (lnS 0 [[104,111,115,116,32],Fi x.name,[32,123]]++(x.rules.map (fun r=>Fu (toRl r))).flatten++lnS 0 [[125]]=Ex (toR x)):=zk2 x;have HQ:Y (∀W,Am prog 105 #[I (Aa x.name)] W fun e w'=>e=Af (I (Aa (Fi x.name)))/\w'=W):=fun W=>ye x.name W z
 have u0:=cbi 0 E.o;generalize Ex (toR x)=res at*;go_in;go_wp2_with fail;refine(HQ.o _).mono ?_;rintro e wq ⟨rfl,ax⟩;subst ax;generalize w.alloc (Ae #[I (Aa x.name),X m (Z x.rules) n] 146)=wa at*;go_wp2_with fail;have H:Y (Am prog 104 #[Al (V ⟨f,0,S⟩),X (V ⟨wa.heap.size,0,S⟩) 3 3] (wa.alloc (Ae #[I ⟨#[104,111,115,116,32]⟩,I (Aa (Fi x.name)),I ⟨#[32,123]⟩] 9)) fun e w'=>e=Af (Cm #[])/\WInv w' f (l++lnS 0 [[104,111,115,116,32],Fi x.name,[32,123]]) (0:Ad)/\Kept f wtags wa w'):=by
  have h:=jV J0.o K0.o [[104,111,115,116,32],Fi x.name,[32,123]] (by decide) (by omega) (by simp) (by simp only[Ci,Ew,Ah,Bb,Bu,Fy];omega);exact h
 refine H.o.mono ?_;rintro e w1 ⟨rfl,o,ag⟩;have aC:Z (l++lnS 0 [[104,111,115,116,32],Fi x.name,[32,123]])<=80000000010000:=by
  unfold lnS;simp only[Ci,Ew,Ah,Bb,Bu,Hx,Fy];omega
 have aa:Y (l++res=(l++lnS 0 [[104,111,115,116,32],Fi x.name,[32,123]])++((x.rules.map (fun r=>Fu (toRl r))).flatten++lnS 0 [[125]])):=by
  show _=_;rw[<-N.o];simp only[Bl]
 generalize l++lnS 0 [[104,111,115,116,32],Fi x.name,[32,123]]=pre at*;have c1:w1.cell? ⟨f,2,S⟩=V (O Ai 0):=o.op;have f1:w1.frozen? ⟨f,2,S⟩=false:=o.fz;obtain⟨ae,ah⟩:=o.setOp (1:Ad);have J2:Y (WInv (w1.setCell ⟨f,2,S⟩ (O Ai 1)) f pre (1:Ad)):=ae;have K2:Y (Kept f wtags wa (w1.setCell ⟨f,2,S⟩ (O Ai 1))):=ag.trans ah;have ad:=K2.o.cell E.o (by decide);have u2:=cbi 1 ad;go_wp2_with fail
 go_loopw [22] (fun iv wr=>∃k:Ad,k<=Z x.rules/\iv=O Ai k/\Y (WInv wr f (pre++((x.rules.take k).map (fun r=>Fu (toRl r))).flatten) (1:Ad))/\(Z (pre++((x.rules.take k).map (fun r=>Fu (toRl r))).flatten))<=80000000010000+110000000*k/\Y (Kept f wtags wa wr)) (fun iv _=>Z x.rules-(intOf iv).toNat)
 ·exact⟨0,Ax _,rfl,by rw[Gm,Fa,Ew,Cv];exact J2,by rw[Gm,Fa,Ew,Cv];omega,K2⟩
 ·
  obtain⟨k,hk,rfl,u,aw,v⟩:=hrel
  by_cases y:k<Z x.rules
  ·have aA:(k:Ak)<Z x.rules:=by omega
   obtain⟨p,ay,am,_,az⟩:=Bm HR.o (by omega);simp only[Au] at am;obtain⟨rfl,_,rfl⟩:=am;have an:=vP HR.o v.o (by decide);obtain⟨ce,ak,al⟩:=aE HA.o k y;have g:=ak.kept v.o;have B:=t.o x.rules[k] (Cr y);have Q:=kL (fun r=>Fu (toRl r)) x.rules k y pre;have av:=R.lines_len _ B;have d:∀j,j<7->wr.cell? ⟨p,k*7+j,S⟩=ce[j]?:=fun j hj=>by
    rw[Ap an (k*7+j) (by omega)];exact al j hj
   generalize x.rules[k]=r at*;obtain⟨vM,vT,vS,vD,rfl,hM,aj,hS,hD⟩:=id g;obtain⟨m1,m2,rfl⟩:=zL hM;obtain⟨t1,t2,rfl⟩:=zL aj;obtain⟨x1,x2,rfl⟩:=zL hS;obtain⟨d1,d2,rfl⟩:=zL hD;have e0:wr.cell? ⟨p,k*7,S⟩=V (O Ai r.number):=d 0 (by omega);have e1:wr.cell? ⟨p,k*7+1,S⟩=V (I (Aa r.path)):=d 1 (by omega);have e2:wr.cell? ⟨p,k*7+2,S⟩=V (X m1 (Z r.ms) m2):=d 2 (by omega);have e3:wr.cell? ⟨p,k*7+3,S⟩=V (X t1 (Z r.tg) t2):=d 3 (by omega);have e4:wr.cell? ⟨p,k*7+4,S⟩=V (I (Aa r.rep)):=d 4 (by omega);have e5:wr.cell? ⟨p,k*7+5,S⟩=V (X x1 (Z r.sets) x2):=d 5 (by omega);have e6:wr.cell? ⟨p,k*7+6,S⟩=V (X d1 (Z r.drops) d2):=d 6 (by omega);have ar:Y (Am prog 106 #[Al (V ⟨f,0,S⟩),Fe #[O Ai r.number,I (Aa r.path),X m1 (Z r.ms) m2,X t1 (Z r.tg) t2,I (Aa r.rep),X x1 (Z r.sets) x2,X d1 (Z r.drops) d2]] (wr.alloc (Ae #[O Ai r.number,I (Aa r.path),X m1 (Z r.ms) m2,X t1 (Z r.tg) t2,I (Aa r.rep),X x1 (Z r.sets) x2,X d1 (Z r.drops) d2] 213)) fun e w'=>e=Af (Cm #[])/\WInv w' f (pre++((x.rules.take (k+1)).map (fun r=>Fu (toRl r))).flatten) (1:Ad)/\Kept f wtags wa w'/\(Z (pre++((x.rules.take (k+1)).map (fun r=>Fu (toRl r))).flatten))<=80000000010000+110000000*(k+1)):=by
    have gB:wr.grownBy (wr.alloc (Ae #[O Ai r.number,I (Aa r.path),X m1 (Z r.ms) m2,X t1 (Z r.tg) t2,I (Aa r.rep),X x1 (Z r.sets) x2,X d1 (Z r.drops) d2] 213)) S:=Ac _ _ S;refine(zfS (u.o.grown gB) _ r (g.keep gB (za _ _)) B (by omega) ((ab.o.kept v.o F.o).grown gB) F.o).mono ?_;rintro e w' ⟨rfl,q1,q2⟩;rw[Q];exact⟨rfl,q1,(v.o.trans (xJ gB)).trans q2,by rw[Ah];omega⟩
   go_wp2_with (go_at_call 106;refine ar.o.mono ?_;rintro e w2 ⟨rfl,h2,h3,h4⟩)
   go_roundw
   ·exact⟨k+1,by omega,by go_num,h2,h4,h3⟩
   ·simp[intOf];omega
  ·have HE:k=Z x.rules:=by omega
   subst HE;rw[Ia] at u aw;have aq:Y (l++res=(pre++(x.rules.map (fun r=>Fu (toRl r))).flatten)++lnS 0 [[125]]):=by
    show _=_;rw[aa.o];simp only[Bl]
   generalize pre++(x.rules.map (fun r=>Fu (toRl r))).flatten=pre8 at*;have c8:wr.cell? ⟨f,2,S⟩=V (O Ai 1):=u.o.op;have f8:wr.frozen? ⟨f,2,S⟩=false:=u.o.fz;obtain⟨af,ai⟩:=u.o.setOp (0:Ad);have J8:Y (WInv (wr.setCell ⟨f,2,S⟩ (O Ai 0)) f pre8 (0:Ad)):=af;have K8:Y (Kept f wtags wa (wr.setCell ⟨f,2,S⟩ (O Ai 0))):=v.o.trans ai;have ap:Y (Am prog 104 #[Al (V ⟨f,0,S⟩),X (V ⟨wr.heap.size,0,S⟩) 1 1] ((wr.setCell ⟨f,2,S⟩ (O Ai 0)).alloc (Ae #[I ⟨#[125]⟩] 9)) fun e w'=>e=Af (Cm #[])/\WInv w' f (pre8++lnS 0 [[125]]) (0:Ad)/\Kept f wtags wa w'):=by
    have h:=jV J8.o K8.o [[125]] (by decide) (by omega) (by simp) (by simp);rw[show(wr.setCell ⟨f,2,S⟩ (O Ai 0)).heap.size=wr.heap.size by simp[Bs]] at h;exact h
   go_wp2_with fail;refine ap.o.mono ?_;rintro e w9 ⟨rfl,h2,h3⟩;go_wp2
   go_end0
   rw[aq.o];exact⟨rfl,h2,ao.o.trans h3⟩
theorem PHostVal.kept {d:A Aj}{x:P.Hst}(h:PHostVal w d x)(f:Kept B wtags w w'):PHostVal w' d x:=by
 obtain⟨j,e,c,g,i⟩:=h;exact⟨j,e,c,vP g f (by decide),i.map fun a b hab=>hab.kept f⟩
theorem aH (x:Fp):Ex x≠[]:=by unfold Ex;simp
theorem pQ (x:Fp)(a:Qn x):Z (Ex x)<=440000010000:=by
 have b:Z (x.rules.map Fu).flatten<=Z x.rules*110000000:=Od _ _ _ (fun r hr=>R.lines_len r (a.rules.2 r hr))
 grind[Fu,Od,R.lines_len,Ex,List.length_append,Fy,List.length_cons,List.length_nil,Fp,Qn]
theorem eU (f:α->A Ab)(l:A α)(k:Ad):Z ((l.take k).map f).flatten<=Z (l.map f).flatten:=by grind[List.take_append_drop,List.flatten_append,List.length_append]
theorem ze6 (a:A P.Hst)(c:Z a<=12)(b:∀h∈a,Qn (toR h)):Z (a.map fun h=>Ex (toR h)).flatten<=79000000000000:=by
 have h:=Od (fun h:P.Hst=>Ex (toR h)) 440000010000 a (fun x hx=>pQ _ (b x hx))
 omega
abbrev Gj0:=Ae #[Al S,X S 0 0,O Ai 0] 143
abbrev Gj4 (a b c d):=Ae #[I (Aa b),X c a d] 146
abbrev Gj7 (a b c):=Ae #[X b a c] 88
theorem tu (v:Aj)(d:A P.Hst)(hH:PHostsRow w 0 v d)(am:Z d<=4000)(hn:Z (d.map fun h=>Ex (toR h)).flatten<=79000000000000)(o:∀h∈d,Qn (toR h))(hT:GT w):Am prog 42 #[Fe #[v]] w fun e w'=>e=Af (I (Aa (Ic (d.map toR))))/\w.grownBy w' S:=by
 obtain⟨ah,n,p⟩:=hH;obtain⟨l,f,rfl⟩:=zL n;have H:w.grownBy ((w.alloc (Gj7 (Z d) l f)).alloc Gj0) S:=zD (Ac _ _ S) (Ac _ _ S);have C:Y (((w.alloc (Gj7 (Z d) l f)).alloc Gj0).heap[w.heap.size]?=V (Gj7 (Z d) l f)):=zE (Bn w (Gj7 (Z d) l f)) (Ac _ _ S) (by simp);have s:Y (((w.alloc (Gj7 (Z d) l f)).alloc Gj0).heap[w.heap.size+1]?=V Gj0):=by
  have:=Bn (w.alloc (Gj7 (Z d) l f)) Gj0;rw[show(w.alloc (Gj7 (Z d) l f)).heap.size=w.heap.size+1 by simp] at this;exact this
 have J0:Y (WInv ((w.alloc (Gj7 (Z d) l f)).alloc Gj0) (w.heap.size+1) [] (0:Ad)):=Ay ⟨_,s.o,Bk _ _ _ _⟩;have r:=J (hT.grown H);have y:Y (GTB (w.heap.size+1)):=fun g e=>Nat.lt_succ_of_lt (hT.bound g e)
 have z:Y (Kept (w.heap.size+1) wtags w ((w.alloc (Gj7 (Z d) l f)).alloc Gj0)):=xJ H;have HR:=J (zK n H (fun k hk c=>by cases c));have HA:Y (All2 (PHostVal ((w.alloc (Gj7 (Z d) l f)).alloc Gj0)) ah d):=p.map fun a b hab=>hab.keep H (za _ _)
 have K0:Y (Kept (w.heap.size+1) wtags ((w.alloc (Gj7 (Z d) l f)).alloc Gj0) ((w.alloc (Gj7 (Z d) l f)).alloc Gj0)):=Kept.refl _ _ _;have q:=J (o);have F:=J (hn);have E:=J (nK d);have u0:=cbi 0 C.o;generalize Ic (d.map toR)=res at*;go_in;go_wp2_with fail;generalize((w.alloc (Gj7 (Z d) l f)).alloc Gj0)=wa at*
 go_loopw [9] (fun iv wr=>∃k:Ad,k<=Z d/\iv=O Ai k/\Y (WInv wr (w.heap.size+1) ((d.take k).map (fun h=>Ex (toR h))).flatten (0:Ad))/\Y (Kept (w.heap.size+1) wtags wa wr)/\Y (k=0->wr.heap[w.heap.size+1]?=V Gj0)) (fun iv _=>Z d-(intOf iv).toNat)
 ·exact⟨0,Ax _,rfl,by rw[Gm,Fa,Ew];exact J0,K0,fun _=>s.o⟩
 ·
  obtain⟨k,hk,rfl,JR,t,HZ⟩:=hrel
  by_cases u:k<Z d
  ·have al:(k:Ak)<Z d:=by omega
   obtain⟨gm,aj,ab,_,ak⟩:=Bm HR.o (by omega);simp only[Au] at ab;obtain⟨rfl,_,rfl⟩:=ab;have ad:=vP HR.o t.o (by decide);obtain⟨ce,Q,aa⟩:=mo HA.o k u;have m:=Q.kept t.o;have o:=q.o d[k] (Cr u);have B:=v7 (fun h=>Ex (toR h)) d k u;have ai:Z ((d.take k).map (fun h=>Ex (toR h))).flatten<=79000000000000:=Bi (eU _ d k) F.o;have i:∀j,j<2->wr.cell? ⟨gm,k*2+j,S⟩=ce[j]?:=fun j hj=>by
    rw[Ap ad (k*2+j) (by omega)];exact aa j hj
   generalize d[k]=x at*;obtain⟨vR,rfl,N⟩:=id m;obtain⟨r1,r2,rfl⟩:=uU N;have e0:wr.cell? ⟨gm,k*2,S⟩=V (I (Aa x.name)):=i 0 (by omega);have e1:wr.cell? ⟨gm,k*2+1,S⟩=V (X r1 (Z x.rules) r2):=i 1 (by omega);have ae:Y (Am prog 68 #[Al (V ⟨w.heap.size+1,0,S⟩),Fe #[I (Aa x.name),X r1 (Z x.rules) r2]] (wr.alloc (Gj4 (Z x.rules) x.name r1 r2)) fun e w'=>e=Af (Cm #[])/\WInv w' (w.heap.size+1) ((d.take (k+1)).map (fun h=>Ex (toR h))).flatten (0:Ad)/\Kept (w.heap.size+1) wtags wa w'):=by
    have gB:wr.grownBy (wr.alloc (Gj4 (Z x.rules) x.name r1 r2)) S:=Ac _ _ S;refine(zfR (JR.o.grown gB) _ x (m.keep gB (za _ _)) o (by omega) ((r.o.kept t.o y.o).grown gB) y.o).mono ?_;rintro e w' ⟨rfl,q1,q2⟩;rw[B];exact⟨rfl,q1,(t.o.trans (xJ gB)).trans q2⟩
   go_wp2_with (go_at_call 68;refine ae.o.mono ?_;rintro e w2 ⟨rfl,f,h3⟩)
   go_roundw
   ·exact⟨k+1,by omega,by go_num,f,h3,fun h=>absurd h (by omega)⟩
   ·simp[intOf];omega
  ·have HE:k=Z d:=by omega
   subst HE;have ag:Y (Am prog 69 #[Al (V ⟨w.heap.size+1,0,S⟩)] wr fun e w'=>e=Af (I (Aa res))/\Kept (w.heap.size+1) wtags wr w'):=by
    show Am _ _ _ _ _;have hJ:=JR.o;rw[Ia] at hJ;rw[E.o]
    by_cases h0:Z d=0
    ·have he:d=[]:=Ep.1 h0
     subst he;exact eG (HZ.o rfl)
    ·refine oL hJ (fun hc=>?_)
     match d,h0,hc with
     |x::xs,_,hc=>
      rw[Er,Ci] at hc;exact aH _ (List.append_eq_nil_iff.1 hc).1
   have af:=J (z.o.trans t.o);go_wp2_with (go_at_call 69;refine ag.o.mono ?_;rintro e w2 ⟨rfl,g2⟩);go_ret;exact⟨rfl,(af.o.trans g2).grown (Nat.le_succ _)⟩
def jT (l:A Ab):A Ab:=if (xg l).1=0 then Ic (qx (Gw l).1) else []
theorem m8 (h:(xA l).1=0):Z l<=3000/\(zp l).2.broken=false/\(zp l).2.err=0:=by grind[xA,wg,zp]
theorem mx (h:(xA l).1=0):(xA l).2=0:=by grind[xA,yV]
theorem zi0 {a:A P.Hst}(h:(xA l).1=0)(b:SrtH (zp l).1 a):jT l=Ic (a.map toR)/\(Z a)<=12/\(∀h∈a,Qn (toR h)):=by grind[m8,co,zcB,gd,toR,List.mem_map_of_mem,jT,vg,P.Hst,xA,SrtH,zp,Ic,Qn]
theorem zeU (s:As)(w:Ag)(x:s.size<=Bh)(H:Glob w)(N:GT w):Am prog 17 #[I s] w fun e w'=>e=Af (Cm #[I (Aa (jT s.data.toList)),O Ai (xg s.data.toList).1,O Ai (xg s.data.toList).2])/\w.grownBy w' S:=by
 have m:Y (Am prog 41 #[I s] w fun e w'=>∃i j vc,e=Af (Cm #[Fe #[X i j vc],O Ai (xA s.data.toList).1,O Ai (xA s.data.toList).2])/\w.grownBy w' S/\((xA s.data.toList).1=0->∃a,PHostsRow w' 0 (X i j vc) a/\SrtH (zp s.data.toList).1 a)):=by
  refine(o5 s w x H (fun q r h3=>oO _ (by rw[Cp];exact q) r h3)).mono ?_;rintro e w' ⟨v,rfl,q,r,i,j,vc,rfl⟩;exact⟨i,j,vc,rfl,q,r⟩
 have d:Y (∀a,(xA s.data.toList).1=0->SrtH (zp s.data.toList).1 a->jT s.data.toList=Ic (a.map toR)/\(Z a)<=12/\(∀h∈a,Qn (toR h))):=fun a q r=>zi0 q r
 have c:Y ((xA s.data.toList).1≠0->jT s.data.toList=[]):=fun h=>by
  unfold jT;rw[Aw (by rw[<-vg];exact h)]
 have o:Y ((xA s.data.toList).1=0->(xA s.data.toList).2=0):=mx;have HT:=J (N);rw[<-vg];clear N H;generalize jT s.data.toList=pt at*;generalize xA s.data.toList=er at*;generalize zp s.data.toList=rd at*;obtain⟨p,aa⟩:=er;simp only at m d c o ⊢;go_in;go_wp2_with fail;refine m.o.mono ?_;rintro e F ⟨i,j,vc,rfl,u,y⟩;have k:=J (u);have l:=J y;have b:Y (F.grownBy (F.alloc (Ae #[X i j vc] 88)) S):=Ac _ _ S;clear u y
 by_cases n:p=0
 ·subst n
  have t:=o.o rfl;subst t;obtain⟨a,f,g⟩:=l.o rfl;obtain⟨Q,q2,E⟩:=d.o a rfl g;have C:Y (Am prog 42 #[Fe #[X i j vc]] (F.alloc (Ae #[X i j vc] 88)) fun e w'=>e=Af (I (Aa pt))/\w.grownBy w' S):=by
   rw[Q];exact(tu _ a (PHostsRow.keep f b.o (za _ _)) (by omega) (ze6 _ q2 E) E ((HT.o.grown k.o).grown b.o)).mono fun e w' ⟨k1,k2⟩=>⟨k1,zD (zD k.o b.o) k2⟩
  clear Q q2 E f g;go_wp2_with (go_at_call 42;refine C.o.mono ?_;rintro e w2 ⟨rfl,g2⟩)
  go_ret3
  exact⟨rfl,g2⟩
 ·have B:=J (c.o n)
  have ab:(p != 0)=true:=by rw[Qv];exact n
  have z:=J (zD k.o b.o);go_wp2
  go_ret3
  exact⟨by rw[B.o];rfl,z.o⟩
theorem tD (n:Ak)(w:Ag):Am prog 36 #[O Ai n] w fun e w'=>e=Af (O Ai n)/\w'=w:=by
 go_in;go_wp2;go_ret;exact⟨rfl,rfl⟩
theorem nD (s:As)(w:Ag)(d:s.size<=Bh)(t:Glob w)(u:GT w):Am prog 14 #[I s] w fun e w'=>e=Af (Av true)/\w.grownBy w' S:=by
 have g:=J (zeU s w d t u);have j:Y (∀W,Am prog 34 #[I s] W fun e w'=>∃v,e=Af (Cm #[v,O Ai (xg s.data.toList).1,O Ai (xg s.data.toList).2])/\Below W.heap.size W w'/\((xg s.data.toList).1=0->HostsRow w' W.heap.size v (qx (Gw s.data.toList).1))):=fun W=>bA s W d
 have c:Y ((xg s.data.toList).1=0->jT s.data.toList=Ic (qx (Gw s.data.toList).1)/\(Z (qx (Gw s.data.toList).1))<=4/\∀h∈qx (Gw s.data.toList).1,Qn h):=fun h=>by
  obtain⟨C,E,F⟩:=m8 (by rw[vg];exact h);obtain⟨H,_⟩:=co _ C E F;exact⟨by unfold jT;rw[Az h],gd H⟩
 have b:Y ((xg s.data.toList).1≠0->jT s.data.toList=[]):=fun h=>by unfold jT;rw[Aw h]
 generalize jT s.data.toList=pt at*;generalize xg s.data.toList=er at*;generalize qx (Gw s.data.toList).1=hs at*;obtain⟨a,z⟩:=er;simp only at g j c b;have r:Y (∀W,Am prog 36 #[O Ai a] W fun e w'=>e=Af (O Ai a)/\w'=W):=fun W=>tD a W
 go_in;go_wp2_with fail;refine g.o.mono ?_;rintro e w1 ⟨rfl,n⟩;have f:=J (n);go_wp2_with fail;refine(j.o w1).mono ?_;rintro e w2 ⟨v,rfl,m,o⟩;have l:=J (zD f.o (zt m));have i:=J o
 by_cases k:a=0
 ·subst k
  obtain⟨x,q2,y⟩:=c.o rfl;have q:Y (Am prog 35 #[v] w2 fun e w'=>e=Af (I (Aa pt))/\w.grownBy w' S):=by
   rw[x];exact(sS v hs (i.o rfl) (by omega) y).mono fun e w' ⟨k1,k2⟩=>⟨k1,zD l.o k2⟩
  go_wp2_with (first
   |(go_at_call 35;refine q.o.mono ?_;rintro e w3 ⟨rfl,B⟩)
   |(go_at_call 36;refine(r.o _).mono ?_;rintro e w' ⟨rfl,rfl⟩))
  go_ret;exact⟨rfl,B⟩
 ·have p:=J (b.o k)
  have Q:Aa pt=⟨#[]⟩:=by rw[p.o];rfl
  have N:(a == 0)=false:=by rw[Ch];exact k
  go_wp2_with (go_at_call 36;refine(r.o _).mono ?_;rintro e w' ⟨rfl,rfl⟩);go_ret;exact⟨rfl,l.o⟩
theorem Glob.grown (h:Glob w)(a:w.grownBy w' S):Glob w':=h.keep a (by simp)
theorem dO:(⟨([104,111,115,116,32,34,65,46,98,34,123,114,117,108,101,32,55,123,112,97,116,104,34,47,120,34,59,116,111,34,117,34,49,44,34,118,34,50,59,114,101,112,108,97,99,101,34,47,34,59,125,114,117,108,101,32,57,123,112,97,116,104,34,47,34,59,116,111,34,117,34,49,44,34,118,34,48,59,125,125]:A Ab).toArray⟩:As).size=80:=by decide
theorem vJ (b o i:Ad):(⟨b,o,S⟩:Eu).add i=⟨b,o+i,S⟩:=by unfold Addr.add;split <;> simp_all
def Rd (w:Ag)(v:Aj)(l:A Ab):Prop:=
 (v=X S 0 0/\l=[])\/∃g c,v=X (V ⟨g,0,S⟩) (Z l) c/\g<w.heap.size/\∀j u,(Ba l)[j]?=V u->w.cell? ((⟨g,0,S⟩:Eu).add j)=V u
theorem Rd.keep (h:Rd w v l)(a:w.grownBy w' S):Rd w' v l:=by
 rcases h with h|⟨g,c,h1,h2,h3⟩
 ·exact Ay h
 ·exact Bf ⟨g,c,h1,Eh h2 a.size,fun j u hu=>a.cell (h3 j u hu) (by simp)⟩
theorem Rd.of_row (h:w.ownsRow B 5 1 v (Z l) (Ba l)):Rd w v l:=by
 rcases h.2 with ⟨h1,h2⟩|⟨g,cap,cur,hv,hB,hb,r⟩
 ·exact Ay ⟨h1,Ep.1 h2⟩
 ·refine Bf ⟨g,cap,hv,zO hb,fun j u hu=>?_⟩
  subst hv;have a:j<Z l:=by have:=(Bo.1 hu).1;simpa[Ba] using this
  rw[vJ,Gr,Ap h j (by omega)];exact hu
theorem vo (l:A Ab):∀u∈Ba l,u.oneCell'=true:=by
 intro u a;unfold Ba at a;obtain⟨b,_,rfl⟩:=Hr.1 a
 rfl
theorem xU (l:A Ab):Z (Ba l)=Z l:=by unfold Ba;simp
def xW (ls:A (A Ab)):A Ab:=ls.flatten
def yS (ls:A (A Ab))(i:Ad):A Ab:=(ls.take i).flatten
theorem ef (a:A (A Ab)):yS a (Z a)=xW a:=by simp_all[yS,xW]
theorem sq (a:A (A Ab))(i:Ad)(h:i<Z a):yS a (i+1)=yS a i++a[i]:=by grind[yS,List.take_succ_eq_append_getElem,List.flatten_append]
theorem zaA (a:A (A Ab))(i:Ad):Z (yS a i)<=Z (xW a):=by grind[yS,xW,List.take_append_drop,List.flatten_append,List.length_append]
theorem zbR (g c:Ad)(f:A Aj)(b:A (A Ab))(N:w.heap[g]?=V (Ae f.toArray 32 (0,0)))(t:All2 (Rd w) f b)(hl:Z (xW b)<=100000000000000)(hn:Z f<=1000):Am prog 70 #[X (V ⟨g,0,S⟩) (Z f) c] w fun e w'=>∃a k,e=Af (X a (Z (xW b)) k)/\w'.ownsRow w.heap.size 5 1 (X a (Z (xW b)) k) (Z (xW b)) (Ba (xW b))/\w.grownBy w' S:=by
 obtain⟨Q,H,z,B,C⟩:=Ej jD;have E:=J (N);have F:=J (t);have l:=J (t.len);go_in;go_wp2
 go_loopw [3,8] (fun sv iv wr=>∃i:Ad,i<=Z f/\iv=O Ai i/\(∃a k,sv=X a (Z (yS b i)) k/\Y (wr.ownsRow w.heap.size 5 1 (X a (Z (yS b i)) k) (Z (yS b i)) (Ba (yS b i))))/\Y (w.grownBy wr S)) (fun _ iv _=>Z f-(intOf iv).toNat)
 ·exact⟨0,Ax _,rfl,⟨S,0,rfl,Bk _ _ _ _⟩,zP _ _⟩
 ·
  obtain⟨i,ad,rfl,⟨a,k,rfl,o⟩,n⟩:=hrel
  by_cases q:i<Z f
  ·have ab:(i:Ak)<Z f:=by omega
   have d0:wr.cell? ⟨g,i,S⟩=V f[i]:=by
    refine n.o.cell (a:=⟨g,i,S⟩) ?_ (by simp);rw[zB E.o];simp[q]
   have u:=(F.o.get i q (by have:=l.o;omega)).keep n.o;have aa:i<Z b:=by have:=l.o;omega
   have j:Y (yS b (i+1)=yS b i++b[i]):=by
    exact sq b i (by have:=l.o;omega)
   have p:=Bi (zaA b (i+1)) hl;rw[j.o,Ah] at p;have y:=n.o.size;generalize f[i]=v at*;generalize b[i]=x at*;rcases u with ⟨rfl,rfl⟩|⟨gx,cx,rfl,hgx,hcx⟩
   ·have m:Y (yS b (i+1)=yS b i):=by show _=_;rw[j.o,Cv]
    go_wp2_with (at_builtin;refine wpList_append_own_none rfl _ _ 32 rfl w.heap.size 5 Q 1 underlying32 H _ _ _ rfl o.o rfl ?_);go_wp2
    go_roundw
    ·exact⟨i+1,by omega,by go_num,⟨a,k,by rw[m.o],by rw[m.o];exact o⟩,n⟩
    ·simp[intOf];omega
   ·have HC:=J (hcx)
    go_wp2_with (at_builtin;refine Cu _ rfl _ _ 32 rfl w.heap.size 5 Q _ 1 1 underlying32 H z B C rfl (by decide) _ _ _ rfl o.o ⟨gx,0,S⟩ (Z x) cx (Ba x) rfl ?a1 HC.o (vo x) ?a4 ?a5 y ?_)
    ·rw[xU,Nx]
    ·unfold Bh;omega
    ·omega
    intro v' w2 d h _;obtain⟨va,vc,rfl⟩:=zL d;have s:Y (w2.ownsRow w.heap.size 5 1 (X va (Z (yS b (i+1))) vc) (Z (yS b (i+1))) (Ba (yS b (i+1)))):=by
     show Ib _ _ _ _ _ _ _;rw[j.o,Ah,Hl];exact d
    have r:=J (qI n.o h (fun k hk=>(An o.o k hk).1));have HV:Y (Z (yS b i)+Z x=Z (yS b (i+1))):=by show _=_;rw[j.o,Ah]
    go_wp2
    go_roundw
    ·exact⟨i+1,by omega,by go_num,⟨va,vc,by rw[HV.o],s⟩,r⟩
    ·simp[intOf];omega
  ·have hE:i=Z f:=by omega
   subst hE;have HJ:Y (yS b (Z f)=xW b):=by show _=_;rw[l.o];exact ef b
   rw[HJ.o] at o ⊢;go_wp2;go_ret;exact⟨a,k,rfl,o.o,n.o⟩
def Gives (w:Ag)(l:A Ab)(e:Ending)(w':Ag):Prop:=
 ∃a k,e=Af (X a (Z l) k)/\w'.ownsRow w.heap.size 5 1 (X a (Z l) k) (Z l) (Ba l)/\w.grownBy w' S
theorem uY (w:Ag)(l:A Ab)(a:Z l<=1000000):(w.alloc (Ae (Ba l).toArray 5)).ownsRow w.heap.size 5 1 (X (V ⟨w.heap.size,0,S⟩) (Z l) (Z l)) (Z l) (Ba l):=by
 refine⟨by rw[xU,Nx],Bf ⟨w.heap.size,Z l,(Ba l).toArray,rfl,Aq _,Bn _ _,Aq _,by unfold Bh;omega,by simp[xU],?_⟩⟩;rw[Cc (by simp[xU])]
theorem kC (n:Ad)(w:Ag):Am prog 107 #[O Ai n] w (Gives w [Cb n]):=by
 have a:Y ((Cb n).toNat=n % 256):=by show _=_;rw[Qc]
 go_in;go_wp2;go_ret;refine⟨V ⟨w.heap.size,0,S⟩,1,rfl,?_,Ac _ _ _⟩;have h:=uY w [Cb n] (by simp);unfold Ba at h ⊢;simp only[Er,Fa] at h ⊢;rw[a.o] at h ⊢;exact h
theorem ke {base:Ad}{e:TypeId}{b:Ad}{c:A Aj}(h:w.ownsRow base e b v n c)(d:a<=base):w.ownsRow a e b v n c:=
 ⟨h.1,h.2.imp id fun⟨g,cap,cur,h1,h2,h3⟩=>⟨g,cap,cur,h1,Bi d h2,h3⟩⟩
theorem yZ {w0 W:Ag}(g:w0.grownBy W S)(c:A Aj)(d:A (A Ab))(l:All2 (Rd W) c d)(m:Z (xW d)<=1000000)(n:Z c<=100):Am prog 70 #[X (V ⟨W.heap.size,0,S⟩) (Z c) (Z c)] (W.alloc (Ae c.toArray 32)) (Gives w0 (xW d)):=by
 have f:W.grownBy (W.alloc (Ae c.toArray 32)) S:=Ac _ _ _;refine(zbR W.heap.size (Z c) c d (Bn _ _) (l.map fun a b hab=>hab.keep f) (by omega) (by omega)).mono ?_;rintro e w' ⟨a,k,h,i,j⟩;exact⟨a,k,h,ke i (Bi g.size (by simp)),zD (zD g f) j⟩
theorem zm2 (n:Ad):Cb (n % 256)=Cb n:=by grind[UInt8.toNat_inj,UInt8.toNat_ofNat']
theorem zjA (n:Ad):xW [[Cb n],[Cb (n / 256)]]=qc n:=by grind[xW,qc,zm2]
theorem eE (n:Ad)(w:Ag):Am prog 111 #[O Ai n] w (Gives w (qc n)):=by
 go_in;go_wp2_with fail;refine(kC n w).mono ?_;rintro e x ⟨i,o,rfl,l,k⟩;have a:=J (Rd.of_row l);have f:=J (k);go_wp2_with fail;refine(kC (n / 256) x).mono ?_;rintro e q ⟨j,p,rfl,m,d⟩;have c:=J (Rd.of_row m);have b:=J (a.o.keep d);have r:=J (zD f.o d);go_wp2_with fail;have g:Y (Am prog 70 #[X (V ⟨q.heap.size,0,S⟩) 2 2] (q.alloc (Ae #[X i 1 o,X j 1 p] 32)) (Gives w (qc n))):=by
  have h:=yZ r.o [X i 1 o,X j 1 p] [[Cb n],[Cb (n / 256)]] (.cons b.o (.cons c.o .nil)) (by unfold xW;simp) (by simp);rw[zjA n] at h;exact h
 refine g.o.mono ?_;rintro e y ⟨s,v,rfl,u,t⟩;go_wp2;go_ret;exact⟨s,v,rfl,u,t⟩
theorem Rd.bytes (w:Ag)(s:As)(c:Ad):Rd (Na w 5 s) (X (V ⟨w.heap.size,0,S⟩) s.size c) s.data.toList:=by
 refine Bf ⟨w.heap.size,c,by rw[Cp],by rw[Lib.bytesWorld_size];omega,fun j u hu=>?_⟩;rw[vJ,Gr];unfold Ba at hu;rw[Fq] at hu
 cases hq:s.data.toList[j]? with
 |none=>rw[hq] at hu;cases hu
 |some b=>rw[hq] at hu;cases hu;exact(BytesAt.new w s).cell hq
theorem ziA (s:As)(w:Ag)(t:s.size<=255):Am prog 108 #[I s] w (Gives w (zM s.data.toList)):=by
 have d:∀w,(Oh 9 32 (I s)).run prog w = .ok (X (V ⟨w.heap.size,0,S⟩) s.size (grownCap w s.size 0 5)) (Na w 5 s):=fun w=>Lib.run_convert_string_bytes (u:=.string) w _ _ _ s (by kernel_rfl) (by kernel_rfl) (by kernel_rfl)
 go_in;go_wp2_with fail;refine(kC s.size w).mono ?_;rintro e a ⟨j,m,rfl,l,k⟩;have b:=J (Rd.of_row l);have n:=J (k);have c:a.grownBy (Na a 5 s) S:=ww _ _ _;have i:=J (b.o.keep c);have f:=J (zD n.o c);have g:Y (Am prog 70 #[X (V ⟨(Na a 5 s).heap.size,0,S⟩) 2 2] ((Na a 5 s).alloc (Ae #[X j 1 m,X (V ⟨a.heap.size,0,S⟩) s.size (grownCap a s.size 0 5)] 32)) (Gives w (zM s.data.toList))):=by
  have h:=yZ f.o [X j 1 m,X (V ⟨a.heap.size,0,S⟩) s.size (grownCap a s.size 0 5)] [[Cb s.size],s.data.toList] (.cons i.o (.cons (Rd.bytes _ _ _) .nil)) (by unfold xW;simp;omega) (by simp);rw[show xW [[Cb s.size],s.data.toList]=zM s.data.toList by unfold xW zM;rw[Cp];simp] at h;exact h
 go_wp2_with fail;refine g.o.mono ?_;rintro e v ⟨o,r,rfl,q,p⟩;go_wp2;go_ret;exact⟨o,r,rfl,q,p⟩
theorem vt (l:A Ab)(w:Ag)(a:Z l<=255):Am prog 108 #[I (Aa l)] w (Gives w (zM l)):=by
 have h:=ziA (Aa l) w a;rw[Be] at h;exact h
def xc (b:Bool)(l:A Ab):A Ab:=if b then 1::zM l else [0]
theorem gW (b:Bool)(l:A Ab)(w:Ag)(y:Z l<=255):Am prog 166 #[Av b,I (Aa l)] w (Gives w (xc b l)):=by
 cases b
 ·go_in
  go_wp2_with fail;refine(kC 0 w).mono ?_;rintro e r ⟨f,j,rfl,i,g⟩;go_wp2;go_ret;exact⟨f,j,rfl,i,g⟩
 ·go_in
  go_wp2_with fail;refine(kC 1 w).mono ?_;rintro e r ⟨f,j,rfl,i,g⟩;have a:=J (Rd.of_row i);have m:=J (g);go_wp2_with fail;refine(vt l r y).mono ?_;rintro e s ⟨o,q,rfl,p,k⟩;have d:=J (Rd.of_row p);have c:=J (a.o.keep k);have t:=J (zD m.o k);go_wp2_with fail;have n:Y (Am prog 70 #[X (V ⟨s.heap.size,0,S⟩) 2 2] (s.alloc (Ae #[X f 1 j,X o (Z (zM l)) q] 32)) (Gives w (xc true l))):=by
   have h:=yZ t.o [X f 1 j,X o (Z (zM l)) q] [[1],zM l] (.cons c.o (.cons d.o .nil)) (by unfold xW zM;simp;omega) (by simp);rw[show xW [[1],zM l]=xc true l by unfold xW xc;simp] at h;exact h
  refine n.o.mono ?_;rintro e B ⟨u,z,rfl,x,v⟩;go_wp2;go_ret;exact⟨u,z,rfl,x,v⟩
theorem oI (n:Ak)(w:Ag)(h:0<=n):Am prog 111 #[O Ai n] w (Gives w (qc n)):=by
 obtain⟨k,rfl⟩:=Sg h;exact eE k w
theorem qr (l:A Ab):Z (zM l)=Z l+1:=by unfold zM;simp
theorem kw (n:Ak):Z (qc n)=2:=rfl
theorem lO (b:Bool)(l:A Ab):Z (xc b l)<=Z l+2:=by unfold xc;split <;> simp[qr]
theorem join2 (a b:A Ab):xW [a,b]=a++b:=by unfold xW;simp
abbrev Gj1 (a b c d):=Rd a (X b (Z (zM c)) d) (zM c)
abbrev Gj6 (a b):=Ae #[I (Aa a),I (Aa b)] 280
abbrev Gja (a b c):=X a (Z (zM b)) c
theorem zi8 (t:A Ab×A Ab)(w:Ag)(j:Z t.1<=255)(l:Z t.2<=255):Am prog 168 #[Fe #[I (Aa t.1),I (Aa t.2)]] w (Gives w (K.st t)):=by
 have b:Y ((w.alloc (Gj6 t.1 t.2)).heap[w.heap.size]?=V (Gj6 t.1 t.2)):=Bn _ _;have c0:=cbi 0 b.o;have c1:=cbi 1 b.o;have g:Y (w.grownBy (w.alloc (Gj6 t.1 t.2)) S):=Ac _ _ _;have C1:Y (∀W,(w.alloc (Gj6 t.1 t.2)).grownBy W S->Am prog 108 #[I (Aa t.1)] W fun e w'=>∃a k,e=Af (Gja a t.1 k)/\Rd w' (Gja a t.1 k) (zM t.1)/\W.grownBy w' S/\(w.alloc (Gj6 t.1 t.2)).grownBy w' S/\w'.cell? ⟨w.heap.size,0,S⟩=V (I (Aa t.1))/\w'.cell? ⟨w.heap.size,1,S⟩=V (I (Aa t.2))):=fun W hW=>(vt t.1 W j).mono fun e w' ⟨a,k,j,l,h3⟩=>⟨a,k,j,Rd.of_row l,h3,zD hW h3,zB (zE b.o (zD hW h3) (by simp)),zB (zE b.o (zD hW h3) (by simp))⟩
 have C2:Y (∀W,(w.alloc (Gj6 t.1 t.2)).grownBy W S->Am prog 108 #[I (Aa t.2)] W fun e w'=>∃a k,e=Af (Gja a t.2 k)/\Rd w' (Gja a t.2 k) (zM t.2)/\W.grownBy w' S/\(w.alloc (Gj6 t.1 t.2)).grownBy w' S/\w'.cell? ⟨w.heap.size,0,S⟩=V (I (Aa t.1))/\w'.cell? ⟨w.heap.size,1,S⟩=V (I (Aa t.2))):=fun W hW=>(vt t.2 W l).mono fun e w' ⟨a,k,j,l,h3⟩=>⟨a,k,j,Rd.of_row l,h3,zD hW h3,zB (zE b.o (zD hW h3) (by simp)),zB (zE b.o (zD hW h3) (by simp))⟩
 have HJ:Y (∀W d f i m,(w.alloc (Gj6 t.1 t.2)).grownBy W S->Rd W (Gja d t.1 f) (zM t.1)->Rd W (Gja i t.2 m) (zM t.2)->Am prog 70 #[X (V ⟨W.heap.size,0,S⟩) 2 2] (W.alloc (Ae #[X d (Z (zM t.1)) f,X i (Z (zM t.2)) m] 32)) fun e w'=>Gives w (K.st t) e w'/\w'.cell? ⟨w.heap.size,0,S⟩=V (I (Aa t.1))/\w'.cell? ⟨w.heap.size,1,S⟩=V (I (Aa t.2))):=fun W d f i m hW q r=>by
  have h:=yZ hW [X d (Z (zM t.1)) f,X i (Z (zM t.2)) m] [zM t.1,zM t.2] (.cons q (.cons r .nil)) (by rw[join2,Ah,qr,qr];omega) (by simp);rw[show xW [zM t.1,zM t.2]=K.st t from join2 _ _] at h;refine Oq h fun e w' ⟨a,k,j,l,h3⟩=>⟨⟨a,k,j,ke l g.o.size,zD g.o h3⟩,zB (zE b.o h3 (by simp)),zB (zE b.o h3 (by simp))⟩
 go_in;go_wp2_with fail;generalize(w.alloc (Gj6 t.1 t.2))=wa at*
 go_region_held3 (fun W=>W.cell? ⟨w.heap.size,0,S⟩=V (I (Aa t.1))/\W.cell? ⟨w.heap.size,1,S⟩=V (I (Aa t.2))) (go_keep) (first
  |(go_at_call 108;show Am _ _ _ (Md wa) _;refine(C1.o _ (zV wa)).mono ?_;rintro e N ⟨d,f,rfl,q,g1,p,x,y⟩;have c:Y (Gj1 N d t.1 f):=q;have p:Y (wa.grownBy N S):=p;clear q g1)
  |(go_at_call 108;refine(C2.o _ p.o).mono ?_;rintro e u ⟨i,m,rfl,r,C,s,z,B⟩;have o:Y (Gj1 u i t.2 m):=r;have n:Y (Gj1 u d t.1 f):=c.o.keep C;have s:Y (wa.grownBy u S):=s;clear r C c p)
  |(go_at_call 70;refine(HJ.o _ d f i m s.o n.o o.o).mono ?_;rintro e Q ⟨⟨v,H,rfl,F,E⟩,z0,z1⟩;have HZ:Y (Q.ownsRow w.heap.size 5 1 (X v (Z (K.st t)) H) (Z (K.st t)) (Ba (K.st t))):=F;have GZ:Y (w.grownBy Q S):=E;clear F E))
 all_goals
  go_wp2;go_ret;exact⟨v,H,rfl,HZ.o,GZ.o⟩
theorem lz (t:A Ab×Ak)(w:Ag)(j:Z t.1<=255)(l:0<=t.2):Am prog 165 #[Fe #[I (Aa t.1),O Ai t.2]] w (Gives w (K.tg t)):=by
 have b:Y ((w.alloc (Gj2 t.1 t.2)).heap[w.heap.size]?=V (Gj2 t.1 t.2)):=Bn _ _;have c0:=cbi 0 b.o;have c1:=cbi 1 b.o;have g:Y (w.grownBy (w.alloc (Gj2 t.1 t.2)) S):=Ac _ _ _;have C1:Y (∀W,(w.alloc (Gj2 t.1 t.2)).grownBy W S->Am prog 108 #[I (Aa t.1)] W fun e w'=>∃a k,e=Af (Gja a t.1 k)/\Rd w' (Gja a t.1 k) (zM t.1)/\W.grownBy w' S/\(w.alloc (Gj2 t.1 t.2)).grownBy w' S/\w'.cell? ⟨w.heap.size,0,S⟩=V (I (Aa t.1))/\w'.cell? ⟨w.heap.size,1,S⟩=V (O Ai t.2)):=fun W hW=>(vt t.1 W j).mono fun e w' ⟨a,k,j,l,h3⟩=>⟨a,k,j,Rd.of_row l,h3,zD hW h3,zB (zE b.o (zD hW h3) (by simp)),zB (zE b.o (zD hW h3) (by simp))⟩
 have C2:Y (∀W,(w.alloc (Gj2 t.1 t.2)).grownBy W S->Am prog 111 #[O Ai t.2] W fun e w'=>∃a k,e=Af (X a (Z (qc t.2)) k)/\Rd w' (X a (Z (qc t.2)) k) (qc t.2)/\W.grownBy w' S/\(w.alloc (Gj2 t.1 t.2)).grownBy w' S/\w'.cell? ⟨w.heap.size,0,S⟩=V (I (Aa t.1))/\w'.cell? ⟨w.heap.size,1,S⟩=V (O Ai t.2)):=fun W hW=>(oI t.2 W l).mono fun e w' ⟨a,k,j,l,h3⟩=>⟨a,k,j,Rd.of_row l,h3,zD hW h3,zB (zE b.o (zD hW h3) (by simp)),zB (zE b.o (zD hW h3) (by simp))⟩
 have HJ:Y (∀W d f i m,(w.alloc (Gj2 t.1 t.2)).grownBy W S->Rd W (Gja d t.1 f) (zM t.1)->Rd W (X i (Z (qc t.2)) m) (qc t.2)->Am prog 70 #[X (V ⟨W.heap.size,0,S⟩) 2 2] (W.alloc (Ae #[X d (Z (zM t.1)) f,X i (Z (qc t.2)) m] 32)) fun e w'=>Gives w (K.tg t) e w'/\w'.cell? ⟨w.heap.size,0,S⟩=V (I (Aa t.1))/\w'.cell? ⟨w.heap.size,1,S⟩=V (O Ai t.2)):=fun W d f i m hW q r=>by
  have h:=yZ hW [X d (Z (zM t.1)) f,X i (Z (qc t.2)) m] [zM t.1,qc t.2] (.cons q (.cons r .nil)) (by rw[join2,Ah,qr,kw];omega) (by simp);rw[show xW [zM t.1,qc t.2]=K.tg t from join2 _ _] at h;refine Oq h fun e w' ⟨a,k,j,l,h3⟩=>⟨⟨a,k,j,ke l g.o.size,zD g.o h3⟩,zB (zE b.o h3 (by simp)),zB (zE b.o h3 (by simp))⟩
 go_in;go_wp2_with fail;generalize(w.alloc (Gj2 t.1 t.2))=wa at*
 go_region_held3 (fun W=>W.cell? ⟨w.heap.size,0,S⟩=V (I (Aa t.1))/\W.cell? ⟨w.heap.size,1,S⟩=V (O Ai t.2)) (go_keep) (first
  |(go_at_call 108;show Am _ _ _ (Md wa) _;refine(C1.o _ (zV wa)).mono ?_;rintro e N ⟨d,f,rfl,q,g1,p,x,y⟩;have c:Y (Gj1 N d t.1 f):=q;have p:Y (wa.grownBy N S):=p;clear q g1)
  |(go_at_call 111;refine(C2.o _ p.o).mono ?_;rintro e u ⟨i,m,rfl,r,C,s,z,B⟩;have o:Y (Rd u (X i (Z (qc t.2)) m) (qc t.2)):=r;have n:Y (Gj1 u d t.1 f):=c.o.keep C;have s:Y (wa.grownBy u S):=s;clear r C c p)
  |(go_at_call 70;refine(HJ.o _ d f i m s.o n.o o.o).mono ?_;rintro e Q ⟨⟨v,H,rfl,F,E⟩,z0,z1⟩;have HZ:Y (Q.ownsRow w.heap.size 5 1 (X v (Z (K.tg t)) H) (Z (K.tg t)) (Ba (K.tg t))):=F;have GZ:Y (w.grownBy Q S):=E;clear F E))
 all_goals
  go_wp2;go_ret;exact⟨v,H,rfl,HZ.o,GZ.o⟩
abbrev Gj3 (a b c):=Ae #[I (Aa a),Av b,I (Aa c)] 276
theorem zbT (m:P.Mt)(w:Ag)(j:Z m.name<=255)(l:Z m.val<=255):Am prog 163 #[Fe #[I (Aa m.name),Av m.ask,I (Aa m.val)]] w (Gives w (K.mt m)):=by
 have b:Y ((w.alloc (Gj3 m.name m.ask m.val)).heap[w.heap.size]?=V (Gj3 m.name m.ask m.val)):=Bn _ _;have c0:=cbi 0 b.o;have c1:=cbi 1 b.o;have c2:=cbi 2 b.o;have g:Y (w.grownBy (w.alloc (Gj3 m.name m.ask m.val)) S):=Ac _ _ _;have C1:Y (∀W,(w.alloc (Gj3 m.name m.ask m.val)).grownBy W S->Am prog 108 #[I (Aa m.name)] W fun e w'=>∃a k,e=Af (Gja a m.name k)/\Rd w' (Gja a m.name k) (zM m.name)/\W.grownBy w' S/\(w.alloc (Gj3 m.name m.ask m.val)).grownBy w' S/\w'.cell? ⟨w.heap.size,0,S⟩=V (I (Aa m.name))/\w'.cell? ⟨w.heap.size,1,S⟩=V (Av m.ask)/\w'.cell? ⟨w.heap.size,2,S⟩=V (I (Aa m.val))):=fun W hW=>(vt m.name W j).mono fun e w' ⟨a,k,j,l,h3⟩=>⟨a,k,j,Rd.of_row l,h3,zD hW h3,zB (zE b.o (zD hW h3) (by simp)),zB (zE b.o (zD hW h3) (by simp)),zB (zE b.o (zD hW h3) (by simp))⟩
 have C2:Y (∀W,(w.alloc (Gj3 m.name m.ask m.val)).grownBy W S->Am prog 166 #[Av m.ask,I (Aa m.val)] W fun e w'=>∃a k,e=Af (X a (Z (xc m.ask m.val)) k)/\Rd w' (X a (Z (xc m.ask m.val)) k) (xc m.ask m.val)/\W.grownBy w' S/\(w.alloc (Gj3 m.name m.ask m.val)).grownBy w' S/\w'.cell? ⟨w.heap.size,0,S⟩=V (I (Aa m.name))/\w'.cell? ⟨w.heap.size,1,S⟩=V (Av m.ask)/\w'.cell? ⟨w.heap.size,2,S⟩=V (I (Aa m.val))):=fun W hW=>(gW m.ask m.val W l).mono fun e w' ⟨a,k,j,l,h3⟩=>⟨a,k,j,Rd.of_row l,h3,zD hW h3,zB (zE b.o (zD hW h3) (by simp)),zB (zE b.o (zD hW h3) (by simp)),zB (zE b.o (zD hW h3) (by simp))⟩
 have HJ:Y (∀W d f i n,(w.alloc (Gj3 m.name m.ask m.val)).grownBy W S->Rd W (Gja d m.name f) (zM m.name)->Rd W (X i (Z (xc m.ask m.val)) n) (xc m.ask m.val)->Am prog 70 #[X (V ⟨W.heap.size,0,S⟩) 2 2] (W.alloc (Ae #[X d (Z (zM m.name)) f,X i (Z (xc m.ask m.val)) n] 32)) fun e w'=>Gives w (K.mt m) e w'/\w'.cell? ⟨w.heap.size,0,S⟩=V (I (Aa m.name))/\w'.cell? ⟨w.heap.size,1,S⟩=V (Av m.ask)/\w'.cell? ⟨w.heap.size,2,S⟩=V (I (Aa m.val))):=fun W d f i n hW r s=>by
  have h:=yZ hW [X d (Z (zM m.name)) f,X i (Z (xc m.ask m.val)) n] [zM m.name,xc m.ask m.val] (.cons r (.cons s .nil)) (by rw[join2,Ah,qr];have:=lO m.ask m.val;omega) (by simp);rw[show xW [zM m.name,xc m.ask m.val]=K.mt m by rw[join2];rfl] at h;refine Oq h fun e w' ⟨a,k,j,l,h3⟩=>⟨⟨a,k,j,ke l g.o.size,zD g.o h3⟩,zB (zE b.o h3 (by simp)),zB (zE b.o h3 (by simp)),zB (zE b.o h3 (by simp))⟩
 go_in;go_wp2_with fail;generalize(w.alloc (Gj3 m.name m.ask m.val))=wa at*
 go_region_held3 (fun W=>W.cell? ⟨w.heap.size,0,S⟩=V (I (Aa m.name))/\W.cell? ⟨w.heap.size,1,S⟩=V (Av m.ask)/\W.cell? ⟨w.heap.size,2,S⟩=V (I (Aa m.val))) (go_keep) (first
  |(go_at_call 108;show Am _ _ _ (Md wa) _;refine(C1.o _ (zV wa)).mono ?_;rintro e w1 ⟨d,f,rfl,r,g1,q,x,y,z⟩;have c:Y (Gj1 w1 d m.name f):=r;have q:Y (wa.grownBy w1 S):=q;clear r g1)
  |(go_at_call 166;refine(C2.o _ q.o).mono ?_;rintro e u ⟨i,n,rfl,s,F,t,B,C,E⟩;have p:Y (Rd u (X i (Z (xc m.ask m.val)) n) (xc m.ask m.val)):=s;have o:Y (Gj1 u d m.name f):=c.o.keep F;have t:Y (wa.grownBy u S):=t;clear s F c q)
  |(go_at_call 70;refine(HJ.o _ d f i n t.o o.o p.o).mono ?_;rintro e wZ ⟨⟨v,Q,rfl,N,H⟩,z0,z1,z2⟩;have HZ:Y (wZ.ownsRow w.heap.size 5 1 (X v (Z (K.mt m)) Q) (Z (K.mt m)) (Ba (K.mt m))):=N;have GZ:Y (w.grownBy wZ S):=H;clear N H))
 all_goals
  go_wp2;go_ret;exact⟨v,Q,rfl,HZ.o,GZ.o⟩
def zk (f:α->A Ab)(l:A α)(i:Ad):A Ab:=Cb (Z l)::((l.take i).map f).flatten
theorem jw (f:α->A Ab)(l:A α):zk f l (Z l)=zR f l:=by simp_all[zk,zR]
theorem jY (f:α->A Ab)(l:A α)(i:Ad)(h:i<Z l):xW [zk f l i,f l[i]]=zk f l (i+1):=by grind[join2,zk,List.take_succ_eq_append_getElem,List.flatten_append,xW]
theorem vf (f:α->A Ab)(l:A α)(i:Ad):Z (zk f l i)<=Z (zR f l):=by grind[zk,zR,List.take_append_drop,List.flatten_append]
theorem zf0 (l:A P.Mt)(v:Aj)(c:w.ownsRow 0 276 3 v (Z l) (xe l))(hn:Z l<=255)(hv:∀x∈l,Z x.name<=255/\(Z x.val)<=255)(d:Z (zR K.mt l)<=900000):Am prog 162 #[.func (.func 163) #[] #[],v] w (Gives w (zR K.mt l)):=by
 obtain⟨va,vc,rfl⟩:=zL c;have q:=J (c);have C:=J (hv);have o:=J (d);go_in;go_wp2_with fail;refine(kC (Z l) w).mono ?_;rintro e w0 ⟨a0,k0,rfl,h0,N⟩;have p:=J (h0);have m:=J (N);go_wp2_with fail
 go_loopw [5,13] (fun sv iv wr=>∃i:Ad,i<=Z l/\iv=O Ai i/\(∃a k,sv=X a (Z (zk K.mt l i)) k/\Y (wr.ownsRow w.heap.size 5 1 (X a (Z (zk K.mt l i)) k) (Z (zk K.mt l i)) (Ba (zk K.mt l i))))/\Y (w.grownBy wr S)) (fun _ iv _=>Z l-(intOf iv).toNat)
 ·exact⟨0,Ax _,rfl,⟨a0,k0,rfl,p⟩,m⟩
 ·
  obtain⟨i,ae,rfl,⟨a,k,rfl,t⟩,j⟩:=hrel
  by_cases b:i<Z l
  ·have ad:(i:Ak)<Z l:=by omega
   obtain⟨gt,aa,s,_,ab⟩:=Bm q.o (by omega);simp only[Au] at s;obtain⟨rfl,_,rfl⟩:=s;have d0:wr.cell? ⟨gt,i*3,S⟩=V (I (Aa l[i].name)):=by
    have h:=qY P.Mt.cells 3 (fun _=>rfl) q.o j.o i 0 b (by omega) rfl;exact h
   have d1:wr.cell? ⟨gt,i*3+1,S⟩=V (Av l[i].ask):=by
    have h:=qY P.Mt.cells 3 (fun _=>rfl) q.o j.o i 1 b (by omega) rfl;exact h
   have d2:wr.cell? ⟨gt,i*3+2,S⟩=V (I (Aa l[i].val)):=by
    have h:=qY P.Mt.cells 3 (fun _=>rfl) q.o j.o i 2 b (by omega) rfl;exact h
   have g:=C.o l[i] (Cr b);have f:=J (jY K.mt l i b);have af:=Bi (vf K.mt l (i+1)) o.o;generalize l[i]=x at*;have z:=J (zbT x (wr.alloc (Gj3 x.name x.ask x.val)) g.1 g.2);have n:Y (w.grownBy (wr.alloc (Gj3 x.name x.ask x.val)) S):=zD j.o (Ac _ _ S);have E:Y (Rd (wr.alloc (Gj3 x.name x.ask x.val)) (X a (Z (zk K.mt l i)) k) (zk K.mt l i)):=(Rd.of_row t.o).keep (Ac _ _ S);go_wp2_with fail;refine z.o.mono ?_;rintro e w1 ⟨H,k1,rfl,h1,u⟩;have F:=J (Rd.of_row h1);have r:=J (E.o.keep u);have y:=J (zD n.o u);have B:Y (Am prog 70 #[X (V ⟨w1.heap.size,0,S⟩) 2 2] (w1.alloc (Ae #[X a (Z (zk K.mt l i)) k,X H (Z (K.mt x)) k1] 32)) (Gives w (zk K.mt l (i+1)))):=by
    have h:=yZ y.o [X a (Z (zk K.mt l i)) k,X H (Z (K.mt x)) k1] [zk K.mt l i,K.mt x] (.cons r.o (.cons F.o .nil)) (by rw[f.o];omega) (by simp);rw[f.o] at h;exact h
   go_wp2_with fail;refine B.o.mono ?_;rintro e w2 ⟨a2,k2,rfl,h2,Q⟩;have H2:=J (h2);have G2:=J (Q);go_wp2
   go_roundw
   ·exact⟨i+1,by omega,by go_num,⟨a2,k2,rfl,H2⟩,G2⟩
   ·simp[intOf];omega
  ·have hE:i=Z l:=by omega
   subst hE;have HC:=J (jw K.mt l);rw[HC.o] at t ⊢;go_wp2;go_ret;exact⟨a,k,rfl,t.o,j.o⟩
theorem zf3 (l:A (A Ab×Ak))(v:Aj)(b:w.ownsRow 0 285 2 v (Z l) (zx l))(hn:Z l<=255)(hv:∀x∈l,Z x.1<=255/\0<=x.2)(d:Z (zR K.tg l)<=900000):Am prog 164 #[.func (.func 165) #[] #[],v] w (Gives w (zR K.tg l)):=by
 obtain⟨va,vc,rfl⟩:=zL b;have u:=J (b);have E:=J (hv);have o:=J (d);go_in;go_wp2_with fail;refine(kC (Z l) w).mono ?_;rintro e w0 ⟨a0,k0,rfl,h0,Q⟩;have p:=J (h0);have m:=J (Q);go_wp2_with fail
 go_loopw [5,13] (fun sv iv wr=>∃i:Ad,i<=Z l/\iv=O Ai i/\(∃a k,sv=X a (Z (zk K.tg l i)) k/\Y (wr.ownsRow w.heap.size 5 1 (X a (Z (zk K.tg l i)) k) (Z (zk K.tg l i)) (Ba (zk K.tg l i))))/\Y (w.grownBy wr S)) (fun _ iv _=>Z l-(intOf iv).toNat)
 ·exact⟨0,Ax _,rfl,⟨a0,k0,rfl,p⟩,m⟩
 ·
  obtain⟨i,ae,rfl,⟨a,k,rfl,s⟩,j⟩:=hrel
  by_cases c:i<Z l
  ·have ad:(i:Ak)<Z l:=by omega
   obtain⟨gt,aa,r,_,ab⟩:=Bm u.o (by omega);simp only[Au] at r;obtain⟨rfl,_,rfl⟩:=r;have d0:wr.cell? ⟨gt,i*2,S⟩=V (I (Aa l[i].1)):=by
    have h:=qY (fun t:A Ab×Ak=>[I (Aa t.1),O Ai t.2]) 2 (fun _=>rfl) u.o j.o i 0 c (by omega) rfl;exact h
   have d1:wr.cell? ⟨gt,i*2+1,S⟩=V (O Ai l[i].2):=by
    have h:=qY (fun t:A Ab×Ak=>[I (Aa t.1),O Ai t.2]) 2 (fun _=>rfl) u.o j.o i 1 c (by omega) rfl;exact h
   have g:=E.o l[i] (Cr c);have f:=J (jY K.tg l i c);have af:=Bi (vf K.tg l (i+1)) o.o;generalize l[i]=x at*;have B:=J (lz x (wr.alloc (Gj2 x.1 x.2)) g.1 g.2);have n:Y (w.grownBy (wr.alloc (Gj2 x.1 x.2)) S):=zD j.o (Ac _ _ S);have F:Y (Rd (wr.alloc (Gj2 x.1 x.2)) (X a (Z (zk K.tg l i)) k) (zk K.tg l i)):=(Rd.of_row s.o).keep (Ac _ _ S);go_wp2_with fail;refine B.o.mono ?_;rintro e w1 ⟨N,k1,rfl,h1,y⟩;have H:=J (Rd.of_row h1);have q:=J (F.o.keep y);have z:=J (zD n.o y);have C:Y (Am prog 70 #[X (V ⟨w1.heap.size,0,S⟩) 2 2] (w1.alloc (Ae #[X a (Z (zk K.tg l i)) k,X N (Z (K.tg x)) k1] 32)) (Gives w (zk K.tg l (i+1)))):=by
    have h:=yZ z.o [X a (Z (zk K.tg l i)) k,X N (Z (K.tg x)) k1] [zk K.tg l i,K.tg x] (.cons q.o (.cons H.o .nil)) (by rw[f.o];omega) (by simp);rw[f.o] at h;exact h
   go_wp2_with fail;refine C.o.mono ?_;rintro e w2 ⟨a2,k2,rfl,h2,g2⟩;have H2:=J (h2);have G2:=J (g2);go_wp2
   go_roundw
   ·exact⟨i+1,by omega,by go_num,⟨a2,k2,rfl,H2⟩,G2⟩
   ·simp[intOf];omega
  ·have hE:i=Z l:=by omega
   subst hE;have HC:=J (jw K.tg l);rw[HC.o] at s ⊢;go_wp2;go_ret;exact⟨a,k,rfl,s.o,j.o⟩
theorem zf2 (l:A (A Ab×A Ab))(v:Aj)(b:w.ownsRow 0 280 2 v (Z l) (zi l))(hn:Z l<=255)(hv:∀x∈l,Z x.1<=255/\(Z x.2)<=255)(d:Z (zR K.st l)<=900000):Am prog 167 #[.func (.func 168) #[] #[],v] w (Gives w (zR K.st l)):=by
 obtain⟨va,vc,rfl⟩:=zL b;have u:=J (b);have E:=J (hv);have o:=J (d);go_in;go_wp2_with fail;refine(kC (Z l) w).mono ?_;rintro e w0 ⟨a0,k0,rfl,h0,Q⟩;have p:=J (h0);have m:=J (Q);go_wp2_with fail
 go_loopw [5,13] (fun sv iv wr=>∃i:Ad,i<=Z l/\iv=O Ai i/\(∃a k,sv=X a (Z (zk K.st l i)) k/\Y (wr.ownsRow w.heap.size 5 1 (X a (Z (zk K.st l i)) k) (Z (zk K.st l i)) (Ba (zk K.st l i))))/\Y (w.grownBy wr S)) (fun _ iv _=>Z l-(intOf iv).toNat)
 ·exact⟨0,Ax _,rfl,⟨a0,k0,rfl,p⟩,m⟩
 ·
  obtain⟨i,ae,rfl,⟨a,k,rfl,s⟩,j⟩:=hrel
  by_cases c:i<Z l
  ·have ad:(i:Ak)<Z l:=by omega
   obtain⟨gt,aa,r,_,ab⟩:=Bm u.o (by omega);simp only[Au] at r;obtain⟨rfl,_,rfl⟩:=r;have d0:wr.cell? ⟨gt,i*2,S⟩=V (I (Aa l[i].1)):=by
    have h:=qY (fun t:A Ab×A Ab=>[I (Aa t.1),I (Aa t.2)]) 2 (fun _=>rfl) u.o j.o i 0 c (by omega) rfl;exact h
   have d1:wr.cell? ⟨gt,i*2+1,S⟩=V (I (Aa l[i].2)):=by
    have h:=qY (fun t:A Ab×A Ab=>[I (Aa t.1),I (Aa t.2)]) 2 (fun _=>rfl) u.o j.o i 1 c (by omega) rfl;exact h
   have g:=E.o l[i] (Cr c);have f:=J (jY K.st l i c);have af:=Bi (vf K.st l (i+1)) o.o;generalize l[i]=x at*;have B:=J (zi8 x (wr.alloc (Gj6 x.1 x.2)) g.1 g.2);have n:Y (w.grownBy (wr.alloc (Gj6 x.1 x.2)) S):=zD j.o (Ac _ _ S);have F:Y (Rd (wr.alloc (Gj6 x.1 x.2)) (X a (Z (zk K.st l i)) k) (zk K.st l i)):=(Rd.of_row s.o).keep (Ac _ _ S);go_wp2_with fail;refine B.o.mono ?_;rintro e w1 ⟨N,k1,rfl,h1,y⟩;have H:=J (Rd.of_row h1);have q:=J (F.o.keep y);have z:=J (zD n.o y);have C:Y (Am prog 70 #[X (V ⟨w1.heap.size,0,S⟩) 2 2] (w1.alloc (Ae #[X a (Z (zk K.st l i)) k,X N (Z (K.st x)) k1] 32)) (Gives w (zk K.st l (i+1)))):=by
    have h:=yZ z.o [X a (Z (zk K.st l i)) k,X N (Z (K.st x)) k1] [zk K.st l i,K.st x] (.cons q.o (.cons H.o .nil)) (by rw[f.o];omega) (by simp);rw[f.o] at h;exact h
   go_wp2_with fail;refine C.o.mono ?_;rintro e w2 ⟨a2,k2,rfl,h2,g2⟩;have H2:=J (h2);have G2:=J (g2);go_wp2
   go_roundw
   ·exact⟨i+1,by omega,by go_num,⟨a2,k2,rfl,H2⟩,G2⟩
   ·simp[intOf];omega
  ·have hE:i=Z l:=by omega
   subst hE;have HC:=J (jw K.st l);rw[HC.o] at s ⊢;go_wp2;go_ret;exact⟨a,k,rfl,s.o,j.o⟩
theorem zeY (l:A (A Ab))(v:Aj)(b:w.ownsRow 0 9 1 v (Z l) (l.map fun s=>[I (Aa s)]).flatten)(hn:Z l<=255)(hv:∀x∈l,Z x<=255)(c:Z (zR zM l)<=900000):Am prog 169 #[.func (.func 108) #[] #[],v] w (Gives w (zR zM l)):=by
 obtain⟨va,vc,rfl⟩:=zL b;have u:=J (b);have E:=J (hv);have m:=J (c);go_in;go_wp2_with fail;refine(kC (Z l) w).mono ?_;rintro e w0 ⟨a0,k0,rfl,h0,Q⟩;have n:=J (h0);have g:=J (Q);go_wp2_with fail
 go_loopw [5,13] (fun sv iv wr=>∃i:Ad,i<=Z l/\iv=O Ai i/\(∃a k,sv=X a (Z (zk zM l i)) k/\Y (wr.ownsRow w.heap.size 5 1 (X a (Z (zk zM l i)) k) (Z (zk zM l i)) (Ba (zk zM l i))))/\Y (w.grownBy wr S)) (fun _ iv _=>Z l-(intOf iv).toNat)
 ·exact⟨0,Ax _,rfl,⟨a0,k0,rfl,n⟩,g⟩
 ·
  obtain⟨i,ae,rfl,⟨a,k,rfl,t⟩,r⟩:=hrel
  by_cases f:i<Z l
  ·have ad:(i:Ak)<Z l:=by omega
   obtain⟨gt,aa,p,_,ab⟩:=Bm u.o (by omega);simp only[Au] at p;obtain⟨rfl,_,rfl⟩:=p;have d0:wr.cell? ⟨gt,i,S⟩=V (I (Aa l[i])):=by
    have h:=qY (fun s=>[I (Aa s)]) 1 (fun _=>rfl) u.o r.o i 0 f (by omega) rfl;rw[Nx] at h;exact h
   have q:=E.o l[i] (Cr f);have d:=J (jY zM l i f);have af:=Bi (vf zM l (i+1)) m.o;generalize l[i]=x at*;have B:=J (vt x wr q);have j:=J (r.o);have F:=J (Rd.of_row t.o);go_wp2_with fail;refine B.o.mono ?_;rintro e w1 ⟨N,k1,rfl,h1,y⟩;have H:=J (Rd.of_row h1);have o:=J (F.o.keep y);have z:=J (zD j.o y);have C:Y (Am prog 70 #[X (V ⟨w1.heap.size,0,S⟩) 2 2] (w1.alloc (Ae #[X a (Z (zk zM l i)) k,X N (Z (zM x)) k1] 32)) (Gives w (zk zM l (i+1)))):=by
    have h:=yZ z.o [X a (Z (zk zM l i)) k,X N (Z (zM x)) k1] [zk zM l i,zM x] (.cons o.o (.cons H.o .nil)) (by rw[d.o];omega) (by simp);rw[d.o] at h;exact h
   go_wp2_with fail;refine C.o.mono ?_;rintro e w2 ⟨a2,k2,rfl,h2,g2⟩;have H2:=J (h2);have G2:=J (g2);go_wp2
   go_roundw
   ·exact⟨i+1,by omega,by go_num,⟨a2,k2,rfl,H2⟩,G2⟩
   ·simp[intOf];omega
  ·have hE:i=Z l:=by omega
   subst hE;have HC:=J (jw zM l);rw[HC.o] at t ⊢;go_wp2;go_ret;exact⟨a,k,rfl,t.o,r.o⟩
theorem xx (f:α->A Ab)(B:Ad)(l:A α)(h:∀x∈l,Z (f x)<=B):Z (zR f l)<=1+Z l*B:=by
 unfold zR;rw[Bb];have:=Od f B l h
 omega
theorem zhQ {m:P.Mt}(h:VMt m):Z (K.mt m)<=60:=by grind[K.mt,List.length_append,qr,List.length_cons,P.Mt,VMt]
theorem zj5 {t:A Ab×Ak}(h:VTg t):Z (K.tg t)<=60:=by grind[K.tg,List.length_append,qr,kw,VTg]
theorem ziW {t:A Ab×A Ab}(h:VSt t):Z (K.st t)<=60:=by grind[K.st,List.length_append,qr,VSt]
theorem ziQ (s:A Ab):xc (!decide (s=[])) s=f7 s:=by simp_all[xc,f7]
theorem l8 (s:A Ab):(Aa s).toList.isEmpty=decide (s=[]):=by
 rw[El,Be]
 cases s <;> rfl
theorem join7 (a b c d e f g:A Ab):xW [a,b,c,d,e,f,g]=a++(b++(c++(d++(e++(f++g))))):=by unfold xW;simp
abbrev Gj9 (a b c d):=Rd a (X b (Z (zR K.mt c)) d) (zR K.mt c)
abbrev Gjb (a b c d):=Rd a (X b (Z (zR K.tg c)) d) (zR K.tg c)
abbrev Gjc (a):=Z (zR K.st a)
theorem zfC (r:P.Rl)(g j m d:Br Eu)(i l n f:Ad)(w:Ag)(hM:w.ownsRow 0 276 3 (X g (Z r.ms) i) (Z r.ms) (xe r.ms))(az:w.ownsRow 0 285 2 (X j (Z r.tg) l) (Z r.tg) (zx r.tg))(hS:w.ownsRow 0 280 2 (X m (Z r.sets) n) (Z r.sets) (zi r.sets))(hD:w.ownsRow 0 9 1 (X d (Z r.drops) f) (Z r.drops) (zY r.drops))(v:VRl r):Am prog 110 #[Fe #[O Ai r.number,I (Aa r.path),X g (Z r.ms) i,X j (Z r.tg) l,I (Aa r.rep),X m (Z r.sets) n,X d (Z r.drops) f]] w (Gives w (qN r)):=by
 have b:Y ((w.alloc (Ae #[O Ai r.number,I (Aa r.path),X g (Z r.ms) i,X j (Z r.tg) l,I (Aa r.rep),X m (Z r.sets) n,X d (Z r.drops) f] 213)).heap[w.heap.size]?=V (Ae #[O Ai r.number,I (Aa r.path),X g (Z r.ms) i,X j (Z r.tg) l,I (Aa r.rep),X m (Z r.sets) n,X d (Z r.drops) f] 213)):=Bn _ _;have c0:=cbi 0 b.o;have c1:=cbi 1 b.o;have c2:=cbi 2 b.o;have c3:=cbi 3 b.o;have c4:=cbi 4 b.o;have c5:=cbi 5 b.o;have c6:=cbi 6 b.o;have o:Y (w.grownBy (w.alloc (Ae #[O Ai r.number,I (Aa r.path),X g (Z r.ms) i,X j (Z r.tg) l,I (Aa r.rep),X m (Z r.sets) n,X d (Z r.drops) f] 213)) S):=Ac _ _ _;have HM:=J (zK hM o.o (fun k hk c=>by cases c));have ad:=J (zK az o.o (fun k hk c=>by cases c));have ab:=J (zK hS o.o (fun k hk c=>by cases c));have aa:Y ((w.alloc (Ae #[O Ai r.number,I (Aa r.path),X g (Z r.ms) i,X j (Z r.tg) l,I (Aa r.rep),X m (Z r.sets) n,X d (Z r.drops) f] 213)).ownsRow 0 9 1 (X d (Z r.drops) f) (Z r.drops) (r.drops.map fun s=>[I (Aa s)]).flatten):=strRow1 (zK hD o.o (fun k hk c=>by cases c));have hb:=l8 r.rep;have l1:Z (zR K.mt r.ms)<=200:=by have:=xx K.mt 60 r.ms (fun x hx=>zhQ (v.ms x hx));have:=v.ml;omega
 have l2:Z (zR K.tg r.tg)<=300:=by have:=xx K.tg 60 r.tg (fun x hx=>zj5 (v.tg x hx));have:=v.tl;omega
 have l3:Z (zR K.st r.sets)<=200:=by have:=xx K.st 60 r.sets (fun x hx=>ziW (v.sets x hx));have:=v.sl;omega
 have l4:Z (zR zM r.drops)<=200:=by have:=xx zM 60 r.drops (fun x hx=>by rw[qr];have:=(v.drops x hx).nl;omega);have:=v.dl;omega
 have l5:Z r.rep<=24:=by rcases v.rep with h|h;rw[h];simp;exact h.2
 have l6:=v.pl;have hR:=ziQ r.rep;have p:=J (v);clear hM az hS hD v;have C1:Y (∀W,(w.alloc (Ae #[O Ai r.number,I (Aa r.path),X g (Z r.ms) i,X j (Z r.tg) l,I (Aa r.rep),X m (Z r.sets) n,X d (Z r.drops) f] 213)).grownBy W S->Am prog 111 #[O Ai r.number] W fun e w'=>∃a k,e=Af (X a (Z (qc r.number)) k)/\Rd w' (X a (Z (qc r.number)) k) (qc r.number)/\W.grownBy w' S/\(w.alloc (Ae #[O Ai r.number,I (Aa r.path),X g (Z r.ms) i,X j (Z r.tg) l,I (Aa r.rep),X m (Z r.sets) n,X d (Z r.drops) f] 213)).grownBy w' S/\w'.cell? ⟨w.heap.size,0,S⟩=V (O Ai r.number)/\w'.cell? ⟨w.heap.size,1,S⟩=V (I (Aa r.path))/\w'.cell? ⟨w.heap.size,2,S⟩=V (X g (Z r.ms) i)/\w'.cell? ⟨w.heap.size,3,S⟩=V (X j (Z r.tg) l)/\w'.cell? ⟨w.heap.size,4,S⟩=V (I (Aa r.rep))/\w'.cell? ⟨w.heap.size,5,S⟩=V (X m (Z r.sets) n)/\w'.cell? ⟨w.heap.size,6,S⟩=V (X d (Z r.drops) f)):=fun W hW=>(oI r.number W p.o.num.1).mono fun e w' ⟨a,k,h1,h2,h3⟩=>⟨a,k,h1,Rd.of_row h2,h3,zD hW h3,zB (zE b.o (zD hW h3) (by simp)),zB (zE b.o (zD hW h3) (by simp)),zB (zE b.o (zD hW h3) (by simp)),zB (zE b.o (zD hW h3) (by simp)),zB (zE b.o (zD hW h3) (by simp)),zB (zE b.o (zD hW h3) (by simp)),zB (zE b.o (zD hW h3) (by simp))⟩
 have C2:Y (∀W,(w.alloc (Ae #[O Ai r.number,I (Aa r.path),X g (Z r.ms) i,X j (Z r.tg) l,I (Aa r.rep),X m (Z r.sets) n,X d (Z r.drops) f] 213)).grownBy W S->Am prog 108 #[I (Aa r.path)] W fun e w'=>∃a k,e=Af (Gja a r.path k)/\Rd w' (Gja a r.path k) (zM r.path)/\W.grownBy w' S/\(w.alloc (Ae #[O Ai r.number,I (Aa r.path),X g (Z r.ms) i,X j (Z r.tg) l,I (Aa r.rep),X m (Z r.sets) n,X d (Z r.drops) f] 213)).grownBy w' S/\w'.cell? ⟨w.heap.size,0,S⟩=V (O Ai r.number)/\w'.cell? ⟨w.heap.size,1,S⟩=V (I (Aa r.path))/\w'.cell? ⟨w.heap.size,2,S⟩=V (X g (Z r.ms) i)/\w'.cell? ⟨w.heap.size,3,S⟩=V (X j (Z r.tg) l)/\w'.cell? ⟨w.heap.size,4,S⟩=V (I (Aa r.rep))/\w'.cell? ⟨w.heap.size,5,S⟩=V (X m (Z r.sets) n)/\w'.cell? ⟨w.heap.size,6,S⟩=V (X d (Z r.drops) f)):=fun W hW=>(vt r.path W (by omega)).mono fun e w' ⟨a,k,h1,h2,h3⟩=>⟨a,k,h1,Rd.of_row h2,h3,zD hW h3,zB (zE b.o (zD hW h3) (by simp)),zB (zE b.o (zD hW h3) (by simp)),zB (zE b.o (zD hW h3) (by simp)),zB (zE b.o (zD hW h3) (by simp)),zB (zE b.o (zD hW h3) (by simp)),zB (zE b.o (zD hW h3) (by simp)),zB (zE b.o (zD hW h3) (by simp))⟩
 have C3:Y (∀W,(w.alloc (Ae #[O Ai r.number,I (Aa r.path),X g (Z r.ms) i,X j (Z r.tg) l,I (Aa r.rep),X m (Z r.sets) n,X d (Z r.drops) f] 213)).grownBy W S->Am prog 162 #[.func (.func 163) #[] #[],X g (Z r.ms) i] W fun e w'=>∃a k,e=Af (X a (Z (zR K.mt r.ms)) k)/\Rd w' (X a (Z (zR K.mt r.ms)) k) (zR K.mt r.ms)/\W.grownBy w' S/\(w.alloc (Ae #[O Ai r.number,I (Aa r.path),X g (Z r.ms) i,X j (Z r.tg) l,I (Aa r.rep),X m (Z r.sets) n,X d (Z r.drops) f] 213)).grownBy w' S/\w'.cell? ⟨w.heap.size,0,S⟩=V (O Ai r.number)/\w'.cell? ⟨w.heap.size,1,S⟩=V (I (Aa r.path))/\w'.cell? ⟨w.heap.size,2,S⟩=V (X g (Z r.ms) i)/\w'.cell? ⟨w.heap.size,3,S⟩=V (X j (Z r.tg) l)/\w'.cell? ⟨w.heap.size,4,S⟩=V (I (Aa r.rep))/\w'.cell? ⟨w.heap.size,5,S⟩=V (X m (Z r.sets) n)/\w'.cell? ⟨w.heap.size,6,S⟩=V (X d (Z r.drops) f)):=fun W hW=>(zf0 r.ms _ (zK HM.o hW (fun k hk c=>by cases c)) (by have:=p.o.ml;omega) (fun x hx=>⟨by have:=(p.o.ms x hx).nl;omega,by have:=(p.o.ms x hx).vl;omega⟩) (by omega)).mono fun e w' ⟨a,k,h1,h2,h3⟩=>⟨a,k,h1,Rd.of_row h2,h3,zD hW h3,zB (zE b.o (zD hW h3) (by simp)),zB (zE b.o (zD hW h3) (by simp)),zB (zE b.o (zD hW h3) (by simp)),zB (zE b.o (zD hW h3) (by simp)),zB (zE b.o (zD hW h3) (by simp)),zB (zE b.o (zD hW h3) (by simp)),zB (zE b.o (zD hW h3) (by simp))⟩
 have C4:Y (∀W,(w.alloc (Ae #[O Ai r.number,I (Aa r.path),X g (Z r.ms) i,X j (Z r.tg) l,I (Aa r.rep),X m (Z r.sets) n,X d (Z r.drops) f] 213)).grownBy W S->Am prog 164 #[.func (.func 165) #[] #[],X j (Z r.tg) l] W fun e w'=>∃a k,e=Af (X a (Z (zR K.tg r.tg)) k)/\Rd w' (X a (Z (zR K.tg r.tg)) k) (zR K.tg r.tg)/\W.grownBy w' S/\(w.alloc (Ae #[O Ai r.number,I (Aa r.path),X g (Z r.ms) i,X j (Z r.tg) l,I (Aa r.rep),X m (Z r.sets) n,X d (Z r.drops) f] 213)).grownBy w' S/\w'.cell? ⟨w.heap.size,0,S⟩=V (O Ai r.number)/\w'.cell? ⟨w.heap.size,1,S⟩=V (I (Aa r.path))/\w'.cell? ⟨w.heap.size,2,S⟩=V (X g (Z r.ms) i)/\w'.cell? ⟨w.heap.size,3,S⟩=V (X j (Z r.tg) l)/\w'.cell? ⟨w.heap.size,4,S⟩=V (I (Aa r.rep))/\w'.cell? ⟨w.heap.size,5,S⟩=V (X m (Z r.sets) n)/\w'.cell? ⟨w.heap.size,6,S⟩=V (X d (Z r.drops) f)):=fun W hW=>(zf3 r.tg _ (zK ad.o hW (fun k hk c=>by cases c)) (by have:=p.o.tl;omega) (fun x hx=>⟨by have:=(p.o.tg x hx).ul;omega,by have:=(p.o.tg x hx).lo;omega⟩) (by omega)).mono fun e w' ⟨a,k,h1,h2,h3⟩=>⟨a,k,h1,Rd.of_row h2,h3,zD hW h3,zB (zE b.o (zD hW h3) (by simp)),zB (zE b.o (zD hW h3) (by simp)),zB (zE b.o (zD hW h3) (by simp)),zB (zE b.o (zD hW h3) (by simp)),zB (zE b.o (zD hW h3) (by simp)),zB (zE b.o (zD hW h3) (by simp)),zB (zE b.o (zD hW h3) (by simp))⟩
 have C5:Y (∀W,(w.alloc (Ae #[O Ai r.number,I (Aa r.path),X g (Z r.ms) i,X j (Z r.tg) l,I (Aa r.rep),X m (Z r.sets) n,X d (Z r.drops) f] 213)).grownBy W S->Am prog 166 #[Av (!decide (r.rep=[])),I (Aa r.rep)] W fun e w'=>∃a k,e=Af (X a (Z (xc (!decide (r.rep=[])) r.rep)) k)/\Rd w' (X a (Z (xc (!decide (r.rep=[])) r.rep)) k) (xc (!decide (r.rep=[])) r.rep)/\W.grownBy w' S/\(w.alloc (Ae #[O Ai r.number,I (Aa r.path),X g (Z r.ms) i,X j (Z r.tg) l,I (Aa r.rep),X m (Z r.sets) n,X d (Z r.drops) f] 213)).grownBy w' S/\w'.cell? ⟨w.heap.size,0,S⟩=V (O Ai r.number)/\w'.cell? ⟨w.heap.size,1,S⟩=V (I (Aa r.path))/\w'.cell? ⟨w.heap.size,2,S⟩=V (X g (Z r.ms) i)/\w'.cell? ⟨w.heap.size,3,S⟩=V (X j (Z r.tg) l)/\w'.cell? ⟨w.heap.size,4,S⟩=V (I (Aa r.rep))/\w'.cell? ⟨w.heap.size,5,S⟩=V (X m (Z r.sets) n)/\w'.cell? ⟨w.heap.size,6,S⟩=V (X d (Z r.drops) f)):=fun W hW=>(gW (!decide (r.rep=[])) r.rep W (by omega)).mono fun e w' ⟨a,k,h1,h2,h3⟩=>⟨a,k,h1,Rd.of_row h2,h3,zD hW h3,zB (zE b.o (zD hW h3) (by simp)),zB (zE b.o (zD hW h3) (by simp)),zB (zE b.o (zD hW h3) (by simp)),zB (zE b.o (zD hW h3) (by simp)),zB (zE b.o (zD hW h3) (by simp)),zB (zE b.o (zD hW h3) (by simp)),zB (zE b.o (zD hW h3) (by simp))⟩
 have C6:Y (∀W,(w.alloc (Ae #[O Ai r.number,I (Aa r.path),X g (Z r.ms) i,X j (Z r.tg) l,I (Aa r.rep),X m (Z r.sets) n,X d (Z r.drops) f] 213)).grownBy W S->Am prog 167 #[.func (.func 168) #[] #[],X m (Z r.sets) n] W fun e w'=>∃a k,e=Af (X a (Gjc r.sets) k)/\Rd w' (X a (Gjc r.sets) k) (zR K.st r.sets)/\W.grownBy w' S/\(w.alloc (Ae #[O Ai r.number,I (Aa r.path),X g (Z r.ms) i,X j (Z r.tg) l,I (Aa r.rep),X m (Z r.sets) n,X d (Z r.drops) f] 213)).grownBy w' S/\w'.cell? ⟨w.heap.size,0,S⟩=V (O Ai r.number)/\w'.cell? ⟨w.heap.size,1,S⟩=V (I (Aa r.path))/\w'.cell? ⟨w.heap.size,2,S⟩=V (X g (Z r.ms) i)/\w'.cell? ⟨w.heap.size,3,S⟩=V (X j (Z r.tg) l)/\w'.cell? ⟨w.heap.size,4,S⟩=V (I (Aa r.rep))/\w'.cell? ⟨w.heap.size,5,S⟩=V (X m (Z r.sets) n)/\w'.cell? ⟨w.heap.size,6,S⟩=V (X d (Z r.drops) f)):=fun W hW=>(zf2 r.sets _ (zK ab.o hW (fun k hk c=>by cases c)) (by have:=p.o.sl;omega) (fun x hx=>⟨by have:=(p.o.sets x hx).nl;omega,by have:=(p.o.sets x hx).vl;omega⟩) (by omega)).mono fun e w' ⟨a,k,h1,h2,h3⟩=>⟨a,k,h1,Rd.of_row h2,h3,zD hW h3,zB (zE b.o (zD hW h3) (by simp)),zB (zE b.o (zD hW h3) (by simp)),zB (zE b.o (zD hW h3) (by simp)),zB (zE b.o (zD hW h3) (by simp)),zB (zE b.o (zD hW h3) (by simp)),zB (zE b.o (zD hW h3) (by simp)),zB (zE b.o (zD hW h3) (by simp))⟩
 have C7:Y (∀W,(w.alloc (Ae #[O Ai r.number,I (Aa r.path),X g (Z r.ms) i,X j (Z r.tg) l,I (Aa r.rep),X m (Z r.sets) n,X d (Z r.drops) f] 213)).grownBy W S->Am prog 169 #[.func (.func 108) #[] #[],X d (Z r.drops) f] W fun e w'=>∃a k,e=Af (X a (Z (zR zM r.drops)) k)/\Rd w' (X a (Z (zR zM r.drops)) k) (zR zM r.drops)/\W.grownBy w' S/\(w.alloc (Ae #[O Ai r.number,I (Aa r.path),X g (Z r.ms) i,X j (Z r.tg) l,I (Aa r.rep),X m (Z r.sets) n,X d (Z r.drops) f] 213)).grownBy w' S/\w'.cell? ⟨w.heap.size,0,S⟩=V (O Ai r.number)/\w'.cell? ⟨w.heap.size,1,S⟩=V (I (Aa r.path))/\w'.cell? ⟨w.heap.size,2,S⟩=V (X g (Z r.ms) i)/\w'.cell? ⟨w.heap.size,3,S⟩=V (X j (Z r.tg) l)/\w'.cell? ⟨w.heap.size,4,S⟩=V (I (Aa r.rep))/\w'.cell? ⟨w.heap.size,5,S⟩=V (X m (Z r.sets) n)/\w'.cell? ⟨w.heap.size,6,S⟩=V (X d (Z r.drops) f)):=fun W hW=>(zeY r.drops _ (zK aa.o hW (fun k hk c=>by cases c)) (by have:=p.o.dl;omega) (fun x hx=>by have:=(p.o.drops x hx).nl;omega) (by omega)).mono fun e w' ⟨a,k,h1,h2,h3⟩=>⟨a,k,h1,Rd.of_row h2,h3,zD hW h3,zB (zE b.o (zD hW h3) (by simp)),zB (zE b.o (zD hW h3) (by simp)),zB (zE b.o (zD hW h3) (by simp)),zB (zE b.o (zD hW h3) (by simp)),zB (zE b.o (zD hW h3) (by simp)),zB (zE b.o (zD hW h3) (by simp)),zB (zE b.o (zD hW h3) (by simp))⟩
 have HJ:Y (∀W q t u y z B C E F H a6 k6 a7 k7,(w.alloc (Ae #[O Ai r.number,I (Aa r.path),X g (Z r.ms) i,X j (Z r.tg) l,I (Aa r.rep),X m (Z r.sets) n,X d (Z r.drops) f] 213)).grownBy W S->Rd W (X q (Z (qc r.number)) t) (qc r.number)->Rd W (Gja u r.path y) (zM r.path)->Rd W (X z (Z (zR K.mt r.ms)) B) (zR K.mt r.ms)->Rd W (X C (Z (zR K.tg r.tg)) E) (zR K.tg r.tg)->Rd W (X F (Z (xc (!decide (r.rep=[])) r.rep)) H) (xc (!decide (r.rep=[])) r.rep)->Rd W (X a6 (Gjc r.sets) k6) (zR K.st r.sets)->Rd W (X a7 (Z (zR zM r.drops)) k7) (zR zM r.drops)->Am prog 70 #[X (V ⟨W.heap.size,0,S⟩) 7 7] (W.alloc (Ae #[X q (Z (qc r.number)) t,X u (Z (zM r.path)) y,X z (Z (zR K.mt r.ms)) B,X C (Z (zR K.tg r.tg)) E,X F (Z (xc (!decide (r.rep=[])) r.rep)) H,X a6 (Gjc r.sets) k6,X a7 (Z (zR zM r.drops)) k7] 32)) fun e w'=>Gives w (qN r) e w'/\w'.cell? ⟨w.heap.size,0,S⟩=V (O Ai r.number)/\w'.cell? ⟨w.heap.size,1,S⟩=V (I (Aa r.path))/\w'.cell? ⟨w.heap.size,2,S⟩=V (X g (Z r.ms) i)/\w'.cell? ⟨w.heap.size,3,S⟩=V (X j (Z r.tg) l)/\w'.cell? ⟨w.heap.size,4,S⟩=V (I (Aa r.rep))/\w'.cell? ⟨w.heap.size,5,S⟩=V (X m (Z r.sets) n)/\w'.cell? ⟨w.heap.size,6,S⟩=V (X d (Z r.drops) f)):=fun W q t u y z B C E F H a6 k6 a7 k7 hW r1 r2 r3 r4 r5 r6 r7=>by
  have h:=yZ hW [X q (Z (qc r.number)) t,X u (Z (zM r.path)) y,X z (Z (zR K.mt r.ms)) B,X C (Z (zR K.tg r.tg)) E,X F (Z (xc (!decide (r.rep=[])) r.rep)) H,X a6 (Gjc r.sets) k6,X a7 (Z (zR zM r.drops)) k7] [qc r.number,zM r.path,zR K.mt r.ms,zR K.tg r.tg,xc (!decide (r.rep=[])) r.rep,zR K.st r.sets,zR zM r.drops] (.cons r1 (.cons r2 (.cons r3 (.cons r4 (.cons r5 (.cons r6 (.cons r7 .nil))))))) (by rw[join7];have:=lO (!decide (r.rep=[])) r.rep;simp only[Ah,qr,kw];omega) (by simp);rw[show xW [qc r.number,zM r.path,zR K.mt r.ms,zR K.tg r.tg,xc (!decide (r.rep=[])) r.rep,zR K.st r.sets,zR zM r.drops]=qN r by rw[join7,hR];rfl] at h;refine Oq h fun e w' ⟨a,k,h1,h2,h3⟩=>⟨⟨a,k,h1,ke h2 o.o.size,zD o.o h3⟩,zB (zE b.o h3 (by simp)),zB (zE b.o h3 (by simp)),zB (zE b.o h3 (by simp)),zB (zE b.o h3 (by simp)),zB (zE b.o h3 (by simp)),zB (zE b.o h3 (by simp)),zB (zE b.o h3 (by simp))⟩
 clear hR l1 l2 l3 l4 l5 l6;go_in;go_wp2_with fail;generalize(w.alloc (Ae #[O Ai r.number,I (Aa r.path),X g (Z r.ms) i,X j (Z r.tg) l,I (Aa r.rep),X m (Z r.sets) n,X d (Z r.drops) f] 213))=wa at*
 go_region_held3 (fun W=>W.cell? ⟨w.heap.size,0,S⟩=V (O Ai r.number)/\W.cell? ⟨w.heap.size,1,S⟩=V (I (Aa r.path))/\W.cell? ⟨w.heap.size,2,S⟩=V (X g (Z r.ms) i)/\W.cell? ⟨w.heap.size,3,S⟩=V (X j (Z r.tg) l)/\W.cell? ⟨w.heap.size,4,S⟩=V (I (Aa r.rep))/\W.cell? ⟨w.heap.size,5,S⟩=V (X m (Z r.sets) n)/\W.cell? ⟨w.heap.size,6,S⟩=V (X d (Z r.drops) f)) (go_keep) (first
  |(go_at_call 111;show Am _ _ _ (Md wa) _;refine(C1.o _ (zV wa)).mono ?_;rintro e w1 ⟨q,t,rfl,r1,g1,G1,aH,aI,aJ,aK,aL,aM,aN⟩;have N:Y (Rd w1 (X q (Z (qc r.number)) t) (qc r.number)):=r1;have G1:Y (wa.grownBy w1 S):=G1;clear r1 g1)
  |(go_at_call 108;refine(C2.o _ G1.o).mono ?_;rintro e w2 ⟨u,y,rfl,r2,g2,G2,aO,aP,aQ,aR,aS,aT,aU⟩;have ai:Y (Gj1 w2 u r.path y):=r2;have Q:Y (Rd w2 (X q (Z (qc r.number)) t) (qc r.number)):=N.o.keep g2;have G2:Y (wa.grownBy w2 S):=G2;clear r2 g2 N G1)
  |(go_at_call 162;refine(C3.o _ G2.o).mono ?_;rintro e w3 ⟨z,B,rfl,r3,g3,G3,aV,aW,aX,aY,a0,a8,a9⟩;have an:Y (Gj9 w3 z r.ms B):=r3;have ae:Y (Rd w3 (X q (Z (qc r.number)) t) (qc r.number)):=Q.o.keep g3;have aj:Y (Gj1 w3 u r.path y):=ai.o.keep g3;have G3:Y (wa.grownBy w3 S):=G3;clear r3 g3 Q ai G2)
  |(go_at_call 164;refine(C4.o _ G3.o).mono ?_;rintro e w4 ⟨C,E,rfl,r4,g4,G4,ba,bb,bc,bd,be,bf,bg⟩;have ar:Y (Gjb w4 C r.tg E):=r4;have af:Y (Rd w4 (X q (Z (qc r.number)) t) (qc r.number)):=ae.o.keep g4;have ak:Y (Gj1 w4 u r.path y):=aj.o.keep g4;have ao:Y (Gj9 w4 z r.ms B):=an.o.keep g4;have G4:Y (wa.grownBy w4 S):=G4;clear r4 g4 ae aj an G3)
  |(go_at_call 166;refine(C5.o _ G4.o).mono ?_;rintro e w5 ⟨F,H,rfl,r5,g5,G5,bh,bi,bj,bk,bl,bm,bn⟩;have aw:Y (Rd w5 (X F (Z (xc (!decide (r.rep=[])) r.rep)) H) (xc (!decide (r.rep=[])) r.rep)):=r5;have ag:Y (Rd w5 (X q (Z (qc r.number)) t) (qc r.number)):=af.o.keep g5;have al:Y (Gj1 w5 u r.path y):=ak.o.keep g5;have ap:Y (Gj9 w5 z r.ms B):=ao.o.keep g5;have au:Y (Gjb w5 C r.tg E):=ar.o.keep g5;have G5:Y (wa.grownBy w5 S):=G5;clear r5 g5 af ak ao ar G4)
  |(go_at_call 167;refine(C6.o _ G5.o).mono ?_;rintro e w6 ⟨a6,k6,rfl,r6,g6,G6,bo,bp,bq,br,bs,bt,bu⟩;have ay:Y (Rd w6 (X a6 (Gjc r.sets) k6) (zR K.st r.sets)):=r6;have ah:Y (Rd w6 (X q (Z (qc r.number)) t) (qc r.number)):=ag.o.keep g6;have am:Y (Gj1 w6 u r.path y):=al.o.keep g6;have aq:Y (Gj9 w6 z r.ms B):=ap.o.keep g6;have av:Y (Gjb w6 C r.tg E):=au.o.keep g6;have ax:Y (Rd w6 (X F (Z (xc (!decide (r.rep=[])) r.rep)) H) (xc (!decide (r.rep=[])) r.rep)):=aw.o.keep g6;have G6:Y (wa.grownBy w6 S):=G6;clear r6 g6 ag al ap au aw G5)
  |(go_at_call 169;refine(C7.o _ G6.o).mono ?_;rintro e w7 ⟨a7,k7,rfl,r7,g7,G7,bv,bw,bx,bz,bA,bB,bC⟩;have aG:Y (Rd w7 (X a7 (Z (zR zM r.drops)) k7) (zR zM r.drops)):=r7;have aA:Y (Rd w7 (X q (Z (qc r.number)) t) (qc r.number)):=ah.o.keep g7;have aB:Y (Gj1 w7 u r.path y):=am.o.keep g7;have aC:Y (Gj9 w7 z r.ms B):=aq.o.keep g7;have aD:Y (Gjb w7 C r.tg E):=av.o.keep g7;have aE:Y (Rd w7 (X F (Z (xc (!decide (r.rep=[])) r.rep)) H) (xc (!decide (r.rep=[])) r.rep)):=ax.o.keep g7;have aF:Y (Rd w7 (X a6 (Gjc r.sets) k6) (zR K.st r.sets)):=ay.o.keep g7;have G7:Y (wa.grownBy w7 S):=G7;clear r7 g7 ah am aq av ax ay G6)
  |(go_at_call 70;refine(HJ.o _ q t u y z B C E F H a6 k6 a7 k7 G7.o aA.o aB.o aC.o aD.o aE.o aF.o aG.o).mono ?_;rintro e wZ ⟨⟨aZ,kZ,rfl,hZ,gZ⟩,z0,z1,z2,z3,z4,z5,z6⟩;have HZ:Y (wZ.ownsRow w.heap.size 5 1 (X aZ (Z (qN r)) kZ) (Z (qN r)) (Ba (qN r))):=hZ;have GZ:Y (w.grownBy wZ S):=gZ;clear hZ gZ))
 all_goals
  go_wp2;go_ret;exact⟨aZ,kZ,rfl,HZ.o,GZ.o⟩
theorem zdA {r:P.Rl}(a:VRl r):Z (qN r)<=1200:=by
 have b:=xx K.mt 60 r.ms (fun x hx=>zhQ (a.ms x hx));have c:=xx K.tg 60 r.tg (fun x hx=>zj5 (a.tg x hx));have d:=xx K.st 60 r.sets (fun x hx=>ziW (a.sets x hx));have f:=xx zM 60 r.drops (fun x hx=>by rw[qr];have:=(a.drops x hx).nl;omega)
 grind[xx,K.mt,zhQ,K.tg,zj5,K.st,ziW,zM,qr,f7,List.length_cons,qN,List.length_append,kw,P.Rl,VRl]
theorem zf1 (l:A P.Rl)(v:Aj)(ab:A (A Aj))(d:w.ownsRow 0 213 7 v (Z l) ab.flatten)(m:All2 (PRuleVal w) ab l)(hn:Z l<=255)(hv:∀x∈l,VRl x)(o:Z (zR qN l)<=900000):Am prog 109 #[.func (.func 110) #[] #[],v] w (Gives w (zR qN l)):=by
 obtain⟨va,vc,rfl⟩:=zL d;have HR:=J (d);have HA:=J (m);have HV:=J (hv);have N:=J (o);go_in;go_wp2_with fail;refine(kC (Z l) w).mono ?_;rintro e w0 ⟨a0,k0,rfl,h0,g0⟩;have Q:=J (h0);have F:=J (g0);go_wp2_with fail
 go_loopw [5,13] (fun sv iv wr=>∃i:Ad,i<=Z l/\iv=O Ai i/\(∃a k,sv=X a (Z (zk qN l i)) k/\Y (wr.ownsRow w.heap.size 5 1 (X a (Z (zk qN l i)) k) (Z (zk qN l i)) (Ba (zk qN l i))))/\Y (w.grownBy wr S)) (fun _ iv _=>Z l-(intOf iv).toNat)
 ·exact⟨0,Ax _,rfl,⟨a0,k0,rfl,Q⟩,F⟩
 ·
  obtain⟨i,au,rfl,⟨a,k,rfl,HO⟩,E⟩:=hrel
  by_cases C:i<Z l
  ·have ar:(i:Ak)<Z l:=by omega
   obtain⟨gt,ap,af,_,aq⟩:=Bm HR.o (by omega);simp only[Au] at af;obtain⟨rfl,_,rfl⟩:=af;have ag:=zK HR.o E.o (fun k hk c=>by cases c);obtain⟨ce,ad,ae⟩:=aE HA.o i C;have n:=ad.keep E.o (za _ _);have b:∀j,j<7->wr.cell? ⟨gt,i*7+j,S⟩=ce[j]?:=fun j hj=>by
    rw[Ap ag (i*7+j) (by omega)];exact ae j hj
   have ah:=HV.o l[i] (Cr C);have y:=J (jY qN l i C);have av:Z (zk qN l (i+1))<=900000:=Bi (vf qN l (i+1)) N.o;generalize l[i]=x at*;obtain⟨vM,vT,vS,vD,rfl,hM,B,hS,hD⟩:=id n;obtain⟨p,q,rfl⟩:=zL hM;obtain⟨r,s,rfl⟩:=zL B;obtain⟨t,u,rfl⟩:=zL hS;obtain⟨f,g,rfl⟩:=zL hD;have ai:wr.cell? ⟨gt,i*7,S⟩=V (O Ai x.number):=b 0 (by omega);have aj:wr.cell? ⟨gt,i*7+1,S⟩=V (I (Aa x.path)):=b 1 (by omega);have ak:wr.cell? ⟨gt,i*7+2,S⟩=V (X p (Z x.ms) q):=b 2 (by omega);have al:wr.cell? ⟨gt,i*7+3,S⟩=V (X r (Z x.tg) s):=b 3 (by omega);have am:wr.cell? ⟨gt,i*7+4,S⟩=V (I (Aa x.rep)):=b 4 (by omega);have an:wr.cell? ⟨gt,i*7+5,S⟩=V (X t (Z x.sets) u):=b 5 (by omega);have ao:wr.cell? ⟨gt,i*7+6,S⟩=V (X f (Z x.drops) g):=b 6 (by omega);have z:wr.grownBy (wr.alloc (Ae #[O Ai x.number,I (Aa x.path),X p (Z x.ms) q,X r (Z x.tg) s,I (Aa x.rep),X t (Z x.sets) u,X f (Z x.drops) g] 213)) S:=Ac _ _ S;have HI:Y (Am prog 110 #[Fe #[O Ai x.number,I (Aa x.path),X p (Z x.ms) q,X r (Z x.tg) s,I (Aa x.rep),X t (Z x.sets) u,X f (Z x.drops) g]] (wr.alloc (Ae #[O Ai x.number,I (Aa x.path),X p (Z x.ms) q,X r (Z x.tg) s,I (Aa x.rep),X t (Z x.sets) u,X f (Z x.drops) g] 213)) (Gives (wr.alloc (Ae #[O Ai x.number,I (Aa x.path),X p (Z x.ms) q,X r (Z x.tg) s,I (Aa x.rep),X t (Z x.sets) u,X f (Z x.drops) g] 213)) (qN x))):=zfC x p r t f q s u g (wr.alloc (Ae #[O Ai x.number,I (Aa x.path),X p (Z x.ms) q,X r (Z x.tg) s,I (Aa x.rep),X t (Z x.sets) u,X f (Z x.drops) g] 213)) (zK hM z (fun k hk c=>by cases c)) (zK B z (fun k hk c=>by cases c)) (zK hS z (fun k hk c=>by cases c)) (zK hD z (fun k hk c=>by cases c)) ah;have H:=J (zD E.o z);have R0:Y (Rd (wr.alloc (Ae #[O Ai x.number,I (Aa x.path),X p (Z x.ms) q,X r (Z x.tg) s,I (Aa x.rep),X t (Z x.sets) u,X f (Z x.drops) g] 213)) (X a (Z (zk qN l i)) k) (zk qN l i)):=(Rd.of_row HO.o).keep z;go_wp2_with fail;refine HI.o.mono ?_;rintro e w1 ⟨a1,k1,rfl,h1,g1⟩;have R1:=J (Rd.of_row h1);have aa:=J (R0.o.keep g1);have G1:=J (zD H.o g1);have HJ:Y (Am prog 70 #[X (V ⟨w1.heap.size,0,S⟩) 2 2] (w1.alloc (Ae #[X a (Z (zk qN l i)) k,X a1 (Z (qN x)) k1] 32)) (Gives w (zk qN l (i+1)))):=by
    have h:=yZ G1.o [X a (Z (zk qN l i)) k,X a1 (Z (qN x)) k1] [zk qN l i,qN x] (.cons aa.o (.cons R1.o .nil)) (by rw[y.o];omega) (by simp);rw[y.o] at h;exact h
   go_wp2_with fail;refine HJ.o.mono ?_;rintro e w2 ⟨a2,k2,rfl,h2,g2⟩;have H2:=J (h2);have G2:=J (g2);go_wp2
   go_roundw
   ·exact⟨i+1,by omega,by go_num,⟨a2,k2,rfl,H2⟩,G2⟩
   ·simp[intOf];omega
  ·have hE:i=Z l:=by omega
   subst hE;have HC:=J (jw qN l);rw[HC.o] at HO ⊢;go_wp2;go_ret;exact⟨a,k,rfl,HO.o,E.o⟩
theorem zfB (x:P.Hst)(b:Br Eu)(c:Ad)(w:Ag)(N:PRulesRow w 0 (X b (Z x.rules) c) x.rules)(hn:Z x.name<=24)(aa:Z x.rules<=6)(t:∀r∈x.rules,VRl r):Am prog 72 #[Fe #[I (Aa x.name),X b (Z x.rules) c]] w (Gives w (qX x)):=by
 have d:Y ((w.alloc (Gj4 (Z x.rules) x.name b c)).heap[w.heap.size]?=V (Gj4 (Z x.rules) x.name b c)):=Bn _ _;have c0:=cbi 0 d.o;have c1:=cbi 1 d.o;have f:Y (w.grownBy (w.alloc (Gj4 (Z x.rules) x.name b c)) S):=Ac _ _ _;have n:Y (PRulesRow (w.alloc (Gj4 (Z x.rules) x.name b c)) 0 (X b (Z x.rules) c) x.rules):=N.keep f.o (za _ _);have l1:=xx qN 1200 x.rules (fun r hr=>zdA (t r hr));have v:=J (t);have C1:Y (∀W,(w.alloc (Gj4 (Z x.rules) x.name b c)).grownBy W S->Am prog 108 #[I (Aa x.name)] W fun e w'=>∃a k,e=Af (Gja a x.name k)/\Rd w' (Gja a x.name k) (zM x.name)/\W.grownBy w' S/\(w.alloc (Gj4 (Z x.rules) x.name b c)).grownBy w' S/\w'.cell? ⟨w.heap.size,0,S⟩=V (I (Aa x.name))/\w'.cell? ⟨w.heap.size,1,S⟩=V (X b (Z x.rules) c)):=fun W hW=>(vt x.name W (by omega)).mono fun e w' ⟨a,k,h1,h2,h3⟩=>⟨a,k,h1,Rd.of_row h2,h3,zD hW h3,zB (zE d.o (zD hW h3) (by simp)),zB (zE d.o (zD hW h3) (by simp))⟩
 have C2:Y (∀W,(w.alloc (Gj4 (Z x.rules) x.name b c)).grownBy W S->Am prog 109 #[.func (.func 110) #[] #[],X b (Z x.rules) c] W fun e w'=>∃a k,e=Af (X a (Z (zR qN x.rules)) k)/\Rd w' (X a (Z (zR qN x.rules)) k) (zR qN x.rules)/\W.grownBy w' S/\(w.alloc (Gj4 (Z x.rules) x.name b c)).grownBy w' S/\w'.cell? ⟨w.heap.size,0,S⟩=V (I (Aa x.name))/\w'.cell? ⟨w.heap.size,1,S⟩=V (X b (Z x.rules) c)):=fun W hW=>((let ⟨css,q1,q2⟩:=n.o.keep hW (za _ _);zf1 x.rules _ css q1 q2 (by omega) v.o (by omega))).mono fun e w' ⟨a,k,h1,h2,h3⟩=>⟨a,k,h1,Rd.of_row h2,h3,zD hW h3,zB (zE d.o (zD hW h3) (by simp)),zB (zE d.o (zD hW h3) (by simp))⟩
 have HJ:Y (∀W i j l m,(w.alloc (Gj4 (Z x.rules) x.name b c)).grownBy W S->Rd W (Gja i x.name j) (zM x.name)->Rd W (X l (Z (zR qN x.rules)) m) (zR qN x.rules)->Am prog 70 #[X (V ⟨W.heap.size,0,S⟩) 2 2] (W.alloc (Ae #[X i (Z (zM x.name)) j,X l (Z (zR qN x.rules)) m] 32)) fun e w'=>Gives w (qX x) e w'/\w'.cell? ⟨w.heap.size,0,S⟩=V (I (Aa x.name))/\w'.cell? ⟨w.heap.size,1,S⟩=V (X b (Z x.rules) c)):=fun W i j l m hW b c=>by
  have h:=yZ hW [X i (Z (zM x.name)) j,X l (Z (zR qN x.rules)) m] [zM x.name,zR qN x.rules] (.cons b (.cons c .nil)) (by rw[join2,Ah,qr];omega) (by simp);rw[show xW [zM x.name,zR qN x.rules]=qX x from join2 _ _] at h;refine Oq h fun e w' ⟨a,k,h1,h2,h3⟩=>⟨⟨a,k,h1,ke h2 f.o.size,zD f.o h3⟩,zB (zE d.o h3 (by simp)),zB (zE d.o h3 (by simp))⟩
 go_in;go_wp2_with fail;generalize(w.alloc (Gj4 (Z x.rules) x.name b c))=wa at*
 go_region_held3 (fun W=>W.cell? ⟨w.heap.size,0,S⟩=V (I (Aa x.name))/\W.cell? ⟨w.heap.size,1,S⟩=V (X b (Z x.rules) c)) (go_keep) (first
  |(go_at_call 108;show Am _ _ _ (Md wa) _;refine(C1.o _ (zV wa)).mono ?_;rintro e w1 ⟨i,j,rfl,b,g1,q,z,B⟩;have g:Y (Gj1 w1 i x.name j):=b;have q:Y (wa.grownBy w1 S):=q;clear b g1)
  |(go_at_call 109;refine(C2.o _ q.o).mono ?_;rintro e u ⟨l,m,rfl,c,F,s,C,E⟩;have p:Y (Rd u (X l (Z (zR qN x.rules)) m) (zR qN x.rules)):=c;have o:Y (Gj1 u i x.name j):=g.o.keep F;have s:Y (wa.grownBy u S):=s;clear c F g q)
  |(go_at_call 70;refine(HJ.o _ i j l m s.o o.o p.o).mono ?_;rintro e wZ ⟨⟨y,kZ,rfl,Q,H⟩,z0,z1⟩;have HZ:Y (wZ.ownsRow w.heap.size 5 1 (X y (Z (qX x)) kZ) (Z (qX x)) (Ba (qX x))):=Q;have GZ:Y (w.grownBy wZ S):=H;clear Q H))
 all_goals
  go_wp2;go_ret;exact⟨y,kZ,rfl,HZ.o,GZ.o⟩
structure VPk (x:P.Hst):Prop where
 nl:Z x.name<=24
 rl:Z x.rules<=6
 rules:∀r∈x.rules,VRl r
theorem aJ {x:P.Hst}(h:VPk x):Z (qX x)<=8000:=by
 have a:=xx qN 1200 x.rules (fun r hr=>zdA (h.rules r hr));have:=h.nl;have:=h.rl;unfold qX;rw[Ah,qr];omega
theorem zeZ (l:A P.Hst)(v:Aj)(C:A (A Aj))(d:w.ownsRow 0 146 2 v (Z l) C.flatten)(g:All2 (PHostVal w) C l)(hn:Z l<=255)(hv:∀x∈l,VPk x)(n:Z (zR qX l)<=900000):Am prog 71 #[.func (.func 72) #[] #[],v] w (Gives w (zR qX l)):=by
 obtain⟨va,vc,rfl⟩:=zL d;have HR:=J (d);have HA:=J (g);have HV:=J (hv);have y:=J (n);go_in;go_wp2_with fail;refine(kC (Z l) w).mono ?_;rintro e w0 ⟨a0,k0,rfl,h0,g0⟩;have z:=J (h0);have t:=J (g0);go_wp2_with fail
 go_loopw [5,13] (fun sv iv wr=>∃i:Ad,i<=Z l/\iv=O Ai i/\(∃a k,sv=X a (Z (zk qX l i)) k/\Y (wr.ownsRow w.heap.size 5 1 (X a (Z (zk qX l i)) k) (Z (zk qX l i)) (Ba (zk qX l i))))/\Y (w.grownBy wr S)) (fun _ iv _=>Z l-(intOf iv).toNat)
 ·exact⟨0,Ax _,rfl,⟨a0,k0,rfl,z⟩,t⟩
 ·
  obtain⟨i,ag,rfl,⟨a,k,rfl,Q⟩,s⟩:=hrel
  by_cases r:i<Z l
  ·have af:(i:Ak)<Z l:=by omega
   obtain⟨gt,ad,H,_,ae⟩:=Bm HR.o (by omega);simp only[Au] at H;obtain⟨rfl,_,rfl⟩:=H;have N:=zK HR.o s.o (fun k hk c=>by cases c);obtain⟨ce,E,F⟩:=mo HA.o i r;have m:=E.keep s.o (za _ _);have b:∀j,j<2->wr.cell? ⟨gt,i*2+j,S⟩=ce[j]?:=fun j hj=>by
    rw[Ap N (i*2+j) (by omega)];exact F j hj
   have f:=HV.o l[i] (Cr r);have q:=J (jY qX l i r);have ah:Z (zk qX l (i+1))<=900000:=Bi (vf qX l (i+1)) y.o;generalize l[i]=x at*;obtain⟨vR,rfl,hR⟩:=id m;obtain⟨o,p,rfl⟩:=uU hR;have aa:wr.cell? ⟨gt,i*2,S⟩=V (I (Aa x.name)):=b 0 (by omega);have ab:wr.cell? ⟨gt,i*2+1,S⟩=V (X o (Z x.rules) p):=b 1 (by omega);have gB:wr.grownBy (wr.alloc (Gj4 (Z x.rules) x.name o p)) S:=Ac _ _ S;have HI:Y (Am prog 72 #[Fe #[I (Aa x.name),X o (Z x.rules) p]] (wr.alloc (Gj4 (Z x.rules) x.name o p)) (Gives (wr.alloc (Gj4 (Z x.rules) x.name o p)) (qX x))):=zfB x o p (wr.alloc (Gj4 (Z x.rules) x.name o p)) (hR.keep gB (za _ _)) f.nl f.rl f.rules;have u:=J (zD s.o gB);have R0:Y (Rd (wr.alloc (Gj4 (Z x.rules) x.name o p)) (X a (Z (zk qX l i)) k) (zk qX l i)):=(Rd.of_row Q.o).keep gB;go_wp2_with fail;refine HI.o.mono ?_;rintro e w1 ⟨a1,k1,rfl,h1,g1⟩;have R1:=J (Rd.of_row h1);have B:=J (R0.o.keep g1);have G1:=J (zD u.o g1);have HJ:Y (Am prog 70 #[X (V ⟨w1.heap.size,0,S⟩) 2 2] (w1.alloc (Ae #[X a (Z (zk qX l i)) k,X a1 (Z (qX x)) k1] 32)) (Gives w (zk qX l (i+1)))):=by
    have h:=yZ G1.o [X a (Z (zk qX l i)) k,X a1 (Z (qX x)) k1] [zk qX l i,qX x] (.cons B.o (.cons R1.o .nil)) (by rw[q.o];omega) (by simp);rw[q.o] at h;exact h
   go_wp2_with fail;refine HJ.o.mono ?_;rintro e w2 ⟨a2,k2,rfl,h2,g2⟩;have H2:=J (h2);have G2:=J (g2);go_wp2
   go_roundw
   ·exact⟨i+1,by omega,by go_num,⟨a2,k2,rfl,H2⟩,G2⟩
   ·simp[intOf];omega
  ·have hE:i=Z l:=by omega
   subst hE;have HC:=J (jw qX l);rw[HC.o] at Q ⊢;go_wp2;go_ret;exact⟨a,k,rfl,Q.o,s.o⟩
theorem zlK (h:n<4294967296):vw n<4294967296:=by
 unfold vw
 split
 ·exact Nat.xor_lt_two_pow (n:=32) (by omega) (by decide)
 ·omega
def vV:Ad->Ad->Ad
 |0,s=>s
 |k+1,s=>vw (vV k s)
theorem aF (k:Ad)(h:n<4294967296):vV k n<4294967296:=by
 induction k <;> grind[zlK,vV]
theorem ze1 (s:Ad)(c:Ab):mF s c=vV 8 (s ^^^ c.toNat):=rfl
theorem pK {s:Ad}(c:Ab)(h:s<4294967296):s ^^^ c.toNat<4294967296:=Nat.xor_lt_two_pow (n:=32) h (by have:=c.toNat_lt;omega)
theorem zcU:∀(l:A Ab) (s:Ad),s<4294967296->l.foldl mF s<4294967296
 |[],_,h=>h
 |c::l,s,h=>zcU l (mF s c) (by rw[ze1];exact aF 8 (pK c h))
def ym (l:A Ab)(i:Ad):Ad:=(l.take i).foldl mF 4294967295
theorem tA (l:A Ab)(i:Ad):ym l i<4294967296:=zcU _ _ (by decide)
theorem rO (l:A Ab)(i:Ad)(h:i<Z l):ym l (i+1)=vV 8 (ym l i ^^^ l[i].toNat):=by
 unfold ym;rw[Co h,Mb];rfl
theorem zhX {q:Ad}(h:q<4294967296):4294967295 ^^^ q=4294967295-q:=by
 apply Nat.eq_of_testBit_eq
 intro i;have b:(4294967295:Ad)=2 ^ 32-1:=by decide
 have c:4294967295-q=2 ^ 32-(q+1):=by omega
 rw[Nat.testBit_xor,c,Nat.testBit_two_pow_sub_succ (by simpa using h),b,Nat.testBit_two_pow_sub_one]
 by_cases a:i<32
 ·simp[a]
 ·have:q.testBit i=false:=Nat.testBit_lt_two_pow (Eh h (by rw[show(4294967296:Ad)=2 ^ 32 by decide];exact Nat.pow_le_pow_right (by decide) (by omega)))
  simp[a,this]
theorem oB (n:Ad)(w:Ag)(d:n<4294967296):Am prog 112 #[O .u32 n] w fun e w'=>e=Af (O .u32 (vw n:Ad))/\w'=w:=by
 have c:=J (u32_xor_nat (n / 2) 3988292384 (by omega) (by decide));have b:Y (bits .and .u32 (n:Ak) 1=((n % 2:Ad):Ak)):=by
  have h:=u32_and_nat n 1 d (by decide);rw[Nat.and_one_is_mod] at h;exact h
 by_cases h:n % 2=1
 ·have a:Y (vw n=n / 2 ^^^ 3988292384):=by show _=_;unfold vw;rw[Az h]
  have f:(bits .and .u32 (n:Ak) 1 == 1)=true:=by rw[b.o,h];rfl
  go_in;go_wp2;go_ret;exact⟨by rw[a.o,<-c.o];rfl,rfl⟩
 ·have a:Y (vw n=n / 2):=by show _=_;unfold vw;rw[Aw h]
  have f:(bits .and .u32 (n:Ak) 1 == 1)=false:=by
   rw[b.o,Ch];omega
  go_in;go_wp2;go_ret;exact⟨by rw[a.o];rfl,rfl⟩
theorem zkQ (a:Br Eu)(k:Ad)(l:A Ab)(z:Rd w (X a (Z l) k) l)(hl:Z l<=1000000):Am prog 74 #[X a (Z l) k] w fun e w'=>e=Af (O .u32 (yg l:Ad))/\w'=w:=by
 have r:=J (z);go_in;go_wp2
 go_loopw [3,8] (fun sv iv wr=>∃i:Ad,i<=Z l/\iv=O Ai i/\sv=O .u32 (ym l i:Ad)/\wr=w) (fun _ iv _=>Z l-(intOf iv).toNat)
 ·exact⟨0,Ax _,rfl,rfl,rfl⟩
 ·
  obtain⟨i,N,rfl,rfl,n⟩:=hrel;rw[n]
  by_cases d:i<Z l
  ·have H:(i:Ak)<Z l:=by omega
   obtain⟨g,x,m,F,b⟩:∃g x,(X a (Z l) k:Aj)=X (V ⟨g,0,S⟩) (Z l) x/\g<w.heap.size/\∀j u,(Ba l)[j]?=V u->w.cell? ((⟨g,0,S⟩:Eu).add j)=V u:=by
    rcases r.o with ⟨_,h0⟩|h
    ·rw[h0] at d;cases d
    ·exact h
   simp only[Au,Fb] at m;obtain⟨rfl,rfl⟩:=m;have d0:w.cell? ⟨g,i,S⟩=V (O Bp l[i].toNat):=by
    have h:=b i (O Bp l[i].toNat) (by unfold Ba;rw[Fq,Bd d];rfl);rw[vJ,Gr] at h;exact h
   have C:=J (rO l i d);have hc:=l[i].toNat_lt;have hx:bits .xor .u32 (ym l i:Ak) (l[i].toNat:Ak)=((ym l i ^^^ l[i].toNat:Ad):Ak):=u32_xor_nat _ _ (tA l i) (by omega);have p:Y (ym l i ^^^ l[i].toNat<4294967296):=pK _ (tA l i);generalize l[i]=c at*;generalize hs:ym l i ^^^ c.toNat=s0 at*;have s:Y (∀j,Am prog 112 #[O .u32 (vV j s0:Ad)] w fun e w'=>e=Af (O .u32 (vV (j+1) s0:Ad))/\w'=w):=fun j=>oB (vV j s0) w (aF j p.o)
   go_wp2_with fail
   go_loopw [3,16] (fun sv jv wq=>∃j:Ad,j<=8/\jv=O Ai j/\sv=O .u32 (vV j s0:Ad)/\wq=w) (fun _ jv _=>8-(intOf jv).toNat)
   ·exact⟨0,by omega,rfl,rfl,rfl⟩
   ·
    obtain⟨j,Q,rfl,rfl,n⟩:=hrel;rw[n]
    by_cases hj:j<8
    ·have aa:(j:Ak)<8:=by omega
     have f:=s.o j;have t:=J (f);go_wp2_with (go_at_call 112;refine t.o.mono ?_;rintro e wX ⟨rfl,o⟩;rw[o];clear o wX)
     go_roundw
     ·exact⟨j+1,by omega,by go_num,rfl,by first|trivial|rfl⟩
     ·simp[intOf];omega
    ·have v:j=8:=by omega
     subst v;go_wp2
     go_roundw
     ·exact⟨i+1,by omega,by go_num,by rw[C.o],by first|trivial|rfl⟩
     ·simp[intOf];omega
  ·have v:i=Z l:=by omega
   subst v;have B:Y ((yg l:Ad)=4294967295-ym l (Z l)):=by show _=_;unfold yg ym;rw[Ia]
   have y:=tA l (Z l);have E:Y (bits .xor .u32 IntKind.u32.max (ym l (Z l):Ak)=((4294967295-ym l (Z l):Ad):Ak)):=by
    have h:=u32_xor_nat 4294967295 (ym l (Z l)) (by decide) y;rw[zhX y] at h;exact h
   generalize ym l (Z l)=q at*;go_wp2;go_ret;exact⟨by rw[B.o,<-E.o];rfl,rfl⟩
theorem zeA (n:Ad)(h:n<4294967296):xW [qc ((n % 65536:Ad):Ak),qc ((n / 65536:Ad):Ak)]=xF n:=by
 rw[join2];unfold qc xF;simp only[Xe,Of,Hc];rw[show n % 65536 % 256=n % 256 by omega,show n % 65536 / 256=n / 256 % 256 by omega,show n / 65536 / 256=n / 16777216 % 256 by omega]
theorem zi4 (n:Ad)(w:Ag)(p:n<4294967296):Am prog 73 #[O .u32 n] w (Gives w (xF n)):=by
 have B:Sv (bits .and .u32 (n:Ak) 65535)=((n % 65536:Ad):Ak):=by
  have h:=u32_and_nat n 65535 p (by decide);rw[show(65535:Ad)=2 ^ 16-1 by decide,Nat.and_two_pow_sub_one_eq_mod] at h;rw[show bits .and .u32 (n:Ak) 65535=((n % 65536:Ad):Ak) from h];simp only[Sv];omega
 have C:Sv ((n:Ak) / 65536)=((n / 65536:Ad):Ak):=by simp only[Sv];omega
 have b:=J (zeA n p);go_in;go_wp2_with fail;refine(eE (n % 65536) w).mono ?_;rintro e z ⟨j,q,rfl,m,l⟩;have a:=J (Rd.of_row m);have g:=J (l);go_wp2_with fail;refine(eE (n / 65536) z).mono ?_;rintro e s ⟨k,r,rfl,o,f⟩;have d:=J (Rd.of_row o);have c:=J (a.o.keep f);have t:=J (zD g.o f);go_wp2_with fail;have i:Y (Am prog 70 #[X (V ⟨s.heap.size,0,S⟩) 2 2] (s.alloc (Ae #[X j (Z (qc ((n % 65536:Ad):Ak))) q,X k (Z (qc ((n / 65536:Ad):Ak))) r] 32)) (Gives w (xF n))):=by
  have h:=yZ t.o [X j (Z (qc ((n % 65536:Ad):Ak))) q,X k (Z (qc ((n / 65536:Ad):Ak))) r] [qc ((n % 65536:Ad):Ak),qc ((n / 65536:Ad):Ak)] (.cons c.o (.cons d.o .nil)) (by rw[b.o];unfold xF;simp) (by simp);rw[b.o] at h;exact h
 refine i.o.mono ?_;rintro e E ⟨u,y,rfl,x,v⟩;go_wp2;go_ret;exact⟨u,y,rfl,x,v⟩
abbrev Gj5:=Ae #[O Bp 83,O Bp 89,O Bp 49] 5 (3,4)
abbrev Gjf (a):=X (V ⟨a+1,0,S⟩) 3 3
theorem sE (v:Aj)(a:A P.Hst)(B:PHostsRow w 0 v a)(hn:Z a<=4)(E:∀x∈a,VPk x):Am prog 43 #[Fe #[v]] w (Gives w (x4 a)):=by
 obtain⟨b,c,rfl⟩:∃b c,v=X b (Z a) c:=by obtain⟨m,p,_⟩:=B;exact zL p
 have z:w.grownBy ((w.alloc (Gj7 (Z a) b c)).alloc Gj5) S:=zD (Ac _ _ S) (Ac _ _ S);have g:(w.alloc (Gj7 (Z a) b c)).heap.size=w.heap.size+1:=by simp
 have C:=xx qX 8000 a (fun x hx=>aJ (E x hx));have Q:Y (Am prog 71 #[.func (.func 72) #[] #[],X b (Z a) c] ((w.alloc (Gj7 (Z a) b c)).alloc Gj5) (Gives ((w.alloc (Gj7 (Z a) b c)).alloc Gj5) (zR qX a))):=by
  obtain⟨m,q1,q2⟩:=B.keep z (za _ _);exact zeZ a _ m q1 q2 (by omega) E (by omega)
 have R0:Y (Rd ((w.alloc (Gj7 (Z a) b c)).alloc Gj5) (Gjf w.heap.size) [83,89,49]):=by
  refine Bf ⟨w.heap.size+1,3,rfl,by rw[show((w.alloc (Gj7 (Z a) b c)).alloc Gj5).heap.size=w.heap.size+2 by simp];omega,fun j u hu=>?_⟩;rw[vJ,Gr,<-g,World.cell?_alloc_mark];rw[<-hu,<-Fo];rfl
 have f:(Oh 32 32 (Gjf w.heap.size)).run prog ((w.alloc (Gj7 (Z a) b c)).alloc (Ae #[O Bp 83,O Bp 89,O Bp 49] 5)) = .ok (Gjf w.heap.size) ((w.alloc (Gj7 (Z a) b c)).alloc Gj5):=by
  have h:=Lib.run_convert_bytes_const (P:=prog) (w.alloc (Gj7 (Z a) b c)) 32 5 #[O Bp 83,O Bp 89,O Bp 49] 3 3 underlying32 underlying5;rw[g] at h;exact h
 have u0:((w.alloc (Gj7 (Z a) b c)).alloc Gj5).cell? ⟨w.heap.size,0,S⟩=V (X b (Z a) c):=zB (zE (Bn w (Gj7 (Z a) b c)) (Ac _ _ S) (by simp));have i:=J (z);have d:Y (Z (xM a)<=100000):=by
  show _<=_;unfold xM;rw[Ah];simp only[Bb,Bu];omega
 go_in;go_wp2_with fail;refine Q.o.mono ?_;rintro e w1 ⟨a1,k1,rfl,p,t⟩;have R1:=J (Rd.of_row p);have l:=J (R0.o.keep t);have H:=J (zD i.o t);have k:Y (Am prog 70 #[X (V ⟨w1.heap.size,0,S⟩) 2 2] (w1.alloc (Ae #[X (V ⟨w.heap.size+1,0,S⟩) 3 3,X a1 (Z (zR qX a)) k1] 32)) (Gives w (xM a))):=by
  have h:=yZ H.o [X (V ⟨w.heap.size+1,0,S⟩) 3 3,X a1 (Z (zR qX a)) k1] [[83,89,49],zR qX a] (.cons l.o (.cons R1.o .nil)) (by rw[join2];have:=d.o;unfold xM at this;omega) (by simp);rw[show xW [[83,89,49],zR qX a]=xM a from join2 _ _] at h;exact h
 go_wp2_with fail;refine k.o.mono ?_;rintro e F ⟨o,q,rfl,h2,g2⟩;have r:=J (Rd.of_row h2);have N:=J (g2);have HS:Y (Am prog 74 #[X o (Z (xM a)) q] F fun e w'=>e=Af (O .u32 (yg (xM a):Ad))/\w'=F):=zkQ o q _ r.o (by have:=d.o;omega);go_wp2_with fail;refine HS.o.mono ?_;rintro e wX ⟨rfl,n⟩;rw[n];go_wp2_with fail;refine(zi4 (yg (xM a)) F (by unfold yg;omega)).mono ?_;rintro e w3 ⟨a3,k3,rfl,h3,y⟩;have R3:=J (Rd.of_row h3);have s:=J (r.o.keep y);have G3:=J (zD N.o y);have k:Y (Am prog 70 #[X (V ⟨w3.heap.size,0,S⟩) 2 2] (w3.alloc (Ae #[X o (Z (xM a)) q,X a3 (Z (xF (yg (xM a)))) k3] 32)) (Gives w (x4 a))):=by
  have h:=yZ G3.o [X o (Z (xM a)) q,X a3 (Z (xF (yg (xM a)))) k3] [xM a,xF (yg (xM a))] (.cons s.o (.cons R3.o .nil)) (by rw[join2,Ah];have:=d.o;unfold xF;simp;omega) (by simp);rw[show xW [xM a,xF (yg (xM a))]=x4 a from join2 _ _] at h;exact h
 go_wp2_with fail;refine k.o.mono ?_;rintro e w4 ⟨a4,k4,rfl,h4,g4⟩;go_wp2;go_ret;exact⟨a4,k4,rfl,h4,g4⟩
def uK (m:R.Mt):A Ab:=zM m.name++(if m.ask then 1::zM m.val else [0])
def dy (r:R.Rl):A Ab:=if r.change then 1::zM r.to else [0]
def qm (r:R.Rl):A Ab:=qc r.number++(zM r.path++(zR uK r.ms++(zR K.tg r.tg++(dy r++(zR K.st r.sets++zR zM r.drops)))))
def yr (h:Fp):A Ab:=zM h.name++zR qm h.rules
def kV (hs:A Fp):A Ab:=[83,89,49]++zR yr hs
def t7 (hs:A Fp):A Ab:=kV hs++xF (yg (kV hs))
theorem dM {β:Type}(g:α->β)(f:β->A Ab)(h:α->A Ab)(e:∀x,f (g x)=h x)(l:A α):zR f (l.map g)=zR h l:=by
 unfold zR;rw[Bv,Ny]
 congr 3
 funext x;exact e x
theorem ziS (x:P.Rl):qm (toRl x)=qN x:=by grind[qm,qN,dy,f7,toRl,rlOf,dM,mtOf,uK,K.mt,P.Rl]
theorem zhD (x:P.Hst):yr (toR x)=qX x:=by grind[yr,qX,toR,dM,toRl,qm,qN,ziS,P.Hst]
theorem be (a:A P.Hst):t7 (a.map toR)=x4 a:=by grind[kV,toR,xM,dM,yr,qX,zhD,t7,x4,P.Hst]
def yz (l:A Ab):A Ab:=if (xg l).1=0 then t7 (qx (Gw l).1) else []
theorem zd4 {a:A P.Hst}(h:(xA l).1=0)(g:SrtH (zp l).1 a):yz l=x4 a/\(Z a)<=4/\(∀x∈a,VPk x):=by
 obtain⟨n,c,d⟩:=m8 h;obtain⟨f,e⟩:=co l n c d;rw[e] at f;have m:=zcB g f;obtain⟨i,j,k⟩:=mB l c d;have b:=dt g i j k;refine⟨?_,b.hl,fun x hx=>⟨(b.hosts x hx).nl,(b.hosts x hx).rl,(b.hosts x hx).rules⟩⟩;unfold yz;rw[Az (by rw[<-vg];exact h),e,<-m,be]
theorem zi3 (s:As)(w:Ag)(z:s.size<=Bh)(Q:Glob w):Am prog 18 #[I s] w fun e w'=>∃a k,e=Af (Cm #[X a (Z (yz s.data.toList)) k,O Ai (xg s.data.toList).1,O Ai (xg s.data.toList).2])/\w'.ownsRow w.heap.size 5 1 (X a (Z (yz s.data.toList)) k) (Z (yz s.data.toList)) (Ba (yz s.data.toList))/\w.grownBy w' S:=by
 have o:Y (Am prog 41 #[I s] w fun e w'=>∃j l vc,e=Af (Cm #[Fe #[X j l vc],O Ai (xA s.data.toList).1,O Ai (xA s.data.toList).2])/\w.grownBy w' S/\((xA s.data.toList).1=0->∃b,PHostsRow w' 0 (X j l vc) b/\SrtH (zp s.data.toList).1 b)):=by
  refine(o5 s w z Q (fun u p h3=>oO _ (by rw[Cp];exact u) p h3)).mono ?_;rintro e w' ⟨v,rfl,u,p,j,l,vc,rfl⟩;exact⟨j,l,vc,rfl,u,p⟩
 have f:Y (∀b,(xA s.data.toList).1=0->SrtH (zp s.data.toList).1 b->yz s.data.toList=x4 b/\(Z b)<=4/\(∀h∈b,VPk h)):=fun b u p=>zd4 u p
 have d:Y ((xA s.data.toList).1≠0->yz s.data.toList=[]):=fun h=>by
  unfold yz;rw[Aw (by rw[<-vg];exact h)]
 have r:Y ((xA s.data.toList).1=0->(xA s.data.toList).2=0):=mx;rw[<-vg];clear Q;generalize yz s.data.toList=pt at*;generalize xA s.data.toList=er at*;generalize zp s.data.toList=rd at*;obtain⟨t,aa⟩:=er;simp only at o f d r ⊢;go_in;go_wp2_with fail;refine o.o.mono ?_;rintro e N ⟨j,l,vc,rfl,y,B⟩;have m:=J (y);have n:=J (B);have c:Y (N.grownBy (N.alloc (Ae #[X j l vc] 88)) S):=Ac _ _ S;clear y B
 by_cases q:t=0
 ·subst q
  have x:=r.o rfl;subst x;obtain⟨b,g,i⟩:=n.o rfl;obtain⟨q1,q2,q3⟩:=f.o b rfl i;have F:Y (Am prog 43 #[Fe #[X j l vc]] (N.alloc (Ae #[X j l vc] 88)) (Gives w pt)):=by
   rw[q1];exact(sE _ b (PHostsRow.keep g c.o (za _ _)) q2 q3).mono fun e w' ⟨a,k,k1,H,k3⟩=>⟨a,k,k1,ke H (zD m.o c.o).size,zD (zD m.o c.o) k3⟩
  clear q1 q2 q3 g i;go_wp2_with (go_at_call 43;refine F.o.mono ?_;rintro e w2 ⟨a2,H,rfl,p,g2⟩)
  go_ret3
  exact⟨a2,H,rfl,p,g2⟩
 ·have E:=J (d.o q)
  have ab:(t != 0)=true:=by rw[Qv];exact q
  have C:=J (zD m.o c.o);go_wp2
  go_ret3
  rw[E.o];exact⟨S,0,rfl,Bk _ _ _ _,C.o⟩
def xd (l:A Ab)(i:Ad):A Ab:=Cb (Z l)::l.take i
theorem zgD (l:A Ab):xd l (Z l)=zM l:=by simp_all[xd,zM]
theorem zcI (l:A Ab)(i:Ad)(h:i<Z l):xd l (i+1)=xd l i++[l[i]]:=by simp_all[xd]
theorem zgE (l:A Ab)(i:Ad)(h:i<=Z l):Z (xd l i)=i+1:=by unfold xd;simp;omega
theorem u8o (n:Ad):(Cb n).toNat=n % 256:=by rw[Qc]
theorem ziI (s:As)(w:Ag)(hl:s.size<=100000):Am prog 137 #[I s] w (Gives w (zM s.data.toList)):=by
 obtain⟨i0,hi,y,z,B⟩:=Ej jD;have f:=Cp s;have E:Y ((Cb s.size).toNat=s.size % 256):=u8o _;have g:Y (w.grownBy (w.alloc (Ae #[O Bp ((s.size:Ak) % 256)] 5)) S):=Ac _ _ _;have n:Y ((w.alloc (Ae #[O Bp ((s.size:Ak) % 256)] 5)).ownsRow w.heap.size 5 1 (X (V ⟨w.heap.size,0,S⟩) (Z (xd s.data.toList 0)) 1) (Z (xd s.data.toList 0)) (Ba (xd s.data.toList 0))):=by
  have h:=uY w [Cb s.size] (by simp);unfold Ba at h;simp only[Er,Fa] at h;rw[E.o] at h;show Ib _ _ _ _ _ _ _;unfold Ba xd;rw[Gm,f];simp only[Er,Fa];rw[E.o];exact h
 have d:=J (f);go_in;go_wp2
 go_loopw [3,4] (fun sv iv wr=>∃i:Ad,i<=s.size/\iv=O Ai i/\(∃a k,sv=X a (Z (xd s.data.toList i)) k/\Y (wr.ownsRow w.heap.size 5 1 (X a (Z (xd s.data.toList i)) k) (Z (xd s.data.toList i)) (Ba (xd s.data.toList i))))/\Y (w.grownBy wr S)) (fun _ iv _=>s.size-(intOf iv).toNat)
 ·exact⟨0,Ax _,rfl,⟨_,_,rfl,n⟩,g⟩
 ·
  obtain⟨i,v,rfl,⟨a,k,rfl,r⟩,p⟩:=hrel
  by_cases x:i<s.size
  ·have aa:(i:Ak)<s.size:=by omega
   have m:Y (xd s.data.toList (i+1)=xd s.data.toList i++[s[i]]):=zcI s.data.toList i (by rw[d.o];exact x);have F:Z (xd s.data.toList i)<=100001:=by rw[zgE _ _ (by rw[d.o];exact v)];omega
   have ab:=p.o.size;have o:Y ((wr.alloc (Ae #[O Bp s[i].toNat] 5)).ownsRow w.heap.size 5 1 (X a (Z (xd s.data.toList i)) k) (Z (xd s.data.toList i)) (Ba (xd s.data.toList i))):=Ao r.o _;have C:Y (∀j u,(Ba [s[i]])[j]?=V u->(wr.alloc (Ae #[O Bp s[i].toNat] 5)).cell? ((⟨wr.heap.size,0,S⟩:Eu).add j)=V u):=zZ wr #[_] _ _ rfl;have H:(wr.alloc (Ae #[O Bp s[i].toNat] 5)).heap.size=wr.heap.size+1:=by simp
   have l:Y (w.grownBy (wr.alloc (Ae #[O Bp s[i].toNat] 5)) S):=zD p.o (Ac _ _ S);go_wp2_with (at_builtin;refine Cu _ rfl _ _ 32 rfl w.heap.size 5 i0 _ 1 1 underlying32 hi y z B rfl (by decide) _ _ _ rfl o.o ⟨wr.heap.size,0,S⟩ 1 1 (Ba [s[i]]) rfl ?a1 C.o (vo [s[i]]) ?a4 ?a5 ?a6 ?_)
   ·rfl
   ·unfold Bh;omega
   ·omega
   ·omega
   intro v' w2 b c _;obtain⟨N,vc,rfl⟩:=zL b;have t:Y (w2.ownsRow w.heap.size 5 1 (X N (Z (xd s.data.toList (i+1))) vc) (Z (xd s.data.toList (i+1))) (Ba (xd s.data.toList (i+1)))):=by
    show Ib _ _ _ _ _ _ _;rw[m.o,Ah,Hl];exact b
   have q:=J (qI l.o c (fun k hk=>(An o.o k hk).1));have HV:Y (Z (xd s.data.toList i)+1=Z (xd s.data.toList (i+1))):=by show _=_;rw[m.o,Ah];rfl
   go_wp2
   go_roundw
   ·exact⟨i+1,by omega,by go_num,⟨N,vc,by rw[HV.o],t⟩,q⟩
   ·simp[intOf];omega
  ·have hE:i=s.size:=by omega
   subst hE;have Q:Y (xd s.data.toList s.size=zM s.data.toList):=by show _=_;rw[<-d.o];exact zgD _
   rw[Q.o] at r ⊢;go_wp2;go_ret;exact⟨a,k,rfl,r.o,p.o⟩
theorem zkZ (n:Ad)(w:Ag)(b:n<=65535):Am prog 194 #[O Ai n] w (Gives w (qc n)):=by
 have a:Y ((Cb (n % 256)).toNat=n % 256/\(Cb (n / 256)).toNat=n / 256):=⟨u8n _ (by omega),u8n _ (by omega)⟩;go_in;go_wp2;go_ret;refine⟨V ⟨w.heap.size,0,S⟩,2,rfl,?_,Ac _ _ _⟩;have h:=uY w (qc n) (by rw[kw];omega);unfold Ba qc at h ⊢;simp only[Er,Fa,Xe] at h ⊢;rw[a.o.1,a.o.2] at h ⊢;exact h
theorem oi (n:Ak)(w:Ag)(h:0<=n/\n<=65535):Am prog 194 #[O Ai n] w (Gives w (qc n)):=by
 obtain⟨k,rfl⟩:=Sg h.1;exact zkZ k w (by omega)
theorem rZ (a b:Ad)(c:a<4294967296)(d:b<4294967296):bits .xor Ai (a:Ak) (b:Ak)=((a ^^^ b:Ad):Ak):=by
 have f:a ^^^ b<2 ^ 32:=Nat.xor_lt_two_pow (by omega) (by omega);show IntKind.i64.wrap ((BitVec.ofInt 64 (a:Ak) ^^^ BitVec.ofInt 64 (b:Ak)).toNat:Ak)=_;rw[BitVec.toNat_xor,ofInt_u64 a (by omega),ofInt_u64 b (by omega)];simp[IntKind.wrap,IntKind.bits,IntKind.signed]
 omega
theorem zkW (a:Br Eu)(k:Ad)(l:A Ab)(y:Rd w (X a (Z l) k) l)(hl:Z l<=1000000):Am prog 139 #[X a (Z l) k] w (Gives w (xF (yg l))):=by
 have r:=J (y);go_in;go_wp2
 go_loopw [3,4] (fun sv iv wr=>∃i:Ad,i<=Z l/\iv=O Ai i/\sv=O Ai (ym l i:Ad)/\wr=w) (fun _ iv _=>Z l-(intOf iv).toNat)
 ·exact⟨0,Ax _,rfl,rfl,rfl⟩
 ·
  obtain⟨i,N,rfl,rfl,n⟩:=hrel;rw[n]
  by_cases d:i<Z l
  ·have H:(i:Ak)<Z l:=by omega
   obtain⟨g,v,m,F,b⟩:∃g v,(X a (Z l) k:Aj)=X (V ⟨g,0,S⟩) (Z l) v/\g<w.heap.size/\∀j u,(Ba l)[j]?=V u->w.cell? ((⟨g,0,S⟩:Eu).add j)=V u:=by
    rcases r.o with ⟨_,h0⟩|h
    ·rw[h0] at d;cases d
    ·exact h
   simp only[Au,Fb] at m;obtain⟨rfl,rfl⟩:=m;have E:w.cell? ⟨g,i,S⟩=V (O Bp l[i].toNat):=by
    have h:=b i (O Bp l[i].toNat) (by unfold Ba;rw[Fq,Bd d];rfl);rw[vJ,Gr] at h;exact h
   have C:=J (rO l i d);have hc:=l[i].toNat_lt;have hx:bits .xor Ai (ym l i:Ak) (l[i].toNat:Ak)=((ym l i ^^^ l[i].toNat:Ad):Ak):=rZ _ _ (tA l i) (by omega);have p:Y (ym l i ^^^ l[i].toNat<4294967296):=pK _ (tA l i);generalize l[i]=c at*;generalize hs:ym l i ^^^ c.toNat=s0 at*;go_wp2_with fail
   go_loopw [3,5] (fun sv jv wq=>∃j:Ad,j<=8/\jv=O Ai j/\sv=O Ai (vV j s0:Ad)/\wq=w) (fun _ jv _=>8-(intOf jv).toNat)
   ·exact⟨0,by omega,rfl,rfl,rfl⟩
   ·
    obtain⟨j,Q,rfl,rfl,n⟩:=hrel;rw[n]
    by_cases hj:j<8
    ·have aa:(j:Ak)<8:=by omega
     have hq:=aF j p.o;have f:Y (vV (j+1) s0=vw (vV j s0)):=rfl;generalize vV j s0=q at*;have ab:bits .xor Ai ((q:Ak) / 2) 3988292384=((q / 2 ^^^ 3988292384:Ad):Ak):=rZ (q / 2) 3988292384 (by omega) (by decide)
     by_cases x:q % 2=1
     ·have t:((q:Ak) % 2)=1:=by omega
      have o:Y (vV (j+1) s0=q / 2 ^^^ 3988292384):=by show _=_;rw[f.o];unfold vw;rw[Az x]
      go_wp2
      go_roundw
      ·exact⟨j+1,by omega,by go_num,by rw[o.o],by first|trivial|rfl⟩
      ·simp[intOf];omega
     ·have t:((q:Ak) % 2)=0:=by omega
      have o:Y (vV (j+1) s0=q / 2):=by show _=_;rw[f.o];unfold vw;rw[Aw x]
      go_wp2
      go_roundw
      ·exact⟨j+1,by omega,by go_num,by rw[o.o];rfl,by first|trivial|rfl⟩
      ·simp[intOf];omega
    ·have s:j=8:=by omega
     subst s;go_wp2
     go_roundw
     ·exact⟨i+1,by omega,by go_num,by rw[C.o],by first|trivial|rfl⟩
     ·simp[intOf];omega
  ·have s:i=Z l:=by omega
   subst s;have z:Y ((yg l:Ad)=4294967295-ym l (Z l)):=by show _=_;unfold yg ym;rw[Ia]
   have hk:=tA l (Z l);generalize ym l (Z l)=q at*;have B:Y (Ba (xF (4294967295-q))=[O Bp ((4294967295-(q:Ak)) % 256),O Bp ((4294967295-(q:Ak)) / 256 % 256),O Bp ((4294967295-(q:Ak)) / 65536 % 256),O Bp ((4294967295-(q:Ak)) / 16777216)]):=by
    show _=_;unfold Ba xF;simp only[Er,Fa];rw[u8n _ (by omega),u8n _ (by omega),u8n _ (by omega),u8n _ (by omega)];rw[show(((4294967295-q) % 256:Ad):Ak)=(4294967295-(q:Ak)) % 256 by omega,show(((4294967295-q) / 256 % 256:Ad):Ak)=(4294967295-(q:Ak)) / 256 % 256 by omega,show(((4294967295-q) / 65536 % 256:Ad):Ak)=(4294967295-(q:Ak)) / 65536 % 256 by omega,show(((4294967295-q) / 16777216 % 256:Ad):Ak)=(4294967295-(q:Ak)) / 16777216 by omega]
   go_wp2;go_ret;rw[z.o];refine⟨V ⟨w.heap.size,0,S⟩,4,rfl,?_,Ac _ _ _⟩;have h:=uY w (xF (4294967295-q)) (by unfold xF;simp);rw[B.o] at h ⊢;exact h
def RdO (w:Ag)(v:Aj)(l:A Ab):Prop:=
 (∃a c,v=X a 0 c/\l=[])\/∃g o c,v=X (V ⟨g,o,S⟩) (Z l) c/\(Z l)<=c/\g<w.heap.size/\∀j u,l[j]?=V u->w.cell? ⟨g,o+j,S⟩=V (O Bp u.toNat)
variable {row:Br Ad}
theorem RdO.keep (h:RdO w v l)(b:w.grownBy w' row)(d:∀g o n c,v=X (V ⟨g,o,S⟩) n c->row≠V g):RdO w' v l:=by
 rcases h with h|⟨g,o,c,h1,hc,h2,h3⟩
 ·exact Ay h
 ·exact Bf ⟨g,o,c,h1,hc,Eh h2 b.size,fun j u hu=>b.cell (a:=⟨g,o+j,S⟩) (h3 j u hu) (fun e=>d g o _ c h1 e.symm)⟩
theorem RdO.keep1 (h:RdO w v l)(b:w.grownBy w' row)(d:l≠[]->∀g o n c,v=X (V ⟨g,o,S⟩) n c->row≠V g):RdO w' v l:=by
 by_cases a:l=[]
 ·subst a
  rcases h with h|⟨g,o,c,h1,_⟩
  ·exact Ay h
  ·exact Ay ⟨_,c,h1,rfl⟩
 ·exact h.keep b (d a)
theorem RdO.form (h:RdO w v l):∃a c,v=X a (Z l) c/\(Z l)<=c:=by grind[RdO]
structure TInv (w:Ag) (tb:Ad) (v:Aj) (b:A Ab) (s:T.St):Prop where
 ex:∃p:Ad,p<=Z b/\s.rest=b.drop p/\w.heap[tb]?=V (Ae #[v,O Ai p,Av s.bad] 257 (0,0))
 rd:RdO w v b
 ap:b≠[]->∀g o n c,v=X (V ⟨g,o,S⟩) n c->g≠tb
 len:Z b<=140737488355328
theorem TInv.keep {c:Ad}(h:TInv w c v b s)(a:w.grownBy w' S):TInv w' c v b s:=by
 obtain⟨p,d,f,g⟩:=h.ex;exact⟨⟨p,d,f,zE g a (by simp)⟩,h.rd.keep a (fun _ _ _ _ _ e=>by cases e),h.ap,h.len⟩
theorem TInv.set (h:TInv w a v b s)(i:w.grownBy w' (V a)){d:T.St}{p:Ad}(j:p<=Z b)(k:d.rest=b.drop p)(f:w'.heap[a]?=V (Ae #[v,O Ai p,Av d.bad] 257 (0,0))):TInv w' a v b d:=
 ⟨⟨p,j,k,f⟩,h.rd.keep1 i (fun h0 g o n c e e2=>h.ap h0 g o n c e (by cases e2;rfl)),h.ap,h.len⟩
theorem uX {l:Ad}(h:TInv w l v b s):Am prog 140 #[Al (V ⟨l,0,S⟩)] w fun e w'=>e=Af (O Ai ((xD s).1:Ad))/\TInv w' l v b (xD s).2/\w.grownBy w' (V l):=by
 obtain⟨p,H,k,d⟩:=h.ex;obtain⟨a,c,rfl,C⟩:=h.rd.form;have E:=h.len;have N:=cbi 0 d;have Q:=cbi 1 d;have f1:=zm9 1 d;have f2:=zm9 2 d;have c2:=cbi 2 d;have r:=J (h);have B:=J (d);have m:=J (k)
 by_cases f:p<Z b
 ·have t:Y (xD s=(b[p].toNat,⟨b.drop (p+1),s.bad⟩)):=by
   show _=_;unfold xD;rw[m.o,Ed f]
  have z:(p:Ak)<Z b:=by omega
  obtain⟨g,o,u,y⟩:∃g o,a=V ⟨g,o,S⟩/\w.cell? ⟨g,o+p,S⟩=V (O Bp b[p].toNat):=by
   rcases r.o.rd with ⟨_,_,_,h0⟩|⟨g,o,c',h1,_,_,h3⟩
   ·rw[h0] at f;cases f
   ·simp only[Au,Fb] at h1
    exact⟨g,o,h1.1,h3 p b[p] (Bd f)⟩
  subst u;have F:g≠l:=r.o.ap (fun h0=>by rw[h0] at f;cases f) g o _ c rfl;rw[t.o];generalize b[p]=x at*;go_in;go_wp2
  go_region
  go_wp2
  go_region
  go_wp2;go_ret;have n:=zF w l 1 (O Ai ((p:Ak)+1));have i:=zD (zV (w.setCell ⟨l,1,S⟩ (O Ai ((p:Ak)+1)))) (zV _);have j:=zD n (zT i _);refine⟨?_,r.o.set j (p:=p+1) (by omega) rfl (zE (zH B.o _) i (by simp)),j⟩;have hx:=x.toNat_lt;have e:Sv (x.toNat:Ak)=x.toNat:=by simp only[Sv];omega
  show Af (O Ai (Sv (x.toNat:Ak)))=_;rw[e]
 ·have q:p=Z b:=by omega
  have t:Y (xD s=(0,⟨[],true⟩)):=by
   show _=_;unfold xD;rw[m.o,q,List.drop_length]
  rw[t.o];have z:¬((p:Ak)<Z b):=by omega
  go_in;go_wp2
  go_region
  go_wp2;go_ret;have n:=zF w l 2 (Av true);have i:=zV (w.setCell ⟨l,2,S⟩ (Av true));have j:=zD n (zT i _);exact⟨rfl,r.o.set j (p:=p) H (by rw[q,List.drop_length]) (zE (zH B.o _) i (by simp)),j⟩
theorem yP {g:Ad}(h:TInv w g v b s)(i:Bool):Am prog 141 #[Al (V ⟨g,0,S⟩),Av i] w fun e w'=>e=Af (Cm #[])/\TInv w' g v b (qP s i)/\w.grownBy w' (V g):=by
 obtain⟨p,l,c,a⟩:=h.ex;have n:=zm9 2 a;have m:=cbi 2 a;have j:=J (h);have k:=J (a);have d:=J (c)
 cases i
 ·go_in
  go_wp2
  go_end0
  have f:=zF w g 2 (Av true);exact⟨rfl,j.o.set f (p:=p) l d.o (zH k.o _),f⟩
 ·go_in
  go_wp2
  go_end0
  exact⟨rfl,j.o,zP _ _⟩
theorem kD {j:Ad}(h:TInv w j v b s)(m:Ad):Am prog 142 #[Al (V ⟨j,0,S⟩),O Ai m] w fun e w'=>e=Af (O Ai ((zr m s).1:Ad))/\TInv w' j v b (zr m s).2/\w.grownBy w' (V j):=by
 have k:=J (uX h);have d:Y (zr m s=if m<(xD s).1 then (0,⟨(xD s).2.rest,true⟩) else xD s):=rfl;generalize zr m s=fw at*;generalize xD s=on at*;obtain⟨n,C⟩:=on;simp only at k d;go_in;go_wp2_with fail;refine k.o.mono ?_;rintro e y ⟨rfl,l,r⟩;have q:=J (l);have o:=J (r);obtain⟨p,x,c,a⟩:=l.ex;have B:=zm9 2 a;have z:=cbi 2 a;have t:=J (a);have f:=J (c)
 by_cases i:m<n
 ·have u:(m:Ak)<n:=by omega
  rw[Az i] at d;go_wp2;go_ret;rw[d.o];have g:=zF y j 2 (Av true);exact⟨rfl,q.o.set g (p:=p) x f.o (zH t.o _),zD o.o g⟩
 ·have u:¬((m:Ak)<n):=by omega
  rw[Aw i] at d;go_wp2;go_ret;rw[d.o];exact⟨rfl,q.o,o.o⟩
theorem oh {d:Ad}(h:TInv w d v b s):Am prog 195 #[Al (V ⟨d,0,S⟩)] w fun e w'=>e=Af (O Ai (xa s).1)/\TInv w' d v b (xa s).2/\w.grownBy w' (V d):=by
 have g:∀s:T.St,(xD s).1<=255:=fun s=>by
  unfold xD
  split
  ·omega
  ·rename_i c r _;have:=c.toNat_lt;simp only;omega
 have q:=g s;have t:=g (xD s).2;have p:Y (xa s=((((xD s).1+256*(xD (xD s).2).1:Ad):Ak),(xD (xD s).2).2)):=rfl;have j:=J (h);go_in;go_wp2_with fail;refine(uX j.o).mono ?_;rintro e u ⟨rfl,m,k⟩;have a:=J (m);have i:=J (k);go_wp2_with fail;refine(uX a.o).mono ?_;rintro e x ⟨rfl,n,l⟩;have f:=J (n);have o:=J (zD i.o l);go_wp2;go_ret;rw[p.o];exact⟨rfl,f.o,o.o⟩
theorem uR (m:Ad)(s:T.St)(a:m<=255):(zr m s).1<=255:=by
 unfold zr
 split
 ·simp
 ·omega
theorem t8 (W:Ag)(a:Br Eu)(c:Ad):(Oh 32 9 (X a 0 c)).run prog W = .ok (I ⟨#[]⟩) W:=by
 cases a with
 |none=>exact run_convert_bytes_nil W _ _ underlying32 underlying5 _ _ _ underlying9
 |some a=>exact Qb W _ _ _ a c [] underlying32 underlying5 underlying9 (fun j hj=>by cases hj)
theorem vB {i:Ad}(h:TInv w i v b s):Am prog 143 #[Al (V ⟨i,0,S⟩)] w fun e w'=>e=Af (I (Aa (zj s).1))/\TInv w' i v b (zj s).2/\w.grownBy w' (V i):=by
 have ag:=uR 24 s (by omega);have H1:=J (kD h 24);have C:Y (zj s=if (Z (zr 24 s).2.rest)<(zr 24 s).1 then ([],⟨(zr 24 s).2.rest,true⟩) else ((zr 24 s).2.rest.take (zr 24 s).1,⟨(zr 24 s).2.rest.drop (zr 24 s).1,(zr 24 s).2.bad⟩)):=rfl;clear h;generalize zj s=tx at*;generalize zr 24 s=fw at*;obtain⟨n,z⟩:=fw;simp only at H1 C ag;go_in;go_wp2_with fail;refine H1.o.mono ?_;rintro e r ⟨rfl,i1,g1⟩;have B:=J (i1);have G1:=J (g1);obtain⟨p,hp,f,d⟩:=i1.ex;obtain⟨a,c,rfl,ak⟩:=i1.rd.form;have aj:=i1.len;have c0:=cbi 0 d;have c1:=cbi 1 d;have f1:=zm9 1 d;have f2:=zm9 2 d;have c2:=cbi 2 d;have H:=J (d);have l:=J (f);have ab:Z z.rest=Z b-p:=by rw[f,Cy]
 clear g1 i1 d f H1
 by_cases t:Z z.rest<n
 ·rw[Az t] at C
  have hI:(Z b:Ak)<(p:Ak)+n:=by omega
  clear ab t;go_wp2
  go_region
  go_wp2;go_ret;rw[C.o];have af:=zF r i 2 (Av true);have N:=zV (r.setCell ⟨i,2,S⟩ (Av true));have Q:=zD af (zT N _);exact⟨rfl,B.o.set Q (p:=p) hp l.o (zE (zH H.o _) N (by simp)),zD G1.o Q⟩
 ·rw[Aw t] at C
  have hI:¬((Z b:Ak)<(p:Ak)+n):=by omega
  have y:p+n<=Z b:=by omega
  clear ab t;have m:Y (∀x:Ak,r.grownBy (r.setCell ⟨i,1,S⟩ (O Ai x)).drew.drew (V i)):=fun x=>zD (zF r i 1 (O Ai x)) (zT (zD (zV _) (zV _)) _)
  have E:Y (∀x:Ak,x=(p+n:Ad)->TInv (r.setCell ⟨i,1,S⟩ (O Ai x)).drew.drew i (X a (Z b) c) b ⟨z.rest.drop n,z.bad⟩):=fun x hx=>by
   subst hx;exact B.o.set (m.o _) (p:=p+n) (by omega) (by show z.rest.drop n=_;rw[l.o,List.drop_drop]) (zE (zH H.o _) (zD (zV _) (zV _)) (by simp))
  by_cases ah:n=0
  ·subst ah
   have al:=fun W a c=>t8 W a c
   rcases Nat.lt_or_ge p c with aa|aa
   ·clear B H
    go_wp2
    go_region
    go_wp2
    go_region
    go_wp2;go_ret;rw[C.o];exact⟨rfl,E.o _ rfl,zD G1.o (m.o _)⟩
   ·obtain rfl:c=p:=by omega
    clear B H;go_wp2
    go_region
    go_wp2
    go_region
    go_wp2;go_ret;rw[C.o];exact⟨rfl,E.o _ rfl,zD G1.o (m.o _)⟩
  ·obtain⟨g,o,ae,q⟩:∃g o,a=V ⟨g,o,S⟩/\∀j u,b[j]?=V u->r.cell? ⟨g,o+j,S⟩=V (O Bp u.toNat):=by
    rcases B.o.rd with ⟨_,_,_,h0⟩|⟨g,o,c',h1,_,_,h3⟩
    ·rw[h0] at y;simp at y;omega
    ·simp only[Au,Fb] at h1
     exact⟨g,o,h1.1,h3⟩
   subst ae;have ai:g≠i:=B.o.ap (fun h0=>by rw[h0] at y;simp at y;omega) g o _ c rfl;have F:Z (z.rest.take n)=n:=by rw[Cq,l.o,Cy];omega
   have ad:Y (∀(W:Ag) (k:Ad),r.grownBy W (V i)->(Oh 32 9 (X (V ⟨g,o+p,S⟩) n k)).run prog W = .ok (I (Aa (z.rest.take n))) W):=fun W k hW=>by
    have h:=Qb (P:=prog) W 32 9 5 ⟨g,o+p,S⟩ k (z.rest.take n) underlying32 underlying5 underlying9 (fun j hj=>by
     rw[vJ,Nat.add_assoc];refine hW.cell (a:=⟨g,o+(p+j),S⟩) (q (p+j) _ ?_) (by simpa using ai);rw[F] at hj;rw[List.getElem_take,<-Bd,l.o,Vq])
    rw[F] at h;exact h
   have am:∀(x:Ak) (k:Ad),(Oh 32 9 (X (V ⟨g,o+p,S⟩) n k)).run prog (r.setCell ⟨i,1,S⟩ (O Ai x)).drew.drew = .ok (I (Aa (z.rest.take n))) (r.setCell ⟨i,1,S⟩ (O Ai x)).drew.drew:=fun x k=>ad.o _ k (m.o x)
   have aa:p<c:=by omega
   clear q F B H;go_wp2
   go_region
   go_wp2
   go_region
   go_wp2
   all_goals
    go_ret;rw[C.o];exact⟨rfl,E.o _ rfl,zD G1.o (m.o _)⟩
theorem j7 (s:T.St):Z (zj s).1<=255:=by grind[uR,zj,List.length_take,T.St]
theorem za3 (h:a<w.heap.size)(b:w.heap.size<=w'.heap.size):V w'.heap.size≠V a:=fun c=>by have:=Bc c;omega
theorem TInv.far {j:Ag}{r:T.St}(d:TInv w a v b r)(h:TInv j a v b s)(f:j.grownBy w' row)(i:∀k,row=V k->w.heap.size<=k):TInv w' a v b s:=by
 obtain⟨p,l,m,n⟩:=h.ex;obtain⟨_,_,_,q⟩:=d.ex;have t:=zO q;refine⟨⟨p,l,m,zE n f (fun c=>by have:=i a c.symm;omega)⟩,?_,h.ap,h.len⟩;rcases d.rd with h'|⟨g,o,c,e1,hc,hlt,_⟩
 ·exact Ay h'
 ·exact h.rd.keep f (fun g' o' n' c' e' e2=>by
   have:=i g' e2;rw[e1] at e';simp only[Au,Ey,Addr.mk.injEq] at e'
   omega)
theorem eM {x:Ad}(h:TInv w x v b s):Am prog 197 #[Al (V ⟨x,0,S⟩)] w fun e w'=>∃u,e=Af u/\TInv w' x v b (jL s).2/\w.grownBy w' (V x)/\w'.ownsRow w.heap.size 183 2 u (Z (jL s).1) (zx (jL s).1):=by
 obtain⟨i0,hi,ad,ae,af⟩:=Ej zd2;have hN:=uR 4 s (by omega);have HF:=J (kD h 4);have HP:Y (jL s=qU T.tg (zr 4 s).1 (qP (zr 4 s).2 (decide (0<(zr 4 s).1)))):=rfl;have H:x<w.heap.size:=by obtain⟨_,_,_,q⟩:=h.ex;exact zO q
 have H0:=J (h);generalize jL s=res at*;generalize zr 4 s=fw at*;obtain⟨N,s1⟩:=fw;simp only at HF HP hN;go_in;go_wp2_with fail;refine HF.o.mono ?_;rintro e w1 ⟨rfl,i1,g1⟩;have I1:=J (i1);have G1:=J (g1);go_wp2_with fail;refine(yP I1.o _).mono ?_;rintro e w2 ⟨rfl,i2,g2⟩;have I2:=J (i2);have G2:=J (zD G1.o g2);generalize qP s1 (decide (0<N))=s2 at*;go_wp2_with fail
 go_loopw [3,5] (fun u iv wr=>∃(i:Ad) (d:A (A Ab×Ak)) (st:T.St),i<=N/\(Z d)=i/\iv=O Ai i/\Y (res=(d++(qU T.tg (N-i) st).1,(qU T.tg (N-i) st).2))/\Y (TInv wr x v b st)/\Y (w.grownBy wr (V x))/\Y (wr.ownsRow w.heap.size 183 2 u (Z d) (zx d))) (fun _ iv _=>N-(intOf iv).toNat)
 case atStart=>exact⟨0,[],s2,Ax _,rfl,rfl,by show _=_;rw[HP.o];rfl,I2,G2,Bk _ _ _ _⟩
 case round=>
  obtain⟨i,d,st,an,aa,rfl,HE,IR,GR,HO⟩:=hrel
  by_cases ao:i<N
  ·have am:(i:Ak)<N:=by omega
   have p:Y (res=((d++[(T.tg st).1])++(qU T.tg (N-(i+1)) (T.tg st).2).1,(qU T.tg (N-(i+1)) (T.tg st).2).2)):=by
    show _=_;rw[HE.o,show N-i=N-(i+1)+1 by omega,Bl];rfl
   have r:Y (T.tg st=(((zj st).1,(xa (zj st).2).1),qP (xa (zj st).2).2 (R.upstream (zj st).1 && (decide (0<(xa (zj st).2).1) && decide ((xa (zj st).2).1<=1000))))):=rfl;have al:=j7 st;generalize T.tg st=tg at*;go_wp2_with fail;refine(vB IR.o).mono ?_;rintro e wt ⟨rfl,it,gt⟩;have It:=J (it);have Gt:=J (zD GR.o gt);have Ot:=J (zK HO.o gt (fun k hk c=>by have:=Bc c;have:=(An HO.o k hk).1;omega));generalize zj st=tx at*;obtain⟨l,s3⟩:=tx;simp only at It r al;have F:=Gt.o.size;have ag:Y ((wt.alloc (Ae #[I (Aa l),O Ai 0] 183)).heap[wt.heap.size]?=V (Ae #[I (Aa l),O Ai 0] 183)):=Bn _ _;go_wp2_with fail;refine(oh (It.o.keep (Ac _ _ S))).mono ?_;rintro e wu ⟨rfl,iu,gu⟩;have C:=J (zE ag.o gu (za3 H F));have Iu:=J (iu);have Gu:Y (w.grownBy wu (V x)):=zD (zD Gt.o (Ac _ _ _)) gu;have Ou:Y (wu.ownsRow w.heap.size 183 2 u3 (Z d) (zx d)):=zK (Ao Ot.o _) gu (fun k hk c=>by have:=Bc c;have:=(An Ot.o k hk).1;omega);have q1:=cbi 1 C.o;have q2:=zm9 1 C.o;have ah:Y (∀k,(u3:Aj).ownBlock=V k->k<wt.heap.size):=fun k hk=>(An Ot.o k hk).2
   generalize xa s3=tw at*;obtain⟨n,s4⟩:=tw;simp only at Iu r;have o:Y ((wu.setCell ⟨wt.heap.size,1,S⟩ (O Ai n)).heap[wt.heap.size]?=V (Ae #[I (Aa l),O Ai n] 183)):=zH C.o _;have r0:=cbi 0 o.o;have r1:=cbi 1 o.o;go_wp2_with fail;refine(cp (Aa l) _ (by rw[Bz];unfold Bh;omega)).mono ?_;rintro e wv ⟨rfl,ak⟩;rw[ak,Be];have ab:∀k,V wt.heap.size=V k->w.heap.size<=k:=fun k c=>by have:=Bc c;omega
   have gS:=zF wu wt.heap.size 1 (O Ai n);have Is:=J (H0.o.far Iu.o gS ab);have Gs:=J (qI Gu.o gS ab);have E:=J (zK Ou.o gS (fun k hk c=>by have:=Bc c;have:=ah.o k hk;omega));generalize R.upstream l=up at*
   cases up
   ·have g:Y (tg=((l,n),qP s4 (false))):=by show _=_;rw[r.o];simp[]
    rw[g.o] at p;go_wp2_with fail;refine(yP Is.o (false)).mono ?_;rintro e w5 ⟨rfl,i5,t⟩;have Q:=J (i5);have y:=J (zD Gs.o t);have z:=J (zK E.o t (fun k hk c=>by have:=Bc c;have:=(An E.o k hk).1;omega));have m:=J (zE o.o t (za3 H F));have z0:=cbi 0 m.o;have z1:=cbi 1 m.o;have aj:=y.o.size;generalize qP s4 (false)=s5 at*;go_wp2_with (at_builtin;refine Cu _ rfl _ _ 123 rfl w.heap.size 183 i0 _ 2 24 underlying123 hi ad ae af rfl (by decide) _ _ _ rfl (Ao z.o _) ⟨w5.heap.size,0,S⟩ 1 1 [I (Aa l),O Ai n] rfl rfl ?c1 ?c2 ?c3 ?c4 ?c5 ?_)
    case c1=>exact zZ _ #[_,_] _ _ (by simp)
    case c2=>intro u hu;simp at hu;rcases hu with rfl|rfl <;> rfl
    case c3=>unfold Bh;omega
    case c4=>omega
    case c5=>simp;omega
    intro v9 B f a _;have O9:Y (B.ownsRow w.heap.size 183 2 v9 (Z (d++[(l,n)])) (zx (d++[(l,n)]))):=by rw[yn,Ah,aa];exact f
    have j:∀k,(u3:Aj).ownBlock=V k->w.heap.size<=k:=fun k hk=>(An z.o k hk).1
    have I9:Y (TInv B x v b s5):=H0.o.far (Q.o.keep (Ac _ _ _)) a j;have G9:Y (w.grownBy B (V x)):=qI (zD y.o (Ac _ _ _)) a j;go_wp2_with fail
    go_roundw
    case rel=>exact⟨i+1,d++[(l,n)],s5,by omega,by simp;omega,by go_num,p,I9,G9,O9⟩
    case measure=>simp[intOf];omega
   by_cases ai:0<n
   ·have g:Y (tg=((l,n),qP s4 (decide (n<=1000)))):=by show _=_;rw[r.o];simp[ai]
    rw[g.o] at p;go_wp2_with fail;refine(yP Is.o (decide (n<=1000))).mono ?_;rintro e w5 ⟨rfl,i5,t⟩;have Q:=J (i5);have y:=J (zD Gs.o t);have z:=J (zK E.o t (fun k hk c=>by have:=Bc c;have:=(An E.o k hk).1;omega));have m:=J (zE o.o t (za3 H F));have z0:=cbi 0 m.o;have z1:=cbi 1 m.o;have aj:=y.o.size;generalize qP s4 (decide (n<=1000))=s5 at*;go_wp2_with (at_builtin;refine Cu _ rfl _ _ 123 rfl w.heap.size 183 i0 _ 2 24 underlying123 hi ad ae af rfl (by decide) _ _ _ rfl (Ao z.o _) ⟨w5.heap.size,0,S⟩ 1 1 [I (Aa l),O Ai n] rfl rfl ?c1 ?c2 ?c3 ?c4 ?c5 ?_)
    case c1=>exact zZ _ #[_,_] _ _ (by simp)
    case c2=>intro u hu;simp at hu;rcases hu with rfl|rfl <;> rfl
    case c3=>unfold Bh;omega
    case c4=>omega
    case c5=>simp;omega
    intro v9 B f a _;have O9:Y (B.ownsRow w.heap.size 183 2 v9 (Z (d++[(l,n)])) (zx (d++[(l,n)]))):=by rw[yn,Ah,aa];exact f
    have j:∀k,(u3:Aj).ownBlock=V k->w.heap.size<=k:=fun k hk=>(An z.o k hk).1
    have I9:Y (TInv B x v b s5):=H0.o.far (Q.o.keep (Ac _ _ _)) a j;have G9:Y (w.grownBy B (V x)):=qI (zD y.o (Ac _ _ _)) a j;go_wp2_with fail
    go_roundw
    case rel=>exact⟨i+1,d++[(l,n)],s5,by omega,by simp;omega,by go_num,p,I9,G9,O9⟩
    case measure=>simp[intOf];omega
   ·have g:Y (tg=((l,n),qP s4 (false))):=by show _=_;rw[r.o];simp[ai]
    rw[g.o] at p;go_wp2_with fail;refine(yP Is.o (false)).mono ?_;rintro e w5 ⟨rfl,i5,t⟩;have Q:=J (i5);have y:=J (zD Gs.o t);have z:=J (zK E.o t (fun k hk c=>by have:=Bc c;have:=(An E.o k hk).1;omega));have m:=J (zE o.o t (za3 H F));have z0:=cbi 0 m.o;have z1:=cbi 1 m.o;have aj:=y.o.size;generalize qP s4 (false)=s5 at*;go_wp2_with (at_builtin;refine Cu _ rfl _ _ 123 rfl w.heap.size 183 i0 _ 2 24 underlying123 hi ad ae af rfl (by decide) _ _ _ rfl (Ao z.o _) ⟨w5.heap.size,0,S⟩ 1 1 [I (Aa l),O Ai n] rfl rfl ?c1 ?c2 ?c3 ?c4 ?c5 ?_)
    case c1=>exact zZ _ #[_,_] _ _ (by simp)
    case c2=>intro u hu;simp at hu;rcases hu with rfl|rfl <;> rfl
    case c3=>unfold Bh;omega
    case c4=>omega
    case c5=>simp;omega
    intro v9 B f a _;have O9:Y (B.ownsRow w.heap.size 183 2 v9 (Z (d++[(l,n)])) (zx (d++[(l,n)]))):=by rw[yn,Ah,aa];exact f
    have j:∀k,(u3:Aj).ownBlock=V k->w.heap.size<=k:=fun k hk=>(An z.o k hk).1
    have I9:Y (TInv B x v b s5):=H0.o.far (Q.o.keep (Ac _ _ _)) a j;have G9:Y (w.grownBy B (V x)):=qI (zD y.o (Ac _ _ _)) a j;go_wp2_with fail
    go_roundw
    case rel=>exact⟨i+1,d++[(l,n)],s5,by omega,by simp;omega,by go_num,p,I9,G9,O9⟩
    case measure=>simp[intOf];omega
  ·have hE:i=N:=by omega
   subst hE;rw[Gp] at HE;have p:Y (res=(d,st)):=by show _=_;rw[HE.o];simp[qU]
   go_wp2;go_ret;rw[p.o];exact⟨_,rfl,IR.o,GR.o,HO.o⟩
theorem eL {f:Ad}(h:TInv w f v b s):Am prog 196 #[Al (V ⟨f,0,S⟩)] w fun e w'=>∃u,e=Af u/\TInv w' f v b (jU s).2/\w.grownBy w' (V f)/\w'.ownsRow w.heap.size 181 3 u (Z (jU s).1) (xC (jU s).1):=by
 obtain⟨i0,hi,aV,aW,aX⟩:=Ej zcZ;have hN:(zr 3 s).1<=255:=uR 3 s (by omega);have HF:Y (Am prog 142 #[Al (V ⟨f,0,S⟩),O Ai (3:Ad)] w fun e w'=>e=Af (O Ai ((zr 3 s).1:Ad))/\TInv w' f v b (zr 3 s).2/\w.grownBy w' (V f)):=kD h 3;have HP:Y (jU s=qU T.mt (zr 3 s).1 (zr 3 s).2):=rfl;have a8:f<w.heap.size:=by obtain⟨_,_,_,q⟩:=h.ex;exact zO q
 have H0:Y (TInv w f v b s):=h;generalize jU s=res at*;generalize zr 3 s=fw at*;obtain⟨N,s2⟩:=fw;simp only at HF HP hN;go_in;go_wp2_with fail;refine HF.o.mono ?_;rintro e w2 ⟨rfl,i2,g2⟩;have I2:Y (TInv w2 f v b s2):=i2;have G2:Y (w.grownBy w2 (V f)):=g2;go_wp2_with fail
 go_loopw [3,5] (fun u iv wr=>∃(i:Ad) (g:A R.Mt) (st:T.St),i<=N/\(Z g)=i/\iv=O Ai i/\Y (res=(g++(qU T.mt (N-i) st).1,(qU T.mt (N-i) st).2))/\Y (TInv wr f v b st)/\Y (w.grownBy wr (V f))/\Y (wr.ownsRow w.heap.size 181 3 u (Z g) (xC g))) (fun _ iv _=>N-(intOf iv).toNat)
 case atStart=>exact⟨0,[],s2,Ax _,rfl,rfl,by show _=_;rw[HP.o];rfl,I2,G2,Bk _ _ _ _⟩
 case round=>
  obtain⟨i,g,st,bc,aT,rfl,HE,IR,GR,HO⟩:=hrel
  by_cases be:i<N
  ·have bb:(i:Ak)<N:=by omega
   have y:Y (res=((g++[(T.mt st).1])++(qU T.mt (N-(i+1)) (T.mt st).2).1,(qU T.mt (N-(i+1)) (T.mt st).2).2)):=by
    show _=_;rw[HE.o,show N-i=N-(i+1)+1 by omega,Bl];rfl
   have HM:Y (T.mt st=if (zr 1 (qP (zj st).2 (Ft (zj st).1 false))).1=1 then (⟨(zj st).1,(ki (zr 1 (qP (zj st).2 (Ft (zj st).1 false))).2).1,true⟩,(ki (zr 1 (qP (zj st).2 (Ft (zj st).1 false))).2).2)
    else (⟨(zj st).1,[],false⟩,(zr 1 (qP (zj st).2 (Ft (zj st).1 false))).2)):=rfl
   have a5:=j7 st;generalize T.mt st=mt at*;go_wp2_with fail;refine(vB IR.o).mono ?_;rintro e a ⟨rfl,aY,ax⟩;have av:Y (TInv a f v b ((zj st).2)):=aY;have ae:=J (zD GR.o ax);have C:=J (zK HO.o ax (fun k l c=>by have:=Bc c;have:=(An HO.o k l).1;omega));generalize zj st=tx at*;obtain⟨j,s3⟩:=tx;simp only at av HM a5;have ao:V a.heap.size≠V f:=za3 a8 ae.o.size;have bf:=ae.o.size;have aJ:Y (∀k,(u3:Aj).ownBlock=V k->k<a.heap.size):=fun k l=>(An C.o k l).2
   have x:∀k,V a.heap.size=V k->w.heap.size<=k:=fun k c=>by have:=Bc c;omega
   have ah:a.grownBy (a.alloc (Ae #[I (Aa j),I ⟨#[]⟩,Av false] 181)) S:=Ac _ _ _;have aN:Y (TInv (a.alloc (Ae #[I (Aa j),I ⟨#[]⟩,Av false] 181)) f v b (s3)):=av.o.keep ah;have aC:Y (w.grownBy (a.alloc (Ae #[I (Aa j),I ⟨#[]⟩,Av false] 181)) (V f)):=zD ae.o (zT ah _);have aK:=J (zK C.o ah (fun k l c=>by cases c));have ap:Y ((a.alloc (Ae #[I (Aa j),I ⟨#[]⟩,Av false] 181)).heap[a.heap.size]?=V (Ae #[I (Aa j),I ⟨#[]⟩,Av false] 181)):=Bn _ _;have bg:=cbi 0 ap.o;have hh:=tz (Aa j) false (a.alloc (Ae #[I (Aa j),I ⟨#[]⟩,Av false] 181)) (by rw[Bz];omega);rw[Be] at hh;have HH:Y (Am prog 248 #[I (Aa j),Av false] (a.alloc (Ae #[I (Aa j),I ⟨#[]⟩,Av false] 181)) fun e w'=>e=Af (Av (Ft j false))/\Below (a.alloc (Ae #[I (Aa j),I ⟨#[]⟩,Av false] 181)).heap.size (a.alloc (Ae #[I (Aa j),I ⟨#[]⟩,Av false] 181)) w'):=hh;go_wp2_with fail;refine(HH.o).mono ?_;rintro e ay ⟨rfl,aS⟩;have aa:(a.alloc (Ae #[I (Aa j),I ⟨#[]⟩,Av false] 181)).grownBy ay S:=zt aS;have aO:Y (TInv ay f v b (s3)):=aN.o.keep aa;have aD:Y (w.grownBy ay (V f)):=zD aC.o (zT aa _);have E:=J (zK aK.o aa (fun k l c=>by cases c));have az:=J (zE ap.o aa (by simp));generalize Ft j false=hd at*;go_wp2_with fail;refine(yP aO.o hd).mono ?_;rintro e a9 ⟨rfl,aZ,ai⟩;have aP:Y (TInv a9 f v b (qP s3 hd)):=aZ;have aE:=J (zD aD.o ai);have F:=J (zK E.o ai (fun k l c=>by have:=Bc c;have:=(An E.o k l).1;omega));have aA:=J (zE az.o ai ao);generalize qP s3 hd=s4 at*;go_wp2_with fail;refine(kD aP.o 1).mono ?_;rintro e ab ⟨rfl,a0,aj⟩;have ag:Y (TInv ab f v b ((zr 1 s4).2)):=a0;have af:=J (zD aE.o aj);have t:=J (zK F.o aj (fun k l c=>by have:=Bc c;have:=(An F.o k l).1;omega));have o:=J (zE aA.o aj ao);generalize zr 1 s4=fk at*;obtain⟨kk,s5⟩:=fk;simp only at ag HM;generalize au:ki s5=mb at*
   by_cases l:kk=1
   ·subst l
    rw[Az rfl] at HM;have a6:=j7 s5;have B:Y (mb=((zj s5).1,qP (zj s5).2 (Gz (zj s5).1))):=au.symm;have bo:=cbi 2 o.o;have bq:=zm9 2 o.o;have ak:=zF ab a.heap.size 2 (Av true);have aB:Y ((ab.setCell ⟨a.heap.size,2,S⟩ (Av true)).heap[a.heap.size]?=V (Ae #[I (Aa j),I ⟨#[]⟩,Av true] 181)):=zH o.o _;have aQ:Y (TInv (ab.setCell ⟨a.heap.size,2,S⟩ (Av true)) f v b (s5)):=H0.o.far ag.o ak x;have aF:=J (qI af.o ak x);have H:=J (zK t.o ak (fun k l c=>by have:=Bc c;have:=aJ.o k l;omega));go_wp2_with fail;refine(vB aQ.o).mono ?_;rintro e r ⟨rfl,a1,al⟩;have aw:Y (TInv r f v b ((zj s5).2)):=a1;have aG:=J (zD aF.o al);have aL:=J (zK H.o al (fun k l c=>by have:=Bc c;have:=(An H.o k l).1;omega));have ad:=J (zE aB.o al ao);generalize zj s5=ty at*;obtain⟨n,s6⟩:=ty;simp only at aw B a6;rw[B.o] at HM;have bp:=cbi 1 ad.o;have br:=zm9 1 ad.o;have am:=zF r a.heap.size 1 (I (Aa n));have aq:Y ((r.setCell ⟨a.heap.size,1,S⟩ (I (Aa n))).heap[a.heap.size]?=V (Ae #[I (Aa j),I (Aa n),Av true] 181)):=zH ad.o _;have aR:Y (TInv (r.setCell ⟨a.heap.size,1,S⟩ (I (Aa n))) f v b (s6)):=H0.o.far aw.o am x;have aH:=J (qI aG.o am x);have Q:=J (zK aL.o am (fun k l c=>by have:=Bc c;have:=aJ.o k l;omega));have bk:=cbi 1 aq.o;have hv:=dj (Aa n) (r.setCell ⟨a.heap.size,1,S⟩ (I (Aa n))) (by rw[Bz];unfold Bh;omega);rw[Be] at hv;have HV:Y (Am prog 249 #[I (Aa n)] (r.setCell ⟨a.heap.size,1,S⟩ (I (Aa n))) fun e w'=>e=Af (Av (Gz n))/\w'=(r.setCell ⟨a.heap.size,1,S⟩ (I (Aa n)))):=hv;go_wp2_with fail;refine(HV.o).mono ?_;rintro e ba ⟨rfl,aU⟩;rw[aU];generalize Gz n=vv at*;go_wp2_with fail;refine(yP aR.o vv).mono ?_;rintro e a3 ⟨rfl,a2,an⟩;have a4:Y (TInv a3 f v b (qP s6 vv)):=a2;have aI:=J (zD aH.o an);have aM:=J (zK Q.o an (fun k l c=>by have:=Bc c;have:=(An Q.o k l).1;omega));have ar:=J (zE aq.o an ao);generalize qP s6 vv=s7 at*;have z:Y (mt=(⟨j,n,true⟩,s7)):=HM.o;rw[z.o] at y;have bl:=cbi 0 ar.o;have bm:=cbi 1 ar.o;have bn:=cbi 2 ar.o;have a7:=aI.o.size;go_wp2_with (at_builtin;refine Cu _ rfl _ _ 122 rfl w.heap.size 181 i0 _ 3 40 underlying122 hi aV aW aX rfl (by decide) _ _ _ rfl (Ao aM.o _) ⟨a3.heap.size,0,S⟩ 1 1 [I (Aa j),I (Aa n),Av true] rfl rfl ?c1 ?c2 ?c3 ?c4 ?c5 ?_)
    case c1=>exact zZ _ #[_,_,_] _ _ (by simp)
    case c2=>intro u hu;simp at hu;rcases hu with rfl|rfl|rfl <;> rfl
    case c3=>unfold Bh;omega
    case c4=>omega
    case c5=>simp;omega
    intro v9 w9 m d _;have O9:Y (w9.ownsRow w.heap.size 181 3 v9 (Z (g++[(⟨j,n,true⟩:R.Mt)])) (xC (g++[(⟨j,n,true⟩:R.Mt)]))):=by rw[k8,Ah,aT];exact m
    have p:∀k,(u3:Aj).ownBlock=V k->w.heap.size<=k:=fun k l=>(An aM.o k l).1
    have I9:Y (TInv w9 f v b s7):=H0.o.far (a4.o.keep (Ac _ _ _)) d p;have G9:Y (w.grownBy w9 (V f)):=qI (zD aI.o (Ac _ _ _)) d p;go_wp2_with fail
    go_roundw
    case rel=>exact⟨i+1,g++[⟨j,n,true⟩],s7,by omega,by simp;omega,by go_num,y,I9,G9,O9⟩
    case measure=>simp[intOf];omega
   ·rw[Aw l] at HM
    have bd:¬((kk:Ak)=1):=by omega
    have z:Y (mt=(⟨j,[],false⟩,s5)):=HM.o;rw[z.o] at y;have bh:=cbi 0 o.o;have bi:=cbi 1 o.o;have bj:=cbi 2 o.o;have a7:=af.o.size;go_wp2_with (at_builtin;refine Cu _ rfl _ _ 122 rfl w.heap.size 181 i0 _ 3 40 underlying122 hi aV aW aX rfl (by decide) _ _ _ rfl (Ao t.o _) ⟨ab.heap.size,0,S⟩ 1 1 [I (Aa j),I ⟨#[]⟩,Av false] rfl rfl ?c1 ?c2 ?c3 ?c4 ?c5 ?_)
    case c1=>exact zZ _ #[_,_,_] _ _ (by simp)
    case c2=>intro u hu;simp at hu;rcases hu with rfl|rfl|rfl <;> rfl
    case c3=>unfold Bh;omega
    case c4=>omega
    case c5=>simp;omega
    intro v9 w9 m d _;have O9:Y (w9.ownsRow w.heap.size 181 3 v9 (Z (g++[(⟨j,[],false⟩:R.Mt)])) (xC (g++[(⟨j,[],false⟩:R.Mt)]))):=by rw[k8,Ah,aT];exact m
    have p:∀k,(u3:Aj).ownBlock=V k->w.heap.size<=k:=fun k l=>(An t.o k l).1
    have I9:Y (TInv w9 f v b s5):=H0.o.far (ag.o.keep (Ac _ _ _)) d p;have G9:Y (w.grownBy w9 (V f)):=qI (zD af.o (Ac _ _ _)) d p;go_wp2_with fail
    go_roundw
    case rel=>exact⟨i+1,g++[⟨j,[],false⟩],s5,by omega,by simp;omega,by go_num,y,I9,G9,O9⟩
    case measure=>simp[intOf];omega
  ·have hE:i=N:=by omega
   subst hE;rw[Gp] at HE;have y:Y (res=(g,st)):=by show _=_;rw[HE.o];simp[qU]
   go_wp2;go_ret;rw[y.o];exact⟨_,rfl,IR.o,GR.o,HO.o⟩
end Go.Proofs.YtfocdefchbnkpaaGreatDoor
