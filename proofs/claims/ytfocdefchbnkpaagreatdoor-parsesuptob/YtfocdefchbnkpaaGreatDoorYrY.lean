import Derived.Test.YtfocdefchbnkpaaGreatDoorYrS
set_option maxRecDepth 100000
set_option maxHeartbeats 20000000
open And renaming intro->Vv
open Go renaming Value->Aj,World->Ag,TypeId->Cs,maxLen->Bh,Calls->Am,Addr->Eu,heap_alloc_new->Bn
open Go.Ending renaming returned->Af
open Go.IntKind renaming i64->Ai,u8->Bp,u64->Nr
open Go.Lib renaming byteCells->Ba,run_convert_bytes_const->Qg
open Go.Obj renaming cells->Ae
open Go.Obj.cells renaming injEq->Qj
open Go.Proofs.YtfocdefchbnkpaaGreatDoor.R renaming str->Aa
open Go.Value renaming slice->X,bool->Av,pointer->Al,int->O,agg->Fe,string->I
open Go.Value.slice renaming injEq->Au
open Go.World renaming cell?_of_block->Mr,ownsRow_nil->Bk,grownBy_alloc->Ac
open Go.World.ownsRow renaming lt->An,form->Bm,cellAt->Ap
open List renaming length->Z
open Option renaming some->V,none->S,isNone->No
open Or renaming inr->Bf,inl->Ay
open _root_ renaming Array->Fh,Nat->Ad,List->A,Option->Br,Int->Ak,UInt8->Ab,ByteArray->As
namespace Go.Proofs.YtfocdefchbnkpaaGreatDoor
open Go.RowKit Tryz
variable {N j B i yb f g m h b sc N' E ne nv wb:Ad}
theorem jI {a:Fh Aj}(h:j<N:=by omega):(a.toList.take N)[j]?=a[j]?:=by simp_all
variable {v vc d H z ve vm vb vk vl:Aj}
theorem eV {a:Fh Aj}(h:(a.toList.take N)[j]?=V v):j<N/\a[j]?=V v:=by grind
variable {w w' w0 wr:Ag}
theorem D.YI.own {x j l:Aj}{y:Yd}{m:A Aj}(h:D.YI w yb B x v y j vc l m){a k:Ad}{c:Cn}{u:Aj}(p:y.conns[i]?=V (V c))(f:i*9<=a)(g:a<i*9+9)(e:m[a]?=V u)(o:u.ownBlock=V k):B<=k/\k<w.heap.size/\k≠yb/\j.ownBlock≠V k/\vc.ownBlock≠V k/\l.ownBlock≠V k:=by
 obtain⟨q,c,t,b,s⟩:=(h.at_ i _ p).kind f g (by rw[Fo];exact e) o;have d:∀e:Cs,e≠5->e≠185->t≠e:=fun e f g h3=>by subst h3;rcases s with r|r;exact f r;exact g r
 refine⟨q,zO b,fun c=>?_,fun c=>?_,fun c=>?_,fun c=>?_⟩
 ·rw[c,h.box] at b;simp at b;exact d _ (by decide) (by decide) b.2.symm
 ·obtain⟨_,n,r⟩:=h.dr.block k c
  rw[r] at b;simp at b;exact d _ (by decide) (by decide) b.2.symm
 ·obtain⟨n,r⟩:=qT h.con k c
  rw[r] at b;simp at b;exact d _ (by decide) (by decide) b.2.symm
 grind[zO,qT,Yd,D.YI,Cn]
theorem D.YI.post {tv th vd vs:Aj}{y:Yd}{xs:A Aj}{l:Fh Aj}{ss:A Ev}{c:Cn}{c':Br Cn}(h:D.YI w yb B tv th y vd (X (V ⟨g,0,S⟩) (Z y.conns) f) vs xs)(F:y.conns[m]?=V (V c))(hg:w.heap[g]?=V (Ae l 195 (0,0)))(ad:B<=g)(x:Z y.conns<=f/\f<=Bh)(ab:l.size=f*9)(hx:l.toList.take (Z y.conns*9)=xs)(H:D.BPost w w' yb B g (Z y.conns) f m tv th vd vs l ss c') :
  ∃t xs',D.YI w' yb B tv th { y with conns:=y.conns.set m c',sent:=ss } vd (X (V ⟨g,0,S⟩) (Z y.conns) f) t xs'/\D.Mv w w' (D.YF yb vd (X (V ⟨g,0,S⟩) (Z y.conns) f) vs xs y.conns) (D.YF yb vd (X (V ⟨g,0,S⟩) (Z y.conns) f) t xs' (y.conns.set m c')):=by
 obtain⟨o,t,p1,p2,p3,p4,p5,p6,p7,p8⟩:=H.ex;have s:=(Bo.1 F).1;subst hx;have hT:∀k,k<w.heap.size->k≠yb->k≠g->vs.ownBlock≠V k->(∀a u,m*9<=a->a<m*9+9->(l.toList.take (Z y.conns*9))[a]?=V u->u.ownBlock≠V k)->w'.heap[k]?=w.heap[k]?:=fun k hk h1 h2 h3 h4=>H.turn.block k hk (fun hF=>by
  rcases hF with e|e|e|⟨j,u,j1,j2,e1,e2⟩
  ·exact h1 e
  ·exact h2 e
  ·exact h3 e
  ·exact h4 j u j1 j2 (by rw[jI];exact e1) e2)
 have C:∀i j,i<Z y.conns->i*9<=j->j<i*9+9->j<Z y.conns*9:=fun i j h1 h2 h3=>by omega
 have n:∀i j,i≠m->i*9<=j->j<i*9+9->o[j]?=l[j]?:=fun i j h1 h2 h3=>p4 j (by omega)
 have ae:∀(i:Ad) (ci:Br Cn),i≠m->y.conns[i]?=V ci->D.At w' B (o.toList.take (Z y.conns*9)).toArray (i*9) ci:=fun i ci hi he=>by
  have aa:=(Bo.1 he).1;have h0:=h.at_ i ci he;have p:∀j,i*9<=j->j<i*9+9->(o.toList.take (Z y.conns*9)).toArray[j]?=(l.toList.take (Z y.conns*9)).toArray[j]?:=fun j j1 j2=>by
   rw[Fo,Fo,jI (C i j aa j1 j2),jI (C i j aa j1 j2),n i j hi j1 j2]
  cases ci with
  |none=>exact(p _ (by omega) (by omega)).trans h0
  |some ci=>
   refine h0.move p (fun j v k j1 j2 e1 e2=>?_);rw[Fo] at e1;obtain⟨q1,q2,q3,q4,q5,q6⟩:=h.own he j1 j2 e1 e2;exact hT k q2 q3 (fun e=>q5 (by rw[e];rfl)) q6 (fun a u a1 a2 b1 b2=>h.apart m i c ci (fun e=>hi e.symm) F he a j u v k a1 a2 j1 j2 b1 e1 b2 e2)
 refine⟨t,o.toList.take (Z y.conns*9),⟨p1,h.dr.keep H.turn.size (fun k hk=>?_),?_,p5,fun i ci hi=>?_,fun i j ci cj hij hi hj a b u v k a1 a2 b1 b2 e1 e2 e3 e4=>?_,h.low⟩,⟨?_,fun k hk=>?_⟩⟩
 ·obtain⟨_,cs,r⟩:=h.dr.block k hk
  refine hT k (zO r) (fun e=>?_) (fun e=>?_) (fun e=>?_) (fun a u a1 a2 q1 q2=>(h.own F a1 a2 q1 q2).2.2.2.1 hk)
  ·rw[e,h.box] at r;simp at r
  ·rw[e,hg] at r;simp at r
  ·obtain⟨_,q⟩:=qT h.ev k e
   rw[q] at r;simp at r
 ·show w'.ownsRow B 195 9 _ (Z (y.conns.set m c')) _
  rw[Gv];exact⟨by rw[Cq,Array.length_toList,p3,ab];omega,Bf ⟨g,f,o,rfl,ad,p2,x.1,x.2,by rw[p3,ab],rfl⟩⟩
 ·by_cases d:i=m
  ·subst d
   rw[Fm s] at hi
   cases hi
   refine p6.move (fun j j1 j2=>?_) (fun _ _ _ _ _ _ _=>rfl);rw[Fo,jI (C i j s j1 j2)]
  ·rw[Fc (fun e=>d e.symm)] at hi
   exact ae i ci d hi
 ·obtain⟨Q,f2⟩:=eV e1
  obtain⟨g1,g2⟩:=eV e2
  by_cases d:i=m
  ·subst d
   rw[Fm s] at hi;rw[Fc hij] at hj;have N:(l.toList.take (Z y.conns*9))[b]?=V v:=by rw[jI g1,<-n j b (fun e=>hij e.symm) b1 b2];exact g2
   rcases p8 (by cases hi;simp) a u k a1 a2 f2 e3 with ⟨u0,r1,r2⟩|r
   ·exact h.apart i j c cj hij F hj a b u0 v k a1 a2 b1 b2 (by rw[jI Q];exact r1) N r2 e4
   ·have:=(h.own hj b1 b2 N e4).2.1;omega
  ·rw[Fc (fun e=>d e.symm)] at hi
   have z:(l.toList.take (Z y.conns*9))[a]?=V u:=by rw[jI Q,<-n i a d a1 a2];exact f2
   by_cases E:j=m
   ·subst E
    rw[Fm s] at hj;rcases p8 (by cases hj;simp) b v k b1 b2 g2 e4 with ⟨v0,r1,r2⟩|r
    ·exact h.apart i j ci c hij hi F a b u v0 k a1 a2 b1 b2 z (by rw[jI g1];exact r1) e3 r2
    ·have:=(h.own hi a1 a2 z e3).2.1;omega
   ·rw[Fc (fun e=>E e.symm)] at hj
    exact h.apart i j ci cj hij hi hj a b u v k a1 a2 b1 b2 z (by rw[jI g1,<-n j b E b1 b2];exact g2) e3 e4
 ·exact⟨H.turn.os,H.turn.tape,H.turn.output,H.turn.size,fun k hk hn=>hT k hk (fun e=>hn (Ay e)) (fun e=>hn (Bf (Bf (Ay (by rw[e];rfl))))) (fun e=>hn (Bf (Bf (Bf (Ay e))))) (fun a u a1 a2 q1 q2=>hn (Bf (Bf (Bf (Bf ⟨m,c,a,u,F,a1,a2,q1,q2⟩)))))⟩
 ·rcases hk with e|e|e|e|⟨i,ci,j,v,hi,j1,j2,e1,e2⟩
  ·exact Ay (Ay e)
  ·exact Ay (Bf (Ay e))
  ·exact Ay (Bf (Bf (Ay e)))
  ·exact(p7 k e).imp (fun q=>Bf (Bf (Bf (Ay q)))) id
  ·obtain⟨Q,f2⟩:=eV e1
   by_cases d:i=m
   ·subst d
    rw[Fm s] at hi;rcases p8 (by cases hi;simp) j v k j1 j2 f2 e2 with ⟨u0,r1,r2⟩|r
    ·exact Ay (Bf (Bf (Bf (Bf ⟨i,c,j,u0,F,j1,j2,by rw[jI Q];exact r1,r2⟩))))
    ·exact Bf r
   ·rw[Fc (fun e=>d e.symm)] at hi
    exact Ay (Bf (Bf (Bf (Bf ⟨i,ci,j,v,hi,j1,j2,by rw[jI Q,<-n i j d j1 j2];exact f2,e2⟩))))
theorem dS {y:Yd}(h:y.isOpen (m+1:Ad)=true):∃c,y.conns[m]?=V (V c):=by grind[Yd.isOpen,Yd]
theorem zb6 {y:Yd}{o:Br Cn}(b:m<Z y.conns)(a:y.conns[m]?=V o):y.isOpen (m+1:Ad)=o.isSome:=by
 unfold Yd.isOpen;rw[show(((m+1:Ad):Ak)-1).toNat=m by omega,a,Cf (by omega:(1:Ak)<=(m+1:Ad)),Cf (by omega:((m+1:Ad):Ak)<=Z y.conns)]
 cases o <;> rfl
theorem uz (y:Yd)(n:Ak):ju (y.conns.map No) n=y.isOpen n:=by
 unfold ju Yd.isOpen;rw[Bv,Gf,Fq]
 congr 2
 cases y.conns[(n-1).toNat]? with
 |none=>rfl
 |some o=>cases o <;> rfl
theorem D.YI.there {m l n p:Aj}{y:Yd}{d:A Aj}(h:D.YI w yb B m l y n vc p d):∃ca ck g,vc=X ca (Z (y.conns.map No)) ck/\∀k (c:k<Z (y.conns.map No)),ca=V ⟨g,0,S⟩/\w.cell? ⟨g,k*9,S⟩=V (Av (y.conns.map No)[k]):=by
 have b:Z (y.conns.map No)=Z y.conns:=Bv _;rcases h.con.2 with ⟨h1,h2⟩|⟨g,cap,cur,h1,h2,h3,h4,h5,h6,h7⟩
 ·exact⟨S,0,0,by rw[b,h1,h2],fun k c=>by omega⟩
 ·refine⟨_,cap,g,by rw[b];exact h1,fun k hk0=>⟨rfl,?_⟩⟩
  have c:k<Z y.conns:=by omega
  have f:=Bd c;have a:=h.at_ k _ f;have j:cur[k*9]?=d.toArray[k*9]?:=by rw[<-h7];exact((Fo (i:=k*9)).trans (jI)).symm
  rw[zB h3,j,Ha];generalize y.conns[k]=o at*
  match o,a with
  |S,a=>exact a
  |V (.hd _),a=>exact a.1
  |V (.bd _),a=>exact a.1
theorem zg3 {f k:Aj}{y:Yd}{l:A Aj}{c:Cn}(h:D.YI w yb B (Av false) f y d vc k l)(b:y.conns[m]?=V (V c))(s:COk c)(q:Z y.conns<=64)(r:Z y.sent<=1000000000)(n:B<=w.heap.size)(x:Ab):Am prog 145 #[Al (V ⟨yb,0,S⟩),O Ai (m+1:Ad),O Bp x.toNat] w fun e w'=>e=Af (Av ((y.take0 m x).isOpen (m+1:Ad)))/\∃vs' xs',D.YI w' yb B (Av false) f (y.take0 m x) d vc vs' xs'/\D.Mv w w' (D.YF yb d vc k l y.conns) (D.YF yb d vc vs' xs' (y.take0 m x).conns):=by
 have a:=(Bo.1 b).1;rcases h.con.2 with ⟨h1,h2⟩|⟨g,cap,cur,h1,h2,h3,h4,h5,h6,h7⟩
 ·omega
 ·subst h1
  have p:D.At w B cur (m*9) (V c):=(h.at_ m _ b).move (fun j j1 j2=>by rw[<-h7];exact((Fo (i:=j)).trans (jI)).symm) (fun _ _ _ _ _ _ _=>rfl);refine(ziJ x h.box h3 a q (by omega) h.ev r n p s).mono fun e w' ⟨q1,q2⟩=>?_
  rw[bF y m c x b];refine⟨?_,h.post b h3 h2 ⟨h4,h5⟩ h6 h7 q2⟩;rw[q1,zb6 (o:=(tU m c x).2) (by simpa using a) (Fm a)]
structure D.Fd (w wr:Ag) (yb B:Ad) (th vd vc vs:Aj) (xs:A Aj) (y y':Yd) (i:Ad) (vs':Aj) (xs':A Aj):Prop where
 inv:D.YI wr yb B (Av false) th y' vd vc vs' xs'
 mv:D.Mv w wr (D.YF yb vd vc vs xs y.conns) (D.YF yb vd vc vs' xs' y'.conns)
 len:Z y'.conns=Z y.conns
 ok:YOk y'
 sent:Z y'.sent<=Z y.sent+i
theorem zg1 {th t:Aj}{y:Yd}{x:A Aj}{a:Br Eu}{k:Ad}{l:A Ab}(h:D.YI w yb B (Av false) th y t vc v x)(hk:YOk y)(ho:y.isOpen (m+1:Ad)=true)(hr:RdO w (X a (Z l) k) l)(ha:l≠[]->∀k',(X a (Z l) k).ownBlock=V k'->¬D.YF yb t vc v x y.conns k')(aj:Z l<=2000000)(hs:Z y.sent<=10000000)(hn:Z y.conns<=64)(hB:B<=w.heap.size):Am prog 97 #[Al (V ⟨yb,0,S⟩),O Ai (m+1:Ad),X a (Z l) k] w fun e w'=>e=Af (O Ai 0)/\∃d f,D.YI w' yb B (Av false) th (y.fed0 m l) t vc d f/\D.Mv w w' (D.YF yb t vc v x y.conns) (D.YF yb t vc d f (y.fed0 m l).conns):=by
 obtain⟨ca,ck,g0,af,ae⟩:=h.there;subst af;have HO:=hid (tH (y.conns.map No) (m+1:Ad) h.box ae (by rw[Bv];omega));rw[uz,ho] at HO;have HZ:Y (D.Fd w w yb B th t (X ca (Z (y.conns.map No)) ck) v x y (y.fed0 m (l.take 0)) 0 v x):=⟨h,D.Mv.refl _ _,rfl,hk,Aq _⟩;generalize X ca (Z (y.conns.map No)) ck=vc at*;have ad:=hid hr;have H:Y (∀wr y' i d f,D.Fd w wr yb B th t vc v x y y' i d f->RdO wr (X a (Z l) k) l):=fun wr y' i d f hF=>by
  by_cases h0:l=[]
  ·exact Ay ⟨a,k,by rw[h0];rfl,h0⟩
  rcases hr with h|⟨g,o,c,h1,hc,h2,h3⟩
  ·exact Ay h
  ·have e:=hF.mv.turn.block g h2 (ha h0 g (by rw[h1];rfl))
   exact Bf ⟨g,o,c,h1,hc,Eh h2 hF.mv.turn.size,fun j u hu=>by rw[Mr (a:=⟨g,o+j,S⟩) e];exact h3 j u hu⟩
 have Q:Y (∀wr y' i d f (c:Ab),D.Fd w wr yb B th t vc v x y y' i d f->i<Z l->y'.isOpen (m+1:Ad)=true->Am prog 145 #[Al (V ⟨yb,0,S⟩),O Ai (m+1:Ad),O Bp c.toNat] wr fun e w'=>e=Af (Av ((y'.take0 m c).isOpen (m+1:Ad)))/\∃q r,D.Fd w w' yb B th t vc v x y (y'.take0 m c) (i+1) q r):=fun wr y' i d f c hF hi p=>by
  obtain⟨c0,aa⟩:=dS p;have ak:=hF.mv.turn.size;refine(zg3 hF.inv aa (hF.ok m c0 aa) (by rw[hF.len];exact hn) (by have:=hF.sent;omega) (by omega) c).mono ?_;rintro e w' ⟨q1,q,r,q2,q3⟩;exact⟨q1,q,r,⟨q2,hF.mv.trans q3,by rw[bF y' m c0 c aa];show(Z (y'.conns.set m _))=_;rw[Gv,hF.len],hF.ok.take0 m c,by have:=bG y' m c;have:=hF.sent;omega⟩⟩
 have E:Y (∀i,i<=Z l->(y.fed0 m (l.take i)).isOpen (m+1:Ad)=false->y.fed0 m l=y.fed0 m (l.take i)):=fun i hi p=>by
  have:l=l.take i++l.drop i:=(He i l).symm;rw[this,gK,He,rR _ _ _ p]
 have N:Y (∀i (hi:i<Z l),(y.fed0 m (l.take i)).isOpen (m+1:Ad)=true->(y.fed0 m (l.take i)).take0 m l[i]=y.fed0 m (l.take (i+1))):=fun i hi p=>by
  rw[Sp,Bd hi];show _=y.fed0 m (l.take i++[l[i]]);rw[rS];unfold Yd.step0;rw[Az p]
 have z:Y (l.take (Z l)=l):=Ia;have ab:=J (ho);generalize((m+1:Ad):Ak)=n at*;go_in;go_wp2_with fail;refine HO.o.mono ?_;rintro e w1 ⟨rfl,rfl⟩;go_wp2_with fail
 go_loopw [8] (fun iv wr=>∃i:Ad,i<=Z l/\iv=O Ai i/\Y ((y.fed0 m (l.take i)).isOpen n=true)/\∃d f,Y (D.Fd w1 wr yb B th t vc v x y (y.fed0 m (l.take i)) i d f)) (fun iv _=>Z l-(intOf iv).toNat)
 ·exact⟨0,Ax _,rfl,ab,v,x,HZ⟩
 ·
  obtain⟨i,ai,rfl,F,d,f,HW⟩:=hrel
  by_cases s:i<Z l
  ·have ah:(i:Ak)<Z l:=by omega
   have HR:=hid (H.o wr _ i d f HW.o);have HT:=hid (Q.o wr _ i d f l[i] HW.o s F.o);have HE:=hid (E.o (i+1) (by omega));rw[(N.o i s F.o)] at HT;obtain⟨g,o,rfl,ag⟩:∃g o,a=V ⟨g,o,S⟩/\wr.cell? ⟨g,o+i,S⟩=V (O Bp l[i].toNat):=by
    rcases HR.o with ⟨_,_,e,e2⟩|⟨g,o,c,e,_,_,h3⟩
    ·rw[e2] at s;cases s
    ·simp only[Au,Fb] at e
     exact⟨g,o,e.1,h3 i _ (Bd s)⟩
   generalize l[i]=c at*;generalize p:(y.fed0 m (l.take (i+1))).isOpen n=b at*;have HB:=hid p;go_wp2_with fail;refine HT.o.mono ?_;rintro e w3 ⟨rfl,q,r,F3⟩;have C:=hid F3
   cases b
   ·go_wp2
    go_ret;exact⟨rfl,q,r,by rw[HE.o trivial];exact C.o.inv,by rw[HE.o trivial];exact C.o.mv⟩
   ·go_wp2_with fail
    go_roundw
    ·exact⟨i+1,by omega,by go_num,HB,q,r,C⟩
    ·simp[intOf];omega
  ·have hE:i=Z l:=by omega
   subst hE;rw[z.o] at HW;go_wp2;go_ret;exact⟨rfl,d,f,HW.o.inv,HW.o.mv⟩
theorem eN {f g i:Aj}{y:Yd}{j:A Aj}(h:D.YI w yb B f d y g vc i j)(n:Ak)(v:Aj)(c:y.isOpen n=false)(l:Z y.conns<=64):Am prog 97 #[Al (V ⟨yb,0,S⟩),O Ai n,v] w fun e w'=>e=Af (O Ai 7)/\w'=w:=by
 obtain⟨ca,ck,k,b,a⟩:=h.there;subst b;exact oQ v (y.conns.map No) n h.box a (by rw[Bv];omega) (by rw[uz];exact c)
theorem rD {f g i:Aj}{y:Yd}{j:A Aj}(h:D.YI w yb B f d y g vc i j)(n:Ak)(c:y.isOpen n=false)(l:Z y.conns<=64):Am prog 63 #[Al (V ⟨yb,0,S⟩),O Ai n] w fun e w'=>e=Af (O Ai 7)/\w'=w:=by
 obtain⟨ca,ck,k,b,a⟩:=h.there;subst b;exact eI (y.conns.map No) n h.box a (by rw[Bv];omega) (by rw[uz];exact c)
theorem zc1 {r q f l:Aj}{y:Yd}{v:A Aj}(h:D.YI w yb B r q y f vc l v)(u:y.isOpen (m+1:Ad)=true)(z:Z y.conns<=64):Am prog 63 #[Al (V ⟨yb,0,S⟩),O Ai (m+1:Ad)] w fun e w'=>e=Af (O Ai 0)/\∃vs' xs',D.YI w' yb B r q (y.ended m) f vc vs' xs'/\D.Mv w w' (D.YF yb f vc l v y.conns) (D.YF yb f vc vs' xs' (y.ended m).conns):=by
 obtain⟨c,t⟩:=dS u;have p:=(Bo.1 t).1;obtain⟨ca,ck,a,d,b⟩:=h.there;rcases h.con.2 with ⟨h1,h2⟩|⟨g,cap,cur,h1,h2,h3,h4,h5,h6,h7⟩
 ·omega
 ·have e:=(b m (by rw[Bv];exact p)).1
  rw[e,Bv] at d;have s:=d.symm.trans h1;simp only[Au,Ey,Addr.mk.injEq,and_true,Fb] at s;obtain⟨rfl,rfl⟩:=s;subst h1;refine(zfV (ca:=ca) (ck:=ck) (g:=a) (m:=m) (y.conns.map No) (by rw[Bv,e];exact h.box) b h3 (by rw[Bv];omega) (by rw[uz];exact u)).mono fun e w' ⟨q1,q2⟩=>⟨q1,?_⟩
  subst q2;have n:=zF w a (m*9) (Av true);have o:¬yb=a:=fun e=>by have h:=h.box;rw[e,h3] at h;simp at h
  have x:D.BPost w (w.setCell ⟨a,m*9,S⟩ (Av true)) yb B a (Z y.conns) ck m r q f l cur y.sent S:=⟨⟨_,l,zE h.box n (by simp;exact o),zH (i:=m*9) h3 _,by simp,fun j hj=>by rw[Cd,Aw (by omega)],zJ h.ev n (zI h3 h.ev),jd _,fun k hk=>Ay hk,fun c=>absurd rfl c⟩,(Turn.refl w _).step n (fun k hk=>Ay (Bf (Ay (Bc hk).symm)))⟩;exact h.post t h3 h2 ⟨h4,h5⟩ h6 h7 x
theorem nn {c f g:Aj}{y:Yd}{i:A Aj}(h:D.YI w yb B d c y f vc g i)(b:Z y.conns=64):Am prog 61 #[Al (V ⟨yb,0,S⟩)] w fun e w'=>e=Af (.tuple #[O Ai 0,O Ai 7])/\w'=w:=by
 obtain⟨ca,ck,j,a,_⟩:=h.there;rw[Bv,b] at a;subst a;exact px h.box
theorem zg2 {N x:Aj}{y:Yd}{o:A Aj}(h:D.YI w yb B N H y x vc z o)(hn:Z y.conns<64)(Q:B<=w.heap.size):Am prog 61 #[Al (V ⟨yb,0,S⟩)] w fun e w'=>e=Af (.tuple #[O Ai (Z y.conns+1:Ad),O Ai 0])/\∃vc' xs',D.YI w' yb B N H y.opened x vc' z xs'/\D.Mv w w' (D.YF yb x vc z o y.conns) (D.YF yb x vc' z xs' y.opened.conns):=by
 obtain⟨ca,ck,g0,s,_⟩:=h.there;rw[Bv] at s;subst s;refine(ziH h.box h.con hn Q).mono fun e w' ⟨q1,g9,cap9,q2,q3,q4,q5⟩=>⟨q1,X (V ⟨g9,0,S⟩) (Z y.conns+1) cap9,o++D.new,?_⟩
 have E:=h.con.1;have C:∀k,k<w.heap.size->k≠yb->(X ca (Z y.conns) ck).ownBlock≠V k->w'.heap[k]?=w.heap[k]?:=fun k hk h1 h2=>q5.block k hk (fun c=>c.elim h1 h2)
 have d:∀(i j:Ad),i<Z y.conns->i*9<=j->j<i*9+9->(o++D.new)[j]?=o[j]?:=fun i j h1 h2 h3=>Cx (by omega)
 have l:∀(j:Ad) (v:Aj),Z y.conns*9<=j->(o++D.new)[j]?=V v->v.ownBlock=S:=fun j v h1 e=>by
  rw[Cl (by omega)] at e;have F:=(Bo.1 e).1;have:∀u∈D.new,u.ownBlock=S:=by decide
  exact this v (Xt e)
 have m:∀(i:Ad) (c:Br Cn),y.opened.conns[i]?=V c->(i<Z y.conns/\y.conns[i]?=V c)\/(i=Z y.conns/\c=V (.hd xf)):=fun i c e=>by
  by_cases p:i<Z y.conns
  ·exact Ay ⟨p,(Cx p).symm.trans e⟩
  ·have f:[V (Cn.hd xf)][i-Z y.conns]?=V c:=(Cl (by omega)).symm.trans e
   have hl:=(Bo.1 f).1;have t:i=Z y.conns:=by simp at hl;omega
   subst t;rw[Gp] at f;exact Bf ⟨rfl,(Bc f).symm⟩
 refine⟨⟨q2,h.dr.keep q5.size (fun k hk=>?_),?_,Turn.row h.ev q5 (fun k hk c=>?_),fun i c p=>?_,fun i j ci cj hij p F a b u v k a1 a2 b1 b2 e1 f e3 e4=>?_,h.low⟩,⟨⟨q5.os,q5.tape,q5.output,q5.size,fun k hk hF=>C k hk (fun e=>hF (Ay e)) (fun e=>hF (Bf (Bf (Ay e))))⟩,fun k hk=>?_⟩⟩
 ·obtain⟨_,cs,r⟩:=h.dr.block k hk
  refine C k (zO r) (fun e=>?_) (fun e=>?_)
  ·rw[e,h.box] at r;simp at r
  ·obtain⟨_,q⟩:=qT h.con k e
   rw[q] at r;simp at r
 ·show w'.ownsRow B 195 9 _ (Z (y.conns++[V (Cn.hd xf)])) _
  rw[Ah];exact q3
 ·rcases c with e|e
  ·exact zI h.box h.ev (by decide) k hk e
  ·exact qB h.con h.ev (by decide) k hk e
 ·rcases m i c p with ⟨h1,h2⟩|⟨h1,h2⟩
  ·have t:=h.at_ i c h2
   have g:∀j,i*9<=j->j<i*9+9->(o++D.new).toArray[j]?=o.toArray[j]?:=fun j j1 j2=>by
    rw[Fo,Fo,d i j h1 j1 j2]
   cases c with
   |none=>exact(g _ (by omega) (by omega)).trans t
   |some c=>
    refine t.move g (fun j v k j1 j2 e1 f=>?_);rw[Fo] at e1;obtain⟨r1,r2,r3,r4,r5,r6⟩:=h.own h2 j1 j2 e1 f;exact C k r2 r3 r5
  ·subst h1;subst h2
   have n:∀j,(o++D.new).toArray[Z y.conns*9+j]?=D.new[j]?:=fun j=>by rw[Fo,Cl (by omega),E,Ow]
   exact⟨n 0,n 2,⟨n 3,n 4,⟨_,n 5,Bk _ _ _ _⟩,n 6,n 7,n 8⟩,(fun c hc=>by cases hc),[],S,0,rfl,n 1,Bk _ _ _ _,Ay rfl⟩
 ·rcases m i _ p with ⟨i1,i2⟩|⟨i1,i2⟩
  ·rcases m j _ F with ⟨j1,j2⟩|⟨j1,j2⟩
   ·exact h.apart i j ci cj hij i2 j2 a b u v k a1 a2 b1 b2 (by rw[<-d i a i1 a1 a2];exact e1) (by rw[<-d j b j1 b1 b2];exact f) e3 e4
   ·rw[l b v (by omega) f] at e4;cases e4
  ·rw[l a u (by omega) e1] at e3;cases e3
 ·rcases hk with e|e|e|e|⟨i,ci,j,v,p,j1,j2,e1,f⟩
  ·exact Ay (Ay e)
  ·exact Ay (Bf (Ay e))
  ·cases e
   exact q4.imp (fun e=>Bf (Bf (Ay e))) id
  ·exact Ay (Bf (Bf (Bf (Ay e))))
  ·rcases m i _ p with ⟨i1,i2⟩|⟨i1,i2⟩
   ·exact Ay (Bf (Bf (Bf (Bf ⟨i,ci,j,v,i2,j1,j2,by rw[<-d i j i1 j1 j2];exact e1,f⟩))))
   ·rw[l j v (by omega) e1] at f;cases f
theorem D.YI.new (d:w.heap[yb]?=V (Ae #[Av false,X S 0 0,X S 0 0,X S 0 0,X S 0 0] 131 (0,0)))(b:B<=yb):D.YI w yb B (Av false) (X S 0 0) Yd.new (X S 0 0) (X S 0 0) (X S 0 0) []/\∀k,D.YF yb (X S 0 0) (X S 0 0) (X S 0 0) [] Yd.new.conns k->k=yb:=
 ⟨⟨d,⟨S,0,0,0,rfl,⟨Aq _,fun h=>by omega,fun h=>by omega,rfl,fun j u h=>by simp[Yd.new] at h,fun j h=>by simp at h⟩,fun a h=>by cases h⟩,Bk _ _ _ _,Bk _ _ _ _,(fun m c e=>by cases e),(fun i j ci cj _ e=>by cases e),b⟩,fun k hk=>by
  rcases hk with e|e|e|e|⟨m,c,j,v,e,_⟩
  ·exact e
  ·cases e
  ·cases e
  ·cases e
  ·cases e⟩
theorem D.YI.told {l g n:Aj}{y:Yd}{f:A Aj}(h:D.YI w yb B l g y d vc n f):D.YI (w.setCell ⟨yb,4,S⟩ (X S 0 0)) yb B l g y.told d vc (X S 0 0) f/\D.Mv w (w.setCell ⟨yb,4,S⟩ (X S 0 0)) (D.YF yb d vc n f y.conns) (D.YF yb d vc (X S 0 0) f y.told.conns):=by
 have b:=zF w yb 4 (X S 0 0);have a:∀k,k<w.heap.size->k≠yb->(w.setCell ⟨yb,4,S⟩ (X S 0 0)).heap[k]?=w.heap[k]?:=fun k h1 h2=>b.block k h1 (by simp;exact h2)
 refine⟨⟨zH (i:=4) h.box _,h.dr.keep b.size (fun k q=>?_),zJ h.con b (zI h.box h.con),Bk _ _ _ _,fun m c hm=>?_,h.apart,h.low⟩,⟨(Turn.refl w _).step b (fun k a=>Ay (Ay (Bc a).symm)),fun k a=>?_⟩⟩
 ·obtain⟨_,s,r⟩:=h.dr.block k q
  exact a k (zO r) (fun e=>by rw[e,h.box] at r;simp at r)
 ·cases c with
  |none=>exact h.at_ m S hm
  |some c=>
   refine(h.at_ m _ hm).move (fun _ _ _=>rfl) (fun j v k j1 j2 e1 e2=>?_);rw[Fo] at e1;obtain⟨t,o,p,_⟩:=h.own hm j1 j2 e1 e2;exact a k o p
 ·rcases a with e|e|e|e|e
  ·exact Ay (Ay e)
  ·exact Ay (Bf (Ay e))
  ·exact Ay (Bf (Bf (Ay e)))
  ·cases e
  ·exact Ay (Bf (Bf (Bf (Bf e))))
theorem D.YI.keep {i g b:Aj}{y:Yd}{f:A Aj}(h:D.YI w yb B i g y b vc d f)(l:w.heap.size<=w'.heap.size)(a:∀k,D.YF yb b vc d f y.conns k->w'.heap[k]?=w.heap[k]?):D.YI w' yb B i g y b vc d f:=by
 refine⟨by rw[a yb (Ay rfl)];exact h.box,h.dr.keep l (fun k q=>a k (Bf (Ay q))),jH h.con (fun k q=>a k (Bf (Bf (Ay q)))),jH h.ev (fun k q=>a k (Bf (Bf (Bf (Ay q))))),fun m c hm=>?_,h.apart,h.low⟩
 cases c with
 |none=>exact h.at_ m S hm
 |some c=>
  refine(h.at_ m _ hm).move (fun _ _ _=>rfl) (fun j v k j1 j2 e1 e2=>a k (Bf (Bf (Bf (Bf ⟨m,c,j,v,hm,j1,j2,?_,e2⟩)))));rw[Fo] at e1;exact e1
theorem D.YI.lt {k:Ad}{n l b:Aj}{y:Yd}{f:A Aj}(h:D.YI w yb B n l y b vc d f)(g:D.YF yb b vc d f y.conns k):B<=k/\k<w.heap.size:=by
 rcases g with e|e|e|e|⟨m,c,j,v,hm,j1,j2,e1,e2⟩
 ·rw[e];exact⟨h.low,zO h.box⟩
 ·obtain⟨a,o,r⟩:=h.dr.block k e
  exact⟨a,zO r⟩
 ·exact An h.con k e
 ·exact An h.ev k e
 ·obtain⟨a,i,_⟩:=h.own hm j1 j2 e1 e2
  exact⟨a,i⟩
def prTypes:A Cs:=ydTypes++cnTypes++[131,195,185]
theorem D.YI.types {k:Ad}{p o b:Aj}{y:Yd}{g:A Aj}(h:D.YI w yb B p o y b vc d g)(i:D.YF yb b vc d g y.conns k):∃c t f,w.heap[k]?=V (Ae c t f)/\t∈prTypes:=by
 rcases i with e|e|e|e|⟨m,c,j,v,hm,j1,j2,e1,e2⟩
 ·rw[e];exact⟨_,_,_,h.box,by decide⟩
 ·obtain⟨_,a,r⟩:=h.dr.block k e
  exact⟨_,_,_,r,by decide⟩
 ·obtain⟨a,r⟩:=qT h.con k e
  exact⟨_,_,_,r,by decide⟩
 ·obtain⟨a,r⟩:=qT h.ev k e
  exact⟨_,_,_,r,by decide⟩
 ·obtain⟨_,c,t,l,n⟩:=(h.at_ m _ hm).kind j1 j2 (by rw[Fo];exact e1) e2
  exact⟨_,_,_,l,by rcases n with rfl|rfl <;> decide⟩
structure Pr (w:Ag) (xb yb B:Ad) (y1 y2:Yd) (F:Ad->Prop):Prop where
 ex:∃ps vd vc vs xs,YInv w xb B (Al S) ps y1/\D.YI w yb B (Av false) (X S 0 0) y2 vd vc vs xs/\(∀k,YF w xb ps k->F k/\¬D.YF yb vd vc vs xs y2.conns k)/\∀k,D.YF yb vd vc vs xs y2.conns k->F k
 ty:∀k,F k->B<=k/\∃c t f,w.heap[k]?=V (Ae c t f)/\t∈prTypes
variable {y1:Yd}{F:Ad->Prop}
theorem Pr.lt {a:Ad}{b:Yd}(h:Pr w a yb B y1 b F)(k:Ad)(c:F k):B<=k/\k<w.heap.size:=by grind[Yd,Pr]
theorem Pr.keep {g:Yd}(h:Pr w f yb B y1 g F)(d:w.heap.size<=w'.heap.size)(a:∀k,F k->w'.heap[k]?=w.heap[k]?):Pr w' f yb B y1 g F:=by
 obtain⟨l,o,vc,p,r,i,j,b,c⟩:=h.ex;obtain⟨m,n⟩:=i.keep d (fun k q=>a k (b k q).1);exact⟨⟨l,o,vc,p,r,m,j.keep d (fun k q=>a k (c k q)),fun k q=>b k (n k q),c⟩,fun k q=>by rw[a k q];exact h.ty k q⟩
theorem Pr.grown {a:Ad}{b:Yd}(h:Pr w a yb B y1 b F)(g:w.grownBy w' S):Pr w' a yb B y1 b F:=h.keep g.size (fun k q=>g.block k (h.lt k q).2 (by simp))
theorem Pr.of {i:Yd}{a:A (Br Ad)}{b:Aj}{h:A Aj}(j:YInv w g B (Al S) a y1)(l:D.YI w yb B (Av false) (X S 0 0) i b vc d h)(m:∀k,YF w g a k->¬D.YF yb b vc d h i.conns k):Pr w g yb B y1 i (fun k=>YF w g a k\/D.YF yb b vc d h i.conns k):=
 ⟨⟨a,b,vc,d,h,j,l,fun k q=>⟨Ay q,m k q⟩,fun k q=>Bf q⟩,fun k q=>by
  rcases q with q|q
  ·obtain⟨c,t,f,n,o⟩:=j.types rfl q
   exact⟨j.low_all rfl q,c,t,f,n,Mo _ (Ea.2 o)⟩
  ·exact⟨(l.lt q).1,l.types q⟩⟩
theorem Pr.x {a:Ad}{h b:Yd}{o ps':A (Br Ad)}{f:Aj}{g:A Aj}(lt:∀k,F k->B<=k/\k<w.heap.size)(p:D.YI w yb B (Av false) (X S 0 0) b d vc f g)(j:∀k,YF w a o k->F k/\¬D.YF yb d vc f g b.conns k)(l:∀k,D.YF yb d vc f g b.conns k->F k)(i:YInv w' a B (Al S) ps' h)(m:YMv w w' a o ps'):Pr w' a yb B h b (fun k=>YF w' a ps' k\/D.YF yb d vc f g b.conns k)/\D.Mv w w' F (fun k=>YF w' a ps' k\/D.YF yb d vc f g b.conns k):=by
 have n:=m.turn.size;refine⟨Pr.of i (p.keep n (fun k q=>m.turn.block k (lt k (l k q)).2 (fun c=>(j k c).2 q))) (fun k q e=>?_),⟨⟨m.turn.os,m.turn.tape,m.turn.output,n,fun k hk hn=>m.turn.block k hk (fun c=>hn (j k c).1)⟩,fun k q=>?_⟩⟩
 ·rcases m.foot k q with c|c
  ·exact(j k c).2 e
  ·have:=(lt k (l k e)).2;omega
 grind[Pr.of,Yd,D.YI,YF,D.YF,YInv,YMv,Pr,D.Mv]
theorem Pr.y {r a:Yd}{l:A (Br Ad)}{n o b f:Aj}{p g:A Aj}(lt:∀k,F k->B<=k/\k<w.heap.size)(u:YInv w h B (Al S) l y1)(j:∀k,YF w h l k->F k/\¬D.YF yb n vc o p r.conns k)(v:∀k,D.YF yb n vc o p r.conns k->F k)(i:D.YI w' yb B (Av false) (X S 0 0) a d b f g)(m:D.Mv w w' (D.YF yb n vc o p r.conns) (D.YF yb d b f g a.conns)):Pr w' h yb B y1 a (fun k=>YF w' h l k\/D.YF yb d b f g a.conns k)/\D.Mv w w' F (fun k=>YF w' h l k\/D.YF yb d b f g a.conns k):=by
 have s:=m.turn.size;obtain⟨x,t⟩:=u.keep s (fun k q=>m.turn.block k (lt k (j k q).1).2 (j k q).2);refine⟨Pr.of x i (fun k q e=>?_),⟨⟨m.turn.os,m.turn.tape,m.turn.output,s,fun k hk hn=>m.turn.block k hk (fun c=>hn (v k c))⟩,fun k q=>?_⟩⟩
 ·rcases m.foot k e with c|c
  ·exact(j k (t k q)).2 c
  ·have:=(lt k (j k (t k q)).1).2;omega
 grind[Pr.of,Yd,YInv,YF,D.YF,D.YI,D.Mv,Pr]
def Yd.op (y:Yd):Yd×Ak×Ak:=if (Z y.conns)=64 then (y,0,7) else (y.opened,(Z y.conns+1:Ad),0)
def Yd.fd (y:Yd)(c:Ak)(l:A Ab):Yd×Ak:=if y.isOpen c then (y.fed0 (c-1).toNat l,0) else (y,7)
def Yd.cl (y:Yd)(c:Ak):Yd×Ak:=if y.isOpen c then (y.ended (c-1).toNat,0) else (y,7)
theorem un {y:Yd}{c:Ak}(h:y.isOpen c=true):c=(((c-1).toNat+1:Ad):Ak):=by
 unfold Yd.isOpen at h;simp only[Ez,Gd] at h
 omega
theorem zkS {d:Yd}(h:Pr w b yb B y1 d F)(j:B<=w.heap.size)(k:Z y1.conns<=64):Am prog 24 #[Al (V ⟨b,0,S⟩)] w fun e w'=>e=Af (.tuple #[O Ai y1.op.2.1,O Ai y1.op.2.2])/\∃F',Pr w' b yb B y1.op.1 d F'/\D.Mv w w' F F':=by
 obtain⟨l,m,vc,n,o,c,f,g,i⟩:=h.ex;unfold Yd.op
 by_cases a:Z y1.conns=64
 ·simp only[Az a]
  exact(pW c a).mono fun e w' ⟨q1,q2⟩=>⟨q1,F,by rw[q2];exact h,by rw[q2];exact D.Mv.refl _ _⟩
 ·simp only[Aw a]
  exact(zi2 c rfl (by omega) j).mono fun e w' ⟨q1,q2,q3⟩=>⟨q1,_,Pr.x h.lt f g i q2 q3⟩
theorem zkU {d:Ad}{a:Yd}(h:Pr w d yb B y1 a F)(j:B<=w.heap.size)(k:Z a.conns<=64):Am prog 61 #[Al (V ⟨yb,0,S⟩)] w fun e w'=>e=Af (.tuple #[O Ai a.op.2.1,O Ai a.op.2.2])/\∃F',Pr w' d yb B y1 a.op.1 F'/\D.Mv w w' F F':=by
 obtain⟨l,m,vc,n,o,f,c,g,i⟩:=h.ex;unfold Yd.op
 by_cases b:Z a.conns=64
 ·simp only[Az b]
  exact(nn c b).mono fun e w' ⟨q1,q2⟩=>⟨q1,F,by rw[q2];exact h,by rw[q2];exact D.Mv.refl _ _⟩
 ·simp only[Aw b]
  exact(zg2 c (by omega) j).mono fun e w' ⟨q1,vc',xs',q2,q3⟩=>⟨q1,_,Pr.y h.lt f g i q2 q3⟩
theorem ziF {f:Yd}(h:Pr w b yb B y1 f F)(l:Z y1.conns<=64)(c:Ak):Am prog 27 #[Al (V ⟨b,0,S⟩),O Ai c] w fun e w'=>e=Af (O Ai (y1.cl c).2)/\∃F',Pr w' b yb B (y1.cl c).1 f F'/\D.Mv w w' F F':=by
 obtain⟨k,n,vc,o,p,a,g,i,j⟩:=h.ex;have d:Z k<=1000000:=by rw[a.len];omega
 unfold Yd.cl
 cases ho:y1.isOpen c with
 |false=>exact(ab a c ho d).mono fun e w' ⟨q1,q2⟩=>⟨q1,F,by rw[q2];exact h,by rw[q2];exact D.Mv.refl _ _⟩
 |true=>
  have e:=un ho;generalize(c-1).toNat=m at e;subst e;rw[Az rfl];exact(zeR a rfl m ho d).mono fun e w' ⟨q1,q2,q3⟩=>⟨q1,_,Pr.x h.lt g i j q2 q3⟩
theorem ziG {a:Yd}(h:Pr w f yb B y1 a F)(d:Z a.conns<=64)(c:Ak):Am prog 63 #[Al (V ⟨yb,0,S⟩),O Ai c] w fun e w'=>e=Af (O Ai (a.cl c).2)/\∃F',Pr w' f yb B y1 (a.cl c).1 F'/\D.Mv w w' F F':=by
 obtain⟨k,l,vc,n,o,g,b,i,j⟩:=h.ex;unfold Yd.cl
 cases ho:a.isOpen c with
 |false=>exact(rD b c ho d).mono fun e w' ⟨q1,q2⟩=>⟨q1,F,by rw[q2];exact h,by rw[q2];exact D.Mv.refl _ _⟩
 |true=>
  have e:=un ho;generalize(c-1).toNat=m at e;subst e;rw[Az rfl];exact(zc1 b ho d).mono fun e w' ⟨q1,vs',xs',q2,q3⟩=>⟨q1,_,Pr.y h.lt g i j q2 q3⟩
theorem zkR {p:Yd}{a:Br Eu}{k:Ad}{l:A Ab}(h:Pr w i yb B y1 p F)(s:B<=w.heap.size)(H:Z y1.conns<=64)(c:Ak)(y:YOk y1)(z:RdO w (X a (Z l) k) l)(v:∀j,(X a (Z l) k).ownBlock=V j->¬F j)(f:Z l<=2000000)(C:Z y1.sent<=10000000)(u:Glob w)(t:GE w)(d:0<B/\Tryz.laysC172_ren.g 15<B):Am prog 26 #[Al (V ⟨i,0,S⟩),O Ai c,X a (Z l) k] w fun e w'=>e=Af (O Ai (y1.fd c l).2)/\∃F',Pr w' i yb B (y1.fd c l).1 p F'/\D.Mv w w' F F':=by
 obtain⟨E,N,vc,Q,xs,b,q,n,r⟩:=h.ex;have o:Z E<=1000000:=by rw[b.len];omega
 unfold Yd.fd
 cases ho:y1.isOpen c with
 |false=>exact(lW b c _ ho o).mono fun e w' ⟨q1,q2⟩=>⟨q1,F,by rw[q2];exact h,by rw[q2];exact D.Mv.refl _ _⟩
 |true=>
  have e:=un ho;generalize(c-1).toNat=m at e;subst e;rw[Az rfl];exact(zeS b y ho z (fun j hj c=>v j hj (n j c).1) f C o s u t d).mono fun e w' ⟨q1,ps',q2,q3,_⟩=>⟨q1,_,Pr.x h.lt q n r q2 q3⟩
theorem zkT {n:Ad}{b:Yd}{a:Br Eu}{k:Ad}{l:A Ab}(h:Pr w n yb B y1 b F)(q:B<=w.heap.size)(i:Z b.conns<=64)(c:Ak)(s:YOk b)(t:RdO w (X a (Z l) k) l)(r:l≠[]->∀j,(X a (Z l) k).ownBlock=V j->¬F j)(d:Z l<=2000000)(u:Z b.sent<=10000000):Am prog 97 #[Al (V ⟨yb,0,S⟩),O Ai c,X a (Z l) k] w fun e w'=>e=Af (O Ai (b.fd c l).2)/\∃F',Pr w' n yb B y1 (b.fd c l).1 F'/\D.Mv w w' F F':=by
 obtain⟨v,x,vc,z,C,o,f,p,g⟩:=h.ex;unfold Yd.fd
 cases ho:b.isOpen c with
 |false=>exact(eN f c _ ho i).mono fun e w' ⟨q1,q2⟩=>⟨q1,F,by rw[q2];exact h,by rw[q2];exact D.Mv.refl _ _⟩
 |true=>
  have e:=un ho;generalize(c-1).toNat=m at e;subst e;rw[Az rfl];exact(zg1 f s ho t (fun h0 j hj c=>r h0 j hj (g j c)) d u i q).mono fun e w' ⟨q1,vs',xs',q2,q3⟩=>⟨q1,_,Pr.y h.lt o p g q2 q3⟩
theorem zfT {g:Yd}(h:Pr w b yb B y1 g F):Am prog 28 #[Al (V ⟨b,0,S⟩)] w fun e w'=>∃v,e=Af v/\w'.ownsRow B 44 3 v (Z y1.sent) (evCells y1.sent)/\(∀k,v.ownBlock=V k->F k)/\∃F',Pr w' b yb B y1.told g F'/\D.Mv w w' F F'/\∀k,v.ownBlock=V k->¬F' k:=by
 obtain⟨j,l,vc,m,n,i,d,a,f⟩:=h.ex;refine(lV i rfl).mono fun e w' ⟨v,q1,q2,q3,q4,q5,q6⟩=>⟨v,q1,q4,fun k hk=>(a k (q6 k hk)).1,_,(Pr.x h.lt d a f q2 q3).1,(Pr.x h.lt d a f q2 q3).2,fun k hk c=>?_⟩
 rcases c with c|c
 ·exact q5 k hk c
 ·exact(a k (q6 k hk)).2 c
theorem zkV {a:Ad}{b:Yd}(h:Pr w a yb B y1 b F):∃F',Pr (w.setCell ⟨yb,4,S⟩ (X S 0 0)) a yb B y1 b.told F'/\D.Mv w (w.setCell ⟨yb,4,S⟩ (X S 0 0)) F F':=by
 obtain⟨k,l,vc,m,n,c,d,f,g⟩:=h.ex;obtain⟨i,j⟩:=d.told;exact⟨_,Pr.y h.lt c f g i j⟩
theorem D.Mv.grown (g:w.grownBy w' S):D.Mv w w' F F:=⟨⟨g.os,g.tape,g.output,g.size,fun k hk _=>g.block k hk (by simp)⟩,fun _ h=>Ay h⟩
theorem RdO.mv {b:Br Eu}{l:A Ab}{i:Ad->Prop}(h:RdO w (X b (Z l) f) l)(m:D.Mv w w' F i)(n:l≠[]->∀g o,b=V ⟨g,o,S⟩->¬F g):RdO w' (X b (Z l) f) l:=by
 by_cases d:l=[]
 ·exact Ay ⟨b,f,by rw[d];rfl,d⟩
 rcases h with h|⟨g,o,c,h1,hc,h2,h3⟩
 ·exact Ay h
 ·have k:b=V ⟨g,o,S⟩:=by simp only[Au] at h1;exact h1.1
  have e:=m.turn.block g h2 (n d g o k);exact Bf ⟨g,o,c,h1,hc,Eh h2 m.turn.size,fun j u hu=>by rw[Mr (a:=⟨g,o+j,S⟩) e];exact h3 j u hu⟩
theorem RdO.lt {a:Br Eu}{l:A Ab}(h:RdO w (X a (Z l) b) l)(c:l≠[]){o:Ad}(e:a=V ⟨g,o,S⟩):g<w.heap.size:=by grind[RdO]
abbrev Mh0 (a b):=Ae #[Al (V ⟨a,0,S⟩),Al (V ⟨b,0,S⟩)] 85
theorem zeH {d:Ad}{y:Yd}{z:Br Eu}{l:A Ab}(h:Pr w d yb B y y F)(v:YOk y)(hn:Z y.conns<=64)(hs:Z y.sent<=10000000)(c:Ak)(hr:RdO w (X z (Z l) sc) l)(ha:l≠[]->∀g o,z=V ⟨g,o,S⟩->¬F g)(ay:z=S->l=[])(hl:Z l<=2000000)(hB:B<=w.heap.size)(hG:Glob w)(hE:GE w)(al:0<B/\Tryz.laysC172_ren.g 15<B):Am prog 62 #[Fe #[Al (V ⟨d,0,S⟩),Al (V ⟨yb,0,S⟩)],O Ai c,X z (Z l) sc] w fun e w'=>e=Af (Av true)/\∃F',Pr w' d yb B (y.fd c l).1 (y.fd c l).1 F'/\D.Mv w w' F F':=by
 have gA:=hid (Ac w (Mh0 d yb) S);have av:Y ((w.alloc (Mh0 d yb)).heap[w.heap.size]?=V (Mh0 d yb)):=Bn _ _;have aj:=hid (rh (hr.keep gA.o (fun _ _ _ _ _ c=>by cases c)) (by omega) ay);have p:=hid h;have i:=hid hr;have C:=hid ha;have ah:Y (∀W F',Pr W d yb B y y F'->w.heap.size<=W.heap.size->w.grownBy W S->∀a k,RdO W (X a (Z l) k) l->(∀j,(X a (Z l) k).ownBlock=V j->¬F' j)->Am prog 26 #[Al (V ⟨d,0,S⟩),O Ai c,X a (Z l) k] W fun e w'=>e=Af (O Ai (y.fd c l).2)/\∃F'',Pr w' d yb B (y.fd c l).1 y F''/\D.Mv W w' F' F''):=fun W F' h1 h2 h3 a k h4 h5=>zkR h1 (by omega) hn c v h4 h5 hl hs (hG.grown h3) (hE.grown h3) al
 have ai:Y (∀W F',Pr W d yb B (y.fd c l).1 y F'->w.heap.size<=W.heap.size->RdO W (X z (Z l) sc) l->(l≠[]->∀j,(X z (Z l) sc).ownBlock=V j->¬F' j)->Am prog 97 #[Al (V ⟨yb,0,S⟩),O Ai c,X z (Z l) sc] W fun e w'=>e=Af (O Ai (y.fd c l).2)/\∃F'',Pr w' d yb B (y.fd c l).1 (y.fd c l).1 F''/\D.Mv W w' F' F''):=fun W F' h1 h2 h4 h5=>zkT h1 (by omega) hn c v h4 h5 hl hs
 have HN:Y (∀n W,Am prog 36 #[O Ai n] W fun e w'=>e=Af (O Ai n)/\w'=W):=fun n W=>tD n W
 have ax:Z l<=1000000000000:=by omega
 generalize(y.fd c l)=nd at*;go_in;go_wp2_with fail;generalize w.alloc (Mh0 d yb)=wa at*;refine aj.o.mono ?_;rintro e w1 ⟨g,aC,rfl,az,am,g1,ad,aq⟩;obtain⟨ia,ic,rfl,_⟩:=ad.form;have E:=hid am;have G1:=hid (zD gA.o g1);have Q:=hid (zE av.o g1);have aA:=gA.o.size;have aB:w.heap.size<=g:=by omega
 have r:=hid (p.o.grown G1.o);have af:=hid (ah.o w1 F r.o G1.o.size G1.o ia ic ad (fun j hj c=>by
  have e:=aq j hj;rw[e] at c;have:=(p.o.lt g c).2;omega))
 have x0:=cbi 0 Q.o;go_wp2_with fail;refine af.o.mono ?_;rintro e w2 ⟨rfl,F1,ao,b⟩;have m:=hid ((D.Mv.grown G1.o).trans b);have f:=hid ao;have ab:¬F g:=fun c=>by have:=(p.o.lt g c).2;omega
 have H:=hid (b.turn.keep E.o ab);have ar:¬F w.heap.size:=fun c=>by have:=(p.o.lt _ c).2;omega
 have aa:=hid (b.turn.keep Q.o ar);have s:=hid (i.o.mv m.o C.o);have ae:=hid (rg H.o s.o (by
  by_cases t:l=[]
  ·exact Ay t
  ·exact Bf fun g' o e=>by have:=i.o.lt t e;omega) ax)
 have u:¬F1 g:=fun c=>by
  rcases b.foot g c with q|q
  ·exact ab q
  ·have:=zO E.o;omega
 have ak:Y (l≠[]->∀g' o,z=V ⟨g',o,S⟩->¬F1 g'):=fun t g' o e c=>by
  rcases b.foot g' c with q|q
  ·exact C.o t g' o e q
  ·have:=i.o.lt t e;have:=G1.o.size;omega
 go_wp2_with fail;refine ae.o.mono ?_;rintro e w3 ⟨rfl,g3⟩;have x:¬w.heap.size=g:=fun e=>by
  have h:=H.o;rw[<-e,aa.o] at h;simp at h
 have N:Y (D.Mv w w3 F F1):=⟨m.o.turn.step g3 (fun k v=>Bf (by have:=Bc v;omega)),m.o.foot⟩;have aw:=hid (f.o.keep g3.size (fun k v=>g3.block k (f.o.lt k v).2 (fun e=>u (by rw[<-Bc e];exact v))));have au:=hid (zE aa.o g3 (by simp;exact x));have y0:=cbi 1 au.o;have ag:=hid (ai.o w3 F1 aw.o N.o.turn.size (i.o.mv N.o C.o) (fun t j hj c=>by
  rcases i.o with ⟨_,_,_,e⟩|⟨g',o',c',e,_⟩
  ·exact t e
  ·rw[e] at hj
   simp only[Au] at e;exact ak.o t g' o' e.1 (by cases hj;exact c)))
 go_wp2_with fail;refine ag.o.mono ?_;rintro e w4 ⟨rfl,F2,ap,an⟩;have HX:=hid (Vv ap (N.o.trans an));go_wp2_with (go_at_call 36;refine(HN.o _ _).mono ?_;rintro e w' ⟨rfl,rfl⟩);go_ret;exact⟨rfl,F2,HX.o⟩
structure L.Y where
 xb:Ad
 yb:Ad
 y:Yd
 F:Ad->Prop
def L.Y.cells (p:L.Y):A Aj:=[Al (V ⟨p.xb,0,S⟩),Al (V ⟨p.yb,0,S⟩)]
def L.Y.ok (w:Ag)(B N:Ad)(p:L.Y):Prop:=Pr w p.xb p.yb B p.y p.y p.F/\YOk p.y/\(Z p.y.conns)<=64/\(Z p.y.sent)<=N
def zlG (F:Ad->Prop)(es:A (Aj×Ad×Ad)):Prop:=∀e∈es,∀k,e.1.ownBlock=V k->¬F k
structure L.W (w:Ag) (wb B N:Ad) (vl:Aj) (es ev:A (Aj×Ad×Ad)) (ys:A L.Y):Prop where
 r:L.R w wb B vl es ev
 l:w.ownsRow B 85 2 vl (Z ys) (ys.flatMap L.Y.cells)
 yd:∀(i:Ad) (p:L.Y),ys[i]?=V p->p.ok w B N
 ap:∀(i j:Ad) (p q:L.Y),i≠j->ys[i]?=V p->ys[j]?=V q->∀k,p.F k->¬q.F k
 en:∀(i:Ad) (p:L.Y),ys[i]?=V p->zlG p.F (es++ev)
theorem zhB (b:A L.Y)(i:Ad)(p q:L.Y)(h:b[i]?=V p)(e:q.cells=p.cells):(b.set i q).flatMap L.Y.cells=b.flatMap L.Y.cells:=by
 induction b generalizing i with
 |nil=>rfl
 |cons a t ih=>
  cases i with
  |zero=>cases h;show q.cells++_=p.cells++_;rw[e]
  |succ i=>show a.cells++(t.set i q).flatMap L.Y.cells=a.cells++t.flatMap L.Y.cells;rw[ih i h]
theorem uZ {e:Cs}{s:Ad}{n:Ad}{a:A Aj}(h:w.ownsRow B e s v n a)(t:Turn w w' F)(b:∀k,F k->∃c t f,w.heap[k]?=V (Ae c t f)/\t∈prTypes)(d:e ∉ prTypes:=by decide):w'.ownsRow B e s v n a:=by grind[Turn.row,qT,Turn,prTypes]
theorem L.R.mv {n:Aj}{b d:A (Aj×Ad×Ad)}(h:L.R w i B n b d)(t:Turn w w' F)(a:∀k,F k->∃c t f,w.heap[k]?=V (Ae c t f)/\t∈prTypes)(l:zlG F (b++d)):L.R w' i B n b d:=by
 obtain⟨u,x,v,y,j,o,p,q,r,s⟩:=h.ex;refine⟨⟨u,x,v,y,t.keep j (fun c=>?_),uZ o t a,uZ p t a,uZ q t a,uZ r t a,s⟩,fun e he=>Turn.row (h.all e he) t (fun k hk=>l e (Mo _ he) k hk),fun e he=>Turn.row (h.evs e he) t (fun k hk=>l e (Mh _ he) k hk),h.low,h.bd⟩;obtain⟨z,E,C,g,m⟩:=a i c;rw[j] at g;simp at g;rw[<-g.2.1] at m;revert m;decide
variable {p:L.Y}
theorem L.Y.ok.tys (h:p.ok w B N):∀k,p.F k->∃c t f,w.heap[k]?=V (Ae c t f)/\t∈prTypes:=fun k hk=>(h.1.ty k hk).2
theorem L.W.move {Q:Ad}{y z:A (Aj×Ad×Ad)}{n:A L.Y}{y':Yd}{o:Ad->Prop}(h:L.W w Q B N H y z n)(g:n[i]?=V p)(hp:L.Y.ok w' B N' ⟨p.xb,p.yb,y',o⟩)(m:D.Mv w w' p.F o)(hN:N<=N'):L.W w' Q B N' H y z (n.set i ⟨p.xb,p.yb,y',o⟩):=by
 have f:=(Bo.1 g).1;have E:=(h.yd i p g).tys;have t:∀(j:Ad) (q:L.Y),j≠i->n[j]?=V q->q.ok w' B N':=fun j q d hq=>by
  obtain⟨u,v,q3,q4⟩:=h.yd j q hq;exact⟨u.keep m.turn.size (fun k hk=>m.turn.block k (u.lt k hk).2 (fun c=>h.ap i j p q (fun e=>d e.symm) g hq k c hk)),v,q3,Bi q4 hN⟩
 have s:∀(j:Ad) (q:L.Y),j≠i->n[j]?=V q->∀k,q.F k->¬o k:=fun j q d hq k hk c=>by
  rcases m.foot k c with e|e
  ·exact h.ap i j p q (fun e=>d e.symm) g hq k e hk
  ·have:=((h.yd j q hq).1.lt k hk).2;omega
 refine⟨h.r.mv m.turn E (h.en i p g),?_,fun j q hq=>?_,fun a b u v hab ha hb k hk=>?_,fun j q hq e he k hk c=>?_⟩
 ·rw[Gv,zhB n i p ⟨p.xb,p.yb,y',o⟩ g rfl];exact uZ h.l m.turn E
 ·by_cases d:j=i
  ·subst d;rw[Fm f] at hq;cases hq;exact hp
  ·rw[Fc (fun e=>d e.symm)] at hq;exact t j q d hq
 ·by_cases x:a=i
  ·subst x
   rw[Fm f] at ha;cases ha;rw[Fc hab] at hb;exact fun c=>s b v (fun e=>hab e.symm) hb k c hk
  ·rw[Fc (fun e=>x e.symm)] at ha
   by_cases C:b=i
   ·subst C
    rw[Fm f] at hb;cases hb;exact s a u x ha k hk
   ·rw[Fc (fun e=>C e.symm)] at hb
    exact h.ap a b u v hab ha hb k hk
 ·by_cases d:j=i
  ·subst d;rw[Fm f] at hq;cases hq
   rcases m.foot k c with q|q
   ·exact h.en j p g e he k hk q
   ·rcases Ea.1 he with he|he
    ·have:=(An (h.r.all e he) k hk).2;omega
    ·have:=(An (h.r.evs e he) k hk).2;omega
  ·rw[Fc (fun e=>d e.symm)] at hq;exact h.en j q hq e he k hk c
theorem L.W.keep {a b:A (Aj×Ad×Ad)}{j:A L.Y}(h:L.W w f B N d a b j)(g:w.grownBy w' S)(k:N<=N'):L.W w' f B N' d a b j:=
 ⟨h.r.keep g,zK h.l g (fun _ _ c=>by cases c),fun i p hi=>by
  obtain⟨m,n,o,q⟩:=h.yd i p hi;exact⟨m.grown g,n,o,Bi q k⟩,h.ap,h.en⟩
theorem L.Y.ok.own (h:p.ok w B N){G:Ad->Prop}(t:Turn w w' G)(a:∀k,p.F k->¬G k):p.ok w' B N:=⟨h.1.keep t.size (fun k hk=>t.block k (h.1.lt k hk).2 (a k hk)),h.2⟩
theorem vK {k:Ad}{a:Fh Aj}{t:Cs}{f:Ad×Ad}(b:∀k,F k->∃c t f,w.heap[k]?=V (Ae c t f)/\t∈prTypes)(d:w.heap[k]?=V (Ae a t f))(g:t ∉ prTypes):¬F k:=by grind
variable {ev es o:A (Aj×Ad×Ad)}
abbrev Mh5 (a b c d e):=Ae #[a,b,c,d,e] 77 (0,0)
theorem L.W.bytes {x u:Aj}{y d:A (Aj×Ad×Ad)}{ys:A L.Y}(h:L.W w g B N x y ev ys)(C:w.heap[g]?=V (Mh5 x H u ve vm))(i:L.Inv w' g B x ve vm (y++d))(t:Turn w w' (L.F g H u (X S 0 0)))(fr:L.Fr w' g w.heap.size u d):L.W w' g B N x (y++d) ev ys:=by
 obtain⟨aa,f,m,o,z,h2,h3,h4,h5,h6⟩:=h.r.ex;rw[z] at C;simp only[Ey,Qj] at C;have e1:aa=H/\f=u/\m=ve/\o=vm:=by have:=C.1;simp at this;exact this
 obtain⟨rfl,rfl,rfl,rfl⟩:=e1;obtain⟨Q,ab,i1,i2,i3⟩:=i.ex;have b:∀{e:Cs} {s:Ad} {v:Aj} {n:Ad} {xs:A Aj},w.ownsRow B e s v n xs->e≠77->e≠32->(∀k,v.ownBlock=V k->f.ownBlock≠V k)->w'.ownsRow B e s v n xs:=fun q c1 c2 c3=>Turn.row q t (fun k hk c=>by
  rcases c with c|c|c|c
  ·exact zI z q (fun e=>c1 e.symm) k hk c
  ·exact qB h2 q (fun e=>c2 e.symm) k hk c
  ·exact c3 k hk c
  ·cases c)
 have a:∀{e:Cs} {s:Ad} {v:Aj} {n:Ad} {xs:A Aj},w.ownsRow B e s v n xs->e≠3->∀k,v.ownBlock=V k->f.ownBlock≠V k:=fun q c k hk=>qB h3 q (fun e=>c e.symm) k hk
 refine⟨⟨⟨Q,ab,m,o,i1,i2,i3,b h4 (by decide) (by decide) (a h4 (by decide)),b h5 (by decide) (by decide) (fun k hk c=>h6 k c hk),fun k hk c=>?_⟩,i.all,fun e he=>b (h.r.evs e he) (by decide) (by decide) (a (h.r.evs e he) (by decide)),h.r.low,fun e he=>?_⟩,b h.l (by decide) (by decide) (a h.l (by decide)),fun j p hj=>(h.yd j p hj).own t (fun k hk c=>?_),h.ap,fun j p hj e he k hk c=>?_⟩
 ·rcases fr.2 _ _ _ _ _ i1 k hk with q|q
  ·exact h6 k q c
  ·have:=(An h5 k c).2;omega
 ·rcases Ea.1 he with q|q
  ·exact i.bd e q
  ·exact h.r.bd e (Mh _ q)
 ·have E:=(h.yd j p hj).tys
  rcases c with c|c|c|c
  ·rw[c] at hk;exact vK E z (by decide) hk
  ·obtain⟨_,q⟩:=qT h2 k c
   exact vK E q (by decide) hk
  ·obtain⟨_,q⟩:=qT h3 k c
   exact vK E q (by decide) hk
  ·cases c
 ·rcases Ea.1 he with he|he
  ·rcases Ea.1 he with he|he
   ·exact h.en j p hj e (Mo _ he) k hk c
   ·have:=fr.1 e he k hk
    have:=((h.yd j p hj).1.lt k c).2;omega
  ·exact h.en j p hj e (Mh _ he) k hk c
theorem L.W.evs {n:Ad}{C x:Aj}{m:A (Aj×Ad×Ad)}{ys:A L.Y}{f:A Aj}(h:L.W w E B N C es m ys)(hb:w.heap[E]?=V (Mh5 C vb vk ve vm))(q:M.Post w w' E B C vb vk ve vm v m n o x z)(hr:w.ownsRow B 44 3 v n f)(hv:∀(i:Ad) (p:L.Y),ys[i]?=V p->∀k,v.ownBlock=V k->¬p.F k)(he:∀e∈m,∀k,e.1.ownBlock=V k->v.ownBlock≠V k)(hn:n<=1000000000)(ab:Z m<=100000000):L.W w' E B N C es (m++o) ys:=by
 obtain⟨t,y,aa,g,H,Q,h3,h4,h5,h6⟩:=h.r.ex;rw[H] at hb;simp only[Ey,Qj] at hb;have e1:t=vb/\y=vk/\aa=ve/\g=vm:=by have:=hb.1;simp at this;exact this
 obtain⟨rfl,rfl,rfl,rfl⟩:=e1;have b:∀{e:Cs} {s:Ad} {u:Aj} {n:Ad} {f:A Aj},w.ownsRow B e s u n f->e≠77->e≠41->(∀k,u.ownBlock=V k->g.ownBlock≠V k)->(∀k,u.ownBlock=V k->v.ownBlock≠V k)->w'.ownsRow B e s u n f:=fun r c1 c2 c3 c4=>Turn.row r q.turn (fun k hk c=>by
  rcases c with c|c|c|c
  ·exact zI H r (fun e=>c1 e.symm) k hk c
  ·exact qB h4 r (fun e=>c2 e.symm) k hk c
  ·exact c3 k hk c
  ·exact c4 k hk c)
 have a:∀{e:Cs} {s:Ad} {u:Aj} {n:Ad} {f:A Aj},w.ownsRow B e s u n f->e≠3->∀k,u.ownBlock=V k->g.ownBlock≠V k:=fun r c k hk=>qB h5 r (fun e=>c e.symm) k hk
 have d:∀{e:Cs} {s:Ad} {u:Aj} {n:Ad} {f:A Aj},w.ownsRow B e s u n f->e≠44->∀k,u.ownBlock=V k->v.ownBlock≠V k:=fun r c k hk=>qB hr r (fun e=>c e.symm) k hk
 refine⟨⟨⟨t,y,x,z,q.box,b Q (by decide) (by decide) (a Q (by decide)) (d Q (by decide)),b h3 (by decide) (by decide) (fun k hk=>h6 k hk) (d h3 (by decide)),q.re,q.rm,fun k hk c=>?_⟩,fun e h0=>b (h.r.all e h0) (by decide) (by decide) (a (h.r.all e h0) (by decide)) (d (h.r.all e h0) (by decide)),fun e h0=>?_,h.r.low,fun e h0=>?_⟩,b h.l (by decide) (by decide) (a h.l (by decide)) (d h.l (by decide)),fun j p hj=>(h.yd j p hj).own q.turn (fun k hk c=>?_),h.ap,fun j p hj e h0 k hk c=>?_⟩
 ·rcases q.fm k c with r|r
  ·exact h6 k hk r
  ·have:=(An h3 k hk).2;omega
 ·rcases Ea.1 h0 with h0|h0
  ·exact b (h.r.evs e h0) (by decide) (by decide) (a (h.r.evs e h0) (by decide)) (he e h0)
  ·exact(q.all e h0).1
 ·rcases Ea.1 h0 with h0|h0
  ·exact h.r.bd e (Mo _ h0)
  ·rcases Ea.1 h0 with h0|h0
   ·exact h.r.bd e (Mh _ h0)
   ·have:=(q.all e h0).2;omega
 ·have ty:=(h.yd j p hj).tys
  rcases c with c|c|c|c
  ·rw[c] at hk;exact vK ty H (by decide) hk
  ·obtain⟨_,r⟩:=qT h4 k c
   exact vK ty r (by decide) hk
  ·obtain⟨_,r⟩:=qT h5 k c
   exact vK ty r (by decide) hk
  ·exact hv j p hj k c hk
 ·rcases Ea.1 h0 with h0|h0
  ·exact h.en j p hj e (Mo _ h0) k hk c
  ·rcases Ea.1 h0 with h0|h0
   ·exact h.en j p hj e (Mh _ h0) k hk c
   ·rcases q.fa e h0 k hk with r|r
    ·exact hv j p hj k r c
    ·have:=((h.yd j p hj).1.lt k c).2;omega
theorem L.W.more {m:Aj}{d:A L.Y}(h:L.W w E B N vl es ev d)(Q:w.heap[E]?=V (Mh5 vl vb vk ve vm))(b:w'.heap[E]?=V (Mh5 m vb vk ve vm))(r:w'.ownsRow B 85 2 m (Z d+1) (d.flatMap L.Y.cells++p.cells))(t:Turn w w' (fun k=>k=E\/vl.ownBlock=V k))(hp:p.ok w' B N)(hF:∀k,p.F k->w.heap.size<=k):L.W w' E B N m es ev (d++[p]):=by
 obtain⟨x,z,y,C,H,h2,h3,h4,h5,h6⟩:=h.r.ex;rw[H] at Q;simp only[Ey,Qj] at Q;have g:x=vb/\z=vk/\y=ve/\C=vm:=by have:=Q.1;simp at this;exact this
 obtain⟨rfl,rfl,rfl,rfl⟩:=g;have a:∀{e:Cs} {s:Ad} {u:Aj} {n:Ad} {xs:A Aj},w.ownsRow B e s u n xs->e≠77->e≠85->w'.ownsRow B e s u n xs:=fun q c1 c2=>Turn.row q t (fun k hk c=>by
  rcases c with c|c
  ·exact zI H q (fun e=>c1 e.symm) k hk c
  ·exact qB h.l q (fun e=>c2 e.symm) k hk c)
 have f:∀(i:Ad) (q:L.Y),(d++[p])[i]?=V q->d[i]?=V q\/(i=Z d/\q=p):=fun i q e=>by
  by_cases o:i<Z d
  ·rw[Cx o] at e;exact Ay e
  ·rw[Cl (by omega)] at e
   have hl:=(Bo.1 e).1;have h0:i=Z d:=by simp at hl;omega
   subst h0;rw[Gp] at e;exact Bf ⟨rfl,(Bc e).symm⟩
 have v:∀(i:Ad) (q:L.Y),d[i]?=V q->∀k,q.F k->¬p.F k:=fun i q o k hk c=>by have:=hF k c;have:=((h.yd i q o).1.lt k hk).2;omega
 refine⟨⟨⟨x,z,y,C,b,a h2 (by decide) (by decide),a h3 (by decide) (by decide),a h4 (by decide) (by decide),a h5 (by decide) (by decide),h6⟩,fun e he=>a (h.r.all e he) (by decide) (by decide),fun e he=>a (h.r.evs e he) (by decide) (by decide),h.r.low,h.r.bd⟩,?_,fun j q hj=>?_,fun i j q1 q2 hij o hj k hk=>?_,fun j q hj e he k hk c=>?_⟩
 ·rw[Ah,List.flatMap_append]
  show w'.ownsRow B 85 2 m (Z d+1) (d.flatMap L.Y.cells++(p.cells++[]));rw[Cv];exact r
 ·rcases f j q hj with e|⟨_,e⟩
  ·refine(h.yd j q e).own t (fun k hk c=>?_)
   have ty:=(h.yd j q e).tys;rcases c with c|c
   ·rw[c] at hk;exact vK ty H (by decide) hk
   ·obtain⟨_,r⟩:=qT h.l k c
    exact vK ty r (by decide) hk
  ·rw[e];exact hp
 ·rcases f i q1 o with g|⟨g,e2⟩
  ·rcases f j q2 hj with e3|⟨e3,e4⟩
   ·exact h.ap i j q1 q2 hij g e3 k hk
   ·rw[e4];exact v i q1 g k hk
  ·rcases f j q2 hj with e3|⟨e3,e4⟩
   ·exact fun c=>v j q2 e3 k c (by rw[<-e2];exact hk)
   ·omega
 ·rcases f j q hj with g|⟨_,g⟩
  ·exact h.en j q g e he k hk c
  ·rw[g] at c
   have:=hF k c;rcases Ea.1 he with he|he
   ·have:=(An (h.r.all e he) k hk).2;omega
   ·have:=(An (h.r.evs e he) k hk).2;omega
def lawTypes:A Cs:=[77,85,32,3,41]
def L.T (w:Ag)(B:Ad)(ys:A L.Y)(k:Ad):Prop:=B<=k/\((∃c t f,w.heap[k]?=V (Ae c t f)/\t∈lawTypes)\/∃(i:Ad) (p:L.Y),ys[i]?=V p/\p.F k)
structure L.St (w w':Ag) (wb B N ne nv ny:Ad) (ys:A L.Y):Prop where
 ex:∃vl es ev ys',Z es<=ne/\(Z ev)<=nv/\(Z ys')=ny/\L.W w' wb B N vl es ev ys'/\∀(i:Ad) (q:L.Y),ys'[i]?=V q->∀k,q.F k->(∃(j:Ad) (p:L.Y),ys[j]?=V p/\p.F k)\/w.heap.size<=k
 turn:Turn w w' (L.T w B ys)
theorem L.St.after {x:Ag}{d:Ad}{j:A L.Y}(h:L.St x w' f B N ne nv d j)(g:w.grownBy x S):L.St w w' f B N ne nv d j:=by
 obtain⟨t,l,m,a,n,o,p,r,s⟩:=h.ex;refine⟨⟨t,l,m,a,n,o,p,r,fun i q hi k hk=>(s i q hi k hk).imp id (fun e=>Bi g.size e)⟩,⟨h.turn.os.trans g.os,h.turn.tape.trans g.tape,h.turn.output.trans g.output,Bi g.size h.turn.size,fun k hk hn=>?_⟩⟩;have e:=g.block k hk (by simp);refine(h.turn.block k (Eh hk g.size) (fun c=>hn ⟨c.1,?_⟩)).trans e;have b:=c.2;rw[e] at b;exact b
theorem L.W.still {b c:A (Aj×Ad×Ad)}{a:A L.Y}(h:L.W w f B N d b c a)(g:w.grownBy w' S)(j:N<=N')(l:Z b<=ne)(m:Z c<=nv):L.St w w' f B N' ne nv (Z a) a:=
 ⟨⟨d,b,c,a,l,m,rfl,h.keep g j,fun i q hi k hk=>Ay ⟨i,q,hi,hk⟩⟩,⟨g.os,g.tape,g.output,g.size,fun k hk _=>g.block k hk (by simp)⟩⟩
theorem L.W.moved {n:Ad}{l:Aj}{d f:A (Aj×Ad×Ad)}{b:A L.Y}{y':Yd}{g:Ad->Prop}(h:L.W w n B N l d f b)(a:b[i]?=V p)(t:L.Y.ok w' B N' ⟨p.xb,p.yb,y',g⟩)(m:D.Mv w w' p.F g)(o:N<=N')(r:Z d<=ne)(u:Z f<=nv):L.St w w' n B N' ne nv (Z b) b:=by
 have s:=(Bo.1 a).1;refine⟨⟨l,d,f,_,r,u,Gv,h.move a t m o,fun j q hj k hk=>?_⟩,⟨m.turn.os,m.turn.tape,m.turn.output,m.turn.size,fun k hk hn=>m.turn.block k hk (fun c=>hn ⟨((h.yd i p a).1.lt k c).1,Bf ⟨i,p,a,c⟩⟩)⟩⟩
 grind[List.getElem?_eq_some_iff,List.length_set,List.getElem?_set_self,List.getElem?_set_ne,L.Y,Yd,L.W,L.Y.ok,D.Mv,L.St]
theorem td:∀(l:A Ev) (i:Ad) (e:Ev) (j:Ad),l[i]?=V e->j<3->(evCells l)[i*3+j]?=e.cells[j]?
 |[],i,e,j,h,_=>by cases h
 |a::t,0,e,j,h,hj=>by
  cases h
  show(a.cells++evCells t)[0*3+j]?=_;rw[Cx (by show _<3;omega)];congr 1;omega
 |a::t,i+1,e,j,h,hj=>by
  show(a.cells++evCells t)[(i+1)*3+j]?=_;rw[Cl (by show 3<=_;omega),show(i+1)*3+j-Z a.cells=i*3+j by show _-3=_;omega];exact td t i e j h hj
theorem Pr.evs {c:Yd}(h:Pr w f yb B y1 c F):∃b,w.cell? ⟨yb,4,S⟩=V b/\w.frozen? ⟨yb,4,S⟩=false/\F yb/\(w.setCell ⟨yb,4,S⟩ (X S 0 0)).ownsRow B 44 3 b (Z c.sent) (evCells c.sent):=by
 obtain⟨j,k,vc,b,l,g,a,i,d⟩:=h.ex;exact⟨b,zB a.box,zG a.box,d yb (Ay rfl),zJ a.ev (zF _ _ _ _) (zI a.box a.ev)⟩
theorem lC {u:A L.Y}(h:L.W w wb B N vl es ev u)(hi:u[i]?=V p)(hB:B<=w.heap.size)(aw:Z ev<=100000000)(hN:N<=1000000000):Am prog 40 #[Al (V ⟨wb,0,S⟩),Fe #[Al (V ⟨p.xb,0,S⟩),Al (V ⟨p.yb,0,S⟩)]] w fun e w'=>e=Af (Av true)/\L.St w w' wb B N (Z es) (Z ev+4) (Z u) u:=by
 have gA:=hid (Ac w (Mh0 p.xb p.yb) S);have am:Y ((w.alloc (Mh0 p.xb p.yb)).heap[w.heap.size]?=V (Mh0 p.xb p.yb)):=Bn _ _;have HW:=hid h;obtain⟨ae,aB,aC,aD⟩:=h.yd i p hi;have ai:=hid (zfT (ae.grown gA.o));have C:=hid (Vv aB (Vv aC aD));have HL:=J (ae.lt);have aK:Z p.y.sent<=1000000000:=by omega
 have HI:=hid hi;go_in;go_wp2_with fail;generalize w.alloc (Mh0 p.xb p.yb)=wa at*;go_wp2_with fail;refine ai.o.mono ?_;rintro e w1 ⟨v,rfl,d,az,F1,ab,Q,ad⟩;obtain⟨va,vc,rfl⟩:=zL d;obtain⟨vs,c4,f4,aA,a⟩:=ab.evs;obtain⟨F2,ay,aa⟩:=zkV ab;have al:=hid (Q.turn.keep am.o (fun c=>by have:=(HL.o _ c).2;omega));have m:=hid ((D.Mv.grown gA.o).trans (Q.trans aa));have x:=hid ay;have H:=hid (zJ d (zF w1 p.yb 4 (X S 0 0)) (fun k hk e=>ad k hk (by rw[e];exact aA)));obtain⟨ma,mc,rfl⟩:=zL a;have an:=hid a;have n:=hid az;have ar:Y (∀k,(X va (Z p.y.sent) vc).ownBlock=V k->¬F2 k):=fun k hk c=>by
  rcases aa.foot k c with q|q
  ·exact ad k hk q
  ·have:=(An d k hk).2;omega
 have x1:=cbi 1 al.o;go_wp2_with fail;generalize(w1.setCell ⟨p.yb,4,S⟩ (X S 0 0))=w2 at*;have av:Y (L.W w2 wb B N vl es ev (u.set i ⟨p.xb,p.yb,p.y.told,F2⟩)):=HW.o.move HI.o ⟨x.o,C.o.1,C.o.2.1,Ax _⟩ m.o (Aq _);have aq:=hid m.o.turn;have aE:=J (m.o.foot);have ak:=hid HL.o;have l:=hid HI.o;have ah:Y (∀e∈ev,∀k,e.1.ownBlock=V k->(X va (Z p.y.sent) vc).ownBlock≠V k):=fun e he k hk c=>HW.o.en i p HI.o e (Mh _ he) k hk (n.o k c)
 have E:Y (∀(j:Ad) (q:L.Y),(u.set i ⟨p.xb,p.yb,p.y.told,F2⟩)[j]?=V q->∀k,(X va (Z p.y.sent) vc).ownBlock=V k->¬q.F k):=fun j q f k hk c=>by
  by_cases g:j=i
  ·subst g
   rw[Fm (Bo.1 HI.o).1] at f;cases f;exact ar.o k hk c
  ·rw[Fc (fun e=>g e.symm)] at f
   exact HW.o.ap i j p q (fun e=>g e.symm) HI.o f k (n.o k hk) c
 have au:=hid n.o;obtain⟨af,HY⟩:∃af,Y (af=u.set i ⟨p.xb,p.yb,p.y.told,F2⟩):=⟨_,rfl⟩;rw[<-HY.o] at av E;generalize p.y.sent=ss at*
 go_loopw [7,8] (fun okv iv wr=>okv=Av true/\∃j:Ad,j<=Z ss/\iv=O Ai j/\Y (w2.grownBy wr S)) (fun _ iv _=>Z ss-(intOf iv).toNat)
 ·exact⟨by simp,0,Ax _,rfl,zP _ _⟩
 ·
  obtain⟨rfl,j,g,rfl,z⟩:=hrel
  by_cases aJ:j<Z ss
  ·have aI:(j:Ak)<Z ss:=by omega
   have s:=zK H.o z.o (fun _ _ c=>by cases c);have r2:=zK an.o z.o (fun _ _ c=>by cases c);obtain⟨g1,k1,q1,_,_⟩:=Bm s (by omega);simp only[Au,Fb] at q1;obtain⟨rfl,rfl⟩:=q1;obtain⟨g2,k2,q2,_,_⟩:=Bm r2 (by omega);simp only[Au,Fb] at q2;obtain⟨rfl,rfl⟩:=q2;have b:=Bd aJ;have a0:wr.cell? ⟨g1,j*3,S⟩=V (O Ai (ss[j].conn:Ad)):=(Ap s _ (by omega)).trans (td ss j _ 0 b (by omega));have a1:wr.cell? ⟨g1,j*3+1,S⟩=V (I (Aa ss[j].dst)):=(Ap s _ (by omega)).trans (td ss j _ 1 b (by omega));have a2:wr.cell? ⟨g1,j*3+2,S⟩=V (I (Aa ss[j].data)):=(Ap s _ (by omega)).trans (td ss j _ 2 b (by omega));have b0:wr.cell? ⟨g2,j*3,S⟩=V (O Ai (ss[j].conn:Ad)):=(Ap r2 _ (by omega)).trans (td ss j _ 0 b (by omega));have b1:wr.cell? ⟨g2,j*3+1,S⟩=V (I (Aa ss[j].dst)):=(Ap r2 _ (by omega)).trans (td ss j _ 1 b (by omega));have b2:wr.cell? ⟨g2,j*3+2,S⟩=V (I (Aa ss[j].data)):=(Ap r2 _ (by omega)).trans (td ss j _ 2 b (by omega));generalize ss[j].conn=n0 at*;generalize Aa ss[j].dst=s1 at*;generalize Aa ss[j].data=s2 at*;go_wp2_with fail;go_quiet (fail);go_wp2_with fail;exact⟨⟨rfl,j+1,by omega,by go_num,zD z.o (x3 _ _)⟩,by simp[intOf];omega⟩
  ·have aI:¬(j:Ak)<Z ss:=by omega
   have o:=hid (av.o.keep z.o (Aq _));obtain⟨vb,vk,ve,vm,h1,h2,h3,h4,h5,h6⟩:=o.o.r.ex;have s:=zK H.o z.o (fun _ _ c=>by cases c);have ao:=hid s;have HC:=hid (zb9 va (Z ss) vc _ h1 h4 h5 s (Bi hB (Bi aq.o.size z.o.size)) aw (by omega));have ag:=hid h1;have aj:Y (∀k,wr.heap[k]?=w.heap[k]?->(k=wb\/ve.ownBlock=V k\/vm.ownBlock=V k\/(X va (Z ss) vc).ownBlock=V k)->L.T w B u k):=fun k he hk=>by
    rcases hk with q|q|q|q
    ·exact⟨by rw[q];exact o.o.r.low,Ay ⟨_,_,_,by rw[<-he,q];exact h1,by decide⟩⟩
    ·obtain⟨_,r⟩:=qT h4 k q
     exact⟨(An h4 k q).1,Ay ⟨_,_,_,by rw[<-he];exact r,by decide⟩⟩
    ·obtain⟨_,r⟩:=qT h5 k q
     exact⟨(An h5 k q).1,Ay ⟨_,_,_,by rw[<-he];exact r,by decide⟩⟩
    ·exact⟨(ak.o k (au.o k q)).1,Bf ⟨i,p,l.o,au.o k q⟩⟩
   go_wp2_with fail;refine HC.o.mono ?_;rintro e w4 ⟨rfl,aH,aL,aM,f⟩;have HX:=J (o.o.evs ag.o f ao.o E.o ah.o aK aw);have aG:Y (Turn w w4 (L.T w B u)):=by
    have t:=aq.o.step z.o (fun k hk=>by cases hk);exact⟨f.turn.os.trans t.os,f.turn.tape.trans t.tape,f.turn.output.trans t.output,Bi t.size f.turn.size,fun k hk hn=>by
     have e:=t.block k hk (fun c=>hn ⟨(ak.o k c).1,Bf ⟨i,p,l.o,c⟩⟩);exact(f.turn.block k (Eh hk t.size) (fun c=>hn (aj.o k e c))).trans e⟩
   have aF:=hid f.len;go_wp2;go_ret;refine⟨rfl,⟨vl,es,ev++aH,af,Aq _,by rw[Ah,aF.o];exact Aq _,by rw[HY.o,Gv],HX.o,fun j q g k hk=>?_⟩,aG.o⟩;rw[HY.o] at g
   by_cases ax:j=i
   ·subst ax
    rw[Fm (Bo.1 l.o).1] at g;cases g;exact(aE.o k hk).imp (fun c=>⟨j,p,l.o,c⟩) id
   ·rw[Fc (fun e=>ax e.symm)] at g
    exact Ay ⟨j,q,g,hk⟩
theorem L.R.inv {c g:A (Aj×Ad×Ad)}(h:L.R w f B d c g):∃a b,L.Inv w f B d a b c:=by
 obtain⟨l,m,a,b,i,j,k,n,o,p⟩:=h.ex;exact⟨a,b,⟨l,m,i,j,k⟩,h.all,h.low,fun e he=>h.bd e (Mo _ he)⟩
theorem L.W.packed {d:Ad}{l y:Aj}{g:A (Aj×Ad×Ad)}{m:A L.Y}(h:L.W w d B N l g o m)(H:∃a j f,Z a=4/\w.heap[d]?=V (Mh5 l j f y z)/\L.Inv w' d B l y z (g++a)/\Turn w w' (L.F d j f (X S 0 0))/\L.Fr w' d w.heap.size f a)(he:Z g+4<=ne)(E:Z o<=nv):L.St w w' d B N ne nv (Z m) m:=by
 obtain⟨a,j,f,q1,x,Q,b,q5⟩:=H;obtain⟨p,s,aa,ab,t,u,v,h4,h5,h6⟩:=h.r.ex;have n:=t;rw[x] at n;simp only[Ey,Qj] at n;have C:j=p/\f=s:=by have:=n.1;simp at this;exact⟨this.1,this.2.1⟩
 obtain⟨rfl,rfl⟩:=C;refine⟨⟨l,g++a,o,m,by rw[Ah];omega,E,rfl,h.bytes x Q b q5,fun i q hi k hk=>Ay ⟨i,q,hi,hk⟩⟩,⟨b.os,b.tape,b.output,b.size,fun k hk hn=>b.block k hk (fun c=>hn ?_)⟩⟩;rcases c with c|c|c|c
 ·exact⟨by rw[c];exact h.r.low,Ay ⟨_,_,_,by rw[c];exact t,by decide⟩⟩
 ·obtain⟨_,r⟩:=qT u k c
  exact⟨(An u k c).1,Ay ⟨_,_,_,r,by decide⟩⟩
 ·obtain⟨_,r⟩:=qT v k c
  exact⟨(An v k c).1,Ay ⟨_,_,_,r,by decide⟩⟩
 ·cases c
abbrev Mh2 (a b c d e f g h):=Ae #[O Ai b,O Ai c,O Ai d,O Nr e,I f,X g a h] 80
theorem zeJ {x E:A (Aj×Ad×Ad)}{a:A L.Y}(h:L.W w i B N vl x E a)(k e c n:Ak){s:As}{f:Br Eu}{l:A Ab}(o:L.Arg w s f g l)(hB:B<=w.heap.size)(z:Z x<=100000000)(C:Z x+4<=ne)(p:Z E<=nv)(v:Glob w)(y:GT w):Am prog 59 #[Al (V ⟨i,0,S⟩),Fe #[O Ai k,O Ai e,O Ai c,O Nr n,I s,X f (Z l) g]] w fun e w'=>e=Af (Av true)/\L.St w w' i B N ne nv (Z a) a:=by
 have b:w.grownBy (w.alloc (Mh2 (Z l) k e c n s f g)) S:=Ac _ _ S;have m:Y ((w.alloc (Mh2 (Z l) k e c n s f g)).heap[w.heap.size]?=V (Mh2 (Z l) k e c n s f g)):=Bn _ _;have F:Y (Am prog 14 #[I s] (w.alloc (Mh2 (Z l) k e c n s f g)) fun e w'=>e=Af (Av true)/\L.St w w' i B N ne nv (Z a) a):=(nD s _ o.sz (v.grown b) (y.grown b)).mono fun e w' ⟨q1,q2⟩=>⟨q1,h.still (zD b q2) (Aq _) (by omega) p⟩
 have H:Y (Am prog 56 #[Al (V ⟨i,0,S⟩),I s] (w.alloc (Mh2 (Z l) k e c n s f g)) fun e w'=>e=Af (Av true)/\L.St w w' i B N ne nv (Z a) a):=by
  obtain⟨ve,vm,hI⟩:=(h.keep b (Aq _)).r.inv;exact(rj hI s o.sz (Bi hB b.size) z (v.grown b)).mono fun e w' ⟨q1,q2⟩=>⟨q1,((h.keep b (Aq _)).packed q2 C p).after b⟩
 have Q:Y (Am prog 57 #[X f (Z l) g] (w.alloc (Mh2 (Z l) k e c n s f g)) fun e w'=>e=Af (Av true)/\L.St w w' i B N ne nv (Z a) a):=(gR (o.keep b).rd (o.keep b).bk o.nil o.ln (v.grown b) (y.grown b)).mono fun e w' ⟨q1,q2⟩=>⟨q1,h.still (zD b q2) (Aq _) (by omega) p⟩
 have c0:=cbi 0 m.o;have c4:=cbi 4 m.o;have c5:=cbi 5 m.o;go_in;go_upto_region 2 with fail;generalize w.alloc (Mh2 (Z l) k e c n s f g)=wa at*
 by_cases q:k=1
 ·subst q
  go_wp2_with (go_at_call 14;refine F.o.mono ?_;rintro e u ⟨rfl,j⟩;have d:Y (L.St w u i B N ne nv (Z a) a):=j;clear j);go_ret;exact⟨rfl,d.o⟩
 ·have e1:(k == 1)=false:=by rw[Ch];exact q
  by_cases t:k=2
  ·subst t
   go_wp2_with (go_at_call 56;refine H.o.mono ?_;rintro e u ⟨rfl,j⟩;have d:Y (L.St w u i B N ne nv (Z a) a):=j;clear j);go_ret;exact⟨rfl,d.o⟩
  ·have e2:(k == 2)=false:=by rw[Ch];exact t
   go_wp2_with (go_at_call 57;refine Q.o.mono ?_;rintro e u ⟨rfl,j⟩;have d:Y (L.St w u i B N ne nv (Z a) a):=j;clear j);go_ret;exact⟨rfl,d.o⟩
theorem zkA:(prog.info? 85).map (fun i=>(i.zero,i.size,i.bytes))=V (V (Fe #[Al S,Al S]),2,16):=by kernel_rfl
theorem YInv.newB {k:Ad}(h:YInv w yb B (Al S) [] Yd.new)(c:k<=B):YInv w yb k (Al S) [] Yd.new:=by
 obtain⟨r,vc,s,m,⟨l,b,f,d,p,q,g⟩,n,o⟩:=h.ex;exact⟨⟨r,vc,s,m,⟨l,b,f,d,p,q,fun a ha=>⟨(g a ha).1,Bi c (g a ha).2.1,(g a ha).2.2⟩⟩,zo n c,zo o c⟩,Bi c h.low,rfl,fun i cb e=>by simp at e,fun i e=>by simp at e,fun i j cb cb' _ e=>by simp at e⟩
abbrev Mh1:=Ae #[Av false,X S 0 0,X S 0 0,X S 0 0,X S 0 0] 131
theorem L.W.news {a o:Ag}{p:Ad}{s:Aj}{C E:A (Aj×Ad×Ad)}{d:A L.Y}(h:L.W w m B N s C E d)(hB:B<=w.heap.size)(z:w.heap[m]?=V (Mh5 s vb vk ve vm))(H:w.grownBy a S)(hx:YInv a f w.heap.size (Al S) [] Yd.new)(af:∀k,YF a f [] k->w.heap.size<=k)(q1:o.ownsRow B 85 2 (X (V ⟨p,0,S⟩) (Z d+1) b) (Z d+1) (d.flatMap L.Y.cells++[Al (V ⟨f,0,S⟩),Al (V ⟨a.heap.size,0,S⟩)]))(v:((a.alloc Mh1).alloc (Mh0 f a.heap.size)).grownBy o s.ownBlock):o.heap[m]?=V (Mh5 s vb vk ve vm)/\L.St w (o.setCell ⟨m,0,S⟩ (X (V ⟨p,0,S⟩) (Z d+1) b)) m B N (Z C) (Z E) (Z d+1) d:=by
 have gY:=Ac a Mh1 S;have x:=Ac (a.alloc Mh1) (Mh0 f a.heap.size) S;have Q:=zD H (zD gY x);have ae:=h.keep Q (Aq _);have u:=zE z Q;have n:=zw u v (zI u ae.l);have y:=zF o m 0 (X (V ⟨p,0,S⟩) (Z d+1) b);have b9:=zH (i:=0) n (X (V ⟨p,0,S⟩) (Z d+1) b);have ag:((a.alloc Mh1).alloc (Mh0 f a.heap.size)).heap[a.heap.size]?=V Mh1:=zE (Bn a _) x;obtain⟨d1,d2⟩:=D.YI.new (B:=B) ag (Bi hB H.size);obtain⟨x1,x2⟩:=(hx.newB hB).keep (w':=((a.alloc Mh1).alloc (Mh0 f a.heap.size))) (zD gY x).size (fun k hk=>(zD gY x).block k (hx.lt rfl hk) (by simp));have j:=Pr.of x1 d1 (fun k q e=>by have:=hx.lt rfl (x2 k q);have:=d2 k e;omega);obtain⟨F,hF⟩:∃F:Ad->Prop,F=fun k=>YF ((a.alloc Mh1).alloc (Mh0 f a.heap.size)) f [] k\/D.YF a.heap.size (X S 0 0) (X S 0 0) (X S 0 0) [] Yd.new.conns k:=⟨_,rfl⟩
 rw[<-hF] at j;have g:∀k,F k->w.heap.size<=k:=fun k hk=>by
  rw[hF] at hk;rcases hk with c|c
  ·exact af k (x2 k c)
  ·rw[d2 k c];exact H.size
 have ah:=zO z;have ad:∀k,s.ownBlock=V k->k<w.heap.size:=fun k hk=>(An h.l k hk).2
 have ab:Pr (o.setCell ⟨m,0,S⟩ (X (V ⟨p,0,S⟩) (Z d+1) b)) f a.heap.size B Yd.new Yd.new F:=j.keep (Bi v.size y.size) (fun k hk=>(y.block k (Eh (j.lt k hk).2 v.size) (fun e=>by have:=g k hk;have:=Bc e;omega)).trans (v.block k (j.lt k hk).2 (fun e=>by have:=g k hk;have:=ad k e.symm;omega)));have t:Turn w (o.setCell ⟨m,0,S⟩ (X (V ⟨p,0,S⟩) (Z d+1) b)) (fun k=>k=m\/s.ownBlock=V k):=(((Turn.refl w _).step Q (fun k hk=>by cases hk)).step v (fun k hk=>Ay (Bf hk))).step y (fun k hk=>Ay (Ay (Bc hk).symm));refine⟨n,⟨_,C,E,d++[⟨f,a.heap.size,Yd.new,F⟩],Aq _,Aq _,by rw[Ah];rfl,h.more z b9 (zJ q1 y (zI n q1)) t ⟨ab,YOk.new,Ax _,Ax _⟩ g,fun i q hi k hk=>?_⟩,⟨t.os,t.tape,t.output,t.size,fun k hk hn=>t.block k hk (fun c=>hn ?_)⟩⟩
 ·by_cases aa:i<Z d
  ·rw[Cx aa] at hi;exact Ay ⟨i,q,hi,hk⟩
  ·rw[Cl (by omega)] at hi
   have e:q=⟨f,a.heap.size,Yd.new,F⟩:=by simpa using Xt hi
   rw[e] at hk;exact Bf (g k hk)
 ·rcases c with c|c
  ·exact⟨by rw[c];exact h.r.low,Ay ⟨_,_,_,by rw[c];exact z,by decide⟩⟩
  ·obtain⟨_,r⟩:=qT h.l k c
   exact⟨(An h.l k c).1,Ay ⟨_,_,_,r,by decide⟩⟩
abbrev Mh3 (a b c d e f g):=Ae #[O Ai 4,O Ai b,O Ai c,O Nr d,I e,X f a g] 80
theorem zhM {i:A L.Y}(h:L.W w wb B N vl es ev i)(e c n:Ak){s:As}{f:Br Eu}{l:A Ab}(hB:B<=w.heap.size)(aj:Z i<=100000000):Am prog 38 #[Al (V ⟨wb,0,S⟩),Fe #[O Ai 4,O Ai e,O Ai c,O Nr n,I s,X f (Z l) g]] w fun e w'=>e=Af (Av true)/\L.St w w' wb B N (Z es) (Z ev) (Z i+1) i:=by
 have gA:=hid (Ac w (Mh3 (Z l) e c n s f g) S);have H:Y ((w.alloc (Mh3 (Z l) e c n s f g)).heap[w.heap.size]?=V (Mh3 (Z l) e c n s f g)):=Bn _ _;have t:=hid (h.keep gA.o (Aq _));have c0:=cbi 0 H.o;have ah:=gA.o.size;have HN:=hid (zkL (w.alloc (Mh3 (Z l) e c n s f g)));obtain⟨i0,hi,ad,ae,af⟩:=info_parts zkA;go_in;go_upto_region 1 with fail;generalize w.alloc (Mh3 (Z l) e c n s f g)=wa at*;go_wp2_with fail;refine HN.o.mono ?_;rintro e a ⟨xb,rfl,ag,hx,x,E⟩;subst ag;have F:=hid (Vv hx (Vv x E));obtain⟨vb,vk,ve,vm,b1,_⟩:=t.o.r.ex;have o:=hid b1;have m:=hid (zE b1 x);obtain⟨la,lk,rfl⟩:=zL t.o.l;have p:=hid (zK t.o.l (zD x (zD (Ac a Mh1 S) (Ac (a.alloc Mh1) (Mh0 wa.heap.size a.heap.size) S))) (fun _ _ c=>by cases c));have k0:=cbi 0 m.o;have q:Y (∀j u,([Al (V ⟨wa.heap.size,0,S⟩),Al (V ⟨a.heap.size,0,S⟩)]:A Aj)[j]?=V u->((a.alloc Mh1).alloc (Mh0 wa.heap.size a.heap.size)).cell? ((⟨a.heap.size+1,0,S⟩:Eu).add j)=V u):=zZ (a.alloc Mh1) #[_,_] _ _;have k:Y (∀u∈([Al (V ⟨wa.heap.size,0,S⟩),Al (V ⟨a.heap.size,0,S⟩)]:A Aj),u.oneCell'=true):=fun u hu=>by simp at hu;rcases hu with rfl|rfl <;> rfl
 have aa:Y (Z i+1<=Bh):=by show _<=_;unfold Bh;omega
 have ab:Y ((Z i+1)*16<=140737488355328):=by show _<=_;omega
 have v:Y (((a.alloc Mh1).alloc (Mh0 wa.heap.size a.heap.size)).heap.size=a.heap.size+1+1):=by show _=_;simp
 have ak:=x.size;have Q:Y (B<=((a.alloc Mh1).alloc (Mh0 wa.heap.size a.heap.size)).heap.size):=by show _<=_;rw[v.o];omega
 go_wp2_with (at_builtin;refine wpList_append_lies _ rfl _ _ 73 rfl B 85 i0 _ 2 16 underlying73 hi ad ae af rfl (by decide) _ _ _ rfl p.o ⟨a.heap.size+1,0,S⟩ 1 1 [Al (V ⟨wa.heap.size,0,S⟩),Al (V ⟨a.heap.size,0,S⟩)] rfl rfl q.o k.o (by decide) aa.o ab.o Q.o (a.heap.size+1+1) v.o ?_);intro g9 ai w9 d b y z;obtain⟨y9,C⟩:=t.o.news (Bi hB ah) o.o F.o.2.1 F.o.1 F.o.2.2 d b;have q0:=cbi 0 y9;have f0:=zm9 0 y9;have HS:=hid (C.after gA.o);go_wp2;go_ret;exact⟨rfl,HS.o⟩
theorem bf:∀(b:A L.Y) (i:Ad) (p:L.Y) (j:Ad),b[i]?=V p->j<2->(b.flatMap L.Y.cells)[i*2+j]?=p.cells[j]?
 |[],i,p,j,h,_=>by cases h
 |a::t,0,p,j,h,hj=>by
  cases h
  show(a.cells++t.flatMap L.Y.cells)[0*2+j]?=_;rw[Cx (by show _<2;omega)];congr 1;omega
 |a::t,i+1,p,j,h,hj=>by
  show(a.cells++t.flatMap L.Y.cells)[(i+1)*2+j]?=_;rw[Cl (by show 2<=_;omega),show(i+1)*2+j-Z a.cells=i*2+j by show _-2=_;omega];exact bf t i p j h hj
theorem zhY {y:Yd}(h:YOk y)(d:Z y.conns<=64):YOk y.op.1/\(Z y.op.1.conns)<=64/\y.op.1.sent=y.sent:=by
 unfold Yd.op
 split
 ·exact⟨h,d,rfl⟩
 ·refine⟨fun m c a=>?_,?_,rfl⟩
  ·have a:(y.conns++[V (Cn.hd xf)])[m]?=V (V c):=a
   by_cases b:m<Z y.conns
   ·rw[Cx b] at a;exact h m c a
   ·rw[Cl (by omega)] at a
    have e:V c=V (Cn.hd xf):=by simpa using Xt a
    cases e;exact HOk.zero
  ·show(Z (y.conns++[V (Cn.hd xf)]))<=64
   rw[Ah];simp;omega
theorem ziY {y:Yd}(h:YOk y)(m:Ad)(c:Ab):YOk (y.step0 m c)/\(Z (y.step0 m c).conns)=Z y.conns/\(Z (y.step0 m c).sent)<=Z y.sent+1:=by
 unfold Yd.step0
 split
 ·rename_i ho
  obtain⟨b,a⟩:=dS ho;refine⟨h.take0 m c,?_,bG y m c⟩;rw[bF y m b c a];show(Z (y.conns.set m _))=_;rw[Gv]
 ·exact⟨h,rfl,Fv _ _⟩
theorem zjZ {y:Yd}(h:YOk y)(m:Ad)(l:A Ab):YOk (y.fed0 m l)/\(Z (y.fed0 m l).conns)=Z y.conns/\(Z (y.fed0 m l).sent)<=Z y.sent+Z l:=by
 induction l generalizing y with
 |nil=>exact⟨h,rfl,Aq _⟩
 |cons c l ih=>
  obtain⟨a,b,i⟩:=ziY h m c;obtain⟨d,f,g⟩:=ih a;exact⟨d,f.trans b,by show _<=_+(Z l+1);exact Bi g (by omega)⟩
theorem zh9 {y:Yd}(h:YOk y)(d:Z y.conns<=64)(c:Ak)(l:A Ab):YOk (y.fd c l).1/\(Z (y.fd c l).1.conns)<=64/\(Z (y.fd c l).1.sent)<=Z y.sent+Z l:=by
 unfold Yd.fd
 split
 ·obtain⟨a,f,b⟩:=zjZ h (c-1).toNat l
  exact⟨a,by show(Z (y.fed0 _ l).conns)<=64;omega,b⟩
 ·exact⟨h,d,Fv _ _⟩
theorem zh3 {y:Yd}(h:YOk y)(b:Z y.conns<=64)(c:Ak):YOk (y.cl c).1/\(Z (y.cl c).1.conns)<=64/\(y.cl c).1.sent=y.sent:=by
 unfold Yd.cl
 split
 ·refine⟨fun m c0 a=>?_,by show(Z (y.conns.set _ S))<=64;rw[Gv];exact b,rfl⟩
  have a:(y.conns.set (c-1).toNat S)[m]?=V (V c0):=a;rw[Xc] at a
  split at a
  ·split at a <;> cases a
  ·exact h m c0 a
 ·exact⟨h,b,rfl⟩
theorem L.St.wide {c:Ad}{d:A L.Y}(h:L.St w w' c B N ne nv b d)(n:N<=N'):L.St w w' c B N' ne nv b d:=by
 obtain⟨o,f,g,a,i,j,k,l,m⟩:=h.ex;exact⟨⟨o,f,g,a,i,j,k,l.keep (zP _ S) n,m⟩,h.turn⟩
abbrev Mh4:=Ae #[Al S,Al S] 85
abbrev Mh6 (a):=Al (V ⟨a,0,S⟩)
theorem zeI {b:A L.Y}(h:L.W w wb B N vl es ev b)(k e c n:Ak)(aA:k≠1)(aB:k≠2)(aC:k≠3)(aD:k≠4)(aK:k<=8)(he:-9223372036854775808<=e/\e<9223372036854775808){s:As}{sa:Br Eu}{l:A Ab}(ha:L.Arg w s sa sc l)(aj:l≠[]->∀g o,sa=V ⟨g,o,S⟩->∀(i:Ad) (p:L.Y),b[i]?=V p->¬p.F g)(aE:Z l<=2000000)(hB:B<=w.heap.size)(aM:Z b<=100000000)(az:Z ev<=100000000)(hN:N<=10000000)(hG:Glob w)(hE:GE w)(ay:0<B/\Tryz.laysC172_ren.g 15<B):Am prog 38 #[Al (V ⟨wb,0,S⟩),Fe #[O Ai k,O Ai e,O Ai c,O Nr n,I s,X sa (Z l) sc]] w fun e w'=>e=Af (Av true)/\L.St w w' wb B (N+Z l) (Z es) (Z ev+4) (Z b) b:=by
 have gA:=hid (Ac w (Mh2 (Z l) k e c n s sa sc) S);have x:Y ((w.alloc (Mh2 (Z l) k e c n s sa sc)).heap[w.heap.size]?=V (Mh2 (Z l) k e c n s sa sc)):=Bn _ _;have HW:=hid (h.keep gA.o (Aq _));have c0:=cbi 0 x.o;have c1:=cbi 1 x.o;have b1:(k == 1)=false:=by rw[Ch];exact aA
 have b2:(k == 2)=false:=by rw[Ch];exact aB
 have b3:(k == 3)=false:=by rw[Ch];exact aC
 have b4:(k == 4)=false:=by rw[Ch];exact aD
 have aw:=hid (h.still (N':=N+Z l) (ne:=Z es) (nv:=Z ev+4) gA.o (Fv _ _) (Aq _) (Fv _ _));obtain⟨la,lk,rfl⟩:=zL h.l;have k0:(w.alloc (Mh2 (Z l) k e c n s sa sc)).cell? ⟨wb,0,S⟩=V (X la (Z b) lk):=by
  obtain⟨_,_,_,_,q,_⟩:=HW.o.r.ex;exact zB q
 have v:=hid ha;have av:=hid aj;have HG:=hid (hG.grown gA.o);have HE:=hid (hE.grown gA.o);go_in;go_upto_region 1 with fail;generalize w.alloc (Mh2 (Z l) k e c n s sa sc)=wa at*
 by_cases aF:Z b=0
 ·rw[aF] at k0
  go_wp2;go_ret;exact⟨rfl,aw.o⟩
 ·have aL:((Z b:Ak) == 0)=false:=by rw[Ch];omega
  obtain⟨gl,gk,e1,_,_⟩:=Bm HW.o.l (by omega);simp only[Au,Fb] at e1;obtain⟨rfl,rfl⟩:=e1;have ah:=hid (fun W=>lB e (Z b) W he.1 he.2 (by omega));have af:Y (∀j,j<Z b->∃p,b[j]?=V p/\wa.cell? ⟨gl,j*2,S⟩=V (Mh6 p.xb)/\wa.cell? ⟨gl,j*2+1,S⟩=V (Mh6 p.yb)):=fun j hj=>⟨b[j],Bd hj,(Ap HW.o.l _ (by omega)).trans (bf b j _ 0 (Bd hj) (by omega)),(Ap HW.o.l _ (by omega)).trans (bf b j _ 1 (Bd hj) (by omega))⟩
  have gZ:=hid (Ac wa Mh4 S);have aG:=gZ.o.cell k0 (by simp);have ax:=gZ.o.cell c1 (by simp);have ad:Y ((wa.alloc Mh4).heap[wa.heap.size]?=V Mh4):=Bn _ _;have z0:=cbi 0 ad.o;have y0:=zm9 0 ad.o;go_upto_region 14 with fail
  go_cut [6] (fun gv wz=>∃(gp j:Ad) (p:L.Y),gv=Al (V ⟨gp,0,S⟩)/\Y (b[j]?=V p)/\Y (wz.heap[gp]?=V (Mh0 p.xb p.yb))/\Y (wa.grownBy wz S))
  ·
   go_region_law (go_simp;go_at_call 60;refine(ah.o _).mono ?_;rintro e w' ⟨⟨j,hj,rfl⟩,rfl⟩;obtain⟨p,hp,p0,p1⟩:=af.o j hj;have HP:=hid hp;have aN:(wa.alloc Mh4).cell? ⟨gl,j*2,S⟩=V (Mh6 p.xb):=gZ.o.cell p0 (by simp);have aO:(wa.alloc Mh4).cell? ⟨gl,j*2+1,S⟩=V (Mh6 p.yb):=gZ.o.cell p1 (by simp);have aJ:(j:Ak)<Z b:=by omega)
   all_goals
    go_wp2_with fail
    go_meet
    ·exact⟨wa.heap.size,j,p,rfl,HP,zE (Bn wa (Mh0 p.xb p.yb)) (zV _),zD (Ac _ _ S) (zV _)⟩
  ·
   obtain⟨gp,j,p,rfl,HP,C,GZ⟩:=hcut;generalize wc=wz at*;have d:=hid (HW.o.keep GZ.o (Aq _));have GT:=hid (zD gA.o GZ.o);have z:=hid (zE x.o GZ.o);have t0:=cbi 0 z.o;have t2:=cbi 2 z.o;have t5:=cbi 5 z.o;have u0:=cbi 0 C.o;have u1:=cbi 1 C.o;obtain⟨ap,aq,ar,au⟩:=d.o.yd j p HP.o;have a:=hid (Vv ap (Vv aq (Vv ar au)));have aa:=Bi hB GT.o.size;have HN:Y (∀n W,Am prog 36 #[O Ai n] W fun e w'=>e=Af (O Ai n)/\w'=W):=fun n W=>tD n W
   have ae:Y (¬p.F gp/\¬p.F w.heap.size):=⟨fun q=>vK (d.o.yd j p HP.o).tys C.o (by decide) q,fun q=>vK (d.o.yd j p HP.o).tys z.o (by decide) q⟩
   by_cases ak:k=5
   ·subst ak
    have HO:=hid (zkS a.o.1 aa a.o.2.2.1);go_wp2_with fail;refine HO.o.mono ?_;rintro e w1 ⟨rfl,F1,Q,f⟩;have ab:=hid f;have E:=hid (zkU Q (Bi aa f.turn.size) a.o.2.2.1);have u1:=cbi 1 (f.turn.keep C.o ae.o.1);generalize H:p.y.op=op at*;have u:=hid H;go_wp2_with fail;refine E.o.mono ?_;rintro e w2 ⟨rfl,F2,t,m⟩;have HX:Y (L.St w w2 wb B (N+Z l) (Z es) (Z ev+4) (Z b) b):=(d.o.moved (y':=op.1) HP.o ⟨t,by rw[<-u.o];exact(zhY a.o.2.1 a.o.2.2.1).1,by rw[<-u.o];exact(zhY a.o.2.1 a.o.2.2.1).2.1,by rw[<-u.o];show(Z (p.y.op.1).sent)<=_;rw[(zhY a.o.2.1 a.o.2.2.1).2.2];exact Bi a.o.2.2.2 (Fv _ _)⟩ (ab.o.trans m) (Fv _ _) (Aq _) (Fv _ _)).after GT.o;go_wp2_with (go_at_call 36;refine(HN.o _ _).mono ?_;rintro e w' ⟨rfl,rfl⟩);go_ret;exact⟨rfl,HX.o⟩
   ·have b5:(k == 5)=false:=by rw[Ch];exact ak
    by_cases al:k=6
    ·subst al
     have HA:=hid (v.o.keep GT.o);have ag:=hid (zeH a.o.1 a.o.2.1 a.o.2.2.1 (Bi a.o.2.2.2 hN) c HA.o.rd (fun h0 g o e=>av.o h0 g o e j p HP.o) v.o.nil aE aa (HG.o.grown GZ.o) (HE.o.grown GZ.o) ay);go_wp2_with fail;refine ag.o.mono ?_;rintro e w2 ⟨rfl,F2,t,m⟩;have HX:Y (L.St w w2 wb B (N+Z l) (Z es) (Z ev+4) (Z b) b):=(d.o.moved (y':=(p.y.fd c l).1) HP.o ⟨t,(zh9 a.o.2.1 a.o.2.2.1 c l).1,(zh9 a.o.2.1 a.o.2.2.1 c l).2.1,Bi (zh9 a.o.2.1 a.o.2.2.1 c l).2.2 (Nat.add_le_add_right a.o.2.2.2 _)⟩ m (Fv _ _) (Aq _) (Fv _ _)).after GT.o;go_wp2;go_ret;exact⟨rfl,HX.o⟩
    ·have b6:(k == 6)=false:=by rw[Ch];exact al
     by_cases am:k=7
     ·subst am
      have HO:=hid (ziF a.o.1 a.o.2.2.1 c);go_wp2_with fail;refine HO.o.mono ?_;rintro e w1 ⟨rfl,F1,Q,f⟩;have ab:=hid f;have E:=hid (ziG Q a.o.2.2.1 c);have u1:=cbi 1 (f.turn.keep C.o ae.o.1);have t2:=cbi 2 (f.turn.keep z.o ae.o.2);generalize H:p.y.cl c=op at*;have u:=hid H;go_wp2_with fail;refine E.o.mono ?_;rintro e w2 ⟨rfl,F2,t,m⟩;have HX:Y (L.St w w2 wb B (N+Z l) (Z es) (Z ev+4) (Z b) b):=(d.o.moved (y':=op.1) HP.o ⟨t,by rw[<-u.o];exact(zh3 a.o.2.1 a.o.2.2.1 c).1,by rw[<-u.o];exact(zh3 a.o.2.1 a.o.2.2.1 c).2.1,by rw[<-u.o];show(Z ((p.y.cl c).1).sent)<=_;rw[(zh3 a.o.2.1 a.o.2.2.1 c).2.2];exact Bi a.o.2.2.2 (Fv _ _)⟩ (ab.o.trans m) (Fv _ _) (Aq _) (Fv _ _)).after GT.o;go_wp2_with (go_at_call 36;refine(HN.o _ _).mono ?_;rintro e w' ⟨rfl,rfl⟩);go_ret;exact⟨rfl,HX.o⟩
     ·have b7:(k == 7)=false:=by rw[Ch];exact am
      by_cases an:k=8
      ·subst an
       have ai:=hid (lC d.o HP.o aa az (by omega));go_wp2_with fail;refine ai.o.mono ?_;rintro e w2 ⟨rfl,ao⟩;have HX:Y (L.St w w2 wb B (N+Z l) (Z es) (Z ev+4) (Z b) b):=(ao.wide (Fv _ _)).after GT.o;go_wp2;go_ret;exact⟨rfl,HX.o⟩
      ·have b8:(k == 8)=false:=by rw[Ch];exact an
       have b9:(k == 9)=false:=by rw[Ch];omega
       have aH:(k == 10)=false:=by rw[Ch];omega
       have aI:(k == 11)=false:=by rw[Ch];omega
       have HX:Y (L.St w wz wb B (N+Z l) (Z es) (Z ev+4) (Z b) b):=(d.o.still (zP _ S) (Fv _ _) (Aq _) (Fv _ _)).after GT.o;go_wp2;go_ret;exact⟨rfl,HX.o⟩
def L.ny (k:Ak)(n:Ad):Ad:=if k=4 then n+1 else n
theorem L.St.widen {d c a:Ad}{f:A L.Y}(h:L.St w w' d B N ne nv c f)(g:N<=N')(q:ne<=a)(r:nv<=b):L.St w w' d B N' a b c f:=by
 obtain⟨s,j,k,i,l,m,n,o,p⟩:=(h.wide g).ex
 grind[Nat.le_trans,L.Y,L.St]
theorem zbB {C:Aj}{q:A (Aj×Ad×Ad)}{m:A L.Y}(h:L.W w j B N C o q m)(k e c n:Ak)(z:k=1\/k=2\/k=3){s:As}{f:Br Eu}{l:A Ab}(v:L.Arg w s f g l)(y:B<=w.heap.size)(r:Z o<=100000000)(t:Glob w)(u:GT w):Am prog 38 #[Al (V ⟨j,0,S⟩),Fe #[O Ai k,O Ai e,O Ai c,O Nr n,I s,X f (Z l) g]] w fun e w'=>e=Af (Av true)/\L.St w w' j B N (Z o+4) (Z q) (Z m) m:=by
 have i:w.grownBy (w.alloc (Mh2 (Z l) k e c n s f g)) S:=Ac _ _ S;have a:Y ((w.alloc (Mh2 (Z l) k e c n s f g)).heap[w.heap.size]?=V (Mh2 (Z l) k e c n s f g)):=Bn _ _;have p:Y (Am prog 59 #[Al (V ⟨j,0,S⟩),Fe #[O Ai k,O Ai e,O Ai c,O Nr n,I s,X f (Z l) g]] (w.alloc (Mh2 (Z l) k e c n s f g)) fun e w'=>e=Af (Av true)/\L.St w w' j B N (Z o+4) (Z q) (Z m) m):=(zeJ (h.keep i (Aq _)) k e c n (v.keep i) (Bi y i.size) r (Aq _) (Aq _) (t.grown i) (u.grown i)).mono fun e w' ⟨q1,q2⟩=>⟨q1,q2.after i⟩
 have E:=cbi 0 a.o;have F:=cbi 1 a.o;have H:=cbi 2 a.o;have Q:=cbi 3 a.o;have c4:=cbi 4 a.o;have c5:=cbi 5 a.o;go_in;go_upto_region 2 with fail;generalize w.alloc (Mh2 (Z l) k e c n s f g)=wa at*;rcases z with rfl|rfl|rfl
 ·go_wp2_with (go_at_call 59;refine p.o.mono ?_;rintro e x ⟨rfl,d⟩;have b:=hid d;clear d)
  go_ret;exact⟨rfl,b.o⟩
 ·go_wp2_with (go_at_call 59;refine p.o.mono ?_;rintro e x ⟨rfl,d⟩;have b:=hid d;clear d)
  go_ret;exact⟨rfl,b.o⟩
 ·go_wp2_with (go_at_call 59;refine p.o.mono ?_;rintro e x ⟨rfl,d⟩;have b:=hid d;clear d)
  go_ret;exact⟨rfl,b.o⟩
theorem rn {f j:A (Aj×Ad×Ad)}{b:A L.Y}(h:L.W w E B N vl f j b)(k e c n:Ak)(y:k<=8)(he:-9223372036854775808<=e/\e<9223372036854775808){s:As}{C:Br Eu}{l:A Ab}(Q:L.Arg w s C sc l)(u:l≠[]->∀g o,C=V ⟨g,o,S⟩->∀(i:Ad) (p:L.Y),b[i]?=V p->¬p.F g)(z:Z l<=2000000)(r:B<=w.heap.size)(a:Z b<=100000000)(v:Z f<=100000000)(x:Z j<=100000000)(hN:N<=10000000)(H:Glob w)(hT:GT w)(hE:GE w)(t:0<B/\Tryz.laysC172_ren.g 15<B):Am prog 38 #[Al (V ⟨E,0,S⟩),Fe #[O Ai k,O Ai e,O Ai c,O Nr n,I s,X C (Z l) sc]] w fun e w'=>e=Af (Av true)/\L.St w w' E B (N+Z l) (Z f+4) (Z j+4) (L.ny k (Z b)) b:=by
 unfold L.ny
 by_cases m:k=4
 ·subst m
  rw[Az rfl];exact(zhM h e c n r a).mono fun e w' ⟨q1,q2⟩=>⟨q1,q2.widen (Fv _ _) (Fv _ _) (Fv _ _)⟩
 ·rw[Aw m]
  by_cases d:k=1\/k=2\/k=3
  ·exact(zbB h k e c n d Q r v H hT).mono fun e w' ⟨q1,q2⟩=>⟨q1,q2.widen (Fv _ _) (Aq _) (Fv _ _)⟩
  ·exact(zeI h k e c n (fun q=>d (Ay q)) (fun q=>d (Bf (Ay q))) (fun q=>d (Bf (Bf q))) m y he Q u z r a x hN H hE t).mono fun e w' ⟨q1,q2⟩=>⟨q1,q2.widen (Aq _) (Fv _ _) (Aq _)⟩
theorem L.St.grown {c:Ad}{d:A L.Y}(h:L.St w w' c B N ne nv b d)(g:w0.grownBy w S)(a:w0.heap.size<=B):w0.grownBy w' S:=h.turn.grown g (fun _ hk=>Bi a hk.1)
def Bg.get:A Ab:=[71,69,84,32,47,120,121,63,113,32,72,84,84,80,47,49,46,49,13,10,72,111,115,116,58,32,97,46,66,58,56,48,13,10,13,10]
def Bg.k (i:Ad):Ak:=[4,5,6,8,10,11,6,8].getD i 0
def Bg.c (i:Ad):Ak:=[0,0,1,0,0,0,1,0].getD i 0
def Bg.n (i:Ad):Ad:=[0,0,0,0,0,4,0,0].getD i 0
def Bg.first:As:=⟨#[104,111,115,116,32,34,65,46,98,34,123,114,117,108,101,32,55,123,112,97,116,104,34,47,120,34,59,116,111,34,117,34,49,44,34,118,34,50,59,114,101,112,108,97,99,101,34,47,34,59,125,114,117,108,101,32,57,123,112,97,116,104,34,47,34,59,116,111,34,117,34,49,44,34,118,34,48,59,125,125]⟩
def Bg.s (i:Ad):As:=if i=4 then Bg.first else ⟨#[]⟩
def Bg.l (i:Ad):A Ab:=if i=2\/i=6 then Bg.get else []
def Bg.a (h:Ad)(i:Ad):Br Eu:=if i=2 then V ⟨h,0,S⟩ else if i=6 then V ⟨h+1,0,S⟩ else S
def Bg.y (i:Ad):Ad:=if i=0 then 0 else 1
def zgK (h i:Ad):A Aj:=[O Ai (Bg.k i),O Ai 0,O Ai (Bg.c i),O Nr (Bg.n i),I (Bg.s i),X (Bg.a h i) (Z (Bg.l i)) (Z (Bg.l i))]
def zgJ (h:Ad):A Aj:=(List.range 8).flatMap (zgK h)
theorem zm4 (h i j:Ad)(c:i<8)(d:j<6):(zgJ h)[i*6+j]?=(zgK h i)[j]?:=by
 have a:i=0\/i=1\/i=2\/i=3\/i=4\/i=5\/i=6\/i=7:=by omega
 have b:j=0\/j=1\/j=2\/j=3\/j=4\/j=5:=by omega
 rcases a with rfl|rfl|rfl|rfl|rfl|rfl|rfl|rfl <;> rcases b with rfl|rfl|rfl|rfl|rfl|rfl <;> rfl
abbrev eX:Fh Aj:=#[O Bp 71,O Bp 69,O Bp 84,O Bp 32,O Bp 47,O Bp 120,O Bp 121,O Bp 63,O Bp 113,O Bp 32,O Bp 72,O Bp 84,O Bp 84,O Bp 80,O Bp 47,O Bp 49,O Bp 46,O Bp 49,O Bp 13,O Bp 10,O Bp 72,O Bp 111,O Bp 115,O Bp 116,O Bp 58,O Bp 32,O Bp 97,O Bp 46,O Bp 66,O Bp 58,O Bp 56,O Bp 48,O Bp 13,O Bp 10,O Bp 13,O Bp 10]
abbrev jh:Obj:=.cells eX 5 (36,37)
structure Bg.I (w0 wr:Ag) (wb B h gs i:Ad):Prop where
 gr:w0.grownBy wr S
 ge:gs=h+2
 st:wr.heap[gs]?=V (Ae (zgJ h).toArray 80 (0,0))
 b1:wr.heap[h]?=V (Ae (Ba Bg.get).toArray 5 (36,37))
 b2:wr.heap[h+1]?=V (Ae (Ba Bg.get).toArray 5 (36,37))
 ex:∃vl es ev ys,Z es<=4+4*i/\(Z ev)<=4*i/\(Z ys)=Bg.y i/\L.W wr wb B (36*i) vl es ev ys/\∀(j:Ad) (p:L.Y),ys[j]?=V p->∀k,p.F k->h+2<k
theorem Bg.I.arg {r n:Ad}(q:Bg.I w0 wr r B h n i)(t:i<8):L.Arg wr (Bg.s i) (Bg.a h i) (Z (Bg.l i)) (Bg.l i):=by
 have f:∀g,wr.heap[g]?=V (Ae (Ba Bg.get).toArray 5 (36,37))->RdO wr (X (V ⟨g,0,S⟩) (Z Bg.get) (Z Bg.get)) Bg.get:=fun g hg=>Bf ⟨g,0,Z Bg.get,rfl,Aq _,zO hg,fun j u hu=>by
  rw[Gr,zB hg,Fo];unfold Ba;rw[Fq,hu];rfl⟩
 have p:∀(c:Ad),RdO wr (X S 0 c) []:=fun c=>Ay ⟨S,c,rfl,rfl⟩
 have d:i=2\/i=6\/(i≠2/\i≠6):=by omega
 have b:(Bg.s i).size<=Bh:=by
  unfold Bg.s;split
  ·exact Bi (show Bg.first.size<=1000 by decide) (by decide)
  ·exact Ax _
 rcases d with rfl|rfl|⟨h2,h6⟩
 ·exact⟨b,f h q.b1,fun _ g o e=>by cases e;exact zO q.b1,(fun e=>by cases e),by decide⟩
 ·exact⟨b,f (h+1) q.b2,fun _ g o e=>by cases e;exact zO q.b2,(fun e=>by cases e),by decide⟩
 ·have k:Bg.l i=[]:=by unfold Bg.l;rw[Aw (by omega)]
  have m:Bg.a h i=S:=by unfold Bg.a;rw[Aw h2,Aw h6]
  rw[k,m];exact⟨b,p _,(fun h=>absurd rfl h),(fun _=>rfl),Ax _⟩
theorem Bg.I.step {l n:Ad}(q:Bg.I w0 wr l B h n i)(hi:i<8)(a:Bg.k i<=8)(w:w0.heap.size<=B){b:A L.Y}(E:ne<=4+4*(i+1))(H:nv<=4*(i+1))(z:N<=36*(i+1))(Q:Z b=Bg.y i)(x:∀(j:Ad) (p:L.Y),b[j]?=V p->∀k,p.F k->h+2<k)(s:L.St wr w' l B N ne nv (L.ny (Bg.k i) (Z b)) b):Bg.I w0 w' l B h n (i+1):=by
 obtain⟨vl,o,r,m,h1,h2,u,v,h5⟩:=s.ex;have d:∀{k:Ad} {cs:Fh Aj} {t:Cs} {f:Ad×Ad},wr.heap[k]?=V (Ae cs t f)->t ∉ lawTypes->k<=h+2->w'.heap[k]?=V (Ae cs t f):=fun {k cs t f} a ht hl=>s.turn.keep a (fun c=>by
  rcases c.2 with ⟨c2,t2,f2,e1,e2⟩|⟨j,p,e1,e2⟩
  ·rw[a] at e1;simp at e1
   exact ht (by rw[e1.2.1];exact e2)
  ·have:=x j p e1 k e2;omega)
 have C:=q.ge;have hz:=zO q.st;refine⟨s.grown q.gr w,C,d q.st (by decide) (by omega),d q.b1 (by decide) (by omega),d q.b2 (by decide) (by omega),vl,o,r,m,by omega,by omega,?_,v.keep (zP _ S) z,fun j p hj k a=>?_⟩
 ·rw[u,Q]
  have g:i=0\/i=1\/i=2\/i=3\/i=4\/i=5\/i=6\/i=7:=by omega
  rcases g with rfl|rfl|rfl|rfl|rfl|rfl|rfl|rfl <;> first|rfl|(exact absurd a (by decide))
 grind[lawTypes,zO,zP,Bg.I,Bg.k,L.Y,Bg.y,L.St,L.ny]
theorem Bg.I.skip {c:Ad}(q:Bg.I w0 wr c B h b i)(s:i<8)(m:¬Bg.k i<=8):Bg.I w0 wr c B h b (i+1):=by
 obtain⟨n,d,f,o,p,r,g,j,l⟩:=q.ex;refine⟨q.gr,q.ge,q.st,q.b1,q.b2,n,d,f,o,by omega,by omega,?_,j.keep (zP _ S) (by omega),l⟩;rw[g];have a:i=0\/i=1\/i=2\/i=3\/i=4\/i=5\/i=6\/i=7:=by omega
 rcases a with rfl|rfl|rfl|rfl|rfl|rfl|rfl|rfl <;> first|rfl|(exact absurd (by decide) m)
abbrev zcL (h:Ad):Obj:=.cells #[O Ai 4,O Ai 0,O Ai 0,O Nr 0,I ⟨#[]⟩,X S 0 0,O Ai 5,O Ai 0,O Ai 0,O Nr 0,I ⟨#[]⟩,X S 0 0,O Ai 6,O Ai 0,O Ai 1,O Nr 0,I ⟨#[]⟩,X (V ⟨h,0,S⟩) 36 36,O Ai 8,O Ai 0,O Ai 0,O Nr 0,I ⟨#[]⟩,X S 0 0,O Ai 10,O Ai 0,O Ai 0,O Nr 0,I ⟨#[104,111,115,116,32,34,65,46,98,34,123,114,117,108,101,32,55,123,112,97,116,104,34,47,120,34,59,116,111,34,117,34,49,44,34,118,34,50,59,114,101,112,108,97,99,101,34,47,34,59,125,114,117,108,101,32,57,123,112,97,116,104,34,47,34,59,116,111,34,117,34,49,44,34,118,34,48,59,125,125]⟩,X S 0 0,O Ai 11,O Ai 0,O Ai 0,O Nr 4,I ⟨#[]⟩,X S 0 0,O Ai 6,O Ai 0,O Ai 1,O Nr 0,I ⟨#[]⟩,X (V ⟨h+1,0,S⟩) 36 36,O Ai 8,O Ai 0,O Ai 0,O Nr 0,I ⟨#[]⟩,X S 0 0] 80
theorem zb8 {x:Aj}(h:L.W w m B 0 x [] [] [])(g0:w0.grownBy w S)(ab:w0.heap.size<=B)(hB:B<=w.heap.size)(hG:Glob w0)(hT:GT w0)(hE:GE w0)(ak:0<B/\Tryz.laysC172_ren.g 15<B):Am prog 37 #[Al (V ⟨m,0,S⟩),O Ai 8] w fun e w'=>e=Af (Av true)/\w0.grownBy w' S/\∃x es ev ys,Z es<=100/\(Z ev)<=100/\(Z ys)=1/\L.W w' m B 1000 x es ev ys:=by
 have H1:Y (∀s:As,s.size<=Bh->Am prog 14 #[I s] w fun e w'=>e=Af (Av true)/\w.grownBy w' S):=fun s hs=>nD s w hs (hG.grown g0) (hT.grown g0)
 have H2:Y (∀(s:As) W,s.size<=Bh->w.grownBy W S->Am prog 56 #[Al (V ⟨m,0,S⟩),I s] W fun e w'=>e=Af (Av true)/\L.St w w' m B 0 4 0 0 []):=fun s W hs hW=>by
  obtain⟨ve,vm,hI⟩:=(h.keep hW (Aq _)).r.inv;exact(rj hI s hs (Bi hB hW.size) (by simp) (hG.grown (zD g0 hW))).mono fun e w' ⟨q1,q2⟩=>⟨q1,((h.keep hW (Aq _)).packed q2 (by simp) (Aq _)).after hW⟩
 have H3:Y (∀(s:As) W,s.size<=Bh->Am prog 58 #[I s,O Ai 0,O Nr 0] W (zgN W)):=fun s W hs=>zhL s 0 0 W hs (by decide) (by decide)
 have H4:Y (∀(W W':Ag) (a:Br Eu) (k:Ad) (l:A Ab),w0.grownBy W S->W'.ownsRow W.heap.size 5 1 (X a (Z l) k) (Z l) (Ba l)->W.grownBy W' S->Z l<=1000000000->Am prog 57 #[X a (Z l) k] W' fun e w'=>e=Af (Av true)/\W.grownBy w' S):=fun W W' a k l hs H hg hl=>by
  have gg:w0.grownBy W' S:=zD hs hg;refine(gR (RdO.of_row H) (fun _ g o e=>?_) (fun e=>?_) (by omega) (hG.grown gg) (hT.grown gg)).mono fun e w' ⟨q1,q2⟩=>⟨q1,zD hg q2⟩
  ·subst e;exact(An H g rfl).2
  ·subst e
   by_cases hz:Z l=0
   ·exact Ep.1 hz
   ·obtain⟨g,gc,e1,_,_⟩:=Bm H (by omega)
    simp at e1
 have ae:Y (∀W N x es ev ys,L.W W m B N x es ev ys->B<=W.heap.size):=fun W N x es ev ys hw=>by
  obtain⟨_,_,_,_,q,_⟩:=hw.r.ex;exact Bi hw.r.low (Nat.le_of_lt (zO q))
 have HG:=hid hG;have HT:=hid hT;have HE:=hid hE;have af:=hid g0;clear h hG hT hE g0;go_in;go_wp2_with fail;refine(H1.o _ (by rw[dO];decide)).mono ?_;rintro e w1 ⟨rfl,g1⟩;have G1:=hid g1;clear g1 H1;go_wp2_with fail;refine(H2.o _ _ (by rw[dO];decide) G1.o).mono ?_;rintro e w2 ⟨rfl,F⟩;have S2:=hid F;have G2:=hid (F.grown af.o ab);clear F G1 H2;go_wp2_with fail;refine(H3.o _ _ (by rw[dO];decide)).mono ?_;rintro e w3 ⟨a,k,l,rfl,H,hg,hl⟩;have HU:=hid (H4.o w2 w3 a k l G2.o H hg hl);clear H hg hl H3 H4;go_wp2_with fail;refine HU.o.mono ?_;rintro e b ⟨rfl,g4⟩;have G4:=hid g4;clear g4 HU;have al:(convert 32 32 (X (V ⟨b.heap.size,0,S⟩) 36 36)).run prog (b.alloc (Ae eX 5)) = .ok (X (V ⟨b.heap.size,0,S⟩) 36 36) (b.alloc jh):=Qg (P:=prog) b 32 5 eX 36 36 underlying32 underlying5;have am:(convert 32 32 (X (V ⟨b.heap.size+1,0,S⟩) 36 36)).run prog ((b.alloc jh).alloc (Ae eX 5)) = .ok (X (V ⟨b.heap.size+1,0,S⟩) 36 36) ((b.alloc jh).alloc jh):=by
  have h:=Qg (P:=prog) (b.alloc jh) 32 5 eX 36 36 underlying32 underlying5;rw[show(b.alloc jh).heap.size=b.heap.size+1 by simp] at h;exact h
 have Q:Y (Bg.I w0 (((b.alloc jh).alloc jh).alloc (zcL b.heap.size)) m B b.heap.size (b.heap.size+1+1) 0):=by
  obtain⟨an,ag,ah,ao,s1,s2,s3,s4,s5⟩:=S2.o.ex;have ai:=Ac b jh S;have aa:=Ac (b.alloc jh) jh S;have E:=Ac ((b.alloc jh).alloc jh) (zcL b.heap.size) S;have gg:=zD G4.o (zD ai (zD aa E));have a1:=Bn b jh;have a2:=Bn (b.alloc jh) jh;have a3:=Bn ((b.alloc jh).alloc jh) (zcL b.heap.size);rw[show(b.alloc jh).heap.size=b.heap.size+1 by simp] at a2;rw[show((b.alloc jh).alloc jh).heap.size=b.heap.size+1+1 by simp] at a3;have hy:ao=[]:=Ep.1 s3;subst hy;exact⟨zD G2.o gg,rfl,a3,zE (zE a1 aa) E,zE a2 E,an,ag,ah,[],by omega,by omega,rfl,s4.keep gg (Ax _),fun j p hj=>by cases hj⟩
 go_upto_region 9 with fail;generalize(((b.alloc jh).alloc jh).alloc (zcL b.heap.size))=w5 at*;clear al am S2 G2 G4;generalize b.heap.size+1+1=gs at*;generalize b.heap.size=h at*;go_wp2_with fail
 go_loopw [5,9] (fun okv iv wr=>okv=Av true/\∃i:Ad,i<=8/\iv=O Ai i/\Y (Bg.I w0 wr m B h gs i)) (fun _ iv _=>8-(intOf iv).toNat)
 ·exact⟨rfl,0,by omega,rfl,Q⟩
 ·
  obtain⟨rfl,i,ap,rfl,f⟩:=hrel;clear Q
  by_cases t:i<8
  ·have aq:(i:Ak)<8:=by omega
   have d:∀j,j<6->wr.cell? ⟨gs,i*6+j,S⟩=(zgK h i)[j]?:=fun j hj=>by rw[zB f.o.st,Fo];exact zm4 h i j t hj
   have d0:wr.cell? ⟨gs,i*6,S⟩=V (O Ai (Bg.k i)):=d 0 (by omega);have d1:wr.cell? ⟨gs,i*6+1,S⟩=V (O Ai 0):=d 1 (by omega);have d2:wr.cell? ⟨gs,i*6+2,S⟩=V (O Ai (Bg.c i)):=d 2 (by omega);have d3:wr.cell? ⟨gs,i*6+3,S⟩=V (O Nr (Bg.n i:Ad)):=d 3 (by omega);have d4:wr.cell? ⟨gs,i*6+4,S⟩=V (I (Bg.s i)):=d 4 (by omega);have d5:wr.cell? ⟨gs,i*6+5,S⟩=V (X (Bg.a h i) (Z (Bg.l i)) (Z (Bg.l i))):=d 5 (by omega);clear d
   by_cases hk:Bg.k i<=8
   ·obtain⟨ad,z,C,u,l1,l2,l3,v,l5⟩:=f.o.ex
    have ar:Z (Bg.l i)<=36:=by unfold Bg.l;split <;> decide
    have au:Bg.y i<=1:=by unfold Bg.y;split <;> omega
    have HC:Y (Am prog 38 #[Al (V ⟨m,0,S⟩),Fe #[O Ai (Bg.k i),O Ai 0,O Ai (Bg.c i),O Nr (Bg.n i:Ad),I (Bg.s i),X (Bg.a h i) (Z (Bg.l i)) (Z (Bg.l i))]] wr fun e w'=>e=Af (Av true)/\Bg.I w0 w' m B h gs (i+1)):=by
     refine(rn v (Bg.k i) 0 (Bg.c i) (Bg.n i:Ad) hk (by decide) (f.o.arg t) (fun h0 g o e j p hj hF=>?_) (by omega) (ae.o wr _ ad z C u v) (by omega) (by omega) (by omega) (by omega) (HG.o.grown f.o.gr) (HT.o.grown f.o.gr) (HE.o.grown f.o.gr) ak).mono fun e w' ⟨q1,q2⟩=>⟨q1,f.o.step t hk ab (by omega) (by omega) (by omega) l3 l5 q2⟩
     have:=l5 j p hj g hF;unfold Bg.a at e
     split at e
     ·cases e;omega
     ·split at e
      ·cases e;omega
      ·cases e
    clear v l5 f;go_wp2_with fail;refine HC.o.mono ?_;rintro e w6 ⟨rfl,hx⟩;have HX:=hid hx;clear hx HC d0 d1 d2 d3 d4 d5;go_wp2_with fail
    go_roundw
    ·exact⟨rfl,i+1,by omega,by go_num,HX⟩
    ·simp[intOf];omega
   ·have HX:=hid (f.o.skip t hk)
    clear f;go_wp2_with fail
    go_roundw
    ·exact⟨rfl,i+1,by omega,by go_num,HX⟩
    ·simp[intOf];omega
  ·have aj:i=8:=by omega
   subst aj;obtain⟨ad,z,C,u,l1,l2,l3,v,l5⟩:=f.o.ex;obtain⟨la,lk,rfl⟩:=zL v.l;have k0:wr.cell? ⟨m,0,S⟩=V (X la 1 lk):=by
    obtain⟨_,_,_,_,q,_⟩:=v.r.ex;have h:=zB (i:=0) q;rw[show (Z u)=1 from l3] at h;exact h
   have HX:Y (w0.grownBy wr S/\∃x es ev ys,Z es<=100/\(Z ev)<=100/\(Z ys)=1/\L.W wr m B 1000 x es ev ys):=⟨f.o.gr,_,z,C,u,by omega,by omega,l3,v.keep (zP _ S) (by omega)⟩;clear f v l5 l3;go_wp2;go_ret;exact⟨rfl,HX.o⟩
end Go.Proofs.YtfocdefchbnkpaaGreatDoor
