import Derived.Test.YtfocdefchbnkpaaGreatDoorRqA
import Derived.DeepKeys4
import Derived.Shelf.Sort.Plain
import Derived.Shelf.Slices.In.SortNone
set_option maxRecDepth 100000
set_option maxHeartbeats 20000000
open And renaming intro->Vv
open Go renaming World->Ag,Value->Aj,Calls->Am,Addr->Eu,heap_alloc_new->Bn,info_parts->Ej,maxLen->Bh,wpList_append_lies->Ei,TypeId->Cs
open Go.Act renaming eval->Im
open Go.Ending renaming returned->Af
open Go.IntKind renaming i64->Ai,u8->Bp,u64->Nr
open Go.Lib renaming cut->Ca,hasSuffix->Ov,index->Es,hasPrefix->Mx,byteCells->Ba
open Go.Obj renaming cells->Ae
open Go.Obj.cells renaming injEq->Qj
open Go.Proofs.YtfocdefchbnkpaaGreatDoor.R renaming str->Aa,allB->Ec,str_size->Bz,str_toList->Be,lower->Cj
open Go.Value renaming slice->X,int->O,string->I,pointer->Al,bool->Av,tuple->Cm
open Go.Value.slice renaming injEq->Au
open Go.World renaming cell?_of_block->Mr,grownBy_alloc->Ac,ownsRow_nil->Bk,block_lt_of_cell?->Mk
open Go.World.ownsRow renaming alloc->Ao,lt->An,cellAt->Ap,form->Bm
open List renaming length->Z
open Option renaming none->S,some->V,isNone->No
open Or renaming inr->Bf,inl->Ay
open _root_ renaming Nat->Ad,List->A,UInt8->Ab,Int->Ak,Option->Br,Bool->Ee,Array->Fh
namespace Go.Proofs.YtfocdefchbnkpaaGreatDoor
open Go.RowKit Tryz
theorem gJ (y:Yd)(m:Ad)(r:A Ab)(i:Ad)(a:m≠i):(y.after m r).conns[i]?=y.conns[i]?:=by
 unfold Yd.after
 split
 ·unfold Yd.ready
  split
  ·split
   ·show(y.conns.set m _)[i]?=_
    rw[Fc a]
   ·rfl
  ·rfl
 ·show(y.conns.set m S)[i]?=_
  rw[Fc a]
theorem za1 (y:Yd)(m:Ad)(c:Ab)(i:Ad)(a:m≠i):(y.take0 m c).conns[i]?=y.conns[i]?:=by
 unfold Yd.take0
 split
 ·rw[gJ _ _ _ _ a]
  show(y.conns.set m _)[i]?=_;rw[Fc a]
 ·rw[gJ _ _ _ _ a]
  show(y.conns.set m _)[i]?=_;rw[Fc a]
 ·rfl
theorem mj (y:Yd)(m:Ad)(r:A Ab):Z (y.after m r).sent<=Z y.sent+1:=by
 have a:∀(z:Yd) (e:Ev),Z (z.send e).sent=Z z.sent+1:=fun z e=>by show(Z (z.sent++[e]))=_;rw[Ah];rfl
 unfold Yd.after
 split
 ·unfold Yd.ready
  split
  ·split
   ·rw[a];exact Aq _
   ·omega
  ·omega
 ·show(Z (y.send _).sent)<=_
  rw[a];omega
theorem bG (y:Yd)(m:Ad)(c:Ab):Z (y.take0 m c).sent<=Z y.sent+1:=by
 unfold Yd.take0
 split
 ·exact mj _ _ _
 ·exact mj _ _ _
 ·omega
theorem eH (y:Yd)(m:Ad)(c:Cn)(a:m<Z y.conns):(y.put m c).conns[m]?=V (V c):=by
 show(y.conns.set m _)[m]?=_;rw[Fm a]
variable {m yb B k ck g n b o E f i a N N' ne nv:Ad}{c:Cn}
theorem nZ {y:Yd}(b:m<Z y.conns)(i:(∃h,c = .hd h/\HOk h)\/∃p,c = .bd p/\0<=p.left/\p.left<=300/\(Z p.data)+p.left<=100000000){d:Cn}(a:((y.put m c).after m []).conns[m]?=V (V d)):COk d:=by
 unfold Yd.after at a;rw[Az rfl] at a;unfold Yd.ready at a;rw[eH y m c b] at a;rcases i with ⟨h,rfl,hk⟩|⟨p,rfl,h1,h2,h3⟩
 ·simp only at a
  rw[eH y m _ b] at a;have e:Cn.hd h=d:=by simpa using a
  subst e;exact hk
 ·simp only at a
  by_cases f:p.left=0
  ·rw[Az f] at a
   have g:(((y.put m (.bd p)).put m (.hd xf)).send ⟨m+1,p.dst,p.data⟩).conns[m]?=V (V (.hd xf)):=eH (y.put m (.bd p)) m _ (by show m<Z (y.conns.set m _);rw[Gv];exact b);rw[g] at a;have e:Cn.hd xf=d:=by simpa using a
   subst e;exact HOk.zero
  ·rw[Aw f,eH y m _ b] at a
   have e:Cn.bd p=d:=by simpa using a
   subst e;exact⟨by omega,h2,h3⟩
theorem YOk.take0 {y:Yd}(j:YOk y)(m:Ad)(c:Ab):YOk (y.take0 m c):=by
 intro i d a
 by_cases n:m=i
 ·subst n
  unfold Yd.take0 at a
  split at a
  ·rename_i h ec
   have f:m<Z y.conns:=(Bo.1 ec).1;have l:HOk h:=j m _ ec
   by_cases g:((qe h c).2.1 && decide ((qe h c).2.2=[]))=true
   ·have e:Cn.take Yd.D0 h c=(.bd (Yd.D0 (qe h c).1),[]):=by unfold Cn.take;rw[Az g]
    rw[e] at a;simp only[Ez,Gd] at g;have b:=(l.take c g.2).body;exact nZ f (Bf ⟨_,rfl,b.1,b.2,by have:Z (Yd.D0 (qe h c).1).data=55:=rfl;rw[this];have:=b.2;show(55:Ak)+yi _<=_;omega⟩) a
   ·have e:Cn.take Yd.D0 h c=(.hd (qe h c).1,(qe h c).2.2):=by unfold Cn.take;rw[Aw g]
    rw[e] at a
    by_cases k:(qe h c).2.2=[]
    ·rw[k] at a
     exact nZ f (Ay ⟨_,rfl,l.take c k⟩) a
    ·unfold Yd.after at a
     rw[Aw k] at a;have o:((((y.put m (.hd (qe h c).1)).send ⟨m+1,[],(qe h c).2.2⟩).ended m).conns[m]?)=V S:=by
      show((y.conns.set m _).set m S)[m]?=_;rw[Fm (by rw[Gv];exact f)]
     rw[o] at a;simp at a
  ·rename_i p ec
   have f:m<Z y.conns:=(Bo.1 ec).1;have s:1<=p.left/\p.left<=300/\(Z p.data)+p.left<=100000000:=j m _ ec;refine nZ f (Bf ⟨_,rfl,by show 0<=p.left-1;omega,by show p.left-1<=300;omega,?_⟩) a;have r:Z (p.take c).data<=Z p.data+1:=by unfold Pc.take;simp only;split <;> simp
   have q:(p.take c).left=p.left-1:=rfl;rw[q];omega
  ·exact j m d a
 ·rw[za1 y m c i n] at a
  exact j i d a
def Yd.step0 (y:Yd)(m:Ad)(c:Ab):Yd:=if y.isOpen (m+1:Ad)=true then y.take0 m c else y
def Yd.fed0 (y:Yd)(m:Ad)(l:A Ab):Yd:=l.foldl (fun y c=>y.step0 m c) y
theorem rS (y:Yd)(m:Ad)(l:A Ab)(c:Ab):y.fed0 m (l++[c])=(y.fed0 m l).step0 m c:=by unfold Yd.fed0;rw[Mb];rfl
theorem rR (y:Yd)(m:Ad)(l:A Ab)(h:y.isOpen (m+1:Ad)=false):y.fed0 m l=y:=by
 induction l <;> grind[Yd.step0,Yd.fed0,Yd]
theorem gK (y:Yd)(m:Ad)(a b:A Ab):y.fed0 m (a++b)=(y.fed0 m a).fed0 m b:=by unfold Yd.fed0;rw[Mb]
def Apart (w:Ag)(yb:Ad)(ps:A (Br Ad))(v:Aj):Prop:=∀k,v.ownBlock=V k->¬YF w yb ps k
variable {w w':Ag}{ps':A (Br Ad)}{v d l p j r Q vd vs vc th tv s u H z ve vm vb vk vl:Aj}
theorem RdO.moved {b:A (Br Ad)}{l:A Ab}(h:RdO w v l)(m:YMv w w' yb b ps')(d:Apart w yb b v):RdO w' v l:=by
 rcases h with h|⟨g,o,c,h1,hc,h2,h3⟩
 ·exact Ay h
 ·have e:=m.turn.block g h2 (d g (by rw[h1];rfl))
  exact Bf ⟨g,o,c,h1,hc,Eh h2 m.turn.size,fun j u hu=>by rw[Mr (a:=⟨g,o+j,S⟩) e];exact h3 j u hu⟩
theorem Glob.moved {c:A (Br Ad)}{y:Yd}(b:Glob w)(m:YMv w w' yb c ps')(h:YInv w yb B d c y)(g:d.ownBlock=S)(i:B<=w.heap.size)(f:0<B):Glob w':=by
 have e:=m.keep h g f (by omega);unfold Glob at b ⊢;rw[Mr (a:=⟨0,0,S⟩) e];exact b
theorem GE.moved {b:Aj}{a:A (Br Ad)}{y:Yd}(i:GE w)(m:YMv w w' yb a ps')(h:YInv w yb B b a y)(d:b.ownBlock=S)(f:B<=w.heap.size)(c:Tryz.laysC172_ren.g 15<B):GE w':=by
 have e:=m.keep h d c (by omega)
 grind[kJ,Yd,GE,YMv,YInv]
theorem lW {f:Aj}{c:A (Br Ad)}{y:Yd}(h:YInv w yb B f c y)(n:Ak)(v:Aj)(b:y.isOpen n=false)(d:Z c<=1000000):Am prog 26 #[Al (V ⟨yb,0,S⟩),O Ai n,v] w fun e w'=>e=Af (O Ai 7)/\w'=w:=by
 have a:=hid (wW h n d);rw[b] at a;go_in;go_wp2_with fail;refine a.o.mono ?_;rintro e g ⟨rfl,rfl⟩;go_wp2;go_ret;exact⟨rfl,rfl⟩
structure Fd (w wr:Ag) (yb B m:Ad) (ps ps':A (Br Ad)) (y y':Yd) (i:Ad):Prop where
 inv:YInv wr yb B (Al S) ps' y'
 mv:YMv w wr yb ps ps'
 len:Z ps'=Z ps
 ok:YOk y'
 sent:Z y'.sent<=Z y.sent+i
theorem zeS {j:A (Br Ad)}{y:Yd}{a:Br Eu}{l:A Ab}(h:YInv w yb B (Al S) j y)(hk:YOk y)(ho:y.isOpen (m+1:Ad)=true)(hr:RdO w (X a (Z l) k) l)(ha:Apart w yb j (X a (Z l) k))(ag:Z l<=2000000)(hs:Z y.sent<=10000000)(F:Z j<=1000000)(hB:B<=w.heap.size)(hG:Glob w)(E:GE w)(r:0<B/\Tryz.laysC172_ren.g 15<B):Am prog 26 #[Al (V ⟨yb,0,S⟩),O Ai (m+1:Ad),X a (Z l) k] w fun e w'=>e=Af (O Ai 0)/\∃ps',YInv w' yb B (Al S) ps' (y.fed0 m l)/\YMv w w' yb j ps'/\(Z ps')=Z j:=by
 have N:=hid (wW h (m+1:Ad) F);rw[ho] at N;have HZ:Y (Fd w w yb B m j j y (y.fed0 m (l.take 0)) 0):=⟨h,YMv.refl _ _ _,rfl,hk,Aq _⟩;have C:=hid hr;have u:Y (∀wr ps' y' i,Fd w wr yb B m j ps' y y' i->Am prog 46 #[Al (V ⟨yb,0,S⟩),O Ai (m+1:Ad)] wr fun e w'=>e=Af (Av (y'.isOpen (m+1:Ad)))/\w'=wr):=fun wr ps' y' i hF=>wW hF.inv _ (by rw[hF.len];exact F)
 have v:Y (∀wr ps' y' i,Fd w wr yb B m j ps' y y' i->RdO wr (X a (Z l) k) l):=fun wr ps' y' i hF=>hr.moved hF.mv ha
 have z:Y (∀wr ps' y' i (c:Ab),Fd w wr yb B m j ps' y y' i->i<Z l->y'.isOpen (m+1:Ad)=true->Am prog 47 #[Al (V ⟨yb,0,S⟩),O Ai (m+1:Ad),O Bp c.toNat] wr fun e w'=>e=Af (Cm #[])/\∃p,Fd w w' yb B m j p y (y'.take0 m c) (i+1)):=fun wr ps' y' i c hF hi d=>by
  obtain⟨m',e1,_,cb,c0,Q,_⟩:=hF.inv.open_at d;have e3:m=m':=by omega
  subst e3;have ah:=hF.mv.turn.size;refine(zbW hF.inv hF.ok Q c (by have:=hF.sent;omega) (by rw[hF.len];exact F) (by omega) (hG.moved hF.mv h rfl hB r.1) (E.moved hF.mv h rfl hB r.2) r).mono ?_;rintro e w' ⟨q1,p,q2,q3,q4⟩;exact⟨q1,p,⟨q2,hF.mv.trans q3,q4.trans hF.len,hF.ok.take0 m c,by have:=bG y' m c;have:=hF.sent;omega⟩⟩
 have t:Y (∀i,i<Z l->(y.fed0 m (l.take i)).isOpen (m+1:Ad)=false->y.fed0 m l=y.fed0 m (l.take i)):=fun i hi d=>by
  have:l=l.take i++l.drop i:=(He i l).symm;rw[this,gK,He,rR _ _ _ d]
 have x:Y (∀i (hi:i<Z l),(y.fed0 m (l.take i)).isOpen (m+1:Ad)=true->(y.fed0 m (l.take i)).take0 m l[i]=y.fed0 m (l.take (i+1))):=fun i hi d=>by
  rw[Sp,Bd hi];show _=y.fed0 m (l.take i++[l[i]]);rw[rS];unfold Yd.step0;rw[Az d]
 have s:Y (l.take (Z l)=l):=Ia;generalize((m+1:Ad):Ak)=n at*;go_in;go_wp2_with fail;refine N.o.mono ?_;rintro e w1 ⟨rfl,rfl⟩;go_wp2_with fail
 go_loopw [7] (fun iv wr=>∃i:Ad,i<=Z l/\iv=O Ai i/\∃ps',Y (Fd w1 wr yb B m j ps' y (y.fed0 m (l.take i)) i)) (fun iv _=>Z l-(intOf iv).toNat)
 ·exact⟨0,Ax _,rfl,j,HZ⟩
 ·
  obtain⟨i,af,rfl,ps',q⟩:=hrel
  by_cases f:i<Z l
  ·have ae:(i:Ak)<Z l:=by omega
   have HI:=hid (u.o wr ps' _ i q.o);have HR:=hid (v.o wr ps' _ i q.o);have HT:=hid (fun d=>z.o wr ps' _ i l[i] q.o f d);have HE:=hid (t.o i f);have HS:=hid (x.o i f);obtain⟨g,o,rfl,ad⟩:∃g o,a=V ⟨g,o,S⟩/\wr.cell? ⟨g,o+i,S⟩=V (O Bp l[i].toNat):=by
    rcases HR.o with ⟨_,_,e,Q⟩|⟨g,o,c,e,_,_,h3⟩
    ·rw[Q] at f;cases f
    ·simp only[Au,Fb] at e
     exact⟨g,o,e.1,h3 i _ (Bd f)⟩
   generalize aa:y.fed0 m (l.take i)=y' at*;generalize l[i]=c at*;generalize d:y'.isOpen n=b at*;have HB:=hid d;go_wp2_with fail;refine HI.o.mono ?_;rintro e w2 ⟨rfl,rfl⟩
   cases b
   ·go_wp2
    go_ret;exact⟨rfl,ps',by rw[HE.o trivial];exact q.o.inv,q.o.mv,q.o.len⟩
   ·go_wp2_with fail
    refine(HT.o trivial).mono ?_;rintro e w3 ⟨rfl,ab,F3⟩;have H:=hid F3;go_wp2_with fail
    go_roundw
    ·exact⟨i+1,by omega,by go_num,ab,by rw[<-HS.o trivial];exact H⟩
    ·simp[intOf];omega
  ·have E:i=Z l:=by omega
   subst E;rw[s.o] at q;go_wp2;go_ret;exact⟨rfl,ps',q.o.inv,q.o.mv,q.o.len⟩
def Yd.new:Yd:=⟨[],[],[]⟩
theorem YOk.new:YOk Yd.new:=fun m c h=>by simp[Yd.new] at h
abbrev Hs6:=Ae #[Al S,X S 0 0,X S 0 0,X S 0 0] 99
theorem zkL (w:Ag):Am prog 33 #[] w fun e w'=>∃yb,e=Af (Al (V ⟨yb,0,S⟩))/\yb=w.heap.size/\YInv w' yb w.heap.size (Al S) [] Yd.new/\w.grownBy w' S/\∀k,YF w' yb [] k->w.heap.size<=k:=by
 have d:=hid (Ac w Hs6 S);have c:=Bn w Hs6;have b:YInv (w.alloc Hs6) w.heap.size w.heap.size (Al S) [] Yd.new:=
  ⟨⟨_,_,_,c,⟨S,0,0,0,rfl,⟨Aq _,fun h=>by omega,fun h=>by omega,rfl,fun j u h=>by simp[Yd.new] at h,fun j h=>by simp at h⟩,fun a h=>by cases h⟩,Bk _ _ _ _,Bk _ _ _ _⟩,Aq _,rfl,fun i cb h=>by simp at h,fun i h=>by simp at h,fun i j cb cb' _ h=>by simp at h⟩
 have f:=hid b;have g:Y (∀k,YF (w.alloc Hs6) w.heap.size [] k->w.heap.size<=k):=fun k hk=>b.low_all rfl hk
 go_in;go_wp2;go_ret;exact⟨_,rfl,rfl,f.o,d.o,g.o⟩
theorem YInv.types {g:Aj}{d:A (Br Ad)}{y:Yd}(h:YInv w yb B g d y)(j:g.ownBlock=S)(b:YF w yb d k):∃a t f,w.heap[k]?=V (Ae a t f)/\(t∈ydTypes\/t∈cnTypes):=by
 rcases b with b|⟨i,cb,hi,b⟩
 ·obtain⟨_,a,t,e,m⟩:=h.hf j b
  exact⟨a,t,_,e,Ay m⟩
 ·obtain⟨c,_,q⟩:=h.here i cb hi
  obtain⟨_,a,t,f,e,m⟩:=q.cf b;exact⟨a,t,f,e,Bf m⟩
def ju (ov:A Ee)(n:Ak):Ee:=decide (1<=n) && (decide (n<=Z ov) && !(ov.getD (n-1).toNat true))
variable {ca:Br Eu}
theorem tH {m o:Aj}(a:A Ee)(n:Ak)(c:w.heap[yb]?=V (Ae #[m,l,o,X ca (Z a) ck,p] 131 (0,0)))(d:∀k (h:k<Z a),ca=V ⟨g,0,S⟩/\w.cell? ⟨g,k*9,S⟩=V (Av a[k]))(r:Z a<=1000000):Am prog 98 #[Al (V ⟨yb,0,S⟩),O Ai n] w fun e w'=>e=Af (Av (ju a n))/\w'=w:=by
 have t:=cbi 3 c
 by_cases f:1<=n
 ·by_cases i:n<=Z a
  ·obtain⟨k,rfl⟩:∃k:Ad,n=((k+1:Ad):Ak):=⟨(n-1).toNat,by omega⟩
   have j:k<Z a:=by omega
   obtain⟨rfl,q⟩:=d k j;have b:Y (ju a ((k+1:Ad):Ak)=!a[k]):=by
    show _=_;unfold ju;rw[Cf f,Cf i,show(((k+1:Ad):Ak)-1).toNat=k by omega,Gf,Bd j]
    rfl
   have s:((k:Ad):Ak)<Z a:=by omega
   generalize a[k]=x at*;clear c d;go_in;go_wp2;go_ret;exact⟨by rw[b.o];rfl,rfl⟩
  ·have b:Y (ju a n=false):=by show _=_;unfold ju;rw[Ce i];simp
   clear c d;go_in;go_wp2;go_ret;exact⟨by rw[b.o];rfl,rfl⟩
 ·have b:Y (ju a n=false):=by show _=_;unfold ju;rw[Ce f];rfl
  clear c d;go_in;go_wp2;go_ret;exact⟨by rw[b.o];rfl,rfl⟩
theorem eI {m o:Aj}(a:A Ee)(n:Ak)(c:w.heap[yb]?=V (Ae #[l,j,m,X ca (Z a) ck,o] 131 (0,0)))(d:∀k (h:k<Z a),ca=V ⟨g,0,S⟩/\w.cell? ⟨g,k*9,S⟩=V (Av a[k]))(i:Z a<=1000000)(f:ju a n=false):Am prog 63 #[Al (V ⟨yb,0,S⟩),O Ai n] w fun e w'=>e=Af (O Ai 7)/\w'=w:=by
 have b:=hid (tH a n c d i);rw[f] at b;go_in;go_wp2_with fail;refine b.o.mono ?_;rintro e p ⟨rfl,rfl⟩;go_wp2;go_ret;exact⟨rfl,rfl⟩
theorem oQ {m o:Aj}(v:Aj)(a:A Ee)(n:Ak)(c:w.heap[yb]?=V (Ae #[l,j,m,X ca (Z a) ck,o] 131 (0,0)))(d:∀k (h:k<Z a),ca=V ⟨g,0,S⟩/\w.cell? ⟨g,k*9,S⟩=V (Av a[k]))(i:Z a<=1000000)(f:ju a n=false):Am prog 97 #[Al (V ⟨yb,0,S⟩),O Ai n,v] w fun e w'=>e=Af (O Ai 7)/\w'=w:=by
 have b:=hid (tH a n c d i);rw[f] at b;go_in;go_wp2_with fail;refine b.o.mono ?_;rintro e p ⟨rfl,rfl⟩;go_wp2;go_ret;exact⟨rfl,rfl⟩
theorem zfV {o q:Aj}{j:Fh Aj}(a:A Ee)(d:w.heap[yb]?=V (Ae #[p,o,q,X ca (Z a) ck,r] 131 (0,0)))(f:∀k (h:k<Z a),ca=V ⟨g,0,S⟩/\w.cell? ⟨g,k*9,S⟩=V (Av a[k]))(i:w.heap[g]?=V (Ae j 195 (0,0)))(n:Z a<=1000000)(b:ju a ((m+1:Ad):Ak)=true):Am prog 63 #[Al (V ⟨yb,0,S⟩),O Ai (m+1:Ad)] w fun e w'=>e=Af (O Ai 0)/\w'=w.setCell ⟨g,m*9,S⟩ (Av true):=by
 have c:=hid (tH a (m+1:Ad) d f n);rw[b] at c;have l:m<Z a:=by
  unfold ju at b;simp only[Ez,Gd] at b
  omega
 obtain⟨rfl,s⟩:=f m l;have v:=cbi 3 d;have t:w.frozen? ⟨g,m*9,S⟩=false:=zG i;have u:((m:Ad):Ak)<Z a:=by omega
 go_in;go_wp2_with fail;refine c.o.mono ?_;rintro e x ⟨rfl,rfl⟩;go_wp2;go_ret;exact⟨rfl,rfl⟩
def D.new:A Aj:=[Av false,X S 0 0,O Ai 0,I ⟨#[]⟩,I ⟨#[]⟩,X S 0 0,O Ai 0,I ⟨#[]⟩,I ⟨#[]⟩]
theorem zk8:(prog.info? 195).map (fun i=>(i.zero,i.size,i.bytes))=V (V (.agg #[Av false,X S 0 0,O Ai 0,I ⟨#[]⟩,I ⟨#[]⟩,X S 0 0,O Ai 0,I ⟨#[]⟩,I ⟨#[]⟩]),9,136):=by kernel_rfl
theorem px {c b f:Aj}(a:w.heap[yb]?=V (Ae #[c,b,d,X ca 64 ck,f] 131 (0,0))):Am prog 61 #[Al (V ⟨yb,0,S⟩)] w fun e w'=>e=Af (Cm #[O Ai 0,O Ai 7])/\w'=w:=by
 have g:=cbi 3 a;go_in;go_wp2
 go_ret2
 exact⟨rfl,rfl⟩
abbrev Hs2:=Ae #[Av false,X S 0 0,O Ai 0,I ⟨#[]⟩,I ⟨#[]⟩,X S 0 0,O Ai 0,I ⟨#[]⟩,I ⟨#[]⟩] 195
abbrev Hs3 (a b c):=X (V ⟨a,0,S⟩) (b+1) c
theorem ziH {N:Aj}{c:A Aj}(x:w.heap[yb]?=V (Ae #[Q,N,vd,X ca n ck,vs] 131 (0,0)))(ho:w.ownsRow B 195 9 (X ca n ck) n c)(hn:n<64)(hB:B<=w.heap.size):Am prog 61 #[Al (V ⟨yb,0,S⟩)] w fun e w'=>e=Af (Cm #[O Ai (n+1:Ad),O Ai 0])/\∃b a,w'.heap[yb]?=V (Ae #[Q,N,vd,(Hs3 b n a),vs] 131 (0,0))/\w'.ownsRow B 195 9 (Hs3 b n a) (n+1) (c++D.new)/\((X ca n ck).ownBlock=V b\/w.heap.size<=b)/\Turn w w' (fun k=>k=yb\/(X ca n ck).ownBlock=V k):=by
 have k3:=cbi 3 x;have gX:=hid (Ac w Hs2 S);have q:=hid (Ao ho Hs2);have h:=hid (zE x gX.o (by simp));have p:=hid (zI h.o q.o (by decide));obtain⟨i0,hi,C,E,F⟩:=Ej zk8;have s:Y (∀j u,D.new[j]?=V u->(w.alloc Hs2).cell? ((⟨w.heap.size,0,S⟩:Eu).add j)=V u):=zZ w #[_,_,_,_,_,_,_,_,_] _ _ rfl;have r:=J (Mq.1 (by rfl:D.new.all (fun u=>u.oneCell')=true));have y:n+1<=Bh:=by unfold Bh;omega
 have z:(n+1)*136<=140737488355328:=by omega
 have H:(w.alloc Hs2).heap.size=w.heap.size+1:=by simp
 have v:B<=(w.alloc Hs2).heap.size:=by omega
 have m:Y (∀b a l,l.ownsRow B 195 9 (Hs3 b n a) (n+1) (c++D.new)->(w.alloc Hs2).grownBy l (X ca n ck).ownBlock->((X ca n ck).ownBlock=V b\/b=w.heap.size+1)->(l.setCell ⟨yb,3,S⟩ (Hs3 b n a)).heap[yb]?=V (Ae #[Q,N,vd,(Hs3 b n a),vs] 131 (0,0))/\(l.setCell ⟨yb,3,S⟩ (Hs3 b n a)).ownsRow B 195 9 (Hs3 b n a) (n+1) (c++D.new)/\((X ca n ck).ownBlock=V b\/w.heap.size<=b)/\Turn w (l.setCell ⟨yb,3,S⟩ (Hs3 b n a)) (fun k=>k=yb\/(X ca n ck).ownBlock=V k)):=fun b a l h1 h2 h3=>by
  have f:=zw h.o h2 p.o;have gs:=zF l yb 3 (Hs3 b n a);exact⟨zH (i:=3) f _,zJ h1 gs (zI f h1 (by decide)),h3.imp id (fun e=>by omega),(((Turn.refl w _).step gX.o (fun k hk=>by cases hk)).step h2 (fun k hk=>Ay (Bf hk))).step gs (fun k hk=>Ay (Ay (Bc hk).symm))⟩
 go_in;go_wp2_with (at_builtin;refine Ei _ rfl _ _ 129 rfl B 195 i0 _ 9 136 underlying129 hi C E F rfl (by decide) _ _ _ rfl q.o ⟨w.heap.size,0,S⟩ 1 1 D.new rfl rfl s.o r.o (by decide) y z v (w.heap.size+1) H ?_);intro b a l g d o t;have HE:=hid (m.o b a l g d o);have f:=zw h.o d p.o;have q9:=cbi 3 f;have f9:=zm9 3 f;have aa:=cbi 3 HE.o.1;go_wp2
 go_ret2
 exact⟨rfl,b,a,HE.o⟩
theorem pz {T:Cs}{c:Fh Aj}{g h i x:Aj}(f:w.heap[yb]?=V (Ae #[Av false,g,h,vc,i] 131 (0,0)))(a:w.heap[b]?=V (Ae c T (0,0)))(d:c[o+5]?=V x):Am prog 200 #[Al (V ⟨yb,0,S⟩),Al (V ⟨b,o,S⟩)] w fun e w'=>e=Af (Cm #[])/\w'=w.setCell ⟨b,o+5,S⟩ (I (Aa Yd.noPolicy)):=by
 have k:=cbi 0 f;have l:w.cell? ⟨b,o+5,S⟩=V x:=(zB a).trans d;have j:w.frozen? ⟨b,o+5,S⟩=false:=zG a;go_in;go_wp2;refine bodyPost_ret (results_none rfl _ _ _) rfl ?_;exact⟨rfl,rfl⟩
def yR (cs:Fh Aj)(o:Ad):Fh Aj:=((((((((cs.setIfInBounds o (Av false)).setIfInBounds (o+1) (X S 0 0)).setIfInBounds (o+2) (O Ai 0)).setIfInBounds (o+3) (I ⟨#[]⟩)).setIfInBounds (o+4) (I ⟨#[]⟩)).setIfInBounds (o+5) (X S 0 0)).setIfInBounds (o+6) (O Ai 0)).setIfInBounds (o+7) (I ⟨#[]⟩)).setIfInBounds (o+8) (I ⟨#[]⟩)
def uJ (w:Ag)(g o:Ad):Ag:=(((((((((w.setCell ⟨g,o,S⟩ (Av false)).setCell ⟨g,o+1,S⟩ (X S 0 0)).setCell ⟨g,o+2,S⟩ (O Ai 0)).setCell ⟨g,o+3,S⟩ (I ⟨#[]⟩)).setCell ⟨g,o+4,S⟩ (I ⟨#[]⟩)).setCell ⟨g,o+5,S⟩ (X S 0 0)).setCell ⟨g,o+6,S⟩ (O Ai 0)).setCell ⟨g,o+7,S⟩ (I ⟨#[]⟩)).setCell ⟨g,o+8,S⟩ (I ⟨#[]⟩))
theorem za8 {a:Fh Aj}{T:Cs}(h:w.heap[g]?=V (Ae a T (0,0))):(uJ w g o).heap[g]?=V (Ae (yR a o) T (0,0)):=(zH (i:=o+8) (zH (i:=o+7) (zH (i:=o+6) (zH (i:=o+5) (zH (i:=o+4) (zH (i:=o+3) (zH (i:=o+2) (zH (i:=o+1) (zH (i:=o) h _) _) _) _) _) _) _) _) _)
theorem pL (w:Ag)(g o:Ad):w.grownBy (uJ w g o) (V g):=zD (zD (zD (zD (zD (zD (zD (zD (zF w g o _) (zF _ g (o+1) _)) (zF _ g (o+2) _)) (zF _ g (o+3) _)) (zF _ g (o+4) _)) (zF _ g (o+5) _)) (zF _ g (o+6) _)) (zF _ g (o+7) _)) (zF _ g (o+8) _)
theorem cw {C:Br Eu}{o:Fh Aj}{F:A Aj}{b:A Ab}(hb:w.heap[yb]?=V (Ae #[tv,th,vd,X (V ⟨g,0,S⟩) n ck,X C f E] 131 (0,0)))(hg:w.heap[g]?=V (Ae o 195 (0,0)))(ay:m*9+9<=o.size)(hv:w.ownsRow B 44 3 (X C f E) f F)(hm:m<n)(hn:n<=64)(aw:f<=1000000000)(h7:o[m*9+7]?=V (I ⟨#[]⟩))(h8:o[m*9+8]?=V (I (Aa b)))(hB:B<=w.heap.size):Am prog 201 #[Al (V ⟨yb,0,S⟩),O Ai (m+1:Ad)] w fun e w'=>e=Af (Cm #[])/\∃p d,w'.heap[yb]?=V (Ae #[tv,th,vd,X (V ⟨g,0,S⟩) n ck,X (V ⟨p,0,S⟩) (f+1) d] 131 (0,0))/\w'.ownsRow B 44 3 (Hs3 p f d) (f+1) (F++[O Ai ((m:Ak)+1),I ⟨#[]⟩,I (Aa b)])/\w'.heap[g]?=V (Ae (yR o (m*9)) 195 (0,0))/\((X C f E).ownBlock=V p\/w.heap.size<=p)/\Turn w w' (fun k=>k=yb\/k=g\/(X C f E).ownBlock=V k):=by
 have k3:=cbi 3 hb;have c7:w.cell? ⟨g,m*9+7,S⟩=V (I ⟨#[]⟩):=(zB hg).trans h7;have c8:w.cell? ⟨g,m*9+8,S⟩=V (I (Aa b)):=(zB hg).trans h8;have ax:=Mk w _ c7;have i2:((m:Ad):Ak)<n:=by omega
 have g1:=Ac w (Ae #[O Ai ((m:Ak)+1),I ⟨#[]⟩,I (Aa b)] 44) S;have x:=hid (zE hb g1 (by simp));have N:=hid (zE hg g1 (by simp));have ao:=hid (Ao hv (Ae #[O Ai ((m:Ak)+1),I ⟨#[]⟩,I (Aa b)] 44));have y:Y ((w.alloc (Ae #[O Ai ((m:Ak)+1),I ⟨#[]⟩,I (Aa b)] 44)).heap[w.heap.size]?=V (Ae #[O Ai ((m:Ak)+1),I ⟨#[]⟩,I (Aa b)] 44)):=Bn _ _;have G1:=hid g1;have az:(w.alloc (Ae #[O Ai ((m:Ak)+1),I ⟨#[]⟩,I (Aa b)] 44)).heap.size=w.heap.size+1:=by simp
 go_in;go_upto_region 5 with fail;generalize w.alloc (Ae #[O Ai ((m:Ak)+1),I ⟨#[]⟩,I (Aa b)] 44)=w1 at*;have gX:=hid (zD (Ac w1 (Ae #[O Ai ((m:Ak)+1),I ⟨#[]⟩,I (Aa b)] 44) S) (zV (w1.alloc (Ae #[O Ai ((m:Ak)+1),I ⟨#[]⟩,I (Aa b)] 44))));have z:=hid (zK ao.o gX.o (fun k hk c=>by cases c));have am:Y (∀j u,([O Ai ((m:Ak)+1),I ⟨#[]⟩,I (Aa b)]:A Aj)[j]?=V u->(w1.alloc (Ae #[O Ai ((m:Ak)+1),I ⟨#[]⟩,I (Aa b)] 44)).drew.cell? ((⟨w1.heap.size,0,S⟩:Eu).add j)=V u):=zZ w1 #[_,_,_] _ _ rfl;have ag:Y (∀u∈([O Ai ((m:Ak)+1),I ⟨#[]⟩,I (Aa b)]:A Aj),u.oneCell'=true):=fun u hu=>by simp at hu;rcases hu with rfl|rfl|rfl <;> rfl
 have al:Y (f+1<=Bh):=by show _<=_;unfold Bh;omega
 have ap:Y ((f+1)*40<=140737488355328):=by show _<=_;omega
 have ad:Y ((w1.alloc (Ae #[O Ai ((m:Ak)+1),I ⟨#[]⟩,I (Aa b)] 44)).drew.heap.size=w1.heap.size+1):=by show _=_;simp
 have aj:Y (B<=(w1.alloc (Ae #[O Ai ((m:Ak)+1),I ⟨#[]⟩,I (Aa b)] 44)).drew.heap.size):=by show _<=_;rw[ad.o];omega
 have ab:=hid (zE x.o gX.o (by simp));have ai:=hid (zI ab.o z.o (by decide));have aa:=hid (zE N.o gX.o (by simp));have ah:=hid (zI aa.o z.o (by decide));have af:¬g=yb:=fun e=>by have h:=N.o;rw[e,x.o] at h;simp at h
 have k4:=cbi 4 x.o;have e0:=cbi 0 y.o;have e1:=cbi 1 y.o;have e2:=cbi 2 y.o;have A4:=gX.o.cell k4 (by simp);obtain⟨i0,hi,ar,au,av⟩:=Ej m9
 go_region_law (refine step_append_lies _ rfl (.tmp 50) (.tmp 52) 41 rfl B 44 i0 _ 3 40 underlying41 hi ar au av rfl (by decide) _ _ _ (by simp[Im]) z.o ⟨w1.heap.size,0,S⟩ 1 1 [O Ai ((m:Ak)+1),I ⟨#[]⟩,I (Aa b)] (by simp[Im]) rfl am.o ag.o (by decide) al.o ap.o aj.o (w1.heap.size+1) ad.o ?_;intro p d w9 s l v aq;have Q:=hid s;have H:=hid l;have an:=hid v;have t:=hid (zw ab.o l ai.o);have q9:=cbi 4 t.o;have f9:=zm9 4 t.o;clear s l v aq)
 all_goals
  go_upto_region 6 with fail;have ak:=hid (zw aa.o H.o ah.o);have q:=zH (i:=4) t.o (Hs3 p f d);have gs:=zF w9 yb 4 (Hs3 p f d);have a:=zE ak.o gs (by simp;exact af);have r:=zJ Q.o gs (zI t.o Q.o (by decide));have ae:Turn w (w9.setCell ⟨yb,4,S⟩ (Hs3 p f d)) (fun k=>k=yb\/k=g\/(X C f E).ownBlock=V k):=((((Turn.refl w _).step G1.o (fun k hk=>by cases hk)).step gX.o (fun k hk=>by cases hk)).step H.o (fun k hk=>Ay (Bf (Bf hk)))).step gs (fun k hk=>Ay (Ay (Bc hk).symm));generalize w9.setCell ⟨yb,4,S⟩ (Hs3 p f d)=w10 at*;have aA:=cbi 3 q;have p0:w10.cell? ⟨g,m*9,S⟩=V (o[m*9+0]'(by omega)):=(zB a).trans (Fj (by omega));have z0:w10.frozen? ⟨g,m*9,S⟩=false:=zG a;have p1:w10.cell? ⟨g,m*9+1,S⟩=V (o[m*9+1]'(by omega)):=(zB a).trans (Fj (by omega));have z1:w10.frozen? ⟨g,m*9+1,S⟩=false:=zG a;have p2:w10.cell? ⟨g,m*9+2,S⟩=V (o[m*9+2]'(by omega)):=(zB a).trans (Fj (by omega));have z2:w10.frozen? ⟨g,m*9+2,S⟩=false:=zG a;have p3:w10.cell? ⟨g,m*9+3,S⟩=V (o[m*9+3]'(by omega)):=(zB a).trans (Fj (by omega));have z3:w10.frozen? ⟨g,m*9+3,S⟩=false:=zG a;have p4:w10.cell? ⟨g,m*9+4,S⟩=V (o[m*9+4]'(by omega)):=(zB a).trans (Fj (by omega));have z4:w10.frozen? ⟨g,m*9+4,S⟩=false:=zG a;have p5:w10.cell? ⟨g,m*9+5,S⟩=V (o[m*9+5]'(by omega)):=(zB a).trans (Fj (by omega));have z5:w10.frozen? ⟨g,m*9+5,S⟩=false:=zG a;have p6:w10.cell? ⟨g,m*9+6,S⟩=V (o[m*9+6]'(by omega)):=(zB a).trans (Fj (by omega));have z6:w10.frozen? ⟨g,m*9+6,S⟩=false:=zG a;have p7:w10.cell? ⟨g,m*9+7,S⟩=V (o[m*9+7]'(by omega)):=(zB a).trans (Fj (by omega));have z7:w10.frozen? ⟨g,m*9+7,S⟩=false:=zG a;have p8:w10.cell? ⟨g,m*9+8,S⟩=V (o[m*9+8]'(by omega)):=(zB a).trans (Fj (by omega));have z8:w10.frozen? ⟨g,m*9+8,S⟩=false:=zG a;have HP:Y ((uJ w10 g (m*9)).heap[yb]?=V (Ae #[tv,th,vd,X (V ⟨g,0,S⟩) n ck,X (V ⟨p,0,S⟩) (f+1) d] 131 (0,0))/\(uJ w10 g (m*9)).ownsRow B 44 3 (Hs3 p f d) (f+1) (F++[O Ai ((m:Ak)+1),I ⟨#[]⟩,I (Aa b)])/\(uJ w10 g (m*9)).heap[g]?=V (Ae (yR o (m*9)) 195 (0,0))/\((X C f E).ownBlock=V p\/w.heap.size<=p)/\Turn w (uJ w10 g (m*9)) (fun k=>k=yb\/k=g\/(X C f E).ownBlock=V k)):=by
   have gb:=pL w10 g (m*9);exact⟨zE q gb (by simp;exact fun e=>af e.symm),zJ r gb (zI a r (by decide)),za8 a,an.o.imp id (fun e=>by omega),ae.step gb (fun k hk=>Ay (Bf (Ay (Bc hk).symm)))⟩
  go_wp2
  go_end0
  exact⟨rfl,p,d,HP.o⟩
def D.p1 (l:A Ab):A Ab:=(Ca l [32]).1
def D.p2 (l:A Ab):A Ab:=(Ca (Ca l [32]).2.1 [32]).1
def D.p3 (l:A Ab):A Ab:=(Ca (Ca l [32]).2.1 [32]).2.1
def zcM (l:A Ab):Ee:=(Ca l [32]).2.2 && ((Ca (Ca l [32]).2.1 [32]).2.2 && (Ec yG (D.p2 l) && (decide (D.p3 l=xK) && (decide (1<=Z (D.p1 l)) && (decide (Z (D.p1 l)<=8) && decide ((D.p2 l).head?=V 47))))))
def yl (l:A Ab):Ee:=zcM l && Ec xS (D.p1 l)
def jt (cs:Fh Aj)(o:Ad)(l:A Ab):Fh Aj:=if yl l then (cs.setIfInBounds o (I (Aa (D.p1 l)))).setIfInBounds (o+1) (I (Aa (D.p2 l))) else cs
theorem zg7 {a:Fh Aj}{T:Cs}(c:w.heap[b]?=V (Ae a T))(x y:Aj):((w.setCell ⟨b,o,S⟩ x).setCell ⟨b,o+1,S⟩ y).heap[b]?=V (Ae ((a.setIfInBounds o x).setIfInBounds (o+1) y) T)/\w.grownBy ((w.setCell ⟨b,o,S⟩ x).setCell ⟨b,o+1,S⟩ y) (V b):=by grind[zH,zD,zF]
theorem zfX (l:A Ab){p:Fh Aj}{T:Cs}(hb:w.heap[b]?=V (Ae p T))(ho:o+1<p.size)(hs:Z l<=3000):Am prog 251 #[Al (V ⟨b,o,S⟩),I (Aa l)] w fun e w'=>e=Af (I (Aa (qj (yl l))))/\w'.heap[b]?=V (Ae (jt p o l) T)/\w.grownBy w' (V b):=by
 have r:=hid (mC l 32 w (by omega));obtain⟨l1,l2⟩:=fS l 32;obtain⟨l3,l4⟩:=fS (Ca l [32]).2.1 32;have z:Y (∀W,Am prog 254 #[I (Aa (Ca l [32]).2.1),O Bp (32:Ab).toNat] W fun e w'=>e=Af (Cm #[I (Aa (D.p2 l)),I (Aa (D.p3 l)),Av (Ca (Ca l [32]).2.1 [32]).2.2])/\W.grownBy w' S):=fun W=>mC _ 32 W (by omega)
 have F:Y (∀W,Am prog 314 #[I (Aa (D.p2 l)),Av false] W fun e w'=>e=Af (Av (Ec yG (D.p2 l)))/\w'=W):=fun W=>by
  have h:=od (Aa (D.p2 l)) false W (by rw[Bz];unfold Bh;show(Z (Ca (Ca l [32]).2.1 [32]).1)<=_;omega);rw[Be] at h;exact h
 have a:Y (zcM l=((Ca l [32]).2.2 && ((Ca (Ca l [32]).2.1 [32]).2.2 && (Ec yG (D.p2 l) && (decide (D.p3 l=xK) && (decide (1<=Z (D.p1 l)) && (decide (Z (D.p1 l)<=8) && decide ((D.p2 l).head?=V 47)))))))):=rfl;have u:Y (yl l=(zcM l && Ec xS (D.p1 l))):=rfl;have n:Y (jt p o l=if yl l then (p.setIfInBounds o (I (Aa (D.p1 l)))).setIfInBounds (o+1) (I (Aa (D.p2 l))) else p):=rfl;have ai:Z (D.p1 l)<=3000:=by unfold D.p1;omega
 have ak:Z (D.p2 l)<=3000:=by unfold D.p2;omega
 have e1:(Ca l [32]).1=D.p1 l:=rfl;rw[e1] at r;have q:((Aa (D.p3 l)).toList == [72,84,84,80,47,49,46,49])=decide (D.p3 l=xK):=vC (D.p3 l) xK;have HB:=hid hb;clear l1 l2 l3 l4 e1 hb;generalize jt p o l=cs' at*;generalize yl l=okk at*;generalize zcM l=pre at*;generalize D.p1 l=m at*;generalize D.p2 l=t at*;generalize D.p3 l=v at*;generalize(Ca (Ca l [32]).2.1 [32]).2.2=more at*;generalize Ca l [32]=c1 at*;obtain⟨x1,x2,ok⟩:=c1;simp only at r z a;generalize Ec yG t=good at*;go_in;go_wp2_with fail;refine r.o.mono ?_;rintro e w1 ⟨rfl,g1⟩;have G1:=hid g1;clear r g1;go_wp2_with fail;refine(z.o _).mono ?_;rintro e w2 ⟨rfl,g2⟩;have C:=hid (zD G1.o g2);clear g2 G1;go_wp2_with fail;refine(F.o _).mono ?_;rintro e W2 ⟨rfl,H⟩;obtain rfl:=H.symm;clear H;have hm:=Bz m;have ht:=Bz t;go_upto_region 4 with fail
 go_cut [60] (fun bv wz=>bv=Av (!pre)/\wz=w2)
 ·
  cases ok
  ·go_wp2_with fail
   go_meet
   ·exact⟨by rw[a.o];rfl,rfl⟩
  cases more
  ·go_wp2_with fail
   go_meet
   ·exact⟨by rw[a.o];rfl,rfl⟩
  cases good
  ·go_wp2_with fail
   go_meet
   ·exact⟨by rw[a.o];rfl,rfl⟩
  by_cases B:v=xK
  ·rw[Cf B] at q a
   by_cases h1:1<=Z m
   ·have ab:¬((Z m:Ad):Ak)<1:=by omega
    rw[Cf h1] at a
    by_cases h8:Z m<=8
    ·have ad:¬(8:Ak)<Z m:=by omega
     rw[Cf h8] at a
     cases t with
     |nil=>
      clear B;go_wp2_with fail
      go_meet
      ·exact⟨by rw[a.o];rfl,rfl⟩
     |cons c t'=>
      have ao:(Aa (c::t')).size=Z t'+1:=ht;have aj:¬((Z t':Ad):Ak)+1<1:=by omega
      have am:∀h:0<(Aa (c::t')).size,(Aa (c::t'))[0]'h=c:=fun _=>rfl
      clear ht B
      by_cases hc:c=47
      ·subst hc
       go_wp2_with fail
       go_meet
       ·exact⟨by rw[a.o];rfl,rfl⟩
      ·have ae:¬((c.toNat:Ad):Ak)=47:=fun e=>hc (Hb.1 (by show c.toNat=47;omega))
       have aa:Y (pre=false):=by show _=_;rw[a.o];simp[hc]
       clear hc;go_wp2_with fail
       go_meet
       ·exact⟨by rw[aa.o];first|rfl|simp[ae],rfl⟩
    ·have ad:(8:Ak)<Z m:=by omega
     rw[Ce h8] at a;clear B;go_wp2_with fail
     go_meet
     ·exact⟨by rw[a.o];rfl,rfl⟩
   ·have ab:((Z m:Ad):Ak)<1:=by omega
    rw[Ce h1] at a;clear B;go_wp2_with fail
    go_meet
    ·exact⟨by rw[a.o];rfl,rfl⟩
  ·rw[Ce B] at q a
   clear B;go_wp2_with fail
   go_meet
   ·exact⟨by rw[a.o];rfl,rfl⟩
 ·
  obtain⟨rfl,rfl⟩:=hcut;generalize wc=w2 at*;clear q
  cases pre
  ·have f:Y (okk=false):=u.o
   have j:Y (cs'=p):=by show _=_;rw[n.o,f.o];rfl
   have d:=hid (zE HB.o C.o (by simp));go_wp2;go_ret;exact⟨by rw[f.o];rfl,by rw[j.o];exact d.o,zT C.o _⟩
  ·have s:Y (okk=Ec xS m):=u.o
   have g:Y (Ec xS m=Ec xS (Aa m).data.toList):=by show _=_;rw[Be]
   have d:=hid (zE HB.o C.o (by simp));go_wp2_with fail
   go_loopw [12] (fun iv wr=>∃k:Ad,k<=Z m/\iv=O Ai k/\Y (Ec xS ((Aa m).data.toList.take k)=true)/\wr=w2) (fun iv _=>Z m-(intOf iv).toNat)
   ·exact⟨0,Ax _,rfl,rfl,rfl⟩
   ·
    obtain⟨k,hk,rfl,Q,rfl⟩:=hrel
    by_cases an:k<Z m
    ·have af:(k:Ak)<Z m:=by omega
     have y:k<(Aa m).size:=by omega
     have HN:Y (xS (Aa m)[k].toNat=false->Ec xS (Aa m).data.toList=false):=fun h=>R.all_false y h
     have HY:Y (xS (Aa m)[k].toNat=true->Ec xS ((Aa m).data.toList.take (k+1))=true):=fun h=>R.all_succ y Q.o h
     clear Q;generalize al:(Aa m)[k]=bb at*
     by_cases N:65<=(bb.toNat:Ak)/\(bb.toNat:Ak)<=90
     ·have H4:Y (Ec xS ((Aa m).data.toList.take (k+1))=true):=HY.o (by unfold xS;simp[N.1,N.2])
      have ag:¬(bb.toNat:Ak)<65:=by omega
      have ah:¬(90:Ak)<bb.toNat:=by omega
      clear N;go_wp2_with fail
      go_roundw
      ·exact⟨k+1,by omega,by go_num,H4,by first|rfl|trivial⟩
      ·simp[intOf];omega
     ·have H3:Y (Ec xS (Aa m).data.toList=false):=HN.o (by unfold xS;simp;omega)
      have f:Y (okk=false):=by show _=_;rw[s.o,g.o,H3.o]
      have j:Y (cs'=p):=by show _=_;rw[n.o,f.o];rfl
      by_cases ag:(bb.toNat:Ak)<65
      ·clear N
       go_wp2;go_ret;exact⟨by rw[f.o];rfl,by rw[j.o];exact d.o,zT C.o _⟩
      ·have ah:(90:Ak)<bb.toNat:=by omega
       clear N;go_wp2;go_ret;exact⟨by rw[f.o];rfl,by rw[j.o];exact d.o,zT C.o _⟩
    ·have af:¬(k:Ak)<Z m:=by omega
     have f:Y (okk=true):=by show _=_;rw[s.o,g.o,R.all_done (by omega) Q.o]
     have j:Y (cs'=(p.setIfInBounds o (I (Aa m))).setIfInBounds (o+1) (I (Aa t))):=by show _=_;rw[n.o,f.o];rfl
     have E:=hid (zg7 (o:=o) d.o (I (Aa m)) (I (Aa t)));have f0:wr.frozen? ⟨b,o,S⟩=false:=zG d.o;have c0:∃x,wr.cell? ⟨b,o,S⟩=V x:=⟨p[o],(zB d.o).trans (Fj (by omega))⟩;have c1:∃x,wr.cell? ⟨b,o+1,S⟩=V x:=⟨p[o+1],(zB d.o).trans (Fj (by omega))⟩;obtain⟨x0,c0⟩:=c0;obtain⟨x1,c1⟩:=c1;have f1:(wr.setCell ⟨b,o,S⟩ (I (Aa m))).frozen? ⟨b,o+1,S⟩=false:=zG (zH (i:=o) d.o _);clear Q;go_wp2;go_ret;exact⟨by rw[f.o];rfl,by rw[j.o];exact E.o.1,zD (zT C.o _) E.o.2⟩
def D.sv (x:Hd):Hd:=(x.1,yU x)
def fD (hd:A Hd)(l:A Ab):A Ab:=if xu l then yN (qF l) hd else jn
theorem zj2 (a:A Ab):∀l:A Hd,xY a (l.map D.sv)=xY a l:=fun l=>by
 unfold xY xt;rw[List.filter_map,Bv]
 rfl
theorem cy {a:Fh Aj}(h:a[i]?=V v):a.setIfInBounds i v=a:=by grind
structure D.HPost (w w':Ag) (b o B:Ad) (T:Cs) (cs:Fh Aj) (fv:Aj) (L0:Ak) (hd:A Hd) (l:A Ab):Prop where
 ex:∃fv' L',w'.heap[b]?=V (Ae ((cs.setIfInBounds (o+3) (O Ai L')).setIfInBounds (o+2) fv') T)/\(fD hd l=[]->w'.ownsRow B 185 2 fv' (Z (hd++[qF l])) (zi ((hd++[qF l]).map D.sv))/\L'=if (qF l).1=x5 then xL (qF l).2 else L0)/\(∀k,fv'.ownBlock=V k->fv.ownBlock=V k\/w.heap.size<=k)
 turn:Turn w w' (fun k=>k=b\/fv.ownBlock=V k)
theorem HPost.grown {T:Cs}{a:Fh Aj}{c:Ak}{i:A Hd}{l:A Ab}(q:w.heap[b]?=V (Ae a T))(j:a[o+2]?=V d)(m:a[o+3]?=V (O Ai c))(g:w.grownBy w' S)(f:fD i l≠[]):D.HPost w w' b o B T a d c i l where
 ex:=by
  have n:=cy m;have p:=cy j;exact⟨d,c,by rw[n,p];exact zE q g (by simp),fun h=>absurd h f,fun k hk=>Ay hk⟩
 turn:=⟨g.os,g.tape,g.output,g.size,fun k hk _=>g.block k hk (by simp)⟩
theorem zkF {a:Ag}{d:Ad}{T F:Cs}{m:Fh Aj}{N h:Aj}{u:A Aj}(g:a.heap[b]?=V (Ae m T))(r:a.heap[d]?=V (Ae #[s,N] F))(p:T≠F)(t:Turn w a (fun k=>k=b))(E:w.heap.size<=d)(q:a.ownsRow B F 2 h n u)(C:∀k,h.ownBlock=V k->k<w.heap.size)(L v:Aj) :
  ((a.setCell ⟨b,o+3,S⟩ L).setCell ⟨d,1,S⟩ v).heap[b]?=V (Ae (m.setIfInBounds (o+3) L) T)/\((a.setCell ⟨b,o+3,S⟩ L).setCell ⟨d,1,S⟩ v).heap[d]?=V (Ae #[s,v] F)/\Turn w ((a.setCell ⟨b,o+3,S⟩ L).setCell ⟨d,1,S⟩ v) (fun k=>k=b)/\((a.setCell ⟨b,o+3,S⟩ L).setCell ⟨d,1,S⟩ v).ownsRow B F 2 h n u/\b≠d:=by
 have f:b≠d:=fun e=>by rw[e,r] at g;simp at g;exact p g.2.symm
 have j:=zF a b (o+3) L;have l:=zF (a.setCell ⟨b,o+3,S⟩ L) d 1 v;have x:=zH (i:=o+3) g L;have y:=zE r j (by simpa using fun e=>f e.symm);refine⟨zE x l (by simpa using f),zH (i:=1) y v,(t.step j (fun k hk=>Ay (Bc hk).symm)).step l (fun k hk=>Bf (by have:=Bc hk;omega)),?_,f⟩;have H:=zK q j (fun k hk c=>by
  have e:=Bc c;have z:=q;exact(zI g z p k hk) e.symm)
 exact zK H l (fun k hk c=>by
  have e:=Bc c;have:=C k hk
  omega)
theorem zk0 {l:A Ab}(a:Z l<=3000):Z (qF l).1<=3000/\(Z (qF l).2)<=3000:=by
 obtain⟨b,c⟩:=fS l 58;unfold qF
 constructor
 ·show(Z (Cj (Ca l [58]).1))<=3000
  unfold Cj;rw[Bv];omega
 ·show(Z (Lib.trimB (Ca l [58]).2.1 32))<=3000
  unfold Lib.trimB Lib.trimLeftB Lib.trimRightB;refine Bi (Xh _).length_le ?_;rw[Nv];refine Bi (Xh _).length_le ?_;rw[Nv];omega
variable {cs:Fh Aj}
abbrev Hs4 (a b):=Ae #[I (Aa a),I (Aa b)] 185
theorem ob (l:A Ab)(f:A Hd){T:Cs}{fv:Aj}{L0:Ak}(hb:w.heap[b]?=V (Ae cs T))(hT:T≠185)(c2:cs[o+2]?=V fv)(c3:cs[o+3]?=V (O Ai L0))(hr:w.ownsRow B 185 2 fv (Z f) (zi (f.map D.sv)))(hl:Z l<=3000)(hn:Z f<=12)(hB:B<=w.heap.size) :
  Am prog 252 #[Al (V ⟨b,o,S⟩),I (Aa l)] w fun e w'=>e=Af (I (Aa (fD f l)))/\D.HPost w w' b o B T cs fv L0 f l:=by
 have aq:=hid (mC l 58 w (by omega));obtain⟨l1,l2⟩:=fS l 58;have av:Y (∀W,Am prog 313 #[I (Aa (Ca l [58]).1),Av true] W fun e w'=>e=Af (Av (R.word (Ca l [58]).1 true))/\w'=W):=fun W=>by
  have h:=oR (Aa (Ca l [58]).1) true W (by rw[Bz];unfold Bh;omega);rw[Be] at h;exact h
 have au:Y (∀W,Am prog 314 #[I (Aa (Ca l [58]).2.1),Av true] W fun e w'=>e=Af (Av (Ec yX (Ca l [58]).2.1))/\w'=W):=fun W=>by
  have h:=od (Aa (Ca l [58]).2.1) true W (by rw[Bz];unfold Bh;omega);rw[Be] at h;exact h
 have aj:Y (∀W,Am prog 88 #[I (Aa (Ca l [58]).1)] W fun e w'=>e=Af (I (Aa (qF l).1))/\W.grownBy w' S):=fun W=>by
  have h:=uV (Aa (Ca l [58]).1) W (by rw[Bz];omega);rw[Be] at h;exact h.mono fun e w' ⟨q1,q2⟩=>⟨q1,zt q2⟩
 have an:Y (∀W,Am prog 315 #[I (Aa (Ca l [58]).2.1)] W fun e w'=>e=Af (I (Aa (qF l).2))/\w'=W):=fun W=>og _ W (by omega)
 have ag:Y (xu l=((Ca l [58]).2.2 && (R.word (Ca l [58]).1 true && Ec yX (Ca l [58]).2.1))):=rfl;have d:Y (fD f l=if xu l then yN (qF l) f else jn):=rfl;have t:Y (∀w',w.grownBy w' S->fD f l≠[]->D.HPost w w' b o B T cs fv L0 f l):=fun w' g h=>HPost.grown hb c2 c3 g h
 have ak:Y (∀w' L',w'.heap[b]?=V (Ae (cs.setIfInBounds (o+3) (O Ai L')) T)->Turn w w' (fun k=>k=b)->fD f l≠[]->D.HPost w w' b o B T cs fv L0 f l):=fun w' L' h1 h2 h3=>
  ⟨⟨fv,L',by rw[cy (by rw[Cd,Aw (by omega)];exact c2)];exact h1,fun h=>absurd h h3,fun k hk=>Ay hk⟩,⟨h2.os,h2.tape,h2.output,h2.size,fun k hk hn=>h2.block k hk (fun e=>hn (Ay e))⟩⟩
 have bb:jn≠[]:=by decide
 have aW:Z (qF l).1<=3000/\(Z (qF l).2)<=3000:=zk0 hl;clear l1 l2;generalize fD f l=out at*;generalize xu l=rok at*;generalize R.word (Ca l [58]).1 true=bw at*;generalize Ec yX (Ca l [58]).2.1=bs at*;generalize Ca l [58]=c1 at*;obtain⟨nm,vl,ok⟩:=c1;simp only at aq av au aj an ag;go_in;go_wp2_with fail;refine aq.o.mono ?_;rintro e w1 ⟨rfl,g1⟩;have G1:=hid g1;clear aq g1;go_wp2_with fail;refine(av.o _).mono ?_;rintro e W2 ⟨rfl,r⟩;obtain rfl:=r.symm;clear r;go_wp2_with fail;refine(au.o _).mono ?_;rintro e W2 ⟨rfl,r⟩;obtain rfl:=r.symm;clear r
 by_cases af:rok=true
 ·obtain⟨rfl,rfl,rfl⟩:ok=true/\bw=true/\bs=true:=by
   have h:=ag.o;rw[af] at h
   simpa using h.symm
  rw[Az af] at d;clear af;go_wp2_with fail;refine(aj.o _).mono ?_;rintro e w2 ⟨rfl,g2⟩;have G2:=hid (zD G1.o g2);clear g2 G1;go_wp2_with fail;refine(an.o _).mono ?_;rintro e W2 ⟨rfl,r⟩;obtain rfl:=r.symm;clear r;have aZ:Z (qF l).1<=3000/\(Z (qF l).2)<=3000:=aW;have aN:Y (yN (qF l) f=if (Z f)=12 then j6 else if (qF l).1=uH then uj else if (qF l).1=x5 then yM (qF l) f else if (qF l).1=xw then qj (ya (qF l).2 && !xY (qF l).1 f) else []):=rfl;rw[aN.o] at d;obtain⟨⟨m,p⟩,ay⟩:∃x,x=qF l:=⟨_,rfl⟩;rw[<-ay] at d aZ ⊢;have aL:=hid ay.symm;clear ay aW;simp only at d aZ;have GX:=hid (zD G2.o (Ac w2 (Hs4 m p) S));have aa:=hid (zE hb GX.o (by simp));have F:=hid (zK hr GX.o (fun k hk c=>by cases c));have HX:Y ((w2.alloc (Hs4 m p)).heap[w2.heap.size]?=V (Hs4 m p)):=Bn _ _;have be:=G2.o.size;have aE:Y (∀k,fv.ownBlock=V k->k<w.heap.size):=fun k hk=>(An hr k hk).2
  clear hb hr;go_upto_region 7 with fail;generalize w2.alloc (Hs4 m p)=wX at*;generalize w2.heap.size=xb at*;obtain⟨va,vk,rfl⟩:=zL F.o;have k2:wX.cell? ⟨b,o+2,S⟩=V (X va (Z f) vk):=(zB aa.o).trans c2;have aD:=hid (sV m (f.map D.sv) k2 (zo (by rw[Bv];exact F.o) (Ax _)) (by rw[Bv];omega));have k0:=cbi 0 HX.o;have k1:=cbi 1 HX.o;have bc:=(rT m (f.map D.sv)).trans (zj2 m f);go_wp2_with fail;refine aD.o.mono ?_;rintro e W2 ⟨rfl,r⟩;obtain rfl:=r.symm;clear aD r;generalize ud m (f.map D.sv)=fi at*;have q1:((Aa m).toList == [116,114,97,110,115,102,101,114,45,101,110,99,111,100,105,110,103])=decide (m=uH):=vC m uH;have q2:((Aa m).toList == [99,111,110,116,101,110,116,45,108,101,110,103,116,104])=decide (m=x5):=vC m x5;have q3:((Aa m).toList == [104,111,115,116])=decide (m=xw):=vC m xw;go_upto_region 8 with fail;clear bc
  by_cases aw:Z f=12
  ·have n:Y (out=j6):=by show _=_;rw[d.o,Az aw]
   have s:=hid (t.o wX GX.o (by rw[n.o];decide));have ba:(12:Ak)<=Z f:=by omega
   clear aw;go_wp2;go_ret;exact⟨by rw[n.o];rfl,s.o⟩
  ·have ba:¬(12:Ak)<=Z f:=by omega
   rw[Aw aw] at d
   go_upto_block 0 with fail
   go_cut [10,11] (fun pv _ wz=>pv=Al (V ⟨xb,0,S⟩)/\Y (out=[])/\∃L',Y (L'=if m=x5 then xL p else L0)/\Y (wz.heap[b]?=V (Ae (cs.setIfInBounds (o+3) (O Ai L')) T))/\Y (wz.heap[xb]?=V (Ae #[I (Aa m),I (Aa (yU (m,p)))] 185))/\Y (Turn w wz (fun k=>k=b))/\Y (wz.ownsRow B 185 2 (X va (Z f) vk) (Z f) (zi (f.map D.sv))))
   ·
    have aY:=hid (cy c3);have am:Y (Turn w wX (fun k=>k=b)):=⟨GX.o.os,GX.o.tape,GX.o.output,GX.o.size,fun k hk _=>GX.o.block k hk (by simp)⟩
    by_cases Q:m=uH
    ·have n:Y (out=uj):=by show _=_;rw[d.o,Az Q]
     have s:=hid (t.o wX GX.o (by rw[n.o];decide));rw[Cf Q] at q1;clear Q;go_wp2;go_ret;exact⟨by rw[n.o];rfl,s.o⟩
    ·rw[Aw Q] at d
     rw[Ce Q] at q1
     by_cases y:m=x5
     ·rw[Az y] at d
      rw[Cf y] at q2;have ab:Y (out=if xY m f || !zm p then jn else if 300<xL p then wl else []):=d.o;have aC:Y (∀W,Am prog 316 #[I (Aa p)] W fun e w'=>e=Af (Av (zm p))/\w'=W):=fun W=>by
       have h:=nh (Aa p) W (by rw[Bz];unfold Bh;omega);rw[Be] at h;exact h
      have aA:=hid y;clear Q q3 y;go_wp2_with fail;refine(aC.o _).mono ?_;rintro e W2 ⟨rfl,r⟩;obtain rfl:=r.symm;clear r
      by_cases v:(xY m f || !zm p)=true
      ·have n:Y (out=jn):=by show _=_;rw[ab.o,Az v]
       have s:=hid (t.o wX GX.o (by rw[n.o];decide));generalize xY m f=bh at*;generalize zm p=bn at*
       cases bh
       ·cases bn
        ·go_wp2
         go_ret;exact⟨by rw[n.o];rfl,s.o⟩
        ·exact absurd v (by decide)
       ·go_wp2
        go_ret;exact⟨by rw[n.o];rfl,s.o⟩
      ·obtain⟨aU,ax⟩:xY m f=false/\zm p=true:=by simpa using v
       obtain⟨_,n1,n2,n3⟩:=rJ ax;rw[Aw v] at ab;rw[aU,ax];clear v aU ax;have aG:Y (∀a c W,Am prog 132 #[.agg #[a,I (Aa p),c]] W fun e w'=>e=Af (O Ai (xL p))/\W.grownBy w' S):=fun a c W=>by
        have h:=ut a c (Aa p) W (by rw[Bz];omega);rw[Be] at h;exact h
       have aB:Y (∀W,Am prog 91 #[O Ai (xL p)] W fun e w'=>e=Af (I (Aa (R.decI (xL p))))/\w'=W):=fun W=>ko (xL p) W ⟨n1,n2⟩
       have ah:Y (yU (m,p)=R.decI (xL p)):=by show _=_;unfold yU;rw[aA.o,Aw (by show ¬x5=xw;decide),Az rfl]
       have HL:Y (xL p=if m=x5 then xL p else L0):=by show _=_;rw[Az aA.o]
       generalize xL p=nv at*;go_wp2_with fail;refine(aG.o _ _ _).mono ?_;rintro e w4 ⟨rfl,g4⟩;have C:=hid (zE aa.o g4 (by simp));have H:=hid (zE HX.o g4 (by simp));have ae:=hid (zK F.o g4 (fun k hk c=>by cases c));have aP:Y (Turn w w4 (fun k=>k=b)):=am.o.step g4 (fun k hk=>by cases hk);obtain⟨s1,s2,s3,s4,ao⟩:=zkF (o:=o) C.o H.o hT aP.o be ae.o aE.o (O Ai nv) (I (Aa (R.decI nv)));have S1:=hid s1;have S2:=hid s2;have S3:=hid s3;have S4:=hid s4;have m3:w4.cell? ⟨b,o+3,S⟩=V (O Ai L0):=(zB C.o).trans c3;have f3:w4.frozen? ⟨b,o+3,S⟩=false:=zG C.o;have e5:=zH (i:=o+3) C.o (O Ai nv);have e6:=zE H.o (zF w4 b (o+3) (O Ai nv)) (by simpa using fun e=>ao e.symm);have m5:=cbi 1 e6;have f5:=zm9 1 e6;have m6:(w4.setCell ⟨b,o+3,S⟩ (O Ai nv)).cell? ⟨b,o+3,S⟩=V (O Ai nv):=(zB e5).trans (by rw[Cd,Az rfl,Az (Gy.1 c3).1]);have m7:((w4.setCell ⟨b,o+3,S⟩ (O Ai nv)).setCell ⟨xb,1,S⟩ (I (Aa (R.decI nv)))).cell? ⟨b,o+3,S⟩=V (O Ai nv):=(zB s1).trans (by rw[Cd,Az rfl,Az (Gy.1 c3).1]);clear g4 C H ae s1 s2 s3 s4 e5 e6 aa F k0 k1 k2;go_wp2_with fail;refine(aB.o _).mono ?_;rintro e W2 ⟨rfl,r⟩;obtain rfl:=r.symm;clear r
       by_cases aS:300<nv
       ·have n:Y (out=wl):=by show _=_;rw[ab.o,Az aS]
        have s:=hid (ak.o _ nv S1.o S3.o (by rw[n.o];decide));go_wp2;go_ret;exact⟨by rw[n.o];rfl,s.o⟩
       ·have n:Y (out=[]):=by show _=_;rw[ab.o,Aw aS]
        go_wp2_with fail
        go_meet
        ·exact⟨rfl,n,nv,HL,S1,by rw[ah.o];exact S2,S3,S4⟩
     ·rw[Aw y] at d
      rw[Ce y] at q2
      by_cases N:m=xw
      ·rw[Az N] at d
       rw[Cf N] at q3;have aF:Y (∀W,Am prog 317 #[I (Aa p)] W fun e w'=>e=Af (Av (ya p))/\W.grownBy w' S):=fun W=>zbZ p W (by omega)
       have ar:Y (∀W,Am prog 88 #[I (Aa p)] W fun e w'=>e=Af (I (Aa (Cj p)))/\W.grownBy w' S):=fun W=>by
        have h:=uV (Aa p) W (by rw[Bz];omega);rw[Be] at h;exact h.mono fun e w' ⟨q1,q2⟩=>⟨q1,zt q2⟩
       have ah:Y (yU (m,p)=Cj p):=by show _=_;unfold yU;rw[Az N]
       have HL:Y (L0=if m=x5 then xL p else L0):=by show _=_;rw[Aw y]
       clear Q y N;go_wp2_with fail;refine(aF.o _).mono ?_;rintro e w4 ⟨rfl,g4⟩;have G4:=hid (zD GX.o g4);have C:=hid (zE aa.o g4 (by simp));have H:=hid (zE HX.o g4 (by simp));have ae:=hid (zK F.o g4 (fun k hk c=>by cases c));have j1:=cbi 1 H.o;clear g4 aa F k0 k1 k2 GX
       by_cases hg:(ya p && !xY m f)=true
       ·obtain⟨h1,h2⟩:ya p=true/\xY m f=false:=by simpa using hg
        have n:Y (out=[]):=by show _=_;rw[d.o,hg];rfl
        rw[h1,h2];clear hg h1 h2;go_wp2_with fail;refine(ar.o _).mono ?_;rintro e w5 ⟨rfl,g5⟩;have G5:=hid (zD G4.o g5);have ap:=hid (zE C.o g5 (by simp));have ai:=hid (zE H.o g5 (by simp));have aK:=hid (zK ae.o g5 (fun k hk c=>by cases c));have aQ:Y (Turn w w5 (fun k=>k=b)):=⟨G5.o.os,G5.o.tape,G5.o.output,G5.o.size,fun k hk _=>G5.o.block k hk (by simp)⟩;have m5:=cbi 1 ai.o;have f5:=zm9 1 ai.o;have gs:=zF w5 xb 1 (I (Aa (Cj p)));have ao:b≠xb:=fun e=>by have h9:=ap.o;rw[e,ai.o] at h9;simp at h9;exact hT h9.2.symm
        have S1:=hid (zE ap.o gs (by simpa using ao));have S2:Y ((w5.setCell ⟨xb,1,S⟩ (I (Aa (Cj p)))).heap[xb]?=V (Ae #[I (Aa m),I (Aa (Cj p))] 185)):=zH (i:=1) ai.o _;have S3:=hid (aQ.o.step gs (fun k hk=>Bf (by have:=Bc hk;omega)));have S4:=hid (zK aK.o gs (fun k hk c=>by have e:=Bc c;have:=aE.o k hk;omega));clear g5 G5 ap ai aK gs C H ae G4 j1 ao;go_wp2_with fail
        go_meet
        ·exact⟨rfl,n,L0,HL,by rw[aY.o];exact S1,by rw[ah.o];exact S2,S3,S4⟩
       ·have n:Y (out=jn):=by
         show _=_;rw[d.o,show(ya p && !xY m f)=false by simpa using hg]
         rfl
        have s:=hid (t.o w4 G4.o (by rw[n.o];decide));clear C H ae;generalize xY m f=bh at*;generalize ya p=bn at*
        cases bh
        ·cases bn
         ·go_wp2
          go_ret;exact⟨by rw[n.o];rfl,s.o⟩
         ·exact absurd rfl hg
        ·go_wp2
         go_ret;exact⟨by rw[n.o];rfl,s.o⟩
      ·rw[Aw N] at d
       rw[Ce N] at q3;have ah:Y (yU (m,p)=p):=by show _=_;unfold yU;rw[Aw N,Aw y]
       have HL:Y (L0=if m=x5 then xL p else L0):=by show _=_;rw[Aw y]
       clear Q N y;go_wp2_with fail
       go_meet
       ·exact⟨rfl,d,L0,HL,by rw[aY.o];exact aa,by rw[ah.o];exact HX,am,F⟩
   ·
    obtain⟨rfl,HO,L',HL,HB,HX,ad,a7⟩:=hcut;clear aa F q1 q2 q3 k0 k1 k2 GX G2;generalize wc=w3 at*;have aO:Y (zi (f.map D.sv)++[I (Aa m),I (Aa (yU (m,p)))]=zi ((f++[(m,p)]).map D.sv)):=by
     show _=_;rw[Ef];exact(yW (f.map D.sv) (D.sv (m,p))).symm
    generalize yU (m,p)=sv at*;obtain⟨i0,hi,bf,bg,bi⟩:=Ej aM;have bj:=ad.o.size;have gX:=hid (zD (Ac w3 (Hs4 m sv) S) (zV (w3.alloc (Hs4 m sv))));have aI:=J (zK a7.o gX.o (fun k hk c=>by cases c));have a5:Y (∀j u,([I (Aa m),I (Aa sv)]:A Aj)[j]?=V u->(w3.alloc (Hs4 m sv)).drew.cell? ((⟨w3.heap.size,0,S⟩:Eu).add j)=V u):=zZ w3 #[_,_] _ _ rfl;have a0:Y (∀u∈([I (Aa m),I (Aa sv)]:A Aj),u.oneCell'=true):=fun u hu=>by simp at hu;rcases hu with rfl | rfl <;> rfl
    have a4:Y (Z f+1<=Bh):=by show _<=_;unfold Bh;omega
    have a9:Y ((Z f+1)*32<=140737488355328):=by show _<=_;omega
    have aR:Y ((w3.alloc (Hs4 m sv)).drew.heap.size=w3.heap.size+1):=by show _=_;simp
    have a1:Y (B<=(w3.alloc (Hs4 m sv)).drew.heap.size):=by show _<=_;rw[aR.o];omega
    have al:=hid (zE HB.o gX.o (by simp));have az:=hid (zI al.o aI.o hT);have cc:(cs.setIfInBounds (o+3) (O Ai L'))[o+2]?=V (X va (Z f) vk):=by rw[Cd,Aw (by omega)];exact c2
    have k2:w3.cell? ⟨b,o+2,S⟩=V (X va (Z f) vk):=(zB HB.o).trans cc;have b0:=cbi 0 HX.o;have b1:=cbi 1 HX.o;have kX:(w3.alloc (Hs4 m sv)).drew.cell? ⟨b,o+2,S⟩=V (X va (Z f) vk):=(zB al.o).trans cc;have a2:Y (∀g9 z w9,w9.ownsRow B 185 2 (X (V ⟨g9,0,S⟩) (Z f+1) z) (Z f+1) (zi (f.map D.sv)++[I (Aa m),I (Aa sv)])->(w3.alloc (Hs4 m sv)).drew.grownBy w9 (X va (Z f) vk).ownBlock->((X va (Z f) vk).ownBlock=V g9\/g9=w3.heap.size+1)->D.HPost w (w9.setCell ⟨b,o+2,S⟩ (X (V ⟨g9,0,S⟩) (Z f+1) z)) b o B T cs (X va (Z f) vk) L0 f l):=fun g9 z w9 ho hg hat=>by
     have aV:=zw al.o hg az.o;have gs:=zF w9 b (o+2) (X (V ⟨g9,0,S⟩) (Z f+1) z);have tW:Turn w w3 (fun k=>k=b\/(X va (Z f) vk).ownBlock=V k):=⟨ad.o.os,ad.o.tape,ad.o.output,ad.o.size,fun k hk hn=>ad.o.block k hk (fun e=>hn (Ay e))⟩;refine⟨⟨(X (V ⟨g9,0,S⟩) (Z f+1) z),L',zH (i:=o+2) aV _,fun _=>⟨?_,by rw[aL.o];exact HL.o⟩,fun k hk=>?_⟩,((tW.step gX.o (fun k hk=>by cases hk)).step hg (fun k hk=>Ay (Bf hk))).step gs (fun k hk=>Ay (Ay (Bc hk).symm))⟩
     ·have h1:=zJ ho gs (zI aV ho hT)
      rw[aO.o] at h1;rw[aL.o,Ah];exact h1
     ·have e9:g9=k:=Bc hk
      subst e9;rcases hat with q | q
      ·exact Ay q
      ·exact Bf (by omega)
    clear ad HB;go_upto_region 26 with fail
    go_region_law (refine step_append_lies _ rfl (.tmp 100) (.tmp 102) 124 rfl B 185 i0 _ 2 32 underlying124 hi bf bg bi rfl (by decide) _ _ _ (by simp[Im]) aI.o ⟨w3.heap.size,0,S⟩ 1 1 [I (Aa m),I (Aa sv)] (by simp[Im]) rfl a5.o a0.o (by decide) a4.o a9.o a1.o (w3.heap.size+1) aR.o ?_;intro g9 z w9 aX E aT bd;have a6:=hid aX;have a3:=hid E;have a8:=hid aT;have aJ:=hid (zw al.o E az.o);have q9:w9.cell? ⟨b,o+2,S⟩=V (X va (Z f) vk):=(zB aJ.o).trans cc;have f9:w9.frozen? ⟨b,o+2,S⟩=false:=zG aJ.o;clear aX E aT bd)
    all_goals
     go_wp2;go_ret;exact⟨by rw[HO.o];rfl,a2.o _ _ _ a6.o a3.o a8.o⟩
 ·have n:Y (out=jn):=by show _=_;rw[d.o,Aw af]
  have s:=hid (t.o w1 G1.o (by rw[n.o];exact bb));have aH:Y (rok=false):=by show _=_;simpa using af
  rw[aH.o] at ag;clear af
  cases ok
  ·go_wp2
   go_ret;exact⟨by rw[n.o];rfl,s.o⟩
  cases bw
  ·go_wp2
   go_ret;exact⟨by rw[n.o];rfl,s.o⟩
  cases bs
  ·go_wp2
   go_ret;exact⟨by rw[n.o];rfl,s.o⟩
  exact absurd ag.o (by decide)
def D.ln (ln:A Ab):A Ab:=if (qQ ln 13).2 then (qQ ln 13).1 else []
theorem zcK (t:A Ab)(c:Ab):qQ (t++[c]) 13=if c=13 then (t,true) else (t++[c],false):=by
 unfold qQ;have e:Ov (t++[c]) [13]=decide (c=13):=by
  unfold Ov;rw[Eb];simp;exact⟨fun h=>h.symm,fun h=>h.symm⟩
 rw[e]
 by_cases h:c=13
 ·rw[Az h,Az (by simpa using h)]
  simp
 ·rw[Aw h,Aw (by simpa using h)]
theorem ziN (p a:A Ab)(n:∀(i:Ad) (u:Ab),(p++(a++[10]))[i]?=V u->w.cell? ⟨g,i,S⟩=V (O Bp u.toNat))(hp:p=[]\/∃q,p=q++[10])(z:∀c∈a,c≠10)(hl:Z p+Z a+1<=100000)(v:Z p+Z a+1<=f):Am prog 250 #[X (V ⟨g,0,S⟩) (Z p+Z a+1) f] w fun e w'=>e=Af (Cm #[I (Aa (D.ln a)),Av (qQ a 13).2])/\w'=w:=by
 have b:Y (∀i (h:i<Z a),w.cell? ⟨g,Z p+i,S⟩=V (O Bp a[i].toNat)/\a[i]≠10):=fun i h=>by
  refine⟨n (Z p+i) a[i] ?_,z _ (Cr h)⟩;rw[Cl (by omega),Ow,Cx h,Bd h]
 have C:Y (∀q,p=q++[10]->w.cell? ⟨g,Z q,S⟩=V (O Bp 10)):=fun q e=>by
  subst e;refine n (Z q) 10 ?_;rw[Bl,Cl (Aq _),Gp]
  rfl
 have o:Y (D.ln a=if (qQ a 13).2 then (qQ a 13).1 else []):=rfl;clear n z;generalize D.ln a=res at*;go_in
 go_upto_block 0 with fail
 have aa:(((Z p+Z a+1:Ad):Ak)-1)=((Z p+Z a:Ad):Ak):=by omega
 go_cut [5] (fun fv wz=>fv=O Ai (Z p:Ad)/\Y (wz=w))
 ·
  go_wp2_with fail
  go_loopw [5] (fun fv wr=>∃j:Ad,j<=Z a/\fv=O Ai (Z p+j:Ad)/\wr=w) (fun fv _=>(intOf fv).toNat)
  ·exact⟨Z a,Aq _,by first|rfl|(congr 1;omega),rfl⟩
  ·
   obtain⟨j,hj,rfl,rfl⟩:=hrel
   cases j with
   |zero=>
    rcases hp with rfl|⟨q,rfl⟩
    ·have h0:(Z ([]:A Ab)+0:Ad)=0:=rfl
     go_wp2_with fail
     go_meet
     ·exact⟨rfl,by first|rfl|trivial⟩
    ·have cq:=C.o q rfl
     have B:(Z (q++[10])+0:Ad)=Z q+1:=by simp
     rw[B];have aj:(0:Ak)<((Z q+1:Ad):Ak):=by omega
     have ai:Z (q++[10])=Z q+1:=by simp
     have ak:(Z q:Ak)<((Z q+1:Ad)+Z a+1:Ad):=by omega
     clear B;go_wp2_with fail
     go_meet
     ·exact⟨by first|rfl|(congr 1;simp),by first|rfl|trivial⟩
   |succ i=>
    obtain⟨cc,l⟩:=b.o i (by omega);have H:¬((a[i].toNat:Ad):Ak)=10:=fun e=>l (Hb.1 (by show a[i].toNat=10;omega))
    generalize a[i]=c at*;obtain⟨m,hm⟩:∃m,m=Z p+i:=⟨_,rfl⟩;rw[<-hm] at cc;rw[show (Z p)+(i+1)=m+1 by omega];have ag:(0:Ak)<((m+1:Ad):Ak):=by omega
    have ah:(m:Ak)<((Z p+Z a+1:Ad):Ak):=by omega
    have HM:=hid hm;have af:m+1<=100000:=by omega
    clear hm l;go_wp2_with fail
    go_roundw
    ·exact⟨i,by omega,by rw[<-HM.o],by first|rfl|trivial⟩
    ·simp[intOf]
 ·
  obtain⟨rfl,E⟩:=hcut;have d:Y (∀i (h:i<Z a),wc.cell? ⟨g,Z p+i,S⟩=V (O Bp a[i].toNat)):=by
   rw[E.o];exact fun i h=>(b.o i h).1
  clear hp;rcases gT a with rfl|⟨t,c,rfl⟩
  ·have s:=J (o.o)
   have e0:Z ([]:A Ab)=0:=rfl;go_wp2
   go_ret2
   exact⟨by rw[s.o];rfl,E.o⟩
  ·have x:∀i (h:i<Z t),wc.cell? ⟨g,Z p+i,S⟩=V (O Bp t[i].toNat):=fun i h=>by
    have F:=d.o i (by simp;omega);rw[List.getElem_append_left h] at F;exact F
   have N:wc.cell? ⟨g,Z p+Z t,S⟩=V (O Bp c.toNat):=by
    have F:=d.o (Z t) (by simp)
    simpa using F
   have y:Z (t++[c])=Z t+1:=by simp
   have r:=hid (zcK t c);have Q:g<wc.heap.size:=by
    have:=Mk wc _ N;exact this
   have cv:(convert 32 9 (X (V ⟨g,Z p,S⟩) (Z t) (f-Z p))).run prog wc = .ok (I (Aa t)) wc:=j8 (Bf ⟨g,Z p,f-Z p,rfl,by omega,Q,fun j u hu=>by
    obtain⟨hj,rfl⟩:=Bo.1 hu;exact x j hj⟩)
   rw[y] at hl v aa ⊢;have j1:¬((Z p:Ad):Ak)+((Z t+1:Ad):Ak)=(Z p:Ad):=by omega
   clear x
   by_cases k:c=13
   ·subst k
    rw[Az rfl] at r;have s:Y (res=t):=by show _=_;rw[o.o,r.o];rfl
    go_wp2
    go_ret2
    exact⟨by rw[s.o,r.o];rfl,E.o⟩
   ·rw[Aw k] at r
    have s:Y (res=[]):=by show _=_;rw[o.o,r.o];rfl
    have ab:¬((c.toNat:Ad):Ak)=13:=fun e=>k (Hb.1 (by show c.toNat=13;omega))
    have ad:=Ch.2 (by omega);have ae:(((c.toNat:Ad):Ak) != 13)=true:=by simp;omega
    clear k cv;go_wp2
    go_ret2
    exact⟨by rw[s.o,r.o];rfl,E.o⟩
theorem zeF (l:A Ab)(c:Ab):Es l [c] = -1\/∃i:Ad,Es l [c]=i:=by
 induction l with
 |nil=>exact Ay rfl
 |cons b l ih=>
  unfold Es
  by_cases h:List.isPrefixOf [c] (b::l)=true
  ·rw[Az h];exact Bf ⟨0,rfl⟩
  ·rw[Aw h]
   rcases ih with e|⟨i,e⟩
   ·rw[e];exact Ay rfl
   ·rw[e,Aw (by simp)]
    exact Bf ⟨i+1,by omega⟩
theorem ky (l:A Ab):yI l=if (Ca l [32]).2.2 then (Ca l [32]).1::yI (Ca l [32]).2.1 else [l]:=by
 have e:Ca l [32]=if 0<=Es l [32] then (l.take (Es l [32]).toNat,l.drop ((Es l [32]).toNat+1),true) else (l,[],false):=rfl;unfold yI;rcases zeF l 32 with h|⟨i,h⟩
 ·have a:=Lib.count_miss h
  rw[e,h,a]
  rfl
 ·have a:=Lib.count_hit (sub:=[32]) (by decide) h
  rw[e,h,Az (Sj i),a];show Lib.splitK [32] 0 (1+Lib.count (l.drop (i+1)) [32]) l=_;rw[Nat.add_comm,Lib.splitK,h,Aw (by simp)]
  rfl
theorem ru {v:A Ab}(h:(Ca v [32]).2.2=false):yI v=[v]:=by rw[ky,h];rfl
theorem zgI:yI xK=[xK]:=ru (by decide)
theorem zeO (v:A Ab)(h:(Ca v [32]).2.2=true):∃a b r,yI v=a::b::r:=by
 rw[ky,h,Az rfl,ky]
 split
 ·exact⟨_,_,_,rfl⟩
 ·exact⟨_,_,_,rfl⟩
theorem pre47 (t:A Ab):Mx t [47]=decide (t.head?=V 47):=by
 unfold Mx
 cases t with
 |nil=>rfl
 |cons c t=>
  rw[Eb];simp;exact⟨fun h=>h.symm,fun h=>h.symm⟩
theorem zlQ (m:A Ab):decide (m≠[])=decide (1<=Z m):=by grind
abbrev Hsb (a):=Ca (Ca a [32]).2.1 [32]
theorem fU (l:A Ab):(yl l=true->yI l=[D.p1 l,D.p2 l,D.p3 l])/\xo l=yl l:=by
 have b:D.p1 l=(Ca l [32]).1:=rfl;have c:D.p2 l=(Hsb l).1:=rfl;have d:D.p3 l=(Hsb l).2.1:=rfl;have f:yl l=(((Ca l [32]).2.2 && ((Hsb l).2.2 && (Ec yG (D.p2 l) && (decide (D.p3 l=xK) && (decide (1<=Z (D.p1 l)) && (decide (Z (D.p1 l)<=8) && decide ((D.p2 l).head?=V 47))))))) && Ec xS (D.p1 l)):=rfl;have g:=ky l;have a:=ky (Ca l [32]).2.1
 grind[D.p1,D.p2,D.p3,yl,yG,xK,xS,ky,xo,xr,yk,zeO,zgI,yI,ru,pre47,zlQ]
theorem zgW (h:Rq.Head)(l:A Ab):yH h l=if yl l then { h with method:=D.p1 l,target:=D.p2 l } else h:=by grind[fU,yl,yH,xo,xr,yk,xK,Rq.Head,D.p1,D.p2]
structure D.QAt (w:Ag) (o B:Ad) (cs:Fh Aj) (h:Rq.Head):Prop where
 m:cs[o]?=V (I (Aa h.method))
 t:cs[o+1]?=V (I (Aa h.target))
 f:∃fv,cs[o+2]?=V fv/\w.ownsRow B 185 2 fv (Z h.headers) (zi (h.headers.map D.sv))
 l:cs[o+3]?=V (O Ai (yi h))
 a4:cs[o+4]?=V (I ⟨#[]⟩)
 a5:cs[o+5]?=V (I ⟨#[]⟩)
structure D.LPost (w w':Ag) (b o B:Ad) (T:Cs) (cs:Fh Aj) (h':Rq.Head) (out:A Ab):Prop where
 ex:∃cs',w'.heap[b]?=V (Ae cs' T)/\cs'.size=cs.size/\(∀j,j<o\/o+6<=j->cs'[j]?=cs[j]?)/\(out=[]->D.QAt w' o B cs' h')/\∀fv' k,cs'[o+2]?=V fv'->fv'.ownBlock=V k->(∃fv,cs[o+2]?=V fv/\fv.ownBlock=V k)\/w.heap.size<=k
 turn:Turn w w' (fun k=>k=b\/∃fv,cs[o+2]?=V fv/\fv.ownBlock=V k)
theorem eS (l:A Ab):((Aa l).toList == [])=decide (l=[]):=vC l []
theorem zgZ {a:A Hd}{x:Hd}(h:yN x a=[]):xL (xZ x5 (a++[x]))=if x.1=x5 then xL x.2 else xL (xZ x5 a):=by
 unfold xZ xt;rw[Nj]
 by_cases b:x.1=x5
 ·rw[Az b]
  unfold yN at h;have i:¬x.1=uH:=by rw[b];decide
  by_cases c:Z a=12
  ·rw[Az c] at h;exact absurd h (by decide)
  ·rw[Aw c,Aw i,Az b] at h
   unfold yM at h
   by_cases f:(xY x.1 a || !zm x.2)=true
   ·rw[Az f] at h;exact absurd h (by decide)
   ·have g:xY x.1 a=false:=by
     cases e:xY x.1 a with
     |false=>rfl
     |true=>rw[e] at f;exact absurd rfl f
    have d:a.filter (fun h=>decide (h.1=x5))=[]:=by
     rw[b] at g;unfold xY xt at g;have:=of_decide_eq_false g;exact Ep.1 (by omega)
    have j:[x].filter (fun h=>decide (h.1=x5))=[x]:=by
     rw[Mp,Az (by simpa using b)];rfl
    rw[d,j]
    rfl
 ·rw[Aw b]
  have j:[x].filter (fun h=>decide (h.1=x5))=[]:=by
   rw[Mp,Aw (by simpa using b)];rfl
  rw[j,Cv]
variable {h:Rq.Head}
theorem LPost.grown {T:Cs}{a:Fh Aj}{d:Rq.Head}{out:A Ab}(p:w.heap[b]?=V (Ae a T))(q:D.QAt w o B a h)(g:w.grownBy w' S)(e:out=[]->d=h):D.LPost w w' b o B T a d out where
 ex:=⟨a,zE p g (by simp),rfl,fun _ _=>rfl,fun ho=>by
  rw[e ho];obtain⟨n,i,j⟩:=q.f;exact⟨q.m,q.t,⟨n,i,zK j g (fun k hk c=>by cases c)⟩,q.l,q.a4,q.a5⟩,fun fv' k h1 h2=>Ay ⟨fv',h1,h2⟩⟩
 turn:=⟨g.os,g.tape,g.output,g.size,fun k hk _=>g.block k hk (by simp)⟩
theorem LPost.first {T:Cs}{d:Fh Aj}{s:A Ab}(y:w.heap[b]?=V (Ae d T))(x:T≠185)(q:D.QAt w o B d h)(E:w'.heap[b]?=V (Ae (jt d o s) T))(g:w.grownBy w' (V b)):D.LPost w w' b o B T d (yH h s) (qj (xo s)):=by
 obtain⟨v,u,r⟩:=q.f;have p:=zK r g (fun k hk c=>zI y r x k hk (Bc c).symm);have z:=(Gy.1 q.m).1;have C:=(Gy.1 q.t).1;have a:∀j,j≠o->j≠o+1->(jt d o s)[j]?=d[j]?:=fun j h1 h2=>by
  unfold jt
  split
  ·rw[Cd,Aw (by omega),Cd,Aw (by omega)]
  ·rfl
 refine⟨⟨_,E,?_,fun j hj=>a j (by omega) (by omega),fun ho=>?_,fun fv' k h1 h2=>?_⟩,⟨g.os,g.tape,g.output,g.size,fun k hk hn=>g.block k hk (fun e=>hn (Ay (Bc e)))⟩⟩
 ·unfold jt;split <;> simp
 ·have n:yl s=true:=by
   rw[(fU s).2] at ho
   cases e:yl s with
   |true=>rfl
   |false=>rw[e] at ho;exact absurd ho (by decide)
  rw[zgW,Az n];have i:jt d o s=(d.setIfInBounds o (I (Aa (D.p1 s)))).setIfInBounds (o+1) (I (Aa (D.p2 s))):=by unfold jt;rw[Az n]
  refine⟨?_,?_,⟨v,(a _ (by omega) (by omega)).trans u,p⟩,(a _ (by omega) (by omega)).trans q.l,(a _ (by omega) (by omega)).trans q.a4,(a _ (by omega) (by omega)).trans q.a5⟩
  ·rw[i,Cd,Aw (by omega),Cd,Az rfl,Az z]
  ·rw[i,Cd,Az rfl,Az (by rw[Ff];exact C)]
 ·rw[a _ (by omega) (by omega)] at h1
  exact Ay ⟨fv',h1,h2⟩
theorem LPost.header {T:Cs}{d:Fh Aj}{s:A Ab}(q:D.QAt w o B d h)(v:d[o+2]?=V u)(f:D.HPost w w' b o B T d u (yi h) h.headers s):D.LPost w w' b o B T d (jc h s) (xq h s):=by
 obtain⟨c,r,z,C,E⟩:=f.ex;have p:fD h.headers s=xq h s:=rfl;have N:=(Gy.1 v).1;have Q:=(Gy.1 q.l).1;have a:∀j,j≠o+2->j≠o+3->((d.setIfInBounds (o+3) (O Ai r)).setIfInBounds (o+2) c)[j]?=d[j]?:=fun j e1 e2=>by
  rw[Cd,Aw (by omega),Cd,Aw (by omega)]
 have i:((d.setIfInBounds (o+3) (O Ai r)).setIfInBounds (o+2) c)[o+2]?=V c:=by
  rw[Cd,Az rfl,Az (by rw[Ff];exact N)]
 have x:((d.setIfInBounds (o+3) (O Ai r)).setIfInBounds (o+2) c)[o+3]?=V (O Ai r):=by
  rw[Cd,Aw (by omega),Cd,Az rfl,Az Q]
 refine⟨⟨_,z,by simp,fun j hj=>a j (by omega) (by omega),fun ho=>?_,fun fv9 k e1 e2=>?_⟩,⟨f.turn.os,f.turn.tape,f.turn.output,f.turn.size,fun k hk hn=>f.turn.block k hk (fun e=>hn (by rcases e with e|e;exact Ay e;exact Bf ⟨u,v,e⟩))⟩⟩
 ·obtain⟨F,H⟩:=C (p.trans ho)
  have n:xu s=true:=by
   unfold xq at ho
   cases e:xu s with
   |true=>rfl
   |false=>rw[e] at ho;exact absurd ho (by show ¬jn=[];decide)
  have y:yN (qF s) h.headers=[]:=by
   unfold xq at ho;rw[Az n] at ho;exact ho
  have g:jc h s={ h with headers:=h.headers++[qF s] }:=by unfold jc;rw[Az n]
  rw[g];refine⟨(a _ (by omega) (by omega)).trans q.m,(a _ (by omega) (by omega)).trans q.t,⟨c,i,F⟩,?_,(a _ (by omega) (by omega)).trans q.a4,(a _ (by omega) (by omega)).trans q.a5⟩;rw[x,H];show _=V (O Ai (xL (xZ x5 (h.headers++[qF s]))));rw[zgZ y]
  rfl
 ·rw[i] at e1
  cases e1
  rcases E k e2 with e|e
  ·exact Ay ⟨u,v,e⟩
  ·exact Bf e
def za9 (h:Rq.Head)(ln:A Ab):Ee:=(yT h ln).2.1 && decide ((yT h ln).2.2=[])
theorem zfY {ab:Ad}{T:Cs}(p d:A Ab)(N:w.heap[b]?=V (Ae cs T))(hT:T≠185)(q:D.QAt w (o+3) B cs h)(hB:B<=w.heap.size)(ae:cs[o+1]?=V (X (V ⟨g,0,S⟩) (Z p+Z d+1) ab))(af:∀(i:Ad) (u:Ab),(p++(d++[10]))[i]?=V u->w.cell? ⟨g,i,S⟩=V (O Bp u.toNat))(hp:p=[]\/∃q,p=q++[10])(ag:∀c∈d,c≠10)(hl:Z p+Z d+1<=3000)(aj:Z p+Z d+1<=ab)(hn:Z h.headers<=12):Am prog 199 #[Al (V ⟨b,o,S⟩)] w fun e w'=>e=Af (Cm #[I (Aa (yT h d).2.2),Av (za9 h d)])/\D.LPost w w' b (o+3) B T cs (yT h d).1 (yT h d).2.2:=by
 have aa:=hid (ziN p d af hp ag (by omega) aj);have F:Y (D.ln d=if (qQ d 13).2 then (qQ d 13).1 else []):=rfl;have al:=pI d 13;have j:Y (yT h d=if (qQ d 13).2 then if h.method=[] then (yH h (qQ d 13).1,false,qj (xo (qQ d 13).1)) else if (qQ d 13).1=[] then (h,true,qj (xY xw h.headers)) else (jc h (qQ d 13).1,false,xq h (qQ d 13).1) else (h,false,jn)):=rfl;have k:Y (za9 h d=((yT h d).2.1 && decide ((yT h d).2.2=[]))):=rfl;obtain⟨fv,f1,f2⟩:=q.f;have y:Y (∀s:A Ab,Z s<=3000->Am prog 251 #[Al (V ⟨b,o+3,S⟩),I (Aa s)] w fun e w'=>e=Af (I (Aa (qj (xo s))))/\D.LPost w w' b (o+3) B T cs (yH h s) (qj (xo s))):=fun s hs=>by
  refine(zfX s N (Gy.1 q.t).1 hs).mono fun e w' ⟨h1,h2,h3⟩=>?_
  rw[<-(fU s).2] at h1;exact⟨h1,LPost.first N hT q h2 h3⟩
 have z:Y (∀s:A Ab,Z s<=3000->Am prog 252 #[Al (V ⟨b,o+3,S⟩),I (Aa s)] w fun e w'=>e=Af (I (Aa (xq h s)))/\D.LPost w w' b (o+3) B T cs (jc h s) (xq h s)):=fun s hs=>
  (ob s h.headers N hT f1 q.l f2 hs hn hB).mono fun e w' ⟨h1,h2⟩=>⟨h1,LPost.header q f1 h2⟩
 have k5:w.cell? ⟨b,o+3+2,S⟩=V fv:=(zB N).trans f1;have x:=hid (sV xw (h.headers.map D.sv) (b:=b) (o:=o+3) k5 (zo (by rw[Bv];exact f2) (Ax _)) (by rw[Bv];omega));have H:=(rT xw (h.headers.map D.sv)).trans (zj2 xw h.headers);have v:Y (∀h' out,(out=[]->h'=h)->D.LPost w w b (o+3) B T cs h' out):=fun h' out e=>LPost.grown N q (zP _ _) e
 have k1:w.cell? ⟨b,o+1,S⟩=V (X (V ⟨g,0,S⟩) (Z p+Z d+1) ab):=(zB N).trans ae;have k3:w.cell? ⟨b,o+3,S⟩=V (I (Aa h.method)):=(zB N).trans q.m;have ah:=eS h.method;clear N q f1 f2 k5 af hp ag ae hB hn;generalize yT h d=lk at*;generalize za9 h d=en at*;generalize D.ln d=ls at*;generalize qQ d 13=ue at*;obtain⟨Q,ub⟩:=ue;simp only at F j aa al;generalize ud xw (h.headers.map D.sv)=fi at*;generalize xY xw h.headers=bh at*;go_in;go_wp2_with fail;refine aa.o.mono ?_;rintro e W2 ⟨rfl,C⟩;obtain rfl:=C.symm;clear aa C
 cases ub
 ·have a:=J (j.o)
  have n:Y (en=false):=by show _=_;rw[k.o,a.o];rfl
  have r:=hid (v.o h jn (fun _=>rfl));clear x;go_wp2
  go_ret2
  exact⟨by rw[a.o,n.o];rfl,by rw[a.o];exact r.o⟩
 ·have ad:=J (F.o)
  rw[Az rfl] at j;rw[ad.o]
  by_cases hm:h.method=[]
  ·have a:Y (lk=(yH h Q,false,qj (xo Q))):=by show _=_;rw[j.o,Az hm]
   have n:Y (en=false):=by show _=_;rw[k.o,a.o];rfl
   have HC:=hid (y.o Q (by omega));rw[Cf hm] at ah;clear x hm;go_wp2_with fail;refine HC.o.mono ?_;rintro e w3 ⟨rfl,E⟩;have r:=hid E;clear HC E;go_wp2
   go_ret2
   exact⟨by rw[a.o,n.o];rfl,by rw[a.o];exact r.o⟩
  ·rw[Ce hm] at ah
   rw[Aw hm] at j;have ai:=eS Q
   by_cases hu:Q=[]
   ·have a:Y (lk=(h,true,qj bh)):=by show _=_;rw[j.o,Az hu]
    rw[Cf hu] at ai;clear hm hu;go_wp2_with fail;refine x.o.mono ?_;rintro e W2 ⟨rfl,C⟩;obtain rfl:=C.symm;clear x C
    cases bh
    ·have ak:fi<0:=by have:=of_decide_eq_false H;omega
     have n:Y (en=false):=by show _=_;rw[k.o,a.o];rfl
     have r:=hid (v.o h (qj false) (fun _=>rfl));clear H;go_wp2
     go_ret2
     exact⟨by rw[a.o,n.o];rfl,by rw[a.o];exact r.o⟩
    ·have ak:¬fi<0:=by have:=Iz H;omega
     have n:Y (en=true):=by show _=_;rw[k.o,a.o];rfl
     have r:=hid (v.o h (qj true) (fun _=>rfl));clear H;go_wp2
     go_ret2
     exact⟨by rw[a.o,n.o];rfl,by rw[a.o];exact r.o⟩
   ·have a:Y (lk=(jc h Q,false,xq h Q)):=by show _=_;rw[j.o,Aw hu]
    have n:Y (en=false):=by show _=_;rw[k.o,a.o];rfl
    have HC:=hid (z.o Q (by omega));rw[Ce hu] at ai;clear x hm hu;go_wp2_with fail;refine HC.o.mono ?_;rintro e w3 ⟨rfl,E⟩;have r:=hid E;clear HC E;go_wp2
    go_ret2
    exact⟨by rw[a.o,n.o];rfl,by rw[a.o];exact r.o⟩
theorem zcW:(prog.info? 5).map (fun i=>(i.zero,i.size,i.bytes))=V (V (O Bp 0),1,1):=by kernel_rfl
theorem zaU (l:A Ab)(x:Ab):Ba (l++[x])=Ba l++[O Bp x.toNat]:=by unfold Ba;rw[Ef];rfl
theorem qM {a:Fh Aj}{j:Ad}(h:i≠j)(q:a[j]?=V v):(a.setIfInBounds i u)[j]?=V v:=by simp_all
theorem jd {a:Fh Aj}(u:Aj)(h:i<a.size):(a.setIfInBounds i u)[i]?=V u:=by simp_all
def D.Fl (w:Ag)(B:Ad)(cs:Fh Aj)(o:Ad):Prop:=(∃s,cs[o+3]?=V (I s))/\(∃s,cs[o+4]?=V (I s))/\∃fv n l,cs[o+5]?=V fv/\w.ownsRow B 185 2 fv n l
def D.At (w:Ag)(B:Ad)(cs:Fh Aj)(o:Ad):Br Cn->Prop
 |none=>cs[o]?=V (Av true)
 |V (.hd h)=>cs[o]?=V (Av false)/\cs[o+2]?=V (O Ai 0)/\D.QAt w (o+3) B cs h/\(∀c∈h.line,c≠10)/\∃p ba bk,h.size=Z (p++h.line)/\cs[o+1]?=V (X ba (Z (p++h.line)) bk)/\w.ownsRow B 5 1 (X ba (Z (p++h.line)) bk) (Z (p++h.line)) (Ba (p++h.line))/\(p=[]\/∃q,p=q++[10])
 |V (.bd q)=>cs[o]?=V (Av false)/\∃bs ba bk hd L,cs[o+1]?=V (X ba (Z bs) bk)/\w.ownsRow B 5 1 (X ba (Z bs) bk) (Z bs) (Ba bs)/\cs[o+2]?=V (O Ai (hd:Ad))/\cs[o+6]?=V (O Ai (L:Ad))/\0<hd/\hd<=600/\L<=300/\q.left=(hd:Ak)+L-Z bs/\q.dst=[]/\cs[o+7]?=V (I ⟨#[]⟩)/\cs[o+8]?=V (I (Aa q.data))/\D.Fl w B cs o
theorem D.At.grown {j:Fh Aj}{c:Br Cn}(h:D.At w B j o c)(g:w.grownBy w' S):D.At w' B j o c:=by
 have a:∀e s v n xs,w.ownsRow B e s v n xs->w'.ownsRow B e s v n xs:=fun e s v n xs q=>zK q g (fun k hk c=>by cases c)
 match c,h with
 |S,h=>exact h
 |V (.hd _),⟨h1,h2,h3,h4,p,ba,bk,h5,h6,h7,h8⟩=>
  obtain⟨i,b,d⟩:=h3.f;exact⟨h1,h2,⟨h3.m,h3.t,⟨i,b,a _ _ _ _ _ d⟩,h3.l,h3.a4,h3.a5⟩,h4,p,ba,bk,h5,h6,a _ _ _ _ _ h7,h8⟩
 |V (.bd _),⟨h0,bs,ba,bk,hd,L,h1,hv,h2,h6,n0,n1,n2,n3,n4,h7,h8,q1,q2,i,k,l,b,d⟩=>
  exact⟨h0,bs,ba,bk,hd,L,h1,a _ _ _ _ _ hv,h2,h6,n0,n1,n2,n3,n4,h7,h8,q1,q2,i,k,l,b,a _ _ _ _ _ d⟩
theorem D.At.two {j:Ad}{a:Fh Aj}(h:D.At w B a o (V c))(g:o<=j)(f:j<o+9)(e:a[j]?=V v)(d:v.ownBlock=V k):j=o+1\/j=o+5:=by
 have H:∃b i p q n r s,a[o]?=V (Av b)/\a[o+2]?=V (O Ai i)/\a[o+3]?=V (I p)/\a[o+4]?=V (I q)/\a[o+6]?=V (O Ai n)/\a[o+7]?=V (I r)/\a[o+8]?=V (I s):=by
  match c,h with
  | .hd _,⟨g,f,h3,_⟩=>exact⟨_,_,_,_,_,_,_,g,f,h3.m,h3.t,h3.l,h3.a4,h3.a5⟩
  | .bd _,⟨h0,bs,ba,bk,hd,L,g,hv,f,h6,n0,n1,i,n3,n4,h7,h8,⟨_,q1⟩,⟨_,q2⟩,_⟩=>exact⟨_,_,_,_,_,_,_,h0,f,q1,q2,h6,h7,h8⟩
 obtain⟨b,i,p,q,n,r,s,u,x,y,z,C,E,F⟩:=H;have N:j=o\/j=o+1\/j=o+2\/j=o+3\/j=o+4\/j=o+5\/j=o+6\/j=o+7\/j=o+8:=by omega
 rcases N with rfl|rfl|rfl|rfl|rfl|rfl|rfl|rfl|rfl
 ·rw[u] at e;cases e;cases d
 ·exact Ay rfl
 ·rw[x] at e;cases e;cases d
 ·rw[y] at e;cases e;cases d
 ·rw[z] at e;cases e;cases d
 ·exact Bf rfl
 ·rw[C] at e;cases e;cases d
 ·rw[E] at e;cases e;cases d
 ·rw[F] at e;cases e;cases d
structure D.BPost (w w':Ag) (yb B g n ck m:Ad) (tv th vd vs:Aj) (cs:Fh Aj) (ss:A Ev) (c:Br Cn):Prop where
 ex:∃cs' vs',w'.heap[yb]?=V (Ae #[tv,th,vd,X (V ⟨g,0,S⟩) n ck,vs'] 131 (0,0))/\w'.heap[g]?=V (Ae cs' 195 (0,0))/\cs'.size=cs.size/\(∀j,j<m*9\/m*9+9<=j->cs'[j]?=cs[j]?)/\w'.ownsRow B 44 3 vs' (Z ss) (evCells ss)/\D.At w' B cs' (m*9) c/\(∀k,vs'.ownBlock=V k->vs.ownBlock=V k\/w.heap.size<=k)/\(c≠S->∀j v k,m*9<=j->j<m*9+9->cs'[j]?=V v->v.ownBlock=V k->(∃u,cs[j]?=V u/\u.ownBlock=V k)\/w.heap.size<=k)
 turn:Turn w w' (fun k=>k=yb\/k=g\/vs.ownBlock=V k\/∃j u,m*9<=j/\j<m*9+9/\cs[j]?=V u/\u.ownBlock=V k)
theorem D.BPost.grown {q r:Ag}{o:Aj}{f:Fh Aj}{i:A Ev}{c:Br Cn}(h:D.BPost w q yb B g n ck m l j o p f i c)(a:q.grownBy r S):D.BPost w r yb B g n ck m l j o p f i c:=by
 obtain⟨b,d,s,t,u,v,x,y,z,C⟩:=h.ex;exact⟨⟨b,d,zE s a (by simp),zE t a (by simp),u,v,zK x a (fun k hk c=>by cases c),y.grown a,z,C⟩,h.turn.step a (fun k hk=>by cases hk)⟩
structure D.App (w w':Ag) (yb B g n ck m bk g9 cap9:Ad) (ba:Br Eu) (tv th vd vs:Aj) (cs:Fh Aj) (bs:A Ab) (x:Ab):Prop where
 box:w'.heap[yb]?=V (Ae #[tv,th,vd,X (V ⟨g,0,S⟩) n ck,vs] 131 (0,0))
 con:w'.heap[g]?=V (Ae (cs.setIfInBounds (m*9+1) (X (V ⟨g9,0,S⟩) (Z bs+1) cap9)) 195 (0,0))
 row:w'.ownsRow B 5 1 (X (V ⟨g9,0,S⟩) (Z bs+1) cap9) (Z bs+1) (Ba (bs++[x]))
 own:(X ba (Z bs) bk).ownBlock=V g9\/w.heap.size<=g9
 turn:Turn w w' (fun k=>k=g\/(X ba (Z bs) bk).ownBlock=V k)
 rows:∀(e:Cs) (s:Ad) (v:Aj) (k:Ad) (xs:A Aj),w.ownsRow B e s v k xs->e≠5->e≠195->w'.ownsRow B e s v k xs
abbrev Hs7 (a):=Ae #[O Bp a] 5
abbrev Hs9 (a b c d e f g):=Ae #[a,b,c,X (V ⟨d,0,S⟩) e f,g] 131 (0,0)
theorem zlF {t:Ag}{p:Ad}{o:Br Eu}{F:Fh Aj}{b:A Ab}{x:Ab}(u:w.heap[yb]?=V (Hs9 tv Q vd g n ck vs))(z:w.heap[g]?=V (Ae F 195 (0,0)))(E:w.ownsRow B 5 1 (X o (Z b) p) (Z b) (Ba b))(N:t.ownsRow B 5 1 (X (V ⟨f,0,S⟩) (Z b+1) a) (Z b+1) (Ba b++[O Bp x.toNat]))(r:(w.alloc (Hs7 x.toNat)).grownBy t (X o (Z b) p).ownBlock)(q3:(X o (Z b) p).ownBlock=V f\/f=w.heap.size+1):D.App w (t.setCell ⟨g,m*9+1,S⟩ (X (V ⟨f,0,S⟩) (Z b+1) a)) yb B g n ck m p f a o tv Q vd vs F b x:=by
 have l:=Ac w (Hs7 x.toNat) S;have q:=zF t g (m*9+1) (X (V ⟨f,0,S⟩) (Z b+1) a);have d:=zw (zE z l (by simp)) r (zI (zE z l (by simp)) (Ao E (Hs7 x.toNat)) (by decide));have y:=zw (zE u l (by simp)) r (zI (zE u l (by simp)) (Ao E (Hs7 x.toNat)) (by decide));have C:¬g=yb:=fun e=>by have h:=z;rw[e,u] at h;simp at h
 refine⟨zE y q (by simp;exact fun e=>C e.symm),zH (i:=m*9+1) d _,by rw[zaU];exact zJ N q (zI d N (by decide)),q3.imp id (fun e=>by omega),(((Turn.refl w _).step l (fun k hk=>by cases hk)).step r (fun k hk=>Ay (Bf hk))).step q (fun k hk=>Ay (Ay (Bc hk).symm)),fun e s v k xs ho h1 h2=>?_⟩;have H:=zK (Ao ho (Hs7 x.toNat)) r (fun j hj c=>qB (Ao E (Hs7 x.toNat)) (Ao ho (Hs7 x.toNat)) (fun e=>h1 e.symm) j hj c);exact zJ H q (zI d H (fun e=>h2 e.symm))
theorem D.App.q {j d:Ad}{i:Br Eu}{k o:Aj}{b:Fh Aj}{c:A Ab}{x:Ab}(h:D.App w w' yb B g n ck m j d a i l k o p b c x){f:Rq.Head}(q:D.QAt w (m*9+3) B b f):D.QAt w' (m*9+3) B (b.setIfInBounds (m*9+1) (X (V ⟨d,0,S⟩) (Z c+1) a)) f:=by grind[D.App,Rq.Head,D.QAt]
theorem D.App.fl {d:Ad}{f:Br Eu}{k o:Aj}{b:Fh Aj}{c:A Ab}{x:Ab}(h:D.App w w' yb B g n ck m i d a f k j l o b c x)(q:D.Fl w B b (m*9)):D.Fl w' B (b.setIfInBounds (m*9+1) (X (V ⟨d,0,S⟩) (Z c+1) a)) (m*9):=by grind[D.App,D.Fl]
theorem D.App.post {p q:Ad}{o:Br Eu}{t:Aj}{b:Fh Aj}{f:A Ab}{x:Ab}(h:D.App w w' yb B g n ck m p q a o t s u d b f x)(r:b[m*9+1]?=V (X o (Z f) p)){l:A Ev}{c:Br Cn}(z:w.ownsRow B 44 3 d (Z l) (evCells l))(y:D.At w' B (b.setIfInBounds (m*9+1) (X (V ⟨q,0,S⟩) (Z f+1) a)) (m*9) c):D.BPost w w' yb B g n ck m t s u d b l c:=by
 refine⟨⟨_,d,h.box,h.con,by simp,fun j i=>?_,h.rows _ _ _ _ _ z (by decide) (by decide),y,fun k hk=>Ay hk,fun _ j v k j1 j2 e1 e2=>?_⟩,?_⟩
 ·rw[Cd,Aw (by omega)]
 ·by_cases i:m*9+1=j
  ·subst i
   rw[Cd,Az rfl] at e1
   split at e1
   ·cases e1
    rcases h.own with e|e
    ·exact Ay ⟨_,r,e.trans e2⟩
    ·exact Bf (by cases e2;exact e)
   ·cases e1
  ·rw[Cd,Aw i] at e1
   exact Ay ⟨v,e1,e2⟩
 ·exact⟨h.turn.os,h.turn.tape,h.turn.output,h.turn.size,fun k hk hn=>h.turn.block k hk (fun c=>hn (c.elim (fun e=>Bf (Ay e)) (fun e=>Bf (Bf (Bf ⟨m*9+1,_,by omega,by omega,r,e⟩)))))⟩
theorem eZ (a:Fh Aj)(o j:Ad)(h:j<o\/o+9<=j):(yR a o)[j]?=a[j]?:=by
 unfold yR;simp only[Cd]
 grind[yR]
theorem so (a:Fh Aj)(o:Ad):(yR a o).size=a.size:=by unfold yR;simp
theorem mE (a:Fh Aj)(o:Ad)(h:o+9<=a.size):(yR a o)[o]?=V (Av false)/\(yR a o)[o+1]?=V (X S 0 0)/\(yR a o)[o+2]?=V (O Ai 0)/\(yR a o)[o+3]?=V (I ⟨#[]⟩)/\(yR a o)[o+4]?=V (I ⟨#[]⟩)/\(yR a o)[o+5]?=V (X S 0 0)/\(yR a o)[o+6]?=V (O Ai 0)/\(yR a o)[o+7]?=V (I ⟨#[]⟩)/\(yR a o)[o+8]?=V (I ⟨#[]⟩):=by
 unfold yR;exact⟨qM (by omega) (qM (by omega) (qM (by omega) (qM (by omega) (qM (by omega) (qM (by omega) (qM (by omega) (qM (by omega) (jd _ (by(try simp only[Ff]);omega))))))))),qM (by omega) (qM (by omega) (qM (by omega) (qM (by omega) (qM (by omega) (qM (by omega) (qM (by omega) (jd _ (by(try simp only[Ff]);omega)))))))),qM (by omega) (qM (by omega) (qM (by omega) (qM (by omega) (qM (by omega) (qM (by omega) (jd _ (by(try simp only[Ff]);omega))))))),qM (by omega) (qM (by omega) (qM (by omega) (qM (by omega) (qM (by omega) (jd _ (by(try simp only[Ff]);omega)))))),qM (by omega) (qM (by omega) (qM (by omega) (qM (by omega) (jd _ (by(try simp only[Ff]);omega))))),qM (by omega) (qM (by omega) (qM (by omega) (jd _ (by(try simp only[Ff]);omega)))),qM (by omega) (qM (by omega) (jd _ (by(try simp only[Ff]);omega))),qM (by omega) (jd _ (by(try simp only[Ff]);omega)),jd _ (by(try simp only[Ff]);omega)⟩
theorem ee (a:Fh Aj)(o:Ad)(h:o+9<=a.size)(j:Ad)(v:Aj)(p:o<=j)(q:j<o+9)(e:(yR a o)[j]?=V v):v.ownBlock=S:=by
 obtain⟨b,c,d,f,g,i,k,l,m⟩:=mE a o h;have n:j=o\/j=o+1\/j=o+2\/j=o+3\/j=o+4\/j=o+5\/j=o+6\/j=o+7\/j=o+8:=by omega
 rcases n with rfl|rfl|rfl|rfl|rfl|rfl|rfl|rfl|rfl
 ·rw[b] at e;cases e;rfl
 ·rw[c] at e;cases e;rfl
 ·rw[d] at e;cases e;rfl
 ·rw[f] at e;cases e;rfl
 ·rw[g] at e;cases e;rfl
 ·rw[i] at e;cases e;rfl
 ·rw[k] at e;cases e;rfl
 ·rw[l] at e;cases e;rfl
 ·rw[m] at e;cases e;rfl
theorem eY (w:Ag)(B:Ad)(a:Fh Aj)(o:Ad)(h:o+9<=a.size):D.At w B (yR a o) o (V (.hd xf)):=by
 obtain⟨b,d,f,g,i,j,k,l,m⟩:=mE a o h;exact⟨b,f,⟨g,i,⟨_,j,Bk _ _ _ _⟩,k,l,m⟩,(fun c hc=>by cases hc),[],S,0,rfl,d,Bk _ _ _ _,Ay rfl⟩
theorem zgM {o h:Ag}{x y:Aj}{d c:Fh Aj}{f:A Ev}{r:A Ab}(p:Turn w o (fun k=>k=yb\/k=g\/l.ownBlock=V k\/∃j u,m*9<=j/\j<m*9+9/\d[j]?=V u/\u.ownBlock=V k))(E:c.size=d.size)(C:∀j,j<m*9\/m*9+9<=j->c[j]?=d[j]?)(N:m*9+9<=d.size)(b:h.heap[yb]?=V (Ae #[x,s,y,X (V ⟨g,0,S⟩) n ck,X (V ⟨i,0,S⟩) (Z f+1) a] 131 (0,0)))(H:h.ownsRow B 44 3 (X (V ⟨i,0,S⟩) (Z f+1) a) (Z f+1) (evCells f++[O Ai ((m:Ak)+1),I ⟨#[]⟩,I (Aa r)]))(z:h.heap[g]?=V (Ae (yR c (m*9)) 195 (0,0)))(F:l.ownBlock=V i\/o.heap.size<=i)(t:Turn o h (fun k=>k=yb\/k=g\/l.ownBlock=V k)):D.BPost w h yb B g n ck m x s y l d (f++[⟨m+1,[],r⟩]) (V (.hd xf)):=by
 refine⟨⟨_,_,b,z,by rw[so,E],fun j q=>by rw[eZ _ _ _ q,C j q],?_,eY _ _ _ _ (by omega),fun k hk=>?_,fun _ j v k j1 j2 e1 e2=>?_⟩,?_⟩
 ·rw[um,Ah];exact H
 ·cases hk;exact F.imp id (fun e=>Bi p.size e)
 ·rw[ee _ _ (by omega) j v j1 j2 e1] at e2;cases e2
 ·exact p.trans t (fun k hk=>hk) (fun k hk=>hk.elim Ay (fun e=>e.elim (fun e=>Bf (Ay e)) (fun e=>Bf (Bf (Ay e)))))
theorem oU {N:Aj}{r:Fh Aj}{v:A Ev}{q:Pc}(x:Ab)(hb:w.heap[yb]?=V (Hs9 N H Q g n ck vs))(hg:w.heap[g]?=V (Ae r 195 (0,0)))(hm:m<n)(hn:n<=64)(ae:m*9+9<=r.size)(hw:w.ownsRow B 44 3 vs (Z v) (evCells v))(ah:Z v<=1000000000)(hB:B<=w.heap.size)(hc:D.At w B r (m*9) (V (.bd q)))(hq:1<=q.left):Am prog 145 #[Al (V ⟨yb,0,S⟩),O Ai (m+1:Ad),O Bp x.toNat] w fun e w'=>e=Af (Av true)/\(q.left≠1->D.BPost w w' yb B g n ck m N H Q vs r v (V (.bd (q.take x))))/\(q.left=1->D.BPost w w' yb B g n ck m N H Q vs r (v++[⟨m+1,[],q.data⟩]) (V (.hd xf))):=by
 obtain⟨h0,b,ba,bk,hd,L,h1,hv,h2,h6,n0,n1,n2,n3,n4,h7,h8,ai⟩:=hc;have aq:Z b<=1000:=by omega
 have k3:=cbi 3 hb;have c1:w.cell? ⟨g,m*9+1,S⟩=V (X ba (Z b) bk):=(zB hg).trans h1;have i2:((m:Ad):Ak)<n:=by omega
 have z:=hid (Ao hv (Hs7 x.toNat));have C:=hid (zE hg (Ac w (Hs7 x.toNat) S) (by simp));obtain⟨i0,hi,am,an,ao⟩:=Ej zcW;have ab:Y (∀j u,([O Bp x.toNat]:A Aj)[j]?=V u->(w.alloc (Hs7 x.toNat)).cell? ((⟨w.heap.size,0,S⟩:Eu).add j)=V u):=zZ w #[_] _ _ rfl;have aa:Y (∀u∈([O Bp x.toNat]:A Aj),u.oneCell'=true):=fun u hu=>by simp at hu;subst hu;rfl
 have aj:Z b+1<=Bh:=by unfold Bh;omega
 have al:(Z b+1)*1<=140737488355328:=by omega
 have ap:(w.alloc (Hs7 x.toNat)).heap.size=w.heap.size+1:=by simp
 have af:B<=(w.alloc (Hs7 x.toNat)).heap.size:=by omega
 have s:Y (∀f a l,l.ownsRow B 5 1 (X (V ⟨f,0,S⟩) (Z b+1) a) (Z b+1) (Ba b++[O Bp x.toNat])->(w.alloc (Hs7 x.toNat)).grownBy l (X ba (Z b) bk).ownBlock->((X ba (Z b) bk).ownBlock=V f\/f=w.heap.size+1)->D.App w (l.setCell ⟨g,m*9+1,S⟩ (X (V ⟨f,0,S⟩) (Z b+1) a)) yb B g n ck m bk f a ba N H Q vs r b x):=fun f a l q1 q2 q3=>zlF hb hg hv q1 q2 q3
 have i:Y (∀W f a,D.App w W yb B g n ck m bk f a ba N H Q vs r b x->D.BPost w W yb B g n ck m N H Q vs r v (V (.bd (q.take x)))):=fun W f a h=>h.post h1 hw ⟨qM (by omega) h0,b++[x],_,_,hd,L,by rw[Ah];exact jd _ (by omega),by rw[Ah];exact h.row,qM (by omega) h2,qM (by omega) h6,n0,n1,n2,by show q.left-1=_;rw[Ah,n3];show _=_-(((Z b+1:Ad)):Ak);omega,n4,qM (by omega) h7,by show _=V (I (Aa (if q.dst=[] then q.data else _)));rw[Az n4];exact qM (by omega) h8,h.fl ai⟩
 go_in;go_wp2_with (at_builtin;refine Ei _ rfl _ _ 32 rfl B 5 i0 _ 1 1 underlying32 hi am an ao rfl (by decide) _ _ _ rfl z.o ⟨w.heap.size,0,S⟩ 1 1 [O Bp x.toNat] rfl rfl ab.o aa.o (by decide) aj al af (w.heap.size+1) ap ?_);intro f a l o d t ak;have p:=hid (s.o f a l o d t);have F:=zw C.o d (zI C.o z.o (by decide));have q9:l.cell? ⟨g,m*9+1,S⟩=V (X ba (Z b) bk):=(zB F).trans h1;have f9:l.frozen? ⟨g,m*9+1,S⟩=false:=zG F;have r1:(l.setCell ⟨g,m*9+1,S⟩ (X (V ⟨f,0,S⟩) (Z b+1) a)).cell? ⟨g,m*9+1,S⟩=V (X (V ⟨f,0,S⟩) (Z b+1) a):=(zB p.o.con).trans (jd _ (by omega));have r2:(l.setCell ⟨g,m*9+1,S⟩ (X (V ⟨f,0,S⟩) (Z b+1) a)).cell? ⟨g,m*9+2,S⟩=V (O Ai (hd:Ad)):=(zB p.o.con).trans (qM (by omega) h2);have r6:(l.setCell ⟨g,m*9+1,S⟩ (X (V ⟨f,0,S⟩) (Z b+1) a)).cell? ⟨g,m*9+6,S⟩=V (O Ai (L:Ad)):=(zB p.o.con).trans (qM (by omega) h6);go_upto_region 3 with fail;generalize(l.setCell ⟨g,m*9+1,S⟩ (X (V ⟨f,0,S⟩) (Z b+1) a))=w10 at*
 by_cases hl:q.left=1
 ·have ag:(((Z b:Ak)+1) == ((hd:Ak)+L))=true:=by rw[Hw];omega
  have E:=hid hl;go_upto_region 18 with fail;go_quiet (fail);have y:=hid (x3 w10 nq);generalize w10.drewN nq=w11 at*;obtain⟨ea,ek,rfl⟩:=zL hw;have ad:Y (Am prog 201 #[Al (V ⟨yb,0,S⟩),O Ai (m+1:Ad)] w11 fun e w'=>e=Af (Cm #[])/\D.BPost w w' yb B g n ck m N H Q (X ea (Z v) ek) r (v++[⟨m+1,[],q.data⟩]) (V (.hd xf))):=by
   have hp:=((i.o _ _ _ p.o).grown y.o).turn;refine(cw (zE p.o.box y.o (by simp)) (zE p.o.con y.o (by simp)) (by rw[Ff];exact ae) (zK (p.o.rows _ _ _ _ _ hw (by decide) (by decide)) y.o (fun k hk c=>by cases c)) hm hn ah (qM (by omega) h7) (qM (by omega) h8) (Bi hB hp.size)).mono fun e w' ⟨q1,g8,c8,q2,q3,q4,q5,q6⟩=>⟨q1,zgM hp (by simp) (fun j hj=>by rw[Cd,Aw (by omega)]) ae q2 q3 q4 q5 q6⟩
  go_wp2_with fail;refine ad.o.mono ?_;rintro e ar ⟨rfl,hx⟩;have HX:=hid hx;go_wp2;go_ret;exact⟨rfl,fun e=>absurd E.o e,fun _=>HX.o⟩
 ·have ag:(((Z b:Ak)+1) == ((hd:Ak)+L))=false:=by rw[Ch];omega
  have E:=hid hl;go_upto_region 18 with fail;go_quiet (fail);have y:=hid (x3 w10 nq);generalize w10.drewN nq=w11 at*;go_wp2;go_ret;exact⟨rfl,fun _=>(i.o _ _ _ p.o).grown y.o,fun e=>absurd e E.o⟩
def jA (m:Ad):Cn×A Ab->A Ev×Br Cn
 |(.bd p,[])=>if p.left=0 then ([⟨m+1,p.dst,p.data⟩],V (.hd xf)) else ([],V (.bd p))
 |(.hd h,[])=>([],V (.hd h))
 |(_,r)=>([⟨m+1,[],r⟩],S)
theorem zlI {z f:Ag}{p:Ad}{F N:Aj}{l d:Fh Aj}{o:A Ev}{r:A Ab}(C:Turn w z (fun k=>k=yb\/k=g\/s.ownBlock=V k\/∃j u,m*9<=j/\j<m*9+9/\l[j]?=V u/\u.ownBlock=V k))(hs:d.size=l.size)(Q:∀j,j<m*9\/m*9+9<=j->d[j]?=l[j]?)(hz:m*9+9<=l.size)(b:f.heap[yb]?=V (Ae #[H,F,N,X (V ⟨g,0,S⟩) n ck,X (V ⟨p,0,S⟩) (Z o+1) a] 131 (0,0)))(E:f.ownsRow B 44 3 (X (V ⟨p,0,S⟩) (Z o+1) a) (Z o+1) (evCells o++[O Ai ((m:Ak)+1),I ⟨#[]⟩,I (Aa r)]))(v:f.heap[g]?=V (Ae d 195 (0,0)))(ow:s.ownBlock=V p\/z.heap.size<=p)(t:Turn z f (fun k=>k=yb\/s.ownBlock=V k)):D.BPost w (f.setCell ⟨g,m*9,S⟩ (Av true)) yb B g n ck m H F N s l (o++[⟨m+1,[],r⟩]) S:=by
 have x:=zF f g (m*9) (Av true);have y:¬g=yb:=fun e=>by have h:=v;rw[e,b] at h;simp at h
 refine⟨⟨_,_,zE b x (by simp;exact fun e=>y e.symm),zH (i:=m*9) v _,by simp[hs],fun j q=>?_,?_,jd _ (by omega),fun k hk=>?_,fun c=>absurd rfl c⟩,?_⟩
 ·rw[Cd,Aw (by omega),Q j q]
 ·rw[um,Ah];exact zJ E x (zI v E (by decide))
 ·cases hk;exact ow.imp id (fun e=>Bi C.size e)
 ·have t2:=C.trans t (fun k hk=>hk) (fun k hk=>hk.elim Ay (fun e=>Bf (Bf (Ay e))))
  exact t2.step x (fun k hk=>Ay (Bf (Ay (Bc hk).symm)))
theorem zaT (h:Rq.Head)(l:A Ab):(yH h l).size=h.size/\(yH h l).line=h.line:=by grind[yH,Rq.Head]
theorem zgU (h:Rq.Head)(l:A Ab):(jc h l).size=h.size/\(jc h l).line=h.line:=by grind[jc,Rq.Head]
theorem zeL (h:Rq.Head)(l:A Ab):(yT h l).1.size=h.size/\(yT h l).1.line=h.line:=by grind[yT,zaT,zgU,Rq.Head]
theorem zj3 {x:Ab}{p:A Ab}(g:h.size=Z (p++h.line))(d:∀c∈h.line,c≠10)(i:p=[]\/∃q,p=q++[10])(a:(qe h x).2.2=[]):∃p',(qe h x).1.size=Z (p'++(qe h x).1.line)/\p'++(qe h x).1.line=(p++h.line)++[x]/\(p'=[]\/∃q,p'=q++[10])/\∀c∈(qe h x).1.line,c≠10:=by
 unfold qe at*
 by_cases f:600<h.size+1
 ·rw[Az f] at a;exact absurd (show j6=[] from a) (by decide)
 ·rw[Aw f] at a ⊢
  by_cases b:x=10
  ·rw[Az b] at a ⊢
   obtain⟨j,k⟩:=zeL { h with size:=h.size+1,line:=[] } h.line;rw[j,k];exact⟨(p++h.line)++[x],by show h.size+1=_;rw[g];simp;omega,by simp,Bf ⟨p++h.line,by rw[b]⟩,fun c hc=>by cases hc⟩
  ·rw[Aw b]
   exact⟨p,by show h.size+1=Z (p++(h.line++[x]));rw[g];simp;omega,by show p++(h.line++[x])=_;simp,i,fun c hc=>by
    rcases Ea.1 hc with hc|hc
    ·exact d c hc
    ·rw[Si.1 hc];exact b⟩
theorem zgL {q h:Aj}{f d:Fh Aj}{i:A Ev}(b:w'.heap[yb]?=V (Ae #[q,p,r,X (V ⟨g,0,S⟩) n ck,h] 131 (0,0)))(s:w'.heap[g]?=V (Ae d 195 (0,0)))(y:d.size=f.size)(x:∀j,j<m*9\/m*9+9<=j->d[j]?=f[j]?)(z:w'.ownsRow B 44 3 h (Z i) (evCells i))(l:D.At w' B d (m*9) (V c))(o:∀a,a=1\/a=5->∀v k,d[m*9+a]?=V v->v.ownBlock=V k->(∃u,f[m*9+a]?=V u/\u.ownBlock=V k)\/w.heap.size<=k)(t:Turn w w' (fun k=>k=yb\/k=g\/h.ownBlock=V k\/∃j u,m*9<=j/\j<m*9+9/\f[j]?=V u/\u.ownBlock=V k)):D.BPost w w' yb B g n ck m q p r h f i (V c):=
 ⟨⟨d,h,b,s,y,x,z,l,fun k hk=>Ay hk,fun _ j v k j1 j2 e1 e2=>by
  rcases l.two j1 j2 e1 e2 with rfl|rfl
  ·exact o 1 (Ay rfl) v k e1 e2
  ·exact o 5 (Bf rfl) v k e1 e2⟩,t⟩
theorem zlJ {c:Ag}{y x:Aj}{C:Fh Aj}{d:A Aj}{r:A Ab}(q:w.heap[yb]?=V (Hs9 y x z g n ck j))(s:w.heap[g]?=V (Ae C 195 (0,0)))(F:w.ownsRow B 44 3 j k d)(E:c.ownsRow B 44 3 (Hs3 b k a) (k+1) (d++[O Ai ((m:Ak)+1),I ⟨#[]⟩,I (Aa r)]))(v:(w.alloc (Ae #[O Ai ((m:Ak)+1),I ⟨#[]⟩,I (Aa r)] 44)).grownBy c j.ownBlock)(H:j.ownBlock=V b\/b=w.heap.size+1):c.heap[yb]?=V (Hs9 y x z g n ck j)/\(c.setCell ⟨yb,4,S⟩ (Hs3 b k a)).heap[yb]?=V (Ae #[y,x,z,X (V ⟨g,0,S⟩) n ck,(Hs3 b k a)] 131 (0,0))/\(c.setCell ⟨yb,4,S⟩ (Hs3 b k a)).ownsRow B 44 3 (Hs3 b k a) (k+1) (d++[O Ai ((m:Ak)+1),I ⟨#[]⟩,I (Aa r)])/\(c.setCell ⟨yb,4,S⟩ (Hs3 b k a)).heap[g]?=V (Ae C 195 (0,0))/\(j.ownBlock=V b\/w.heap.size<=b)/\Turn w (c.setCell ⟨yb,4,S⟩ (Hs3 b k a)) (fun k=>k=yb\/j.ownBlock=V k):=by
 have l:=Ac w (Ae #[O Ai ((m:Ak)+1),I ⟨#[]⟩,I (Aa r)] 44) S;have p:=zF c yb 4 (Hs3 b k a);have o:=Ao F (Ae #[O Ai ((m:Ak)+1),I ⟨#[]⟩,I (Aa r)] 44);have f:=zw (zE q l (by simp)) v (zI (zE q l (by simp)) o (by decide));have t:=zw (zE s l (by simp)) v (zI (zE s l (by simp)) o (by decide));have u:¬g=yb:=fun e=>by have h:=s;rw[e,q] at h;simp at h
 exact⟨f,zH (i:=4) f _,zJ E p (zI f E (by decide)),zE t p (by simp;exact u),H.imp id (fun e=>by omega),(((Turn.refl w _).step l (fun k hk=>by cases hk)).step v (fun k hk=>Ay (Bf hk))).step p (fun k hk=>Ay (Ay (Bc hk).symm))⟩
theorem zl2 {e:Cs}{s:Ad}{b:A Aj}(h:w.ownsRow B e s (X (V ⟨g,0,S⟩) n a) n b):n<=a:=by
 rcases h.2 with ⟨h1,h2⟩|⟨g,c,cur,hv,hB,hb,hle,_⟩
 ·omega
 grind
theorem D.QAt.size {b:Fh Aj}(q:D.QAt w o B b h)(a:Ad)(l:A Ab):D.QAt w o B b { h with size:=a,line:=l }:=⟨q.m,q.t,q.f,q.l,q.a4,q.a5⟩
theorem oV {ss:A Ev}(x:Ab)(hb:w.heap[yb]?=V (Ae #[Av false,th,vd,X (V ⟨g,0,S⟩) n ck,vs] 131 (0,0)))(hg:w.heap[g]?=V (Ae cs 195 (0,0)))(hm:m<n)(hn:n<=64)(aS:m*9+9<=cs.size)(hw:w.ownsRow B 44 3 vs (Z ss) (evCells ss))(bg:Z ss<=1000000000)(hB:B<=w.heap.size)(hc:D.At w B cs (m*9) (V (.hd h)))(ok:HOk h):Am prog 145 #[Al (V ⟨yb,0,S⟩),O Ai (m+1:Ad),O Bp x.toNat] w fun e w'=>e=Af (Av (decide ((qe h x).2.2=[])))/\D.BPost w w' yb B g n ck m (Av false) th vd vs cs (ss++(jA m (Cn.take Yd.D0 h x)).1) (jA m (Cn.take Yd.D0 h x)).2:=by
 obtain⟨h0,h2,hq,aQ,p,ba,bk,hs,h1,hv,hp⟩:=hc;obtain⟨b,ak⟩:∃b,Y (b=p++h.line):=⟨_,rfl⟩;rw[<-ak.o] at hs h1 hv;have bf:Z b<=600:=by have:=ok.size;omega
 have HS:=hid hs;clear hs;have k3:=cbi 3 hb;have c1:w.cell? ⟨g,m*9+1,S⟩=V (X ba (Z b) bk):=(zB hg).trans h1;have i1:((m+1:Ad):Ak)-1=(m:Ad):=by omega
 have i2:((m:Ad):Ak)<n:=by omega
 have bv:=zO hg;have al:=hid (Ao hv (Ae #[O Bp x.toNat] 5));have aG:=hid (zE hg (Ac w (Ae #[O Bp x.toNat] 5) S) (by simp));have cX:(w.alloc (Ae #[O Bp x.toNat] 5)).cell? ⟨g,m*9+1,S⟩=V (X ba (Z b) bk):=(zB aG.o).trans h1;obtain⟨i0,hi,bp,bq,ap⟩:=Ej zcW;have ax:Y (∀j u,([O Bp x.toNat]:A Aj)[j]?=V u->(w.alloc (Ae #[O Bp x.toNat] 5)).cell? ((⟨w.heap.size,0,S⟩:Eu).add j)=V u):=zZ w #[_] _ _ rfl;have ar:Y (∀u∈([O Bp x.toNat]:A Aj),u.oneCell'=true):=fun u hu=>by simp at hu;subst hu;rfl
 have bh:Z b+1<=Bh:=by unfold Bh;omega
 have bo:(Z b+1)*1<=140737488355328:=by omega
 have br:(w.alloc (Ae #[O Bp x.toNat] 5)).heap.size=w.heap.size+1:=by simp
 have a8:B<=(w.alloc (Ae #[O Bp x.toNat] 5)).heap.size:=by omega
 have aU:Y (∀g9 d w9,w9.ownsRow B 5 1 (X (V ⟨g9,0,S⟩) (Z b+1) d) (Z b+1) (Ba b++[O Bp x.toNat])->(w.alloc (Ae #[O Bp x.toNat] 5)).grownBy w9 (X ba (Z b) bk).ownBlock->((X ba (Z b) bk).ownBlock=V g9\/g9=w.heap.size+1)->D.App w (w9.setCell ⟨g,m*9+1,S⟩ (X (V ⟨g9,0,S⟩) (Z b+1) d)) yb B g n ck m bk g9 d ba (Av false) th vd vs cs b x):=fun g9 d w9 q1 q2 q3=>zlF hb hg hv q1 q2 q3
 have bi:=ok.heads;obtain⟨H,aa⟩:∃H,Y (H=qe h x):=⟨_,rfl⟩;have ao:Y (600<h.size+1->H=({ h with size:=h.size+1 },false,j6)):=fun e=>by rw[aa.o];unfold qe;rw[Az e]
 have aB:Y (¬600<h.size+1->x=10->H=yT { h with size:=h.size+1,line:=[] } h.line):=fun e e2=>by rw[aa.o];unfold qe;rw[Aw e,Az e2]
 have Q:Y (¬600<h.size+1->¬x=10->H=({ h with size:=h.size+1,line:=h.line++[x] },false,[])):=fun e e2=>by rw[aa.o];unfold qe;rw[Aw e,Aw e2]
 clear hv;go_in;go_wp2_with (at_builtin;refine Ei _ rfl _ _ 32 rfl B 5 i0 _ 1 1 underlying32 hi bp bq ap rfl (by decide) _ _ _ rfl al.o ⟨w.heap.size,0,S⟩ 1 1 [O Bp x.toNat] rfl rfl ax.o ar.o (by decide) bh bo a8 (w.heap.size+1) br ?_);intro g9 d w9 F y aC aR;have N:=hid (aU.o g9 d w9 F y aC);have aO:=zw aG.o y (zI aG.o al.o (by decide));have q9:w9.cell? ⟨g,m*9+1,S⟩=V (X ba (Z b) bk):=(zB aO).trans h1;have f9:w9.frozen? ⟨g,m*9+1,S⟩=false:=zG aO;have r1:(w9.setCell ⟨g,m*9+1,S⟩ (X (V ⟨g9,0,S⟩) (Z b+1) d)).cell? ⟨g,m*9+1,S⟩=V (X (V ⟨g9,0,S⟩) (Z b+1) d):=(zB N.o.con).trans (jd _ (by omega));have r2:(w9.setCell ⟨g,m*9+1,S⟩ (X (V ⟨g9,0,S⟩) (Z b+1) d)).cell? ⟨g,m*9+2,S⟩=V (O Ai 0):=(zB N.o.con).trans (qM (by omega) h2);clear F y aC aR aG aO al;go_upto_region 3 with fail;generalize(w9.setCell ⟨g,m*9+1,S⟩ (X (V ⟨g9,0,S⟩) (Z b+1) d))=w10 at*;clear q9 f9 cX c1 k3;have HG:=hid N.o.con;have HQ:=hid (N.o.q hq);have ae:=hid N.o.row;have aZ:=Bi hB N.o.turn.size
 go_upto_if 37 with fail
 go_cut [8,9] (fun av ev wz=>av=I (Aa H.2.2)/\ev=Av (H.2.1 && decide (H.2.2=[]))/\Y (D.LPost w10 wz g (m*9+3) B (195) (cs.setIfInBounds (m*9+1) (X (V ⟨g9,0,S⟩) (Z b+1) d)) H.1 H.2.2))
 ·
  by_cases bu:600<Z b+1
  ·have HP:=hid (LPost.grown (h:={ h with size:=h.size+1 }) (out:=j6) HG.o (HQ.o.size _ _) (zP _ S) (fun _=>rfl))
   have E:=hid (ao.o (by have:=HS.o;omega));have bc:(600:Ak)<(Z b:Ak)+1:=by omega
   clear N HG HQ ae;go_wp2
   go_meet
   ·exact⟨by rw[E.o];rfl,by rw[E.o];rfl,by rw[E.o];exact HP.o⟩
  ·have bc:¬(600:Ak)<(Z b:Ak)+1:=by omega
   by_cases hx:x=10
   ·have a2:=hid hx
    have E:=hid (aB.o (by have:=HS.o;omega) hx);have aD:Y (Z b=Z p+Z h.line):=by show _=_;rw[ak.o,Ah]
    have aV:=hid (zfY (o:=m*9) (h:={ h with size:=h.size+1,line:=[] }) p h.line HG.o (by decide) (HQ.o.size _ _) aZ (by rw[<-aD.o];exact jd _ (by omega)) (fun i u hu=>by
     have h1:=(Bo.1 hu).1;rw[Ah,Ah] at h1;have h2:=Ap ae.o i (by rw[aD.o];simp at h1;omega);rw[ak.o,Bl,a2.o] at h2;rw[h2];unfold Ba;rw[Fq,hu];rfl) hp aQ (by have:=aD.o;omega) (by rw[<-aD.o];exact zl2 ae.o) bi)
    have bn:((x.toNat:Ak) == 10)=true:=by rw[Hw,hx];rfl
    clear N HG HQ ae hx a2;go_wp2_with fail;refine aV.o.mono ?_;rintro e w3 ⟨rfl,a1⟩;have HP:=hid a1;clear a1 aV;go_wp2_with fail
    go_meet
    ·exact⟨by rw[E.o],by rw[E.o];rfl,by rw[E.o];exact HP.o⟩
   ·have HP:=hid (LPost.grown (h:={ h with size:=h.size+1,line:=h.line++[x] }) (out:=[]) HG.o (HQ.o.size _ _) (zP _ S) (fun _=>rfl))
    have E:=hid (Q.o (by have:=HS.o;omega) hx);have bn:((x.toNat:Ak) == 10)=false:=by rw[Ch];intro e;exact hx (Hb.1 (by show x.toNat=10;omega))
    clear N HG HQ ae hx;go_wp2
    go_meet
    ·exact⟨by rw[E.o];rfl,by rw[E.o];rfl,by rw[E.o];exact HP.o⟩
 ·
  obtain⟨rfl,rfl,HL⟩:=hcut;generalize wc=wz at*;obtain⟨s,l1,l2,l3,l4,l5⟩:=HL.o.ex;have ap:s.size=cs.size:=by rw[l2,Ff]
  have e0:s[m*9]?=V (Av false):=(l3 _ (Ay (by omega))).trans (qM (by omega) h0);have e1:s[m*9+1]?=V (X (V ⟨g9,0,S⟩) (Z b+1) d):=(l3 _ (Ay (by omega))).trans (jd _ (by omega));have e2:s[m*9+2]?=V (O Ai 0):=(l3 _ (Ay (by omega))).trans (qM (by omega) h2);have aj:Y (Turn w wz (fun k=>k=yb\/k=g\/vs.ownBlock=V k\/∃j u,m*9<=j/\j<m*9+9/\cs[j]?=V u/\u.ownBlock=V k)):=N.o.turn.trans HL.o.turn (fun k hk=>hk.elim (fun e=>Bf (Ay e)) (fun e=>Bf (Bf (Bf ⟨m*9+1,_,by omega,by omega,h1,e⟩)))) (fun k hk=>hk.elim (fun e=>Bf (Ay e)) (fun⟨fv,q1,q2⟩=>Bf (Bf (Bf ⟨m*9+5,fv,by omega,by omega,by rw[Cd,Aw (by omega)] at q1;exact q1,q2⟩))));have am:Y (∀j,j<m*9\/m*9+9<=j->s[j]?=cs[j]?):=fun j hj=>(l3 j (by omega)).trans (by rw[Cd,Aw (by omega)])
  have aI:=hid N.o.box;obtain⟨fv,f1,f2⟩:=(N.o.q hq).f;have aP:¬yb=g:=fun e=>by have h:=aI.o;rw[e,N.o.con] at h;simp at h
  have ab:Y (wz.heap[yb]?=V (Ae #[Av false,th,vd,X (V ⟨g,0,S⟩) n ck,vs] 131 (0,0))):=HL.o.turn.keep aI.o (fun c=>c.elim aP (fun⟨u,q1,q2⟩=>zI aI.o f2 (by decide) yb (by rw[f1] at q1;cases q1;exact q2) rfl));have ag:Y (wz.ownsRow B 44 3 vs (Z ss) (evCells ss)):=Turn.row (N.o.rows _ _ _ _ _ hw (by decide) (by decide)) HL.o.turn (fun k hk c=>c.elim (fun e=>zI N.o.con (N.o.rows _ _ _ _ _ hw (by decide) (by decide)) (by decide) k hk e) (fun⟨u,q1,q2⟩=>qB f2 (N.o.rows _ _ _ _ _ hw (by decide) (by decide)) (by decide) k hk (by rw[f1] at q1;cases q1;exact q2)));have an:Y (wz.ownsRow B 5 1 (X (V ⟨g9,0,S⟩) (Z b+1) d) (Z b+1) (Ba (b++[x]))):=Turn.row ae.o HL.o.turn (fun k hk c=>c.elim (fun e=>zI N.o.con ae.o (by decide) k hk e) (fun⟨u,q1,q2⟩=>qB f2 ae.o (by decide) k hk (by rw[f1] at q1;cases q1;exact q2)));have au:Y (∀a,a=1\/a=5->∀v k,s[m*9+a]?=V v->v.ownBlock=V k->(∃u,cs[m*9+a]?=V u/\u.ownBlock=V k)\/w.heap.size<=k):=fun a ha v k q1 q2=>by
   rcases ha with rfl|rfl
   ·rw[e1] at q1;cases q1
    exact N.o.own.imp (fun e=>⟨_,h1,e.trans q2⟩) (fun e=>by cases q2;exact e)
   ·rcases l5 v k q1 q2 with ⟨u,u1,u2⟩|e
    ·exact Ay ⟨u,by rw[Cd,Aw (by omega)] at u1;exact u1,u2⟩
    ·exact Bf (Bi N.o.turn.size e)
  have C:=hid l1;have az:=hid l4;have bt:=Bi hB aj.o.size;obtain⟨ea,ek,rfl⟩:=zL hw;have aw:Y (H.2.2=[]->∃p',H.1.size=Z (p'++H.1.line)/\p'++H.1.line=b++[x]/\(p'=[]\/∃q,p'=q++[10])/\∀c∈H.1.line,c≠10):=fun e=>by
   rw[aa.o] at e ⊢;rw[ak.o];exact zj3 (by rw[HS.o,ak.o]) aQ hp e
  have ay:Y (H.2.2=[]->HOk H.1/\(Z b)+1<=600):=fun e=>by
   refine⟨by rw[aa.o] at e ⊢;exact ok.take x e,?_⟩
   by_cases hb:600<h.size+1
   ·rw[ao.o hb] at e;exact absurd (show j6=[] from e) (by decide)
   ·have:=HS.o;omega
  have ai:Y (Cn.take Yd.D0 h x=if H.2.1 && decide (H.2.2=[]) then (.bd (Yd.D0 H.1),[]) else (.hd H.1,H.2.2)):=by show _=_;rw[aa.o];rfl
  clear N HL HG HQ ae hq hw f1 f2 fv l1 l2 l3 l4 l5 aI aQ hp ak h0 h1 h2 HS ok hb hg bf aZ;obtain⟨h9,en,r⟩:=H;simp only at az aw ay ai;have a0:=eS r
  by_cases hr:r=[]
  ·rw[Cf hr] at a0
   subst hr;have ad:=hid (az.o rfl);obtain⟨aF,bb⟩:=ay.o rfl
   cases en
   ·have af:Y (jA m (Cn.take Yd.D0 h x)=([],V (.hd h9))):=by show _=_;rw[ai.o];rfl
    obtain⟨p',p1,p2,p3,p4⟩:=aw.o rfl;have HX:Y (D.BPost w wz yb B g n ck m (Av false) th vd (X ea (Z ss) ek) cs ss (V (.hd h9))):=zgL ab.o C.o ap am.o ag.o ⟨e0,e2,ad.o,p4,p',V ⟨g9,0,S⟩,d,p1,by rw[p2,Ah];exact e1,by rw[p2,Ah];exact an.o,p3⟩ au.o aj.o;clear az e1 e2 C p1 p2 p3 p4 ad aF e0;go_wp2;go_ret;rw[af.o,<-aa.o,Cv];exact⟨rfl,HX.o⟩
   ·obtain⟨L,hL⟩:∃L:Ad,Y (yi h9=(L:Ad)):=⟨(yi h9).toNat,by show _=_;have:=aF.body;omega⟩
    have a9:L<=300:=by have:=aF.body;rw[hL.o] at this;omega
    have af:Y (jA m (Cn.take Yd.D0 h x)=if L=0 then ([⟨m+1,[],Yd.noPolicy⟩],V (.hd xf)) else ([],V (.bd (Yd.D0 h9)))):=by
     show _=_;rw[ai.o];show(if (yi h9)=0 then _ else _)=_;rw[hL.o]
     by_cases h0:L=0
     ·rw[Az h0,Az (by omega)];rfl
     ·rw[Aw h0,Aw (by omega)]
    have e6:s[m*9+6]?=V (O Ai (L:Ad)):=by have:=ad.o.l;rw[hL.o] at this;exact this
    have e8:=ad.o.a5;have k1:wz.cell? ⟨g,m*9+1,S⟩=V (X (V ⟨g9,0,S⟩) (Z b+1) d):=(zB C.o).trans e1;have k2:wz.cell? ⟨g,m*9+2,S⟩=V (O Ai 0):=(zB C.o).trans e2;have z2:wz.frozen? ⟨g,m*9+2,S⟩=false:=zG C.o;have G2:=hid (zF wz g (m*9+2) (O Ai ((Z b:Ak)+1)));have aK:=hid (zH (i:=m*9+2) C.o (O Ai ((Z b:Ak)+1)));have aX:=hid (zE ab.o G2.o (by simp;exact aP));have aT:=hid (pz (o:=m*9+3) aX.o aK.o (qM (by omega) e8));have G3:=hid (zD G2.o (zF (wz.setCell ⟨g,m*9+2,S⟩ (O Ai ((Z b:Ak)+1))) g (m*9+3+5) (I (Aa Yd.noPolicy))));have ah:=hid (zH (i:=m*9+3+5) aK.o (I (Aa Yd.noPolicy)));have aJ:=hid (zE ab.o G3.o (by simp;exact aP));have aH:=hid (zJ ag.o G3.o (zI C.o ag.o (by decide)));have aN:=hid (zJ an.o G3.o (zI C.o an.o (by decide)));have Q:=J (aj.o.step G3.o (fun k hk=>Ay (Bf (Ay (Bc hk).symm))));have aL:Y (D.Fl ((wz.setCell ⟨g,m*9+2,S⟩ (O Ai ((Z b:Ak)+1))).setCell ⟨g,m*9+3+5,S⟩ (I (Aa Yd.noPolicy))) B ((s.setIfInBounds (m*9+2) (O Ai ((Z b:Ak)+1))).setIfInBounds (m*9+3+5) (I (Aa Yd.noPolicy))) (m*9)):=by
     obtain⟨fv,f1,f2⟩:=ad.o.f;exact⟨⟨_,qM (by omega) (qM (by omega) ad.o.m)⟩,⟨_,qM (by omega) (qM (by omega) ad.o.t)⟩,fv,_,_,qM (by omega) (qM (by omega) f1),zJ f2 G3.o (zI C.o f2 (by decide))⟩
    have aM:Y (∀a,a=1\/a=5->∀v k,((s.setIfInBounds (m*9+2) (O Ai ((Z b:Ak)+1))).setIfInBounds (m*9+3+5) (I (Aa Yd.noPolicy)))[m*9+a]?=V v->v.ownBlock=V k->(∃u,cs[m*9+a]?=V u/\u.ownBlock=V k)\/w.heap.size<=k):=fun a ha v k q1 q2=>by
     rw[Cd,Aw (by omega),Cd,Aw (by omega)] at q1;exact au.o a ha v k q1 q2
    have aE:Y (∀j,j<m*9\/m*9+9<=j->((s.setIfInBounds (m*9+2) (O Ai ((Z b:Ak)+1))).setIfInBounds (m*9+3+5) (I (Aa Yd.noPolicy)))[j]?=cs[j]?):=fun j hj=>by rw[Cd,Aw (by omega),Cd,Aw (by omega)];exact am.o j hj
    have aA:Y (((s.setIfInBounds (m*9+2) (O Ai ((Z b:Ak)+1))).setIfInBounds (m*9+3+5) (I (Aa Yd.noPolicy))).size=cs.size):=by show _=_;rw[Ff,Ff,ap]
    have z:Y (((s.setIfInBounds (m*9+2) (O Ai ((Z b:Ak)+1))).setIfInBounds (m*9+3+5) (I (Aa Yd.noPolicy)))[m*9]?=V (Av false)/\((s.setIfInBounds (m*9+2) (O Ai ((Z b:Ak)+1))).setIfInBounds (m*9+3+5) (I (Aa Yd.noPolicy)))[m*9+1]?=V (X (V ⟨g9,0,S⟩) (Z b+1) d)/\((s.setIfInBounds (m*9+2) (O Ai ((Z b:Ak)+1))).setIfInBounds (m*9+3+5) (I (Aa Yd.noPolicy)))[m*9+2]?=V (O Ai ((Z b+1:Ad):Ak))/\((s.setIfInBounds (m*9+2) (O Ai ((Z b:Ak)+1))).setIfInBounds (m*9+3+5) (I (Aa Yd.noPolicy)))[m*9+6]?=V (O Ai (L:Ad))/\((s.setIfInBounds (m*9+2) (O Ai ((Z b:Ak)+1))).setIfInBounds (m*9+3+5) (I (Aa Yd.noPolicy)))[m*9+7]?=V (I ⟨#[]⟩)/\((s.setIfInBounds (m*9+2) (O Ai ((Z b:Ak)+1))).setIfInBounds (m*9+3+5) (I (Aa Yd.noPolicy)))[m*9+8]?=V (I (Aa Yd.noPolicy))):=⟨qM (by omega) (qM (by omega) e0),qM (by omega) (qM (by omega) e1),qM (by omega) (jd _ (by omega)),qM (by omega) (qM (by omega) e6),qM (by omega) (qM (by omega) ad.o.a4),jd _ (by rw[Ff];omega)⟩;have r1:((wz.setCell ⟨g,m*9+2,S⟩ (O Ai ((Z b:Ak)+1))).setCell ⟨g,m*9+3+5,S⟩ (I (Aa Yd.noPolicy))).cell? ⟨g,m*9+1,S⟩=V (X (V ⟨g9,0,S⟩) (Z b+1) d):=(zB ah.o).trans z.o.2.1;have r2:((wz.setCell ⟨g,m*9+2,S⟩ (O Ai ((Z b:Ak)+1))).setCell ⟨g,m*9+3+5,S⟩ (I (Aa Yd.noPolicy))).cell? ⟨g,m*9+2,S⟩=V (O Ai ((Z b:Ak)+1)):=(zB ah.o).trans z.o.2.2.1;have r6:((wz.setCell ⟨g,m*9+2,S⟩ (O Ai ((Z b:Ak)+1))).setCell ⟨g,m*9+3+5,S⟩ (I (Aa Yd.noPolicy))).cell? ⟨g,m*9+6,S⟩=V (O Ai (L:Ad)):=(zB ah.o).trans z.o.2.2.2.1;clear az e0 e1 e2 e6 e8 C ad aF G2 aK aX G3 ap;go_wp2_with fail;refine aT.o.mono ?_;rintro e aq ⟨rfl,hW⟩;rw[hW];clear hW aq aT;generalize((wz.setCell ⟨g,m*9+2,S⟩ (O Ai ((Z b:Ak)+1))).setCell ⟨g,m*9+3+5,S⟩ (I (Aa Yd.noPolicy)))=aq at*;generalize((s.setIfInBounds (m*9+2) (O Ai ((Z b:Ak)+1))).setIfInBounds (m*9+3+5) (I (Aa Yd.noPolicy)))=cs3 at*;clear k1 k2 z2
    by_cases hl:L=0
    ·subst hl
     rw[Az rfl] at af;have be:(((Z b:Ak)+1) == (((Z b:Ak)+1)+((0:Ad):Ak)))=true:=by rw[Hw];omega
     go_upto_region 18 with fail;go_quiet (fail);have GN:=hid (x3 aq nq);generalize aq.drewN nq=w21 at*;clear r1 r2 r6;have aW:Y (Am prog 201 #[Al (V ⟨yb,0,S⟩),O Ai (m+1:Ad)] w21 fun e w'=>e=Af (Cm #[])/\D.BPost w w' yb B g n ck m (Av false) th vd (X ea (Z ss) ek) cs (ss++[⟨m+1,[],Yd.noPolicy⟩]) (V (.hd xf))):=by
      have hp:=Q.o.step GN.o (fun k hk=>by cases hk);refine(cw (zE aJ.o GN.o (by simp)) (zE ah.o GN.o (by simp)) (by rw[aA.o];exact aS) (zK aH.o GN.o (fun k hk c=>by cases c)) hm hn bg z.o.2.2.2.2.1 z.o.2.2.2.2.2 (Bi hB hp.size)).mono fun e w' ⟨q1,g8,c8,q2,q3,q4,q5,q6⟩=>⟨q1,zgM hp aA.o aE.o aS q2 q3 q4 q5 q6⟩
     clear aJ ah aH aN GN;go_wp2_with fail;refine aW.o.mono ?_;rintro e bx ⟨rfl,hx⟩;have HX:=hid hx;clear hx;go_wp2;go_ret;rw[af.o,<-aa.o];exact⟨rfl,HX.o⟩
    ·rw[Aw hl] at af
     have be:(((Z b:Ak)+1) == (((Z b:Ak)+1)+(L:Ak)))=false:=by rw[Ch];omega
     go_upto_region 18 with fail;go_quiet (fail);have GN:=hid (x3 aq nq);generalize aq.drewN nq=w21 at*;clear r1 r2 r6;have HX:Y (D.BPost w w21 yb B g n ck m (Av false) th vd (X ea (Z ss) ek) cs ss (V (.bd (Yd.D0 h9)))):=(zgL (c:=.bd (Yd.D0 h9)) aJ.o ah.o aA.o aE.o aH.o ⟨z.o.1,b++[x],V ⟨g9,0,S⟩,d,Z b+1,L,by rw[Ah];exact z.o.2.1,by rw[Ah];exact aN.o,z.o.2.2.1,z.o.2.2.2.1,by omega,bb,a9,by show yi h9=_;rw[hL.o,Ah];show(L:Ak)=((Z b+1:Ad):Ak)+L-((Z b+1:Ad):Ak);omega,rfl,z.o.2.2.2.2.1,z.o.2.2.2.2.2,aL.o⟩ aM.o Q.o).grown GN.o;clear aJ ah aH aN GN;go_wp2;go_ret;rw[af.o,<-aa.o,Cv];exact⟨rfl,HX.o⟩
  ·rw[Ce hr] at a0
   have af:Y (jA m (Cn.take Yd.D0 h x)=([⟨m+1,[],r⟩],S)):=by
    show _=_;rw[ai.o,Ce hr,Bool.and_false];obtain⟨a,l,rfl⟩:=List.exists_cons_of_ne_nil hr
    rfl
   have k4:=cbi 4 ab.o;have kA:=cbi 4 (zE ab.o (Ac wz (Ae #[O Ai ((m:Ak)+1),I ⟨#[]⟩,I (Aa r)] 44) S) (by simp));obtain⟨i0,hi,bj,bl,bm⟩:=Ej m9;have al:=hid (Ao ag.o (Ae #[O Ai ((m:Ak)+1),I ⟨#[]⟩,I (Aa r)] 44));have ax:Y (∀j u,([O Ai ((m:Ak)+1),I ⟨#[]⟩,I (Aa r)]:A Aj)[j]?=V u->(wz.alloc (Ae #[O Ai ((m:Ak)+1),I ⟨#[]⟩,I (Aa r)] 44)).cell? ((⟨wz.heap.size,0,S⟩:Eu).add j)=V u):=zZ wz #[_,_,_] _ _ rfl;have ar:Y (∀u∈([O Ai ((m:Ak)+1),I ⟨#[]⟩,I (Aa r)]:A Aj),u.oneCell'=true):=fun u hu=>by simp at hu;rcases hu with rfl|rfl|rfl <;> rfl
   have a6:Y (Z ss+1<=Bh):=by show _<=_;unfold Bh;omega
   have a7:Y ((Z ss+1)*40<=140737488355328):=by show _<=_;omega
   have aY:Y ((wz.alloc (Ae #[O Ai ((m:Ak)+1),I ⟨#[]⟩,I (Aa r)] 44)).heap.size=wz.heap.size+1):=by show _=_;simp
   have a3:Y (B<=(wz.alloc (Ae #[O Ai ((m:Ak)+1),I ⟨#[]⟩,I (Aa r)] 44)).heap.size):=by show _<=_;rw[aY.o];omega
   have bw:=zO ab.o;clear az e1 e2;go_wp2_with (at_builtin;refine Ei _ rfl _ _ 41 rfl B 44 i0 _ 3 40 underlying41 hi bj bl bm rfl (by decide) _ _ _ rfl al.o ⟨wz.heap.size,0,S⟩ 1 1 [O Ai ((m:Ak)+1),I ⟨#[]⟩,I (Aa r)] rfl rfl ax.o ar.o (by decide) a6.o a7.o a3.o (wz.heap.size+1) aY.o ?_);intro p9 pc w9 F y aC aR;obtain⟨y9,b9,r9,c9,o9,t9⟩:=zlJ ab.o C.o ag.o F y aC;have q4:=cbi 4 y9;have f4:=zm9 4 y9;have q0:(w9.setCell ⟨yb,4,S⟩ (X (V ⟨p9,0,S⟩) (Z ss+1) pc)).cell? ⟨g,m*9,S⟩=V (Av false):=(zB c9).trans e0;have f0:(w9.setCell ⟨yb,4,S⟩ (X (V ⟨p9,0,S⟩) (Z ss+1) pc)).frozen? ⟨g,m*9,S⟩=false:=zG c9;have HX:=hid (zlI aj.o ap am.o aS b9 r9 c9 o9 t9);clear F y aC aR al y9 b9 r9 c9 o9 t9 C;go_wp2;go_ret;rw[af.o,<-aa.o];exact⟨by rw[Ce hr];rfl,HX.o⟩
def tU (m:Ad)(c:Cn)(x:Ab):A Ev×Br Cn:=
 match c with
 | .hd h=>jA m (Cn.take Yd.D0 h x)
 | .bd p=>jA m (.bd (p.take x),[])
theorem mm (m:Ad)(c:Cn)(r:A Ab):(jA m (c,r)).2.isSome=decide (r=[]):=by
 cases r <;> grind[Ev,Cn,jA]
theorem ze4 (h:Rq.Head)(x:Ab):(Cn.take Yd.D0 h x).2=(qe h x).2.2:=by grind[Cn.take,Rq.Head,Yd.D0,qe]
theorem zdY (y:Yd)(m:Ad)(c:Cn)(r:A Ab)(f:m<Z y.conns):(y.put m c).after m r={ y with conns:=y.conns.set m (jA m (c,r)).2,sent:=y.sent++(jA m (c,r)).1 }:=by
 have e:(y.conns.set m (V c))[m]?=V (V c):=by rw[Fm f]
 cases r with
 |nil=>
  show(y.put m c).ready m=_;unfold Yd.ready;show(match (y.conns.set m (V c))[m]? with|V (V (.bd p))=>_|_=>_)=_;rw[e]
  cases c with
  |hd h=>show y.put m (.hd h)=_;unfold Yd.put jA;simp
  |bd p=>
   show(if p.left=0 then _ else _)=_;unfold jA
   by_cases b:p.left=0
   ·rw[Az b];simp only[Az b];unfold Yd.put Yd.send;simp
   ·rw[Aw b];simp only[Aw b];unfold Yd.put;simp
 |cons a t=>
  have d:jA m (c,a::t)=([⟨m+1,[],a::t⟩],S):=by cases c <;> rfl
  rw[d];show((y.put m c).send ⟨m+1,[],a::t⟩).ended m=_;unfold Yd.put Yd.send Yd.ended;simp
theorem bF (y:Yd)(m:Ad)(c:Cn)(x:Ab)(a:y.conns[m]?=V (V c)):y.take0 m x={ y with conns:=y.conns.set m (tU m c x).2,sent:=y.sent++(tU m c x).1 }:=by grind[List.getElem?_eq_some_iff,Yd.take0,zdY,Yd,Cn,tU]
theorem ziJ {k i:Aj}{a:Fh Aj}{f:A Ev}(x:Ab)(q:w.heap[yb]?=V (Ae #[Av false,k,l,X (V ⟨g,0,S⟩) n ck,i] 131 (0,0)))(r:w.heap[g]?=V (Ae a 195 (0,0)))(t:m<n)(u:n<=64)(d:m*9+9<=a.size)(v:w.ownsRow B 44 3 i (Z f) (evCells f))(b:Z f<=1000000000)(o:B<=w.heap.size)(j:D.At w B a (m*9) (V c))(y:COk c):Am prog 145 #[Al (V ⟨yb,0,S⟩),O Ai (m+1:Ad),O Bp x.toNat] w fun e w'=>e=Af (Av (tU m c x).2.isSome)/\D.BPost w w' yb B g n ck m (Av false) k l i a (f++(tU m c x).1) (tU m c x).2:=by
 cases c with
 |hd h=>
  refine(oV x q r t u d v b o j y).mono fun e w' ⟨q1,q2⟩=>⟨q1.trans ?_,q2⟩
  show _=Af (Av (jA m ((Cn.take Yd.D0 h x).1,(Cn.take Yd.D0 h x).2)).2.isSome);rw[mm,ze4]
 |bd p=>
  have hd:p.dst=[]:=by obtain⟨_,_,_,_,_,_,_,_,_,_,_,_,_,_,z,_⟩:=j;exact z
  refine(oU x q r t u d v b o j y.1).mono fun e w' ⟨q1,q2,q3⟩=>⟨q1.trans ?_,?_⟩
  ·show _=Af (Av (jA m (.bd (p.take x),[])).2.isSome)
   rw[mm];rfl
  ·show D.BPost w w' yb B g n ck m (Av false) k l i a (f++(if p.left-1=0 then ([⟨m+1,p.dst,if p.dst=[] then p.data else _⟩],V (.hd xf)) else ([],V (.bd (p.take x))):A Ev×Br Cn).1) (if p.left-1=0 then ([⟨m+1,p.dst,if p.dst=[] then p.data else _⟩],V (.hd xf)) else ([],V (.bd (p.take x))):A Ev×Br Cn).2
   by_cases s:p.left=1
   ·rw[Az (by omega),Az hd,hd];exact q3 s
   ·rw[Aw (by omega),Cv];exact q2 s
theorem D.At.move {i b:Fh Aj}{c:Br Cn}(h:D.At w B i o c)(a:∀j,o<=j->j<o+9->b[j]?=i[j]?)(g:∀j v k,o<=j->j<o+9->i[j]?=V v->v.ownBlock=V k->w'.heap[k]?=w.heap[k]?):D.At w' B b o c:=by
 have n:=a o (by omega) (by omega);have u:=a (o+1) (by omega) (by omega);have x:=a (o+2) (by omega) (by omega);have y:=a (o+3) (by omega) (by omega);have z:=a (o+4) (by omega) (by omega);have C:=a (o+5) (by omega) (by omega);have E:=a (o+6) (by omega) (by omega);have F:=a (o+7) (by omega) (by omega);have H:=a (o+8) (by omega) (by omega)
 match c,h with
 |S,h=>exact n.trans h
 |V (.hd _),⟨h1,h2,h3,h4,p,ba,bk,h5,h6,h7,h8⟩=>
  obtain⟨s,d,r⟩:=h3.f;exact⟨n.trans h1,x.trans h2,⟨y.trans h3.m,z.trans h3.t,⟨s,C.trans d,jH r (fun k q=>g (o+5) _ k (by omega) (by omega) d q)⟩,E.trans h3.l,F.trans h3.a4,H.trans h3.a5⟩,h4,p,ba,bk,h5,u.trans h6,jH h7 (fun k q=>g (o+1) _ k (by omega) (by omega) h6 q),h8⟩
 |V (.bd _),⟨h0,bs,ba,bk,hd,L,h1,hv,h2,h6,n0,n1,n2,n3,n4,h7,h8,⟨s1,q1⟩,⟨s2,q2⟩,s,k,l,d,r⟩=>
  exact⟨n.trans h0,bs,ba,bk,hd,L,u.trans h1,jH hv (fun k q=>g (o+1) _ k (by omega) (by omega) h1 q),x.trans h2,E.trans h6,n0,n1,n2,n3,n4,F.trans h7,H.trans h8,⟨s1,y.trans q1⟩,⟨s2,z.trans q2⟩,s,k,l,C.trans d,jH r (fun k q=>g (o+5) _ k (by omega) (by omega) d q)⟩
theorem D.At.kind {j:Ad}{b:Fh Aj}(h:D.At w B b o (V c))(d:o<=j)(m:j<o+9)(e:b[j]?=V v)(a:v.ownBlock=V k):B<=k/\∃c t,w.heap[k]?=V (Ae c t (0,0))/\(t=5\/t=185):=by
 have z:(∃v n l,b[o+1]?=V v/\w.ownsRow B 5 1 v n l)/\∃v n l,b[o+5]?=V v/\w.ownsRow B 185 2 v n l:=by
  match c,h with
  | .hd _,⟨d,m,h3,h4,p,ba,bk,h5,h6,h7,h8⟩=>
   obtain⟨y,g,i⟩:=h3.f;exact⟨⟨_,_,_,h6,h7⟩,_,_,_,g,i⟩
  | .bd _,⟨h0,bs,ba,bk,hd,L,d,hv,m,h6,n0,C,n2,n3,n4,h7,h8,⟨s1,q1⟩,⟨s2,q2⟩,y,k,l,g,i⟩=>exact⟨⟨_,_,_,d,hv⟩,_,_,_,g,i⟩
 obtain⟨⟨N,C,E,u,r⟩,Q,H,F,x,s⟩:=z;rcases h.two d m e a with rfl|rfl
 ·rw[u] at e;cases e
  obtain⟨c,q⟩:=qT r k a;exact⟨(An r k a).1,c,_,q,Ay rfl⟩
 ·rw[x] at e;cases e
  obtain⟨c,q⟩:=qT s k a;exact⟨(An s k a).1,c,_,q,Bf rfl⟩
structure D.YI (w:Ag) (yb B:Ad) (tv th:Aj) (y:Yd) (vd vc vs:Aj) (xs:A Aj):Prop where
 box:w.heap[yb]?=V (Ae #[tv,th,vd,vc,vs] 131 (0,0))
 dr:QRow w B 60 vd (y.draws.map drawV)
 con:w.ownsRow B 195 9 vc (Z y.conns) xs
 ev:w.ownsRow B 44 3 vs (Z y.sent) (evCells y.sent)
 at_:∀(m:Ad) (c:Br Cn),y.conns[m]?=V c->D.At w B xs.toArray (m*9) c
 apart:∀(i j:Ad) (ci cj:Cn),i≠j->y.conns[i]?=V (V ci)->y.conns[j]?=V (V cj)->∀a b u v k,i*9<=a->a<i*9+9->j*9<=b->b<j*9+9->xs[a]?=V u->xs[b]?=V v->u.ownBlock=V k->v.ownBlock≠V k
 low:B<=yb
def D.YF (yb:Ad)(vd vc vs:Aj)(xs:A Aj)(cn:A (Br Cn))(k:Ad):Prop:=k=yb\/vd.ownBlock=V k\/vc.ownBlock=V k\/vs.ownBlock=V k\/∃(m:Ad) (c:Cn) (j:Ad) (v:Aj),cn[m]?=V (V c)/\m*9<=j/\j<m*9+9/\xs[j]?=V v/\v.ownBlock=V k
structure D.Mv (w w':Ag) (F F':Ad->Prop):Prop where
 turn:Turn w w' F
 foot:∀k,F' k->F k\/w.heap.size<=k
theorem D.Mv.refl (w:Ag)(F:Ad->Prop):D.Mv w w F F:=⟨Turn.refl _ _,fun _ h=>Ay h⟩
variable {F:Ad->Prop}
theorem D.Mv.trans {x y:Ag}{G H:Ad->Prop}(a:D.Mv w x F G)(b:D.Mv x y G H):D.Mv w y F H:=
 ⟨⟨b.turn.os.trans a.turn.os,b.turn.tape.trans a.turn.tape,b.turn.output.trans a.turn.output,Bi a.turn.size b.turn.size,fun k hk hn=>(b.turn.block k (Eh hk a.turn.size) (fun hG=>by
  rcases a.foot k hG with q|q
  ·exact hn q
  ·omega)).trans (a.turn.block k hk hn)⟩,fun k hk=>by
  rcases b.foot k hk with q|q
  ·exact a.foot k q
  ·exact Bf (Bi a.turn.size q)⟩
theorem jI {a:Fh Aj}{j:Ad}(h:j<N):(a.toList.take N)[j]?=a[j]?:=by simp_all
theorem eV {a:Fh Aj}{j:Ad}(h:(a.toList.take N)[j]?=V v):j<N/\a[j]?=V v:=by grind
theorem D.YI.own {x:Aj}{y:Yd}{m:A Aj}(h:D.YI w yb B x v y j vc l m)(p:y.conns[i]?=V (V c))(f:i*9<=a)(g:a<i*9+9)(e:m[a]?=V u)(o:u.ownBlock=V k):B<=k/\k<w.heap.size/\k≠yb/\j.ownBlock≠V k/\vc.ownBlock≠V k/\l.ownBlock≠V k:=by
 obtain⟨q,c,t,b,s⟩:=(h.at_ i _ p).kind f g (by rw[Fo];exact e) o;have d:∀e:Cs,e≠5->e≠185->t≠e:=fun e f g h3=>by subst h3;rcases s with r|r;exact f r;exact g r
 refine⟨q,zO b,fun c=>?_,fun c=>?_,fun c=>?_,fun c=>?_⟩
 ·rw[c,h.box] at b;simp at b;exact d _ (by decide) (by decide) b.2.symm
 ·obtain⟨_,n,r⟩:=h.dr.block k c
  rw[r] at b;simp at b;exact d _ (by decide) (by decide) b.2.symm
 ·obtain⟨n,r⟩:=qT h.con k c
  rw[r] at b;simp at b;exact d _ (by decide) (by decide) b.2.symm
 grind[zO,qT,Yd,D.YI,Cn]
theorem D.YI.post {y:Yd}{xs:A Aj}{l:Fh Aj}{ss:A Ev}{c':Br Cn}(h:D.YI w yb B tv th y vd (X (V ⟨g,0,S⟩) (Z y.conns) f) vs xs)(F:y.conns[m]?=V (V c))(hg:w.heap[g]?=V (Ae l 195 (0,0)))(ad:B<=g)(x:Z y.conns<=f/\f<=Bh)(ab:l.size=f*9)(hx:l.toList.take (Z y.conns*9)=xs)(H:D.BPost w w' yb B g (Z y.conns) f m tv th vd vs l ss c') :
  ∃t xs',D.YI w' yb B tv th { y with conns:=y.conns.set m c',sent:=ss } vd (X (V ⟨g,0,S⟩) (Z y.conns) f) t xs'/\D.Mv w w' (D.YF yb vd (X (V ⟨g,0,S⟩) (Z y.conns) f) vs xs y.conns) (D.YF yb vd (X (V ⟨g,0,S⟩) (Z y.conns) f) t xs' (y.conns.set m c')):=by
 obtain⟨o,t,p1,p2,p3,p4,p5,p6,p7,p8⟩:=H.ex;have s:=(Bo.1 F).1;subst hx;have hT:∀k,k<w.heap.size->k≠yb->k≠g->vs.ownBlock≠V k->(∀a u,m*9<=a->a<m*9+9->(l.toList.take (Z y.conns*9))[a]?=V u->u.ownBlock≠V k)->w'.heap[k]?=w.heap[k]?:=fun k hk h1 h2 h3 h4=>H.turn.block k hk (fun hF=>by
  rcases hF with e|e|e|⟨j,u,j1,j2,e1,e2⟩
  ·exact h1 e
  ·exact h2 e
  ·exact h3 e
  ·exact h4 j u j1 j2 (by rw[jI (by omega)];exact e1) e2)
 have C:∀i j,i<Z y.conns->i*9<=j->j<i*9+9->j<Z y.conns*9:=fun i j h1 h2 h3=>by omega
 have n:∀i j,i≠m->i*9<=j->j<i*9+9->o[j]?=l[j]?:=fun i j h1 h2 h3=>p4 j (by omega)
 have ae:∀(i:Ad) (ci:Br Cn),i≠m->y.conns[i]?=V ci->D.At w' B (o.toList.take (Z y.conns*9)).toArray (i*9) ci:=fun i ci hi he=>by
  have aa:=(Bo.1 he).1;have h0:=h.at_ i ci he;have p:∀j,i*9<=j->j<i*9+9->(o.toList.take (Z y.conns*9)).toArray[j]?=(l.toList.take (Z y.conns*9)).toArray[j]?:=fun j j1 j2=>by
   rw[Fo,Fo,jI (C i j aa j1 j2),jI (C i j aa j1 j2),n i j hi j1 j2]
  cases ci with
  |none=>exact(p _ (by omega) (by omega)).trans h0
  |some ci=>
   refine h0.move p (fun j v k j1 j2 e1 e2=>?_);rw[Fo] at e1;obtain⟨q1,q2,q3,q4,q5,q6⟩:=h.own he j1 j2 e1 e2;exact hT k q2 q3 (fun e=>q5 (by rw[e];rfl)) q6 (fun a u a1 a2 b1 b2=>h.apart m i c ci (fun e=>hi e.symm) F he a j u v k a1 a2 j1 j2 b1 e1 b2 e2)
 refine⟨t,o.toList.take (Z y.conns*9),⟨p1,h.dr.keep H.turn.size (fun k hk=>?_),?_,p5,fun i ci hi=>?_,fun i j ci cj hij hi hj a b u v k a1 a2 b1 b2 e1 e2 e3 e4=>?_,h.low⟩,⟨?_,fun k hk=>?_⟩⟩
 ·obtain⟨_,cs,r⟩:=h.dr.block k hk
  refine hT k (zO r) (fun e=>?_) (fun e=>?_) (fun e=>?_) (fun a u a1 a2 q1 q2=>(h.own F a1 a2 q1 q2).2.2.2.1 hk)
  ·rw[e,h.box] at r;simp at r
  ·rw[e,hg] at r;simp at r
  ·obtain⟨_,q⟩:=qT h.ev k e
   rw[q] at r;simp at r
 ·show w'.ownsRow B 195 9 _ (Z (y.conns.set m c')) _
  rw[Gv];exact⟨by rw[Cq,Array.length_toList,p3,ab];omega,Bf ⟨g,f,o,rfl,ad,p2,x.1,x.2,by rw[p3,ab],rfl⟩⟩
 ·by_cases d:i=m
  ·subst d
   rw[Fm s] at hi
   cases hi
   refine p6.move (fun j j1 j2=>?_) (fun _ _ _ _ _ _ _=>rfl);rw[Fo,jI (C i j s j1 j2)]
  ·rw[Fc (fun e=>d e.symm)] at hi
   exact ae i ci d hi
 ·obtain⟨Q,f2⟩:=eV e1
  obtain⟨g1,g2⟩:=eV e2
  by_cases d:i=m
  ·subst d
   rw[Fm s] at hi;rw[Fc hij] at hj;have N:(l.toList.take (Z y.conns*9))[b]?=V v:=by rw[jI g1,<-n j b (fun e=>hij e.symm) b1 b2];exact g2
   rcases p8 (by cases hi;simp) a u k a1 a2 f2 e3 with ⟨u0,r1,r2⟩|r
   ·exact h.apart i j c cj hij F hj a b u0 v k a1 a2 b1 b2 (by rw[jI Q];exact r1) N r2 e4
   ·have:=(h.own hj b1 b2 N e4).2.1;omega
  ·rw[Fc (fun e=>d e.symm)] at hi
   have z:(l.toList.take (Z y.conns*9))[a]?=V u:=by rw[jI Q,<-n i a d a1 a2];exact f2
   by_cases E:j=m
   ·subst E
    rw[Fm s] at hj;rcases p8 (by cases hj;simp) b v k b1 b2 g2 e4 with ⟨v0,r1,r2⟩|r
    ·exact h.apart i j ci c hij hi F a b u v0 k a1 a2 b1 b2 z (by rw[jI g1];exact r1) e3 r2
    ·have:=(h.own hi a1 a2 z e3).2.1;omega
   ·rw[Fc (fun e=>E e.symm)] at hj
    exact h.apart i j ci cj hij hi hj a b u v k a1 a2 b1 b2 z (by rw[jI g1,<-n j b E b1 b2];exact g2) e3 e4
 ·exact⟨H.turn.os,H.turn.tape,H.turn.output,H.turn.size,fun k hk hn=>hT k hk (fun e=>hn (Ay e)) (fun e=>hn (Bf (Bf (Ay (by rw[e];rfl))))) (fun e=>hn (Bf (Bf (Bf (Ay e))))) (fun a u a1 a2 q1 q2=>hn (Bf (Bf (Bf (Bf ⟨m,c,a,u,F,a1,a2,q1,q2⟩)))))⟩
 ·rcases hk with e|e|e|e|⟨i,ci,j,v,hi,j1,j2,e1,e2⟩
  ·exact Ay (Ay e)
  ·exact Ay (Bf (Ay e))
  ·exact Ay (Bf (Bf (Ay e)))
  ·exact(p7 k e).imp (fun q=>Bf (Bf (Bf (Ay q)))) id
  ·obtain⟨Q,f2⟩:=eV e1
   by_cases d:i=m
   ·subst d
    rw[Fm s] at hi;rcases p8 (by cases hi;simp) j v k j1 j2 f2 e2 with ⟨u0,r1,r2⟩|r
    ·exact Ay (Bf (Bf (Bf (Bf ⟨i,c,j,u0,F,j1,j2,by rw[jI Q];exact r1,r2⟩))))
    ·exact Bf r
   ·rw[Fc (fun e=>d e.symm)] at hi
    exact Ay (Bf (Bf (Bf (Bf ⟨i,ci,j,v,hi,j1,j2,by rw[jI Q,<-n i j d j1 j2];exact f2,e2⟩))))
theorem dS {y:Yd}(h:y.isOpen (m+1:Ad)=true):∃c,y.conns[m]?=V (V c):=by grind[Yd.isOpen,Yd]
theorem zb6 {y:Yd}{o:Br Cn}(b:m<Z y.conns)(a:y.conns[m]?=V o):y.isOpen (m+1:Ad)=o.isSome:=by
 unfold Yd.isOpen;rw[show(((m+1:Ad):Ak)-1).toNat=m by omega,a,Cf (by omega:(1:Ak)<=(m+1:Ad)),Cf (by omega:((m+1:Ad):Ak)<=Z y.conns)]
 cases o <;> rfl
theorem uz (y:Yd)(n:Ak):ju (y.conns.map No) n=y.isOpen n:=by
 unfold ju Yd.isOpen;rw[Bv,Gf,Fq]
 congr 2
 cases y.conns[(n-1).toNat]? with
 |none=>rfl
 |some o=>cases o <;> rfl
theorem D.YI.there {m n:Aj}{y:Yd}{d:A Aj}(h:D.YI w yb B m l y n vc p d):∃ca ck g,vc=X ca (Z (y.conns.map No)) ck/\∀k (c:k<Z (y.conns.map No)),ca=V ⟨g,0,S⟩/\w.cell? ⟨g,k*9,S⟩=V (Av (y.conns.map No)[k]):=by
 have b:Z (y.conns.map No)=Z y.conns:=Bv _;rcases h.con.2 with ⟨h1,h2⟩|⟨g,cap,cur,h1,h2,h3,h4,h5,h6,h7⟩
 ·exact⟨S,0,0,by rw[b,h1,h2],fun k c=>by omega⟩
 ·refine⟨_,cap,g,by rw[b];exact h1,fun k hk0=>⟨rfl,?_⟩⟩
  have c:k<Z y.conns:=by omega
  have f:=Bd c;have a:=h.at_ k _ f;have j:cur[k*9]?=d.toArray[k*9]?:=by rw[<-h7];exact((Fo (i:=k*9)).trans (jI (by omega))).symm
  rw[zB h3,j,Ha];generalize y.conns[k]=o at*
  match o,a with
  |S,a=>exact a
  |V (.hd _),a=>exact a.1
  |V (.bd _),a=>exact a.1
theorem zg3 {f k:Aj}{y:Yd}{l:A Aj}(h:D.YI w yb B (Av false) f y d vc k l)(b:y.conns[m]?=V (V c))(s:COk c)(q:Z y.conns<=64)(r:Z y.sent<=1000000000)(n:B<=w.heap.size)(x:Ab):Am prog 145 #[Al (V ⟨yb,0,S⟩),O Ai (m+1:Ad),O Bp x.toNat] w fun e w'=>e=Af (Av ((y.take0 m x).isOpen (m+1:Ad)))/\∃vs' xs',D.YI w' yb B (Av false) f (y.take0 m x) d vc vs' xs'/\D.Mv w w' (D.YF yb d vc k l y.conns) (D.YF yb d vc vs' xs' (y.take0 m x).conns):=by
 have a:=(Bo.1 b).1;rcases h.con.2 with ⟨h1,h2⟩|⟨g,cap,cur,h1,h2,h3,h4,h5,h6,h7⟩
 ·omega
 ·subst h1
  have p:D.At w B cur (m*9) (V c):=(h.at_ m _ b).move (fun j j1 j2=>by rw[<-h7];exact((Fo (i:=j)).trans (jI (by omega))).symm) (fun _ _ _ _ _ _ _=>rfl);refine(ziJ x h.box h3 a q (by omega) h.ev r n p s).mono fun e w' ⟨q1,q2⟩=>?_
  rw[bF y m c x b];refine⟨?_,h.post b h3 h2 ⟨h4,h5⟩ h6 h7 q2⟩;rw[q1,zb6 (o:=(tU m c x).2) (by simpa using a) (Fm a)]
structure D.Fd (w wr:Ag) (yb B:Ad) (th vd vc vs:Aj) (xs:A Aj) (y y':Yd) (i:Ad) (vs':Aj) (xs':A Aj):Prop where
 inv:D.YI wr yb B (Av false) th y' vd vc vs' xs'
 mv:D.Mv w wr (D.YF yb vd vc vs xs y.conns) (D.YF yb vd vc vs' xs' y'.conns)
 len:Z y'.conns=Z y.conns
 ok:YOk y'
 sent:Z y'.sent<=Z y.sent+i
theorem zg1 {t:Aj}{y:Yd}{x:A Aj}{a:Br Eu}{l:A Ab}(h:D.YI w yb B (Av false) th y t vc v x)(hk:YOk y)(ho:y.isOpen (m+1:Ad)=true)(hr:RdO w (X a (Z l) k) l)(ha:l≠[]->∀k',(X a (Z l) k).ownBlock=V k'->¬D.YF yb t vc v x y.conns k')(aj:Z l<=2000000)(hs:Z y.sent<=10000000)(hn:Z y.conns<=64)(hB:B<=w.heap.size):Am prog 97 #[Al (V ⟨yb,0,S⟩),O Ai (m+1:Ad),X a (Z l) k] w fun e w'=>e=Af (O Ai 0)/\∃d f,D.YI w' yb B (Av false) th (y.fed0 m l) t vc d f/\D.Mv w w' (D.YF yb t vc v x y.conns) (D.YF yb t vc d f (y.fed0 m l).conns):=by
 obtain⟨ca,ck,g0,af,ae⟩:=h.there;subst af;have HO:=hid (tH (y.conns.map No) (m+1:Ad) h.box ae (by rw[Bv];omega));rw[uz,ho] at HO;have HZ:Y (D.Fd w w yb B th t (X ca (Z (y.conns.map No)) ck) v x y (y.fed0 m (l.take 0)) 0 v x):=⟨h,D.Mv.refl _ _,rfl,hk,Aq _⟩;generalize X ca (Z (y.conns.map No)) ck=vc at*;have ad:=hid hr;have H:Y (∀wr y' i d f,D.Fd w wr yb B th t vc v x y y' i d f->RdO wr (X a (Z l) k) l):=fun wr y' i d f hF=>by
  by_cases h0:l=[]
  ·exact Ay ⟨a,k,by rw[h0];rfl,h0⟩
  rcases hr with h|⟨g,o,c,h1,hc,h2,h3⟩
  ·exact Ay h
  ·have e:=hF.mv.turn.block g h2 (ha h0 g (by rw[h1];rfl))
   exact Bf ⟨g,o,c,h1,hc,Eh h2 hF.mv.turn.size,fun j u hu=>by rw[Mr (a:=⟨g,o+j,S⟩) e];exact h3 j u hu⟩
 have Q:Y (∀wr y' i d f (c:Ab),D.Fd w wr yb B th t vc v x y y' i d f->i<Z l->y'.isOpen (m+1:Ad)=true->Am prog 145 #[Al (V ⟨yb,0,S⟩),O Ai (m+1:Ad),O Bp c.toNat] wr fun e w'=>e=Af (Av ((y'.take0 m c).isOpen (m+1:Ad)))/\∃q r,D.Fd w w' yb B th t vc v x y (y'.take0 m c) (i+1) q r):=fun wr y' i d f c hF hi p=>by
  obtain⟨c0,aa⟩:=dS p;have ak:=hF.mv.turn.size;refine(zg3 hF.inv aa (hF.ok m c0 aa) (by rw[hF.len];exact hn) (by have:=hF.sent;omega) (by omega) c).mono ?_;rintro e w' ⟨q1,q,r,q2,q3⟩;exact⟨q1,q,r,⟨q2,hF.mv.trans q3,by rw[bF y' m c0 c aa];show(Z (y'.conns.set m _))=_;rw[Gv,hF.len],hF.ok.take0 m c,by have:=bG y' m c;have:=hF.sent;omega⟩⟩
 have E:Y (∀i,i<=Z l->(y.fed0 m (l.take i)).isOpen (m+1:Ad)=false->y.fed0 m l=y.fed0 m (l.take i)):=fun i hi p=>by
  have:l=l.take i++l.drop i:=(He i l).symm;rw[this,gK,He,rR _ _ _ p]
 have N:Y (∀i (hi:i<Z l),(y.fed0 m (l.take i)).isOpen (m+1:Ad)=true->(y.fed0 m (l.take i)).take0 m l[i]=y.fed0 m (l.take (i+1))):=fun i hi p=>by
  rw[Sp,Bd hi];show _=y.fed0 m (l.take i++[l[i]]);rw[rS];unfold Yd.step0;rw[Az p]
 have z:Y (l.take (Z l)=l):=Ia;have ab:=J (ho);generalize((m+1:Ad):Ak)=n at*;go_in;go_wp2_with fail;refine HO.o.mono ?_;rintro e w1 ⟨rfl,rfl⟩;go_wp2_with fail
 go_loopw [8] (fun iv wr=>∃i:Ad,i<=Z l/\iv=O Ai i/\Y ((y.fed0 m (l.take i)).isOpen n=true)/\∃d f,Y (D.Fd w1 wr yb B th t vc v x y (y.fed0 m (l.take i)) i d f)) (fun iv _=>Z l-(intOf iv).toNat)
 ·exact⟨0,Ax _,rfl,ab,v,x,HZ⟩
 ·
  obtain⟨i,ai,rfl,F,d,f,HW⟩:=hrel
  by_cases s:i<Z l
  ·have ah:(i:Ak)<Z l:=by omega
   have HR:=hid (H.o wr _ i d f HW.o);have HT:=hid (Q.o wr _ i d f l[i] HW.o s F.o);have HE:=hid (E.o (i+1) (by omega));rw[(N.o i s F.o)] at HT;obtain⟨g,o,rfl,ag⟩:∃g o,a=V ⟨g,o,S⟩/\wr.cell? ⟨g,o+i,S⟩=V (O Bp l[i].toNat):=by
    rcases HR.o with ⟨_,_,e,e2⟩|⟨g,o,c,e,_,_,h3⟩
    ·rw[e2] at s;cases s
    ·simp only[Au,Fb] at e
     exact⟨g,o,e.1,h3 i _ (Bd s)⟩
   generalize l[i]=c at*;generalize p:(y.fed0 m (l.take (i+1))).isOpen n=b at*;have HB:=hid p;go_wp2_with fail;refine HT.o.mono ?_;rintro e w3 ⟨rfl,q,r,F3⟩;have C:=hid F3
   cases b
   ·go_wp2
    go_ret;exact⟨rfl,q,r,by rw[HE.o trivial];exact C.o.inv,by rw[HE.o trivial];exact C.o.mv⟩
   ·go_wp2_with fail
    go_roundw
    ·exact⟨i+1,by omega,by go_num,HB,q,r,C⟩
    ·simp[intOf];omega
  ·have hE:i=Z l:=by omega
   subst hE;rw[z.o] at HW;go_wp2;go_ret;exact⟨rfl,d,f,HW.o.inv,HW.o.mv⟩
theorem eN {f g i:Aj}{y:Yd}{j:A Aj}(h:D.YI w yb B f d y g vc i j)(n:Ak)(v:Aj)(c:y.isOpen n=false)(l:Z y.conns<=64):Am prog 97 #[Al (V ⟨yb,0,S⟩),O Ai n,v] w fun e w'=>e=Af (O Ai 7)/\w'=w:=by
 obtain⟨ca,ck,k,b,a⟩:=h.there;subst b;exact oQ v (y.conns.map No) n h.box a (by rw[Bv];omega) (by rw[uz];exact c)
theorem rD {f g i:Aj}{y:Yd}{j:A Aj}(h:D.YI w yb B f d y g vc i j)(n:Ak)(c:y.isOpen n=false)(l:Z y.conns<=64):Am prog 63 #[Al (V ⟨yb,0,S⟩),O Ai n] w fun e w'=>e=Af (O Ai 7)/\w'=w:=by
 obtain⟨ca,ck,k,b,a⟩:=h.there;subst b;exact eI (y.conns.map No) n h.box a (by rw[Bv];omega) (by rw[uz];exact c)
theorem zc1 {q f:Aj}{y:Yd}{v:A Aj}(h:D.YI w yb B r q y f vc l v)(u:y.isOpen (m+1:Ad)=true)(z:Z y.conns<=64):Am prog 63 #[Al (V ⟨yb,0,S⟩),O Ai (m+1:Ad)] w fun e w'=>e=Af (O Ai 0)/\∃vs' xs',D.YI w' yb B r q (y.ended m) f vc vs' xs'/\D.Mv w w' (D.YF yb f vc l v y.conns) (D.YF yb f vc vs' xs' (y.ended m).conns):=by
 obtain⟨c,t⟩:=dS u;have p:=(Bo.1 t).1;obtain⟨ca,ck,a,d,b⟩:=h.there;rcases h.con.2 with ⟨h1,h2⟩|⟨g,cap,cur,h1,h2,h3,h4,h5,h6,h7⟩
 ·omega
 ·have e:=(b m (by rw[Bv];exact p)).1
  rw[e,Bv] at d;have s:=d.symm.trans h1;simp only[Au,Ey,Addr.mk.injEq,and_true,Fb] at s;obtain⟨rfl,rfl⟩:=s;subst h1;refine(zfV (ca:=ca) (ck:=ck) (g:=a) (m:=m) (y.conns.map No) (by rw[Bv,e];exact h.box) b h3 (by rw[Bv];omega) (by rw[uz];exact u)).mono fun e w' ⟨q1,q2⟩=>⟨q1,?_⟩
  subst q2;have n:=zF w a (m*9) (Av true);have o:¬yb=a:=fun e=>by have h:=h.box;rw[e,h3] at h;simp at h
  have x:D.BPost w (w.setCell ⟨a,m*9,S⟩ (Av true)) yb B a (Z y.conns) ck m r q f l cur y.sent S:=⟨⟨_,l,zE h.box n (by simp;exact o),zH (i:=m*9) h3 _,by simp,fun j hj=>by rw[Cd,Aw (by omega)],zJ h.ev n (zI h3 h.ev (by decide)),jd _ (by omega),fun k hk=>Ay hk,fun c=>absurd rfl c⟩,(Turn.refl w _).step n (fun k hk=>Ay (Bf (Ay (Bc hk).symm)))⟩;exact h.post t h3 h2 ⟨h4,h5⟩ h6 h7 x
theorem nn {c f g:Aj}{y:Yd}{i:A Aj}(h:D.YI w yb B d c y f vc g i)(b:Z y.conns=64):Am prog 61 #[Al (V ⟨yb,0,S⟩)] w fun e w'=>e=Af (Cm #[O Ai 0,O Ai 7])/\w'=w:=by
 obtain⟨ca,ck,j,a,_⟩:=h.there;rw[Bv,b] at a;subst a;exact px h.box
theorem zg2 {N x:Aj}{y:Yd}{o:A Aj}(h:D.YI w yb B N H y x vc z o)(hn:Z y.conns<64)(Q:B<=w.heap.size):Am prog 61 #[Al (V ⟨yb,0,S⟩)] w fun e w'=>e=Af (Cm #[O Ai (Z y.conns+1:Ad),O Ai 0])/\∃vc' xs',D.YI w' yb B N H y.opened x vc' z xs'/\D.Mv w w' (D.YF yb x vc z o y.conns) (D.YF yb x vc' z xs' y.opened.conns):=by
 obtain⟨ca,ck,g0,s,_⟩:=h.there;rw[Bv] at s;subst s;refine(ziH h.box h.con hn Q).mono fun e w' ⟨q1,g9,cap9,q2,q3,q4,q5⟩=>⟨q1,X (V ⟨g9,0,S⟩) (Z y.conns+1) cap9,o++D.new,?_⟩
 have E:=h.con.1;have C:∀k,k<w.heap.size->k≠yb->(X ca (Z y.conns) ck).ownBlock≠V k->w'.heap[k]?=w.heap[k]?:=fun k hk h1 h2=>q5.block k hk (fun c=>c.elim h1 h2)
 have d:∀(i j:Ad),i<Z y.conns->i*9<=j->j<i*9+9->(o++D.new)[j]?=o[j]?:=fun i j h1 h2 h3=>Cx (by omega)
 have l:∀(j:Ad) (v:Aj),Z y.conns*9<=j->(o++D.new)[j]?=V v->v.ownBlock=S:=fun j v h1 e=>by
  rw[Cl (by omega)] at e;have F:=(Bo.1 e).1;have:∀u∈D.new,u.ownBlock=S:=by decide
  exact this v (Xt e)
 have m:∀(i:Ad) (c:Br Cn),y.opened.conns[i]?=V c->(i<Z y.conns/\y.conns[i]?=V c)\/(i=Z y.conns/\c=V (.hd xf)):=fun i c e=>by
  by_cases p:i<Z y.conns
  ·exact Ay ⟨p,(Cx p).symm.trans e⟩
  ·have f:[V (Cn.hd xf)][i-Z y.conns]?=V c:=(Cl (by omega)).symm.trans e
   have hl:=(Bo.1 f).1;have t:i=Z y.conns:=by simp at hl;omega
   subst t;rw[Gp] at f;exact Bf ⟨rfl,(Bc f).symm⟩
 refine⟨⟨q2,h.dr.keep q5.size (fun k hk=>?_),?_,Turn.row h.ev q5 (fun k hk c=>?_),fun i c p=>?_,fun i j ci cj hij p F a b u v k a1 a2 b1 b2 e1 f e3 e4=>?_,h.low⟩,⟨⟨q5.os,q5.tape,q5.output,q5.size,fun k hk hF=>C k hk (fun e=>hF (Ay e)) (fun e=>hF (Bf (Bf (Ay e))))⟩,fun k hk=>?_⟩⟩
 ·obtain⟨_,cs,r⟩:=h.dr.block k hk
  refine C k (zO r) (fun e=>?_) (fun e=>?_)
  ·rw[e,h.box] at r;simp at r
  ·obtain⟨_,q⟩:=qT h.con k e
   rw[q] at r;simp at r
 ·show w'.ownsRow B 195 9 _ (Z (y.conns++[V (Cn.hd xf)])) _
  rw[Ah];exact q3
 ·rcases c with e|e
  ·exact zI h.box h.ev (by decide) k hk e
  ·exact qB h.con h.ev (by decide) k hk e
 ·rcases m i c p with ⟨h1,h2⟩|⟨h1,h2⟩
  ·have t:=h.at_ i c h2
   have g:∀j,i*9<=j->j<i*9+9->(o++D.new).toArray[j]?=o.toArray[j]?:=fun j j1 j2=>by
    rw[Fo,Fo,d i j h1 j1 j2]
   cases c with
   |none=>exact(g _ (by omega) (by omega)).trans t
   |some c=>
    refine t.move g (fun j v k j1 j2 e1 f=>?_);rw[Fo] at e1;obtain⟨r1,r2,r3,r4,r5,r6⟩:=h.own h2 j1 j2 e1 f;exact C k r2 r3 r5
  ·subst h1;subst h2
   have n:∀j,(o++D.new).toArray[Z y.conns*9+j]?=D.new[j]?:=fun j=>by rw[Fo,Cl (by omega),E,Ow]
   exact⟨n 0,n 2,⟨n 3,n 4,⟨_,n 5,Bk _ _ _ _⟩,n 6,n 7,n 8⟩,(fun c hc=>by cases hc),[],S,0,rfl,n 1,Bk _ _ _ _,Ay rfl⟩
 ·rcases m i _ p with ⟨i1,i2⟩|⟨i1,i2⟩
  ·rcases m j _ F with ⟨j1,j2⟩|⟨j1,j2⟩
   ·exact h.apart i j ci cj hij i2 j2 a b u v k a1 a2 b1 b2 (by rw[<-d i a i1 a1 a2];exact e1) (by rw[<-d j b j1 b1 b2];exact f) e3 e4
   ·rw[l b v (by omega) f] at e4;cases e4
  ·rw[l a u (by omega) e1] at e3;cases e3
 ·rcases hk with e|e|e|e|⟨i,ci,j,v,p,j1,j2,e1,f⟩
  ·exact Ay (Ay e)
  ·exact Ay (Bf (Ay e))
  ·cases e
   exact q4.imp (fun e=>Bf (Bf (Ay e))) id
  ·exact Ay (Bf (Bf (Bf (Ay e))))
  ·rcases m i _ p with ⟨i1,i2⟩|⟨i1,i2⟩
   ·exact Ay (Bf (Bf (Bf (Bf ⟨i,ci,j,v,i2,j1,j2,by rw[<-d i j i1 j1 j2];exact e1,f⟩))))
   ·rw[l j v (by omega) e1] at f;cases f
theorem D.YI.new (d:w.heap[yb]?=V (Ae #[Av false,X S 0 0,X S 0 0,X S 0 0,X S 0 0] 131 (0,0)))(b:B<=yb):D.YI w yb B (Av false) (X S 0 0) Yd.new (X S 0 0) (X S 0 0) (X S 0 0) []/\∀k,D.YF yb (X S 0 0) (X S 0 0) (X S 0 0) [] Yd.new.conns k->k=yb:=
 ⟨⟨d,⟨S,0,0,0,rfl,⟨Aq _,fun h=>by omega,fun h=>by omega,rfl,fun j u h=>by simp[Yd.new] at h,fun j h=>by simp at h⟩,fun a h=>by cases h⟩,Bk _ _ _ _,Bk _ _ _ _,(fun m c e=>by cases e),(fun i j ci cj _ e=>by cases e),b⟩,fun k hk=>by
  rcases hk with e|e|e|e|⟨m,c,j,v,e,_⟩
  ·exact e
  ·cases e
  ·cases e
  ·cases e
  ·cases e⟩
theorem D.YI.told {g n:Aj}{y:Yd}{f:A Aj}(h:D.YI w yb B l g y d vc n f):D.YI (w.setCell ⟨yb,4,S⟩ (X S 0 0)) yb B l g y.told d vc (X S 0 0) f/\D.Mv w (w.setCell ⟨yb,4,S⟩ (X S 0 0)) (D.YF yb d vc n f y.conns) (D.YF yb d vc (X S 0 0) f y.told.conns):=by
 have b:=zF w yb 4 (X S 0 0);have a:∀k,k<w.heap.size->k≠yb->(w.setCell ⟨yb,4,S⟩ (X S 0 0)).heap[k]?=w.heap[k]?:=fun k h1 h2=>b.block k h1 (by simp;exact h2)
 refine⟨⟨zH (i:=4) h.box _,h.dr.keep b.size (fun k q=>?_),zJ h.con b (zI h.box h.con (by decide)),Bk _ _ _ _,fun m c hm=>?_,h.apart,h.low⟩,⟨(Turn.refl w _).step b (fun k a=>Ay (Ay (Bc a).symm)),fun k a=>?_⟩⟩
 ·obtain⟨_,s,r⟩:=h.dr.block k q
  exact a k (zO r) (fun e=>by rw[e,h.box] at r;simp at r)
 ·cases c with
  |none=>exact h.at_ m S hm
  |some c=>
   refine(h.at_ m _ hm).move (fun _ _ _=>rfl) (fun j v k j1 j2 e1 e2=>?_);rw[Fo] at e1;obtain⟨t,o,p,_⟩:=h.own hm j1 j2 e1 e2;exact a k o p
 ·rcases a with e|e|e|e|e
  ·exact Ay (Ay e)
  ·exact Ay (Bf (Ay e))
  ·exact Ay (Bf (Bf (Ay e)))
  ·cases e
  ·exact Ay (Bf (Bf (Bf (Bf e))))
theorem D.YI.keep {i g b:Aj}{y:Yd}{f:A Aj}(h:D.YI w yb B i g y b vc d f)(l:w.heap.size<=w'.heap.size)(a:∀k,D.YF yb b vc d f y.conns k->w'.heap[k]?=w.heap[k]?):D.YI w' yb B i g y b vc d f:=by
 refine⟨by rw[a yb (Ay rfl)];exact h.box,h.dr.keep l (fun k q=>a k (Bf (Ay q))),jH h.con (fun k q=>a k (Bf (Bf (Ay q)))),jH h.ev (fun k q=>a k (Bf (Bf (Bf (Ay q))))),fun m c hm=>?_,h.apart,h.low⟩
 cases c with
 |none=>exact h.at_ m S hm
 |some c=>
  refine(h.at_ m _ hm).move (fun _ _ _=>rfl) (fun j v k j1 j2 e1 e2=>a k (Bf (Bf (Bf (Bf ⟨m,c,j,v,hm,j1,j2,?_,e2⟩)))));rw[Fo] at e1;exact e1
theorem D.YI.lt {n b:Aj}{y:Yd}{f:A Aj}(h:D.YI w yb B n l y b vc d f)(g:D.YF yb b vc d f y.conns k):B<=k/\k<w.heap.size:=by
 rcases g with e|e|e|e|⟨m,c,j,v,hm,j1,j2,e1,e2⟩
 ·rw[e];exact⟨h.low,zO h.box⟩
 ·obtain⟨a,o,r⟩:=h.dr.block k e
  exact⟨a,zO r⟩
 ·exact An h.con k e
 ·exact An h.ev k e
 ·obtain⟨a,i,_⟩:=h.own hm j1 j2 e1 e2
  exact⟨a,i⟩
def prTypes:A Cs:=ydTypes++cnTypes++[131,195,185]
theorem D.YI.types {o b:Aj}{y:Yd}{g:A Aj}(h:D.YI w yb B p o y b vc d g)(i:D.YF yb b vc d g y.conns k):∃c t f,w.heap[k]?=V (Ae c t f)/\t∈prTypes:=by
 rcases i with e|e|e|e|⟨m,c,j,v,hm,j1,j2,e1,e2⟩
 ·rw[e];exact⟨_,_,_,h.box,by decide⟩
 ·obtain⟨_,a,r⟩:=h.dr.block k e
  exact⟨_,_,_,r,by decide⟩
 ·obtain⟨a,r⟩:=qT h.con k e
  exact⟨_,_,_,r,by decide⟩
 ·obtain⟨a,r⟩:=qT h.ev k e
  exact⟨_,_,_,r,by decide⟩
 ·obtain⟨_,c,t,l,n⟩:=(h.at_ m _ hm).kind j1 j2 (by rw[Fo];exact e1) e2
  exact⟨_,_,_,l,by rcases n with rfl|rfl <;> decide⟩
structure Pr (w:Ag) (xb yb B:Ad) (y1 y2:Yd) (F:Ad->Prop):Prop where
 ex:∃ps vd vc vs xs,YInv w xb B (Al S) ps y1/\D.YI w yb B (Av false) (X S 0 0) y2 vd vc vs xs/\(∀k,YF w xb ps k->F k/\¬D.YF yb vd vc vs xs y2.conns k)/\∀k,D.YF yb vd vc vs xs y2.conns k->F k
 ty:∀k,F k->B<=k/\∃c t f,w.heap[k]?=V (Ae c t f)/\t∈prTypes
variable {y1:Yd}
theorem Pr.lt {b:Yd}(h:Pr w a yb B y1 b F)(k:Ad)(c:F k):B<=k/\k<w.heap.size:=by grind[Yd,Pr]
theorem Pr.keep {g:Yd}(h:Pr w f yb B y1 g F)(d:w.heap.size<=w'.heap.size)(a:∀k,F k->w'.heap[k]?=w.heap[k]?):Pr w' f yb B y1 g F:=by
 obtain⟨l,o,vc,p,r,i,j,b,c⟩:=h.ex;obtain⟨m,n⟩:=i.keep d (fun k q=>a k (b k q).1);exact⟨⟨l,o,vc,p,r,m,j.keep d (fun k q=>a k (c k q)),fun k q=>b k (n k q),c⟩,fun k q=>by rw[a k q];exact h.ty k q⟩
theorem Pr.grown {b:Yd}(h:Pr w a yb B y1 b F)(g:w.grownBy w' S):Pr w' a yb B y1 b F:=h.keep g.size (fun k q=>g.block k (h.lt k q).2 (by simp))
theorem Pr.of {i:Yd}{a:A (Br Ad)}{b:Aj}{h:A Aj}(j:YInv w g B (Al S) a y1)(l:D.YI w yb B (Av false) (X S 0 0) i b vc d h)(m:∀k,YF w g a k->¬D.YF yb b vc d h i.conns k):Pr w g yb B y1 i (fun k=>YF w g a k\/D.YF yb b vc d h i.conns k):=
 ⟨⟨a,b,vc,d,h,j,l,fun k q=>⟨Ay q,m k q⟩,fun k q=>Bf q⟩,fun k q=>by
  rcases q with q|q
  ·obtain⟨c,t,f,n,o⟩:=j.types rfl q
   exact⟨j.low_all rfl q,c,t,f,n,Mo _ (Ea.2 o)⟩
  ·exact⟨(l.lt q).1,l.types q⟩⟩
theorem Pr.x {h b:Yd}{o:A (Br Ad)}{f:Aj}{g:A Aj}(lt:∀k,F k->B<=k/\k<w.heap.size)(p:D.YI w yb B (Av false) (X S 0 0) b d vc f g)(j:∀k,YF w a o k->F k/\¬D.YF yb d vc f g b.conns k)(l:∀k,D.YF yb d vc f g b.conns k->F k)(i:YInv w' a B (Al S) ps' h)(m:YMv w w' a o ps'):Pr w' a yb B h b (fun k=>YF w' a ps' k\/D.YF yb d vc f g b.conns k)/\D.Mv w w' F (fun k=>YF w' a ps' k\/D.YF yb d vc f g b.conns k):=by
 have n:=m.turn.size;refine⟨Pr.of i (p.keep n (fun k q=>m.turn.block k (lt k (l k q)).2 (fun c=>(j k c).2 q))) (fun k q e=>?_),⟨⟨m.turn.os,m.turn.tape,m.turn.output,n,fun k hk hn=>m.turn.block k hk (fun c=>hn (j k c).1)⟩,fun k q=>?_⟩⟩
 ·rcases m.foot k q with c|c
  ·exact(j k c).2 e
  ·have:=(lt k (l k e)).2;omega
 grind[Pr.of,Yd,D.YI,YF,D.YF,YInv,YMv,Pr,D.Mv]
theorem Pr.y {h:Ad}{r a:Yd}{l:A (Br Ad)}{n o b f:Aj}{p g:A Aj}(lt:∀k,F k->B<=k/\k<w.heap.size)(u:YInv w h B (Al S) l y1)(j:∀k,YF w h l k->F k/\¬D.YF yb n vc o p r.conns k)(v:∀k,D.YF yb n vc o p r.conns k->F k)(i:D.YI w' yb B (Av false) (X S 0 0) a d b f g)(m:D.Mv w w' (D.YF yb n vc o p r.conns) (D.YF yb d b f g a.conns)):Pr w' h yb B y1 a (fun k=>YF w' h l k\/D.YF yb d b f g a.conns k)/\D.Mv w w' F (fun k=>YF w' h l k\/D.YF yb d b f g a.conns k):=by
 have s:=m.turn.size;obtain⟨x,t⟩:=u.keep s (fun k q=>m.turn.block k (lt k (j k q).1).2 (j k q).2);refine⟨Pr.of x i (fun k q e=>?_),⟨⟨m.turn.os,m.turn.tape,m.turn.output,s,fun k hk hn=>m.turn.block k hk (fun c=>hn (v k c))⟩,fun k q=>?_⟩⟩
 ·rcases m.foot k e with c|c
  ·exact(j k (t k q)).2 c
  ·have:=(lt k (j k (t k q)).1).2;omega
 grind[Pr.of,Yd,YInv,YF,D.YF,D.YI,D.Mv,Pr]
def Yd.op (y:Yd):Yd×Ak×Ak:=if (Z y.conns)=64 then (y,0,7) else (y.opened,(Z y.conns+1:Ad),0)
def Yd.fd (y:Yd)(c:Ak)(l:A Ab):Yd×Ak:=if y.isOpen c then (y.fed0 (c-1).toNat l,0) else (y,7)
def Yd.cl (y:Yd)(c:Ak):Yd×Ak:=if y.isOpen c then (y.ended (c-1).toNat,0) else (y,7)
theorem un {y:Yd}{c:Ak}(h:y.isOpen c=true):c=(((c-1).toNat+1:Ad):Ak):=by
 unfold Yd.isOpen at h;simp only[Ez,Gd] at h
 omega
theorem zkS {d:Yd}(h:Pr w b yb B y1 d F)(j:B<=w.heap.size)(k:Z y1.conns<=64):Am prog 24 #[Al (V ⟨b,0,S⟩)] w fun e w'=>e=Af (Cm #[O Ai y1.op.2.1,O Ai y1.op.2.2])/\∃F',Pr w' b yb B y1.op.1 d F'/\D.Mv w w' F F':=by
 obtain⟨l,m,vc,n,o,c,f,g,i⟩:=h.ex;unfold Yd.op
 by_cases a:Z y1.conns=64
 ·simp only[Az a]
  exact(pW c a).mono fun e w' ⟨q1,q2⟩=>⟨q1,F,by rw[q2];exact h,by rw[q2];exact D.Mv.refl _ _⟩
 ·simp only[Aw a]
  exact(zi2 c rfl (by omega) j).mono fun e w' ⟨q1,q2,q3⟩=>⟨q1,_,Pr.x h.lt f g i q2 q3⟩
theorem zkU {d:Ad}{a:Yd}(h:Pr w d yb B y1 a F)(j:B<=w.heap.size)(k:Z a.conns<=64):Am prog 61 #[Al (V ⟨yb,0,S⟩)] w fun e w'=>e=Af (Cm #[O Ai a.op.2.1,O Ai a.op.2.2])/\∃F',Pr w' d yb B y1 a.op.1 F'/\D.Mv w w' F F':=by
 obtain⟨l,m,vc,n,o,f,c,g,i⟩:=h.ex;unfold Yd.op
 by_cases b:Z a.conns=64
 ·simp only[Az b]
  exact(nn c b).mono fun e w' ⟨q1,q2⟩=>⟨q1,F,by rw[q2];exact h,by rw[q2];exact D.Mv.refl _ _⟩
 ·simp only[Aw b]
  exact(zg2 c (by omega) j).mono fun e w' ⟨q1,vc',xs',q2,q3⟩=>⟨q1,_,Pr.y h.lt f g i q2 q3⟩
theorem ziF {f:Yd}(h:Pr w b yb B y1 f F)(l:Z y1.conns<=64)(c:Ak):Am prog 27 #[Al (V ⟨b,0,S⟩),O Ai c] w fun e w'=>e=Af (O Ai (y1.cl c).2)/\∃F',Pr w' b yb B (y1.cl c).1 f F'/\D.Mv w w' F F':=by
 obtain⟨k,n,vc,o,p,a,g,i,j⟩:=h.ex;have d:Z k<=1000000:=by rw[a.len];omega
 unfold Yd.cl
 cases ho:y1.isOpen c with
 |false=>exact(ab a c ho d).mono fun e w' ⟨q1,q2⟩=>⟨q1,F,by rw[q2];exact h,by rw[q2];exact D.Mv.refl _ _⟩
 |true=>
  have e:=un ho;generalize(c-1).toNat=m at e;subst e;rw[Az rfl];exact(zeR a rfl m ho d).mono fun e w' ⟨q1,q2,q3⟩=>⟨q1,_,Pr.x h.lt g i j q2 q3⟩
theorem ziG {a:Yd}(h:Pr w f yb B y1 a F)(d:Z a.conns<=64)(c:Ak):Am prog 63 #[Al (V ⟨yb,0,S⟩),O Ai c] w fun e w'=>e=Af (O Ai (a.cl c).2)/\∃F',Pr w' f yb B y1 (a.cl c).1 F'/\D.Mv w w' F F':=by
 obtain⟨k,l,vc,n,o,g,b,i,j⟩:=h.ex;unfold Yd.cl
 cases ho:a.isOpen c with
 |false=>exact(rD b c ho d).mono fun e w' ⟨q1,q2⟩=>⟨q1,F,by rw[q2];exact h,by rw[q2];exact D.Mv.refl _ _⟩
 |true=>
  have e:=un ho;generalize(c-1).toNat=m at e;subst e;rw[Az rfl];exact(zc1 b ho d).mono fun e w' ⟨q1,vs',xs',q2,q3⟩=>⟨q1,_,Pr.y h.lt g i j q2 q3⟩
theorem zkR {p:Yd}{a:Br Eu}{l:A Ab}(h:Pr w i yb B y1 p F)(s:B<=w.heap.size)(H:Z y1.conns<=64)(c:Ak)(y:YOk y1)(z:RdO w (X a (Z l) k) l)(v:∀j,(X a (Z l) k).ownBlock=V j->¬F j)(f:Z l<=2000000)(C:Z y1.sent<=10000000)(u:Glob w)(t:GE w)(d:0<B/\Tryz.laysC172_ren.g 15<B):Am prog 26 #[Al (V ⟨i,0,S⟩),O Ai c,X a (Z l) k] w fun e w'=>e=Af (O Ai (y1.fd c l).2)/\∃F',Pr w' i yb B (y1.fd c l).1 p F'/\D.Mv w w' F F':=by
 obtain⟨E,N,vc,Q,xs,b,q,n,r⟩:=h.ex;have o:Z E<=1000000:=by rw[b.len];omega
 unfold Yd.fd
 cases ho:y1.isOpen c with
 |false=>exact(lW b c _ ho o).mono fun e w' ⟨q1,q2⟩=>⟨q1,F,by rw[q2];exact h,by rw[q2];exact D.Mv.refl _ _⟩
 |true=>
  have e:=un ho;generalize(c-1).toNat=m at e;subst e;rw[Az rfl];exact(zeS b y ho z (fun j hj c=>v j hj (n j c).1) f C o s u t d).mono fun e w' ⟨q1,ps',q2,q3,_⟩=>⟨q1,_,Pr.x h.lt q n r q2 q3⟩
theorem zkT {b:Yd}{a:Br Eu}{l:A Ab}(h:Pr w n yb B y1 b F)(q:B<=w.heap.size)(i:Z b.conns<=64)(c:Ak)(s:YOk b)(t:RdO w (X a (Z l) k) l)(r:l≠[]->∀j,(X a (Z l) k).ownBlock=V j->¬F j)(d:Z l<=2000000)(u:Z b.sent<=10000000):Am prog 97 #[Al (V ⟨yb,0,S⟩),O Ai c,X a (Z l) k] w fun e w'=>e=Af (O Ai (b.fd c l).2)/\∃F',Pr w' n yb B y1 (b.fd c l).1 F'/\D.Mv w w' F F':=by
 obtain⟨v,x,vc,z,C,o,f,p,g⟩:=h.ex;unfold Yd.fd
 cases ho:b.isOpen c with
 |false=>exact(eN f c _ ho i).mono fun e w' ⟨q1,q2⟩=>⟨q1,F,by rw[q2];exact h,by rw[q2];exact D.Mv.refl _ _⟩
 |true=>
  have e:=un ho;generalize(c-1).toNat=m at e;subst e;rw[Az rfl];exact(zg1 f s ho t (fun h0 j hj c=>r h0 j hj (g j c)) d u i q).mono fun e w' ⟨q1,vs',xs',q2,q3⟩=>⟨q1,_,Pr.y h.lt o p g q2 q3⟩
theorem zfT {g:Yd}(h:Pr w b yb B y1 g F):Am prog 28 #[Al (V ⟨b,0,S⟩)] w fun e w'=>∃v,e=Af v/\w'.ownsRow B 44 3 v (Z y1.sent) (evCells y1.sent)/\(∀k,v.ownBlock=V k->F k)/\∃F',Pr w' b yb B y1.told g F'/\D.Mv w w' F F'/\∀k,v.ownBlock=V k->¬F' k:=by
 obtain⟨j,l,vc,m,n,i,d,a,f⟩:=h.ex;refine(lV i rfl).mono fun e w' ⟨v,q1,q2,q3,q4,q5,q6⟩=>⟨v,q1,q4,fun k hk=>(a k (q6 k hk)).1,_,(Pr.x h.lt d a f q2 q3).1,(Pr.x h.lt d a f q2 q3).2,fun k hk c=>?_⟩
 rcases c with c|c
 ·exact q5 k hk c
 ·exact(a k (q6 k hk)).2 c
theorem zkV {b:Yd}(h:Pr w a yb B y1 b F):∃F',Pr (w.setCell ⟨yb,4,S⟩ (X S 0 0)) a yb B y1 b.told F'/\D.Mv w (w.setCell ⟨yb,4,S⟩ (X S 0 0)) F F':=by
 obtain⟨k,l,vc,m,n,c,d,f,g⟩:=h.ex;obtain⟨i,j⟩:=d.told;exact⟨_,Pr.y h.lt c f g i j⟩
theorem D.Mv.grown (g:w.grownBy w' S):D.Mv w w' F F:=⟨⟨g.os,g.tape,g.output,g.size,fun k hk _=>g.block k hk (by simp)⟩,fun _ h=>Ay h⟩
theorem RdO.mv {b:Br Eu}{l:A Ab}{i:Ad->Prop}(h:RdO w (X b (Z l) f) l)(m:D.Mv w w' F i)(n:l≠[]->∀g o,b=V ⟨g,o,S⟩->¬F g):RdO w' (X b (Z l) f) l:=by
 by_cases d:l=[]
 ·exact Ay ⟨b,f,by rw[d];rfl,d⟩
 rcases h with h|⟨g,o,c,h1,hc,h2,h3⟩
 ·exact Ay h
 ·have k:b=V ⟨g,o,S⟩:=by simp only[Au] at h1;exact h1.1
  have e:=m.turn.block g h2 (n d g o k);exact Bf ⟨g,o,c,h1,hc,Eh h2 m.turn.size,fun j u hu=>by rw[Mr (a:=⟨g,o+j,S⟩) e];exact h3 j u hu⟩
theorem RdO.lt {a:Br Eu}{l:A Ab}(h:RdO w (X a (Z l) b) l)(c:l≠[])(e:a=V ⟨g,o,S⟩):g<w.heap.size:=by grind[RdO]
abbrev Hs0 (a b):=Ae #[Al (V ⟨a,0,S⟩),Al (V ⟨b,0,S⟩)] 85
theorem zeH {d:Ad}{y:Yd}{z:Br Eu}{sc:Ad}{l:A Ab}(h:Pr w d yb B y y F)(v:YOk y)(hn:Z y.conns<=64)(hs:Z y.sent<=10000000)(c:Ak)(hr:RdO w (X z (Z l) sc) l)(ha:l≠[]->∀g o,z=V ⟨g,o,S⟩->¬F g)(ay:z=S->l=[])(hl:Z l<=2000000)(hB:B<=w.heap.size)(hG:Glob w)(hE:GE w)(al:0<B/\Tryz.laysC172_ren.g 15<B):Am prog 62 #[.agg #[Al (V ⟨d,0,S⟩),Al (V ⟨yb,0,S⟩)],O Ai c,X z (Z l) sc] w fun e w'=>e=Af (Av true)/\∃F',Pr w' d yb B (y.fd c l).1 (y.fd c l).1 F'/\D.Mv w w' F F':=by
 have gA:=hid (Ac w (Hs0 d yb) S);have av:Y ((w.alloc (Hs0 d yb)).heap[w.heap.size]?=V (Hs0 d yb)):=Bn _ _;have aj:=hid (rh (hr.keep gA.o (fun _ _ _ _ _ c=>by cases c)) (by omega) ay);have p:=hid h;have i:=hid hr;have C:=hid ha;have ah:Y (∀W F',Pr W d yb B y y F'->w.heap.size<=W.heap.size->w.grownBy W S->∀a k,RdO W (X a (Z l) k) l->(∀j,(X a (Z l) k).ownBlock=V j->¬F' j)->Am prog 26 #[Al (V ⟨d,0,S⟩),O Ai c,X a (Z l) k] W fun e w'=>e=Af (O Ai (y.fd c l).2)/\∃F'',Pr w' d yb B (y.fd c l).1 y F''/\D.Mv W w' F' F''):=fun W F' h1 h2 h3 a k h4 h5=>zkR h1 (by omega) hn c v h4 h5 hl hs (hG.grown h3) (hE.grown h3) al
 have ai:Y (∀W F',Pr W d yb B (y.fd c l).1 y F'->w.heap.size<=W.heap.size->RdO W (X z (Z l) sc) l->(l≠[]->∀j,(X z (Z l) sc).ownBlock=V j->¬F' j)->Am prog 97 #[Al (V ⟨yb,0,S⟩),O Ai c,X z (Z l) sc] W fun e w'=>e=Af (O Ai (y.fd c l).2)/\∃F'',Pr w' d yb B (y.fd c l).1 (y.fd c l).1 F''/\D.Mv W w' F' F''):=fun W F' h1 h2 h4 h5=>zkT h1 (by omega) hn c v h4 h5 hl hs
 have HN:Y (∀n W,Am prog 36 #[O Ai n] W fun e w'=>e=Af (O Ai n)/\w'=W):=fun n W=>tD n W
 have ax:Z l<=1000000000000:=by omega
 generalize(y.fd c l)=nd at*;go_in;go_wp2_with fail;generalize w.alloc (Hs0 d yb)=wa at*;refine aj.o.mono ?_;rintro e w1 ⟨g,aC,rfl,az,am,g1,ad,aq⟩;obtain⟨ia,ic,rfl,_⟩:=ad.form;have E:=hid am;have G1:=hid (zD gA.o g1);have Q:=hid (zE av.o g1 (by simp));have aA:=gA.o.size;have aB:w.heap.size<=g:=by omega
 have r:=hid (p.o.grown G1.o);have af:=hid (ah.o w1 F r.o G1.o.size G1.o ia ic ad (fun j hj c=>by
  have e:=aq j hj;rw[e] at c;have:=(p.o.lt g c).2;omega))
 have x0:=cbi 0 Q.o;go_wp2_with fail;refine af.o.mono ?_;rintro e w2 ⟨rfl,F1,ao,b⟩;have m:=hid ((D.Mv.grown G1.o).trans b);have f:=hid ao;have ab:¬F g:=fun c=>by have:=(p.o.lt g c).2;omega
 have H:=hid (b.turn.keep E.o ab);have ar:¬F w.heap.size:=fun c=>by have:=(p.o.lt _ c).2;omega
 have aa:=hid (b.turn.keep Q.o ar);have s:=hid (i.o.mv m.o C.o);have ae:=hid (rg H.o s.o (by
  by_cases t:l=[]
  ·exact Ay t
  ·exact Bf fun g' o e=>by have:=i.o.lt t e;omega) ax)
 have u:¬F1 g:=fun c=>by
  rcases b.foot g c with q|q
  ·exact ab q
  ·have:=zO E.o;omega
 have ak:Y (l≠[]->∀g' o,z=V ⟨g',o,S⟩->¬F1 g'):=fun t g' o e c=>by
  rcases b.foot g' c with q|q
  ·exact C.o t g' o e q
  ·have:=i.o.lt t e;have:=G1.o.size;omega
 go_wp2_with fail;refine ae.o.mono ?_;rintro e w3 ⟨rfl,g3⟩;have x:¬w.heap.size=g:=fun e=>by
  have h:=H.o;rw[<-e,aa.o] at h;simp at h
 have N:Y (D.Mv w w3 F F1):=⟨m.o.turn.step g3 (fun k v=>Bf (by have:=Bc v;omega)),m.o.foot⟩;have aw:=hid (f.o.keep g3.size (fun k v=>g3.block k (f.o.lt k v).2 (fun e=>u (by rw[<-Bc e];exact v))));have au:=hid (zE aa.o g3 (by simp;exact x));have y0:=cbi 1 au.o;have ag:=hid (ai.o w3 F1 aw.o N.o.turn.size (i.o.mv N.o C.o) (fun t j hj c=>by
  rcases i.o with ⟨_,_,_,e⟩|⟨g',o',c',e,_⟩
  ·exact t e
  ·rw[e] at hj
   simp only[Au] at e;exact ak.o t g' o' e.1 (by cases hj;exact c)))
 go_wp2_with fail;refine ag.o.mono ?_;rintro e w4 ⟨rfl,F2,ap,an⟩;have HX:=hid (Vv ap (N.o.trans an));go_wp2_with (go_at_call 36;refine(HN.o _ _).mono ?_;rintro e w' ⟨rfl,rfl⟩);go_ret;exact⟨rfl,F2,HX.o⟩
structure L.Y where
 xb:Ad
 yb:Ad
 y:Yd
 F:Ad->Prop
def L.Y.cells (p:L.Y):A Aj:=[Al (V ⟨p.xb,0,S⟩),Al (V ⟨p.yb,0,S⟩)]
def L.Y.ok (w:Ag)(B N:Ad)(p:L.Y):Prop:=Pr w p.xb p.yb B p.y p.y p.F/\YOk p.y/\(Z p.y.conns)<=64/\(Z p.y.sent)<=N
def zlG (F:Ad->Prop)(es:A (Aj×Ad×Ad)):Prop:=∀e∈es,∀k,e.1.ownBlock=V k->¬F k
structure L.W (w:Ag) (wb B N:Ad) (vl:Aj) (es ev:A (Aj×Ad×Ad)) (ys:A L.Y):Prop where
 r:L.R w wb B vl es ev
 l:w.ownsRow B 85 2 vl (Z ys) (ys.flatMap L.Y.cells)
 yd:∀(i:Ad) (p:L.Y),ys[i]?=V p->p.ok w B N
 ap:∀(i j:Ad) (p q:L.Y),i≠j->ys[i]?=V p->ys[j]?=V q->∀k,p.F k->¬q.F k
 en:∀(i:Ad) (p:L.Y),ys[i]?=V p->zlG p.F (es++ev)
theorem zhB (b:A L.Y)(i:Ad)(p q:L.Y)(h:b[i]?=V p)(e:q.cells=p.cells):(b.set i q).flatMap L.Y.cells=b.flatMap L.Y.cells:=by
 induction b generalizing i with
 |nil=>rfl
 |cons a t ih=>
  cases i with
  |zero=>cases h;show q.cells++_=p.cells++_;rw[e]
  |succ i=>show a.cells++(t.set i q).flatMap L.Y.cells=a.cells++t.flatMap L.Y.cells;rw[ih i h]
theorem uZ {e:Cs}{s:Ad}{a:A Aj}(h:w.ownsRow B e s v n a)(t:Turn w w' F)(b:∀k,F k->∃c t f,w.heap[k]?=V (Ae c t f)/\t∈prTypes)(d:e ∉ prTypes):w'.ownsRow B e s v n a:=by grind[Turn.row,qT,Turn,prTypes]
theorem L.R.mv {n:Aj}{b d:A (Aj×Ad×Ad)}(h:L.R w i B n b d)(t:Turn w w' F)(a:∀k,F k->∃c t f,w.heap[k]?=V (Ae c t f)/\t∈prTypes)(l:zlG F (b++d)):L.R w' i B n b d:=by
 obtain⟨u,x,v,y,j,o,p,q,r,s⟩:=h.ex;refine⟨⟨u,x,v,y,t.keep j (fun c=>?_),uZ o t a (by decide),uZ p t a (by decide),uZ q t a (by decide),uZ r t a (by decide),s⟩,fun e he=>Turn.row (h.all e he) t (fun k hk=>l e (Mo _ he) k hk),fun e he=>Turn.row (h.evs e he) t (fun k hk=>l e (Mh _ he) k hk),h.low,h.bd⟩;obtain⟨z,E,C,g,m⟩:=a i c;rw[j] at g;simp at g;rw[<-g.2.1] at m;revert m;decide
theorem L.Y.ok.tys {p:L.Y}(h:p.ok w B N):∀k,p.F k->∃c t f,w.heap[k]?=V (Ae c t f)/\t∈prTypes:=fun k hk=>(h.1.ty k hk).2
theorem L.W.move {Q:Ad}{y z:A (Aj×Ad×Ad)}{n:A L.Y}{p:L.Y}{y':Yd}{o:Ad->Prop}(h:L.W w Q B N H y z n)(g:n[i]?=V p)(hp:L.Y.ok w' B N' ⟨p.xb,p.yb,y',o⟩)(m:D.Mv w w' p.F o)(hN:N<=N'):L.W w' Q B N' H y z (n.set i ⟨p.xb,p.yb,y',o⟩):=by
 have f:=(Bo.1 g).1;have E:=(h.yd i p g).tys;have t:∀(j:Ad) (q:L.Y),j≠i->n[j]?=V q->q.ok w' B N':=fun j q d hq=>by
  obtain⟨u,v,q3,q4⟩:=h.yd j q hq;exact⟨u.keep m.turn.size (fun k hk=>m.turn.block k (u.lt k hk).2 (fun c=>h.ap i j p q (fun e=>d e.symm) g hq k c hk)),v,q3,Bi q4 hN⟩
 have s:∀(j:Ad) (q:L.Y),j≠i->n[j]?=V q->∀k,q.F k->¬o k:=fun j q d hq k hk c=>by
  rcases m.foot k c with e|e
  ·exact h.ap i j p q (fun e=>d e.symm) g hq k e hk
  ·have:=((h.yd j q hq).1.lt k hk).2;omega
 refine⟨h.r.mv m.turn E (h.en i p g),?_,fun j q hq=>?_,fun a b u v hab ha hb k hk=>?_,fun j q hq e he k hk c=>?_⟩
 ·rw[Gv,zhB n i p ⟨p.xb,p.yb,y',o⟩ g rfl];exact uZ h.l m.turn E (by decide)
 ·by_cases d:j=i
  ·subst d;rw[Fm f] at hq;cases hq;exact hp
  ·rw[Fc (fun e=>d e.symm)] at hq;exact t j q d hq
 ·by_cases x:a=i
  ·subst x
   rw[Fm f] at ha;cases ha;rw[Fc hab] at hb;exact fun c=>s b v (fun e=>hab e.symm) hb k c hk
  ·rw[Fc (fun e=>x e.symm)] at ha
   by_cases C:b=i
   ·subst C
    rw[Fm f] at hb;cases hb;exact s a u x ha k hk
   ·rw[Fc (fun e=>C e.symm)] at hb
    exact h.ap a b u v hab ha hb k hk
 ·by_cases d:j=i
  ·subst d;rw[Fm f] at hq;cases hq
   rcases m.foot k c with q|q
   ·exact h.en j p g e he k hk q
   ·rcases Ea.1 he with he|he
    ·have:=(An (h.r.all e he) k hk).2;omega
    ·have:=(An (h.r.evs e he) k hk).2;omega
  ·rw[Fc (fun e=>d e.symm)] at hq;exact h.en j q hq e he k hk c
theorem L.W.keep {a b:A (Aj×Ad×Ad)}{j:A L.Y}(h:L.W w f B N d a b j)(g:w.grownBy w' S)(k:N<=N'):L.W w' f B N' d a b j:=
 ⟨h.r.keep g,zK h.l g (fun _ _ c=>by cases c),fun i p hi=>by
  obtain⟨m,n,o,q⟩:=h.yd i p hi;exact⟨m.grown g,n,o,Bi q k⟩,h.ap,h.en⟩
theorem L.Y.ok.own {p:L.Y}(h:p.ok w B N){G:Ad->Prop}(t:Turn w w' G)(a:∀k,p.F k->¬G k):p.ok w' B N:=⟨h.1.keep t.size (fun k hk=>t.block k (h.1.lt k hk).2 (a k hk)),h.2⟩
theorem vK {a:Fh Aj}{t:Cs}{f:Ad×Ad}(b:∀k,F k->∃c t f,w.heap[k]?=V (Ae c t f)/\t∈prTypes)(d:w.heap[k]?=V (Ae a t f))(g:t ∉ prTypes):¬F k:=by grind
variable {ev es:A (Aj×Ad×Ad)}
abbrev Hsa (a b c d e):=Ae #[a,b,c,d,e] 77 (0,0)
theorem L.W.bytes {x:Aj}{y d:A (Aj×Ad×Ad)}{ys:A L.Y}(h:L.W w g B N x y ev ys)(C:w.heap[g]?=V (Hsa x H u ve vm))(i:L.Inv w' g B x ve vm (y++d))(t:Turn w w' (L.F g H u (X S 0 0)))(fr:L.Fr w' g w.heap.size u d):L.W w' g B N x (y++d) ev ys:=by
 obtain⟨aa,f,m,o,z,h2,h3,h4,h5,h6⟩:=h.r.ex;rw[z] at C;simp only[Ey,Qj] at C;have e1:aa=H/\f=u/\m=ve/\o=vm:=by have:=C.1;simp at this;exact this
 obtain⟨rfl,rfl,rfl,rfl⟩:=e1;obtain⟨Q,ab,i1,i2,i3⟩:=i.ex;have b:∀{e:Cs} {s:Ad} {v:Aj} {n:Ad} {xs:A Aj},w.ownsRow B e s v n xs->e≠77->e≠32->(∀k,v.ownBlock=V k->f.ownBlock≠V k)->w'.ownsRow B e s v n xs:=fun q c1 c2 c3=>Turn.row q t (fun k hk c=>by
  rcases c with c|c|c|c
  ·exact zI z q (fun e=>c1 e.symm) k hk c
  ·exact qB h2 q (fun e=>c2 e.symm) k hk c
  ·exact c3 k hk c
  ·cases c)
 have a:∀{e:Cs} {s:Ad} {v:Aj} {n:Ad} {xs:A Aj},w.ownsRow B e s v n xs->e≠3->∀k,v.ownBlock=V k->f.ownBlock≠V k:=fun q c k hk=>qB h3 q (fun e=>c e.symm) k hk
 refine⟨⟨⟨Q,ab,m,o,i1,i2,i3,b h4 (by decide) (by decide) (a h4 (by decide)),b h5 (by decide) (by decide) (fun k hk c=>h6 k c hk),fun k hk c=>?_⟩,i.all,fun e he=>b (h.r.evs e he) (by decide) (by decide) (a (h.r.evs e he) (by decide)),h.r.low,fun e he=>?_⟩,b h.l (by decide) (by decide) (a h.l (by decide)),fun j p hj=>(h.yd j p hj).own t (fun k hk c=>?_),h.ap,fun j p hj e he k hk c=>?_⟩
 ·rcases fr.2 _ _ _ _ _ i1 k hk with q|q
  ·exact h6 k q c
  ·have:=(An h5 k c).2;omega
 ·rcases Ea.1 he with q|q
  ·exact i.bd e q
  ·exact h.r.bd e (Mh _ q)
 ·have E:=(h.yd j p hj).tys
  rcases c with c|c|c|c
  ·rw[c] at hk;exact vK E z (by decide) hk
  ·obtain⟨_,q⟩:=qT h2 k c
   exact vK E q (by decide) hk
  ·obtain⟨_,q⟩:=qT h3 k c
   exact vK E q (by decide) hk
  ·cases c
 ·rcases Ea.1 he with he|he
  ·rcases Ea.1 he with he|he
   ·exact h.en j p hj e (Mo _ he) k hk c
   ·have:=fr.1 e he k hk
    have:=((h.yd j p hj).1.lt k c).2;omega
  ·exact h.en j p hj e (Mh _ he) k hk c
theorem L.W.evs {C x:Aj}{m o:A (Aj×Ad×Ad)}{ys:A L.Y}{f:A Aj}(h:L.W w E B N C es m ys)(hb:w.heap[E]?=V (Hsa C vb vk ve vm))(q:M.Post w w' E B C vb vk ve vm v m n o x z)(hr:w.ownsRow B 44 3 v n f)(hv:∀(i:Ad) (p:L.Y),ys[i]?=V p->∀k,v.ownBlock=V k->¬p.F k)(he:∀e∈m,∀k,e.1.ownBlock=V k->v.ownBlock≠V k)(hn:n<=1000000000)(ab:Z m<=100000000):L.W w' E B N C es (m++o) ys:=by
 obtain⟨t,y,aa,g,H,Q,h3,h4,h5,h6⟩:=h.r.ex;rw[H] at hb;simp only[Ey,Qj] at hb;have e1:t=vb/\y=vk/\aa=ve/\g=vm:=by have:=hb.1;simp at this;exact this
 obtain⟨rfl,rfl,rfl,rfl⟩:=e1;have b:∀{e:Cs} {s:Ad} {u:Aj} {n:Ad} {f:A Aj},w.ownsRow B e s u n f->e≠77->e≠41->(∀k,u.ownBlock=V k->g.ownBlock≠V k)->(∀k,u.ownBlock=V k->v.ownBlock≠V k)->w'.ownsRow B e s u n f:=fun r c1 c2 c3 c4=>Turn.row r q.turn (fun k hk c=>by
  rcases c with c|c|c|c
  ·exact zI H r (fun e=>c1 e.symm) k hk c
  ·exact qB h4 r (fun e=>c2 e.symm) k hk c
  ·exact c3 k hk c
  ·exact c4 k hk c)
 have a:∀{e:Cs} {s:Ad} {u:Aj} {n:Ad} {f:A Aj},w.ownsRow B e s u n f->e≠3->∀k,u.ownBlock=V k->g.ownBlock≠V k:=fun r c k hk=>qB h5 r (fun e=>c e.symm) k hk
 have d:∀{e:Cs} {s:Ad} {u:Aj} {n:Ad} {f:A Aj},w.ownsRow B e s u n f->e≠44->∀k,u.ownBlock=V k->v.ownBlock≠V k:=fun r c k hk=>qB hr r (fun e=>c e.symm) k hk
 refine⟨⟨⟨t,y,x,z,q.box,b Q (by decide) (by decide) (a Q (by decide)) (d Q (by decide)),b h3 (by decide) (by decide) (fun k hk=>h6 k hk) (d h3 (by decide)),q.re,q.rm,fun k hk c=>?_⟩,fun e h0=>b (h.r.all e h0) (by decide) (by decide) (a (h.r.all e h0) (by decide)) (d (h.r.all e h0) (by decide)),fun e h0=>?_,h.r.low,fun e h0=>?_⟩,b h.l (by decide) (by decide) (a h.l (by decide)) (d h.l (by decide)),fun j p hj=>(h.yd j p hj).own q.turn (fun k hk c=>?_),h.ap,fun j p hj e h0 k hk c=>?_⟩
 ·rcases q.fm k c with r|r
  ·exact h6 k hk r
  ·have:=(An h3 k hk).2;omega
 ·rcases Ea.1 h0 with h0|h0
  ·exact b (h.r.evs e h0) (by decide) (by decide) (a (h.r.evs e h0) (by decide)) (he e h0)
  ·exact(q.all e h0).1
 ·rcases Ea.1 h0 with h0|h0
  ·exact h.r.bd e (Mo _ h0)
  ·rcases Ea.1 h0 with h0|h0
   ·exact h.r.bd e (Mh _ h0)
   ·have:=(q.all e h0).2;omega
 ·have ty:=(h.yd j p hj).tys
  rcases c with c|c|c|c
  ·rw[c] at hk;exact vK ty H (by decide) hk
  ·obtain⟨_,r⟩:=qT h4 k c
   exact vK ty r (by decide) hk
  ·obtain⟨_,r⟩:=qT h5 k c
   exact vK ty r (by decide) hk
  ·exact hv j p hj k c hk
 ·rcases Ea.1 h0 with h0|h0
  ·exact h.en j p hj e (Mo _ h0) k hk c
  ·rcases Ea.1 h0 with h0|h0
   ·exact h.en j p hj e (Mh _ h0) k hk c
   ·rcases q.fa e h0 k hk with r|r
    ·exact hv j p hj k r c
    ·have:=((h.yd j p hj).1.lt k c).2;omega
theorem L.W.more {m:Aj}{d:A L.Y}{p:L.Y}(h:L.W w E B N vl es ev d)(Q:w.heap[E]?=V (Hsa vl vb vk ve vm))(b:w'.heap[E]?=V (Hsa m vb vk ve vm))(r:w'.ownsRow B 85 2 m (Z d+1) (d.flatMap L.Y.cells++p.cells))(t:Turn w w' (fun k=>k=E\/vl.ownBlock=V k))(hp:p.ok w' B N)(hF:∀k,p.F k->w.heap.size<=k):L.W w' E B N m es ev (d++[p]):=by
 obtain⟨x,z,y,C,H,h2,h3,h4,h5,h6⟩:=h.r.ex;rw[H] at Q;simp only[Ey,Qj] at Q;have g:x=vb/\z=vk/\y=ve/\C=vm:=by have:=Q.1;simp at this;exact this
 obtain⟨rfl,rfl,rfl,rfl⟩:=g;have a:∀{e:Cs} {s:Ad} {u:Aj} {n:Ad} {xs:A Aj},w.ownsRow B e s u n xs->e≠77->e≠85->w'.ownsRow B e s u n xs:=fun q c1 c2=>Turn.row q t (fun k hk c=>by
  rcases c with c|c
  ·exact zI H q (fun e=>c1 e.symm) k hk c
  ·exact qB h.l q (fun e=>c2 e.symm) k hk c)
 have f:∀(i:Ad) (q:L.Y),(d++[p])[i]?=V q->d[i]?=V q\/(i=Z d/\q=p):=fun i q e=>by
  by_cases o:i<Z d
  ·rw[Cx o] at e;exact Ay e
  ·rw[Cl (by omega)] at e
   have hl:=(Bo.1 e).1;have h0:i=Z d:=by simp at hl;omega
   subst h0;rw[Gp] at e;exact Bf ⟨rfl,(Bc e).symm⟩
 have v:∀(i:Ad) (q:L.Y),d[i]?=V q->∀k,q.F k->¬p.F k:=fun i q o k hk c=>by have:=hF k c;have:=((h.yd i q o).1.lt k hk).2;omega
 refine⟨⟨⟨x,z,y,C,b,a h2 (by decide) (by decide),a h3 (by decide) (by decide),a h4 (by decide) (by decide),a h5 (by decide) (by decide),h6⟩,fun e he=>a (h.r.all e he) (by decide) (by decide),fun e he=>a (h.r.evs e he) (by decide) (by decide),h.r.low,h.r.bd⟩,?_,fun j q hj=>?_,fun i j q1 q2 hij o hj k hk=>?_,fun j q hj e he k hk c=>?_⟩
 ·rw[Ah,List.flatMap_append]
  show w'.ownsRow B 85 2 m (Z d+1) (d.flatMap L.Y.cells++(p.cells++[]));rw[Cv];exact r
 ·rcases f j q hj with e|⟨_,e⟩
  ·refine(h.yd j q e).own t (fun k hk c=>?_)
   have ty:=(h.yd j q e).tys;rcases c with c|c
   ·rw[c] at hk;exact vK ty H (by decide) hk
   ·obtain⟨_,r⟩:=qT h.l k c
    exact vK ty r (by decide) hk
  ·rw[e];exact hp
 ·rcases f i q1 o with g|⟨g,e2⟩
  ·rcases f j q2 hj with e3|⟨e3,e4⟩
   ·exact h.ap i j q1 q2 hij g e3 k hk
   ·rw[e4];exact v i q1 g k hk
  ·rcases f j q2 hj with e3|⟨e3,e4⟩
   ·exact fun c=>v j q2 e3 k c (by rw[<-e2];exact hk)
   ·omega
 ·rcases f j q hj with g|⟨_,g⟩
  ·exact h.en j q g e he k hk c
  ·rw[g] at c
   have:=hF k c;rcases Ea.1 he with he|he
   ·have:=(An (h.r.all e he) k hk).2;omega
   ·have:=(An (h.r.evs e he) k hk).2;omega
def lawTypes:A Cs:=[77,85,32,3,41]
def L.T (w:Ag)(B:Ad)(ys:A L.Y)(k:Ad):Prop:=B<=k/\((∃c t f,w.heap[k]?=V (Ae c t f)/\t∈lawTypes)\/∃(i:Ad) (p:L.Y),ys[i]?=V p/\p.F k)
structure L.St (w w':Ag) (wb B N ne nv ny:Ad) (ys:A L.Y):Prop where
 ex:∃vl es ev ys',Z es<=ne/\(Z ev)<=nv/\(Z ys')=ny/\L.W w' wb B N vl es ev ys'/\∀(i:Ad) (q:L.Y),ys'[i]?=V q->∀k,q.F k->(∃(j:Ad) (p:L.Y),ys[j]?=V p/\p.F k)\/w.heap.size<=k
 turn:Turn w w' (L.T w B ys)
theorem L.St.after {x:Ag}{d:Ad}{j:A L.Y}(h:L.St x w' f B N ne nv d j)(g:w.grownBy x S):L.St w w' f B N ne nv d j:=by
 obtain⟨t,l,m,a,n,o,p,r,s⟩:=h.ex;refine⟨⟨t,l,m,a,n,o,p,r,fun i q hi k hk=>(s i q hi k hk).imp id (fun e=>Bi g.size e)⟩,⟨h.turn.os.trans g.os,h.turn.tape.trans g.tape,h.turn.output.trans g.output,Bi g.size h.turn.size,fun k hk hn=>?_⟩⟩;have e:=g.block k hk (by simp);refine(h.turn.block k (Eh hk g.size) (fun c=>hn ⟨c.1,?_⟩)).trans e;have b:=c.2;rw[e] at b;exact b
theorem L.W.still {b c:A (Aj×Ad×Ad)}{a:A L.Y}(h:L.W w f B N d b c a)(g:w.grownBy w' S)(j:N<=N')(l:Z b<=ne)(m:Z c<=nv):L.St w w' f B N' ne nv (Z a) a:=
 ⟨⟨d,b,c,a,l,m,rfl,h.keep g j,fun i q hi k hk=>Ay ⟨i,q,hi,hk⟩⟩,⟨g.os,g.tape,g.output,g.size,fun k hk _=>g.block k hk (by simp)⟩⟩
theorem L.W.moved {d f:A (Aj×Ad×Ad)}{b:A L.Y}{p:L.Y}{y':Yd}{g:Ad->Prop}(h:L.W w n B N l d f b)(a:b[i]?=V p)(t:L.Y.ok w' B N' ⟨p.xb,p.yb,y',g⟩)(m:D.Mv w w' p.F g)(o:N<=N')(r:Z d<=ne)(u:Z f<=nv):L.St w w' n B N' ne nv (Z b) b:=by
 have s:=(Bo.1 a).1;refine⟨⟨l,d,f,_,r,u,Gv,h.move a t m o,fun j q hj k hk=>?_⟩,⟨m.turn.os,m.turn.tape,m.turn.output,m.turn.size,fun k hk hn=>m.turn.block k hk (fun c=>hn ⟨((h.yd i p a).1.lt k c).1,Bf ⟨i,p,a,c⟩⟩)⟩⟩
 grind[List.getElem?_eq_some_iff,List.length_set,List.getElem?_set_self,List.getElem?_set_ne,L.Y,Yd,L.W,L.Y.ok,D.Mv,L.St]
theorem td:∀(l:A Ev) (i:Ad) (e:Ev) (j:Ad),l[i]?=V e->j<3->(evCells l)[i*3+j]?=e.cells[j]?
 |[],i,e,j,h,_=>by cases h
 |a::t,0,e,j,h,hj=>by
  cases h
  show(a.cells++evCells t)[0*3+j]?=_;rw[Cx (by show _<3;omega)];congr 1;omega
 |a::t,i+1,e,j,h,hj=>by
  show(a.cells++evCells t)[(i+1)*3+j]?=_;rw[Cl (by show 3<=_;omega),show(i+1)*3+j-Z a.cells=i*3+j by show _-3=_;omega];exact td t i e j h hj
theorem Pr.evs {c:Yd}(h:Pr w f yb B y1 c F):∃b,w.cell? ⟨yb,4,S⟩=V b/\w.frozen? ⟨yb,4,S⟩=false/\F yb/\(w.setCell ⟨yb,4,S⟩ (X S 0 0)).ownsRow B 44 3 b (Z c.sent) (evCells c.sent):=by
 obtain⟨j,k,vc,b,l,g,a,i,d⟩:=h.ex;exact⟨b,zB a.box,zG a.box,d yb (Ay rfl),zJ a.ev (zF _ _ _ _) (zI a.box a.ev (by decide))⟩
theorem lC {wb:Ad}{u:A L.Y}{p:L.Y}(h:L.W w wb B N vl es ev u)(hi:u[i]?=V p)(hB:B<=w.heap.size)(aw:Z ev<=100000000)(hN:N<=1000000000):Am prog 40 #[Al (V ⟨wb,0,S⟩),.agg #[Al (V ⟨p.xb,0,S⟩),Al (V ⟨p.yb,0,S⟩)]] w fun e w'=>e=Af (Av true)/\L.St w w' wb B N (Z es) (Z ev+4) (Z u) u:=by
 have gA:=hid (Ac w (Hs0 p.xb p.yb) S);have am:Y ((w.alloc (Hs0 p.xb p.yb)).heap[w.heap.size]?=V (Hs0 p.xb p.yb)):=Bn _ _;have HW:=hid h;obtain⟨ae,aB,aC,aD⟩:=h.yd i p hi;have ai:=hid (zfT (ae.grown gA.o));have C:=hid (Vv aB (Vv aC aD));have HL:=J (ae.lt);have aK:Z p.y.sent<=1000000000:=by omega
 have HI:=hid hi;go_in;go_wp2_with fail;generalize w.alloc (Hs0 p.xb p.yb)=wa at*;go_wp2_with fail;refine ai.o.mono ?_;rintro e w1 ⟨v,rfl,d,az,F1,ab,Q,ad⟩;obtain⟨va,vc,rfl⟩:=zL d;obtain⟨vs,c4,f4,aA,a⟩:=ab.evs;obtain⟨F2,ay,aa⟩:=zkV ab;have al:=hid (Q.turn.keep am.o (fun c=>by have:=(HL.o _ c).2;omega));have m:=hid ((D.Mv.grown gA.o).trans (Q.trans aa));have x:=hid ay;have H:=hid (zJ d (zF w1 p.yb 4 (X S 0 0)) (fun k hk e=>ad k hk (by rw[e];exact aA)));obtain⟨ma,mc,rfl⟩:=zL a;have an:=hid a;have n:=hid az;have ar:Y (∀k,(X va (Z p.y.sent) vc).ownBlock=V k->¬F2 k):=fun k hk c=>by
  rcases aa.foot k c with q|q
  ·exact ad k hk q
  ·have:=(An d k hk).2;omega
 have x1:=cbi 1 al.o;go_wp2_with fail;generalize(w1.setCell ⟨p.yb,4,S⟩ (X S 0 0))=w2 at*;have av:Y (L.W w2 wb B N vl es ev (u.set i ⟨p.xb,p.yb,p.y.told,F2⟩)):=HW.o.move HI.o ⟨x.o,C.o.1,C.o.2.1,Ax _⟩ m.o (Aq _);have aq:=hid m.o.turn;have aE:=J (m.o.foot);have ak:=hid HL.o;have l:=hid HI.o;have ah:Y (∀e∈ev,∀k,e.1.ownBlock=V k->(X va (Z p.y.sent) vc).ownBlock≠V k):=fun e he k hk c=>HW.o.en i p HI.o e (Mh _ he) k hk (n.o k c)
 have E:Y (∀(j:Ad) (q:L.Y),(u.set i ⟨p.xb,p.yb,p.y.told,F2⟩)[j]?=V q->∀k,(X va (Z p.y.sent) vc).ownBlock=V k->¬q.F k):=fun j q f k hk c=>by
  by_cases g:j=i
  ·subst g
   rw[Fm (Bo.1 HI.o).1] at f;cases f;exact ar.o k hk c
  ·rw[Fc (fun e=>g e.symm)] at f
   exact HW.o.ap i j p q (fun e=>g e.symm) HI.o f k (n.o k hk) c
 have au:=hid n.o;obtain⟨af,HY⟩:∃af,Y (af=u.set i ⟨p.xb,p.yb,p.y.told,F2⟩):=⟨_,rfl⟩;rw[<-HY.o] at av E;generalize p.y.sent=ss at*
 go_loopw [7,8] (fun okv iv wr=>okv=Av true/\∃j:Ad,j<=Z ss/\iv=O Ai j/\Y (w2.grownBy wr S)) (fun _ iv _=>Z ss-(intOf iv).toNat)
 ·exact⟨by simp,0,Ax _,rfl,zP _ _⟩
 ·
  obtain⟨rfl,j,g,rfl,z⟩:=hrel
  by_cases aJ:j<Z ss
  ·have aI:(j:Ak)<Z ss:=by omega
   have s:=zK H.o z.o (fun _ _ c=>by cases c);have r2:=zK an.o z.o (fun _ _ c=>by cases c);obtain⟨g1,k1,q1,_,_⟩:=Bm s (by omega);simp only[Au,Fb] at q1;obtain⟨rfl,rfl⟩:=q1;obtain⟨g2,k2,q2,_,_⟩:=Bm r2 (by omega);simp only[Au,Fb] at q2;obtain⟨rfl,rfl⟩:=q2;have b:=Bd aJ;have a0:wr.cell? ⟨g1,j*3,S⟩=V (O Ai (ss[j].conn:Ad)):=(Ap s _ (by omega)).trans (td ss j _ 0 b (by omega));have a1:wr.cell? ⟨g1,j*3+1,S⟩=V (I (Aa ss[j].dst)):=(Ap s _ (by omega)).trans (td ss j _ 1 b (by omega));have a2:wr.cell? ⟨g1,j*3+2,S⟩=V (I (Aa ss[j].data)):=(Ap s _ (by omega)).trans (td ss j _ 2 b (by omega));have b0:wr.cell? ⟨g2,j*3,S⟩=V (O Ai (ss[j].conn:Ad)):=(Ap r2 _ (by omega)).trans (td ss j _ 0 b (by omega));have b1:wr.cell? ⟨g2,j*3+1,S⟩=V (I (Aa ss[j].dst)):=(Ap r2 _ (by omega)).trans (td ss j _ 1 b (by omega));have b2:wr.cell? ⟨g2,j*3+2,S⟩=V (I (Aa ss[j].data)):=(Ap r2 _ (by omega)).trans (td ss j _ 2 b (by omega));generalize ss[j].conn=n0 at*;generalize Aa ss[j].dst=s1 at*;generalize Aa ss[j].data=s2 at*;go_wp2_with fail;go_quiet (fail);go_wp2_with fail;exact⟨⟨rfl,j+1,by omega,by go_num,zD z.o (x3 _ _)⟩,by simp[intOf];omega⟩
  ·have aI:¬(j:Ak)<Z ss:=by omega
   have o:=hid (av.o.keep z.o (Aq _));obtain⟨vb,vk,ve,vm,h1,h2,h3,h4,h5,h6⟩:=o.o.r.ex;have s:=zK H.o z.o (fun _ _ c=>by cases c);have ao:=hid s;have HC:=hid (zb9 va (Z ss) vc _ h1 h4 h5 s (Bi hB (Bi aq.o.size z.o.size)) aw (by omega));have ag:=hid h1;have aj:Y (∀k,wr.heap[k]?=w.heap[k]?->(k=wb\/ve.ownBlock=V k\/vm.ownBlock=V k\/(X va (Z ss) vc).ownBlock=V k)->L.T w B u k):=fun k he hk=>by
    rcases hk with q|q|q|q
    ·exact⟨by rw[q];exact o.o.r.low,Ay ⟨_,_,_,by rw[<-he,q];exact h1,by decide⟩⟩
    ·obtain⟨_,r⟩:=qT h4 k q
     exact⟨(An h4 k q).1,Ay ⟨_,_,_,by rw[<-he];exact r,by decide⟩⟩
    ·obtain⟨_,r⟩:=qT h5 k q
     exact⟨(An h5 k q).1,Ay ⟨_,_,_,by rw[<-he];exact r,by decide⟩⟩
    ·exact⟨(ak.o k (au.o k q)).1,Bf ⟨i,p,l.o,au.o k q⟩⟩
   go_wp2_with fail;refine HC.o.mono ?_;rintro e w4 ⟨rfl,aH,aL,aM,f⟩;have HX:=J (o.o.evs ag.o f ao.o E.o ah.o aK aw);have aG:Y (Turn w w4 (L.T w B u)):=by
    have t:=aq.o.step z.o (fun k hk=>by cases hk);exact⟨f.turn.os.trans t.os,f.turn.tape.trans t.tape,f.turn.output.trans t.output,Bi t.size f.turn.size,fun k hk hn=>by
     have e:=t.block k hk (fun c=>hn ⟨(ak.o k c).1,Bf ⟨i,p,l.o,c⟩⟩);exact(f.turn.block k (Eh hk t.size) (fun c=>hn (aj.o k e c))).trans e⟩
   have aF:=hid f.len;go_wp2;go_ret;refine⟨rfl,⟨vl,es,ev++aH,af,Aq _,by rw[Ah,aF.o];exact Aq _,by rw[HY.o,Gv],HX.o,fun j q g k hk=>?_⟩,aG.o⟩;rw[HY.o] at g
   by_cases ax:j=i
   ·subst ax
    rw[Fm (Bo.1 l.o).1] at g;cases g;exact(aE.o k hk).imp (fun c=>⟨j,p,l.o,c⟩) id
   ·rw[Fc (fun e=>ax e.symm)] at g
    exact Ay ⟨j,q,g,hk⟩
theorem L.R.inv {c g:A (Aj×Ad×Ad)}(h:L.R w f B d c g):∃a b,L.Inv w f B d a b c:=by
 obtain⟨l,m,a,b,i,j,k,n,o,p⟩:=h.ex;exact⟨a,b,⟨l,m,i,j,k⟩,h.all,h.low,fun e he=>h.bd e (Mo _ he)⟩
theorem L.W.packed {d:Ad}{y:Aj}{g o:A (Aj×Ad×Ad)}{m:A L.Y}(h:L.W w d B N l g o m)(H:∃a j f,Z a=4/\w.heap[d]?=V (Hsa l j f y z)/\L.Inv w' d B l y z (g++a)/\Turn w w' (L.F d j f (X S 0 0))/\L.Fr w' d w.heap.size f a)(he:Z g+4<=ne)(E:Z o<=nv):L.St w w' d B N ne nv (Z m) m:=by
 obtain⟨a,j,f,q1,x,Q,b,q5⟩:=H;obtain⟨p,s,aa,ab,t,u,v,h4,h5,h6⟩:=h.r.ex;have n:=t;rw[x] at n;simp only[Ey,Qj] at n;have C:j=p/\f=s:=by have:=n.1;simp at this;exact⟨this.1,this.2.1⟩
 obtain⟨rfl,rfl⟩:=C;refine⟨⟨l,g++a,o,m,by rw[Ah];omega,E,rfl,h.bytes x Q b q5,fun i q hi k hk=>Ay ⟨i,q,hi,hk⟩⟩,⟨b.os,b.tape,b.output,b.size,fun k hk hn=>b.block k hk (fun c=>hn ?_)⟩⟩;rcases c with c|c|c|c
 ·exact⟨by rw[c];exact h.r.low,Ay ⟨_,_,_,by rw[c];exact t,by decide⟩⟩
 ·obtain⟨_,r⟩:=qT u k c
  exact⟨(An u k c).1,Ay ⟨_,_,_,r,by decide⟩⟩
 ·obtain⟨_,r⟩:=qT v k c
  exact⟨(An v k c).1,Ay ⟨_,_,_,r,by decide⟩⟩
 ·cases c
abbrev Hs5 (a b c d e f g h):=Ae #[O Ai b,O Ai c,O Ai d,O Nr e,I f,X g a h] 80
theorem zeJ {x E:A (Aj×Ad×Ad)}{a:A L.Y}(h:L.W w i B N vl x E a)(k e c n:Ak){s:ByteArray}{f:Br Eu}{l:A Ab}(o:L.Arg w s f g l)(hB:B<=w.heap.size)(z:Z x<=100000000)(C:Z x+4<=ne)(p:Z E<=nv)(v:Glob w)(y:GT w):Am prog 59 #[Al (V ⟨i,0,S⟩),.agg #[O Ai k,O Ai e,O Ai c,O Nr n,I s,X f (Z l) g]] w fun e w'=>e=Af (Av true)/\L.St w w' i B N ne nv (Z a) a:=by
 have b:w.grownBy (w.alloc (Hs5 (Z l) k e c n s f g)) S:=Ac _ _ S;have m:Y ((w.alloc (Hs5 (Z l) k e c n s f g)).heap[w.heap.size]?=V (Hs5 (Z l) k e c n s f g)):=Bn _ _;have F:Y (Am prog 14 #[I s] (w.alloc (Hs5 (Z l) k e c n s f g)) fun e w'=>e=Af (Av true)/\L.St w w' i B N ne nv (Z a) a):=(nD s _ o.sz (v.grown b) (y.grown b)).mono fun e w' ⟨q1,q2⟩=>⟨q1,h.still (zD b q2) (Aq _) (by omega) p⟩
 have H:Y (Am prog 56 #[Al (V ⟨i,0,S⟩),I s] (w.alloc (Hs5 (Z l) k e c n s f g)) fun e w'=>e=Af (Av true)/\L.St w w' i B N ne nv (Z a) a):=by
  obtain⟨ve,vm,hI⟩:=(h.keep b (Aq _)).r.inv;exact(rj hI s o.sz (Bi hB b.size) z (v.grown b)).mono fun e w' ⟨q1,q2⟩=>⟨q1,((h.keep b (Aq _)).packed q2 C p).after b⟩
 have Q:Y (Am prog 57 #[X f (Z l) g] (w.alloc (Hs5 (Z l) k e c n s f g)) fun e w'=>e=Af (Av true)/\L.St w w' i B N ne nv (Z a) a):=(gR (o.keep b).rd (o.keep b).bk o.nil o.ln (v.grown b) (y.grown b)).mono fun e w' ⟨q1,q2⟩=>⟨q1,h.still (zD b q2) (Aq _) (by omega) p⟩
 have c0:=cbi 0 m.o;have c4:=cbi 4 m.o;have c5:=cbi 5 m.o;go_in;go_upto_region 2 with fail;generalize w.alloc (Hs5 (Z l) k e c n s f g)=wa at*
 by_cases q:k=1
 ·subst q
  go_wp2_with (go_at_call 14;refine F.o.mono ?_;rintro e u ⟨rfl,j⟩;have d:Y (L.St w u i B N ne nv (Z a) a):=j;clear j);go_ret;exact⟨rfl,d.o⟩
 ·have e1:(k == 1)=false:=by rw[Ch];exact q
  by_cases t:k=2
  ·subst t
   go_wp2_with (go_at_call 56;refine H.o.mono ?_;rintro e u ⟨rfl,j⟩;have d:Y (L.St w u i B N ne nv (Z a) a):=j;clear j);go_ret;exact⟨rfl,d.o⟩
  ·have e2:(k == 2)=false:=by rw[Ch];exact t
   go_wp2_with (go_at_call 57;refine Q.o.mono ?_;rintro e u ⟨rfl,j⟩;have d:Y (L.St w u i B N ne nv (Z a) a):=j;clear j);go_ret;exact⟨rfl,d.o⟩
theorem zkA:(prog.info? 85).map (fun i=>(i.zero,i.size,i.bytes))=V (V (.agg #[Al S,Al S]),2,16):=by kernel_rfl
theorem YInv.newB (h:YInv w yb B (Al S) [] Yd.new)(c:k<=B):YInv w yb k (Al S) [] Yd.new:=by
 obtain⟨r,vc,s,m,⟨l,b,f,d,p,q,g⟩,n,o⟩:=h.ex;exact⟨⟨r,vc,s,m,⟨l,b,f,d,p,q,fun a ha=>⟨(g a ha).1,Bi c (g a ha).2.1,(g a ha).2.2⟩⟩,zo n c,zo o c⟩,Bi c h.low,rfl,fun i cb e=>by simp at e,fun i e=>by simp at e,fun i j cb cb' _ e=>by simp at e⟩
abbrev Hs1:=Ae #[Av false,X S 0 0,X S 0 0,X S 0 0,X S 0 0] 131
theorem L.W.news {a o:Ag}{p:Ad}{C E:A (Aj×Ad×Ad)}{d:A L.Y}(h:L.W w m B N s C E d)(hB:B<=w.heap.size)(z:w.heap[m]?=V (Hsa s vb vk ve vm))(H:w.grownBy a S)(hx:YInv a f w.heap.size (Al S) [] Yd.new)(af:∀k,YF a f [] k->w.heap.size<=k)(q1:o.ownsRow B 85 2 (X (V ⟨p,0,S⟩) (Z d+1) b) (Z d+1) (d.flatMap L.Y.cells++[Al (V ⟨f,0,S⟩),Al (V ⟨a.heap.size,0,S⟩)]))(v:((a.alloc Hs1).alloc (Hs0 f a.heap.size)).grownBy o s.ownBlock):o.heap[m]?=V (Hsa s vb vk ve vm)/\L.St w (o.setCell ⟨m,0,S⟩ (X (V ⟨p,0,S⟩) (Z d+1) b)) m B N (Z C) (Z E) (Z d+1) d:=by
 have gY:=Ac a Hs1 S;have x:=Ac (a.alloc Hs1) (Hs0 f a.heap.size) S;have Q:=zD H (zD gY x);have ae:=h.keep Q (Aq _);have u:=zE z Q (by simp);have n:=zw u v (zI u ae.l (by decide));have y:=zF o m 0 (X (V ⟨p,0,S⟩) (Z d+1) b);have b9:=zH (i:=0) n (X (V ⟨p,0,S⟩) (Z d+1) b);have ag:((a.alloc Hs1).alloc (Hs0 f a.heap.size)).heap[a.heap.size]?=V Hs1:=zE (Bn a _) x (by simp);obtain⟨d1,d2⟩:=D.YI.new (B:=B) ag (Bi hB H.size);obtain⟨x1,x2⟩:=(hx.newB hB).keep (w':=((a.alloc Hs1).alloc (Hs0 f a.heap.size))) (zD gY x).size (fun k hk=>(zD gY x).block k (hx.lt rfl hk) (by simp));have j:=Pr.of x1 d1 (fun k q e=>by have:=hx.lt rfl (x2 k q);have:=d2 k e;omega);obtain⟨F,hF⟩:∃F:Ad->Prop,F=fun k=>YF ((a.alloc Hs1).alloc (Hs0 f a.heap.size)) f [] k\/D.YF a.heap.size (X S 0 0) (X S 0 0) (X S 0 0) [] Yd.new.conns k:=⟨_,rfl⟩
 rw[<-hF] at j;have g:∀k,F k->w.heap.size<=k:=fun k hk=>by
  rw[hF] at hk;rcases hk with c|c
  ·exact af k (x2 k c)
  ·rw[d2 k c];exact H.size
 have ah:=zO z;have ad:∀k,s.ownBlock=V k->k<w.heap.size:=fun k hk=>(An h.l k hk).2
 have ab:Pr (o.setCell ⟨m,0,S⟩ (X (V ⟨p,0,S⟩) (Z d+1) b)) f a.heap.size B Yd.new Yd.new F:=j.keep (Bi v.size y.size) (fun k hk=>(y.block k (Eh (j.lt k hk).2 v.size) (fun e=>by have:=g k hk;have:=Bc e;omega)).trans (v.block k (j.lt k hk).2 (fun e=>by have:=g k hk;have:=ad k e.symm;omega)));have t:Turn w (o.setCell ⟨m,0,S⟩ (X (V ⟨p,0,S⟩) (Z d+1) b)) (fun k=>k=m\/s.ownBlock=V k):=(((Turn.refl w _).step Q (fun k hk=>by cases hk)).step v (fun k hk=>Ay (Bf hk))).step y (fun k hk=>Ay (Ay (Bc hk).symm));refine⟨n,⟨_,C,E,d++[⟨f,a.heap.size,Yd.new,F⟩],Aq _,Aq _,by rw[Ah];rfl,h.more z b9 (zJ q1 y (zI n q1 (by decide))) t ⟨ab,YOk.new,Ax _,Ax _⟩ g,fun i q hi k hk=>?_⟩,⟨t.os,t.tape,t.output,t.size,fun k hk hn=>t.block k hk (fun c=>hn ?_)⟩⟩
 ·by_cases aa:i<Z d
  ·rw[Cx aa] at hi;exact Ay ⟨i,q,hi,hk⟩
  ·rw[Cl (by omega)] at hi
   have e:q=⟨f,a.heap.size,Yd.new,F⟩:=by simpa using Xt hi
   rw[e] at hk;exact Bf (g k hk)
 ·rcases c with c|c
  ·exact⟨by rw[c];exact h.r.low,Ay ⟨_,_,_,by rw[c];exact z,by decide⟩⟩
  ·obtain⟨_,r⟩:=qT h.l k c
   exact⟨(An h.l k c).1,Ay ⟨_,_,_,r,by decide⟩⟩
abbrev Hs8 (a b c d e f g):=Ae #[O Ai 4,O Ai b,O Ai c,O Nr d,I e,X f a g] 80
theorem zhM {wb:Ad}{i:A L.Y}(h:L.W w wb B N vl es ev i)(e c n:Ak){s:ByteArray}{f:Br Eu}{l:A Ab}(hB:B<=w.heap.size)(aj:Z i<=100000000):Am prog 38 #[Al (V ⟨wb,0,S⟩),.agg #[O Ai 4,O Ai e,O Ai c,O Nr n,I s,X f (Z l) g]] w fun e w'=>e=Af (Av true)/\L.St w w' wb B N (Z es) (Z ev) (Z i+1) i:=by
 have gA:=hid (Ac w (Hs8 (Z l) e c n s f g) S);have H:Y ((w.alloc (Hs8 (Z l) e c n s f g)).heap[w.heap.size]?=V (Hs8 (Z l) e c n s f g)):=Bn _ _;have t:=hid (h.keep gA.o (Aq _));have c0:=cbi 0 H.o;have ah:=gA.o.size;have HN:=hid (zkL (w.alloc (Hs8 (Z l) e c n s f g)));obtain⟨i0,hi,ad,ae,af⟩:=Ej zkA;go_in;go_upto_region 1 with fail;generalize w.alloc (Hs8 (Z l) e c n s f g)=wa at*;go_wp2_with fail;refine HN.o.mono ?_;rintro e a ⟨xb,rfl,ag,hx,x,E⟩;subst ag;have F:=hid (Vv hx (Vv x E));obtain⟨vb,vk,ve,vm,b1,_⟩:=t.o.r.ex;have o:=hid b1;have m:=hid (zE b1 x (by simp));obtain⟨la,lk,rfl⟩:=zL t.o.l;have p:=hid (zK t.o.l (zD x (zD (Ac a Hs1 S) (Ac (a.alloc Hs1) (Hs0 wa.heap.size a.heap.size) S))) (fun _ _ c=>by cases c));have k0:=cbi 0 m.o;have q:Y (∀j u,([Al (V ⟨wa.heap.size,0,S⟩),Al (V ⟨a.heap.size,0,S⟩)]:A Aj)[j]?=V u->((a.alloc Hs1).alloc (Hs0 wa.heap.size a.heap.size)).cell? ((⟨a.heap.size+1,0,S⟩:Eu).add j)=V u):=zZ (a.alloc Hs1) #[_,_] _ _ (by simp);have k:Y (∀u∈([Al (V ⟨wa.heap.size,0,S⟩),Al (V ⟨a.heap.size,0,S⟩)]:A Aj),u.oneCell'=true):=fun u hu=>by simp at hu;rcases hu with rfl|rfl <;> rfl
 have aa:Y (Z i+1<=Bh):=by show _<=_;unfold Bh;omega
 have ab:Y ((Z i+1)*16<=140737488355328):=by show _<=_;omega
 have v:Y (((a.alloc Hs1).alloc (Hs0 wa.heap.size a.heap.size)).heap.size=a.heap.size+1+1):=by show _=_;simp
 have ak:=x.size;have Q:Y (B<=((a.alloc Hs1).alloc (Hs0 wa.heap.size a.heap.size)).heap.size):=by show _<=_;rw[v.o];omega
 go_wp2_with (at_builtin;refine Ei _ rfl _ _ 73 rfl B 85 i0 _ 2 16 underlying73 hi ad ae af rfl (by decide) _ _ _ rfl p.o ⟨a.heap.size+1,0,S⟩ 1 1 [Al (V ⟨wa.heap.size,0,S⟩),Al (V ⟨a.heap.size,0,S⟩)] rfl rfl q.o k.o (by decide) aa.o ab.o Q.o (a.heap.size+1+1) v.o ?_);intro g9 ai w9 d b y z;obtain⟨y9,C⟩:=t.o.news (Bi hB ah) o.o F.o.2.1 F.o.1 F.o.2.2 d b;have q0:=cbi 0 y9;have f0:=zm9 0 y9;have HS:=hid (C.after gA.o);go_wp2;go_ret;exact⟨rfl,HS.o⟩
end Go.Proofs.YtfocdefchbnkpaaGreatDoor
