import Derived.Test.YtfocdefchbnkpaaGreatDoorRefK
import Derived.Shelf.SlSortCmp.SmallK
set_option maxRecDepth 100000
set_option maxHeartbeats 20000000
open Go renaming Value->Aj,World->Ag,Calls->Am,maxLen->Bh,info_parts->Ej,wpList_append_lies->Ei,bodyPost_ret->Et,step_append_lies->Ii
open Go.Act renaming eval->Im
open Go.Addr.mk renaming injEq->Qo
open Go.Builtin renaming zeroCells->Nb
open Go.Ending renaming returned->Af
open Go.IntKind renaming i64->Ai
open Go.Obj renaming cells->Ae
open Go.Proofs.YtfocdefchbnkpaaGreatDoor.R renaming str->Aa,size_eq->Cp,wHost->Hy
open Go.Shelf renaming Ren->Ij
open Go.Value renaming string->I,int->O,slice->X,agg->Fe,bool->Av,pointer->Al
open Go.Value.slice renaming injEq->Au
open Go.World renaming grownBy_alloc->Ac,alloc->Eo,ownsRow->Ib,setCell->Bs,ownsRow_nil->Bk
open Go.World.ownsRow renaming cellAt->Ap,lt->An,alloc->Ao
open List renaming length->Z
open Option renaming none->S,some->V
open Or renaming inr->Bf
open Prod renaming fst->Bq
open _root_ renaming Int->Ak,Nat->Ad,List->A,UInt8->Ab,Array->Fh,ByteArray->As,Inhabited->Xl
namespace Go.Proofs.YtfocdefchbnkpaaGreatDoor
open Go.RowKit Tryz
theorem zd7 (x:Aj)(n:Ak)(w:Ag):Am prog 335 #[Fe #[x,O Ai n]] w fun e w'=>e=Af (Av (n == 0))/\w.grownBy w' S:=by
 go_in;go_wp2;go_ret;exact⟨rfl,Ac _ _ _⟩
theorem dh (w:Ag)(g n c:Ad)(q:Ad->Aj)(b:Ad->Ak)(y:n<=2000000000000)
  (o:∀k,k<n->w.cell? ⟨g,k*2,S⟩=V (q k)) (p:∀k,k<n->w.cell? ⟨g,k*2+1,S⟩=V (O Ai (b k))):Am prog 381 #[X (V ⟨g,0,S⟩) n c,.func (.func 335) #[] #[]] w fun e w'=>e=Af (O Ai (firstAt (fun k=>b k == 0) n 0))/\w.grownBy w' S:=by
 have r:=J o;have s:=J p;go_in;go_wp2
 go_loopw [8] (fun iv wr=>∃k:Ad,k<=n/\iv=O Ai k/\Y (firstAt (fun k=>b k == 0) n 0=firstAt (fun k=>b k == 0) (n-k) k)/\Y (w.grownBy wr S)) (fun iv _=>n-(intOf iv).toNat)
 ·exact⟨0,Ax _,rfl,rfl,zP _ _⟩
 ·
  obtain⟨k,x,rfl,j,f⟩:=hrel
  by_cases i:k<n
  ·have u:=f.o.cell (r.o k i) (by simp)
   have v:=f.o.cell (s.o k i) (by simp);have a:Y (firstAt (fun k=>b k == 0) n 0=if (b k == 0)=true then (k:Ak) else firstAt (fun k=>b k == 0) (n-(k+1)) (k+1)):=by
    show _=_;rw[j.o,show n-k=(n-(k+1))+1 by omega,firstAt]
   have l:Y _:=fun(w':Ag)=>zd7 (q k) (b k) w'
   cases hb:(b k == 0)
   ·rw[hb] at a l
    simp only[Ct,Gj] at a;go_wp2_with fail;refine(l.o _).mono ?_;rintro e t ⟨rfl,h⟩;have d:Y _:=zD f.o h;go_wp2;exact⟨⟨k+1,by omega,by go_num,a,d⟩,by simp[intOf];omega⟩
   ·rw[hb] at a l
    simp only[Gq] at a;go_wp2_with fail;refine(l.o _).mono ?_;rintro e t ⟨rfl,h⟩;have d:Y _:=zD f.o h;go_wp2;go_ret;exact⟨by rw[a.o];rfl,d.o⟩
  ·have m:k=n:=by omega
   subst m;rw[Gp,firstAt] at j;go_wp2;go_ret;exact⟨by rw[j.o];rfl,f.o⟩
def nz (l:A (A Ab×Ak)):A (A Ab×Ak):=l.filter fun t=>!(t.2 == 0)
theorem bQ (l:A (A Ab×Ak))(k:Ad)(a:k<Z l):(zx l)[k*2]?=V (I (Aa l[k].1))/\(zx l)[k*2+1]?=V (O Ai l[k].2):=by
 induction l generalizing k <;> grind[zx,Aa,List.getElem?_append_right,List.length_cons,List.length_nil]
theorem iD (l:A (A Ab×Ak)):Z (zx l)=Z l*2:=by
 induction l <;> grind[zx,Aa,List.length_append]
theorem zb1 (l:A (A Ab×Ak)):∀(n k:Ad),n+k=Z l->nz (l.take k)=l.take k->
  (firstAt (fun j=>(l[j]?.map Prod.snd).getD 1 == 0) n k = -1/\nz l=l)\/∃i:Ad,firstAt (fun j=>(l[j]?.map Prod.snd).getD 1 == 0) n k=i/\i<Z l/\nz (l.take (i+1))=l.take i:=by
 intro n
 induction n with
 |zero=>intro k h b;left;rw[Cc (by omega)] at b;exact⟨rfl,b⟩
 |succ n ih=>
  intro k h b;have c:k<Z l:=by omega
  rw[firstAt];have e:(l[k]?.map Prod.snd).getD 1=l[k].2:=by rw[Bd c];rfl
  rw[e];have d:nz (l.take (k+1))=l.take k++(if (l[k].2 == 0)=true then [] else [l[k]]):=by
   rw[Co c];unfold nz at b ⊢;rw[Nj,b]
   congr 1
   by_cases a:(l[k].2 == 0)=true
   ·rw[Az a,Mp,Aw (by rw[a];simp)];rfl
   ·rw[Aw a,Mp,Az (by simpa using a)];rfl
  by_cases a:(l[k].2 == 0)=true
  ·rw[Az a] at d ⊢
   right;exact⟨k,rfl,c,by rw[d,Cv]⟩
  ·rw[Aw a] at d ⊢
   exact ih (k+1) (by omega) (by rw[d,Co c])
def DelAt (w:Ag)(g cap:Ad)(l:A (A Ab×Ak))(i j:Ad):Prop:=
 ∃cur:Fh Aj,w.heap[g]?=V (Ae cur 285 (0,0))/\cur.size=cap*2/\cur.toList.take (i*2)=zx (nz (l.take j))/\
  ∀(k:Ad) (hk:k<Z l),j<=k->cur[k*2]?=V (I (Aa l[k].1))/\cur[k*2+1]?=V (O Ai l[k].2)
variable {w:Ag}{a g i j B rb:Ad}{l:A (A Ab×Ak)}
theorem DelAt.keep {w':Ag}(h:DelAt w g a l i j)(b:w.grownBy w' S):DelAt w' g a l i j:=by grind[zE,DelAt]
theorem DelAt.skip (h:DelAt w g a l i j)(c:j<Z l)(b:l[j].2=0):DelAt w g a l i (j+1):=by grind[List.take_succ_eq_append_getElem,nz,DelAt]
theorem DelAt.take (h:DelAt w g a l i j)(t:j<Z l)(s:i<j)(v:Z l<=a)(o:l[j].2≠0):DelAt ((w.setCell ⟨g,i*2,S⟩ (I (Aa l[j].1))).setCell ⟨g,i*2+1,S⟩ (O Ai l[j].2)) g a l (i+1) (j+1):=by
 obtain⟨b,p,n,q,r⟩:=h;refine⟨_,zH (zH p _) _,by simp[n],?_,fun k hk hjk=>?_⟩
 ·have e:nz (l.take (j+1))=nz (l.take j)++[l[j]]:=by
   rw[Co t];unfold nz;rw[Nj,Mp,Az (by simpa using o)];rfl
  rw[e,yn,<-q];have x:i*2+1<Z b.toList:=by rw[Array.length_toList,n];omega
  rw[Array.toList_setIfInBounds,Array.toList_setIfInBounds];generalize b.toList=cl at*
  apply Qt
  intro m;rw[Gi,Xc,Xc]
  by_cases u:m<i*2
  ·rw[Az (by omega),Aw (by omega),Aw (by omega),Cx (by rw[Cq];omega),Gi,Az u]
  ·have c:Z (cl.take (i*2))=i*2:=by rw[Cq];omega
   rw[Cl (by omega),c]
   by_cases d:m=i*2
   ·subst d
    rw[Az (by omega),Aw (by omega),Az rfl,Az (by omega),Gp];rfl
   ·by_cases f:m=i*2+1
    ·subst f
     rw[Az (by omega),Az rfl,Az (by simp;omega),show i*2+1-i*2=1 by omega];rfl
    ·rw[Aw (by omega),Qh (by simp;omega)]
 ·have:=r k hk (by omega)
  rw[Cd,Cd,Aw (by omega),Aw (by omega),Cd,Cd,Aw (by omega),Aw (by omega)];exact this
theorem DelAt.cells (h:DelAt w g a l i j)(k:Ad)(c:k<Z l)(b:j<=k):w.cell? ⟨g,k*2,S⟩=V (I (Aa l[k].1))/\w.cell? ⟨g,k*2+1,S⟩=V (O Ai l[k].2):=by grind[zB,DelAt,Aa]
theorem DelAt.any (h:DelAt w g a l i j)(k:Ad)(n:k<a*2):(∃x,w.cell? ⟨g,k,S⟩=V x)/\w.frozen? ⟨g,k,S⟩=false:=by
 obtain⟨b,c,d,f,m⟩:=h;refine⟨?_,zG c⟩;rw[zB c];exact⟨b[k]'(by omega),Fj (by omega)⟩
theorem nu (b:Ad):∀(d:A Aj) (o:Ad) (w:Ag) (c:Fh Aj) (t:TypeId) (f:Ad×Ad),w.heap[b]?=V (Ae c t f)->
  ∃a:Fh Aj,(w.setCells b o d).heap[b]?=V (Ae a t f)/\a.size=c.size/\∀j,j<o->a[j]?=c[j]?:=by
 intro d
 induction d with
 |nil=>intro o w c t f h;exact⟨c,h,rfl,fun _ _=>rfl⟩
 |cons v d ih=>
  intro o w c t f h;rw[World.setCells];obtain⟨a,g,i,k⟩:=ih (o+1) (w.setCell ⟨b,o,S⟩ v) (c.setIfInBounds o v) t f (zH h v);refine⟨a,g,by rw[i];simp,fun j hj=>?_⟩;rw[k j (by omega),Cd,Aw (by omega)]
theorem n9 (b:Ad):∀(a:A Aj) (o:Ad) (w:Ag),w.grownBy (w.setCells b o a) (V b):=by
 intro a
 induction a with
 |nil=>intro o w;exact zP _ _
 |cons v a ih=>intro o w;rw[World.setCells];exact zD (zF _ _ _ _) (ih _ _)
theorem DelAt.done {n:Ad}(h:DelAt w g a l i j)(u:j=Z l)(t:Z (nz l)=i)(s:B<=g)(k:i<=a)(f:a<=Bh)(p:A Aj)(z:i*2<=n) :
  (w.setCells g n p).ownsRow B 285 2 (X (V ⟨g,0,S⟩) i a) i (zx (nz l)):=by
 obtain⟨d,q,r,o,_⟩:=h;obtain⟨b,v,x,y⟩:=nu g p n w d _ _ q;subst u;rw[show l.take (Z l)=l from Cc (Aq _)] at o;refine⟨by rw[iD,t],Bf ⟨g,a,b,rfl,s,v,k,f,by rw[x,r],?_⟩⟩;rw[<-o]
 apply Qt
 intro m;rw[Gi,Gi]
 by_cases c:m<i*2
 ·rw[Az c,Az c,Nh,Nh,y m (by omega)]
 ·rw[Aw c,Aw c]
abbrev Fp3 (a):=Nb #[I ⟨#[]⟩,O Ai 0] a
theorem zjE (n:Ad):Z (Fp3 n).toList=n*2:=by simp[Nb]
theorem zm3 (n:Ad):∀v∈(Nb #[I ⟨#[]⟩,O Ai 0] n).toList,v.oneCell'=true:=by
 intro v a;unfold Nb at a;simp at a;obtain⟨i,b,rfl⟩:=a;have:i % 2=0\/i % 2=1:=by omega
 rcases this with h|h <;> simp[h] <;> rfl
theorem eP (w:Ag)(g o n c:Ad)(k:0<n)(d:∀j,j<n*2->(w.cell? ⟨g,o+j,S⟩).isSome=true)(f:∀j,j<n*2->w.frozen? ⟨g,o+j,S⟩=false)(i:TypeId) :
  (Builtin.clear_ #[210] i #[X (V ⟨g,o,S⟩) n c]).run prog w = .ok (.tuple #[]) (w.setCells g o (Fp3 n).toList):=by
 have a:=run_storeCells_cells (P:=prog) g o (Fp3 n).toList 0 w (by rw[zjE];simpa using d) (by rw[zjE];simpa using f) (zm3 n);simp only[Xq] at a;have h:prog.underlying 210=V (.slice 285):=by kernel_rfl
 obtain⟨m,rfl⟩:∃m,n=m+1:=⟨n-1,by omega⟩;have b:(Value.agg #[I ⟨#[]⟩,O Ai 0]).cells=#[I ⟨#[]⟩,O Ai 0]:=rfl;simp[Builtin.clear_,run_underlying h,b,a]
theorem nM (w:Ag)(B:Ad)(v:Aj)(l:A (A Ab×Ak))(hv:w.ownsRow B 285 2 v (Z l) (zx l))(hn:Z l<=2000000000000)(Q:0<Z l):Am prog 334 #[v,.func (.func 335) #[] #[]] w fun e w'=>∃v',e=Af v'/\w'.ownsRow B 285 2 v' (Z (nz l)) (zx (nz l))/\w.grownBy w' v.ownBlock:=by
 obtain⟨g,o,rfl,am,an⟩:=World.ownsRow.form hv Q;have c:∀j,j<Z l*2->w.cell? ⟨g,j,S⟩=(zx l)[j]?:=fun j hj=>Ap hv j (by omega)
 have HI:Y _:=fun(_:Unit)=>dh w g (Z l) o (fun k=>I (Aa ((l[k]?.map Bq).getD []))) (fun k=>(l[k]?.map Prod.snd).getD 1) hn
  (fun k q=>by rw[c (k*2) (by omega),(bQ l k q).1,Bd q];rfl)
  (fun k q=>by rw[c (k*2+1) (by omega),(bQ l k q).2,Bd q];rfl)
 have HR:=J hv;clear c hv;rcases zb1 l (Z l) 0 (by omega) (by rfl) with ⟨h1,h2⟩|⟨i,h1,h2,h3⟩
 ·rw[h1] at HI
  have H:=J (h2);clear h1 h2;go_in;go_wp2_with fail;refine(HI.o ()).mono ?_;rintro e w1 ⟨rfl,u⟩;go_wp2;go_ret;exact⟨_,rfl,by rw[H.o];exact World.ownsRow.kept HR.o u (Bf (by simp[Value.ownBlock])),zT u _⟩
 ·rw[h1] at HI
  have H:=J (h3);have ap:((i:Ak) == -1)=false:=by rw[Ch];omega
  clear h1 h3;go_in;go_wp2_with fail;refine(HI.o ()).mono ?_;rintro e w1 ⟨rfl,u⟩;obtain⟨aj,ak⟩:=HR.o;rcases ak with ⟨hbad,_⟩|⟨g',cap',cur,hve,hB,hblk,hnc,hcm,hcs,htk⟩
  ·cases hbad
  simp only[Au,Ey,Qo] at hve;obtain⟨⟨rfl,_⟩,_,rfl⟩:=hve;have aa:Y (DelAt w1 g o l i (i+1)):=by
   refine DelAt.keep ⟨cur,hblk,hcs,?_,fun k q hik=>?_⟩ u
   ·rw[H.o]
    have:cur.toList.take (i*2)=(cur.toList.take (Z l*2)).take (i*2):=by rw[List.take_take,Vj (by omega)]
    rw[this,htk]
    apply Qt
    intro m;rw[Gi]
    by_cases hm:m<i*2
    ·rw[Az hm]
     have q:m / 2<Z l:=by omega
     have ai:m / 2<Z (l.take i):=by rw[Cq];omega
     have a1:=bQ l (m / 2) q;have a2:=bQ (l.take i) (m / 2) ai;rw[List.getElem_take] at a2;have:m % 2=0\/m % 2=1:=by omega
     rcases this with h|h
     ·have e:m=m / 2*2:=by omega
      rw[e,a1.1,a2.1]
     ·have e:m=m / 2*2+1:=by omega
      rw[e,a1.2,a2.2]
    ·rw[Aw hm,Qh (by rw[iD,Cq];omega)]
   ·have a:=bQ l k q
    rw[<-htk,Gi,Gi,Az (by omega),Az (by omega),Nh,Nh] at a;exact a
  have af:Y (Z (nz (l.take (i+1)))=i):=by show _=_;rw[H.o,Cq];omega
  have ad:Y (w.grownBy w1 (V g)):=zT u _;clear aj hblk hcs htk u;go_wp2
  go_loopw [5,6] (fun iv jv wr=>∃i j:Ad,i<j/\j<=Z l/\iv=O Ai i/\jv=O Ai j/\Y (Z (nz (l.take j))=i)/\Y (DelAt wr g o l i j)/\Y (w.grownBy wr (V g))) (fun _ jv _=>Z l-(intOf jv).toNat)
  ·exact⟨i,i+1,by omega,by omega,rfl,by go_num,af,aa,ad⟩
  ·
   obtain⟨i,j,ag,ao,rfl,rfl,f,y,HG⟩:=hrel
   by_cases p:j<Z l
   ·obtain⟨d0,d1⟩:=y.o.cells j p (Aq _)
    have HS:Y _:=fun(w':Ag)=>zd7 (I (Aa l[j].1)) l[j].2 w'
    by_cases s:l[j].2=0
    ·have ab:=J (y.o.skip p s)
     have E:Y (Z (nz (l.take (j+1)))=i):=by
      show _=_;rw[Co p];unfold nz;rw[Nj,Mp,Aw (by simp[s])];simpa[nz] using f.o
     have N:(l[j].2 == 0)=true:=by rw[s];rfl
     rw[N] at HS;clear N s;generalize l[j]=t at*;go_wp2_with fail;refine(HS.o _).mono ?_;rintro e r ⟨rfl,d⟩;have b:wr.grownBy r S:=zD (Ac _ _ _) d;have z:Y _:=ab.o.keep b;have C:Y _:=zD HG.o (zT b _);clear d b;go_wp2;exact⟨⟨i,j+1,by omega,by omega,rfl,by go_num,E,z,C⟩,by simp[intOf];omega⟩
    ·have HT:Y (∀r,wr.grownBy r S->DelAt ((r.setCell ⟨g,i*2,S⟩ (I (Aa l[j].1))).setCell ⟨g,i*2+1,S⟩ (O Ai l[j].2)) g o l (i+1) (j+1)):=fun r u=>(y.o.keep u).take p ag hnc s
     have E:Y (Z (nz (l.take (j+1)))=i+1):=by
      show _=_;rw[Co p];unfold nz;rw[Nj,Mp,Az (by simpa using s)];simpa[nz] using f.o
     have N:(l[j].2 == 0)=false:=by rw[Ch];exact s
     rw[N] at HS;clear N s;generalize l[j]=t at*;go_wp2_with fail;refine(HS.o _).mono ?_;rintro e r ⟨rfl,d⟩;have b:wr.grownBy r S:=zD (Ac _ _ _) d;have F:=y.o.keep b;obtain⟨⟨x0,k0⟩,f0⟩:=F.any (i*2) (by omega);obtain⟨⟨x1,k1⟩,f1⟩:=F.any (i*2+1) (by omega);have nb:=ql d;have v0:=cbi 0 nb;have v1:=cbi 1 nb;have z:Y _:=HT.o r b;have C:Y (w.grownBy ((r.setCell ⟨g,i*2,S⟩ (I (Aa t.1))).setCell ⟨g,i*2+1,S⟩ (O Ai t.2)) (V g)):=zD (zD (zD HG.o (zT b _)) (zF _ _ _ _)) (zF _ _ _ _);clear d b F nb;go_wp2;exact⟨⟨i+1,j+1,by omega,by omega,by go_num,by go_num,E,z,C⟩,by simp[intOf];omega⟩
   ·have ah:j=Z l:=by omega
    subst ah;rw[show l.take (Z l)=l from Cc (Aq _)] at f;have al:=eP wr g (i*2) (Z l-i) (o-i) (by omega)
     (fun m hm=>by obtain⟨⟨x,hx⟩,_⟩:=y.o.any (i*2+m) (by omega);rw[hx];rfl)
     (fun m hm=>(y.o.any (i*2+m) (by omega)).2)
    have HO:Y _:=y.o.done (n:=i*2) rfl f.o hB (by omega) hcm (Nb #[I ⟨#[]⟩,O Ai 0] (Z l-i)).toList (Aq _);have ae:Y _:=zD HG.o (n9 g (Nb #[I ⟨#[]⟩,O Ai 0] (Z l-i)).toList (i*2) wr);generalize(Nb #[I ⟨#[]⟩,O Ai 0] (Z l-i)).toList=zs at*;generalize World.setCells wr g (i*2) zs=wz at*;go_wp2;go_ret;exact⟨_,rfl,by rw[f.o];exact HO.o,ae.o⟩
theorem iz:(prog.info? 285).map (fun i=>(i.zero,i.size,i.bytes))=V (V (Fe #[I ⟨#[]⟩,O Ai 0]),2,24):=by kernel_rfl
variable {s:As}{st:P.St}
abbrev Fp4 (a b c):=Eo a (Ae #[I (Aa b),O Ai c] 285)
theorem oE (h:PInv w rb s st):Am prog 273 #[Al (V ⟨rb,0,S⟩)] w fun e w'=>∃v,e=Af v/\PInv w' rb s (qS s.data.toList st).2/\w.grownBy w' (V rb)/\w'.ownsRow w.heap.size 285 2 v (Z (qS s.data.toList st).1) (zx (qS s.data.toList st).1)/\∀t∈(qS s.data.toList st).1,0<=t.2/\t.2<=99999:=by
 obtain⟨i0,hi,aY,aZ,a0⟩:=Ej iz;have c2:=cbi 2 h.rd;have HP:Y (qS s.data.toList st=(nz (yA s.data.toList st).1,zh (zS s.data.toList (yA s.data.toList st).2 [59]) ((nz (yA s.data.toList st).1).isEmpty) 4 st.tok.at_)):=rfl;have HA:Y (yA s.data.toList st=xG s.data.toList (Z s.data.toList+1) (zb s.data.toList (zS s.data.toList st kh) 0).2 [(zb s.data.toList (zS s.data.toList st kh) 0).1]):=rfl;have H0:=J h;have a3:=zO h.rd;clear h;go_in;have C0:Y (w.grownBy w (V rb)):=zP _ _;go_wp2_with fail;refine(y8 H0.o _).mono ?_;rintro e w1 ⟨rfl,I1,az⟩;have J1:=J I1;have G1:=J (az);have C1:=J (zD C0.o G1.o);clear az I1;rw[show(⟨#[116,111]⟩:As).data.toList=kh from rfl] at J1;generalize zS s.data.toList st kh=st1 at*;have an:Y (∀w,PInv w rb s st1->Am prog 333 #[Al (V ⟨rb,0,S⟩),O Ai 0] w fun e w'=>e=Af (Fe #[I (Aa (zb s.data.toList st1 0).1.1),O Ai (zb s.data.toList st1 0).1.2])/\PInv w' rb s (zb s.data.toList st1 0).2/\w.grownBy w' (V rb)/\0<=(zb s.data.toList st1 0).1.2/\(zb s.data.toList st1 0).1.2<=99999):=fun w h=>nX h 0
 go_wp2_with fail;refine(an.o _ J1.o).mono ?_;rintro e w2 ⟨rfl,I2,aA,aD,aE⟩;have J2:=J I2;have G2:=J (aA);have C2:=J (zD C1.o G2.o);have z2:=C2.o.size;clear aA I2;clear an;generalize zb s.data.toList st1 0=q at*;obtain⟨⟨nm,wt⟩,aH⟩:=q;simp only at J2 HA aD aE ⊢;go_wp2_with fail;have aU:Y ((Fp4 w2 nm wt).ownsRow w.heap.size 285 2 (X (V ⟨w2.heap.size,0,S⟩) 1 1) [(nm,wt)].length (zx [(nm,wt)])):=by
  refine⟨rfl,Bf ⟨w2.heap.size,1,#[I (Aa nm),O Ai wt],rfl,z2,heap_alloc_new _ _,Aq _,by unfold Bh;omega,rfl,rfl⟩⟩
 have JA:Y (PInv (Fp4 w2 nm wt) rb s aH):=J2.o.keep (Ac _ _ _);have CA:Y (w.grownBy (Fp4 w2 nm wt) (V rb)):=zD C2.o (Ac _ _ _);have aO:Y (∀t∈[(nm,wt)],(0:Ak)<=t.2/\t.2<=99999):=by intro t ht;simp at ht;subst ht;exact⟨aD,aE⟩
 have a8:=J2.o.len
 go_loopw [4] (fun v wr=>∃(n:Ad) (c:A (A Ab×Ak)) (p:P.St),0<Z c/\(Z c)<=p.tok.at_+1/\p.tok.at_<=s.size/\s.size<n+p.tok.at_/\Y (xG s.data.toList n p c=yA s.data.toList st)/\Y (PInv wr rb s p)/\Y (w.grownBy wr (V rb))/\Y (wr.ownsRow w.heap.size 285 2 v (Z c) (zx c))/\Y (∀t∈c,(0:Ak)<=t.2/\t.2<=99999)) (fun v _=>s.size+2-lenOf v)
 ·exact⟨Z s.data.toList+1,[(nm,wt)],aH,by simp,by simp,by have:=J2.o.bd;omega,by rw[Cp];omega,HA.o.symm,JA,CA,aU,aO⟩
 ·
  obtain⟨n,c,p,aW,a4,a9,hn,HL,IR,HR,HO,al⟩:=hrel;obtain⟨n,rfl⟩:∃m,n=m+1:=⟨n-1,by omega⟩;have f:=HL.o;rw[xG] at f;have a2:=J (kM HO.o);obtain⟨ua,uc,rfl⟩:=zL HO.o;have aR:=J HO.o;go_wp2_with fail;refine(vN IR.o _).mono ?_;rintro e ba ⟨rfl,E⟩;have aB:=zT E (V rb);have au:Y _:=(IR.o).keep E;have ag:=J (aB);have af:=J (zD HR.o ag.o);have y:Y _:=zQ aR.o ag.o;clear aB E;rw[show(⟨#[44]⟩:As).data.toList=[44] from rfl]
  cases hgo:qH p [44]
  ·rw[hgo] at f
   simp only[Ct,Gj] at f;have HT:=J (f.symm);clear f HL;rw[HT.o] at HP;simp only at HP;go_wp2_with fail;refine(y8 au.o _).mono ?_;rintro e a1 ⟨rfl,ao,F⟩;have av:=J ao;have ah:=J (F);have aK:=J (zD af.o ah.o);have g:Y _:=zQ y.o ah.o;clear F ao;rw[show(⟨#[59]⟩:As).data.toList=[59] from rfl] at av;go_wp2_with fail;refine(nM a1 w.heap.size _ c g.o (by omega) aW).mono ?_;rintro e wD ⟨vD,rfl,ae,ad⟩;have JD:Y _:=av.o.away ad (fun k hk=>by have h1:=(An g.o k hk).1;omega);have CD:=J (qI aK.o ad (fun k hk=>(An g.o k hk).1));obtain⟨da,dc,rfl⟩:=zL ae;have aT:=J ae;clear ae ad;have aP:Y (((Z (nz c):Ak) == 0)=(nz c).isEmpty):=by show _=_;cases nz c with|nil=>rfl|cons a b=>simp;omega
   have z:=J aT.o;generalize aC:Z (nz c)=nzl at*;have aQ:=J aC;clear aC;go_wp2_with fail;refine(yO JD.o _ _ _).mono ?_;rintro e bb ⟨rfl,ap,H⟩;have aw:=J ap;have ai:=J (H);have aL:=J (zD CD.o ai.o);have B:Y _:=zQ z.o ai.o;clear H ap;rw[aP.o] at aw;go_wp2;go_ret;exact⟨_,rfl,by rw[HP.o];exact aw.o,aL.o,by rw[HP.o];show Ib _ _ _ _ _ (Z (nz c)) _;rw[aQ.o];exact B.o,by rw[HP.o];intro t ht;exact al.o t ((List.mem_filter.1 ht).1)⟩
  ·rw[hgo] at f
   simp only[Gq] at f;have a5:=kF s.data.toList p [44] hgo;have aX:=fG s.data.toList (zS s.data.toList p [44]) (Z c);have am:=J f;clear f HL;go_wp2_with fail;refine(y8 au.o _).mono ?_;rintro e bc ⟨rfl,aq,N⟩;have ax:=J aq;have aj:=J (N);have aM:=J (zD af.o aj.o);have aS:Y _:=zQ y.o aj.o;clear N aq;rw[show(⟨#[44]⟩:As).data.toList=[44] from rfl] at ax;generalize zS s.data.toList p [44]=p1 at*;go_wp2_with fail;refine(nX ax.o (Z c)).mono ?_;rintro e aI ⟨rfl,ar,Q,aF,aG⟩;have C:=J ar;have ak:=J (Q);have x:=J (zD aM.o ak.o);have be:=x.o.size;have l:Y _:=zQ aS.o ak.o;clear Q ar;generalize zb s.data.toList p1 (Z c)=q at*;obtain⟨⟨aa,ab⟩,p2⟩:=q;simp only at C am aF aG aX ⊢;have a7:=C.o.bd;go_wp2_with (at_builtin;refine Ei _ rfl _ _ 210 rfl (w.heap.size) 285 i0 _ 2 24 underlying210 hi aY aZ a0 rfl (by decide) _ _ _ rfl (Ao l.o _) ⟨aI.heap.size,0,S⟩ 1 1 [I (Aa aa),O Ai ab] rfl rfl ?c1 ?c2 (by decide) ?c3 ?c4 ?c5 (aI.heap.size+1) (by simp) ?_)
   ·exact zZ _ #[_,_] _ _
   ·intro u hu;simp at hu;rcases hu with rfl|rfl <;> rfl
   ·unfold Bh;omega
   ·omega
   ·have:=x.o.size;simp;omega
   intro ay r aJ j d a6 _;have o:Y (aJ.ownsRow w.heap.size 285 2 (X (V ⟨ay,0,S⟩) (Z c+1) r) (Z (c++[(aa,ab)])) (zx (c++[(aa,ab)]))):=by rw[yn,Ah];exact j
   have i:∀k,(X ua (Z c) uc:Aj).ownBlock=V k->w.heap.size<=k:=fun k hk=>(An l.o k hk).1
   have aV:Y _:=(C.o.keep (Ac _ _ _)).away d (fun k hk=>by have h1:=i k hk;omega);have aN:Y (w.grownBy aJ (V rb)):=qI (zD x.o (Ac _ _ _)) d (fun k hk=>by have h1:=i k hk;omega);clear j d i;go_wp2
   go_roundw
   ·exact⟨n,c++[(aa,ab)],p2,by simp,by rw[Ah];simp;omega,by omega,by omega,am,aV,aN,o.o,fun t ht=>by rcases Ea.1 ht with h|h;exact al.o t h;simp at h;subst h;exact⟨aF,aG⟩⟩
   ·show _<_;rw[show lenOf (X (V ⟨ay,0,S⟩) (Z c+1) r)=Z c+1 from by rw[kM o.o];simp];simp[lenOf];omega
def atOf (w:Ag)(rb:Ad):Ad:=match w.cell? ⟨rb,2,S⟩ with|some v=>(intOf v).toNat|none=>0
theorem jg (h:PInv w rb s st):atOf w rb=st.tok.at_:=by
 unfold atOf;rw[show w.cell? ⟨rb,2,S⟩=V (O Ai st.tok.at_) from zB h.rd];simp[intOf]
theorem iw:(prog.info? 276).map (fun i=>(i.zero,i.size,i.bytes))=V (V (Fe #[I ⟨#[]⟩,Av false,I ⟨#[]⟩]),3,40):=by kernel_rfl
theorem iq:(prog.info? 280).map (fun i=>(i.zero,i.size,i.bytes))=V (V (Fe #[I ⟨#[]⟩,I ⟨#[]⟩]),2,32):=by kernel_rfl
abbrev Fp0:=Ae #[O Ai 0,I ⟨#[]⟩,X S 0 0,X S 0 0,I ⟨#[]⟩,X S 0 0,X S 0 0] 213
abbrev Fp1 (a b):=Ae #[I (Aa a),I (Aa b)] 280
abbrev Fp2 (a b c):=Ae #[I (Aa a),Av b,I (Aa c)] 276
theorem zi9 (h:PInv w rb s st)(B:Ad)(v:Aj)(rs:A P.Rl)(hR:PRulesRow w B v rs)(hn:Z rs<=2000000000000) :
  Am prog 208 #[Al (V ⟨rb,0,S⟩),v] w fun e w'=>∃cs,e=Af (Fe cs.toArray)/\PInv w' rb s (xI s.data.toList st (rs.map P.Rl.number)).2/\w.grownBy w' (V rb)/\PRuleVal w' cs (xI s.data.toList st (rs.map P.Rl.number)).1:=by
 obtain⟨im,mi,ds,dt,du⟩:=Ej iw;obtain⟨is,si,cU,cV,cW⟩:=Ej iq;obtain⟨id,di,cK,cL,cM⟩:=Ej fW;have HP:Y (xI s.data.toList st (rs.map P.Rl.number)=ui s.data.toList (jS s.data.toList st (rs.map P.Rl.number))):=rfl;have HA:Y (jS s.data.toList st (rs.map P.Rl.number)=xp s.data.toList (zS s.data.toList (zy st (Z rs) 6) qz) (rs.map P.Rl.number)):=by show _=_;unfold jS;rw[Bv]
 have H0:=J h;have dN:=zO h.rd;have dO:=h.len;have HR:Y (PRulesRow w B v rs):=hR;have HN:=J hn;obtain⟨va,vc,rfl⟩:∃a c,v=X a (Z rs) c:=by obtain⟨css,h1,_⟩:=hR;exact zL h1
 generalize xI s.data.toList st (rs.map P.Rl.number)=res at*;go_in;have C0:Y (w.grownBy w (V rb)):=zP _ _;go_wp2_with fail;refine(vq (H0.o.keep (Ac _ _ _)) _ _).mono ?_;rintro e w1 ⟨rfl,I1,bD⟩;have J1:=J I1;have s1:w.heap.size+1<=w1.heap.size:=by have h:=bD.size;simpa using h
 have G1:Y (w.grownBy w1 (V rb)):=(zD (Ac _ _ _) bD);have C1:=J (zD C0.o G1.o);have c9:Y (w1.heap[w.heap.size]?=V Fp0):=ql bD;go_wp2_with fail;refine(y8 J1.o _).mono ?_;rintro e w2 ⟨rfl,I2,ci⟩;have J2:=J I2;have s2:w1.heap.size+0<=w2.heap.size:=by have h:=ci.size;simpa using h
 have G2:Y (w1.grownBy w2 (V rb)):=ci;have C2:=J (zD C1.o G2.o);have z2:=C2.o.size;have da:=J (zE c9.o G2.o);rw[show(⟨#[114,117,108,101]⟩:As).data.toList=qz from rfl] at J2;go_wp2_with fail;refine(nW J2.o B _ rs (HR.o.keep C2.o (H0.o.safe (by decide))) HN.o).mono ?_;rintro e w3 ⟨rfl,I3,cj,cS,cT⟩;have J3:=J I3;have b3:=zO J3.o.rd;have s3:w2.heap.size+0<=w3.heap.size:=by have h:=cj.size;simpa using h
 have G3:Y (w2.grownBy w3 (V rb)):=cj;have C3:=J (zD C2.o G3.o);have z3:=C3.o.size;have db:=J (zE da.o G3.o);rw[<-HA.o] at J3 cS cT;rw[<-HA.o];generalize jS s.data.toList st (rs.map P.Rl.number)=qa at*;obtain⟨F,sA⟩:=qa;simp only at J3 cS cT HP ⊢;go_wp2_with fail;refine(y8 (J3.o.keep (Ac _ _ _)) _).mono ?_;rintro e w4 ⟨rfl,I4,ck⟩;have J4:=J I4;have G4:Y (w3.grownBy w4 (V rb)):=(zD (Ac _ _ _) ck);have C4:=J (zD C3.o G4.o);have dc:=J (zE db.o G4.o);have dk:Y (w4.heap[w3.heap.size]?=V (Ae #[O Ai F,I ⟨#[]⟩,X S 0 0,X S 0 0,I ⟨#[]⟩,X S 0 0,X S 0 0] 213)):=ql ck;go_wp2_with fail;refine(ly J4.o _).mono ?_;rintro e w5 ⟨rfl,I5,cO⟩;have J5:=J I5;have G5:Y (w4.grownBy w5 (V rb)):=cO;have C5:=J (zD C4.o G5.o);have dd:=J (zE dc.o G5.o);have cf:=J (zE dk.o G5.o);have JB:Y (PInv w5 rb s (vH s.data.toList sA).2):=J5;rw[show(xi s.data.toList (zS s.data.toList sA (⟨#[123]⟩:As).data.toList) (⟨#[112,97,116,104]⟩:As).data.toList).1=(vH s.data.toList sA).1 from rfl];have b5:Y (res=uh s.data.toList F (vH s.data.toList sA).1 (qw s.data.toList (Z s.data.toList+1) (vH s.data.toList sA).2 [])):=HP.o;generalize vH s.data.toList sA=qb at*;obtain⟨z,sB⟩:=qb;simp only at JB b5 ⊢;have dP:=cbi 1 cf.o;have dQ:=zm9 1 cf.o;go_wp2_with fail;have J6:Y _:=JB.o.other (zF w5 w3.heap.size 1 (I (Aa z))) (by omega);have C6:=J (ze C5.o (zF w5 w3.heap.size 1 (I (Aa z))));have de:=J (zE dd.o (zF w5 w3.heap.size 1 (I (Aa z))));have dl:Y ((Bs w5 ⟨w3.heap.size,1,S⟩ (I (Aa z))).heap[w3.heap.size]?=V (Ae #[O Ai F,I (Aa z),X S 0 0,X S 0 0,I ⟨#[]⟩,X S 0 0,X S 0 0] 213)):=zH cf.o (I (Aa z));generalize(Bs w5 ⟨w3.heap.size,1,S⟩ (I (Aa z)))=w6 at*;have b6:Y (res=uh s.data.toList F z (qw s.data.toList (Z s.data.toList+1) sB [])):=b5.o;generalize cN:qw s.data.toList (Z s.data.toList+1) sB []=Qm at*;have c6:=J cN;have dM:=J6.o.bd
 go_loopw [] (fun wr=>∃(n:Ad) (acc:A P.Mt) (p:P.St) (vL:Aj),Z acc<=p.tok.at_/\p.tok.at_<=s.size/\s.size<n+p.tok.at_/\Y (qw s.data.toList n p acc=Qm)/\Y (PInv wr rb s p)/\Y (w.grownBy wr (V rb))/\Y (wr.heap[w.heap.size]?=V Fp0)/\Y (wr.heap[w3.heap.size]?=V (Ae #[O Ai F,I (Aa z),vL,X S 0 0,I ⟨#[]⟩,X S 0 0,X S 0 0] 213))/\Y (wr.ownsRow w.heap.size 276 3 vL (Z acc) (xe acc))) (fun wr=>s.size+1 - atOf wr rb)
 ·exact⟨Z s.data.toList+1,[],sB,_,Ax _,by omega,by rw[Cp];omega,c6.o,J6,C6,de.o,dl.o,Bk _ _ _ _⟩
 ·
  obtain⟨n,f,pm,vL,bA,bG,bF,HL,IR,CR,aK,aN,ak⟩:=hrel;obtain⟨n,rfl⟩:∃m,n=m+1:=⟨n - 1,by omega⟩;have r:=HL.o;rw[qw] at r;obtain⟨Q,aa,rfl⟩:=zL ak.o;go_wp2_with fail;refine(vN IR.o _).mono ?_;rintro e a3 ⟨rfl,ch⟩;have cR:=zT ch (V rb);have cG:Y _:=(IR.o).keep ch;have bz:Y (wr.grownBy a3 (V rb)):=cR;have b0:=J (zD CR.o bz.o);have dV:=b0.o.size;have cI:=J (zE aK.o bz.o);have aL:=J (zE aN.o bz.o);have cy:Y _:=zQ ak.o bz.o;rw[show(⟨#[104,101,97,100,101,114]⟩:As).data.toList=qO from rfl]
  cases hgo:qH pm qO
  ·rw[hgo] at r
   simp only[Ct,Gj] at r;have c2:Y (Qm=(f,pm)):=r.symm;rw[c2.o] at b6;have c5:=J cy;go_wp2_with fail;refine(oE cG.o).mono ?_;rintro e wT ⟨vT,rfl,IT,bv,cl,dr⟩;obtain⟨ta,tc,rfl⟩:=zL cl;have JT:=J IT;have CT:=J (zD b0.o bv);have dj:=J (zE cI.o bv);have bp:=J (zE aL.o bv);have cx:Y _:=zQ c5.o bv;have cd:Y _:=zo cl (show w.heap.size<=a3.heap.size by omega);have b7:Y (res=jy s.data.toList F z f (qS s.data.toList pm)):=b6.o;generalize qS s.data.toList pm=pt at*;obtain⟨tl,aP⟩:=pt;simp only at JT cd b7;have ba:Y (res=wi s.data.toList F z f tl (yu s.data.toList aP) (qk s.data.toList (Z s.data.toList+1) (yu s.data.toList aP).2 [])):=b7.o;have dT:=cbi 3 bp.o;have dU:=zm9 3 bp.o;go_wp2_with fail;have cD:Y _:=JT.o.other (zF wT w3.heap.size 3 (X ta (Z tl) tc)) (by omega);have cX:=J (ze CT.o (zF wT w3.heap.size 3 (X ta (Z tl) tc)));have df:=J (zE dj.o (zF wT w3.heap.size 3 (X ta (Z tl) tc)));have dm:Y ((Bs wT ⟨w3.heap.size,3,S⟩ (X ta (Z tl) tc)).heap[w3.heap.size]?=V (Ae #[O Ai F,I (Aa z),X Q (Z f) aa,X ta (Z tl) tc,I ⟨#[]⟩,X S 0 0,X S 0 0] 213)):=zH bp.o (X ta (Z tl) tc);have c3:Y _:=zJ cx.o (zF wT w3.heap.size 3 (X ta (Z tl) tc)) (zI bp.o cx.o);have c7:Y _:=zJ cd.o (zF wT w3.heap.size 3 (X ta (Z tl) tc)) (zI bp.o cd.o);generalize(Bs wT ⟨w3.heap.size,3,S⟩ (X ta (Z tl) tc))=wEm1 at*;refine(vN cD.o _).mono ?_;rintro e bY ⟨rfl,cg⟩;have cP:=zT cg (V rb);have cE:Y _:=(cD.o).keep cg;have a4:Y (wEm1.grownBy bY (V rb)):=cP;have cu:=J (zD cX.o a4.o);have cH:=J (zE df.o a4.o);have cJ:=J (zE dm.o a4.o);have cv:Y _:=zQ c3.o a4.o;have cz:Y _:=zQ c7.o a4.o;rw[show(⟨#[114,101,112,108,97,99,101]⟩:As).data.toList=qK from rfl];have aQ:Y (yu s.data.toList aP=if qH aP qK then xi s.data.toList aP qK else ([],aP)):=rfl;generalize yu s.data.toList aP=pc at*;obtain⟨H,sC⟩:=pc;simp only at ba
   cases hch:qH aP qK
   ·rw[hch] at aQ
    simp only[Ct,Gj] at aQ;have c0:Y (H=[]):=(Nn aQ.o).1;have c1:Y (sC=aP):=(Nn aQ.o).2;have cC:Y (PInv bY rb s sC):=by rw[c1.o];exact cE.o
    have dp:Y (bY.heap[w3.heap.size]?=V (Ae #[O Ai F,I (Aa z),X Q (Z f) aa,X ta (Z tl) tc,I (Aa H),X S 0 0,X S 0 0] 213)):=by rw[c0.o];exact cJ.o
    go_wp2_with fail;generalize br:qk s.data.toList (Z s.data.toList+1) sC []=Qs at*;have b9:=J br;have dq:=cC.o.bd
    go_loopw [] (fun wr=>∃(n:Ad) (acc:A (A Ab×A Ab)) (p:P.St) (vL:Aj),Z acc<=p.tok.at_/\p.tok.at_<=s.size/\s.size<n+p.tok.at_/\Y (qk s.data.toList n p acc=Qs)/\Y (PInv wr rb s p)/\Y (w.grownBy wr (V rb))/\Y (wr.heap[w.heap.size]?=V Fp0)/\Y (wr.heap[w3.heap.size]?=V (Ae #[O Ai F,I (Aa z),X Q (Z f) aa,X ta (Z tl) tc,I (Aa H),vL,X S 0 0] 213))/\Y (wr.ownsRow w.heap.size 280 2 vL (Z acc) (zi acc))/\Y (wr.ownsRow w.heap.size 276 3 (X Q (Z f) aa) (Z f) (xe f))/\Y (wr.ownsRow w.heap.size 285 2 (X ta (Z tl) tc) (Z tl) (zx tl))) (fun wr=>s.size+1 - atOf wr rb)
    ·exact⟨Z s.data.toList+1,[],sC,_,Ax _,by omega,by rw[Cp];omega,b9.o,cC,cu,cH.o,dp.o,Bk _ _ _ _,cv.o,cz.o⟩
    ·
     obtain⟨n,b,ps,vL,bA,bG,bF,HL,IR,CR,aK,aN,ak,aV,a0⟩:=hrel;obtain⟨n,rfl⟩:∃m,n=m+1:=⟨n - 1,by omega⟩;have r:=HL.o;rw[qk] at r;obtain⟨ab,ad,rfl⟩:=zL ak.o;go_wp2_with fail;refine(vN IR.o _).mono ?_;rintro e au ⟨rfl,a2⟩;have bu:=zT a2 (V rb);have bl:Y _:=(IR.o).keep a2;have ao:Y (wr.grownBy au (V rb)):=bu;have aT:=J (zD CR.o ao.o);have dL:=aT.o.size;have bn:=J (zE aK.o ao.o);have x:=J (zE aN.o ao.o);have aX:Y _:=zQ ak.o ao.o;have a8:Y _:=zQ aV.o ao.o;have bh:Y _:=zQ a0.o ao.o;rw[show(⟨#[115,101,116]⟩:As).data.toList=xX from rfl]
     cases hgo:qH ps xX
     ·rw[hgo] at r
      simp only[Ct,Gj] at r;have b2:Y (Qs=(b,ps)):=r.symm;have aG:Y (res=(⟨F,z,f,tl,H,b,(qf s.data.toList (b.map Bq) (Z s.data.toList+1) ps []).1⟩,zS s.data.toList (qf s.data.toList (b.map Bq) (Z s.data.toList+1) ps []).2 [125])):=by
       show _=_;rw[ba.o,b2.o];rfl
      generalize bq:qf s.data.toList (b.map Bq) (Z s.data.toList+1) ps []=Qd at*;have b8:=J bq;have bw:Z b<=2000000000000:=by omega
      have b4:=J bw;have ca:=J aX;go_wp2_with fail
      go_loopw [] (fun wr=>∃(n:Ad) (acc:A (A Ab)) (p:P.St) (vL:Aj),Z acc<=p.tok.at_/\p.tok.at_<=s.size/\s.size<n+p.tok.at_/\Y (qf s.data.toList (b.map Bq) n p acc=Qd)/\Y (PInv wr rb s p)/\Y (w.grownBy wr (V rb))/\Y (wr.heap[w.heap.size]?=V Fp0)/\Y (wr.heap[w3.heap.size]?=V (Ae #[O Ai F,I (Aa z),X Q (Z f) aa,X ta (Z tl) tc,I (Aa H),X ab (Z b) ad,vL] 213))/\Y (wr.ownsRow w.heap.size 9 1 vL (Z acc) (zY acc))/\Y (wr.ownsRow w.heap.size 276 3 (X Q (Z f) aa) (Z f) (xe f))/\Y (wr.ownsRow w.heap.size 285 2 (X ta (Z tl) tc) (Z tl) (zx tl))/\Y (wr.ownsRow w.heap.size 280 2 (X ab (Z b) ad) (Z b) (zi b))) (fun wr=>s.size+1 - atOf wr rb)
      ·exact⟨Z s.data.toList+1,[],ps,_,Ax _,by omega,by rw[Cp];omega,b8.o,bl,aT,bn.o,x.o,Bk _ _ _ _,a8.o,bh.o,ca.o⟩
      ·
       obtain⟨n,l,pd,vL,bA,bG,bF,HL,IR,CR,aK,aN,ak,aV,a0,cc⟩:=hrel;obtain⟨n,rfl⟩:∃m,n=m+1:=⟨n - 1,by omega⟩;have r:=HL.o;rw[qf] at r;obtain⟨aq,ar,rfl⟩:=zL ak.o;go_wp2_with fail;refine(vN IR.o _).mono ?_;rintro e ah ⟨rfl,a1⟩;have bt:=zT a1 (V rb);have bk:Y _:=(IR.o).keep a1;have ag:Y (wr.grownBy ah (V rb)):=bt;have aS:=J (zD CR.o ag.o);have dK:=aS.o.size;have bm:=J (zE aK.o ag.o);have t:=J (zE aN.o ag.o);have aW:Y _:=zQ ak.o ag.o;have a7:Y _:=zQ aV.o ag.o;have bg:Y _:=zQ a0.o ag.o;have aY:Y _:=zQ cc.o ag.o;rw[show(⟨#[100,114,111,112]⟩:As).data.toList=qy from rfl]
       cases hgo:qH pd qy
       ·rw[hgo] at r
        simp only[Ct,Gj] at r;have b1:Y (Qd=(l,pd)):=r.symm;rw[b1.o] at aG;simp only at aG;go_wp2_with fail;refine(y8 bk.o _).mono ?_;rintro e bx ⟨rfl,bi,bs⟩;have bj:=J bi;have af:Y (ah.grownBy bx (V rb)):=bs;have bZ:=J (zD aS.o af.o);have g:=J (zE bm.o af.o);have E:=J (zE t.o af.o);have a9:Y _:=zQ aW.o af.o;have a6:Y _:=zQ a7.o af.o;have bf:Y _:=zQ bg.o af.o;have bc:Y _:=zQ aY.o af.o;rw[show(⟨#[125]⟩:As).data.toList=[125] from rfl] at bj;have dv:=cbi 0 E.o;have dw:=cbi 1 E.o;have dx:=cbi 2 E.o;have dy:=cbi 3 E.o;have dz:=cbi 4 E.o;have dA:=cbi 5 E.o;have dB:=cbi 6 E.o;have cm:=cbi 0 g.o;have dC:=zm9 0 g.o;have cn:=cbi 1 g.o;have dD:=zm9 1 g.o;have co:=cbi 2 g.o;have dE:=zm9 2 g.o;have cp:=cbi 3 g.o;have dF:=zm9 3 g.o;have cq:=cbi 4 g.o;have dH:=zm9 4 g.o;have cr:=cbi 5 g.o;have dI:=zm9 5 g.o;have ct:=cbi 6 g.o;have dJ:=zm9 6 g.o;go_wp2;have ap:=zD (zD (zD (zD (zD (zD (zF bx w.heap.size 0 (O Ai F)) (zF _ w.heap.size 1 (I (Aa z)))) (zF _ w.heap.size 2 (X Q (Z f) aa))) (zF _ w.heap.size 3 (X ta (Z tl) tc))) (zF _ w.heap.size 4 (I (Aa H)))) (zF _ w.heap.size 5 (X ab (Z b) ad))) (zF _ w.heap.size 6 (X aq (Z l) ar));refine Et (v:=.agg #[O Ai F,I (Aa z),X Q (Z f) aa,X ta (Z tl) tc,I (Aa H),X ab (Z b) ad,X aq (Z l) ar]) (by simp[results,results208,go_sem,cm,cn,co,cp,cq,cr,ct]) rfl ⟨[O Ai F,I (Aa z),X Q (Z f) aa,X ta (Z tl) tc,I (Aa H),X ab (Z b) ad,X aq (Z l) ar],rfl,?_,ze bZ.o ap (Aq _),?_⟩
        ·rw[aG.o];exact bj.o.other ap (by omega)
        ·rw[aG.o]
         refine⟨_,_,_,_,rfl,?_,?_,?_,?_⟩
         ·exact zJ (zo a6.o (Ax _)) ap (fun k hk=>zI g.o a6.o (by decide) k hk)
         ·exact zJ (zo bf.o (Ax _)) ap (fun k hk=>zI g.o bf.o (by decide) k hk)
         ·exact zJ (zo bc.o (Ax _)) ap (fun k hk=>zI g.o bc.o (by decide) k hk)
         ·exact zJ (zo a9.o (Ax _)) ap (fun k hk=>zI g.o a9.o (by decide) k hk)
       ·rw[hgo] at r
        simp only[Gq] at r;have aO:=dG s.data.toList pd (Z l) (b.map Bq++l) hgo;have ai:=J r;have bI:=cbi 0 t.o;have bJ:=cbi 1 t.o;have bK:=cbi 2 t.o;have bL:=cbi 3 t.o;have bM:=cbi 4 t.o;have bO:=cbi 5 t.o;have bP:=cbi 6 t.o;have HC:Y (∀w',ah.grownBy w' S->Am prog 275 #[Al (V ⟨rb,0,S⟩),Fe #[O Ai F,I (Aa z),X Q (Z f) aa,X ta (Z tl) tc,I (Aa H),X ab (Z b) ad,X aq (Z l) ar]] w' fun e w''=>e=Af (I (Aa (xO s.data.toList pd (Z l) (b.map Bq++l)).1))/\PInv w'' rb s (xO s.data.toList pd (Z l) (b.map Bq++l)).2/\w'.grownBy w'' (V rb)):=fun w' hg=>lp (bk.o.keep hg) _ _ _ _ _ _ _ b l (zo (zK aY.o hg (fun _ _=>by simp)) (Ax _)) (zo (zK aW.o hg (fun _ _=>by simp)) (Ax _)) b4.o (by omega)
        generalize xO s.data.toList pd (Z l) (b.map Bq++l)=qs at*;obtain⟨C,p2⟩:=qs;simp only at ai aO HC;have az:Y (∀u∈([I (Aa C)]:A Aj),u.oneCell'=true):=by
         intro u hu;simp only[En,Ge,Mn] at hu;subst hu;rfl
        have aB:Y (Z l+1<=Bh):=by show _<=_;unfold Bh;omega
        go_wp2
        go_region_law (first | (refine Ii _ rfl (.tmp 54) (.tmp 58) 22 rfl w.heap.size 9 id _ 1 16 underlying22 di cK cL cM rfl (by decide) _ _ _ (by simp[Im]) (Ao o.o _) ⟨N.heap.size,0,S⟩ 1 1 [I (Aa C)] (by simp[Im]) rfl aE.o az.o (by decide) aB.o (by omega) aA.o (N.heap.size+1) aH.o ?_;intro g9 y w9 an d bB bE;have ae:∀k,(X aq (Z l) ar).ownBlock=V k->w.heap.size<=k:=fun k hk=>(An o.o k hk).1;have J9:Y (PInv w9 rb s p2):=(JN.o.keep (Ac _ _ _)).away d (fun k hk=>by { have h1:=ae k hk;omega });have C9:Y (w.grownBy w9 (V rb)):=qI (zD CN.o (Ac _ _ _)) d ae;have aI:Y (w9.heap[w.heap.size]?=V Fp0):=zw (zE al.o (Ac _ _ S)) d (fun k hk=>zI al.o o.o (by decide) k hk);have q:Y (w9.heap[w3.heap.size]?=V (Ae #[O Ai F,I (Aa z),X Q (Z f) aa,X ta (Z tl) tc,I (Aa H),X ab (Z b) ad,X aq (Z l) ar] 213)):=zw (zE i.o (Ac _ _ S)) d (fun k hk=>zI i.o o.o (by decide) k hk);have aj:Y (w9.ownsRow w.heap.size 9 1 (X (V ⟨g9,0,S⟩) (Z l+1) y) (Z (l++[C])) (zY (l++[C]))):=by { show Ib _ _ _ _ _ _ _;rw[xl,Ah];exact an };have av:Y _:=zK (Ao aw.o _) d (qB o.o aw.o);have ax:Y _:=zK (Ao ay.o _) d (qB o.o ay.o);have bb:Y _:=zK (Ao be.o _) d (qB o.o be.o);have q9:=cbi 6 q.o;have bH:=zm9 6 q.o;clear an d ae) | (go_simp;go_at_call 275;refine(HC.o _ (zV ah)).mono ?_;rintro e N ⟨rfl,IN,am⟩;have GN:ah.grownBy N (V rb):=zD (zT (zV ah) _) am;have JN:Y (PInv N rb s p2):=IN;have CN:=J (zD aS.o GN);have sN:ah.heap.size<=N.heap.size:=GN.size;have al:=J (zE bm.o GN);have i:=J (zE t.o GN);have o:Y _:=zQ aW.o GN;have aw:Y _:=zQ a7.o GN;have ay:Y _:=zQ bg.o GN;have be:Y _:=zQ aY.o GN;have bQ:=cbi 0 i.o;have bR:=cbi 1 i.o;have bS:=cbi 2 i.o;have bT:=cbi 3 i.o;have bU:=cbi 4 i.o;have bV:=cbi 5 i.o;have bW:=cbi 6 i.o;have bX:=zO i.o;have bN:=zO JN.o.rd;have aE:Y (∀j u,([I (Aa C)]:A Aj)[j]?=V u->(N.alloc (Ae #[I (Aa C)] 9)).cell? ((⟨N.heap.size,0,S⟩:Addr).add j)=V u):=zZ N #[_] _ _ rfl;have aA:Y (w.heap.size<=(N.alloc (Ae #[I (Aa C)] 9)).heap.size):=by { show _<=_;rw[show(N.alloc (Ae #[I (Aa C)] 9)).heap.size=N.heap.size+1 from by simp];omega };have aH:Y ((N.alloc (Ae #[I (Aa C)] 9)).heap.size=N.heap.size+1):=by { show _=_;simp };clear IN am GN))
        all_goals
         have gS:=zF w9 w3.heap.size 6 (X (V ⟨g9,0,S⟩) (Z l+1) y);have JS:Y _:=J9.o.other gS (by omega);have CS:=J (ze C9.o gS);have aJ:=J (zE aI.o gS);have aM:Y ((w9.setCell ⟨w3.heap.size,6,S⟩ (X (V ⟨g9,0,S⟩) (Z l+1) y)).heap[w3.heap.size]?=V (Ae #[O Ai F,I (Aa z),X Q (Z f) aa,X ta (Z tl) tc,I (Aa H),X ab (Z b) ad,X (V ⟨g9,0,S⟩) (Z l+1) y] 213)):=zH q.o _;have aF:Y _:=zJ aj.o gS (zI q.o aj.o);have aU:Y _:=zJ av.o gS (zI q.o av.o);have aZ:Y _:=zJ ax.o gS (zI q.o ax.o);have cb:Y _:=zJ bb.o gS (zI q.o bb.o);have aD:Y (atOf (w9.setCell ⟨w3.heap.size,6,S⟩ (X (V ⟨g9,0,S⟩) (Z l+1) y)) rb=p2.tok.at_):=jg JS.o;have aC:Y (atOf wr rb=pd.tok.at_):=jg IR.o;have bC:=JS.o.bd;go_wp2
         go_roundw
         ·exact⟨n,l++[C],p2,_,by rw[Ah];simp;omega,by omega,by omega,ai,JS,CS,aJ,aM,aF,aU,aZ,cb⟩
         ·rw[aD.o,aC.o];omega
     ·rw[hgo] at r
      simp only[Gq] at r;have aO:=mK s.data.toList ps (Z b) (b.map Bq) hgo;have ai:=J r;have bI:=cbi 0 x.o;have bJ:=cbi 1 x.o;have bK:=cbi 2 x.o;have bL:=cbi 3 x.o;have bM:=cbi 4 x.o;have bO:=cbi 5 x.o;have bP:=cbi 6 x.o;have HC:Y (∀w',au.grownBy w' S->Am prog 274 #[Al (V ⟨rb,0,S⟩),Fe #[O Ai F,I (Aa z),X Q (Z f) aa,X ta (Z tl) tc,I (Aa H),X ab (Z b) ad,X S 0 0]] w' fun e w''=>e=Af (Fe #[I (Aa (xj s.data.toList ps (Z b) (b.map Bq)).1.1),I (Aa (xj s.data.toList ps (Z b) (b.map Bq)).1.2)])/\PInv w'' rb s (xj s.data.toList ps (Z b) (b.map Bq)).2/\w'.grownBy w'' (V rb)):=fun w' hg=>by
       have:=zd9 (bl.o.keep hg) (O Ai F) (I (Aa z)) (X Q (Z f) aa) (X ta (Z tl) tc) (I (Aa H)) (X ab (Z b) ad) (X S 0 0) b [] (zo (zK aX.o hg (fun _ _=>by simp)) (Ax _)) (Bk _ _ _ _) (by omega) (by simp);rw[Cv] at this;exact this
      generalize xj s.data.toList ps (Z b) (b.map Bq)=qs at*;obtain⟨C,p2⟩:=qs;simp only at ai aO HC;have az:Y (∀u∈([I (Aa C.1),I (Aa C.2)]:A Aj),u.oneCell'=true):=by
       intro u hu;simp only[En,Ge,Mn] at hu;rcases hu with rfl | rfl <;> rfl
      have aB:Y (Z b+1<=Bh):=by show _<=_;unfold Bh;omega
      go_wp2
      go_region_law (first | (refine Ii _ rfl (.tmp 44) (.tmp 48) 211 rfl w.heap.size 280 is _ 2 32 underlying211 si cU cV cW rfl (by decide) _ _ _ (by simp[Im]) (Ao o.o _) ⟨N.heap.size,0,S⟩ 1 1 [I (Aa C.1),I (Aa C.2)] (by simp[Im]) rfl aE.o az.o (by decide) aB.o (by omega) aA.o (N.heap.size+1) aH.o ?_;intro g9 y w9 an d bB bE;have ae:∀k,(X ab (Z b) ad).ownBlock=V k->w.heap.size<=k:=fun k hk=>(An o.o k hk).1;have J9:Y (PInv w9 rb s p2):=(JN.o.keep (Ac _ _ _)).away d (fun k hk=>by { have h1:=ae k hk;omega });have C9:Y (w.grownBy w9 (V rb)):=qI (zD CN.o (Ac _ _ _)) d ae;have aI:Y (w9.heap[w.heap.size]?=V Fp0):=zw (zE al.o (Ac _ _ S)) d (fun k hk=>zI al.o o.o (by decide) k hk);have q:Y (w9.heap[w3.heap.size]?=V (Ae #[O Ai F,I (Aa z),X Q (Z f) aa,X ta (Z tl) tc,I (Aa H),X ab (Z b) ad,X S 0 0] 213)):=zw (zE i.o (Ac _ _ S)) d (fun k hk=>zI i.o o.o (by decide) k hk);have aj:Y (w9.ownsRow w.heap.size 280 2 (X (V ⟨g9,0,S⟩) (Z b+1) y) (Z (b++[C])) (zi (b++[C]))):=by { show Ib _ _ _ _ _ _ _;rw[yW,Ah];exact an };have av:Y _:=zK (Ao aw.o _) d (qB o.o aw.o);have ax:Y _:=zK (Ao ay.o _) d (qB o.o ay.o);have q9:=cbi 5 q.o;have bH:=zm9 5 q.o;clear an d ae) | (go_simp;go_at_call 274;refine(HC.o _ (zV au)).mono ?_;rintro e N ⟨rfl,IN,am⟩;have GN:au.grownBy N (V rb):=zD (zT (zV au) _) am;have JN:Y (PInv N rb s p2):=IN;have CN:=J (zD aT.o GN);have sN:au.heap.size<=N.heap.size:=GN.size;have al:=J (zE bn.o GN);have i:=J (zE x.o GN);have o:Y _:=zQ aX.o GN;have aw:Y _:=zQ a8.o GN;have ay:Y _:=zQ bh.o GN;have bQ:=cbi 0 i.o;have bR:=cbi 1 i.o;have bS:=cbi 2 i.o;have bT:=cbi 3 i.o;have bU:=cbi 4 i.o;have bV:=cbi 5 i.o;have bW:=cbi 6 i.o;have bX:=zO i.o;have bN:=zO JN.o.rd;have aE:Y (∀j u,([I (Aa C.1),I (Aa C.2)]:A Aj)[j]?=V u->(N.alloc (Fp1 C.1 C.2)).cell? ((⟨N.heap.size,0,S⟩:Addr).add j)=V u):=zZ N #[_,_] _ _ rfl;have aA:Y (w.heap.size<=(N.alloc (Fp1 C.1 C.2)).heap.size):=by { show _<=_;rw[show(N.alloc (Fp1 C.1 C.2)).heap.size=N.heap.size+1 from by simp];omega };have aH:Y ((N.alloc (Fp1 C.1 C.2)).heap.size=N.heap.size+1):=by { show _=_;simp };clear IN am GN))
      all_goals
       have gS:=zF w9 w3.heap.size 5 (X (V ⟨g9,0,S⟩) (Z b+1) y);have JS:Y _:=J9.o.other gS (by omega);have CS:=J (ze C9.o gS);have aJ:=J (zE aI.o gS);have aM:Y ((w9.setCell ⟨w3.heap.size,5,S⟩ (X (V ⟨g9,0,S⟩) (Z b+1) y)).heap[w3.heap.size]?=V (Ae #[O Ai F,I (Aa z),X Q (Z f) aa,X ta (Z tl) tc,I (Aa H),X (V ⟨g9,0,S⟩) (Z b+1) y,X S 0 0] 213)):=zH q.o _;have aF:Y _:=zJ aj.o gS (zI q.o aj.o);have aU:Y _:=zJ av.o gS (zI q.o av.o);have aZ:Y _:=zJ ax.o gS (zI q.o ax.o);have aD:Y (atOf (w9.setCell ⟨w3.heap.size,5,S⟩ (X (V ⟨g9,0,S⟩) (Z b+1) y)) rb=p2.tok.at_):=jg JS.o;have aC:Y (atOf wr rb=ps.tok.at_):=jg IR.o;have bC:=JS.o.bd;go_wp2
       go_roundw
       ·exact⟨n,b++[C],p2,_,by rw[Ah];simp;omega,by omega,by omega,ai,JS,CS,aJ,aM,aF,aU,aZ⟩
       ·rw[aD.o,aC.o];omega
   ·rw[hch] at aQ
    simp only[Gq] at aQ;go_wp2_with fail;refine(ly cE.o _).mono ?_;rintro e aR ⟨rfl,cB,cQ⟩;have ce:=J cB;have a5:Y (bY.grownBy aR (V rb)):=cQ;have cY:=J (zD cu.o a5.o);have dg:=J (zE cH.o a5.o);have bo:=J (zE cJ.o a5.o);have cw:Y _:=zQ cv.o a5.o;have cA:Y _:=zQ cz.o a5.o;rw[show(⟨#[114,101,112,108,97,99,101]⟩:As).data.toList=qK from rfl,<-aQ.o] at ce;rw[show(⟨#[114,101,112,108,97,99,101]⟩:As).data.toList=qK from rfl,<-aQ.o];simp only at ce ⊢;have dR:=cbi 4 bo.o;have dS:=zm9 4 bo.o;go_wp2_with fail;have cF:Y _:=ce.o.other (zF aR w3.heap.size 4 (I (Aa H))) (by omega);have cZ:=J (ze cY.o (zF aR w3.heap.size 4 (I (Aa H))));have dh:=J (zE dg.o (zF aR w3.heap.size 4 (I (Aa H))));have dn:Y ((Bs aR ⟨w3.heap.size,4,S⟩ (I (Aa H))).heap[w3.heap.size]?=V (Ae #[O Ai F,I (Aa z),X Q (Z f) aa,X ta (Z tl) tc,I (Aa H),X S 0 0,X S 0 0] 213)):=zH bo.o (I (Aa H));have c4:Y _:=zJ cw.o (zF aR w3.heap.size 4 (I (Aa H))) (zI bo.o cw.o);have c8:Y _:=zJ cA.o (zF aR w3.heap.size 4 (I (Aa H))) (zI bo.o cA.o);generalize(Bs aR ⟨w3.heap.size,4,S⟩ (I (Aa H)))=wEmy2 at*;generalize br:qk s.data.toList (Z s.data.toList+1) sC []=Qs at*;have b9:=J br;have dq:=cF.o.bd
    go_loopw [] (fun wr=>∃(n:Ad) (acc:A (A Ab×A Ab)) (p:P.St) (vL:Aj),Z acc<=p.tok.at_/\p.tok.at_<=s.size/\s.size<n+p.tok.at_/\Y (qk s.data.toList n p acc=Qs)/\Y (PInv wr rb s p)/\Y (w.grownBy wr (V rb))/\Y (wr.heap[w.heap.size]?=V Fp0)/\Y (wr.heap[w3.heap.size]?=V (Ae #[O Ai F,I (Aa z),X Q (Z f) aa,X ta (Z tl) tc,I (Aa H),vL,X S 0 0] 213))/\Y (wr.ownsRow w.heap.size 280 2 vL (Z acc) (zi acc))/\Y (wr.ownsRow w.heap.size 276 3 (X Q (Z f) aa) (Z f) (xe f))/\Y (wr.ownsRow w.heap.size 285 2 (X ta (Z tl) tc) (Z tl) (zx tl))) (fun wr=>s.size+1 - atOf wr rb)
    ·exact⟨Z s.data.toList+1,[],sC,_,Ax _,by omega,by rw[Cp];omega,b9.o,cF,cZ,dh.o,dn.o,Bk _ _ _ _,c4.o,c8.o⟩
    ·
     obtain⟨n,b,ps,vL,bA,bG,bF,HL,IR,CR,aK,aN,ak,aV,a0⟩:=hrel;obtain⟨n,rfl⟩:∃m,n=m+1:=⟨n - 1,by omega⟩;have r:=HL.o;rw[qk] at r;obtain⟨ab,ad,rfl⟩:=zL ak.o;go_wp2_with fail;refine(vN IR.o _).mono ?_;rintro e au ⟨rfl,a2⟩;have bu:=zT a2 (V rb);have bl:Y _:=(IR.o).keep a2;have ao:Y (wr.grownBy au (V rb)):=bu;have aT:=J (zD CR.o ao.o);have dL:=aT.o.size;have bn:=J (zE aK.o ao.o);have x:=J (zE aN.o ao.o);have aX:Y _:=zQ ak.o ao.o;have a8:Y _:=zQ aV.o ao.o;have bh:Y _:=zQ a0.o ao.o;rw[show(⟨#[115,101,116]⟩:As).data.toList=xX from rfl]
     cases hgo:qH ps xX
     ·rw[hgo] at r
      simp only[Ct,Gj] at r;have b2:Y (Qs=(b,ps)):=r.symm;have aG:Y (res=(⟨F,z,f,tl,H,b,(qf s.data.toList (b.map Bq) (Z s.data.toList+1) ps []).1⟩,zS s.data.toList (qf s.data.toList (b.map Bq) (Z s.data.toList+1) ps []).2 [125])):=by
       show _=_;rw[ba.o,b2.o];rfl
      generalize bq:qf s.data.toList (b.map Bq) (Z s.data.toList+1) ps []=Qd at*;have b8:=J bq;have bw:Z b<=2000000000000:=by omega
      have b4:=J bw;have ca:=J aX;go_wp2_with fail
      go_loopw [] (fun wr=>∃(n:Ad) (acc:A (A Ab)) (p:P.St) (vL:Aj),Z acc<=p.tok.at_/\p.tok.at_<=s.size/\s.size<n+p.tok.at_/\Y (qf s.data.toList (b.map Bq) n p acc=Qd)/\Y (PInv wr rb s p)/\Y (w.grownBy wr (V rb))/\Y (wr.heap[w.heap.size]?=V Fp0)/\Y (wr.heap[w3.heap.size]?=V (Ae #[O Ai F,I (Aa z),X Q (Z f) aa,X ta (Z tl) tc,I (Aa H),X ab (Z b) ad,vL] 213))/\Y (wr.ownsRow w.heap.size 9 1 vL (Z acc) (zY acc))/\Y (wr.ownsRow w.heap.size 276 3 (X Q (Z f) aa) (Z f) (xe f))/\Y (wr.ownsRow w.heap.size 285 2 (X ta (Z tl) tc) (Z tl) (zx tl))/\Y (wr.ownsRow w.heap.size 280 2 (X ab (Z b) ad) (Z b) (zi b))) (fun wr=>s.size+1 - atOf wr rb)
      ·exact⟨Z s.data.toList+1,[],ps,_,Ax _,by omega,by rw[Cp];omega,b8.o,bl,aT,bn.o,x.o,Bk _ _ _ _,a8.o,bh.o,ca.o⟩
      ·
       obtain⟨n,l,pd,vL,bA,bG,bF,HL,IR,CR,aK,aN,ak,aV,a0,cc⟩:=hrel;obtain⟨n,rfl⟩:∃m,n=m+1:=⟨n - 1,by omega⟩;have r:=HL.o;rw[qf] at r;obtain⟨aq,ar,rfl⟩:=zL ak.o;go_wp2_with fail;refine(vN IR.o _).mono ?_;rintro e ah ⟨rfl,a1⟩;have bt:=zT a1 (V rb);have bk:Y _:=(IR.o).keep a1;have ag:Y (wr.grownBy ah (V rb)):=bt;have aS:=J (zD CR.o ag.o);have dK:=aS.o.size;have bm:=J (zE aK.o ag.o);have t:=J (zE aN.o ag.o);have aW:Y _:=zQ ak.o ag.o;have a7:Y _:=zQ aV.o ag.o;have bg:Y _:=zQ a0.o ag.o;have aY:Y _:=zQ cc.o ag.o;rw[show(⟨#[100,114,111,112]⟩:As).data.toList=qy from rfl]
       cases hgo:qH pd qy
       ·rw[hgo] at r
        simp only[Ct,Gj] at r;have b1:Y (Qd=(l,pd)):=r.symm;rw[b1.o] at aG;simp only at aG;go_wp2_with fail;refine(y8 bk.o _).mono ?_;rintro e bx ⟨rfl,bi,bs⟩;have bj:=J bi;have af:Y (ah.grownBy bx (V rb)):=bs;have bZ:=J (zD aS.o af.o);have g:=J (zE bm.o af.o);have E:=J (zE t.o af.o);have a9:Y _:=zQ aW.o af.o;have a6:Y _:=zQ a7.o af.o;have bf:Y _:=zQ bg.o af.o;have bc:Y _:=zQ aY.o af.o;rw[show(⟨#[125]⟩:As).data.toList=[125] from rfl] at bj;have dv:=cbi 0 E.o;have dw:=cbi 1 E.o;have dx:=cbi 2 E.o;have dy:=cbi 3 E.o;have dz:=cbi 4 E.o;have dA:=cbi 5 E.o;have dB:=cbi 6 E.o;have cm:=cbi 0 g.o;have dC:=zm9 0 g.o;have cn:=cbi 1 g.o;have dD:=zm9 1 g.o;have co:=cbi 2 g.o;have dE:=zm9 2 g.o;have cp:=cbi 3 g.o;have dF:=zm9 3 g.o;have cq:=cbi 4 g.o;have dH:=zm9 4 g.o;have cr:=cbi 5 g.o;have dI:=zm9 5 g.o;have ct:=cbi 6 g.o;have dJ:=zm9 6 g.o;go_wp2;have ap:=zD (zD (zD (zD (zD (zD (zF bx w.heap.size 0 (O Ai F)) (zF _ w.heap.size 1 (I (Aa z)))) (zF _ w.heap.size 2 (X Q (Z f) aa))) (zF _ w.heap.size 3 (X ta (Z tl) tc))) (zF _ w.heap.size 4 (I (Aa H)))) (zF _ w.heap.size 5 (X ab (Z b) ad))) (zF _ w.heap.size 6 (X aq (Z l) ar));refine Et (v:=.agg #[O Ai F,I (Aa z),X Q (Z f) aa,X ta (Z tl) tc,I (Aa H),X ab (Z b) ad,X aq (Z l) ar]) (by simp[results,results208,go_sem,cm,cn,co,cp,cq,cr,ct]) rfl ⟨[O Ai F,I (Aa z),X Q (Z f) aa,X ta (Z tl) tc,I (Aa H),X ab (Z b) ad,X aq (Z l) ar],rfl,?_,ze bZ.o ap (Aq _),?_⟩
        ·rw[aG.o];exact bj.o.other ap (by omega)
        ·rw[aG.o]
         refine⟨_,_,_,_,rfl,?_,?_,?_,?_⟩
         ·exact zJ (zo a6.o (Ax _)) ap (fun k hk=>zI g.o a6.o (by decide) k hk)
         ·exact zJ (zo bf.o (Ax _)) ap (fun k hk=>zI g.o bf.o (by decide) k hk)
         ·exact zJ (zo bc.o (Ax _)) ap (fun k hk=>zI g.o bc.o (by decide) k hk)
         ·exact zJ (zo a9.o (Ax _)) ap (fun k hk=>zI g.o a9.o (by decide) k hk)
       ·rw[hgo] at r
        simp only[Gq] at r;have aO:=dG s.data.toList pd (Z l) (b.map Bq++l) hgo;have ai:=J r;have bI:=cbi 0 t.o;have bJ:=cbi 1 t.o;have bK:=cbi 2 t.o;have bL:=cbi 3 t.o;have bM:=cbi 4 t.o;have bO:=cbi 5 t.o;have bP:=cbi 6 t.o;have HC:Y (∀w',ah.grownBy w' S->Am prog 275 #[Al (V ⟨rb,0,S⟩),Fe #[O Ai F,I (Aa z),X Q (Z f) aa,X ta (Z tl) tc,I (Aa H),X ab (Z b) ad,X aq (Z l) ar]] w' fun e w''=>e=Af (I (Aa (xO s.data.toList pd (Z l) (b.map Bq++l)).1))/\PInv w'' rb s (xO s.data.toList pd (Z l) (b.map Bq++l)).2/\w'.grownBy w'' (V rb)):=fun w' hg=>lp (bk.o.keep hg) _ _ _ _ _ _ _ b l (zo (zK aY.o hg (fun _ _=>by simp)) (Ax _)) (zo (zK aW.o hg (fun _ _=>by simp)) (Ax _)) b4.o (by omega)
        generalize xO s.data.toList pd (Z l) (b.map Bq++l)=qs at*;obtain⟨C,p2⟩:=qs;simp only at ai aO HC;have az:Y (∀u∈([I (Aa C)]:A Aj),u.oneCell'=true):=by
         intro u hu;simp only[En,Ge,Mn] at hu;subst hu;rfl
        have aB:Y (Z l+1<=Bh):=by show _<=_;unfold Bh;omega
        go_wp2
        go_region_law (first | (refine Ii _ rfl (.tmp 54) (.tmp 58) 22 rfl w.heap.size 9 id _ 1 16 underlying22 di cK cL cM rfl (by decide) _ _ _ (by simp[Im]) (Ao o.o _) ⟨N.heap.size,0,S⟩ 1 1 [I (Aa C)] (by simp[Im]) rfl aE.o az.o (by decide) aB.o (by omega) aA.o (N.heap.size+1) aH.o ?_;intro g9 y w9 an d bB bE;have ae:∀k,(X aq (Z l) ar).ownBlock=V k->w.heap.size<=k:=fun k hk=>(An o.o k hk).1;have J9:Y (PInv w9 rb s p2):=(JN.o.keep (Ac _ _ _)).away d (fun k hk=>by { have h1:=ae k hk;omega });have C9:Y (w.grownBy w9 (V rb)):=qI (zD CN.o (Ac _ _ _)) d ae;have aI:Y (w9.heap[w.heap.size]?=V Fp0):=zw (zE al.o (Ac _ _ S)) d (fun k hk=>zI al.o o.o (by decide) k hk);have q:Y (w9.heap[w3.heap.size]?=V (Ae #[O Ai F,I (Aa z),X Q (Z f) aa,X ta (Z tl) tc,I (Aa H),X ab (Z b) ad,X aq (Z l) ar] 213)):=zw (zE i.o (Ac _ _ S)) d (fun k hk=>zI i.o o.o (by decide) k hk);have aj:Y (w9.ownsRow w.heap.size 9 1 (X (V ⟨g9,0,S⟩) (Z l+1) y) (Z (l++[C])) (zY (l++[C]))):=by { show Ib _ _ _ _ _ _ _;rw[xl,Ah];exact an };have av:Y _:=zK (Ao aw.o _) d (qB o.o aw.o);have ax:Y _:=zK (Ao ay.o _) d (qB o.o ay.o);have bb:Y _:=zK (Ao be.o _) d (qB o.o be.o);have q9:=cbi 6 q.o;have bH:=zm9 6 q.o;clear an d ae) | (go_simp;go_at_call 275;refine(HC.o _ (zV ah)).mono ?_;rintro e N ⟨rfl,IN,am⟩;have GN:ah.grownBy N (V rb):=zD (zT (zV ah) _) am;have JN:Y (PInv N rb s p2):=IN;have CN:=J (zD aS.o GN);have sN:ah.heap.size<=N.heap.size:=GN.size;have al:=J (zE bm.o GN);have i:=J (zE t.o GN);have o:Y _:=zQ aW.o GN;have aw:Y _:=zQ a7.o GN;have ay:Y _:=zQ bg.o GN;have be:Y _:=zQ aY.o GN;have bQ:=cbi 0 i.o;have bR:=cbi 1 i.o;have bS:=cbi 2 i.o;have bT:=cbi 3 i.o;have bU:=cbi 4 i.o;have bV:=cbi 5 i.o;have bW:=cbi 6 i.o;have bX:=zO i.o;have bN:=zO JN.o.rd;have aE:Y (∀j u,([I (Aa C)]:A Aj)[j]?=V u->(N.alloc (Ae #[I (Aa C)] 9)).cell? ((⟨N.heap.size,0,S⟩:Addr).add j)=V u):=zZ N #[_] _ _ rfl;have aA:Y (w.heap.size<=(N.alloc (Ae #[I (Aa C)] 9)).heap.size):=by { show _<=_;rw[show(N.alloc (Ae #[I (Aa C)] 9)).heap.size=N.heap.size+1 from by simp];omega };have aH:Y ((N.alloc (Ae #[I (Aa C)] 9)).heap.size=N.heap.size+1):=by { show _=_;simp };clear IN am GN))
        all_goals
         have gS:=zF w9 w3.heap.size 6 (X (V ⟨g9,0,S⟩) (Z l+1) y);have JS:Y _:=J9.o.other gS (by omega);have CS:=J (ze C9.o gS);have aJ:=J (zE aI.o gS);have aM:Y ((w9.setCell ⟨w3.heap.size,6,S⟩ (X (V ⟨g9,0,S⟩) (Z l+1) y)).heap[w3.heap.size]?=V (Ae #[O Ai F,I (Aa z),X Q (Z f) aa,X ta (Z tl) tc,I (Aa H),X ab (Z b) ad,X (V ⟨g9,0,S⟩) (Z l+1) y] 213)):=zH q.o _;have aF:Y _:=zJ aj.o gS (zI q.o aj.o);have aU:Y _:=zJ av.o gS (zI q.o av.o);have aZ:Y _:=zJ ax.o gS (zI q.o ax.o);have cb:Y _:=zJ bb.o gS (zI q.o bb.o);have aD:Y (atOf (w9.setCell ⟨w3.heap.size,6,S⟩ (X (V ⟨g9,0,S⟩) (Z l+1) y)) rb=p2.tok.at_):=jg JS.o;have aC:Y (atOf wr rb=pd.tok.at_):=jg IR.o;have bC:=JS.o.bd;go_wp2
         go_roundw
         ·exact⟨n,l++[C],p2,_,by rw[Ah];simp;omega,by omega,by omega,ai,JS,CS,aJ,aM,aF,aU,aZ,cb⟩
         ·rw[aD.o,aC.o];omega
     ·rw[hgo] at r
      simp only[Gq] at r;have aO:=mK s.data.toList ps (Z b) (b.map Bq) hgo;have ai:=J r;have bI:=cbi 0 x.o;have bJ:=cbi 1 x.o;have bK:=cbi 2 x.o;have bL:=cbi 3 x.o;have bM:=cbi 4 x.o;have bO:=cbi 5 x.o;have bP:=cbi 6 x.o;have HC:Y (∀w',au.grownBy w' S->Am prog 274 #[Al (V ⟨rb,0,S⟩),Fe #[O Ai F,I (Aa z),X Q (Z f) aa,X ta (Z tl) tc,I (Aa H),X ab (Z b) ad,X S 0 0]] w' fun e w''=>e=Af (Fe #[I (Aa (xj s.data.toList ps (Z b) (b.map Bq)).1.1),I (Aa (xj s.data.toList ps (Z b) (b.map Bq)).1.2)])/\PInv w'' rb s (xj s.data.toList ps (Z b) (b.map Bq)).2/\w'.grownBy w'' (V rb)):=fun w' hg=>by
       have:=zd9 (bl.o.keep hg) (O Ai F) (I (Aa z)) (X Q (Z f) aa) (X ta (Z tl) tc) (I (Aa H)) (X ab (Z b) ad) (X S 0 0) b [] (zo (zK aX.o hg (fun _ _=>by simp)) (Ax _)) (Bk _ _ _ _) (by omega) (by simp);rw[Cv] at this;exact this
      generalize xj s.data.toList ps (Z b) (b.map Bq)=qs at*;obtain⟨C,p2⟩:=qs;simp only at ai aO HC;have az:Y (∀u∈([I (Aa C.1),I (Aa C.2)]:A Aj),u.oneCell'=true):=by
       intro u hu;simp only[En,Ge,Mn] at hu;rcases hu with rfl | rfl <;> rfl
      have aB:Y (Z b+1<=Bh):=by show _<=_;unfold Bh;omega
      go_wp2
      go_region_law (first | (refine Ii _ rfl (.tmp 44) (.tmp 48) 211 rfl w.heap.size 280 is _ 2 32 underlying211 si cU cV cW rfl (by decide) _ _ _ (by simp[Im]) (Ao o.o _) ⟨N.heap.size,0,S⟩ 1 1 [I (Aa C.1),I (Aa C.2)] (by simp[Im]) rfl aE.o az.o (by decide) aB.o (by omega) aA.o (N.heap.size+1) aH.o ?_;intro g9 y w9 an d bB bE;have ae:∀k,(X ab (Z b) ad).ownBlock=V k->w.heap.size<=k:=fun k hk=>(An o.o k hk).1;have J9:Y (PInv w9 rb s p2):=(JN.o.keep (Ac _ _ _)).away d (fun k hk=>by { have h1:=ae k hk;omega });have C9:Y (w.grownBy w9 (V rb)):=qI (zD CN.o (Ac _ _ _)) d ae;have aI:Y (w9.heap[w.heap.size]?=V Fp0):=zw (zE al.o (Ac _ _ S)) d (fun k hk=>zI al.o o.o (by decide) k hk);have q:Y (w9.heap[w3.heap.size]?=V (Ae #[O Ai F,I (Aa z),X Q (Z f) aa,X ta (Z tl) tc,I (Aa H),X ab (Z b) ad,X S 0 0] 213)):=zw (zE i.o (Ac _ _ S)) d (fun k hk=>zI i.o o.o (by decide) k hk);have aj:Y (w9.ownsRow w.heap.size 280 2 (X (V ⟨g9,0,S⟩) (Z b+1) y) (Z (b++[C])) (zi (b++[C]))):=by { show Ib _ _ _ _ _ _ _;rw[yW,Ah];exact an };have av:Y _:=zK (Ao aw.o _) d (qB o.o aw.o);have ax:Y _:=zK (Ao ay.o _) d (qB o.o ay.o);have q9:=cbi 5 q.o;have bH:=zm9 5 q.o;clear an d ae) | (go_simp;go_at_call 274;refine(HC.o _ (zV au)).mono ?_;rintro e N ⟨rfl,IN,am⟩;have GN:au.grownBy N (V rb):=zD (zT (zV au) _) am;have JN:Y (PInv N rb s p2):=IN;have CN:=J (zD aT.o GN);have sN:au.heap.size<=N.heap.size:=GN.size;have al:=J (zE bn.o GN);have i:=J (zE x.o GN);have o:Y _:=zQ aX.o GN;have aw:Y _:=zQ a8.o GN;have ay:Y _:=zQ bh.o GN;have bQ:=cbi 0 i.o;have bR:=cbi 1 i.o;have bS:=cbi 2 i.o;have bT:=cbi 3 i.o;have bU:=cbi 4 i.o;have bV:=cbi 5 i.o;have bW:=cbi 6 i.o;have bX:=zO i.o;have bN:=zO JN.o.rd;have aE:Y (∀j u,([I (Aa C.1),I (Aa C.2)]:A Aj)[j]?=V u->(N.alloc (Fp1 C.1 C.2)).cell? ((⟨N.heap.size,0,S⟩:Addr).add j)=V u):=zZ N #[_,_] _ _ rfl;have aA:Y (w.heap.size<=(N.alloc (Fp1 C.1 C.2)).heap.size):=by { show _<=_;rw[show(N.alloc (Fp1 C.1 C.2)).heap.size=N.heap.size+1 from by simp];omega };have aH:Y ((N.alloc (Fp1 C.1 C.2)).heap.size=N.heap.size+1):=by { show _=_;simp };clear IN am GN))
      all_goals
       have gS:=zF w9 w3.heap.size 5 (X (V ⟨g9,0,S⟩) (Z b+1) y);have JS:Y _:=J9.o.other gS (by omega);have CS:=J (ze C9.o gS);have aJ:=J (zE aI.o gS);have aM:Y ((w9.setCell ⟨w3.heap.size,5,S⟩ (X (V ⟨g9,0,S⟩) (Z b+1) y)).heap[w3.heap.size]?=V (Ae #[O Ai F,I (Aa z),X Q (Z f) aa,X ta (Z tl) tc,I (Aa H),X (V ⟨g9,0,S⟩) (Z b+1) y,X S 0 0] 213)):=zH q.o _;have aF:Y _:=zJ aj.o gS (zI q.o aj.o);have aU:Y _:=zJ av.o gS (zI q.o av.o);have aZ:Y _:=zJ ax.o gS (zI q.o ax.o);have aD:Y (atOf (w9.setCell ⟨w3.heap.size,5,S⟩ (X (V ⟨g9,0,S⟩) (Z b+1) y)) rb=p2.tok.at_):=jg JS.o;have aC:Y (atOf wr rb=ps.tok.at_):=jg IR.o;have bC:=JS.o.bd;go_wp2
       go_roundw
       ·exact⟨n,b++[C],p2,_,by rw[Ah];simp;omega,by omega,by omega,ai,JS,CS,aJ,aM,aF,aU,aZ⟩
       ·rw[aD.o,aC.o];omega
  ·rw[hgo] at r
   simp only[Gq] at r;have aO:=mI s.data.toList pm (Z f) hgo;have ai:=J r;have bI:=cbi 0 aL.o;have bJ:=cbi 1 aL.o;have bK:=cbi 2 aL.o;have bL:=cbi 3 aL.o;have bM:=cbi 4 aL.o;have bO:=cbi 5 aL.o;have bP:=cbi 6 aL.o;have HC:Y (∀w',a3.grownBy w' S->Am prog 272 #[Al (V ⟨rb,0,S⟩),O Ai (Z f)] w' fun e w''=>e=Af (Fe #[I (Aa (qo s.data.toList pm (Z f)).1.name),Av (qo s.data.toList pm (Z f)).1.ask,I (Aa (qo s.data.toList pm (Z f)).1.val)])/\PInv w'' rb s (qo s.data.toList pm (Z f)).2/\w'.grownBy w'' (V rb)):=fun w' hg=>zfA (cG.o.keep hg) (Z f)
   generalize qo s.data.toList pm (Z f)=qs at*;obtain⟨C,p2⟩:=qs;simp only at ai aO HC;have az:Y (∀u∈([I (Aa C.name),Av C.ask,I (Aa C.val)]:A Aj),u.oneCell'=true):=by
    intro u hu;simp only[En,Ge,Mn] at hu;rcases hu with rfl | rfl | rfl <;> rfl
   have aB:Y (Z f+1<=Bh):=by show _<=_;unfold Bh;omega
   go_wp2
   go_region_law (first | (refine Ii _ rfl (.tmp 24) (.tmp 30) 209 rfl w.heap.size 276 im _ 3 40 underlying209 mi ds dt du rfl (by decide) _ _ _ (by simp[Im]) (Ao o.o _) ⟨N.heap.size,0,S⟩ 1 1 [I (Aa C.name),Av C.ask,I (Aa C.val)] (by simp[Im]) rfl aE.o az.o (by decide) aB.o (by omega) aA.o (N.heap.size+1) aH.o ?_;intro g9 y w9 an d bB bE;have ae:∀k,(X Q (Z f) aa).ownBlock=V k->w.heap.size<=k:=fun k hk=>(An o.o k hk).1;have J9:Y (PInv w9 rb s p2):=(JN.o.keep (Ac _ _ _)).away d (fun k hk=>by { have h1:=ae k hk;omega });have C9:Y (w.grownBy w9 (V rb)):=qI (zD CN.o (Ac _ _ _)) d ae;have aI:Y (w9.heap[w.heap.size]?=V Fp0):=zw (zE al.o (Ac _ _ S)) d (fun k hk=>zI al.o o.o (by decide) k hk);have q:Y (w9.heap[w3.heap.size]?=V (Ae #[O Ai F,I (Aa z),X Q (Z f) aa,X S 0 0,I ⟨#[]⟩,X S 0 0,X S 0 0] 213)):=zw (zE i.o (Ac _ _ S)) d (fun k hk=>zI i.o o.o (by decide) k hk);have aj:Y (w9.ownsRow w.heap.size 276 3 (X (V ⟨g9,0,S⟩) (Z f+1) y) (Z (f++[C])) (xe (f++[C]))):=by { show Ib _ _ _ _ _ _ _;rw[fH,Ah];exact an };have q9:=cbi 2 q.o;have bH:=zm9 2 q.o;clear an d ae) | (go_simp;go_at_call 272;refine(HC.o _ (zV a3)).mono ?_;rintro e N ⟨rfl,IN,am⟩;have GN:a3.grownBy N (V rb):=zD (zT (zV a3) _) am;have JN:Y (PInv N rb s p2):=IN;have CN:=J (zD b0.o GN);have sN:a3.heap.size<=N.heap.size:=GN.size;have al:=J (zE cI.o GN);have i:=J (zE aL.o GN);have o:Y _:=zQ cy.o GN;have bQ:=cbi 0 i.o;have bR:=cbi 1 i.o;have bS:=cbi 2 i.o;have bT:=cbi 3 i.o;have bU:=cbi 4 i.o;have bV:=cbi 5 i.o;have bW:=cbi 6 i.o;have bX:=zO i.o;have bN:=zO JN.o.rd;have aE:Y (∀j u,([I (Aa C.name),Av C.ask,I (Aa C.val)]:A Aj)[j]?=V u->(N.alloc (Fp2 C.name C.ask C.val)).cell? ((⟨N.heap.size,0,S⟩:Addr).add j)=V u):=zZ N #[_,_,_] _ _ rfl;have aA:Y (w.heap.size<=(N.alloc (Fp2 C.name C.ask C.val)).heap.size):=by { show _<=_;rw[show(N.alloc (Fp2 C.name C.ask C.val)).heap.size=N.heap.size+1 from by simp];omega };have aH:Y ((N.alloc (Fp2 C.name C.ask C.val)).heap.size=N.heap.size+1):=by { show _=_;simp };clear IN am GN))
   all_goals
    have gS:=zF w9 w3.heap.size 2 (X (V ⟨g9,0,S⟩) (Z f+1) y);have JS:Y _:=J9.o.other gS (by omega);have CS:=J (ze C9.o gS);have aJ:=J (zE aI.o gS);have aM:Y ((w9.setCell ⟨w3.heap.size,2,S⟩ (X (V ⟨g9,0,S⟩) (Z f+1) y)).heap[w3.heap.size]?=V (Ae #[O Ai F,I (Aa z),X (V ⟨g9,0,S⟩) (Z f+1) y,X S 0 0,I ⟨#[]⟩,X S 0 0,X S 0 0] 213)):=zH q.o _;have aF:Y _:=zJ aj.o gS (zI q.o aj.o);have aD:Y (atOf (w9.setCell ⟨w3.heap.size,2,S⟩ (X (V ⟨g9,0,S⟩) (Z f+1) y)) rb=p2.tok.at_):=jg JS.o;have aC:Y (atOf wr rb=pm.tok.at_):=jg IR.o;have bC:=JS.o.bd;go_wp2
    go_roundw
    ·exact⟨n,f++[C],p2,_,by rw[Ah];simp;omega,by omega,by omega,ai,JS,CS,aJ,aM,aF⟩
    ·rw[aD.o,aC.o];omega
theorem iy:(prog.info? 213).map (fun i=>(i.zero,i.size,i.bytes))=V (V (Fe #[O Ai 0,I ⟨#[]⟩,X S 0 0,X S 0 0,I ⟨#[]⟩,X S 0 0,X S 0 0]),7,136):=by kernel_rfl
variable {v:Aj}
theorem uU {b:A P.Rl}(h:PRulesRow w B v b):∃a c,v=X a (Z b) c:=by obtain⟨d,f,_⟩:=h;exact zL f
theorem ziC (w:Ag)(B:Ad):PRulesRow w B (X S 0 0) []:=⟨[],Bk _ _ _ _,.nil⟩
theorem zi5 (h:PInv w rb s st)(B:Ad)(v:Aj)(y:A P.Hst)(hR:PHostsRow w B v y)(hn:Z y<=2000000000000)(hG:Glob w)(ay:rb≠0):Am prog 148 #[Al (V ⟨rb,0,S⟩),v] w fun e w'=>∃vR,e=Af (Fe #[I (Aa (xP s.data.toList st (y.map P.Hst.name)).1.name),vR])/\PInv w' rb s (xP s.data.toList st (y.map P.Hst.name)).2/\w.grownBy w' (V rb)/\PRulesRow w' w.heap.size vR (xP s.data.toList st (y.map P.Hst.name)).1.rules:=by
 obtain⟨i0,hi,aZ,a0,a1⟩:=Ej iy;have HP:Y (xP s.data.toList st (y.map P.Hst.name)=eu s.data.toList (kg s.data.toList st (y.map P.Hst.name))):=rfl;have HA:Y (kg s.data.toList st (y.map P.Hst.name)=x8 s.data.toList (zS s.data.toList (zy st (Z y) 4) Hy) (y.map P.Hst.name)):=by show _=_;unfold kg;rw[Bv]
 have H0:=J h;have a5:=zO h.rd;have a9:=h.len;have HR:=J (hR);have HN:=J hn;have HG:=J (hG);obtain⟨va,vc,rfl⟩:∃a c,v=X a (Z y) c:=by obtain⟨css,h1,_⟩:=hR;exact zL h1
 generalize xP s.data.toList st (y.map P.Hst.name)=res at*;go_in;have C0:Y (w.grownBy w (V rb)):=zP _ _;go_wp2_with fail;refine(vq (H0.o.keep (Ac _ _ _)) _ _).mono ?_;rintro e w1 ⟨rfl,I1,af⟩;have J1:=J I1;have s1:w.heap.size+1<=w1.heap.size:=by have h:=af.size;simpa using h
 have G1:Y (w.grownBy w1 (V rb)):=(zD (Ac _ _ _) af);have C1:=J (zD C0.o G1.o);have aN:Y (w1.heap[w.heap.size]?=V (Ae #[I ⟨#[]⟩,X S 0 0] 146)):=ql af;go_wp2_with fail;refine(y8 J1.o _).mono ?_;rintro e w2 ⟨rfl,I2,aj⟩;have J2:=J I2;have s2:w1.heap.size+0<=w2.heap.size:=by have h:=aj.size;simpa using h
 have G2:=J (aj);have C2:=J (zD C1.o G2.o);have z2:=C2.o.size;have aO:=J (zE aN.o G2.o);rw[show(⟨#[104,111,115,116]⟩:As).data.toList=Hy from rfl] at J2;go_wp2_with fail;refine(aq J2.o B _ y (HR.o.keep C2.o (H0.o.safe (by decide))) HN.o (HG.o.keep C2.o (by simpa using ay)) ay).mono ?_;rintro e w3 ⟨rfl,I3,ak⟩;have J3:=J I3;have b3:=zO J3.o.rd;have s3:w2.heap.size+0<=w3.heap.size:=by have h:=ak.size;simpa using h
 have G3:=J (ak);have C3:=J (zD C2.o G3.o);have z3:=C3.o.size;have aP:=J (zE aO.o G3.o);rw[<-HA.o] at J3;rw[<-HA.o];generalize kg s.data.toList st (y.map P.Hst.name)=qa at*;obtain⟨nm,sA⟩:=qa;simp only at J3 HP ⊢;go_wp2_with fail;refine(y8 (J3.o.keep (Ac _ _ _)) _).mono ?_;rintro e w4 ⟨rfl,I4,al⟩;have J4:=J I4;have G4:Y (w3.grownBy w4 (V rb)):=(zD (Ac _ _ _) al);have C4:=J (zD C3.o G4.o);have aQ:=J (zE aP.o G4.o);have aU:Y (w4.heap[w3.heap.size]?=V (Ae #[I (Aa nm),X S 0 0] 146)):=ql al;have JB:=J (J4);have C:Y (res=(⟨nm,(xB s.data.toList (Z s.data.toList+1) (zS s.data.toList sA [123]) []).1⟩,zS s.data.toList (xB s.data.toList (Z s.data.toList+1) (zS s.data.toList sA [123]) []).2 [125])):=HP.o;generalize zS s.data.toList sA [123]=sB at*;generalize hQ:xB s.data.toList (Z s.data.toList+1) sB []=Q at*;have HQ:=J hQ;have b0:=JB.o.bd;go_wp2_with fail
 go_loopw [] (fun wr=>∃(n:Ad) (f:A P.Rl) (p:P.St) (vL:Aj),Z f<=p.tok.at_/\p.tok.at_<=s.size/\s.size<n+p.tok.at_/\Y (xB s.data.toList n p f=Q)/\Y (PInv wr rb s p)/\Y (w.grownBy wr (V rb))/\Y (wr.heap[w.heap.size]?=V (Ae #[I ⟨#[]⟩,X S 0 0] 146))/\Y (wr.heap[w3.heap.size]?=V (Ae #[I (Aa nm),vL] 146))/\Y (PRulesRow wr w.heap.size vL f)) (fun wr=>s.size+1-atOf wr rb)
 ·exact⟨Z s.data.toList+1,[],sB,_,Ax _,by omega,by rw[Cp];omega,HQ.o,JB,C4,aQ.o,aU.o,ziC _ _⟩
 ·
  obtain⟨n,f,p,vL,a6,bc,bb,HL,IR,CR,aT,aW,HO⟩:=hrel;obtain⟨n,rfl⟩:∃m,n=m+1:=⟨n-1,by omega⟩;have l:=HL.o;rw[xB] at l;obtain⟨la,lc,rfl⟩:=uU HO.o;go_wp2_with fail;refine(vN IR.o _).mono ?_;rintro e aa ⟨rfl,ai⟩;have av:=zT ai (V rb);have ae:Y _:=(IR.o).keep ai;have ad:=J (av);have ag:=J (zD CR.o ad.o);have bn:=ag.o.size;have F:=J (zE aT.o ad.o);have r:=J (zE aW.o ad.o);have ah:=J (HO.o.keep ad.o (IR.o.safe (by decide)));rw[show(⟨#[114,117,108,101]⟩:As).data.toList=qz from rfl]
  cases hgo:qH p qz
  ·rw[hgo] at l
   simp only[Ct,Gj] at l;have HF:Y (Q=(f,p)):=l.symm;rw[HF.o] at C;simp only at C;go_wp2_with fail;refine(y8 ae.o _).mono ?_;rintro e a4 ⟨rfl,ao,au⟩;have ap:=J ao;have ab:=J (au);have az:=J (zD ag.o ab.o);have i:=J (zE F.o ab.o);have H:=J (zE r.o ab.o);rw[show(⟨#[125]⟩:As).data.toList=[125] from rfl] at ap;have aH:=J (ah.o.keep ab.o (ae.o.safe (by decide)));have bj:=cbi 0 H.o;have bk:=cbi 1 H.o;have a2:=cbi 0 i.o;have bl:=zm9 0 i.o;have a3:=cbi 1 i.o;have bm:=zm9 1 i.o;go_wp2;have am:=zD (zF a4 w.heap.size 0 (I (Aa nm))) (zF _ w.heap.size 1 (X la (Z f) lc));refine Et (v:=.agg #[I (Aa nm),X la (Z f) lc]) (by simp[results,results148,go_sem,a2,a3]) rfl ⟨_,by rw[C.o],?_,ze az.o am (Aq _),?_⟩
   ·rw[C.o];exact ap.o.other am (by omega)
   ·rw[C.o];exact aH.o.keep am (xQ i.o)
  ·rw[hgo] at l
   simp only[Gq] at l;have aY:=rG s.data.toList p (f.map P.Rl.number) hgo;have an:=J l;have bf:=cbi 1 r.o;have HC:Y (∀w',aa.grownBy w' S->Am prog 208 #[Al (V ⟨rb,0,S⟩),X la (Z f) lc] w' fun e w''=>∃cs,e=Af (Fe cs.toArray)/\PInv w'' rb s (xI s.data.toList p (f.map P.Rl.number)).2/\w'.grownBy w'' (V rb)/\PRuleVal w'' cs (xI s.data.toList p (f.map P.Rl.number)).1):=fun w' hg=>zi9 (ae.o.keep hg) w.heap.size _ f (ah.o.keep hg (za _ _)) (by omega)
   generalize xI s.data.toList p (f.map P.Rl.number)=qs at*;obtain⟨d,p2⟩:=qs;simp only at an aY HC;have aD:Y (Z f+1<=Bh):=by show _<=_;unfold Bh;omega
   go_wp2
   go_region_law (first|(refine Ii _ rfl (.tmp 21) (.tmp 26) 144 rfl w.heap.size 213 i0 _ 7 136 underlying144 hi aZ a0 a1 rfl (by decide) _ _ _ (by simp[Im]) (Ao E.o _) ⟨o.heap.size,0,S⟩ 1 1 [O Ai d.number,I (Aa d.path),X m1 (Z d.ms) m2,X t1 (Z d.tg) t2,I (Aa d.rep),X x1 (Z d.sets) x2,X d1 (Z d.drops) d2] (by simp[Im]) rfl aG.o aA.o (by decide) aD.o (by omega) aC.o (o.heap.size+1) aM.o ?_;intro g9 x w9 ax g a7 ba;have N:∀k,(X la (Z f) lc).ownBlock=V k->w.heap.size<=k:=fun k hk=>(An E.o k hk).1;have J9:Y (PInv w9 rb s p2):=(JN.o.keep (Ac _ _ _)).away g (fun k hk=>by { have h1:=N k hk;omega });have C9:Y (w.grownBy w9 (V rb)):=qI (zD CN.o (Ac _ _ _)) g N;have aR:Y (w9.heap[w.heap.size]?=V (Ae #[I ⟨#[]⟩,X S 0 0] 146)):=zw (zE ar.o (Ac _ _ S)) g (fun k hk=>zI ar.o E.o (by decide) k hk);have t:Y (w9.heap[w3.heap.size]?=V (Ae #[I (Aa nm),X la (Z f) lc] 146)):=zw (zE q.o (Ac _ _ S)) g (fun k hk=>zI q.o E.o (by decide) k hk);have gA:o.grownBy (o.alloc (Ae #[O Ai d.number,I (Aa d.path),X m1 (Z d.ms) m2,X t1 (Z d.tg) t2,I (Aa d.rep),X x1 (Z d.sets) x2,X d1 (Z d.drops) d2] 213)) S:=Ac _ _ _;have z:Safe (o.alloc (Ae #[O Ai d.number,I (Aa d.path),X m1 (Z d.ms) m2,X t1 (Z d.tg) t2,I (Aa d.rep),X x1 (Z d.sets) x2,X d1 (Z d.drops) d2] 213)) (X la (Z f) lc).ownBlock pleaves:=xk (Ao E.o _);have aI:Y (PRulesRow w9 w.heap.size (X (V ⟨g9,0,S⟩) (Z f+1) x) (f++[d])):=⟨css2++[[O Ai d.number,I (Aa d.path),X m1 (Z d.ms) m2,X t1 (Z d.tg) t2,I (Aa d.rep),X x1 (Z d.sets) x2,X d1 (Z d.drops) d2]],(by { rw[Ah,Eg];exact ax }),(aB.o.snoc aL.o).map fun a b hab=>(hab.keep gA (za _ _)).keep g z⟩;have q9:=cbi 1 t.o;have be:=zm9 1 t.o;clear ax g N gA z)|(go_simp;go_at_call 208;refine(HC.o _ (zV aa)).mono ?_;rintro e o ⟨cs,rfl,IN,aw,aX⟩;obtain⟨vM,vT,vS,vD,rfl,hM,hT,hS,hD⟩:=aX;obtain⟨m1,m2,rfl⟩:=zL hM;obtain⟨t1,t2,rfl⟩:=zL hT;obtain⟨x1,x2,rfl⟩:=zL hS;obtain⟨d1,d2,rfl⟩:=zL hD;have aL:Y (PRuleVal o [O Ai d.number,I (Aa d.path),X m1 (Z d.ms) m2,X t1 (Z d.tg) t2,I (Aa d.rep),X x1 (Z d.sets) x2,X d1 (Z d.drops) d2] d):=⟨_,_,_,_,rfl,hM,hT,hS,hD⟩;have GN:aa.grownBy o (V rb):=zD (zT (zV aa) _) aw;have JN:Y (PInv o rb s p2):=IN;have CN:=J (zD ag.o GN);have sN:aa.heap.size<=o.heap.size:=GN.size;have ar:=J (zE F.o GN);have q:=J (zE r.o GN);have aJ:Y (PRulesRow o w.heap.size (X la (Z f) lc) f):=ah.o.keep GN (ae.o.safe (by decide));obtain⟨css2,hrow2,hall2⟩:=aJ.o;have E:=J hrow2;have aB:=J hall2;have bg:=cbi 0 q.o;have bh:=cbi 1 q.o;have bi:=zO q.o;have bN:=zO JN.o.rd;have aG:Y (∀j u,([O Ai d.number,I (Aa d.path),X m1 (Z d.ms) m2,X t1 (Z d.tg) t2,I (Aa d.rep),X x1 (Z d.sets) x2,X d1 (Z d.drops) d2]:A Aj)[j]?=V u->(o.alloc (Ae #[O Ai d.number,I (Aa d.path),X m1 (Z d.ms) m2,X t1 (Z d.tg) t2,I (Aa d.rep),X x1 (Z d.sets) x2,X d1 (Z d.drops) d2] 213)).cell? ((⟨o.heap.size,0,S⟩:Addr).add j)=V u):=zZ o #[_,_,_,_,_,_,_] _ _ rfl;have aA:Y (∀u∈([O Ai d.number,I (Aa d.path),X m1 (Z d.ms) m2,X t1 (Z d.tg) t2,I (Aa d.rep),X x1 (Z d.sets) x2,X d1 (Z d.drops) d2]:A Aj),u.oneCell'=true):=by { intro u hu;simp only[En,Ge,Mn] at hu;rcases hu with rfl|rfl|rfl|rfl|rfl|rfl|rfl <;> rfl };have aC:Y (w.heap.size<=(o.alloc (Ae #[O Ai d.number,I (Aa d.path),X m1 (Z d.ms) m2,X t1 (Z d.tg) t2,I (Aa d.rep),X x1 (Z d.sets) x2,X d1 (Z d.drops) d2] 213)).heap.size):=by { show _<=_;rw[show(o.alloc (Ae #[O Ai d.number,I (Aa d.path),X m1 (Z d.ms) m2,X t1 (Z d.tg) t2,I (Aa d.rep),X x1 (Z d.sets) x2,X d1 (Z d.drops) d2] 213)).heap.size=o.heap.size+1 from by simp];omega };have aM:Y ((o.alloc (Ae #[O Ai d.number,I (Aa d.path),X m1 (Z d.ms) m2,X t1 (Z d.tg) t2,I (Aa d.rep),X x1 (Z d.sets) x2,X d1 (Z d.drops) d2] 213)).heap.size=o.heap.size+1):=by { show _=_;simp };clear IN aw GN hM hT hS hD hrow2 hall2))
   all_goals
    have gS:=zF w9 w3.heap.size 1 (X (V ⟨g9,0,S⟩) (Z f+1) x);have JS:Y _:=J9.o.other gS (by omega);have CS:=J (ze C9.o gS);have aS:=J (zE aR.o gS);have aV:Y ((w9.setCell ⟨w3.heap.size,1,S⟩ (X (V ⟨g9,0,S⟩) (Z f+1) x)).heap[w3.heap.size]?=V (Ae #[I (Aa nm),X (V ⟨g9,0,S⟩) (Z f+1) x] 146)):=zH t.o _;have aK:Y _:=aI.o.keep gS (xQ t.o);have aF:=J (jg JS.o);have aE:=J (jg IR.o);have a8:=JS.o.bd;go_wp2
    go_roundw
    ·exact⟨n,f++[d],p2,_,by rw[Ah];simp;omega,by omega,by omega,an,JS,CS,aS,aV,aK⟩
    ·rw[aF.o,aE.o];omega
theorem ir:(prog.info? 146).map (fun i=>(i.zero,i.size,i.bytes))=V (V (Fe #[I ⟨#[]⟩,X S 0 0]),2,40):=by kernel_rfl
def rblk (cs:A Aj):Option Ad:=(cs[1]?.getD undef).ownBlock
def PHosts (w:Ag)(B:Ad)(v:Aj)(hs:A P.Hst):Prop:=
 ∃css:A (A Aj),w.ownsRow B 146 2 v (Z hs) css.flatten/\All2 (PHostVal w) css hs/\css.Pairwise (fun a b=>∀k,rblk a=V k->rblk b≠V k)/\∀a∈css,∀k,rblk a=V k->B<=k
theorem PHosts.row {a:A P.Hst}(h:PHosts w B v a):PHostsRow w B v a:=by grind[P.Hst,PHosts,PHostsRow]
theorem PHosts.keep {w':Ag}{g:A P.Hst}{row:Option Ad}(h:PHosts w B v g)(f:w.grownBy w' row)(c:Safe w row phtags):PHosts w' B v g:=by
 obtain⟨d,i,j,k⟩:=h;exact⟨d,x7 i f c,j.map fun a b hab=>hab.keep f (jW c),k⟩
theorem PHosts.nil (w:Ag)(B:Ad):PHosts w B (X S 0 0) []:=⟨[],Bk _ _ _ _,.nil,.nil,fun a ha=>by simp at ha⟩
theorem PHosts.len {b:A P.Hst}(h:PHosts w B v b):∃a c,v=X a (Z b) c:=by obtain⟨d,f,_⟩:=h;exact zL f
theorem zb5 {a:A Aj}{h:P.Hst}(f:PHostVal w a h):∀k,rblk a=V k->k<w.heap.size:=by
 obtain⟨g,rfl,b,c,_⟩:=f;intro k d;exact(An c k d).2
theorem zjV {b:A (A Aj)}{c:A P.Hst}(h:All2 (PHostVal w) b c):∀a∈b,∀k,rblk a=V k->k<w.heap.size:=by
 induction h <;> grind[zb5,P.Hst,All2,PHostVal,rblk]
theorem zf7 (h:PInv w rb s st)(hG:Glob w)(ah:rb≠0):Am prog 101 #[Al (V ⟨rb,0,S⟩)] w fun e w'=>∃v,e=Af v/\PInv w' rb s (qg s.data.toList (Z s.data.toList+1) st []).2/\w.grownBy w' (V rb)/\PHosts w' w.heap.size v (qg s.data.toList (Z s.data.toList+1) st []).1:=by
 obtain⟨i0,hi,av,aw,ax⟩:=Ej ir;have H0:=J h;have az:=zO h.rd;have aD:=h.len;have b0:=h.bd;have HG:=J (hG);clear h hG;generalize hQ:qg s.data.toList (Z s.data.toList+1) st []=Q at*;have HQ:=J hQ;clear hQ;go_in;go_wp2_with fail
 go_loopw [3] (fun v wr=>∃(n:Ad) (c:A P.Hst) (p:P.St),Z c<=p.tok.at_/\p.tok.at_<=s.size/\s.size<n+p.tok.at_/\Y (qg s.data.toList n p c=Q)/\Y (PInv wr rb s p)/\Y (w.grownBy wr (V rb))/\Y (PHosts wr w.heap.size v c)) (fun _ wr=>s.size+1-atOf wr rb)
 ·exact⟨Z s.data.toList+1,[],st,Ax _,by omega,by rw[Cp];omega,HQ.o,H0,zP _ _,PHosts.nil _ _⟩
 ·
  obtain⟨n,c,p,aA,aG,aF,HL,IR,CR,HO⟩:=hrel;obtain⟨n,rfl⟩:∃m,n=m+1:=⟨n-1,by omega⟩;have f:=HL.o;rw[qg] at f;obtain⟨la,lc,rfl⟩:=HO.o.len;go_wp2_with fail;refine(vN IR.o _).mono ?_;rintro e aH ⟨rfl,q⟩;have C:=zT q (V rb);have aa:Y _:=(IR.o).keep q;have ad:=J (C);have j:=J (zD CR.o ad.o);have ay:=j.o.size;clear C q;have F:=J (HO.o.keep ad.o (IR.o.safe (by decide)));rw[show(⟨#[104,111,115,116]⟩:As).data.toList=Hy from rfl]
  cases hgo:qH p Hy
  ·rw[hgo] at f
   simp only[Ct,Gj] at f;have HF:=J (f.symm);clear f HL;go_wp2;go_ret;exact⟨_,rfl,by rw[HF.o];exact aa.o,j.o,by rw[HF.o];exact F.o⟩
  ·rw[hgo] at f
   simp only[Gq] at f;have ar:=zdL s.data.toList p (c.map P.Hst.name) hgo;have ae:=J f;clear f HL;go_wp2_with fail;refine(zi5 aa.o w.heap.size _ c F.o.row (by omega) (HG.o.keep j.o (by simpa using ah)) ah).mono ?_;rintro e wN ⟨vR,rfl,IN,z,y⟩;generalize xP s.data.toList p (c.map P.Hst.name)=qs at*;obtain⟨x,p2⟩:=qs;simp only at ae ar IN y ⊢;obtain⟨r1,r2,rfl⟩:=uU y;have JN:=J (IN);have ay:=j.o.size;have CN:=J (zD j.o z);have zN:=CN.o.size;have H:=J (y);obtain⟨aq,t,g,ag,af⟩:=F.o;have ab:=aa.o.safe (l:=phtags) (by decide);have N:=J (x7 t z ab);have ai:=J (g.map fun a b hab=>hab.keep z (jW ab));have ao:=J (ag);have aj:=J (af);have ak:=J (zjV g);clear IN z y t g ag af ab;go_wp2_with (at_builtin;refine Ei _ rfl _ _ 86 rfl (w.heap.size) 146 i0 _ 2 40 underlying86 hi av aw ax rfl (by decide) _ _ _ rfl (Ao N.o _) ⟨wN.heap.size,0,S⟩ 1 1 [I (Aa x.name),X r1 (Z x.rules) r2] rfl rfl ?c1 ?c2 (by decide) ?c3 ?c4 ?c5 (wN.heap.size+1) (by simp) ?_)
   ·exact zZ _ #[_,_] _ _
   ·intro u hu;simp at hu;rcases hu with rfl|rfl <;> rfl
   ·unfold Bh;omega
   ·omega
   ·simp;omega
   intro g9 ap w9 r d aB aE;have gA:wN.grownBy (wN.alloc (Ae #[I (Aa x.name),X r1 (Z x.rules) r2] 146)) S:=Ac _ _ _;have i:Safe (wN.alloc (Ae #[I (Aa x.name),X r1 (Z x.rules) r2] 146)) (X la (Z c) lc).ownBlock prtags:=xk (Ao N.o _);have o:∀k,(X la (Z c) lc).ownBlock=V k->w.heap.size<=k:=fun k E=>(An N.o k E).1
   have an:Y (PHosts w9 w.heap.size (X (V ⟨g9,0,S⟩) (Z c+1) ap) (c++[x])):=by
    refine⟨aq++[[I (Aa x.name),X r1 (Z x.rules) r2]],?_,?_,?_,?_⟩
    ·rw[Ah,Eg];exact r
    ·exact(ai.o.snoc ⟨_,rfl,H.o.base (Ax _)⟩).map fun a b hab=>(hab.keep gA (za _ _)).keep d i
    ·rw[Fx]
     refine⟨ao.o,List.pairwise_singleton _ _,?_⟩;intro a B b hb k E au;simp at hb;subst hb;have h1:=ak.o a B k E;obtain⟨cr,hr,_⟩:=H.o;have h2:=(An hr k au).1
     omega
    ·intro a B k E
     rcases Ea.1 B with B|B
     ·exact aj.o a B k E
     ·simp at B;subst B
      obtain⟨cr,hr,_⟩:=H.o;have h2:=(An hr k E).1
      omega
   have J9:Y (PInv w9 rb s p2):=(JN.o.keep gA).away d (fun k E=>by have h1:=o k E;omega);have C9:Y (w.grownBy w9 (V rb)):=qI (zD CN.o (zT gA _)) d o;have am:=J (jg J9.o);have al:=J (jg IR.o);have aC:=J9.o.bd;clear r d gA i o;go_wp2
   go_roundw
   ·exact⟨n,c++[x],p2,by rw[Ah];simp;omega,by omega,by omega,ae,J9,C9,an⟩
   ·rw[am.o,al.o];omega
end Go.Proofs.YtfocdefchbnkpaaGreatDoor
namespace Go.Proofs.YtfocdefchbnkpaaGreatDoor
open Go.RowKit Go.Sort Tryz
theorem tB {α: Type} [Xl α] (enc : α → A Aj) (k : Ad) (hk : ∀ x, Z (enc x)=k) (d : A α) (t : Ad) (h : t<Z d * k:=by omega) : (d.map enc).flatten[t]? = V (enc d[t / k]!)[t % k]! := by
  have k0 : 0<k := by
    rcases Sh k with h0|h0
    · subst h0; simp at h
    · exact h0
  induction d generalizing t with
  |nil => simp at h
  |cons x d ih =>
    rw [Er, Ci]
    by_cases ht : t<k
    · rw [Cx (by rw [hk]; exact ht), Nat.div_eq_of_lt ht, Nat.mod_eq_of_lt ht]
      rw [Bd (by rw [hk]; exact ht)]
      congr 1
      rw [Sc _ t (by rw [List.getElem!_cons_zero, hk]; exact ht)]
      rfl
    · obtain ⟨u, rfl⟩ : ∃ u, t=u + k := ⟨t-k, by omega⟩
      rw [Cl (by rw [hk]; omega), hk, Nat.add_sub_cancel, ih u (by simp [Nat.add_mul] at h; omega), Nat.add_div_right _ k0, Nat.add_mod_right]
      rfl
variable {α:Type}
theorem zb2  [Xl α] (enc:α->A Aj)(k:Ad)(b:∀x,Z (enc x)=k)(d:A α):(flatK enc k d.toArray).toList=(d.map enc).flatten:=by
 apply Qt
 intro t
 by_cases h:t<Z d*k
 ·rw[tB enc k b d t h]
  have a:=get_flatK enc k d.toArray t (by simpa using h);rw[Sc _ t (by simpa using h)] at a;rw[Nh,Fj (by simpa using h),a];simp
 ·rw[Qh (by simp;omega),Qh]
  have:Z (d.map enc).flatten=Z d*k:=by
   clear h
   induction d with
   |nil=>simp
   |cons x d ih=>rw[Er,Ci,Ah,ih,b,Bb,Nat.add_mul];omega
  omega
theorem ij (enc:α->A Aj)(k:Ad)(a:∀x,Z (enc x)=k)(d:A α):Z (d.map enc).flatten=Z d*k:=by
 induction d <;> grind[List.flatten_cons,List.length_append,List.length_cons,Nat.add_mul]
theorem bZ  [Xl α] {w:Ag}{B g b:Ad}{e:TypeId}(enc:α->A Aj)(k:Ad)(f:∀x,Z (enc x)=k)(d:A α)
  (h:w.ownsRow B e k (X (V ⟨g,0,S⟩) (Z d) b) (Z d) (d.map enc).flatten):HoldsK enc k w g 0 d.toArray:=by
 intro j c;have a:j<Z d*k:=by simpa using c
 rw[Gr];refine⟨?_,?_⟩
 ·rw[Ap h j a,tB enc k f d j a,get_flatK enc k d.toArray j (by simpa using a)]
  simp
 ·rcases h.2 with ⟨h1,_⟩|⟨g',c',cur,h1,_,h2,_⟩
  ·cases h1
  ·simp only[Au,Ey,Qo] at h1
   obtain⟨⟨rfl,_⟩,_,rfl⟩:=h1;exact zG h2
theorem gN  [Xl α] (enc:α->A Aj)(k:Ad)(w:Ag)(g m:Ad)(d:Fh α)(f:Fh Obj):w.grownBy (sortWorldK enc k w g 0 m d f) (V g):=by
 refine⟨rfl,rfl,rfl,?_,?_⟩
 ·simp[sortWorldK,grow,putRowK,putRow,mapBlock,Go.Sort.ahead]
 ·intro j c b
  have a:g≠j:=fun h=>b (by rw[h])
  simp only[sortWorldK,grow,putRowK,putRow,mapBlock,Go.Sort.ahead];rw[Qr (by simpa using c),Sy,Aw a]
theorem ziD (F a:Fh Aj)(h:F.size<=a.size):((putCells id 0 F a).toList.take F.size)=F.toList:=by
 apply Qt
 intro t;rw[Gi]
 by_cases b:t<F.size
 ·rw[Az b]
  simp only[putCells,Nh,Array.getElem?_mapIdx];rw[Fj (by omega),Fj b];simp[b]
 ·rw[Aw b,Qh (by simpa using b)]
theorem nr  [Xl α] {w:Ag}{B g a:Ad}{e:TypeId}(enc:α->A Aj)(k:Ad)(f:∀x,Z (enc x)=k)(d b:A α)(c:Z b=Z d)(m:Ad)(j:Fh Obj)
  (h:w.ownsRow B e k (X (V ⟨g,0,S⟩) (Z d) a) (Z d) (d.map enc).flatten) :
  (sortWorldK enc k w g 0 m b.toArray j).ownsRow B e k (X (V ⟨g,0,S⟩) (Z d) a) (Z d) (b.map enc).flatten:=by
 rcases h.2 with ⟨h1,_⟩|⟨g',c',cur,h1,hB,h2,h3,h4,h5,h6⟩
 ·cases h1
 ·simp only[Au,Ey,Qo] at h1
  obtain⟨⟨rfl,_⟩,_,rfl⟩:=h1;refine⟨by rw[ij enc k f,c],Bf ⟨g,a,putCells id 0 (flatK enc k b.toArray) cur,rfl,hB,?_,h3,h4,by simp[putCells,h5],?_⟩⟩
  ·have i:=zO h2
   simp only[sortWorldK,grow,putRowK,putRow,mapBlock,Go.Sort.ahead];rw[Qr (by simpa using i),Sy,Az rfl,h2]
   rfl
  ·have:=ziD (flatK enc k b.toArray) cur (by simp;rw[c,h5];exact Nat.mul_le_mul_right _ h3)
   rw[zb2 enc k f b] at this;rw[<-this];simp[c]
end Go.Proofs.YtfocdefchbnkpaaGreatDoor
namespace Go.Proofs
open Go.Shelf Go.RowKit Go.Lib Go.Sort Tryz
def Tryz.sortHost_ren: Ij := ⟨fun|6 => 150|15 => 210|14 => 209|28 => 284|29 => 285|20 => 276|21 => 277|22 => 278|23 => 279|24 => 280|25 => 281|26 => 282|27 => 283|46 => 337|47 => 338|48 => 339|49 => 340|50 => 341|57 => 385|n => n, fun|22 => 86|24 => 146|25 => 266|3 => 3|39 => 220|0 => 0|53 => 152|55 => 60|4 => 4|46 => 373|45 => 372|50 => 377|5 => 5|9 => 9|66 => 408|70 => 411|76 => 437|77 => 132|n => n, fun|n => n⟩
theorem Tryz.sortHost: Go.Proofs.SlLaysF0.n6 prog Tryz.sortHost_ren := {
 mixed:=by kernel_rfl
 f6:=⟨Tryz.f150.name, by decide, func150.trans cgk⟩
 f14:=⟨Tryz.f209.name, by decide, func209.trans cgk⟩
 f15:=func210.trans cgk
 f20:=⟨Tryz.f276.name, by decide, func276.trans cgk⟩
 f21:=⟨Tryz.f277.name, by decide, func277.trans cgk⟩
 f22:=⟨Tryz.f278.name, by decide, func278.trans cgk⟩
 f23:=⟨Tryz.f279.name, by decide, func279.trans cgk⟩
 f24:=⟨Tryz.f280.name, by decide, func280.trans cgk⟩
 f25:=⟨Tryz.f281.name, by decide, func281.trans cgk⟩
 f26:=⟨Tryz.f282.name, by decide, func282.trans cgk⟩
 f27:=⟨Tryz.f283.name, by decide, func283.trans cgk⟩
 f28:=func284.trans cgk
 f29:=func285.trans cgk
 f46:=⟨Tryz.f337.name, by decide, func337.trans cgk⟩
 f47:=func338.trans cgk
 f48:=func339.trans cgk
 f49:=⟨Tryz.f340.name, by decide, func340.trans cgk⟩
 f50:=⟨Tryz.f341.name, by decide, func341.trans cgk⟩
 f57:=⟨Tryz.f385.name, by decide, func385.trans cgk⟩
 t0:=underlying0
 a0:=isAgg0
 z0:=sizeOf0
 v0:=zeroValue0
 t3:=underlying3
 a3:=isAgg3
 z3:=sizeOf3
 v3:=zeroValue3
 t4:=underlying4
 a4:=isAgg4
 z4:=sizeOf4
 v4:=zeroValue4
 t5:=underlying5
 a5:=isAgg5
 z5:=sizeOf5
 v5:=zeroValue5
 t9:=underlying9
 a9:=isAgg9
 z9:=sizeOf9
 v9:=zeroValue9
 t22:=underlying86
 a22:=isAgg86
 z22:=sizeOf86
 v22:=zeroValue86
 t25:=underlying266
 a25:=isAgg266
 z25:=sizeOf266
 v25:=zeroValue266
 t39:=underlying220
 a39:=isAgg220
 z39:=sizeOf220
 v39:=zeroValue220
 t45:=underlying372
 a45:=isAgg372
 z45:=sizeOf372
 v45:=zeroValue372
 t46:=underlying373
 a46:=isAgg373
 z46:=sizeOf373
 v46:=zeroValue373
 t50:=underlying377
 a50:=isAgg377
 z50:=sizeOf377
 v50:=zeroValue377
 t53:=underlying152
 a53:=isAgg152
 z53:=sizeOf152
 v53:=zeroValue152
 t55:=underlying60
 a55:=isAgg60
 z55:=sizeOf60
 v55:=zeroValue60
 t66:=underlying408
 a66:=isAgg408
 z66:=sizeOf408
 v66:=zeroValue408
 t70:=underlying411
 a70:=isAgg411
 z70:=sizeOf411
 v70:=zeroValue411
 t76:=underlying437
 a76:=isAgg437
 z76:=sizeOf437
 v76:=zeroValue437
 t77:=underlying132
 a77:=isAgg132
 z77:=sizeOf132
 v77:=zeroValue132 }
def Tryz.sortRule_ren: Ij := ⟨fun|6 => 153|15 => 210|14 => 212|28 => 284|29 => 285|20 => 286|21 => 287|22 => 288|23 => 289|24 => 290|25 => 291|26 => 292|27 => 293|46 => 342|47 => 338|48 => 339|49 => 343|50 => 344|57 => 386|n => n, fun|22 => 144|24 => 213|25 => 268|3 => 3|39 => 220|0 => 0|53 => 152|55 => 60|4 => 4|46 => 373|45 => 372|50 => 377|5 => 5|9 => 9|66 => 408|70 => 411|76 => 437|77 => 132|n => n, fun|n => n⟩
theorem Tryz.sortRule: Go.Proofs.SlLaysF0.n6 prog Tryz.sortRule_ren := {
 mixed:=by kernel_rfl
 f6:=⟨Tryz.f153.name, by decide, func153.trans cgk⟩
 f14:=⟨Tryz.f212.name, by decide, func212.trans cgk⟩
 f15:=func210.trans cgk
 f20:=⟨Tryz.f286.name, by decide, func286.trans cgk⟩
 f21:=⟨Tryz.f287.name, by decide, func287.trans cgk⟩
 f22:=⟨Tryz.f288.name, by decide, func288.trans cgk⟩
 f23:=⟨Tryz.f289.name, by decide, func289.trans cgk⟩
 f24:=⟨Tryz.f290.name, by decide, func290.trans cgk⟩
 f25:=⟨Tryz.f291.name, by decide, func291.trans cgk⟩
 f26:=⟨Tryz.f292.name, by decide, func292.trans cgk⟩
 f27:=⟨Tryz.f293.name, by decide, func293.trans cgk⟩
 f28:=func284.trans cgk
 f29:=func285.trans cgk
 f46:=⟨Tryz.f342.name, by decide, func342.trans cgk⟩
 f47:=func338.trans cgk
 f48:=func339.trans cgk
 f49:=⟨Tryz.f343.name, by decide, func343.trans cgk⟩
 f50:=⟨Tryz.f344.name, by decide, func344.trans cgk⟩
 f57:=⟨Tryz.f386.name, by decide, func386.trans cgk⟩
 t0:=underlying0
 a0:=isAgg0
 z0:=sizeOf0
 v0:=zeroValue0
 t3:=underlying3
 a3:=isAgg3
 z3:=sizeOf3
 v3:=zeroValue3
 t4:=underlying4
 a4:=isAgg4
 z4:=sizeOf4
 v4:=zeroValue4
 t5:=underlying5
 a5:=isAgg5
 z5:=sizeOf5
 v5:=zeroValue5
 t9:=underlying9
 a9:=isAgg9
 z9:=sizeOf9
 v9:=zeroValue9
 t22:=underlying144
 a22:=isAgg144
 z22:=sizeOf144
 v22:=zeroValue144
 t25:=underlying268
 a25:=isAgg268
 z25:=sizeOf268
 v25:=zeroValue268
 t39:=underlying220
 a39:=isAgg220
 z39:=sizeOf220
 v39:=zeroValue220
 t45:=underlying372
 a45:=isAgg372
 z45:=sizeOf372
 v45:=zeroValue372
 t46:=underlying373
 a46:=isAgg373
 z46:=sizeOf373
 v46:=zeroValue373
 t50:=underlying377
 a50:=isAgg377
 z50:=sizeOf377
 v50:=zeroValue377
 t53:=underlying152
 a53:=isAgg152
 z53:=sizeOf152
 v53:=zeroValue152
 t55:=underlying60
 a55:=isAgg60
 z55:=sizeOf60
 v55:=zeroValue60
 t66:=underlying408
 a66:=isAgg408
 z66:=sizeOf408
 v66:=zeroValue408
 t70:=underlying411
 a70:=isAgg411
 z70:=sizeOf411
 v70:=zeroValue411
 t76:=underlying437
 a76:=isAgg437
 z76:=sizeOf437
 v76:=zeroValue437
 t77:=underlying132
 a77:=isAgg132
 z77:=sizeOf132
 v77:=zeroValue132 }
def Tryz.bitsLen_ren: Ij := ⟨fun|125 => 210|128 => 284|129 => 285|n => n, fun|46 => 220|3 => 3|51 => 152|53 => 60|4 => 4|5 => 5|9 => 9|n => n, fun|n => n⟩
theorem Tryz.bitsLen: Go.Proofs.Lays.n125 prog Tryz.bitsLen_ren := {
 mixed:=by kernel_rfl
 f125:=func210.trans cgk
 f128:=func284.trans cgk
 f129:=func285.trans cgk
 t3:=underlying3
 a3:=isAgg3
 z3:=sizeOf3
 v3:=zeroValue3
 t4:=underlying4
 a4:=isAgg4
 z4:=sizeOf4
 v4:=zeroValue4
 t5:=underlying5
 a5:=isAgg5
 z5:=sizeOf5
 v5:=zeroValue5
 t9:=underlying9
 a9:=isAgg9
 z9:=sizeOf9
 v9:=zeroValue9
 t46:=underlying220
 a46:=isAgg220
 z46:=sizeOf220
 v46:=zeroValue220
 t51:=underlying152
 a51:=isAgg152
 z51:=sizeOf152
 v51:=zeroValue152
 t53:=underlying60
 a53:=isAgg60
 z53:=sizeOf60
 v53:=zeroValue60 }
theorem Tryz.hlen (n : Ad) (W : Ag) (h : n ≤ 12) : Am prog 210 #[O .u64 n] W fun e w' => (∃ l : Ak, e=Af (O Ai l)) ∧ w'=W :=
  (Any.bits_Len Tryz.bitsLen n W (by omega) (by omega)).mono fun _ _ ⟨he, hw⟩ => ⟨⟨_, he⟩, hw⟩
end Go.Proofs
