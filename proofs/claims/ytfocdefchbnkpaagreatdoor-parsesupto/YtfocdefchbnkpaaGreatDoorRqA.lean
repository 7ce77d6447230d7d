import Derived.Shelf.Strconv.AtoiErr
import Derived.Deep.Onto
import Derived.Test.YtfocdefchbnkpaaGreatDoorLwJ
set_option maxRecDepth 100000
set_option maxHeartbeats 20000000
open Go renaming World->Ag,TypeId->Cs,Addr->Eu,Value->Aj,Oper->Xw,wpList->Xu,info_parts->Ej,maxLen->Bh,Calls->Am,heap_alloc_new->Bn,bodyPost_ret->Et,results->Hm,wpList_append_lies->Ei
open Go.ByteArray renaming toList_eq->El
open Go.Ending renaming returned->Af
open Go.IntKind renaming i64->Ai,u8->Bp
open Go.Lib renaming hasPrefix->Mx,hasSuffix->Ov,cut->Ca,index->Es,trimB->Iq,byteCells->Ba,splitK->Io,splitB->Qy,countB->Oe,trimLeftB->Hi,trimRightB->Gh,byteCells_append->Hl,indexByte->Mf
open Go.Obj renaming cells->Ae
open Go.Proofs.YtfocdefchbnkpaaGreatDoor.R renaming str->Aa,str_toList->Be,span->By,span_stop->Np,span_step->Nq,span_end->Oc,allB->Ec,size_eq->Cp,str_size->Bz,digitI->Ck,labels->Iv,lower->Cj
open Go.Shelf renaming Ren->Ij
open Go.Value renaming string->I,ownBlock->Ix,slice->X,agg->Fe,int->O,bool->Av,tuple->Cm,pointer->Al
open Go.Value.slice renaming injEq->Au
open Go.World renaming ownsRow_nil->Bk,grownBy_alloc->Ac,cell?_setCell_same->Vs,cell?_setCell_other->Vm,cell?_of_block->Mr
open Go.World.ownsRow renaming lt->An,form->Bm,frozenAt->Nz,cellAt->Ap,stored->Ol,alloc->Ao
open List renaming length->Z
open Option renaming none->S,some->V
open Or renaming inr->Bf,inl->Ay
open _root_ renaming Nat->Ad,Option->Br,List->A,UInt8->Ab,Int->Ak,Bool->Ee,ByteArray->As
namespace Go.Proofs.YtfocdefchbnkpaaGreatDoor
open Go.RowKit Tryz
structure Rw (w0 w:Ag) (e:Cs) (n:Ad) (a:Br Eu) (k m:Ad) (xs:A Aj):Prop where
 own:w.ownsRow w0.heap.size e n (X a m k) m xs
 gr:w0.grownBy w S
variable {w:Ag}
theorem Rw.keep {w0 w':Ag}{e:Cs}{n:Ad}{a:Br Eu}{k m:Ad}{b:A Aj}(h:Rw w0 w e n a k m b)(g:w.grownBy w' S):Rw w0 w' e n a k m b:=by grind[zK,zD,Rw]
theorem dx {w w0:Ag}{g:Array Xw}{rest:A Xw}{o:Xw}{ac:Act}{Q:Exit->Act->Ag->Prop}(v:o.guard=S)(s x:Operand)(t e:Cs)
  (ho:o.op = .call { callee:=.builtin .append,args:=#[s,x],argTypes:=#[t,t] }) {z:Aj} {n b:Ad} (ht:(prog).underlying t=V (.slice e)) (y:((prog).info? e).map (fun i=>(i.zero,i.size,i.bytes))=V (V z,n,b))
  (F:z.cells.size=n) (hn:0<n) (hb:b<=1000) {a:Br Eu} {k m:Ad} {H:A Aj} (hs:ac.eval s=X a m k) (h:Rw w0 w e n a k m H) (r:Eu) (c:Ad) (l:A Aj) (hx:ac.eval x=X (V r) 1 c)
  (hl:Z l=n) (hc:∀j u,l[j]?=V u->w.cell? (r.add j)=V u) (N:∀u∈l,u.oneCell'=true) (hm:m<=100000000)
  (hK:∀p q w',Y (Rw w0 w' e n p q (m+1) (H++l))->Xu prog g Q rest (ac.put o.dst (X p (m+1) q)) w'):Xu prog g Q (o::rest) ac w:=by
 obtain⟨i0,y,B,C,E⟩:=Ej y;refine wpList_append_own w v s x t ho w0.heap.size e i0 z n b ht y B C E F hn _ _ _ hs h.own r 1 c l hx (by rw[hl,Nat.one_mul]) hc N (by unfold Bh;omega) (Bi (Nat.mul_le_mul (show m+1<=100000001 by omega) hb) (by decide)) h.gr.size ?_;intro v' w' d f _;obtain⟨p,q,rfl⟩:=zL d;exact hK p q w' ⟨d,qI h.gr f (fun k hk=>(An h.own k hk).1)⟩
abbrev Hd:=A Ab×A Ab
def xt (nm:A Ab)(l:A Hd):A Hd:=l.filter fun h=>decide (h.1=nm)
def vX (nm:A Ab)(l:A Hd)(i:Ad):A Hd:=xt nm (l.take i)
theorem zaO (a:A Ab)(l:A Hd)(i:Ad)(h:i<Z l)(b:l[i].1=a):vX a l (i+1)=vX a l i++[l[i]]:=by
 unfold vX xt;rw[Sp,Bd h,Nj];simp[b]
theorem zdS (a:A Ab)(l:A Hd)(i:Ad)(h:i<Z l)(b:l[i].1≠a):vX a l (i+1)=vX a l i:=by
 unfold vX xt;rw[Sp,Bd h,Nj];simp[b]
theorem zaN (a:A Ab)(l:A Hd):vX a l (Z l)=xt a l:=by unfold vX;rw[Ia]
theorem zdR (a:A Ab)(l:A Hd)(i:Ad):Z (vX a l i)<=Z l:=by
 unfold vX xt;exact Bi (List.length_filter_le _ _) (by rw[Cq];omega)
theorem zcX:(prog.info? 346).map (fun i=>(i.zero,i.size,i.bytes))=V (V (Fe #[I ⟨#[]⟩,I ⟨#[]⟩]),2,32):=by kernel_rfl
theorem oy (a b:A Ab):((Aa a).toList == (Aa b).toList)=decide (a=b):=by
 rw[El,El,Be,Be,Eb];simp
variable {B:Ad}{v:Aj}
abbrev Hl2 (a b):=Ae #[I (Aa a),I (Aa b)] 346
theorem sJ (b:A Ab)(l:A Hd)(q:w.ownsRow B 346 2 v (Z l) (zi l))(hn:Z l<=1000000):Am prog 237 #[I (Aa b),v] w fun e w'=>∃a k,e=Af (X a (Z (xt b l)) k)/\Rw w w' 346 2 a k (Z (xt b l)) (zi (xt b l)):=by
 obtain⟨va,vk,rfl⟩:=zL q;have p:=hid q;have z:Y (Rw w w 346 2 S 0 (Z (vX b l 0)) (zi (vX b l 0))):=⟨Bk _ _ _ _,zP _ _⟩;have E:=hid (zaN b l);clear q;go_in;go_wp2_with fail
 go_loopw [5,10] (fun sv iv wr=>∃i:Ad,i<=Z l/\iv=O Ai i/\∃a k,sv=X a (Z (vX b l i)) k/\Y (Rw w wr 346 2 a k (Z (vX b l i)) (zi (vX b l i)))) (fun _ iv _=>Z l-(intOf iv).toNat)
 ·exact⟨0,Ax _,rfl,S,0,rfl,z⟩
 ·
  obtain⟨i,ab,rfl,a,k,rfl,f⟩:=hrel
  by_cases c:i<Z l
  ·have aa:(i:Ak)<Z l:=by omega
   obtain⟨g,gc,C,_,_⟩:=Bm p.o (by omega);simp only[Au,Fb] at C;obtain⟨rfl,rfl⟩:=C;have H:wr.cell? ⟨g,i*2,S⟩=V (I (Aa l[i].1)):=qY (fun t:Hd=>[I (Aa t.1),I (Aa t.2)]) 2 (fun _=>rfl) p.o f.o.gr i 0 c (by omega) rfl;have N:wr.cell? ⟨g,i*2+1,S⟩=V (I (Aa l[i].2)):=qY (fun t:Hd=>[I (Aa t.1),I (Aa t.2)]) 2 (fun _=>rfl) p.o f.o.gr i 1 c (by omega) rfl;have y:=hid (zaO b l i c);have o:=hid (zdS b l i c);have ad:=zdR b l i;have m:=oy l[i].1 b;generalize l[i]=x at*;have n:=hid (Bn wr (Hl2 x.1 x.2));have d:=hid (f.o.keep (Ac wr (Hl2 x.1 x.2) S));have q0:=cbi 0 n.o;have q1:=cbi 1 n.o;go_upto_region 5 with fail;generalize wr.alloc (Hl2 x.1 x.2)=wa at*;clear H N f n
   by_cases h:x.1=b
   ·rw[Cf h] at m
    have s:=hid h;have r:=hid (zZ wa #[I (Aa x.1),I (Aa x.2)] 346 _ rfl);have j:=hid (d.o.keep (Ac wa (Hl2 x.1 x.2) S));clear h o;go_wp2_with (at_builtin;refine @dx _ _ _ _ _ _ _ rfl _ _ 101 346 rfl _ _ _ underlying101 zcX rfl (by decide) (by decide) _ _ _ _ rfl j.o ⟨wa.heap.size,0,S⟩ _ [I (Aa x.1),I (Aa x.2)] rfl rfl r.o (fun u hu=>by simp at hu;rcases hu with rfl|rfl <;> rfl) (by omega) ?_);intro F k' w' hh;clear r d j q0 q1;go_wp2_with fail
    go_roundw
    ·exact⟨i+1,by omega,by go_num,F,k',by rw[y.o s.o,Ah];rfl,by rw[y.o s.o,yW,Ah];exact hh⟩
    ·simp[intOf];omega
   ·rw[Ce h] at m
    go_wp2_with fail
    go_roundw
    ·exact⟨i+1,by omega,by go_num,a,k,by rw[o.o h],by rw[o.o h];exact d⟩
    ·simp[intOf];omega
  ·have Q:i=Z l:=by omega
   subst Q;rw[E.o] at f ⊢;go_wp2;go_ret;exact⟨a,k,rfl,f.o⟩
def xY (nm:A Ab)(l:A Hd):Ee:=decide (0<Z (xt nm l))
def xZ (nm:A Ab)(l:A Hd):A Ab:=((xt nm l).head?.map (·.2)).getD []
theorem aj (c:A Ab)(l:A Hd)(d:w.ownsRow B 346 2 v (Z l) (zi l))(j:Z l<=1000000):Am prog 234 #[I (Aa c),v] w fun e w'=>e=Af (Av (xY c l))/\w.grownBy w' S:=by
 obtain⟨m,n,rfl⟩:=zL d;have f:=hid (sJ c l d j);have i:xY c l=decide (0<Z (xt c l)):=rfl;generalize xt c l=nl at*;generalize xY c l=b at*;go_in;go_wp2_with fail;refine f.o.mono ?_;rintro e o ⟨a,k,rfl,g⟩;have h:=hid g.gr;go_wp2;go_ret;refine⟨zX ?_,h.o⟩;rw[i]
theorem zbP (c:A Ab)(l:A Hd)(j:w.ownsRow B 346 2 v (Z l) (zi l))(q:Z l<=1000000):Am prog 178 #[I (Aa c),v] w fun e w'=>e=Af (I (Aa (xZ c l)))/\w.grownBy w' S:=by
 obtain⟨z,C,rfl⟩:=zL j;have n:=hid (sJ c l j q);have f:Y (xZ c l=((xt c l).head?.map (·.2)).getD []):=rfl;generalize xt c l=nl at*;generalize xZ c l=b at*;go_in;go_wp2_with fail;refine n.o.mono ?_;rintro e s ⟨a,k,rfl,i⟩;have m:=hid i.gr;have d:=hid i.own
 cases nl with
 |nil=>
  go_wp2;go_ret;exact⟨by rw[f.o];rfl,m.o⟩
 |cons x r=>
  obtain⟨g,y,o,_,_⟩:=Bm d.o (by simp);simp only[Au,Fb] at o;obtain⟨rfl,rfl⟩:=o;have u:s.cell? ⟨g,1,S⟩=V (I (Aa x.2)):=by
   have h:=qY (fun t:Hd=>[I (Aa t.1),I (Aa t.2)]) 2 (fun _=>rfl) d.o (zP _ _) 0 1 (by simp) (by omega) rfl
   simpa using h
  have p:b=x.2:=by rw[f.o];rfl
  subst p;go_wp2;go_ret;exact⟨rfl,m.o⟩
def yG (c:Ak):Ee:=decide (33<=c) && decide (c<=126)
def yX (c:Ak):Ee:=decide (32<=c) && decide (c<=126)
def xS (c:Ak):Ee:=decide (65<=c) && decide (c<=90)
theorem oG (c:Ak)(w:Ag):Am prog 353 #[O Bp c] w fun e w'=>e=Af (Av (yG c))/\w'=w:=by
 go_in
 by_cases h:33<=c
 ·go_wp2
  go_ret;exact⟨zX (by unfold yG;rw[Cf h];simp),rfl⟩
 ·have a:=h
  go_wp2;go_ret;exact⟨zX (by unfold yG;rw[Ce (by omega)];simp),rfl⟩
theorem oH (c:Ak)(w:Ag):Am prog 355 #[O Bp c] w fun e w'=>e=Af (Av (yX c))/\w'=w:=by
 go_in
 by_cases h:32<=c
 ·go_wp2
  go_ret;exact⟨zX (by unfold yX;rw[Cf h];simp),rfl⟩
 ·have a:=h
  go_wp2;go_ret;exact⟨zX (by unfold yX;rw[Ce (by omega)];simp),rfl⟩
theorem oF (c:Ak)(w:Ag):Am prog 309 #[O Bp c] w fun e w'=>e=Af (Av (xS c))/\w'=w:=by
 go_in
 by_cases h:65<=c
 ·go_wp2
  go_ret;exact⟨zX (by unfold xS;rw[Cf h];simp),rfl⟩
 ·have a:=h
  go_wp2;go_ret;exact⟨zX (by unfold xS;rw[Ce (by omega)];simp),rfl⟩
theorem lf (s:As)(w:Ag)(g:s.size<=Bh):Am prog 202 #[I s,.func (.func 353) #[] #[]] w fun e w'=>e=Af (O Ai (By yG s.data.toList:Ad))/\w'=w:=by
 unfold Bh at g;go_in;go_wp2_with fail
 go_loop [8] (fun v=>∃k:Ad,k<=s.size/\v=O Ai k/\Y (By yG s.data.toList=k+By yG (s.data.toList.drop k))) (fun v=>s.size-(intOf v).toNat)
 ·exact⟨0,Ax _,rfl,by show _=_;simp⟩
 ·
  obtain⟨k,h,rfl,b⟩:=hrel
  by_cases d:k<s.size
  ·cases hp:yG s[k].toNat
   ·have c:Y (By yG s.data.toList=k):=by
     have:=b.o;rw[Np d hp] at this;exact this
    go_wp2_with fail;refine(oG _ _).mono ?_;rintro e f ⟨rfl,a⟩;rw[a,hp];go_wp2;go_ret;exact⟨by rw[c.o];rfl,rfl⟩
   ·have c:Y (By yG s.data.toList=(k+1)+By yG (s.data.toList.drop (k+1))):=by
     have:=b.o;rw[Nq d hp] at this;show _=_;omega
    go_wp2_with fail;refine(oG _ _).mono ?_;rintro e f ⟨rfl,a⟩;rw[a,hp];go_wp2;exact⟨⟨k+1,by omega,by go_num,c⟩,by simp[intOf];omega⟩
  ·have c:Y (By yG s.data.toList=s.size):=by
    have:=b.o;rw[Oc (k:=k) (by omega)] at this;show _=_;omega
   go_wp2;go_ret;exact⟨by rw[c.o];rfl,rfl⟩
theorem lT (s:As)(w:Ag)(c:s.size<=Bh):Am prog 352 #[I s,.func (.func 353) #[] #[]] w fun e w'=>e=Af (Av (Ec yG s.data.toList))/\w'=w:=by
 have b:Y (Ec yG s.data.toList=((By yG s.data.toList:Ak) == s.size)):=by
  show Ec yG s.data.toList=_;rw[<-Cp,Eb];simp only[Hw];rw[Qk];exact jj yG s.data.toList
 go_in;go_wp2_with fail;refine(lf s _ c).mono ?_;rintro e d ⟨rfl,a⟩;rw[a];go_wp2;go_ret;exact⟨zX (by rw[b.o]),rfl⟩
theorem lh (s:As)(w:Ag)(g:s.size<=Bh):Am prog 202 #[I s,.func (.func 355) #[] #[]] w fun e w'=>e=Af (O Ai (By yX s.data.toList:Ad))/\w'=w:=by
 unfold Bh at g;go_in;go_wp2_with fail
 go_loop [8] (fun v=>∃k:Ad,k<=s.size/\v=O Ai k/\Y (By yX s.data.toList=k+By yX (s.data.toList.drop k))) (fun v=>s.size-(intOf v).toNat)
 ·exact⟨0,Ax _,rfl,by show _=_;simp⟩
 ·
  obtain⟨k,h,rfl,b⟩:=hrel
  by_cases d:k<s.size
  ·cases hp:yX s[k].toNat
   ·have c:Y (By yX s.data.toList=k):=by
     have:=b.o;rw[Np d hp] at this;exact this
    go_wp2_with fail;refine(oH _ _).mono ?_;rintro e f ⟨rfl,a⟩;rw[a,hp];go_wp2;go_ret;exact⟨by rw[c.o];rfl,rfl⟩
   ·have c:Y (By yX s.data.toList=(k+1)+By yX (s.data.toList.drop (k+1))):=by
     have:=b.o;rw[Nq d hp] at this;show _=_;omega
    go_wp2_with fail;refine(oH _ _).mono ?_;rintro e f ⟨rfl,a⟩;rw[a,hp];go_wp2;exact⟨⟨k+1,by omega,by go_num,c⟩,by simp[intOf];omega⟩
  ·have c:Y (By yX s.data.toList=s.size):=by
    have:=b.o;rw[Oc (k:=k) (by omega)] at this;show _=_;omega
   go_wp2;go_ret;exact⟨by rw[c.o];rfl,rfl⟩
theorem lU (s:As)(w:Ag)(c:s.size<=Bh):Am prog 352 #[I s,.func (.func 355) #[] #[]] w fun e w'=>e=Af (Av (Ec yX s.data.toList))/\w'=w:=by
 have b:Y (Ec yX s.data.toList=((By yX s.data.toList:Ak) == s.size)):=by
  show Ec yX s.data.toList=_;rw[<-Cp,Eb];simp only[Hw];rw[Qk];exact jj yX s.data.toList
 go_in;go_wp2_with fail;refine(lh s _ c).mono ?_;rintro e d ⟨rfl,a⟩;rw[a];go_wp2;go_ret;exact⟨zX (by rw[b.o]),rfl⟩
theorem ld (s:As)(w:Ag)(g:s.size<=Bh):Am prog 202 #[I s,.func (.func 309) #[] #[]] w fun e w'=>e=Af (O Ai (By xS s.data.toList:Ad))/\w'=w:=by
 unfold Bh at g;go_in;go_wp2_with fail
 go_loop [8] (fun v=>∃k:Ad,k<=s.size/\v=O Ai k/\Y (By xS s.data.toList=k+By xS (s.data.toList.drop k))) (fun v=>s.size-(intOf v).toNat)
 ·exact⟨0,Ax _,rfl,by show _=_;simp⟩
 ·
  obtain⟨k,h,rfl,b⟩:=hrel
  by_cases d:k<s.size
  ·cases hp:xS s[k].toNat
   ·have c:Y (By xS s.data.toList=k):=by
     have:=b.o;rw[Np d hp] at this;exact this
    go_wp2_with fail;refine(oF _ _).mono ?_;rintro e f ⟨rfl,a⟩;rw[a,hp];go_wp2;go_ret;exact⟨by rw[c.o];rfl,rfl⟩
   ·have c:Y (By xS s.data.toList=(k+1)+By xS (s.data.toList.drop (k+1))):=by
     have:=b.o;rw[Nq d hp] at this;show _=_;omega
    go_wp2_with fail;refine(oF _ _).mono ?_;rintro e f ⟨rfl,a⟩;rw[a,hp];go_wp2;exact⟨⟨k+1,by omega,by go_num,c⟩,by simp[intOf];omega⟩
  ·have c:Y (By xS s.data.toList=s.size):=by
    have:=b.o;rw[Oc (k:=k) (by omega)] at this;show _=_;omega
   go_wp2;go_ret;exact⟨by rw[c.o];rfl,rfl⟩
theorem lS (s:As)(w:Ag)(c:s.size<=Bh):Am prog 352 #[I s,.func (.func 309) #[] #[]] w fun e w'=>e=Af (Av (Ec xS s.data.toList))/\w'=w:=by
 have b:Y (Ec xS s.data.toList=((By xS s.data.toList:Ak) == s.size)):=by
  show Ec xS s.data.toList=_;rw[<-Cp,Eb];simp only[Hw];rw[Qk];exact jj xS s.data.toList
 go_in;go_wp2_with fail;refine(ld s _ c).mono ?_;rintro e d ⟨rfl,a⟩;rw[a];go_wp2;go_ret;exact⟨zX (by rw[b.o]),rfl⟩
theorem aV (l:A Ab)(w:Ag)(a:Z l<=1000000):Am prog 352 #[I (Aa l),.func (.func 353) #[] #[]] w fun e w'=>e=Af (Av (Ec yG l))/\w'=w:=by
 have h:=lT (Aa l) w (by have:(Aa l).size=Z l:=Bz l;unfold Bh;omega);rw[Be] at h;exact h
theorem aW (l:A Ab)(w:Ag)(a:Z l<=1000000):Am prog 352 #[I (Aa l),.func (.func 355) #[] #[]] w fun e w'=>e=Af (Av (Ec yX l))/\w'=w:=by
 have h:=lU (Aa l) w (by have:(Aa l).size=Z l:=Bz l;unfold Bh;omega);rw[Be] at h;exact h
theorem aU (l:A Ab)(w:Ag)(a:Z l<=1000000):Am prog 352 #[I (Aa l),.func (.func 309) #[] #[]] w fun e w'=>e=Af (Av (Ec xS l))/\w'=w:=by
 have h:=lS (Aa l) w (by have:(Aa l).size=Z l:=Bz l;unfold Bh;omega);rw[Be] at h;exact h
theorem nL (l:A Ab)(w:Ag)(a:Z l<=1000000):Am prog 352 #[I (Aa l),.func (.func 261) #[] #[]] w fun e w'=>e=Af (Av (Ec Ck l))/\w'=w:=by
 have h:=pS (Aa l) w (by have:(Aa l).size=Z l:=Bz l;unfold Bh;omega);rw[Be] at h;exact h
def xr (l:A Ab):Ee:=decide (l≠[]) && (decide (Z l<=8) && Ec xS l)
def yk (l:A Ab):Ee:=Mx l [47] && Ec yG l
def zm (l:A Ab):Ee:=decide (l≠[]) && (decide (Z l<=5) && Ec Ck l)
theorem uE (l:A Ab):((Aa l).toList == [])=decide (l=[]):=by
 rw[El,Be];cases l <;> rfl
theorem ax (l:A Ab)(w:Ag)(k:Z l<=1000000):Am prog 302 #[I (Aa l)] w fun e w'=>e=Af (Av (xr l))/\w'=w:=by
 have n:=Bz l;have i:=uE l;have d:Y (xr l=(decide (l≠[]) && (decide (Z l<=8) && Ec xS l))):=rfl;have g:=hid (aU l w k);generalize Ec xS l=b at*
 by_cases c:l=[]
 ·rw[Cf c] at i
  have a:Y (xr l=false):=by show _=_;rw[d.o,Ce (by simpa using c)];rfl
  clear c g;go_in;go_wp2;go_ret;exact⟨zX (by rw[a.o]),rfl⟩
 ·rw[Ce c] at i
  by_cases h:Z l<=8
  ·have j:(Z l:Ak)<=8:=by omega
   have a:Y (xr l=b):=by show _=_;rw[d.o,Cf c,Cf h];rfl
   clear c;go_in;go_wp2_with fail;refine g.o.mono ?_;rintro e m ⟨rfl,f⟩;rw[f];clear f m g;go_wp2;go_ret;exact⟨zX (by rw[a.o]),rfl⟩
  ·have j:¬(Z l:Ak)<=8:=by omega
   have a:Y (xr l=false):=by show _=_;rw[d.o,Ce h];simp
   clear c g;go_in;go_wp2;go_ret;exact⟨zX (by rw[a.o]),rfl⟩
theorem cT (l:A Ab)(w:Ag)(k:Z l<=1000000):Am prog 401 #[I (Aa l)] w fun e w'=>e=Af (Av (zm l))/\w'=w:=by
 have n:=Bz l;have i:=uE l;have d:Y (zm l=(decide (l≠[]) && (decide (Z l<=5) && Ec Ck l))):=rfl;have g:=hid (nL l w k);generalize Ec Ck l=b at*
 by_cases c:l=[]
 ·rw[Cf c] at i
  have a:Y (zm l=false):=by show _=_;rw[d.o,Ce (by simpa using c)];rfl
  clear c g;go_in;go_wp2;go_ret;exact⟨zX (by rw[a.o]),rfl⟩
 ·rw[Ce c] at i
  by_cases h:Z l<=5
  ·have j:(Z l:Ak)<=5:=by omega
   have a:Y (zm l=b):=by show _=_;rw[d.o,Cf c,Cf h];rfl
   clear c;go_in;go_wp2_with fail;refine g.o.mono ?_;rintro e m ⟨rfl,f⟩;rw[f];clear f m g;go_wp2;go_ret;exact⟨zX (by rw[a.o]),rfl⟩
  ·have j:¬(Z l:Ak)<=5:=by omega
   have a:Y (zm l=false):=by show _=_;rw[d.o,Ce h];simp
   clear c g;go_in;go_wp2;go_ret;exact⟨zX (by rw[a.o]),rfl⟩
theorem ay (l:A Ab)(w:Ag)(j:Z l<=1000000):Am prog 303 #[I (Aa l)] w fun e w'=>e=Af (Av (yk l))/\w'=w:=by
 have g:Y (yk l=(Mx l [47] && Ec yG l)):=rfl;have f:=hid (aV l w j);have i:Y (Am prog 216 #[I (Aa l),I ⟨#[47]⟩] w fun e w'=>e=Af (Av (Mx l [47]))/\w'=w):=by
  have h:=Tryz.strings_HasPrefix (Aa l) ⟨#[47]⟩ w;rw[Be] at h;exact h
 generalize Ec yG l=b at*;generalize Mx l [47]=c at*
 cases c
 all_goals
  go_in;go_wp2_with fail;refine i.o.mono ?_;rintro e d ⟨rfl,a⟩;rw[a]
 ·go_wp2
  go_ret;exact⟨zX (by rw[g.o];rfl),rfl⟩
 ·go_wp2_with fail
  refine f.o.mono ?_;rintro e d ⟨rfl,a⟩;rw[a];go_wp2;go_ret;exact⟨zX (by rw[g.o];rfl),rfl⟩
end Go.Proofs.YtfocdefchbnkpaaGreatDoor
namespace Go.Proofs
open Go.Shelf Go.RowKit Go.Lib Tryz
def Tryz.lays207_ren: Ij := ⟨fun|207 => 350|n => n, fun|9 => 9|4 => 4|3 => 3|n => n, fun|n => n⟩
theorem Tryz.lays207: Go.Proofs.Lays.n207 prog Tryz.lays207_ren := {
 mixed:=by kernel_rfl
 f207:=func350.trans (cgk (by kernel_rfl))
 t3:=underlying3
 a3:=isAgg3
 z3:=sizeOf3
 v3:=zeroValue3
 t4:=underlying4
 a4:=isAgg4
 z4:=sizeOf4
 v4:=zeroValue4
 t9:=underlying9
 a9:=isAgg9
 z9:=sizeOf9
 v9:=zeroValue9 }
theorem Tryz.stringslite_HasSuffix (s p : As) (w : Ag) (hs : s.size ≤ 9223372036854775807):Am prog 350 #[I s, I p] w fun e w' => e=Af (Av (Ov s.data.toList p.data.toList)) ∧ w'=w := Any.stringslite_HasSuffix Tryz.lays207 s p w hs
end Go.Proofs
namespace Go.Proofs.YtfocdefchbnkpaaGreatDoor
open Go.RowKit Tryz
theorem zf4 (l:A Ab)(c:Ab)(w:Ag)(q:Z l<=1000000):Am prog 308 #[I (Aa l),I ⟨#[c]⟩] w fun e w'=>e=Af (Cm #[I (Aa (Ca l [c]).1),I (Aa (Ca l [c]).2.1),Av (Ca l [c]).2.2])/\w.grownBy w' S:=by
 have r:=Bz l;have j:=Be l;have d:Y (Ca l [c]=if 0<=Es l [c] then (l.take (Es l [c]).toNat,l.drop ((Es l [c]).toNat+1),true) else (l,[],false)):=rfl;have a:0<=Es l [c]->Es l [c]+1<=Z l:=fun h=>by
  have:=Lib.index_room l [c] h
  simpa using this
 have i:Y (∀w,Am prog 364 #[I (Aa l),I ⟨#[c]⟩] w fun e w'=>e=Af (O Ai (Es l [c]))/\w'=w):=fun w=>by
  have h:=Tryz.stringslite_Index_one (Aa l) c w;rw[Be,wC] at h;exact h
 generalize Es l [c]=k at*
 by_cases f:0<=k
 ·rw[Az f] at d
  obtain⟨n,rfl⟩:=Sg f;have p:=a f;have m:(Aa l).extract 0 n=Aa (l.take n):=by rw[kB,Vo,Iw,j]
  have o:(Aa l).extract (n+1) (Z l)=Aa (l.drop (n+1)):=by rw[kB,j,Cc (by rw[Cy];omega)]
  go_in;go_wp2_with fail;refine(i.o _).mono ?_;rintro e g ⟨rfl,b⟩;rw[b];go_wp2
  go_region
  go_wp2
  go_ret3
  exact⟨by rw[d.o];exact eO rfl rfl,zV _⟩
 ·rw[Aw f] at d
  go_in;go_wp2_with fail;refine(i.o _).mono ?_;rintro e g ⟨rfl,b⟩;rw[b];go_wp2
  go_ret3
  exact⟨by rw[d.o];rfl,zP _ _⟩
theorem ll (l:A Ab)(c:Ab)(w:Ag)(d:Z l<=1000000):Am prog 238 #[I (Aa l),I ⟨#[c]⟩] w fun e w'=>e=Af (Cm #[I (Aa (Ca l [c]).1),I (Aa (Ca l [c]).2.1),Av (Ca l [c]).2.2])/\w.grownBy w' S:=by
 have a:=hid (zf4 l c w d);generalize Ca l [c]=x at*;go_in;go_wp2_with fail;refine a.o.mono ?_;rintro e f ⟨rfl,b⟩;go_wp2
 go_ret3
 exact⟨rfl,b⟩
theorem hY (l:A Ab)(c:Ab):Z (Ca l [c]).1<=Z l/\(Z (Ca l [c]).2.1)<=Z l:=by
 unfold Ca;split
 ·simp only[Cq,Cy];omega
 ·simp
def qQ (l:A Ab)(c:Ab):A Ab×Ee:=if Ov l [c] then (l.take (Z l-1),true) else (l,false)
theorem zcG (l:A Ab)(c:Ab)(h:Ov l [c]=true):1<=Z l:=by
 cases l with
 |nil=>simp[Ov] at h
 |cons a r=>simp
theorem zfO (l:A Ab)(c:Ab)(w:Ag)(n:Z l<=1000000):Am prog 300 #[I (Aa l),I ⟨#[c]⟩] w fun e w'=>e=Af (Cm #[I (Aa (qQ l c).1),Av (qQ l c).2])/\w.grownBy w' S:=by
 have o:=Bz l;have k:=Be l;have g:Y (qQ l c=if Ov l [c] then (l.take (Z l-1),true) else (l,false)):=rfl;have f:Y (Am prog 350 #[I (Aa l),I ⟨#[c]⟩] w fun e w'=>e=Af (Av (Ov l [c]))/\w'=w):=by
  have h:=Tryz.stringslite_HasSuffix (Aa l) ⟨#[c]⟩ w (by omega);rw[Be] at h;exact h
 have i:=zcG l c;generalize Ov l [c]=b at*
 cases b
 ·go_in
  go_wp2_with fail;refine f.o.mono ?_;rintro e d ⟨rfl,a⟩;rw[a];go_wp2
  go_ret2
  exact⟨by rw[g.o];rfl,zP _ _⟩
 ·have m:=i rfl
  have j:(Aa l).extract 0 (Z l-1)=Aa (l.take (Z l-1)):=by rw[kB,Vo,Iw,k]
  go_in;go_wp2_with fail;refine f.o.mono ?_;rintro e d ⟨rfl,a⟩;rw[a];go_wp2
  go_ret2
  exact⟨by rw[g.o,Az trivial];rfl,zP _ _⟩
theorem pU (l:A Ab)(c:Ab)(w:Ag)(d:Z l<=1000000):Am prog 231 #[I (Aa l),I ⟨#[c]⟩] w fun e w'=>e=Af (Cm #[I (Aa (qQ l c).1),Av (qQ l c).2])/\w.grownBy w' S:=by
 have a:=hid (zfO l c w d);generalize qQ l c=x at*;go_in;go_wp2_with fail;refine a.o.mono ?_;rintro e f ⟨rfl,b⟩;go_wp2
 go_ret2
 exact⟨rfl,b⟩
def ya (l:A Ab):Ee:=Iv (Ca l [58]).1 true && (!(Ca l [58]).2.2 || zm (Ca l [58]).2.1)
theorem zbQ (l:A Ab)(w:Ag)(q:Glob w)(v:Z l<=3000):Am prog 358 #[I (Aa l)] w fun e w'=>e=Af (Av (ya l))/\w.grownBy w' S:=by
 have g:=hid (ll l 58 w (by omega));have j:=hY l 58;have c:Y (ya l=(Iv (Ca l [58]).1 true && (!(Ca l [58]).2.2 || zm (Ca l [58]).2.1))):=rfl;have i:=hid q;generalize Ca l [58]=x at*;obtain⟨a,d,t⟩:=x;simp only at g c j;have n:Y (∀W,w.grownBy W S->Am prog 325 #[I (Aa a)] W fun e w'=>e=Af (Av (Iv a true))/\w.grownBy w' S):=fun W hW=>by
  obtain⟨m,s⟩:=(i.o.grown hW);have h:=nN (Aa a) W m s (by have:(Aa a).size=Z a:=Bz a;omega);rw[Be] at h;exact h.mono fun e w' ⟨q1,q2⟩=>⟨q1,zD hW q2⟩
 have r:Y (∀W,Am prog 401 #[I (Aa d)] W fun e w'=>e=Af (Av (zm d))/\w'=W):=fun W=>cT d W (by omega)
 generalize Iv a true=b1 at*;generalize zm d=b2 at*;go_in;go_wp2_with fail;refine g.o.mono ?_;rintro e y ⟨rfl,o⟩;have k:=hid o;go_wp2_with fail;refine(n.o _ k.o).mono ?_;rintro e z ⟨rfl,p⟩;have f:=hid p
 cases b1
 ·go_wp2
  go_ret;exact⟨zX (by rw[c.o];rfl),f.o⟩
 ·cases t
  ·go_wp2
   go_ret;exact⟨zX (by rw[c.o];rfl),f.o⟩
  ·go_wp2_with fail
   refine(r.o _).mono ?_;rintro e u ⟨rfl,b⟩;rw[b];go_wp2;go_ret;exact⟨zX (by rw[c.o];simp),f.o⟩
def xu (l:A Ab):Ee:=(Ca l [58]).2.2 && (R.word (Ca l [58]).1 true && Ec yX (Ca l [58]).2.1)
def qF (l:A Ab):Hd:=(Cj (Ca l [58]).1,Iq (Ca l [58]).2.1 32)
theorem mD {w:Ag}{b:Ad}{x y:Aj}{t:Cs}(h:w.heap[b]?=V (Ae #[x,y] t (0,0)))(u v:Aj):((w.setCell ⟨b,0,S⟩ u).setCell ⟨b,1,S⟩ v).heap[b]?=V (Ae #[u,v] t (0,0)):=zH (i:=1) (zH (i:=0) h u) v
theorem tK {w0 w:Ag}{b:Ad}(h:w0.grownBy w S)(a:w0.heap.size<=b)(u v:Aj):w0.grownBy ((w.setCell ⟨b,0,S⟩ u).setCell ⟨b,1,S⟩ v) S:=ze (ze h (zF _ _ _ _) a) (zF _ _ _ _) a
def uP (l:A Ab):Hd:=if xu l then qF l else ([],[])
abbrev Hla:=Ae #[I ⟨#[]⟩,I ⟨#[]⟩] 346
theorem nV (l:A Ab)(w:Ag)(hs:Z l<=3000):Am prog 304 #[I (Aa l)] w fun e w'=>e=Af (Cm #[Fe #[I (Aa (uP l).1),I (Aa (uP l).2)],Av (xu l)])/\w.grownBy w' S:=by
 have gA:w.grownBy (w.alloc Hla) S:=Ac _ _ S;have z:=hid (Bn w Hla);have q:Y (∀W,Am prog 238 #[I (Aa l),I ⟨#[58]⟩] W fun e w'=>e=Af (Cm #[I (Aa (Ca l [58]).1),I (Aa (Ca l [58]).2.1),Av (Ca l [58]).2.2])/\W.grownBy w' S):=fun W=>ll l 58 W (by omega)
 have u:=hY l 58;have p:Y (uP l=if xu l then qF l else ([],[])):=rfl;have o:Y (xu l=((Ca l [58]).2.2 && (R.word (Ca l [58]).1 true && Ec yX (Ca l [58]).2.1))):=rfl;have B:Y (qF l=(Cj (Ca l [58]).1,Iq (Ca l [58]).2.1 32)):=rfl;generalize Ca l [58]=x at*;obtain⟨c,d,hp⟩:=x;simp only at q o B u;have C:Y (∀W,Am prog 354 #[I (Aa c)] W fun e w'=>e=Af (Av (R.word c true))/\w'=W):=fun W=>by
  have h:=uB (Aa c) W (by have:(Aa c).size=Z c:=Bz c;unfold Bh;omega);rw[Be] at h;exact h
 have H:Y (∀W,Am prog 352 #[I (Aa d),.func (.func 355) #[] #[]] W fun e w'=>e=Af (Av (Ec yX d))/\w'=W):=fun W=>aW d W (by omega)
 have E:Y (∀W,Am prog 239 #[I (Aa c)] W fun e w'=>e=Af (I (Aa (Cj c)))/\W.grownBy w' S):=fun W=>by
  have h:=tF (Aa c) W (by have:(Aa c).size=Z c:=Bz c;omega);rw[Be] at h;exact h
 have F:Y (∀W,Am prog 356 #[I (Aa d),I ⟨#[32]⟩] W fun e w'=>e=Af (I (Aa (Iq d 32)))/\W.grownBy w' S):=fun W=>by
  have h:=Tryz.strings_Trim_one (Aa d) 32 (by decide) W (by have:(Aa d).size=Z d:=Bz d;omega);rw[Be] at h;exact h.mono fun e w' ⟨q1,q2⟩=>⟨q1,by rcases q2 with rfl|rfl;exact zP _ _;exact zV _⟩
 generalize R.word c true=b1 at*;generalize Ec yX d=b2 at*;go_in;go_wp2_with fail;refine(q.o _).mono ?_;rintro e w1 ⟨rfl,r⟩;have m:=hid (zD gA r);have b:=hid (zE z.o r (by simp));have k0:=cbi 0 b.o;have k1:=cbi 1 b.o;have N:=zm9 0 b.o;have Q:=zm9 1 b.o
 cases hp
 ·go_wp2_with fail
  have g:=hid (mD b.o (I ⟨#[]⟩) (I ⟨#[]⟩));have j:=cbi 0 g.o;have k:=cbi 1 g.o;exact Et (v:=.tuple #[Fe #[I ⟨#[]⟩,I ⟨#[]⟩],Av false]) (by simp[Hm,results304,go_sem,j,k]) rfl ⟨by rw[p.o,o.o];rfl,tK m.o (Aq _) _ _⟩
 ·cases b1
  ·go_wp2_with fail
   refine(C.o _).mono ?_;rintro e i ⟨rfl,a⟩;rw[a];go_wp2_with fail;have g:=hid (mD b.o (I ⟨#[]⟩) (I ⟨#[]⟩));have j:=cbi 0 g.o;have k:=cbi 1 g.o;exact Et (v:=.tuple #[Fe #[I ⟨#[]⟩,I ⟨#[]⟩],Av false]) (by simp[Hm,results304,go_sem,j,k]) rfl ⟨by rw[p.o,o.o];rfl,tK m.o (Aq _) _ _⟩
  ·go_wp2_with fail
   refine(C.o _).mono ?_;rintro e i ⟨rfl,a⟩;rw[a]
   cases b2
   ·go_wp2_with fail
    refine(H.o _).mono ?_;rintro e i ⟨rfl,a⟩;rw[a];go_wp2_with fail;have g:=hid (mD b.o (I ⟨#[]⟩) (I ⟨#[]⟩));have j:=cbi 0 g.o;have k:=cbi 1 g.o;exact Et (v:=.tuple #[Fe #[I ⟨#[]⟩,I ⟨#[]⟩],Av false]) (by simp[Hm,results304,go_sem,j,k]) rfl ⟨by rw[p.o,o.o];rfl,tK m.o (Aq _) _ _⟩
   ·go_wp2_with fail
    refine(H.o _).mono ?_;rintro e i ⟨rfl,a⟩;rw[a];go_wp2_with fail;refine(E.o _).mono ?_;rintro e w2 ⟨rfl,s⟩;have y:=hid (zD m.o s);have n:=hid (zE b.o s (by simp));go_wp2_with fail;refine(F.o _).mono ?_;rintro e w3 ⟨rfl,t⟩;have G3:=hid (zD y.o t);have f:=hid (zE n.o t (by simp));have k0:=cbi 0 f.o;have k1:=cbi 1 f.o;have N:=zm9 0 f.o;have Q:=zm9 1 f.o;go_wp2_with fail;have g:=hid (mD f.o (I (Aa (Cj c))) (I (Aa (Iq d 32))));have j:=cbi 0 g.o;have k:=cbi 1 g.o;exact Et (v:=.tuple #[Fe #[I (Aa (Cj c)),I (Aa (Iq d 32))],Av true]) (by simp[Hm,results304,go_sem,j,k]) rfl ⟨by rw[p.o,o.o,B.o];rfl,tK G3.o (Aq _) _ _⟩
end Go.Proofs.YtfocdefchbnkpaaGreatDoor
namespace Go.Proofs
open Go.Shelf Go.RowKit Go.Lib Tryz
def Tryz.laysC172_ren: Ij := ⟨fun|172 => 236|244 => 306|245 => 307|247 => 359|279 => 360|280 => 361|281 => 362|282 => 363|287 => 402|316 => 403|171 => 159|205 => 404|321 => 423|322 => 424|243 => 219|246 => 298|283 => 346|284 => 347|285 => 348|286 => 349|129 => 285|317 => 387|318 => 388|319 => 389|320 => 390|337 => 415|338 => 416|n => n, fun|9 => 9|3 => 3|75 => 270|76 => 271|4 => 4|5 => 5|167 => 421|37 => 32|0 => 0|85 => 422|2 => 2|168 => 424|53 => 60|175 => 451|46 => 220|210 => 454|127 => 215|145 => 466|143 => 464|21 => 21|171 => 415|173 => 417|212 => 441|51 => 152|20 => 20|213 => 442|232 => 469|233 => 470|80 => 58|n => n, fun|15 => 2|16 => 3|17 => 1|18 => 4|19 => 5|n => n⟩
theorem Tryz.laysC172: Go.Proofs.LaysC.n172 prog Tryz.laysC172_ren := {
 mixed:=by kernel_rfl
 f129:=func285.trans (cgk (by kernel_rfl))
 f171:=func159.trans (cgk (by kernel_rfl))
 f172:=func236.trans (cgk (by kernel_rfl))
 f205:=func404.trans (cgk (by kernel_rfl))
 f243:=func219.trans (cgk (by kernel_rfl))
 f244:=func306.trans (cgk (by kernel_rfl))
 f245:=func307.trans (cgk (by kernel_rfl))
 f246:=func298.trans (cgk (by kernel_rfl))
 f247:=func359.trans (cgk (by kernel_rfl))
 f279:=func360.trans (cgk (by kernel_rfl))
 f280:=func361.trans (cgk (by kernel_rfl))
 f281:=func362.trans (cgk (by kernel_rfl))
 f282:=func363.trans (cgk (by kernel_rfl))
 f283:=func346.trans (cgk (by kernel_rfl))
 f284:=func347.trans (cgk (by kernel_rfl))
 f285:=func348.trans (cgk (by kernel_rfl))
 f286:=func349.trans (cgk (by kernel_rfl))
 f287:=func402.trans (cgk (by kernel_rfl))
 f316:=func403.trans (cgk (by kernel_rfl))
 f317:=func387.trans (cgk (by kernel_rfl))
 f318:=func388.trans (cgk (by kernel_rfl))
 f319:=func389.trans (cgk (by kernel_rfl))
 f320:=func390.trans (cgk (by kernel_rfl))
 f321:=func423.trans (cgk (by kernel_rfl))
 f322:=func424.trans (cgk (by kernel_rfl))
 f337:=func415.trans (cgk (by kernel_rfl))
 f338:=func416.trans (cgk (by kernel_rfl))
 t0:=underlying0
 a0:=isAgg0
 z0:=sizeOf0
 v0:=zeroValue0
 t2:=underlying2
 a2:=isAgg2
 z2:=sizeOf2
 v2:=zeroValue2
 t3:=underlying3
 a3:=isAgg3
 z3:=sizeOf3
 v3:=zeroValue3
 t4:=underlying4
 a4:=isAgg4
 z4:=sizeOf4
 v4:=zeroValue4
 t5:=underlying5
 a5:=isAgg5
 z5:=sizeOf5
 v5:=zeroValue5
 t9:=underlying9
 a9:=isAgg9
 z9:=sizeOf9
 v9:=zeroValue9
 t20:=underlying20
 a20:=isAgg20
 z20:=sizeOf20
 v20:=zeroValue20
 t21:=underlying21
 a21:=isAgg21
 z21:=sizeOf21
 v21:=zeroValue21
 t37:=underlying32
 a37:=isAgg32
 z37:=sizeOf32
 v37:=zeroValue32
 t46:=underlying220
 a46:=isAgg220
 z46:=sizeOf220
 v46:=zeroValue220
 t51:=underlying152
 a51:=isAgg152
 z51:=sizeOf152
 v51:=zeroValue152
 t53:=underlying60
 a53:=isAgg60
 z53:=sizeOf60
 v53:=zeroValue60
 t75:=underlying270
 a75:=isAgg270
 z75:=sizeOf270
 v75:=zeroValue270
 t76:=underlying271
 a76:=isAgg271
 z76:=sizeOf271
 v76:=zeroValue271
 t85:=underlying422
 a85:=isAgg422
 z85:=sizeOf422
 v85:=zeroValue422
 t127:=underlying215
 a127:=isAgg215
 z127:=sizeOf215
 v127:=zeroValue215
 t143:=underlying464
 a143:=isAgg464
 z143:=sizeOf464
 v143:=zeroValue464
 t145:=underlying466
 a145:=isAgg466
 z145:=sizeOf466
 v145:=zeroValue466
 t167:=underlying421
 a167:=isAgg421
 z167:=sizeOf421
 v167:=zeroValue421
 t168:=underlying424
 a168:=isAgg424
 z168:=sizeOf424
 v168:=zeroValue424
 t171:=underlying415
 a171:=isAgg415
 z171:=sizeOf415
 v171:=zeroValue415
 t173:=underlying417
 a173:=isAgg417
 z173:=sizeOf417
 v173:=zeroValue417
 t175:=underlying451
 a175:=isAgg451
 z175:=sizeOf451
 v175:=zeroValue451
 t210:=underlying454
 a210:=isAgg454
 z210:=sizeOf454
 v210:=zeroValue454
 t212:=underlying441
 a212:=isAgg441
 z212:=sizeOf441
 v212:=zeroValue441
 t213:=underlying442
 a213:=isAgg442
 z213:=sizeOf442
 t232:=underlying469
 a232:=isAgg469
 z232:=sizeOf469
 v232:=zeroValue469
 t233:=underlying470
 a233:=isAgg470
 z233:=sizeOf470
 v233:=zeroValue470
 g15:=by kernel_rfl
 g16:=by kernel_rfl
 g17:=by kernel_rfl
 g18:=by kernel_rfl
 g19:=by kernel_rfl
 t80:=underlying58
 a80:=isAgg58
 z80:=sizeOf58
 v80:=zeroValue58
 i0:=by kernel_rfl
 i2:=by kernel_rfl
 i3:=by kernel_rfl
 i4:=by kernel_rfl
 i5:=by kernel_rfl
 i9:=by kernel_rfl
 i20:=by kernel_rfl
 i21:=by kernel_rfl
 i37:=by kernel_rfl
 i46:=by kernel_rfl
 i51:=by kernel_rfl
 i53:=by kernel_rfl
 i75:=by kernel_rfl
 i76:=by kernel_rfl
 i80:=by kernel_rfl
 i85:=by kernel_rfl
 i127:=by kernel_rfl
 i143:=by kernel_rfl
 i145:=by kernel_rfl
 i167:=by kernel_rfl
 i168:=by kernel_rfl
 i171:=by kernel_rfl
 i173:=by kernel_rfl
 i175:=by kernel_rfl
 i210:=by kernel_rfl
 i212:=by kernel_rfl
 i232:=by kernel_rfl
 i233:=by kernel_rfl
 m15:=by kernel_rfl
 m16:=by kernel_rfl
 m17:=by kernel_rfl
 m18:=by kernel_rfl
 m19:=by kernel_rfl
 c0:=by kernel_rfl
 c2:=by kernel_rfl
 c3:=by kernel_rfl
 c4:=by kernel_rfl
 c5:=by kernel_rfl
 c9:=by kernel_rfl
 c20:=by kernel_rfl
 c21:=by kernel_rfl
 c37:=by kernel_rfl
 c46:=by kernel_rfl
 c51:=by kernel_rfl
 c53:=by kernel_rfl
 c75:=by kernel_rfl
 c76:=by kernel_rfl
 c80:=by kernel_rfl
 c85:=by kernel_rfl
 c127:=by kernel_rfl
 c143:=by kernel_rfl
 c145:=by kernel_rfl
 c167:=by kernel_rfl
 c168:=by kernel_rfl
 c171:=by kernel_rfl
 c173:=by kernel_rfl
 c175:=by kernel_rfl
 c210:=by kernel_rfl
 c212:=by kernel_rfl
 c213:=by kernel_rfl
 c232:=by kernel_rfl
 c233:=by kernel_rfl }
theorem Tryz.strconv_Atoi_err (s : As) (hl : s.size ≤ 18) (h : Lib.atoi s.data.toList=S) (ev : Aj) (w : Ag) (hv : w.cell? ⟨Tryz.laysC172_ren.g 15, 0, S⟩=V ev) (hev : ev = .nilIface ∨ ∃ te pe, ev = .iface te pe):Am prog 236 #[I s] w fun e w' => ∃ x, e=Af (Cm #[O Ai 0, x]) ∧ Below w.heap.size w w' :=
  (Any.strconv_Atoi_err Tryz.laysC172 s hl h ev w hv hev).mono fun _ _ ⟨_, h1, _, _, h2⟩ => ⟨_, h1, h2⟩
end Go.Proofs
namespace Go.Proofs.YtfocdefchbnkpaaGreatDoor
open Go.RowKit Tryz
def jn:A Ab:=[72,84,84,80,47,49,46,49,32,52,48,48,32,66,97,100,32,82,101,113,117,101,115,116,13,10,99,111,110,110,101,99,116,105,111,110,58,32,99,108,111,115,101,13,10,99,111,110,116,101,110,116,45,108,101,110,103,116,104,58,32,48,13,10,13,10]
def wl:A Ab:=[72,84,84,80,47,49,46,49,32,52,49,51,32,67,111,110,116,101,110,116,32,84,111,111,32,76,97,114,103,101,13,10,99,111,110,110,101,99,116,105,111,110,58,32,99,108,111,115,101,13,10,99,111,110,116,101,110,116,45,108,101,110,103,116,104,58,32,48,13,10,13,10]
def j6:A Ab:=[72,84,84,80,47,49,46,49,32,52,51,49,32,82,101,113,117,101,115,116,32,72,101,97,100,101,114,32,70,105,101,108,100,115,32,84,111,111,32,76,97,114,103,101,13,10,99,111,110,110,101,99,116,105,111,110,58,32,99,108,111,115,101,13,10,99,111,110,116,101,110,116,45,108,101,110,103,116,104,58,32,48,13,10,13,10]
def uj:A Ab:=[72,84,84,80,47,49,46,49,32,53,48,49,32,78,111,116,32,73,109,112,108,101,109,101,110,116,101,100,13,10,99,111,110,110,101,99,116,105,111,110,58,32,99,108,111,115,101,13,10,99,111,110,116,101,110,116,45,108,101,110,103,116,104,58,32,48,13,10,13,10]
def uH:A Ab:=[116,114,97,110,115,102,101,114,45,101,110,99,111,100,105,110,103]
def x5:A Ab:=[99,111,110,116,101,110,116,45,108,101,110,103,116,104]
def xw:A Ab:=[104,111,115,116]
def xK:A Ab:=[72,84,84,80,47,49,46,49]
def qj (b:Ee):A Ab:=if b then [] else jn
theorem tS (b:Ee)(w:Ag):Am prog 232 #[Av b] w fun e w'=>e=Af (I (Aa (qj b)))/\w'=w:=by
 cases b
 all_goals
  go_in;go_wp2;go_ret;exact⟨rfl,rfl⟩
def GE (w:Ag):Prop:=∃ev,w.cell? ⟨Tryz.laysC172_ren.g 15,0,S⟩=V ev/\(ev = .nilIface\/∃te pe,ev = .iface te pe)
variable {w w':Ag}
theorem GE.grown (h:GE w)(d:w.grownBy w' S):GE w':=by
 obtain⟨a,b,c⟩:=h;exact⟨a,d.cell b (by simp),c⟩
def xL (l:A Ab):Ak:=R.num l
theorem rJ {l:A Ab}(h:zm l=true):Lib.atoi l=V (xL l)/\0<=xL l/\xL l<=99999/\(Z l)<=5:=by
 unfold zm at h;simp only[Ez,Gd] at h;obtain⟨b,a,c⟩:=h;have d:1<=Z l:=by cases l with|nil=>exact absurd rfl b|cons=>simp
 obtain⟨f,g,i⟩:=mM l a d c;exact⟨f,g,i,a⟩
theorem nS (l:A Ab)(w:Ag)(h:l=[]\/zm l=true)(d:GE w):Am prog 177 #[I (Aa l)] w fun e w'=>e=Af (O Ai (xL l))/\w.grownBy w' S:=by
 have b:Y (Am prog 236 #[I (Aa l)] w fun e w'=>(∃x,e=Af (Cm #[O Ai (xL l),x]))/\w.grownBy w' S):=by
  rcases h with rfl|h
  ·obtain⟨g,i,j⟩:=d
   exact(Tryz.strconv_Atoi_err (Aa []) (by decide) (by decide) g w i j).mono fun e w' ⟨x,a,q2⟩=>⟨⟨x,a⟩,zt q2⟩
  ·obtain⟨a,_,_,k⟩:=rJ h
   refine(Tryz.strconv_Atoi (Aa l) (xL l) (by have:(Aa l).size=Z l:=Bz l;omega) (by rw[Be];exact a) w).mono fun e w' ⟨a,t,q2⟩=>⟨⟨_,a⟩,by rw[q2];exact ww _ _ _⟩
 generalize xL l=n at*;go_in;go_wp2_with fail;refine b.o.mono ?_;rintro e m ⟨⟨x,rfl⟩,c⟩;have f:=hid c;go_wp2;go_ret;exact⟨rfl,f.o⟩
def yM (x:Hd)(l:A Hd):A Ab:=if xY x.1 l || !zm x.2 then jn else if 300<xL x.2 then wl else []
variable {B b a k c i n yb m:Ad}{v d j g f o l:Aj}
theorem cV (x:Hd)(l:A Hd)(n:w.ownsRow B 346 2 v (Z l) (zi l))(y:Z l<=1000000)(E:Z x.2<=3000)(u:GE w):Am prog 357 #[Fe #[I (Aa x.1),I (Aa x.2)],v] w fun e w'=>e=Af (I (Aa (yM x l)))/\w.grownBy w' S:=by
 obtain⟨H,N,rfl⟩:=zL n;have m:w.grownBy (w.alloc (Hl2 x.1 x.2)) S:=Ac _ _ S;have g:=hid (Bn w (Hl2 x.1 x.2));have q:=hid (aj x.1 l (zK n m (fun k hk c=>by cases c)) y);have s:Y (∀W,Am prog 401 #[I (Aa x.2)] W fun e w'=>e=Af (Av (zm x.2))/\w'=W):=fun W=>cT x.2 W (by omega)
 have f:Y (yM x l=if xY x.1 l || !zm x.2 then jn else if 300<xL x.2 then wl else []):=rfl;have r:Y (zm x.2=true->∀W,w.grownBy W S->Am prog 177 #[I (Aa x.2)] W fun e w'=>e=Af (O Ai (xL x.2))/\W.grownBy w' S):=fun h W hW=>nS x.2 W (Bf h) (u.grown hW)
 have p:=hid m;have z:=cbi 0 g.o;generalize xY x.1 l=b1 at*;generalize zm x.2=b2 at*;go_in;go_upto_region 1 with fail;generalize w.alloc (Hl2 x.1 x.2)=wa at*;go_wp2_with fail;refine q.o.mono ?_;rintro e Q ⟨rfl,j⟩;have a:=hid (zD p.o j);have i:=hid (zE g.o j (by simp));have F:=cbi 1 i.o
 cases b1
 ·go_wp2_with fail
  refine(s.o _).mono ?_;rintro e C ⟨rfl,d⟩;rw[d]
  cases b2
  ·go_wp2
   go_ret;exact⟨by rw[f.o];rfl,a.o⟩
  ·go_wp2_with fail
   refine(r.o (by trivial) _ a.o).mono ?_;rintro e w2 ⟨rfl,t⟩;have o:=hid (zD a.o t)
   by_cases b:300<xL x.2
   ·go_wp2
    go_ret;exact⟨by rw[f.o,Az b];rfl,o.o⟩
   ·go_wp2
    go_ret;exact⟨by rw[f.o,Aw (show ¬300<xL x.2 by omega)];rfl,o.o⟩
 ·go_wp2
  go_ret;exact⟨by rw[f.o];rfl,a.o⟩
def yN (x:Hd)(l:A Hd):A Ab:=
 if (Z l)=12 then j6 else if x.1=uH then uj else if x.1=x5 then yM x l else if x.1=xw then qj (ya x.2 && !xY x.1 l) else []
theorem vC (a b:A Ab):((Aa a).toList == b)=decide (a=b):=by
 rw[El,Be,Eb];simp
theorem o8 (x:Hd)(l:A Hd)(N:w.ownsRow B 346 2 v (Z l) (zi l))(hn:Z l<=1000000)(hx:Z x.2<=3000)(hG:Glob w)(hE:GE w):Am prog 305 #[Fe #[I (Aa x.1),I (Aa x.2)],v] w fun e w'=>e=Af (I (Aa (yN x l)))/\w.grownBy w' S:=by
 obtain⟨va,vk,rfl⟩:=zL N;have y:w.grownBy (w.alloc (Hl2 x.1 x.2)) S:=Ac _ _ S;have E:=hid (Bn w (Hl2 x.1 x.2));have n:=zK N y (fun k hk c=>by cases c);have H:=hid (cV x l n hn hx (hE.grown y));have u:=hid (zbQ x.2 _ (hG.grown y) hx);have a:Y (yN x l=if (Z l)=12 then j6 else if x.1=uH then uj else if x.1=x5 then yM x l else if x.1=xw then qj (ya x.2 && !xY x.1 l) else []):=rfl;have g:=J (tS);have d:=hid y;have q0:=cbi 0 E.o;have q1:=cbi 1 E.o;have t:Y (∀W W',(w.alloc (Hl2 x.1 x.2)).grownBy W W'->W'=S->Am prog 234 #[I (Aa x.1),X va (Z l) vk] W fun e w'=>e=Af (Av (xY x.1 l))/\W.grownBy w' S):=fun W W' h1 h2=>by
  subst h2;exact aj x.1 l (zK n h1 (fun k hk c=>by cases c)) hn
 have p:Y (∀b,decide (x.1=uH)=b->((Aa x.1).toList == [116,114,97,110,115,102,101,114,45,101,110,99,111,100,105,110,103])=b):=fun b hb=>by rw[vC];exact hb
 have q:Y (∀b,decide (x.1=x5)=b->((Aa x.1).toList == [99,111,110,116,101,110,116,45,108,101,110,103,116,104])=b):=fun b hb=>by rw[vC];exact hb
 have r:Y (∀b,decide (x.1=xw)=b->((Aa x.1).toList == [104,111,115,116])=b):=fun b hb=>by rw[vC];exact hb
 clear N y hE hG n;go_in;go_upto_region 1 with fail;generalize w.alloc (Hl2 x.1 x.2)=wa at*
 by_cases m:Z l=12
 ·have z:(Z l:Ak)=12:=by omega
  rw[Az m] at a;clear m;go_wp2;go_ret;exact⟨by rw[a.o];rfl,d.o⟩
 ·have z:¬(Z l:Ak)=12:=by omega
  rw[Aw m] at a
  by_cases h:x.1=uH
  ·have d1:=p.o true (Cf h)
   rw[Az h] at a;clear h;go_wp2;go_ret;exact⟨by rw[a.o];rfl,d.o⟩
  ·have d1:=p.o false (Ce h)
   rw[Aw h] at a
   by_cases i:x.1=x5
   ·have d2:=q.o true (Cf i)
    rw[Az i] at a;clear h i;go_wp2_with fail;refine H.o.mono ?_;rintro e w1 ⟨rfl,j⟩;have C:=hid (zD d.o j);clear j;go_wp2;go_ret;exact⟨by rw[a.o];rfl,C.o⟩
   ·have d2:=q.o false (Ce i)
    rw[Aw i] at a
    by_cases o:x.1=xw
    ·have d3:=r.o true (Cf o)
     rw[Az o] at a;clear h i o;generalize ya x.2=b1 at*;generalize xY x.1 l=b2 at*;go_wp2_with fail;refine u.o.mono ?_;rintro e w1 ⟨rfl,j⟩;have C:=hid (zD d.o j);have F:=hid (zE E.o j (by simp));have s:=hid (t.o w1 S j rfl);have k0:=cbi 0 F.o;clear j u E q0 q1
     cases b1
     ·go_wp2_with fail
      refine(g.o _ _).mono ?_;rintro e Q ⟨rfl,f⟩;rw[f];clear f Q;go_wp2;go_ret;exact⟨by rw[a.o];rfl,C.o⟩
     ·go_wp2_with fail
      refine s.o.mono ?_;rintro e w2 ⟨rfl,g2⟩;have G2:=hid (zD C.o g2);clear g2 s;go_wp2_with fail;refine(g.o _ _).mono ?_;rintro e Q ⟨rfl,f⟩;rw[f];clear f Q;go_wp2;go_ret;exact⟨by rw[a.o];rfl,G2.o⟩
    ·have d3:=r.o false (Ce o)
     rw[Aw o] at a;clear h i o;go_wp2;go_ret;exact⟨by rw[a.o];rfl,d.o⟩
structure Rq.Head where
 size:Ad
 line:A Ab
 method:A Ab
 target:A Ab
 headers:A Hd
structure HInv (w:Ag) (cb B:Ad) (wt:Aj) (h:Rq.Head):Prop where
 ex:∃vl vh,w.heap[cb]?=V (Ae #[O Ai h.size,vl,I (Aa h.method),I (Aa h.target),vh,wt] 106 (0,0))/\w.ownsRow B 5 1 vl (Z h.line) (Ba h.line)/\w.ownsRow B 346 2 vh (Z h.headers) (zi h.headers)
 low:B<=cb
def HF (w:Ag)(cb k:Ad):Prop:=k=cb\/∃i v,w.cell? ⟨cb,i,S⟩=V v/\v.ownBlock=V k
structure HMv (w w':Ag) (cb:Ad):Prop where
 turn:Turn w w' (HF w cb)
 foot:∀k,HF w' cb k->HF w cb k\/w.heap.size<=k
theorem kJ (h:w'.heap[b]?=w.heap[b]?)(i:Ad):w'.cell? ⟨b,i,S⟩=w.cell? ⟨b,i,S⟩:=by
 simp only[World.cell?,h]
theorem t6 (h:w'.heap[a]?=w.heap[a]?)(b:HF w' a k):HF w a k:=by grind[kJ,HF]
theorem HMv.of_grown (b:a<w.heap.size)(g:w.grownBy w' S):HMv w w' a:=
 ⟨⟨g.os,g.tape,g.output,g.size,fun k hk _=>g.block k hk (by simp)⟩,fun _ hk=>Ay (t6 (g.block a b (by simp)) hk)⟩
theorem HMv.trans {x y:Ag}(a:HMv w x c)(b:HMv x y c):HMv w y c:=by
 refine⟨⟨b.turn.os.trans a.turn.os,b.turn.tape.trans a.turn.tape,b.turn.output.trans a.turn.output,Bi a.turn.size b.turn.size,fun k hk hn=>(b.turn.block k (Eh hk a.turn.size) (fun hF=>?_)).trans (a.turn.block k hk hn)⟩,fun k hk=>?_⟩
 ·rcases a.foot k hF with h|h
  ·exact hn h
  ·omega
 ·rcases b.foot k hk with h|h
  ·exact a.foot k h
  ·exact Bf (Bi a.turn.size h)
theorem HMv.set {x:Aj}(d:w.cell? ⟨a,i,S⟩=V x)(c:∀k,v.ownBlock=V k->HF w a k\/w.heap.size<=k):HMv w (w.setCell ⟨a,i,S⟩ v) a:=by
 have g:=zF w a i v;refine⟨⟨g.os,g.tape,g.output,g.size,fun k hk hn=>g.block k hk (fun e=>hn (Ay (Bc e)))⟩,fun k hk=>?_⟩;rcases hk with hk|⟨j,u,h1,h2⟩
 ·exact Ay (Ay hk)
 ·by_cases b:j=i
  ·subst b
   rw[Vs _ _ _ d] at h1;exact c k (by rw[Bc h1];exact h2)
  ·rw[Vm _ _ _ _ (by simp;try omega)] at h1
   exact Ay (Bf ⟨j,u,h1,h2⟩)
theorem HMv.row (d:w.cell? ⟨a,i,S⟩=V v)(c:a<w.heap.size)(g:w.grownBy w' v.ownBlock)(b:∀k,v.ownBlock=V k->k≠a):HMv w w' a:=
 ⟨⟨g.os,g.tape,g.output,g.size,fun k hk hn=>g.block k hk (fun e=>hn (Bf ⟨i,v,d,e.symm⟩))⟩,fun _ hk=>Ay (t6 (g.block a c (fun e=>b a e.symm rfl)) hk)⟩
variable {h:Rq.Head}
theorem HInv.lt {b:Aj}(c:HInv w a B b h):a<w.heap.size:=by grind[Rq.Head,HInv]
theorem HInv.keep (b:HInv w a B d h)(g:w.grownBy w' S):HInv w' a B d h:=by
 obtain⟨l,k,f,i,j⟩:=b.ex;exact⟨⟨l,k,zE f g (by simp),zK i g (fun _ _ c=>by cases c),zK j g (fun _ _ c=>by cases c)⟩,b.low⟩
theorem HInv.setn (f:HInv w a B j h)(x:Ad):HInv (w.setCell ⟨a,0,S⟩ (O Ai (x:Ad))) a B j { h with size:=x }/\HMv w (w.setCell ⟨a,0,S⟩ (O Ai (x:Ad))) a:=by
 obtain⟨m,l,b,c,d⟩:=f.ex;have g:=zF w a 0 (O Ai (x:Ad));exact⟨⟨⟨m,l,zH (i:=0) b _,zJ c g (zI b c (by decide)),zJ d g (zI b d (by decide))⟩,f.low⟩,HMv.set (zB b) (fun k hk=>by cases hk)⟩
theorem HInv.setm (f:HInv w a B j h)(x:A Ab):HInv (w.setCell ⟨a,2,S⟩ (I (Aa x))) a B j { h with method:=x }/\HMv w (w.setCell ⟨a,2,S⟩ (I (Aa x))) a:=by
 obtain⟨m,l,b,c,d⟩:=f.ex;have g:=zF w a 2 (I (Aa x));exact⟨⟨⟨m,l,zH (i:=2) b _,zJ c g (zI b c (by decide)),zJ d g (zI b d (by decide))⟩,f.low⟩,HMv.set (zB b) (fun k hk=>by cases hk)⟩
theorem HInv.sett (f:HInv w a B j h)(x:A Ab):HInv (w.setCell ⟨a,3,S⟩ (I (Aa x))) a B j { h with target:=x }/\HMv w (w.setCell ⟨a,3,S⟩ (I (Aa x))) a:=by
 obtain⟨m,l,b,c,d⟩:=f.ex;have g:=zF w a 3 (I (Aa x));exact⟨⟨⟨m,l,zH (i:=3) b _,zJ c g (zI b c (by decide)),zJ d g (zI b d (by decide))⟩,f.low⟩,HMv.set (zB b) (fun k hk=>by cases hk)⟩
def yI (l:A Ab):A (A Ab):=Io [32] 0 (Lib.count l [32]) l
theorem zj0 (s:As):s=Aa s.data.toList:=by rw[R.str_of]
theorem zfM (l:A Ab)(d:Glob w)(j:Z l<=3000):Am prog 301 #[I (Aa l),I ⟨#[32]⟩] w fun e w'=>∃g,e=Af (X (V ⟨g,0,S⟩) (Z (yI l)) (Z (yI l)))/\w.grownBy w' S/\∀i p,(yI l)[i]?=V p->w'.cell? ⟨g,i,S⟩=V (I (Aa p)):=by
 obtain⟨m,f⟩:=d;have k:=Bz l;have c:yI l=(Qy ⟨#[32]⟩ 0 (Oe (Aa l) ⟨#[32]⟩) (Aa l)).map (·.data.toList):=by
  rw[Lib.splitB_data,Be];rfl
 have a:Z (Qy ⟨#[32]⟩ 0 (Oe (Aa l) ⟨#[32]⟩) (Aa l))=Oe (Aa l) ⟨#[32]⟩+1:=Lib.splitB_all _ (by decide) 0 _ _ rfl;refine(Tryz.strings_Split (Aa l) ⟨#[32]⟩ m w (by omega) f (by decide)).mono ?_;rintro e w' ⟨rfl,rfl⟩;generalize Qy ⟨#[32]⟩ 0 (Oe (Aa l) ⟨#[32]⟩) (Aa l)=sp at*;refine⟨w.heap.size,by rw[c,Bv,a],Ac _ _ S,fun i p hi=>?_⟩;rw[c,Fq,Oz] at hi;obtain⟨q,h,rfl⟩:=hi;obtain⟨b,rfl⟩:=Bo.1 h;rw[gf w sp i b,<-zj0]
def xo (l:A Ab):Ee:=
 match yI l with
 |[m,t,v]=>xr m && (yk t && decide (v=xK))
 |_=>false
def yH (h:Rq.Head)(l:A Ab):Rq.Head:=
 match yI l with
 |[m,t,v]=>if xr m && (yk t && decide (v=xK)) then { h with method:=m,target:=t } else h
 |_=>h
theorem lM (l:A Ab)(d:Z l<=3000):∀p∈yI l,Z p<=3000:=by
 have b:∀(k:Ad) (t:A Ab),Z t<=3000->∀p∈Io [32] 0 k t,Z p<=3000:=by
  intro k
  induction k with
  |zero=>intro t c p a;rw[Io] at a;simp at a;subst a;exact c
  |succ k ih=>
   intro t c p a;rw[Io] at a
   split at a
   ·simp at a;subst a;exact c
   ·rcases En.1 a with rfl|a
    ·rw[Cq];omega
    ·exact ih _ (by rw[Cy];omega) p a
 exact b _ l d
theorem zeV {C:Aj}(F:HInv w n B C h)(l:A Ab)(hl:Z l<=3000)(hG:Glob w):Am prog 233 #[Al (V ⟨n,0,S⟩),I (Aa l)] w fun e w'=>e=Af (Av (xo l))/\HInv w' n B C (yH h l)/\HMv w w' n:=by
 have Q:=hid (zfM l hG hl);have H:=hid F;have p:=hid (lM l hl);have k:Y (xo l=match yI l with|[m,t,v]=>xr m && (yk t && decide (v=xK))|_=>false):=rfl;have f:Y (yH h l=match yI l with|[m,t,v]=>if xr m && (yk t && decide (v=xK)) then { h with method:=m,target:=t } else h|_=>h):=rfl;have x:=F.lt;generalize yI l=ps at*;generalize xo l=ok at*;generalize yH h l=h' at*;go_in;go_wp2_with fail;refine Q.o.mono ?_;rintro e z ⟨g,rfl,E,hc⟩;have q:=hid E;have I1:=hid (H.o.keep E);have o:=hid hc;have i:Y (ok=false->h'=h->w.grownBy z S->HInv z n B C h'/\HMv w z n):=fun _ e hg=>⟨by rw[e];exact H.o.keep hg,HMv.of_grown x hg⟩
 match ps,k,f,p,o with
 |[m,t,v],k,f,p,o=>
  have c0:=o.o 0 m rfl;have c1:=o.o 1 t rfl;have c2:=o.o 2 v rfl;have N:Y (∀W,Am prog 302 #[I (Aa m)] W fun e w'=>e=Af (Av (xr m))/\w'=W):=fun W=>ax m W (by have:=p.o m (by simp);omega)
  have HT:Y (∀W,Am prog 303 #[I (Aa t)] W fun e w'=>e=Af (Av (yk t))/\w'=W):=fun W=>ay t W (by have:=p.o t (by simp);omega)
  have e3:((Aa v).toList == [72,84,84,80,47,49,46,49])=decide (v=xK):=vC v _;simp only at k f;generalize xr m=b1 at*;generalize yk t=b2 at*;generalize decide (v=xK)=b3 at*
  cases b1
  ·go_wp2_with fail
   refine(N.o _).mono ?_;rintro e s ⟨rfl,j⟩;rw[j];go_wp2;go_ret;exact⟨zX (by rw[k.o];rfl),i.o (by rw[k.o];rfl) (by rw[f.o];rfl) q.o⟩
  ·go_wp2_with fail
   refine(N.o _).mono ?_;rintro e s ⟨rfl,j⟩;rw[j]
   cases b2
   ·go_wp2_with fail
    refine(HT.o _).mono ?_;rintro e s ⟨rfl,j⟩;rw[j];go_wp2;go_ret;exact⟨zX (by rw[k.o];rfl),i.o (by rw[k.o];rfl) (by rw[f.o];rfl) q.o⟩
   ·go_wp2_with fail
    refine(HT.o _).mono ?_;rintro e s ⟨rfl,j⟩;rw[j]
    cases b3
    ·go_wp2
     go_ret;exact⟨zX (by rw[k.o];rfl),i.o (by rw[k.o];rfl) (by rw[f.o];rfl) q.o⟩
    ·obtain⟨vl,vh,y,q2,q3⟩:=I1.o.ex
     have k2:=cbi 2 y;have k3:=cbi 3 y;have f2:=zm9 2 y;have f3:=zm9 3 y;have u:Y (HInv (((z.setCell ⟨n,2,S⟩ (I (Aa m))).setCell ⟨n,3,S⟩ (I (Aa t))).drew) n B C { h with method:=m,target:=t }/\HMv w (((z.setCell ⟨n,2,S⟩ (I (Aa m))).setCell ⟨n,3,S⟩ (I (Aa t))).drew) n):=by
      obtain⟨i2,m2⟩:=I1.o.setm m;obtain⟨i3,m3⟩:=i2.sett t;exact⟨i3.keep (zV _),(((HMv.of_grown x q.o).trans m2).trans m3).trans (HMv.of_grown i3.lt (zV _))⟩
     go_upto_region 4 with fail
     go_region
     go_wp2;go_ret;exact⟨zX (by rw[k.o];rfl),by rw[f.o];exact u.o⟩
 |[],k,f,p,o=>
  go_wp2;go_ret;exact⟨zX (by rw[k.o]),i.o k.o f.o q.o⟩
 |[a],k,f,p,o=>
  go_wp2;go_ret;exact⟨zX (by rw[k.o]),i.o k.o f.o q.o⟩
 |[a,b],k,f,p,o=>
  go_wp2;go_ret;exact⟨zX (by rw[k.o]),i.o k.o f.o q.o⟩
 |a::b::c::d::r,k,f,p,o=>
  have aa:¬((Z r:Ak)+1+1+1+1=3):=by omega
  go_wp2;go_ret;exact⟨zX (by rw[k.o]),i.o k.o f.o q.o⟩
theorem HMv.append {f:Ag}{g:Ad}(m:w.cell? ⟨a,i,S⟩=V v)(r:a<w.heap.size)(p:w.grownBy f v.ownBlock)(q:∀k,v.ownBlock=V k->k≠a)(l:v.ownBlock=V g\/g=w.heap.size):HMv w (f.setCell ⟨a,i,S⟩ (X (V ⟨g,0,S⟩) n c)) a:=by
 have b:=HMv.row m r p q;have d:=zF f a i (X (V ⟨g,0,S⟩) n c);have o:f.cell? ⟨a,i,S⟩=V v:=by rw[kJ (p.block a r (fun e=>q a e.symm rfl))];exact m
 refine⟨⟨d.os.trans b.turn.os,d.tape.trans b.turn.tape,d.output.trans b.turn.output,Bi b.turn.size d.size,fun k hk hn=>(d.block k (Eh hk b.turn.size) (fun e=>hn (Ay (Bc e)))).trans (b.turn.block k hk hn)⟩,fun k hk=>?_⟩;rcases hk with hk|⟨j,u,q1,q2⟩
 ·exact Ay (Ay hk)
 ·by_cases t:j=i
  ·subst t
   rw[Vs _ _ _ o] at q1;obtain rfl:=Bc q1;have s:g=k:=by simpa[Ix] using q2
   subst s;rcases l with h|h
   ·exact Ay (Bf ⟨j,v,m,h⟩)
   ·exact Bf (by omega)
  ·rw[Vm _ _ _ _ (by simp;try omega)] at q1
   exact b.foot k (Bf ⟨j,u,q1,q2⟩)
def jc (h:Rq.Head)(l:A Ab):Rq.Head:=if xu l then { h with headers:=h.headers++[qF l] } else h
def xq (h:Rq.Head)(l:A Ab):A Ab:=if xu l then yN (qF l) h.headers else jn
theorem sL (l:A Ab)(h:Z l<=3000):Z (qF l).2<=3000:=by
 have a:=(hY l 58).2;have b:Z (Iq (Ca l [58]).2.1 32)<=Z (Ca l [58]).2.1:=by
  unfold Iq Hi Gh;refine Bi (Ss _).length_le ?_;rw[Nv];exact Bi (Ss _).length_le (by rw[Nv];exact Aq _)
 unfold qF;simp only
 omega
theorem zkM {wt:Aj}(hI:HInv w n B wt h)(l:A Ab)(hl:Z l<=3000)(hn:Z h.headers<=100000)(hB:B<=w.heap.size)(hG:Glob w)(hE:GE w):Am prog 235 #[Al (V ⟨n,0,S⟩),I (Aa l)] w fun e w'=>e=Af (I (Aa (xq h l)))/\HInv w' n B wt (jc h l)/\HMv w w' n:=by
 have ab:=hid (nV l w hl);have HI:=hid hI;have ae:=hI.lt;have HA:Y (jc h l=if xu l then { h with headers:=h.headers++[qF l] } else h):=rfl;have HO:Y (xq h l=if xu l then yN (qF l) h.headers else jn):=rfl;have ak:Y (uP l=if xu l then qF l else ([],[])):=rfl;have ax:=sL l hl;have Q:=hid hG;have N:=hid hE;generalize xu l=ok at*;generalize uP l=y at*;generalize qF l=x at*;generalize jc h l=h' at*;generalize xq h l=o' at*;go_in;go_wp2_with fail;refine ab.o.mono ?_;rintro e w1 ⟨rfl,g1⟩;have gA:=Ac w1 (Hl2 y.1 y.2) S;have r:=hid (zD g1 gA);have f:=hid (Bn w1 (Hl2 y.1 y.2));have aB:=g1.size
 cases ok
 ·go_wp2
  go_ret;exact⟨by rw[HO.o];rfl,by rw[HA.o];exact HI.o.keep r.o,HMv.of_grown ae r.o⟩
 ·have hy:y=x:=by rw[ak.o];rfl
  subst hy;go_upto_region 4 with fail;generalize w1.alloc (Hl2 y.1 y.2)=wa at*;obtain⟨vl,vh,q1,q2,q3⟩:=(HI.o.keep r.o).ex;obtain⟨va,vk,rfl⟩:=zL q3;have HQ:=hid q1;have HV:=hid q3;have am:=hid q2;have b0:=cbi 0 f.o;have b1:=cbi 1 f.o;have k4:=cbi 4 HQ.o;have ad:Y (∀W,wa.grownBy W S->Am prog 305 #[Fe #[I (Aa y.1),I (Aa y.2)],X va (Z h.headers) vk] W fun e w'=>e=Af (I (Aa (yN y h.headers)))/\W.grownBy w' S):=fun W hW=>o8 y h.headers (zK HV.o hW (fun k hk c=>by cases c)) (by omega) ax (Q.o.grown (zD r.o hW)) (N.o.grown (zD r.o hW))
  have aD:=zO f.o
  go_cut [4] (fun rv wx=>rv=I (Aa (yN y h.headers))/\Y (wa.grownBy wx S))
  ·
   go_region_law (go_simp;go_at_call 305;refine(ad.o _ (zV wa)).mono ?_;rintro e d ⟨rfl,g3⟩;have p:=hid (zD (zV wa) g3);clear g3)
   all_goals
    go_wp2_with fail
    go_meet
    ·exact⟨rfl,p⟩
  ·
   obtain⟨rfl,p⟩:=hcut;generalize wc=d at*;have v:=hid (zE HQ.o p.o (by simp));have aq:=hid (zK HV.o p.o (fun k hk c=>by cases c));have F:=hid (zE f.o p.o (by simp));have b0:=cbi 0 F.o;have b1:=cbi 1 F.o;have k4:=cbi 4 v.o;obtain⟨i0,hi,ay,az,aA⟩:=Ej zcX;have aC:=p.o.size;have gX:=hid (zD (Ac d (Hl2 y.1 y.2) S) (zV (d.alloc (Hl2 y.1 y.2))));have t:=J (zK aq.o gX.o (fun k hk c=>by cases c));have an:Y (∀j u,([I (Aa y.1),I (Aa y.2)]:A Aj)[j]?=V u->(d.alloc (Hl2 y.1 y.2)).drew.cell? ((⟨d.heap.size,0,S⟩:Eu).add j)=V u):=zZ d #[_,_] _ _ rfl;have ah:Y (∀u∈([I (Aa y.1),I (Aa y.2)]:A Aj),u.oneCell'=true):=fun u hu=>by simp at hu;rcases hu with rfl|rfl <;> rfl
   have al:Y (Z h.headers+1<=Bh):=by show _<=_;unfold Bh;omega
   have ar:Y ((Z h.headers+1)*32<=140737488355328):=by show _<=_;omega
   have z:Y ((d.alloc (Hl2 y.1 y.2)).drew.heap.size=d.heap.size+1):=by show _=_;simp
   have ai:Y (B<=(d.alloc (Hl2 y.1 y.2)).drew.heap.size):=by show _<=_;rw[z.o];have:=r.o.size;omega
   have g:=hid (zE v.o gX.o (by simp));have s:=hid (zI g.o t.o (by decide));have kX:=cbi 4 g.o;have au:=zO g.o;have H:Y (∀o a E,E.ownsRow B 346 2 (X (V ⟨o,0,S⟩) (Z h.headers+1) a) (Z h.headers+1) (zi h.headers++[I (Aa y.1),I (Aa y.2)])->((d.alloc (Hl2 y.1 y.2)).drew).grownBy E (X va (Z h.headers) vk).ownBlock->((X va (Z h.headers) vk).ownBlock=V o\/o=d.heap.size+1)->HInv (E.setCell ⟨n,4,S⟩ (X (V ⟨o,0,S⟩) (Z h.headers+1) a)) n B wt { h with headers:=h.headers++[y] }/\HMv w (E.setCell ⟨n,4,S⟩ (X (V ⟨o,0,S⟩) (Z h.headers+1) a)) n):=fun o a E ho hg hat=>by
    have C:=zw g.o hg s.o;have gs:=zF E n 4 (X (V ⟨o,0,S⟩) (Z h.headers+1) a);have av:=zK am.o p.o (fun k hk c=>by cases c);have ag:=zK av gX.o (fun k hk c=>by cases c);have af:=zK ag hg (qB t.o ag (by decide));refine⟨⟨⟨vl,X (V ⟨o,0,S⟩) (Z h.headers+1) a,zH (i:=4) C _,zJ af gs (zI C af (by decide)),?_⟩,HI.o.low⟩,?_⟩
    ·have:=zJ ho gs (zI C ho (by decide))
     simp only[Ah,Bb,Bu,yW];exact this
    ·exact((HMv.of_grown ae (zD r.o p.o)).trans (HMv.of_grown (zO v.o) gX.o)).trans (HMv.append kX au hg s.o (by rcases hat with h|h;exact Ay h;exact Bf (by rw[h,z.o])))
   go_upto_region 5 with fail
   go_region_law (refine step_append_lies _ rfl (.tmp 24) (.tmp 26) 101 rfl B 346 i0 _ 2 32 underlying101 hi ay az aA rfl (by decide) _ _ _ (by simp[Act.eval]) t.o ⟨d.heap.size,0,S⟩ 1 1 [I (Aa y.1),I (Aa y.2)] (by simp[Act.eval]) rfl an.o ah.o (by decide) al.o ar.o ai.o (d.heap.size+1) z.o ?_;intro o a E m b q aw;have ao:=hid m;have aj:=hid b;have ap:=hid q;have aa:=hid (zw g.o b s.o);have q9:=cbi 4 aa.o;have f9:=zm9 4 aa.o;clear m b q aw)
   all_goals
    go_wp2;go_ret;exact⟨by rw[HO.o];rfl,by rw[HA.o];exact H.o _ _ _ ao.o aj.o ap.o⟩
def yT (h:Rq.Head)(l:A Ab):Rq.Head×Ee×A Ab:=
 if (qQ l 13).2 then
  if h.method=[] then (yH h (qQ l 13).1,false,qj (xo (qQ l 13).1))
  else if (qQ l 13).1=[] then (h,true,qj (xY xw h.headers))
  else (jc h (qQ l 13).1,false,xq h (qQ l 13).1)
 else (h,false,jn)
theorem pI (l:A Ab)(c:Ab):Z (qQ l c).1<=Z l:=by grind[qQ]
theorem HInv.heads (f:HInv w b B g h):∃a,w.cell? ⟨b,4,S⟩=V a/\w.ownsRow B 346 2 a (Z h.headers) (zi h.headers):=by
 obtain⟨j,a,c,i,d⟩:=f.ex;exact⟨a,zB c,d⟩
theorem zf6 {f:Ad}{y:Aj}(s:HInv w f B y h)(l:A Ab)(hl:Z l<=3000)(hn:Z h.headers<=100000)(hB:B<=w.heap.size)(H:Glob w)(hE:GE w):Am prog 176 #[Al (V ⟨f,0,S⟩),I (Aa l)] w fun e w'=>e=Af (Cm #[Av (yT h l).2.1,I (Aa (yT h l).2.2)])/\HInv w' f B y (yT h l).1/\HMv w w' f:=by
 have z:=hid (pU l 13 w (by omega));have N:=pI l 13;have m:Y (yT h l=if (qQ l 13).2 then if h.method=[] then (yH h (qQ l 13).1,false,qj (xo (qQ l 13).1)) else if (qQ l 13).1=[] then (h,true,qj (xY xw h.headers)) else (jc h (qQ l 13).1,false,xq h (qQ l 13).1) else (h,false,jn)):=rfl;have C:=hid s;have n:=s.lt;have j:=J (tS);generalize yT h l=lk at*;generalize qQ l 13=u at*;obtain⟨b,en⟩:=u;simp only at z N m;have i:Y (∀W,w.grownBy W S->Am prog 233 #[Al (V ⟨f,0,S⟩),I (Aa b)] W fun e w'=>e=Af (Av (xo b))/\HInv w' f B y (yH h b)/\HMv w w' f):=fun W hW=>(zeV (s.keep hW) b (by omega) (H.grown hW)).mono fun e w' ⟨p,x,q⟩=>⟨p,x,(HMv.of_grown n hW).trans q⟩
 have g:Y (∀W,w.grownBy W S->Am prog 235 #[Al (V ⟨f,0,S⟩),I (Aa b)] W fun e w'=>e=Af (I (Aa (xq h b)))/\HInv w' f B y (jc h b)/\HMv w w' f):=fun W hW=>(zkM (s.keep hW) b (by omega) hn (Bi hB hW.size) (H.grown hW) (hE.grown hW)).mono fun e w' ⟨p,x,q⟩=>⟨p,x,(HMv.of_grown n hW).trans q⟩
 clear s H hE;go_in;go_wp2_with fail;refine z.o.mono ?_;rintro e w1 ⟨rfl,g1⟩;have r:=hid g1;clear z g1;obtain⟨vl,vh,p,x,q⟩:=(C.o.keep r.o).ex;obtain⟨va,vk,rfl⟩:=zL q;have Q:=cbi 2 p;have k4:=cbi 4 p;have k:=J (aj xw h.headers q (by omega));have e1:=uE h.method;have e2:=uE b;clear p x q
 cases en
 ·go_wp2
  go_ret2
  exact⟨by rw[m.o];rfl,by rw[m.o];exact C.o.keep r.o,HMv.of_grown n r.o⟩
 ·by_cases o:h.method=[]
  ·rw[Cf o] at e1
   have a:Y (lk=(yH h b,false,qj (xo b))):=by show _=_;rw[m.o,Az rfl,Az o]
   clear o;go_wp2_with fail;refine(i.o _ r.o).mono ?_;rintro e w2 ⟨rfl,t,v⟩;have E:=hid t;have F:=hid v;clear t v Q k4;go_wp2_with fail;refine(j.o _ _).mono ?_;rintro e wX ⟨rfl,d⟩;rw[d];clear d wX;go_wp2
   go_ret2
   exact⟨by rw[a.o];rfl,by rw[a.o];exact E.o,F.o⟩
  ·rw[Ce o] at e1
   by_cases c:b=[]
   ·rw[Cf c] at e2
    have a:Y (lk=(h,true,qj (xY xw h.headers))):=by show _=_;rw[m.o,Az rfl,Aw o,Az c]
    clear o c;go_wp2_with fail;refine k.o.mono ?_;rintro e w2 ⟨rfl,g2⟩;have G2:=hid (zD r.o g2);clear g2 Q k4;go_wp2_with fail;refine(j.o _ _).mono ?_;rintro e wX ⟨rfl,d⟩;rw[d];clear d wX;go_wp2
    go_ret2
    exact⟨by rw[a.o];rfl,by rw[a.o];exact C.o.keep G2.o,HMv.of_grown n G2.o⟩
   ·rw[Ce c] at e2
    have a:Y (lk=(jc h b,false,xq h b)):=by show _=_;rw[m.o,Az rfl,Aw o,Aw c]
    clear o c;go_wp2_with fail;refine(g.o _ r.o).mono ?_;rintro e w2 ⟨rfl,t,v⟩;have E:=hid t;have F:=hid v;clear t v Q k4;go_wp2
    go_ret2
    exact⟨by rw[a.o];rfl,by rw[a.o];exact E.o,F.o⟩
def qe (h:Rq.Head)(c:Ab):Rq.Head×Ee×A Ab:=
 if 600<h.size+1 then ({ h with size:=h.size+1 },false,j6)
 else if c=10 then yT { h with size:=h.size+1,line:=[] } h.line
 else ({ h with size:=h.size+1,line:=h.line++[c] },false,[])
theorem HInv.nil (d:HInv w a B f h):HInv (w.setCell ⟨a,1,S⟩ (X S 0 0)) a B f { h with line:=[] }/\HMv w (w.setCell ⟨a,1,S⟩ (X S 0 0)) a:=by
 obtain⟨m,j,b,l,c⟩:=d.ex;have g:=zF w a 1 (X S 0 0);exact⟨⟨⟨X S 0 0,j,zH (i:=1) b _,Bk _ _ _ _,zJ c g (zI b c (by decide))⟩,d.low⟩,HMv.set (zB b) (fun k hk=>by cases hk)⟩
abbrev Hl8 (a):=Ae #[O Bp a] 5
theorem zf8 {N:Aj}(hI:HInv w a B N h)(c:Ab)(hs:h.size<=600)(hl:Z h.line<=3000)(hn:Z h.headers<=100000)(hB:B<=w.heap.size)(hG:Glob w)(hE:GE w)(q:a≠0/\a≠Tryz.laysC172_ren.g 15):Am prog 121 #[Al (V ⟨a,0,S⟩),O Bp c.toNat] w fun e w'=>e=Af (Cm #[Av (qe h c).2.1,I (Aa (qe h c).2.2)])/\HInv w' a B N (qe h c).1/\HMv w w' a:=by
 obtain⟨i0,hi,aw,ax,ay⟩:=Ej jD;have n:Y (qe h c=if 600<h.size+1 then ({ h with size:=h.size+1 },false,j6) else if c=10 then yT { h with size:=h.size+1,line:=[] } h.line else ({ h with size:=h.size+1,line:=h.line++[c] },false,[])):=rfl;have k0:w.cell? ⟨a,0,S⟩=V (O Ai h.size):=by obtain⟨vl,vh,o,_⟩:=hI.ex;exact zB o
 have f0:w.frozen? ⟨a,0,S⟩=false:=by obtain⟨vl,vh,o,_⟩:=hI.ex;exact zG o
 obtain⟨i1,m1⟩:=hI.setn (h.size+1);have I1:Y (HInv (w.setCell ⟨a,0,S⟩ (O Ai ((h.size:Ak)+1))) a B N { h with size:=h.size+1 }):=i1;have M1:Y (HMv w (w.setCell ⟨a,0,S⟩ (O Ai ((h.size:Ak)+1))) a):=m1;have f:=zF w a 0 (O Ai ((h.size:Ak)+1));have ab:Y (Glob (w.setCell ⟨a,0,S⟩ (O Ai ((h.size:Ak)+1)))):=hG.keep f (by simpa using q.1);have aa:Y (GE (w.setCell ⟨a,0,S⟩ (O Ai ((h.size:Ak)+1)))):=by
  obtain⟨ev,o,F⟩:=hE;exact⟨ev,f.cell o (by simpa using fun e=>q.2 e.symm),F⟩
 have av:B<=(w.setCell ⟨a,0,S⟩ (O Ai ((h.size:Ak)+1))).heap.size:=Bi hB f.size;generalize qe h c=tk at*;go_in;go_upto_region 2 with fail;generalize w.setCell ⟨a,0,S⟩ (O Ai ((h.size:Ak)+1))=w1 at*;obtain⟨vl,vh,o,F,q3⟩:=I1.o.ex;obtain⟨la,lk,rfl⟩:=zL F;have HQ:Y (w1.heap[a]?=V (Ae #[O Ai ((h.size:Ak)+1),X la (Z h.line) lk,I (Aa h.method),I (Aa h.target),vh,N] 106 (0,0))):=o;have y:Y (w1.ownsRow B 5 1 (X la (Z h.line) lk) (Z h.line) (Ba h.line)):=F;have ad:Y (w1.ownsRow B 346 2 vh (Z h.headers) (zi h.headers)):=q3;have k0:=cbi 0 HQ.o;have k1:=cbi 1 HQ.o;have f1:=zm9 1 HQ.o;have ar:=zO HQ.o
 by_cases v:600<h.size+1
 ·have aq:(600:Ak)<h.size+1:=by omega
  rw[Az v] at n;go_wp2
  go_ret2
  exact⟨by rw[n.o];rfl,by rw[n.o];exact I1.o,M1.o⟩
 ·have aq:¬(600:Ak)<h.size+1:=by omega
  rw[Aw v] at n
  by_cases hc:c=10
  ·subst hc
   rw[Az rfl] at n;obtain⟨i2,m2⟩:=I1.o.nil;have I2:Y (HInv (w1.setCell ⟨a,1,S⟩ (X S 0 0)) a B N { h with size:=h.size+1,line:=[] }):=i2;have M2:=hid (M1.o.trans m2);have f:=zF w1 a 1 (X S 0 0);have cv:(convert 32 9 (X la (Z h.line) lk)).run prog w1 = .ok (I (Aa h.line)) w1:=j8 (RdO.of_row y.o);have s:Y (Glob (w1.setCell ⟨a,1,S⟩ (X S 0 0))):=ab.o.keep f (by simpa using q.1);have r:Y (GE (w1.setCell ⟨a,1,S⟩ (X S 0 0))):=by
    obtain⟨ev,o,F⟩:=aa.o;exact⟨ev,f.cell o (by simpa using fun e=>q.2 e.symm),F⟩
   have ae:=hid (zf6 I2.o h.line hl hn (Bi av f.size) s.o r.o);go_wp2_with fail;refine ae.o.mono ?_;rintro e w3 ⟨rfl,i3,m3⟩;have I3:=hid i3;have M3:=hid (M2.o.trans m3);go_wp2
   go_ret2
   exact⟨by rw[n.o];rfl,by rw[n.o];exact I3.o,M3.o⟩
  ·rw[Aw hc] at n
   have aA:¬c.toNat=10:=fun e=>hc (Hb.1 (by rw[e];rfl))
   have az:¬((c.toNat:Ak)=10):=by omega
   have gX:=hid (Ac w1 (Hl8 c.toNat) S);have z:=J (zK y.o gX.o (fun k hk c=>by cases c));have am:Y (∀j u,([O Bp c.toNat]:A Aj)[j]?=V u->(w1.alloc (Hl8 c.toNat)).cell? ((⟨w1.heap.size,0,S⟩:Eu).add j)=V u):=zZ w1 #[_] _ _ rfl;have ai:Y (∀u∈([O Bp c.toNat]:A Aj),u.oneCell'=true):=fun u hu=>by simp at hu;subst hu;rfl
   have al:Y (Z h.line+1<=Bh):=by show _<=_;unfold Bh;omega
   have ap:Y ((Z h.line+1)*1<=140737488355328):=by show _<=_;omega
   have C:Y ((w1.alloc (Hl8 c.toNat)).heap.size=w1.heap.size+1):=by show _=_;simp
   have aj:Y (B<=(w1.alloc (Hl8 c.toNat)).heap.size):=by show _<=_;rw[C.o];omega
   have l:=hid (zE HQ.o gX.o (by simp));have x:=hid (zI l.o z.o (by decide));have kX:=cbi 1 l.o;have au:=zO l.o;have Q:Y (∀p b H,H.ownsRow B 5 1 (X (V ⟨p,0,S⟩) (Z h.line+1) b) (Z h.line+1) (Ba h.line++[O Bp c.toNat])->(w1.alloc (Hl8 c.toNat)).grownBy H (X la (Z h.line) lk).ownBlock->((X la (Z h.line) lk).ownBlock=V p\/p=w1.heap.size+1)->HInv (H.setCell ⟨a,1,S⟩ (X (V ⟨p,0,S⟩) (Z h.line+1) b)) a B N { h with size:=h.size+1,line:=h.line++[c] }/\HMv w (H.setCell ⟨a,1,S⟩ (X (V ⟨p,0,S⟩) (Z h.line+1) b)) a):=fun p b H ho hg hat=>by
    have E:=zw l.o hg x.o;have f:=zF H a 1 (X (V ⟨p,0,S⟩) (Z h.line+1) b);have ah:=zK ad.o gX.o (fun k hk c=>by cases c);have ag:=zK ah hg (qB z.o ah (by decide));refine⟨⟨⟨X (V ⟨p,0,S⟩) (Z h.line+1) b,vh,zH (i:=1) E _,?_,zJ ag f (zI E ag (by decide))⟩,I1.o.low⟩,?_⟩
    ·have:=zJ ho f (zI E ho (by decide))
     simp only[Ah,Bb,Bu,Hl];exact this
    ·exact(M1.o.trans (HMv.of_grown ar gX.o)).trans (HMv.append kX au hg x.o (by rcases hat with h|h;exact Ay h;exact Bf (by rw[h,C.o])))
   go_wp2_with (at_builtin;refine Ei _ rfl (.tmp 25) (.tmp 27) 32 rfl B 5 i0 _ 1 1 underlying32 hi aw ax ay rfl (by decide) _ _ _ rfl z.o ⟨w1.heap.size,0,S⟩ 1 1 [O Bp c.toNat] rfl rfl am.o ai.o (by decide) al.o ap.o aj.o (w1.heap.size+1) C.o ?_);intro p b H m d t _;have an:=hid m;have ak:=hid d;have ao:=hid t;have af:=hid (zw l.o d x.o);have q9:=cbi 1 af.o;have f9:=zm9 1 af.o;go_wp2
   go_ret2
   exact⟨by rw[n.o];rfl,by rw[n.o];exact Q.o _ _ _ an.o ak.o ao.o⟩
def yi (h:Rq.Head):Ak:=xL (xZ x5 h.headers)
theorem zi1 {f:Ad}(k:HInv w f B o h)(p:Z h.headers<=100000)(l:xZ x5 h.headers=[]\/zm (xZ x5 h.headers)=true)(j:GE w):Am prog 122 #[Al (V ⟨f,0,S⟩)] w fun e w'=>e=Af (O Ai (yi h))/\w.grownBy w' S:=by
 obtain⟨s,q,a⟩:=k.heads;obtain⟨r,t,rfl⟩:=zL a;have d:=J (zbP x5 h.headers a (by omega));have c:Y (∀W,w.grownBy W S->Am prog 177 #[I (Aa (xZ x5 h.headers))] W fun e w'=>e=Af (O Ai (xL (xZ x5 h.headers)))/\w.grownBy w' S):=fun W hW=>(nS _ W l (j.grown hW)).mono fun e w' ⟨q1,q2⟩=>⟨q1,zD hW q2⟩
 have n:Y (yi h=xL (xZ x5 h.headers)):=rfl;generalize xZ x5 h.headers=vv at*;go_in;go_wp2_with fail;refine d.o.mono ?_;rintro e u ⟨rfl,g⟩;have b:=hid g;go_wp2_with fail;refine(c.o _ b.o).mono ?_;rintro e v ⟨rfl,i⟩;have m:=hid i;go_wp2;go_ret;exact⟨by rw[n.o];rfl,m.o⟩
def yU (x:Hd):A Ab:=if x.1=xw then Cj x.2 else if x.1=x5 then R.decI (xL x.2) else x.2
theorem HMv.put {d:Ag}{m:Aj}(g:w.cell? ⟨a,i,S⟩=V v)(p:a<w.heap.size)(n:w.grownBy d v.ownBlock)(o:∀k,v.ownBlock=V k->k≠a)(f:∀k,m.ownBlock=V k->v.ownBlock=V k\/w.heap.size<=k):HMv w (d.setCell ⟨a,i,S⟩ m) a:=by
 have b:=HMv.row g p n o;have c:=zF d a i m;have l:d.cell? ⟨a,i,S⟩=V v:=by rw[kJ (n.block a p (fun e=>o a e.symm rfl))];exact g
 refine⟨⟨c.os.trans b.turn.os,c.tape.trans b.turn.tape,c.output.trans b.turn.output,Bi b.turn.size c.size,fun k hk hn=>(c.block k (Eh hk b.turn.size) (fun e=>hn (Ay (Bc e)))).trans (b.turn.block k hk hn)⟩,fun k hk=>?_⟩;rcases hk with hk|⟨j,u,q1,q2⟩
 ·exact Ay (Ay hk)
 ·by_cases q:j=i
  ·subst q
   rw[Vs _ _ _ l] at q1;obtain rfl:=Bc q1;rcases f k q2 with h|h
   ·exact Ay (Bf ⟨j,v,g,h⟩)
   ·exact Bf h
  ·rw[Vm _ _ _ _ (by simp;try omega)] at q1
   exact b.foot k (Bf ⟨j,u,q1,q2⟩)
def GRow (F:Ad×Ad->Prop)(w:Ag)(B:Ad)(e:Cs)(v:Aj)(n:Ad)(xs:A Aj):Prop:=
 ∃ao b off cap,v=X ao n cap/\Came w 1 ao b off n cap xs/\(∀a,ao=V a->a.block=b/\B<=b/\∃cs f,F f/\w.heap[b]?=V (Ae cs e f))
variable {F:Ad×Ad->Prop}{e:Cs}
theorem GRow.of_row (c:F (0,0)){b:A Aj}(h:w.ownsRow B e 1 v n b):GRow F w B e v n b:=by
 have d:Z b=n:=by have:=h.1;omega
 rcases h.2 with ⟨h1,h2⟩|⟨g,cap,cur,hv,hB,hb,hle,_,hsz,hc⟩
 ·subst h2
  have f:=Ni d;subst f;exact⟨S,0,0,0,h1,⟨Aq _,fun h=>by omega,fun h=>by omega,rfl,fun j u h=>by simp at h,fun j h=>by simp at h⟩,fun a h=>by cases h⟩
 ·refine⟨V ⟨g,0,S⟩,g,0,cap,hv,⟨hle,fun _=>rfl,fun _=>zO hb,by omega,fun j u hu=>?_,fun j hj=>?_⟩,fun a ha=>by cases ha;exact⟨rfl,hB,_,_,c,hb⟩⟩
  ·rw[Gr,zB hb]
   rw[<-hc,Gi] at hu
   split at hu
   ·simpa using hu
   ·cases hu
  ·refine⟨?_,zG hb⟩
   rw[zB hb,Fj (by omega)];rfl
theorem gz (hF:F (0,0))(w:Ag){af:Array Xw}{rest:A Xw}{o:Xw}{a:Act}{Q:Exit->Act->Ag->Prop}(hg:o.guard=S)(s x:Operand)(t:Cs)(ae:o.op=Op.call { callee:=Callee.builtin Builtin.append,args:=#[s,x],argTypes:=#[t,t] })
  (B:Ad) (e:Cs) (i:TypeInfo) (z:Aj) (l:Ad) (h1:prog.underlying t=V (.slice e)) (h2:prog.info? e=V i) (h3:i.zero=V z) (h4:i.size=1) (h5:i.bytes=l) (h6:z.cells.size=1)
  (v:Aj) (n:Ad) (xs:A Aj) (hs:a.eval s=v) (hq:GRow F w B e v n xs) (C:Eu) (c:Ad) (u:Aj) (hx:a.eval x=X (V C) 1 c) (hc:w.cell? C=V u) (hu:u.oneCell'=true) (b1:n+1<=Bh) (b2:(n+1)*l<=140737488355328) (hB:B<=w.heap.size)
  (hK:∀v' w',GRow F w' B e v' (n+1) (xs++[u])->w.grownBy w' v.ownBlock->(∀k,v'.ownBlock=V k->v.ownBlock=V k\/w.heap.size<=k)->Xu prog af Q rest (a.put o.dst v') w'):Xu prog af Q (o::rest) a w:=by
 obtain⟨ao,b,d,q,rfl,m,ai⟩:=hq;have aa:Z xs=n:=by have:=m.oldsLen;omega
 have r:∀j u',[u][j]?=V u'->w.cell? (C.add j)=V u':=fun j u' hj=>by
  cases j with
  |zero=>
   simp at hj;subst hj;have E:C.add 0=C:=by cases C;simp[Addr.add]
   rw[E];exact hc
  |succ j=>simp at hj
 by_cases hr:n+1<=q
 ·have ah:=m.addr (by omega)
  subst ah;obtain⟨_,ag,cs,f,hf,y⟩:=ai _ rfl;have N:=m.spare;have al:d+n<cs.size:=by
   have:=(N 0 (by omega)).1;rw[zB y] at this;have:=Gy.1 (Option.some_get this).symm;have:=this.1
   omega
  refine wpList_append_arg w hg s x t ae e i z 1 l h1 h2 h3 h4 h5 h6 (by decide) b d n q xs hs (by omega) (fun j u' hj=>m.olds j u' hj) C 1 c [u] hx rfl r (fun u' hu'=>by simp at hu';subst hu';exact hu) (fun _ j hj=>N j (by simp at hj;omega)) b1 b2 (fun _=>?_) (fun h=>absurd hr (by omega));have aj:w.setCells b (d+n*1) [u]=w.setCell ⟨b,d+n,S⟩ u:=by rw[Nx];rfl
  rw[aj];have p:=zH (i:=d+n) y u;have gs:=zF w b (d+n) u;refine hK _ _ ⟨V ⟨b,d,S⟩,b,d,q,rfl,⟨by omega,fun _=>rfl,fun _=>zO p,by rw[Ah,aa];simp,fun j u' hj=>?_,fun j hj=>?_⟩,fun a ha=>by cases ha;exact⟨rfl,ag,_,_,hf,p⟩⟩ gs (fun k hk=>Ay hk)
  ·rw[zB p]
   by_cases ak:j<n
   ·rw[Cx (by omega)] at hj
    have:=m.olds j u' hj;rw[zB y] at this;rw[Xn (by omega)];exact this
   ·have H:=(Bo.1 hj).1
    rw[Ah,aa] at H;have ej:j=n:=by simp at H;omega
    subst ej;rw[Cl (by omega),aa,Gp] at hj;rw[Array.getElem?_setIfInBounds_self_of_lt (by omega)]
    simpa using hj
  ·have h9:=N (j+1) (by omega)
   have e9:d+(n+1)*1+j=d+n*1+(j+1):=by omega
   rw[World.frozen?_setCell,e9];refine⟨?_,h9.2⟩;have h8:=h9.1;rw[zB y] at h8;rw[zB p,Xn (by omega)];exact h8
 ·have ab:=m.addr
  refine wpList_append_grows w hg s x t ae e i z 1 l h1 h2 h3 h4 h5 h6 (by decide) ao n q xs hs (fun E=>?_) (by omega) (fun b' E j u' hj=>?_) C 1 c [u] hx rfl r (fun u' hu'=>by simp at hu';subst hu';exact hu) (by omega) b1 b2 (fun v' w' ho g=>hK v' w' (GRow.of_row hF (zo ho hB)) ⟨g.os,g.tape,g.output,g.size,fun k hk _=>g.block k hk (by simp)⟩ (fun k hk=>Bf (An ho k hk).1))
  ·have h0:q=0:=by
    rcases Sh q with h|h
    ·exact h
    ·rw[ab h] at E;cases E
   have:=m.le
   omega
  ·have H:=(Bo.1 hj).1
   have:=m.le;rw[ab (by omega)] at E
   cases E
   rw[vJ];exact m.olds j u' hj
theorem GRow.block {p:A Aj}(h:GRow F w B e v n p):∀k,v.ownBlock=V k->B<=k/\∃c f,w.heap[k]?=V (Ae c e f):=by
 obtain⟨g,b,o,i,rfl,r,m⟩:=h;intro k d
 cases g with
 |none=>cases d
 |some a=>
  obtain⟨q,j,c,f,_,l⟩:=m a rfl;have e:k=b:=by simp only[Ix,Ey] at d;omega
  rw[e];exact⟨j,c,f,l⟩
theorem GRow.keep {m:A Aj}(h:GRow F w B e v n m)(z:∀k,v.ownBlock=V k->w'.heap[k]?=w.heap[k]?):GRow F w' B e v n m:=by
 obtain⟨q,b,c,g,rfl,d,x⟩:=h;have l:Z m=n:=by have:=d.oldsLen;omega
 cases q with
 |none=>
  have s:g=0:=by
   rcases Sh g with h|h
   ·exact h
   ·have:=d.addr h;cases this
  subst s;have C:=Nat.le_zero.1 d.le;subst C;have E:=Ni l;subst E;exact⟨S,b,c,0,rfl,⟨Aq _,fun h=>by omega,fun h=>by omega,rfl,fun j u h=>by simp at h,fun j h=>by simp at h⟩,fun a h=>by cases h⟩
 |some a=>
  obtain⟨o,t,r,f,y,p⟩:=x a rfl;have i:=z b (by rw[<-o];rfl);refine⟨V a,b,c,g,rfl,⟨d.le,d.addr,fun _=>zO (i.trans p),d.oldsLen,fun j u h=>(Mr (a:=⟨b,c+j,S⟩) i).trans (d.olds j u h),fun j h=>?_⟩,fun a' h=>by cases h;exact⟨o,t,r,f,y,i.trans p⟩⟩;rw[Mr (a:=⟨b,c+n*1+j,S⟩) i,World.frozen?_of_block (a:=⟨b,c+n*1+j,S⟩) i];exact d.spare j h
theorem GRow.base {b:A Aj}(h:GRow F w B e v n b)(c:a<=B):GRow F w a e v n b:=by grind[GRow]
def anyMark (_:Ad×Ad):Prop:=True
structure Pc where
 dst:A Ab
 data:A Ab
 left:Ak
def Dat (w:Ag)(B:Ad)(v:Aj)(l:A Ab):Prop:=
 ∃g cap cur f,v=X (V ⟨g,0,S⟩) (Z l) cap/\B<=g/\w.heap[g]?=V (Ae cur 5 f)/\∀(j:Ad) (u:Aj),(Ba l)[j]?=V u->cur[j]?=V u
def DatAt (w:Ag)(B:Ad)(p:Pc)(v:Aj):Prop:=GRow anyMark w B 5 v (Z p.data) (Ba p.data)\/(p.dst=[]/\Dat w B v p.data)
variable {p:Pc}
theorem DatAt.form (h:DatAt w B p v):∃a k,v=X a (Z p.data) k:=by
 rcases h with ⟨ao,b,off,cap,rfl,_⟩|⟨_,g,cap,cur,f,rfl,_⟩
 ·exact⟨_,_,rfl⟩
 ·exact⟨_,_,rfl⟩
theorem DatAt.kind (h:DatAt w B p v):∀k,v.ownBlock=V k->B<=k/\∃cs f,w.heap[k]?=V (Ae cs 5 f):=by
 intro k a;rcases h with h|⟨_,g,cap,cur,f,rfl,h1,h2,_⟩
 ·exact h.block k a
 ·have e:=Bc a
  subst e;exact⟨h1,_,_,h2⟩
theorem DatAt.keep (h:DatAt w B p v)(a:∀k,v.ownBlock=V k->w'.heap[k]?=w.heap[k]?):DatAt w' B p v:=by
 rcases h with h|⟨h0,g,cap,cur,f,rfl,h1,h2,h3⟩
 ·exact Ay (h.keep a)
 ·exact Bf ⟨h0,g,cap,cur,f,rfl,h1,by rw[a g rfl];exact h2,h3⟩
theorem DatAt.own (h:DatAt w B p v)(a:p.dst≠[]):GRow anyMark w B 5 v (Z p.data) (Ba p.data):=by grind[Pc,DatAt,GRow,anyMark]
theorem DatAt.base (h:DatAt w B p v)(b:a<=B):DatAt w a p v:=by
 rcases h with h|⟨h0,g,cap,cur,f,rfl,h1,h2⟩
 ·exact Ay (h.base b)
 ·exact Bf ⟨h0,g,cap,cur,f,rfl,Bi b h1,h2⟩
structure PcAt (w:Ag) (pb B:Ad) (p:Pc):Prop where
 ex:∃vd,w.heap[pb]?=V (Ae #[I (Aa p.dst),vd,O Ai p.left] 172 (0,0))/\DatAt w B p vd
 low:B<=pb
theorem DatAt.apart {a:Array Aj}{t:Cs}{f:Ad×Ad}(h:DatAt w B p v)(j:w.heap[b]?=V (Ae a t f))(l:t≠5):∀k,v.ownBlock=V k->k≠b:=by
 intro k d e;obtain⟨_,c,i,g⟩:=h.kind k d
 grind[Option.some.injEq,Pc,DatAt]
theorem DatAt.away {row:Br Ad}(h:DatAt w B p v)(g:w.grownBy w' row)(a:∀k,v.ownBlock=V k->row≠V k):DatAt w' B p v:=
 h.keep fun k hk=>g.block k (by obtain⟨_,_,_,e⟩:=h.kind k hk;exact zO e) (fun e=>a k hk e.symm)
def Pc.take (p:Pc)(c:Ab):Pc:={ p with data:=if p.dst=[] then p.data else p.data++[c],left:=p.left-1 }
theorem zfD (h:PcAt w b B p)(c:Ab)(hl:1<=p.left/\p.left<=100000)(hd:Z p.data<=1000000000)(hB:B<=w.heap.size):Am prog 120 #[Al (V ⟨b,0,S⟩),O Bp c.toNat] w fun e w'=>e=Af (Cm #[])/\PcAt w' b B (p.take c)/\HMv w w' b:=by
 obtain⟨i0,hi,aj,ak,al⟩:=Ej jD;obtain⟨vd,H,Q⟩:=h.ex;obtain⟨x,y,rfl⟩:=Q.form;have m:=h.low;have k2:=cbi 2 H;have f2:=zm9 2 H;have HM:Y (HMv w (w.setCell ⟨b,2,S⟩ (O Ai (p.left-1))) b):=HMv.set k2 (fun k hk=>by cases hk);have C:=zF w b 2 (O Ai (p.left-1));have u:Y ((w.setCell ⟨b,2,S⟩ (O Ai (p.left-1))).heap[b]?=V (Ae #[I (Aa p.dst),X x (Z p.data) y,O Ai (p.left-1)] 172 (0,0))):=zH (i:=2) H _;have HD:=J (Q.away C (fun k hk e=>Q.apart H (by decide) k hk (Bc e).symm));have an:=Bi hB C.size;have e0:=uE p.dst;have N:Y (p.take c={ p with data:=if p.dst=[] then p.data else p.data++[c],left:=p.left-1 }):=rfl;clear H Q C h;generalize p.take c=p' at*;go_in;go_upto_region 1 with fail;generalize w.setCell ⟨b,2,S⟩ (O Ai (p.left-1))=w1 at*;clear k2 f2;have k0:=cbi 0 u.o;have k1:=cbi 1 u.o;have ah:=zO u.o
 by_cases q:p.dst=[]
 ·rw[Cf q] at e0
  rw[Az q] at N;have ad:=J (HD.o);clear q;go_wp2
  go_end0
  exact⟨rfl,by rw[N.o];exact⟨⟨_,u.o,ad.o⟩,m⟩,HM.o⟩
 ·rw[Ce q] at e0
  rw[Aw q] at N;have r:=hid (HD.o.own q);clear q;have gX:=hid (Ac w1 (Hl8 c.toNat) S);have t:Y (GRow anyMark (w1.alloc (Hl8 c.toNat)) B 5 (X x (Z p.data) y) (Z p.data) (Ba p.data)):=r.o.keep (fun k hk=>gX.o.block k (by obtain⟨_,_,_,e⟩:=r.o.block k hk;exact zO e) (by simp));have ab:Y ((w1.alloc (Hl8 c.toNat)).cell? ⟨w1.heap.size,0,S⟩=V (O Bp c.toNat)):=zB (Bn _ _);have af:Y (Z p.data+1<=Bh):=by show _<=_;unfold Bh;omega
  have ag:Y ((Z p.data+1)*1<=140737488355328):=by show _<=_;omega
  have aa:Y (B<=(w1.alloc (Hl8 c.toNat)).heap.size):=by show _<=_;simp;omega
  have d:=hid (zE u.o gX.o (by simp));have o:Y (∀k,(X x (Z p.data) y).ownBlock=V k->k≠b):=fun k hk e=>by
   obtain⟨_,cs,f,z⟩:=t.o.block k hk;rw[e,d.o] at z;simp at z
  have kX:=cbi 1 d.o;have ai:=zO d.o;have s:Y (∀j n,GRow anyMark n B 5 j (Z p.data+1) (Ba p.data++[O Bp c.toNat])->(w1.alloc (Hl8 c.toNat)).grownBy n (X x (Z p.data) y).ownBlock->(∀k,j.ownBlock=V k->(X x (Z p.data) y).ownBlock=V k\/w1.heap.size+1<=k)->PcAt (n.setCell ⟨b,1,S⟩ j) b B { p with data:=p.data++[c],left:=p.left-1 }/\HMv w (n.setCell ⟨b,1,S⟩ j) b):=fun j n ho hg hat=>by
   have E:=zw d.o hg o.o;have C:=zF n b 1 j;refine⟨⟨⟨j,zH (i:=1) E _,?_⟩,m⟩,?_⟩
   ·refine Ay ?_
    simp only[Ah,Bb,Bu,Hl];refine ho.keep (fun k hk=>C.block k (by obtain⟨_,_,_,e⟩:=ho.block k hk;exact zO e) (fun e=>?_));obtain⟨_,cs,f,z⟩:=ho.block k hk;rw[Bc e,E] at z;simp at z
   ·exact(HM.o.trans (HMv.of_grown ah gX.o)).trans (HMv.put kX ai hg o.o (fun k hk=>by have:=hat k hk;simpa using this))
  go_wp2_with (at_builtin;refine gz (F:=anyMark) trivial _ rfl (.tmp 20) (.tmp 22) 32 rfl B 5 i0 _ 1 underlying32 hi aj ak al rfl _ _ _ rfl t.o ⟨w1.heap.size,0,S⟩ 1 (O Bp c.toNat) rfl ab.o rfl af.o ag.o aa.o ?_);intro j n g a l;have ae:=hid (s.o j n g a l);have v:=hid (zw d.o a o.o);have q9:=cbi 1 v.o;have f9:=zm9 1 v.o;obtain⟨am,b9,o9,c9,rfl,_⟩:=g;clear a l;go_wp2
  go_end0
  exact⟨rfl,by rw[N.o];exact ae.o⟩
theorem cS (h:PcAt w a B p):Am prog 127 #[Al (V ⟨a,0,S⟩)] w fun e w'=>e=Af (Av (decide (p.left=0)))/\w'=w:=by
 have c:w.cell? ⟨a,2,S⟩=V (O Ai p.left):=by obtain⟨_,b,_⟩:=h.ex;exact zB b
 go_in;go_wp2;go_ret;exact⟨zX (by first|rfl|simp),rfl⟩
inductive Cn where
 |hd (h:Rq.Head)
 |bd (p:Pc)
def xf:Rq.Head:=⟨0,[],[],[],[]⟩
def CAt (w:Ag)(cb B:Ad):Cn->Prop
 | .hd h=>HInv w cb B (Al S) h
 | .bd p=>∃pb,w.heap[cb]?=V (Ae #[O Ai 0,X S 0 0,I ⟨#[]⟩,I ⟨#[]⟩,X S 0 0,Al (V ⟨pb,0,S⟩)] 106 (0,0))/\PcAt w pb B p/\B<=cb
def CF (w:Ag)(cb k:Ad):Prop:=HF w cb k\/∃pb,w.cell? ⟨cb,5,S⟩=V (Al (V ⟨pb,0,S⟩))/\HF w pb k
structure CMv (w w':Ag) (cb:Ad) (row:Br Ad):Prop where
 turn:Turn w w' (fun k=>CF w cb k\/row=V k)
 foot:∀k,CF w' cb k->CF w cb k\/w.heap.size<=k
abbrev Hl3 (a):=Ae #[O Ai 0,X S 0 0,I ⟨#[]⟩,I ⟨#[]⟩,X S 0 0,Al (V ⟨a,0,S⟩)] 106 (0,0)
theorem Pc.zero_head (w:Ag)(h:w.heap[a]?=V (Hl3 b))(c:B<=a):HInv w a B (Al (V ⟨b,0,S⟩)) xf:=
 ⟨⟨_,_,h,Bk _ _ _ _,Bk _ _ _ _⟩,c⟩
def Cn.take (D:Rq.Head->Pc)(h:Rq.Head)(c:Ab):Cn×A Ab:=
 if (qe h c).2.1 && decide ((qe h c).2.2=[]) then (.bd (D (qe h c).1),[]) else (.hd (qe h c).1,(qe h c).2.2)
theorem CMv.of_h {row:Br Ad}{c:Aj}(h:HMv w w' a)(d:w'.cell? ⟨a,5,S⟩=V c)(b:c=Al S):CMv w w' a row:=
 ⟨⟨h.turn.os,h.turn.tape,h.turn.output,h.turn.size,fun k hk b=>h.turn.block k hk (fun hF=>b (Ay (Ay hF)))⟩,fun k hk=>by
  rcases hk with hk|⟨pb,h1,h2⟩
  ·rcases h.foot k hk with q|q
   ·exact Ay (Ay q)
   ·exact Bf q
  ·rw[d,b] at h1;simp at h1⟩
theorem HInv.c5 {b:Aj}(c:HInv w a B b h):w.cell? ⟨a,5,S⟩=V b:=by obtain⟨g,f,d,_⟩:=c.ex;exact zB d
theorem CAt.made {o b:Ag}{row:Br Ad}(hB:B<=w.heap.size)(l:HMv w o a)(v:HInv o a B (Al S) h)(z:PcAt b c o.heap.size p)(d:o.grownBy b row)(hr:∀k,row=V k->k≠a):CAt ((((((b.setCell ⟨a,5,S⟩ (Al (V ⟨c,0,S⟩))).setCell ⟨a,0,S⟩ (O Ai 0)).setCell ⟨a,1,S⟩ (X S 0 0)).setCell ⟨a,2,S⟩ (I ⟨#[]⟩)).setCell ⟨a,3,S⟩ (I ⟨#[]⟩)).setCell ⟨a,4,S⟩ (X S 0 0)) a B (.bd p)/\CMv w ((((((b.setCell ⟨a,5,S⟩ (Al (V ⟨c,0,S⟩))).setCell ⟨a,0,S⟩ (O Ai 0)).setCell ⟨a,1,S⟩ (X S 0 0)).setCell ⟨a,2,S⟩ (I ⟨#[]⟩)).setCell ⟨a,3,S⟩ (I ⟨#[]⟩)).setCell ⟨a,4,S⟩ (X S 0 0)) a row:=by
 obtain⟨vl,vh,q1,_,_⟩:=v.ex;have y:=zE q1 d (fun e=>hr a e.symm rfl);have aa:=v.lt;have ab:=zO y;have ad:=z.low;have ae:=l.turn.size;have b5:=zH (i:=5) y (Al (V ⟨c,0,S⟩));have F:=zH (i:=0) b5 (O Ai 0);have H:=zH (i:=1) F (X S 0 0);have N:=zH (i:=2) H (I ⟨#[]⟩);have Q:=zH (i:=3) N (I ⟨#[]⟩);have b4:=zH (i:=4) Q (X S 0 0);have f:b.grownBy ((((((b.setCell ⟨a,5,S⟩ (Al (V ⟨c,0,S⟩))).setCell ⟨a,0,S⟩ (O Ai 0)).setCell ⟨a,1,S⟩ (X S 0 0)).setCell ⟨a,2,S⟩ (I ⟨#[]⟩)).setCell ⟨a,3,S⟩ (I ⟨#[]⟩)).setCell ⟨a,4,S⟩ (X S 0 0)) (V a):=zD (zD (zD (zD (zD (zF _ _ _ _) (zF _ _ _ _)) (zF _ _ _ _)) (zF _ _ _ _)) (zF _ _ _ _)) (zF _ _ _ _);obtain⟨E,p1,C⟩:=z.ex;have m:=zE p1 f (by simp;omega);have n:=C.away f (fun k hk e=>C.apart y (by decide) k hk (Bc e).symm);have g:((((((b.setCell ⟨a,5,S⟩ (Al (V ⟨c,0,S⟩))).setCell ⟨a,0,S⟩ (O Ai 0)).setCell ⟨a,1,S⟩ (X S 0 0)).setCell ⟨a,2,S⟩ (I ⟨#[]⟩)).setCell ⟨a,3,S⟩ (I ⟨#[]⟩)).setCell ⟨a,4,S⟩ (X S 0 0)).heap[a]?=V (Hl3 c):=b4;refine⟨⟨c,g,⟨⟨E,m,n.base (by omega)⟩,by omega⟩,v.low⟩,⟨⟨f.os.trans (d.os.trans l.turn.os),f.tape.trans (d.tape.trans l.turn.tape),f.output.trans (d.output.trans l.turn.output),by have:=f.size;have:=d.size;omega,fun k hk hn=>?_⟩,fun k hk=>?_⟩⟩
 ·have n1:k≠a:=fun e=>hn (Ay (Ay (Ay e)))
  have s:k<o.heap.size:=by omega
  have t:k<b.heap.size:=by have:=d.size;omega
  exact(f.block k t (by simpa using n1)).trans ((d.block k s (fun e=>hn (Bf e.symm))).trans (l.turn.block k hk (fun hF=>hn (Ay (Ay hF)))))
 ·have x:∀q,HF ((((((b.setCell ⟨a,5,S⟩ (Al (V ⟨c,0,S⟩))).setCell ⟨a,0,S⟩ (O Ai 0)).setCell ⟨a,1,S⟩ (X S 0 0)).setCell ⟨a,2,S⟩ (I ⟨#[]⟩)).setCell ⟨a,3,S⟩ (I ⟨#[]⟩)).setCell ⟨a,4,S⟩ (X S 0 0)) c q->w.heap.size<=q:=fun q hq=>by
   rcases hq with rfl|⟨j,u,c1,c2⟩
   ·omega
   ·rw[zB m] at c1
    have r:u=E\/u.ownBlock=S:=by
     match j,c1 with
     |0,c1=>simp at c1;subst c1;exact Bf rfl
     |1,c1=>simp at c1;exact Ay c1.symm
     |2,c1=>simp at c1;subst c1;exact Bf rfl
     |j+3,c1=>simp at c1
    rcases r with rfl|r
    ·have:=(n.kind q c2).1;omega
    ·rw[r] at c2;cases c2
  rcases hk with hk|⟨pb',h1,h2⟩
  ·rcases hk with rfl|⟨j,u,c1,c2⟩
   ·exact Ay (Ay (Ay rfl))
   ·rw[zB g] at c1
    exfalso
    match j,c1 with
    |0,c1=>simp at c1;subst c1;cases c2
    |1,c1=>simp at c1;subst c1;cases c2
    |2,c1=>simp at c1;subst c1;cases c2
    |3,c1=>simp at c1;subst c1;cases c2
    |4,c1=>simp at c1;subst c1;cases c2
    |5,c1=>simp at c1;subst c1;cases c2
    |j+6,c1=>simp at c1
  ·have e:b.heap[a]?=b.heap[a]?:=rfl
   have h5:=cbi 5 g;rw[h5] at h1;simp at h1;rw[<-h1] at h2;exact Bf (x k h2)
theorem ah (row:Br Ad)(b_0:Ag->Prop)(m:∀W i v,b_0 W->b_0 (W.setCell ⟨b,i,S⟩ v))(u:HInv w b B (Al S) h)(c:Ab)(D:Rq.Head->Pc)(hs:h.size<=600)(hl:Z h.line<=3000)(hn:Z h.headers<=100000)(C:B<=w.heap.size)(H:Glob w)(F:GE w)(x:b≠0/\b≠Tryz.laysC172_ren.g 15)(Q:∀k,row=V k->k≠b)
  (E:∀W h',HInv W b B (Al S) h'->HMv w W b->qe h c=(h',true,[])->Am prog 80 #[Al (V ⟨yb,0,S⟩),Al (V ⟨b,0,S⟩)] W fun e w'=>∃q,e=Af (Al (V ⟨q,0,S⟩))/\PcAt w' q W.heap.size (D h')/\W.grownBy w' row/\b_0 w'):Am prog 79 #[Al (V ⟨b,0,S⟩),O Bp c.toNat,.func (.func 80) #[Al (V ⟨yb,0,S⟩)] #[]] w fun e w'=>e=Af (I (Aa (Cn.take D h c).2))/\CAt w' b B (Cn.take D h c).1/\CMv w w' b row/\((qe h c).2=(true,[])->b_0 w'):=by
 have k5:=u.c5;have s:=hid (zf8 u c hs hl hn C H F x);have y:=hid E;have j:Y (Cn.take D h c=if (qe h c).2.1 && decide ((qe h c).2.2=[]) then (.bd (D (qe h c).1),[]) else (.hd (qe h c).1,(qe h c).2.2)):=rfl;generalize Cn.take D h c=ct at*;generalize qe h c=tk at*;obtain⟨p,wh,r⟩:=tk;simp only at s j;go_in;go_wp2_with fail;refine s.o.mono ?_;rintro e w1 ⟨rfl,i1,m1⟩;have l:=hid i1;have o:=hid m1
 cases wh
 ·have f:Y (ct=(.hd p,r)):=by show _=_;rw[j.o];rfl
  go_wp2;go_ret;exact⟨by rw[f.o];rfl,by rw[f.o];exact l.o,CMv.of_h o.o l.o.c5 rfl,fun e=>by cases e⟩
 ·by_cases d:r=[]
  ·subst d
   have z:((Aa []).toList == [])=true:=by rw[uE];rfl
   have f:Y (ct=(.bd (D p),[])):=by show _=_;rw[j.o];rfl
   go_wp2_with fail;refine(y.o w1 p l.o o.o rfl).mono ?_;rintro e w2 ⟨q,rfl,N,t,hx⟩;have n:=hid (CAt.made C o.o l.o N t Q);have HX:=hid (m _ 4 (X S 0 0) (m _ 3 (I ⟨#[]⟩) (m _ 2 (I ⟨#[]⟩) (m _ 1 (X S 0 0) (m _ 0 (O Ai 0) (m w2 5 (Al (V ⟨q,0,S⟩)) hx))))));obtain⟨vl,vh,q1,_,_⟩:=l.o.ex;have a:=hid (zE q1 t (fun e=>Q b e.symm rfl));have r0:=cbi 0 a.o;have r1:=cbi 1 a.o;have r2:=cbi 2 a.o;have r3:=cbi 3 a.o;have r4:=cbi 4 a.o;have r5:=cbi 5 a.o;have f0:=zm9 0 a.o;have f1:=zm9 1 a.o;have f2:=zm9 2 a.o;have f3:=zm9 3 a.o;have f4:=zm9 4 a.o;have f5:=zm9 5 a.o;go_wp2;go_ret;exact⟨by rw[f.o];rfl,by rw[f.o];exact n.o.1,n.o.2,HX.o⟩
  ·have z:=uE r
   rw[Ce d] at z;have f:Y (ct=(.hd p,r)):=by show _=_;rw[j.o,Ce d];rfl
   go_wp2;go_ret;exact⟨by rw[f.o];rfl,by rw[f.o];exact l.o,CMv.of_h o.o l.o.c5 rfl,fun e=>absurd (Nn e).2 d⟩
theorem PcAt.hf (h:PcAt w b B p)(c:HF w b k):k=b\/(B<=k/\∃cs f,w.heap[k]?=V (Ae cs 5 f)):=by
 obtain⟨i,d,g⟩:=h.ex;rcases c with rfl|⟨j,u,c1,c2⟩
 ·exact Ay rfl
 ·rw[zB d] at c1
  have a:u=i\/u.ownBlock=S:=by
   match j,c1 with
   |0,c1=>simp at c1;subst c1;exact Bf rfl
   |1,c1=>simp at c1;exact Ay c1.symm
   |2,c1=>simp at c1;subst c1;exact Bf rfl
   |j+3,c1=>simp at c1
  rcases a with rfl|a
  ·exact Bf (g.kind k c2)
  ·rw[a] at c2;cases c2
theorem PcAt.apart {d:Ad}{g:Array Aj}{t:Cs}{f:Ad×Ad}(h:PcAt w d B p)(a:w.heap[b]?=V (Ae g t f))(i:t≠172)(l:t≠5):¬HF w d b:=by
 intro j;rcases h.hf j with e|⟨_,c,f',e⟩
 ·obtain⟨m,k,_⟩:=h.ex
  rw[e,k] at a;simp only[Ey,Obj.cells.injEq] at a;exact i a.2.1.symm
 grind[Option.some.injEq,Pc,PcAt,HF]
theorem fy {h i:Aj}(c:w.heap[b]?=V (Ae #[f,g,h,i,j,Al (V ⟨a,0,S⟩)] 106 (0,0)))(d:HF w a k):CF w b k:=Bf ⟨a,zB c,d⟩
theorem CMv.body {f:Ad}{row:Br Ad}{h i n:Aj}(c:w.heap[b]?=V (Ae #[h,i,j,l,n,Al (V ⟨f,0,S⟩)] 106 (0,0)))(g:PcAt w f B p)(m:HMv w w' f):w'.heap[b]?=w.heap[b]?/\CMv w w' b row:=by
 have d:=zO c;have a:=m.turn.block b d (g.apart c (by decide) (by decide));refine⟨a,⟨⟨m.turn.os,m.turn.tape,m.turn.output,m.turn.size,fun k hk hn=>m.turn.block k hk (fun hF=>hn (Ay (fy c hF)))⟩,fun k hk=>?_⟩⟩;rcases hk with hk|⟨pb',h1,h2⟩
 ·exact Ay (Ay (t6 a hk))
 ·rw[kJ a,zB c] at h1
  simp at h1;rw[<-h1] at h2;rcases m.foot k h2 with q|q
  ·exact Ay (fy c q)
  ·exact Bf q
theorem ag {row:Br Ad}(r:CAt w b B (.bd p))(c:Ab)(k:1<=p.left/\p.left<=100000)(j:Z p.data<=1000000000)(q:B<=w.heap.size):Am prog 79 #[Al (V ⟨b,0,S⟩),O Bp c.toNat,v] w fun e w'=>e=Af (I (Aa []))/\CAt w' b B (.bd (p.take c))/\CMv w w' b row:=by
 obtain⟨s,d,f,a⟩:=r;have t:=cbi 5 d;have h:=hid (zfD f c k j q);have g:=hid d;have n:=hid f;generalize p.take c=p' at*;go_in;go_wp2_with fail;refine h.o.mono ?_;rintro e u ⟨rfl,l,m⟩;have o:=hid l;have i:=hid (CMv.body (row:=row) g.o n.o m);go_wp2;go_ret;exact⟨rfl,⟨s,i.o.1.trans g.o,o.o,a⟩,i.o.2⟩
theorem eB (b:CAt w a B (.hd h)):Am prog 82 #[Al (V ⟨a,0,S⟩)] w fun e w'=>e=Af (Al S)/\w'=w:=by
 have c:=HInv.c5 b;go_in;go_wp2;go_ret;exact⟨rfl,rfl⟩
theorem eC (h:CAt w b B (.bd p))(d:p.left≠0):Am prog 82 #[Al (V ⟨b,0,S⟩)] w fun e w'=>e=Af (Al S)/\w'=w:=by
 obtain⟨j,c,g,f⟩:=h;have i:=cbi 5 c;have a:=hid (cS g);rw[Ce d] at a;go_in;go_wp2_with fail;refine a.o.mono ?_;rintro e k ⟨rfl,rfl⟩;go_wp2;go_ret;exact⟨rfl,rfl⟩
theorem CAt.ready {l:Ad}{row:Br Ad}(f:w.heap[a]?=V (Hl3 l))(h:PcAt w l B p)(c:B<=a):CAt (w.setCell ⟨a,5,S⟩ (Al S)) a B (.hd xf)/\PcAt (w.setCell ⟨a,5,S⟩ (Al S)) l B p/\CMv w (w.setCell ⟨a,5,S⟩ (Al S)) a row:=by
 have b:=zF w a 5 (Al S);have d:=zH (i:=5) f (Al S);have g:=h.apart f (by decide) (by decide);obtain⟨q,o,m⟩:=h.ex;refine⟨⟨⟨_,_,d,Bk _ _ _ _,Bk _ _ _ _⟩,c⟩,⟨⟨q,zE o b (by simp only[ne_eq,Ey];exact fun e=>g (Ay e.symm)),m.away b (fun k hk e=>m.apart f (by decide) k hk (Bc e).symm)⟩,h.low⟩,⟨⟨b.os,b.tape,b.output,b.size,fun k hk hn=>b.block k hk (by simp only[ne_eq,Ey];exact fun e=>hn (Ay (Ay (Ay e))))⟩,fun k hk=>?_⟩⟩;rcases hk with hk|⟨pb',h1,h2⟩
 ·rcases hk with rfl|⟨j,u,c1,c2⟩
  ·exact Ay (Ay (Ay rfl))
  ·rw[zB d] at c1
   exfalso
   match j,c1 with
   |0,c1=>simp at c1;subst c1;cases c2
   |1,c1=>simp at c1;subst c1;cases c2
   |2,c1=>simp at c1;subst c1;cases c2
   |3,c1=>simp at c1;subst c1;cases c2
   |4,c1=>simp at c1;subst c1;cases c2
   |5,c1=>simp at c1;subst c1;cases c2
   |j+6,c1=>simp at c1
 ·have n:=cbi 5 d
  rw[n] at h1;simp at h1
theorem pf {row:Br Ad}(k:CAt w a B (.bd p))(j:p.left=0):Am prog 82 #[Al (V ⟨a,0,S⟩)] w fun e w'=>∃d,e=Af (Al (V ⟨d,0,S⟩))/\CAt w' a B (.hd xf)/\PcAt w' d B p/\CMv w w' a row/\w.grownBy w' (V a)/\CF w a d:=by
 obtain⟨d,b,i,c⟩:=k;have m:=cbi 5 b;have l:=zm9 5 b;have h:=hid (cS i);have g:=hid (CAt.ready (row:=row) b i c);have f:=hid (fy b (Ay rfl));rw[Cf j] at h;go_in;go_wp2_with fail;refine h.o.mono ?_;rintro e n ⟨rfl,rfl⟩;go_wp2;go_ret;exact⟨d,rfl,g.o.1,g.o.2.1,g.o.2.2,zF _ _ _ _,f.o⟩
structure Ev where
 conn:Ad
 dst:A Ab
 data:A Ab
def Ev.cells (e:Ev):A Aj:=[O Ai e.conn,I (Aa e.dst),I (Aa e.data)]
def evCells (l:A Ev):A Aj:=l.flatMap Ev.cells
theorem um (l:A Ev)(e:Ev):evCells (l++[e])=evCells l++[O Ai e.conn,I (Aa e.dst),I (Aa e.data)]:=by unfold evCells;rw[List.flatMap_append];rfl
structure Yd where
 draws:A UInt64
 conns:A (Br Cn)
 sent:A Ev
def ptrV:Br Ad->Aj
 |none=>Al S
 |some b=>Al (V ⟨b,0,S⟩)
def drawV (n:UInt64):Aj:=.int .u64 n.toNat
def QRow (w:Ag)(B:Ad)(e:Cs)(v:Aj)(xs:A Aj):Prop:=
 ∃ao b off cap,v=X ao (Z xs) cap/\Came w 1 ao b off (Z xs) cap xs/\(∀a,ao=V a->a.block=b/\B<=b/\∃cs,w.heap[b]?=V (Ae cs e (0,0)))
structure YInv (w:Ag) (yb B:Ad) (tv:Aj) (ps:A (Br Ad)) (y:Yd):Prop where
 ex:∃vd vc vs,w.heap[yb]?=V (Ae #[tv,vd,vc,vs] 99 (0,0))/\QRow w B 60 vd (y.draws.map drawV)/\w.ownsRow B 100 1 vc (Z ps) (ps.map ptrV)/\w.ownsRow B 44 3 vs (Z y.sent) (evCells y.sent)
 low:B<=yb
 len:Z ps=Z y.conns
 here:∀(i:Ad) (cb:Ad),ps[i]?=V (V cb)->∃c,y.conns[i]?=V (V c)/\CAt w cb B c
 gone:∀i:Ad,ps[i]?=V S->y.conns[i]?=V S
 apart:∀i j cb cb':Ad,i≠j->ps[i]?=V (V cb)->ps[j]?=V (V cb')->∀k,CF w cb k->¬CF w cb' k
def cnTypes:A Cs:=[106,5,346,172]
theorem HInv.hf {m:Aj}(d:HInv w b B m h)(o:m.ownBlock=S)(n:HF w b k):B<=k/\∃cs t f,w.heap[k]?=V (Ae cs t f)/\t∈cnTypes:=by
 obtain⟨q,p,g,i,l⟩:=d.ex;rcases n with rfl|⟨j,u,c1,c2⟩
 ·exact⟨d.low,_,_,_,g,by decide⟩
 ·rw[zB g] at c1
  have a:u=q\/u=p\/u.ownBlock=S:=by
   match j,c1 with
   |0,c1=>simp at c1;subst c1;exact Bf (Bf rfl)
   |1,c1=>simp at c1;exact Ay c1.symm
   |2,c1=>simp at c1;subst c1;exact Bf (Bf rfl)
   |3,c1=>simp at c1;subst c1;exact Bf (Bf rfl)
   |4,c1=>simp at c1;exact Bf (Ay c1.symm)
   |5,c1=>simp at c1;subst c1;exact Bf (Bf o)
   |j+6,c1=>simp at c1
  rcases a with rfl|rfl|a
  ·obtain⟨c,e⟩:=qT i k c2
   exact⟨(An i k c2).1,_,_,_,e,by decide⟩
  ·obtain⟨c,e⟩:=qT l k c2
   exact⟨(An l k c2).1,_,_,_,e,by decide⟩
  ·rw[a] at c2;cases c2
theorem CAt.cf {g:Ad}{c:Cn}(h:CAt w g B c)(a:CF w g k):B<=k/\∃cs t f,w.heap[k]?=V (Ae cs t f)/\t∈cnTypes:=by
 cases c with
 |hd hh=>
  have i:=h;rcases a with a|⟨m,h1,h2⟩
  ·exact i.hf rfl a
  ·rw[i.c5] at h1;simp at h1
 |bd p=>
  obtain⟨m,j,d,b⟩:=h;rcases a with a|⟨pb',h1,h2⟩
  ·exact(Pc.zero_head w j b).hf rfl a
  ·rw[zB j] at h1
   simp at h1;rw[<-h1] at h2;rcases d.hf h2 with rfl|⟨q1,c,f,q2⟩
   ·obtain⟨n,l,_⟩:=d.ex
    exact⟨d.low,_,_,_,l,by decide⟩
   ·exact⟨q1,_,_,_,q2,by decide⟩
theorem CAt.lt {c:Cn}(h:CAt w a B c)(b:CF w a k):k<w.heap.size:=by
 obtain⟨_,d,t,f,e,_⟩:=h.cf b;exact zO e
theorem CAt.keep {c:Cn}(h:CAt w a B c)(l:∀k,CF w a k->w'.heap[k]?=w.heap[k]?):CAt w' a B c/\∀k,CF w' a k->CF w a k:=by
 have u:w'.heap[a]?=w.heap[a]?:=l a (Ay (Ay rfl));have j:∀(b:Ad) {e:Cs} {s:Ad} {v:Aj} {n:Ad} {r:A Aj} (i:Ad),(∀k,HF w b k->CF w a k)->w.cell? ⟨b,i,S⟩=V v->w.ownsRow B e s v n r->w'.ownsRow B e s v n r:=by
  intro b e s v n r i d F x;refine⟨x.1,x.2.imp id fun⟨g,cap,cur,h1,h2,h3,h4⟩=>⟨g,cap,cur,h1,h2,?_,h4⟩⟩;rw[l g (d g (Bf ⟨i,v,F,by rw[h1];rfl⟩))];exact h3
 refine⟨?_,fun k d=>?_⟩
 ·cases c with
  |hd hh=>
   have t:HInv w a B (Al S) hh:=h;obtain⟨vl,vh,o,N,Q⟩:=t.ex;exact⟨⟨vl,vh,u.trans o,j a 1 (fun k d=>Ay d) (zB o) N,j a 4 (fun k d=>Ay d) (zB o) Q⟩,t.low⟩
  |bd p=>
   obtain⟨C,m,y,f⟩:=h;obtain⟨E,z,H⟩:=y.ex;exact⟨C,u.trans m,⟨⟨E,(l C (fy m (Ay rfl))).trans z,H.keep (fun k q=>l k (fy m (Bf ⟨1,E,zB z,q⟩)))⟩,y.low⟩,f⟩
 grind[HF,CF,HInv,zB,fy,t6,kJ,Cn,CAt]
def YF (w:Ag)(yb:Ad)(ps:A (Br Ad))(k:Ad):Prop:=HF w yb k\/∃i cb:Ad,ps[i]?=V (V cb)/\CF w cb k
structure YMv (w w':Ag) (yb:Ad) (ps ps':A (Br Ad)):Prop where
 turn:Turn w w' (YF w yb ps)
 foot:∀k,YF w' yb ps' k->YF w yb ps k\/w.heap.size<=k
theorem YMv.refl (w:Ag)(yb:Ad)(a:A (Br Ad)):YMv w w yb a a:=⟨Turn.refl _ _,fun _ h=>Ay h⟩
variable {ps':A (Br Ad)}
theorem YMv.trans {x y:Ag}{d b:A (Br Ad)}(a:YMv w x yb d ps')(c:YMv x y yb ps' b):YMv w y yb d b:=by
 refine⟨⟨c.turn.os.trans a.turn.os,c.turn.tape.trans a.turn.tape,c.turn.output.trans a.turn.output,Bi a.turn.size c.turn.size,fun k hk hn=>(c.turn.block k (Eh hk a.turn.size) (fun hF=>?_)).trans (a.turn.block k hk hn)⟩,fun k hk=>?_⟩
 ·rcases a.foot k hF with q|q
  ·exact hn q
  ·omega
 ·rcases c.foot k hk with q|q
  ·exact a.foot k q
  ·exact Bf (Bi a.turn.size q)
theorem QRow.block {l:A Aj}(h:QRow w B e v l):∀k,v.ownBlock=V k->B<=k/\∃cs,w.heap[k]?=V (Ae cs e (0,0)):=by
 obtain⟨d,b,j,f,rfl,n,i⟩:=h;intro k c
 cases d with
 |none=>cases c
 |some a=>
  obtain⟨m,g⟩:=i a rfl;have e:k=b:=by simp only[Ix,Ey] at c;omega
  rw[e];exact g
theorem QRow.keep {i:A Aj}(h:QRow w B e v i)(x:w.heap.size<=w'.heap.size)(s:∀k,v.ownBlock=V k->w'.heap[k]?=w.heap[k]?):QRow w' B e v i:=by
 obtain⟨m,b,c,f,rfl,d,r⟩:=h
 cases m with
 |none=>
  have o:f=0:=by
   rcases Sh f with h|h
   ·exact h
   ·have:=d.addr h;cases this
  subst o;have t:=Nat.le_zero.1 d.le;have y:=Ni t;subst y;exact⟨S,b,c,0,rfl,⟨Aq _,fun h=>by omega,fun h=>by omega,rfl,fun j u h=>by simp at h,fun j h=>by simp at h⟩,fun a h=>by cases h⟩
 |some a=>
  obtain⟨l,p,n,q⟩:=r a rfl;have g:=s b (by rw[<-l];rfl);refine⟨V a,b,c,f,rfl,⟨d.le,d.addr,fun h=>Eh (d.lt h) x,d.oldsLen,fun j u h=>(Mr (a:=⟨b,c+j,S⟩) g).trans (d.olds j u h),fun j h=>?_⟩,fun a' h=>by cases h;exact⟨l,p,n,g.trans q⟩⟩;rw[Mr (a:=⟨b,c+Z i*1+j,S⟩) g,World.frozen?_of_block (a:=⟨b,c+Z i*1+j,S⟩) g];exact d.spare j h
theorem jH {s:Ad}{b:A Aj}(a:w.ownsRow B e s v n b)(c:∀k,v.ownBlock=V k->w'.heap[k]?=w.heap[k]?):w'.ownsRow B e s v n b:=
 ⟨a.1,a.2.imp id fun⟨g,cap,cur,h1,h2,h3,h4⟩=>⟨g,cap,cur,h1,h2,by rw[c g (by rw[h1];rfl)];exact h3,h4⟩⟩
variable {y y':Yd}
theorem YInv.keep {b:A (Br Ad)}(h:YInv w yb B g b y)(r:w.heap.size<=w'.heap.size)(a:∀k,YF w yb b k->w'.heap[k]?=w.heap[k]?):YInv w' yb B g b y/\∀k,YF w' yb b k->YF w yb b k:=by
 obtain⟨l,vc,m,d,n,o,p⟩:=h.ex;have s:w'.heap[yb]?=w.heap[yb]?:=a yb (Ay (Ay rfl));have f:∀i cb:Ad,b[i]?=V (V cb)->∀k,CF w' cb k->CF w cb k:=fun i cb hi=>by
  obtain⟨c,_,q⟩:=h.here i cb hi;exact(q.keep (fun k hF=>a k (Bf ⟨i,cb,hi,hF⟩))).2
 refine⟨⟨⟨l,vc,m,s.trans d,n.keep r (fun k q=>a k (Ay (Bf ⟨1,l,zB d,q⟩))),jH o (fun k q=>a k (Ay (Bf ⟨2,vc,zB d,q⟩))),jH p (fun k q=>a k (Ay (Bf ⟨3,m,zB d,q⟩)))⟩,h.low,h.len,fun i cb hi=>?_,h.gone,fun i j cb cb' hij hi hj k q q'=>h.apart i j cb cb' hij hi hj k (f i cb hi k q) (f j cb' hj k q')⟩,fun k hF=>?_⟩
 ·obtain⟨c,t,u⟩:=h.here i cb hi
  exact⟨c,t,(u.keep (fun k hF=>a k (Bf ⟨i,cb,hi,hF⟩))).1⟩
 grind[CF,zB,jH,t6,Yd,YInv,YF]
def ydTypes:A Cs:=[99,60,100,44]
theorem YInv.hf {n:A (Br Ad)}(h:YInv w yb B g n y)(m:g.ownBlock=S)(l:HF w yb k):B<=k/\∃cs t,w.heap[k]?=V (Ae cs t (0,0))/\t∈ydTypes:=by
 obtain⟨o,vc,p,b,i,d,f⟩:=h.ex;rcases l with rfl|⟨j,u,c1,c2⟩
 ·exact⟨h.low,_,_,b,by decide⟩
 ·rw[zB b] at c1
  have a:u=o\/u=vc\/u=p\/u.ownBlock=S:=by
   match j,c1 with
   |0,c1=>simp at c1;subst c1;exact Bf (Bf (Bf m))
   |1,c1=>simp at c1;exact Ay c1.symm
   |2,c1=>simp at c1;exact Bf (Ay c1.symm)
   |3,c1=>simp at c1;exact Bf (Bf (Ay c1.symm))
   |j+4,c1=>simp at c1
  rcases a with rfl|rfl|rfl|a
  ·obtain⟨q,c,e⟩:=i.block k c2
   exact⟨q,_,_,e,by decide⟩
  ·obtain⟨c,e⟩:=qT d k c2
   exact⟨(An d k c2).1,_,_,e,by decide⟩
  ·obtain⟨c,e⟩:=qT f k c2
   exact⟨(An f k c2).1,_,_,e,by decide⟩
  ·rw[a] at c2;cases c2
theorem kf (a:∃cs t,w.heap[k]?=V (Ae cs t (0,0))/\t∈ydTypes)(b:∃cs t f,w.heap[k]?=V (Ae cs t f)/\t∈cnTypes):False:=by grind[ydTypes,cnTypes]
def Yd.isOpen (y:Yd)(n:Ak):Ee:=decide (1<=n) && (decide (n<=Z y.conns) && (match y.conns[(n-1).toNat]? with|V (V _)=>true|_=>false))
theorem YInv.same {a:A (Br Ad)}(h:YInv w yb B g a y)(m:Ad)(f:m<Z a):y.isOpen (m+1:Ad)=a[m].isSome:=by
 have i:=h.len;have e:a[m]?=V a[m]:=Bd f;unfold Yd.isOpen;have b:decide ((1:Ak)<=(m+1:Ad))=true:=Cf (by omega);have c:decide (((m+1:Ad):Ak)<=Z y.conns)=true:=Cf (by omega);have d:(((m+1:Ad):Ak)-1).toNat=m:=by omega
 rw[b,c,d]
 cases hp:a[m] <;> grind[List.getElem?_eq_getElem,Yd.isOpen,Yd,YInv]
theorem nY {a:Br Eu}{c:A (Br Ad)}(h:w.ownsRow B 100 1 (X a (Z c) k) (Z c) (c.map ptrV))(m:Ad)(f:m<Z c):∃g b,a=V ⟨g,0,S⟩/\k=b/\w.cell? ⟨g,m,S⟩=V (ptrV c[m])/\w.frozen? ⟨g,m,S⟩=false:=by
 obtain⟨g,b,d,_,_⟩:=Bm h (by omega);simp only[Au,Fb] at d;obtain⟨rfl,rfl⟩:=d;refine⟨g,_,rfl,rfl,?_,Nz h m⟩;rw[Ap h m (by omega),Fq,Bd f]
 rfl
theorem wW {s:Aj}{f:A (Br Ad)}(h:YInv w yb B s f y)(n:Ak)(t:Z f<=1000000):Am prog 46 #[Al (V ⟨yb,0,S⟩),O Ai n] w fun e w'=>e=Af (Av (y.isOpen n))/\w'=w:=by
 obtain⟨x,vc,z,j,k,c,l⟩:=h.ex;obtain⟨ca,ck,rfl⟩:=zL c;have v:=cbi 2 j;have o:=h.len
 by_cases q:1<=n
 ·by_cases u:n<=Z f
  ·obtain⟨m,rfl⟩:∃m:Ad,n=(m+1:Ad):=⟨(n-1).toNat,by omega⟩
   have d:m<Z f:=by omega
   have b:=hid (h.same m d);obtain⟨g,p,rfl,rfl,i,_⟩:=nY c m d;generalize y.isOpen (m+1:Ad)=r at*
   cases hp:f[m] with
   |none=>
    rw[hp] at i b;have a:=J (b.o);simp only[ptrV] at i;go_in;go_wp2;go_ret;exact⟨by rw[a.o];exact zX (by first|rfl|simp),rfl⟩
   |some cb=>
    rw[hp] at i b;have a:=J (b.o);simp only[ptrV] at i;go_in;go_wp2;go_ret;exact⟨by rw[a.o];exact zX (by first|rfl|simp),rfl⟩
  ·have a:Y (y.isOpen n=false):=by
    show _=_;unfold Yd.isOpen;rw[Ce (show ¬n<=Z y.conns by omega)];simp
   generalize y.isOpen n=r at*;go_in;go_wp2;go_ret;exact⟨by rw[a.o];exact zX (by first|rfl|simp),rfl⟩
 ·have a:Y (y.isOpen n=false):=by
   show _=_;unfold Yd.isOpen;rw[Ce q];rfl
  generalize y.isOpen n=r at*;go_in;go_wp2;go_ret;exact⟨by rw[a.o];exact zX (by first|rfl|simp),rfl⟩
theorem YInv.own {tv':Aj}{f:A (Br Ad)}(h:YInv w yb B o f y)(p:o.ownBlock=S)(m:HMv w w' yb)
  (l:∃vd vc vs,w'.heap[yb]?=V (Ae #[tv',vd,vc,vs] 99 (0,0))/\QRow w' B 60 vd (y'.draws.map drawV)/\w'.ownsRow B 100 1 vc (Z ps') (ps'.map ptrV)/\w'.ownsRow B 44 3 vs (Z y'.sent) (evCells y'.sent))
  (d:Z ps'=Z y'.conns) (a:∀i cb:Ad,ps'[i]?=V (V cb)->f[i]?=V (V cb)/\y'.conns[i]?=y.conns[i]?) (b:∀i:Ad,ps'[i]?=V S->y'.conns[i]?=V S):YInv w' yb B tv' ps' y'/\YMv w w' yb f ps':=by
 have n:∀i cb:Ad,f[i]?=V (V cb)->∀k,CF w cb k->w'.heap[k]?=w.heap[k]?:=fun i cb hi k hk=>by
  obtain⟨c,_,q⟩:=h.here i cb hi;exact m.turn.block k (q.lt hk) (fun hF=>kf (h.hf p hF).2 (q.cf hk).2)
 have g:∀i cb:Ad,ps'[i]?=V (V cb)->∀k,CF w' cb k->CF w cb k:=fun i cb hi=>by
  obtain⟨c,_,q⟩:=h.here i cb (a i cb hi).1;exact(q.keep (n i cb (a i cb hi).1)).2
 refine⟨⟨l,h.low,d,fun i cb hi=>?_,b,fun i j cb cb' hij hi hj k q q'=>h.apart i j cb cb' hij (a i cb hi).1 (a j cb' hj).1 k (g i cb hi k q) (g j cb' hj k q')⟩,⟨⟨m.turn.os,m.turn.tape,m.turn.output,m.turn.size,fun k hk hn=>m.turn.block k hk (fun hF=>hn (Ay hF))⟩,fun k hF=>?_⟩⟩
 ·obtain⟨c,r,s⟩:=h.here i cb (a i cb hi).1
  exact⟨c,by rw[(a i cb hi).2];exact r,(s.keep (n i cb (a i cb hi).1)).1⟩
 ·rcases hF with hF|⟨i,cb,hi,hF⟩
  ·rcases m.foot k hF with q|q
   ·exact Ay (Ay q)
   ·exact Bf q
  ·exact Ay (Bf ⟨i,cb,(a i cb hi).1,g i cb hi k hF⟩)
def Yd.ended (y:Yd)(m:Ad):Yd:={ y with conns:=y.conns.set m S }
theorem zd8 {a:A (Br Ad)}(h:YInv w yb B l a y)(x:l.ownBlock=S)(m:Ad)(u:m<Z a)(N:Z a<=1000000):Am prog 48 #[Al (V ⟨yb,0,S⟩),O Ai (m+1:Ad)] w fun e w'=>e=Af (Cm #[])/\YInv w' yb B l (a.set m S) (y.ended m)/\YMv w w' yb a (a.set m S):=by
 obtain⟨C,vc,E,f,j,b,n⟩:=h.ex;obtain⟨ca,ck,rfl⟩:=zL b;have z:=cbi 2 f;obtain⟨g,r,rfl,rfl,F,H⟩:=nY b m u;have v:(m:Ak)<Z a:=by omega
 have d:=Ol b m (Al S);have c:=zI f b (by decide);have o:=c g rfl;have M:=HMv.row z (zO f) (w':=w.setCell ⟨g,m,S⟩ (Al S)) d.2 c;have t:=hid (h.own (tv':=l) (ps':=a.set m S) (y':=y.ended m) x M ⟨C,_,E,zE f d.2 (by simp;exact fun e=>o e.symm),j.keep M.turn.size (fun k hk=>d.2.block k (by obtain⟨_,_,e⟩:=j.block k hk;exact zO e) (fun e=>by
   obtain⟨_,_,s⟩:=j.block k hk;obtain⟨_,p⟩:=qT b k e.symm;rw[s] at p;simp at p)),by rw[Gv,List.map_set];exact d.1,zJ n d.2 (fun k hk e=>qB b n (by decide) k hk (by rw[e];rfl))⟩ (by show _=Z (y.conns.set m S);rw[Gv,Gv];exact h.len) (fun i cb hi=>by
   by_cases e:m=i
   ·subst e;rw[Fm (by omega)] at hi;simp at hi
   ·rw[Fc e] at hi;exact⟨hi,Fc e⟩) (fun i hi=>by
   show(y.conns.set m S)[i]?=_
   by_cases e:m=i
   ·subst e;rw[Fm (by have:=h.len;omega)]
   ·rw[Fc e] at hi ⊢;exact h.gone i hi))
 generalize a[m]=q at*;go_in;go_wp2
 go_end0
 exact⟨rfl,t.o⟩
theorem m9:(prog.info? 44).map (fun i=>(i.zero,i.size,i.bytes))=V (V (Fe #[O Ai 0,I ⟨#[]⟩,I ⟨#[]⟩]),3,40):=by kernel_rfl
def Yd.send (y:Yd)(e:Ev):Yd:={ y with sent:=y.sent++[e] }
theorem YInv.sent {vc:Aj}{a:A (Br Ad)}(h:YInv w yb B f a y)(x:f.ownBlock=S)(n:w.heap[yb]?=V (Ae #[f,g,vc,j] 99 (0,0)))(o:QRow w B 60 g (y.draws.map drawV))(p:w.ownsRow B 100 1 vc (Z a) (a.map ptrV))(r:w.ownsRow B 44 3 j (Z y.sent) (evCells y.sent))(m:HMv w w' yb){l:A Ev}
  (b:w'.heap[yb]?=V (Ae #[f,g,vc,v] 99 (0,0))) (u:w'.ownsRow B 44 3 v (Z l) (evCells l)) (s:∀k,k<w.heap.size->j.ownBlock≠V k->k≠yb->w'.heap[k]?=w.heap[k]?):YInv w' yb B f a { y with sent:=l }/\YMv w w' yb a a:=by
 refine h.own x m ⟨g,vc,v,b,o.keep m.turn.size (fun k q=>?_),jH p (fun k q=>?_),u⟩ h.len (fun i cb hi=>⟨hi,rfl⟩) h.gone
 ·obtain⟨_,t,e⟩:=o.block k q
  refine s k (zO e) (fun e2=>?_) (fun e2=>?_)
  ·obtain⟨c,d⟩:=qT r k e2
   rw[e] at d;simp at d
  ·rw[e2,n] at e;simp at e
 ·obtain⟨t,e⟩:=qT p k q
  refine s k (zO e) (fun e2=>?_) (fun e2=>?_)
  ·obtain⟨c,d⟩:=qT r k e2
   rw[e] at d;simp at d
  ·rw[e2,n] at e;simp at e
abbrev Hl7 (a b c):=Ae #[O Ai a,I (Aa b),I (Aa c)] 44
theorem oA {N:Aj}{r:A (Br Ad)}(h:YInv w yb B N r y)(ht:N.ownBlock=S)(n:Ad)(a d:A Ab)(hn:Z y.sent<=1000000000)(hB:B<=w.heap.size):Am prog 81 #[Al (V ⟨yb,0,S⟩),O Ai n,I (Aa a),I (Aa d)] w fun e w'=>e=Af (Cm #[])/\YInv w' yb B N r (y.send ⟨n,a,d⟩)/\YMv w w' yb r r:=by
 obtain⟨i0,hi,aj,ak,al⟩:=Ej m9;obtain⟨vd,vc,vs,z,h2,h3,H⟩:=h.ex;obtain⟨sa,sk,rfl⟩:=zL H;have k3:=cbi 3 z;have HT:Y (y.send ⟨n,a,d⟩={ y with sent:=y.sent++[⟨n,a,d⟩] }):=rfl;have F:=hid (Ac w (Hl7 n a d) S);have v:=J (zK H F.o (fun k hk c=>by cases c));have ae:Y (∀j u,([O Ai n,I (Aa a),I (Aa d)]:A Aj)[j]?=V u->(w.alloc (Hl7 n a d)).cell? ((⟨w.heap.size,0,S⟩:Eu).add j)=V u):=zZ w #[_,_,_] _ _ rfl;have Q:Y (∀u∈([O Ai n,I (Aa a),I (Aa d)]:A Aj),u.oneCell'=true):=fun u hu=>by simp at hu;rcases hu with rfl|rfl|rfl <;> rfl
 have ad:Y (Z y.sent+1<=Bh):=by show _<=_;unfold Bh;omega
 have ah:Y ((Z y.sent+1)*40<=140737488355328):=by show _<=_;omega
 have m:Y ((w.alloc (Hl7 n a d)).heap.size=w.heap.size+1):=by show _=_;simp
 have aa:Y (B<=(w.alloc (Hl7 n a d)).heap.size):=by show _<=_;rw[m.o];omega
 have g:=hid (zE z F.o (by simp));have q:=hid (zI g.o v.o (by decide));have kX:=cbi 3 g.o;have ai:=zO g.o;have t:Y (∀o b s,s.ownsRow B 44 3 (X (V ⟨o,0,S⟩) (Z y.sent+1) b) (Z y.sent+1) (evCells y.sent++[O Ai n,I (Aa a),I (Aa d)])->(w.alloc (Hl7 n a d)).grownBy s (X sa (Z y.sent) sk).ownBlock->((X sa (Z y.sent) sk).ownBlock=V o\/o=w.heap.size+1)->YInv (s.setCell ⟨yb,3,S⟩ (X (V ⟨o,0,S⟩) (Z y.sent+1) b)) yb B N r { y with sent:=y.sent++[⟨n,a,d⟩] }/\YMv w (s.setCell ⟨yb,3,S⟩ (X (V ⟨o,0,S⟩) (Z y.sent+1) b)) yb r r):=fun o b s ho hg hat=>by
  have C:=zw g.o hg q.o;have gs:=zF s yb 3 (X (V ⟨o,0,S⟩) (Z y.sent+1) b);refine h.sent ht z h2 h3 H ((HMv.of_grown (zO z) F.o).trans (HMv.append kX ai hg q.o (by rcases hat with h|h;exact Ay h;exact Bf (by rw[h,m.o])))) (zH (i:=3) C _) ?_ (fun k hk hv hy=>?_)
  ·have:=zJ ho gs (zI C ho (by decide))
   rw[Ah,um];exact this
  ·have E:k<(w.alloc (Hl7 n a d)).heap.size:=by rw[m.o];omega
   exact(gs.block k (Eh E hg.size) (by simpa using hy)).trans ((hg.block k E (fun e=>hv e.symm)).trans (F.o.block k hk (by simp)))
 generalize y.send ⟨n,a,d⟩=y' at*;go_in;go_wp2_with (at_builtin;refine Ei _ rfl (.tmp 12) (.tmp 17) 41 rfl B 44 i0 _ 3 40 underlying41 hi aj ak al rfl (by decide) _ _ _ rfl v.o ⟨w.heap.size,0,S⟩ 1 1 [O Ai n,I (Aa a),I (Aa d)] rfl rfl ae.o Q.o (by decide) ad.o ah.o aa.o (w.heap.size+1) m.o ?_);intro o b s l f p _;have af:=hid l;have ab:=hid f;have ag:=hid p;have x:=hid (zw g.o f q.o);have q9:=cbi 3 x.o;have f9:=zm9 3 x.o;go_wp2
 go_end0
 exact⟨rfl,by rw[HT.o];exact t.o _ _ _ af.o ab.o ag.o⟩
def Yd.told (y:Yd):Yd:={ y with sent:=[] }
theorem lV {z:Aj}{d:A (Br Ad)}(h:YInv w yb B z d y)(Q:z.ownBlock=S):Am prog 28 #[Al (V ⟨yb,0,S⟩)] w fun e w'=>∃v,e=Af v/\YInv w' yb B z d y.told/\YMv w w' yb d d/\w'.ownsRow B 44 3 v (Z y.sent) (evCells y.sent)/\(∀k,v.ownBlock=V k->¬YF w' yb d k)/\∀k,v.ownBlock=V k->YF w yb d k:=by
 obtain⟨vd,vc,vs,o,H,N,r⟩:=h.ex;obtain⟨sa,sk,rfl⟩:=zL r;have k3:=cbi 3 o;have f3:=zm9 3 o;have s:=zF w yb 3 (X S 0 0);have n:=zH (i:=3) o (X S 0 0);have p:=hid (h.sent Q o H N r (w':=w.setCell ⟨yb,3,S⟩ (X S 0 0)) (v:=.slice S 0 0) (l:=[]) (HMv.set k3 (fun k hk=>by cases hk)) n (Bk _ _ _ _) (fun k hk _ hy=>s.block k hk (by simpa using hy)));have x:=zJ r s (zI o r (by decide));have HR:=hid x;have HN:Y (∀k,(X sa (Z y.sent) sk).ownBlock=V k->¬YF (w.setCell ⟨yb,3,S⟩ (X S 0 0)) yb d k):=fun k hk hF=>by
  obtain⟨cs,e⟩:=qT x k hk;rcases hF with hF|⟨i,cb,hi,hF⟩
  ·rcases hF with rfl|⟨j,u,c1,a⟩
   ·rw[n] at e;simp at e
   ·rw[zB n] at c1
    match j,c1 with
    |0,c1=>simp at c1;subst c1;rw[Q] at a;cases a
    |1,c1=>
     simp at c1;subst c1;obtain⟨E,C,F,g,m,_⟩:=p.o.1.ex;rw[n] at g;simp at g;rw[g.1] at a;obtain⟨_,c,b⟩:=m.block k a;rw[e] at b;simp at b
    |2,c1=>
     simp at c1;subst c1;obtain⟨E,C,F,g,_,m,_⟩:=p.o.1.ex;rw[n] at g;simp at g;rw[g.2.1] at a;obtain⟨c,b⟩:=qT m k a;rw[e] at b;simp at b
    |3,c1=>simp at c1;subst c1;cases a
    |j+4,c1=>simp at c1
  ·obtain⟨c,_,q⟩:=p.o.1.here i cb hi
   obtain⟨_,a,t,f,m,b⟩:=q.cf hF;rw[e] at m;simp at m;rw[<-m.2.1] at b;revert b;decide
 have HI:Y (∀k,(X sa (Z y.sent) sk).ownBlock=V k->YF w yb d k):=fun k hk=>Ay (Bf ⟨3,_,k3,hk⟩)
 go_in;go_wp2;go_ret;exact⟨_,rfl,p.o.1,p.o.2,HR.o,HN.o,HI.o⟩
def M.ev (j:Ad):A Aj:=[O Ai (-1-(j:Ak)),I ⟨#[]⟩,I ⟨#[]⟩]
def M.sg (j:Ad):Ad->A Aj
 |0=>[]
 |m+1=>M.ev j++M.sg j m
theorem kz (j m:Ad):Z (M.sg j m)=m*3:=by
 induction m <;> simp_all[M.ev,M.sg] <;> omega
theorem bJ (j n m:Ad):M.sg j n++M.sg j m=M.sg j (n+m):=by
 induction n with
 |zero=>rw[Gr];rfl
 |succ n ih=>rw[Nat.succ_add];show(M.ev j++M.sg j n)++M.sg j m=M.ev j++M.sg j (n+m);rw[Bl,ih]
theorem dF (j m p:Ad)(h:p<=m):(M.sg j m).take (p*3)=M.sg j p:=by
 obtain⟨d,rfl⟩:=Nat.exists_eq_add_of_le h;rw[<-bJ,<-kz j p,List.take_left]
theorem eh (j m:Ad):∀u∈M.sg j m,u.oneCell'=true:=by
 induction m with
 |zero=>intro u a;cases a
 |succ m ih=>
  intro u a;rcases Ea.1 a with h|h
  ·simp[M.ev] at h;rcases h with rfl|rfl <;> rfl
  ·exact ih u h
theorem fp {a:Br Eu}{d:A Aj}(h:w.ownsRow B e 3 (X a n c) n d)(i:m<=n):w.ownsRow B e 3 (X a m c) m (d.take (m*3)):=by
 obtain⟨f,b⟩:=h;refine⟨by rw[Cq];omega,?_⟩;rcases b with ⟨b,h3⟩|⟨g,cap,cur,b,hB,hb,hle,hmx,hsz,htk⟩
 ·simp only[Au] at b
  exact Ay ⟨by rw[b.1,b.2.2];congr 1;omega,by omega⟩
 ·simp only[Au,Fb] at b
  refine Bf ⟨g,cap,cur,by rw[b.1,b.2],hB,hb,by omega,hmx,hsz,?_⟩;rw[<-htk,List.take_take,Vj (by omega)]
def M.Out (w:Ag)(B N:Ad)(a:Br Eu)(c k n p m:Ad)(v:Aj):Prop:=
 (v=X a (n+m) c/\m<=p/\a≠S)\/(w.ownsRow B 44 3 v (n+m) (M.sg k (n+m))/\∀g,v.ownBlock=V g->N<=g)
theorem M.Out.row {N:Ad}{a:Br Eu}{p:Ad}(h:M.Out w B N a c k n p m v)(b:w.ownsRow B 44 3 (X a (n+p) c) (n+p) (M.sg k (n+p))):w.ownsRow B 44 3 v (n+m) (M.sg k (n+m))/\∀g,v.ownBlock=V g->(X a n c).ownBlock=V g\/N<=g:=by
 rcases h with ⟨rfl,hm,_⟩|⟨h,h2⟩
 ·have:=fp b (m:=n+m) (by omega)
  rw[dF _ _ _ (by omega)] at this;exact⟨this,fun g hg=>Ay (by cases a <;> exact hg)⟩
 ·exact⟨h,fun g hg=>Bf (h2 g hg)⟩
theorem M.Out.step {N:Ad}{a:Br Eu}{p:Ad}(h:M.Out w B N a c k n p m v)(d:∀g,(X a n c).ownBlock=V g->g<N)(f:w.grownBy w' (X a n c).ownBlock)(i:p<=b):M.Out w' B N a c k n b m v:=by grind[zK,M.Out]
theorem vZ {w:Ag}{v:Array Xw}{rest:A Xw}{o:Xw}{ac:Act}{Q:Exit->Act->Ag->Prop}(q:o.guard=S)(s x:Operand)
  (ho:o.op = .call { callee:=.builtin .append,args:=#[s,x],argTypes:=#[41,41] })
  {B N:Ad} {l:TypeInfo} (hi:prog.info? 44=V l) (F:l.zero=V (Fe #[O Ai 0,I ⟨#[]⟩,I ⟨#[]⟩])) (t:l.size=3) (H:l.bytes=40)
  (a:Br Eu) (c k n p m:Ad) (hs:ac.eval s=X a n c) (hr:w.ownsRow B 44 3 (X a (n+p) c) (n+p) (M.sg k (n+p)))
  (y:Eu) (hx:ac.eval x=X (V y) m m) (hc:∀j u,(M.sg k m)[j]?=V u->w.cell? (y.add j)=V u) (r:p<=m) (hm:0<m) (hb:n+m<=1000000000000) (hB:B<=w.heap.size) (hN:N<=w.heap.size)
  (hK:∀C w' p',Y (p<=p'/\p'<=m/\w'.ownsRow B 44 3 (X a (n+p') c) (n+p') (M.sg k (n+p'))/\M.Out w' B N a c k n p' m C/\w.grownBy w' (X a n c).ownBlock)->Xu prog v Q rest (ac.put o.dst C) w'):Xu prog v Q (o::rest) ac w:=by
 have d:w.ownsRow B 44 3 (X a n c) n (M.sg k n):=by
  have:=fp hr (m:=n) (by omega)
  rwa[dF _ _ _ (by omega)] at this
 by_cases f:n+m<=c/\a≠S
 ·rcases d.2 with ⟨h,_⟩|⟨g,cap,cur,h,hBg,_⟩
  ·simp only[Au] at h;exact absurd h.1 f.2
  ·simp only[Au,Fb] at h
   obtain⟨rfl,rfl⟩:=h;refine wpList_append_fits w q s x 41 ho B 44 l 3 underlying41 hi t g n c (M.sg k n) hs d y m m (M.sg k m) hx (kz _ _) hc (eh _ _) f.1 ?_;intro w' i z;rw[bJ] at i;exact hK _ w' m ⟨r,Aq _,i,Ay ⟨rfl,Aq _,by simp⟩,z⟩
 ·refine wpList_append_grows w q s x 41 ho 44 l _ 3 40 underlying41 hi F t H rfl (by decide) a n c (M.sg k n) hs ?_ (kz _ _) ?_ y m m (M.sg k m) hx (kz _ _) hc (eh _ _) ?_ (by unfold Bh;omega) (by omega) ?_
  ·intro e
   rcases d.2 with ⟨h,h0⟩|⟨g,cap,cur,h,_⟩
   ·simp only[Au] at h;exact⟨h0,h.2.2⟩
   ·simp only[Au] at h;rw[e] at h;cases h.1
  ·intro b e j u E
   rcases d.2 with ⟨h,h0⟩|⟨g,cap,cur,h,hBg,hb2,hle,hmx,hsz,htk⟩
   ·simp only[Au] at h;rw[e] at h;cases h.1
   ·simp only[Au,Fb] at h
    rw[e] at h;obtain⟨h,rfl⟩:=h;obtain rfl:=Bc h;subst e;have hj:j<n*3:=by have:=(Bo.1 E).1;rwa[kz] at this
    have:=Ap d j (by omega);unfold Addr.add
    split
    ·rename_i h0;subst h0;rw[this];exact E
    ·simp only[Gr];rw[this];exact E
  ·by_cases ha:a=S
   ·rcases d.2 with ⟨h,h0⟩|⟨g,cap,cur,h,_⟩
    ·simp only[Au] at h;omega
    ·simp only[Au] at h;rw[ha] at h;cases h.1
   ·have:¬n+m<=c:=fun h=>f ⟨h,ha⟩
    omega
  ·intro C w' i z
   rw[bJ] at i;exact hK C w' p ⟨Aq _,r,zK hr z (fun _ _ c=>by cases c),Bf ⟨zo i hB,fun g hg=>Bi hN (An i g hg).1⟩,zT z _⟩
theorem zkC:(prog.info? 41).map (fun i=>(i.zero,i.size,i.bytes))=V (V (X S 0 0),1,24):=by kernel_rfl
def mH (j i:Ad)(xs:A Aj):A Aj:=M.sg j i++xs.drop (i*3)
theorem zdJ {j:Ad}{a:A Aj}(c:Z a=n*3)(b:i<=n):Z (mH j i a)=n*3:=by grind[mH,List.length_append,kz,List.length_drop]
theorem zdK {j:Ad}{b:A Aj}(k:Z b=n*3)(h:i<n):(((mH j i b).set (i*3) (O Ai (-1-(j:Ak)))).set (i*3+1) (I ⟨#[]⟩)).set (i*3+2) (I ⟨#[]⟩)=mH j (i+1) b:=by
 have g:=kz j i;obtain⟨c,d,f,e⟩:∃c d f,b.drop (i*3)=c::d::f::b.drop (i*3+3):=⟨b[i*3],b[i*3+1],b[i*3+2],by rw[Ed (by omega),Ed (by omega),Ed (by omega)]⟩;unfold mH;rw[e,show(i+1)*3=i*3+3 by omega,<-bJ j i 1,Bl];generalize M.sg j i=a at*;generalize b.drop (i*3+3)=r at*;rw[<-g,Mg _ _ (Aq _),Mg _ _ (by omega),Mg _ _ (by omega),Gp,Ow,Ow]
 rfl
structure M.Post (w w':Ag) (wb B:Ad) (vl vb vk ve vm va:Aj) (ev:A (Aj×Ad×Ad)) (n:Ad) (ev':A (Aj×Ad×Ad)) (ve' vm':Aj):Prop where
 len:Z ev'=4
 box:w'.heap[wb]?=V (Ae #[vl,vb,vk,ve',vm'] 77 (0,0))
 re:w'.ownsRow B 41 1 ve' (Z (ev++ev')) ((ev++ev').map (·.1))
 rm:w'.ownsRow B 3 1 vm' (Z (ev++ev')) ((ev++ev').map fun e=>O Ai (-1-(e.2.1:Ak)))
 all:∀e∈ev',w'.ownsRow B 44 3 e.1 e.2.2 (M.sg e.2.1 e.2.2)/\e.2.1<=Z ev/\e.2.2<=n+3
 fe:∀k,ve'.ownBlock=V k->ve.ownBlock=V k\/w.heap.size<=k
 fm:∀k,vm'.ownBlock=V k->vm.ownBlock=V k\/w.heap.size<=k
 fa:∀e∈ev',∀k,e.1.ownBlock=V k->va.ownBlock=V k\/w.heap.size<=k
 turn:Turn w w' (fun k=>k=wb\/ve.ownBlock=V k\/vm.ownBlock=V k\/va.ownBlock=V k)
abbrev Hl6 (a b c d e f g h i):=Ae #[X a b c,X d (b+1) e,X f (b+2) g,X h (b+3) i] 41
theorem zb9 {Q:Ad}{vl vb vk ve vm:Aj}{b:A (Aj×Ad×Ad)}(d:Br Eu)(n f:Ad)(xs:A Aj)(az:w.heap[Q]?=V (Ae #[vl,vb,vk,ve,vm] 77 (0,0)))(aB:w.ownsRow B 41 1 ve (Z b) (b.map (·.1)))(aC:w.ownsRow B 3 1 vm (Z b) (b.map fun e=>O Ai (-1-(e.2.1:Ak))))(hr:w.ownsRow B 44 3 (X d n f) n xs)(hB:B<=w.heap.size)(bF:Z b<=100000000)(hn:n<=1000000000):Am prog 66 #[Al (V ⟨Q,0,S⟩),(X d n f)] w fun e w'=>e=Af (Cm #[])/\∃ev' ve' vm',M.Post w w' Q B vl vb vk ve vm (X d n f) b n ev' ve' vm':=by
 obtain⟨i0,hi,aD,aE,aF⟩:=Ej m9;obtain⟨i1,hj,bs,bt,bu⟩:=Ej zkC;obtain⟨i2,a,bv,bw,bx⟩:=Ej ip;obtain⟨e1,e2,rfl⟩:=zL aB;obtain⟨k1,k2,rfl⟩:=zL aC;obtain⟨K,hK⟩:∃K,Y (K=Z b / 4):=⟨_,rfl⟩;have bj:Y (-1-(Z b:Ak) / 4 = -1-(K:Ak)):=by show _=_;have:=hK.o;omega
 have q3:=cbi 3 az;have gM:=hid (Ac w (Ae #[O Ai (-1-(K:Ak)),I ⟨#[]⟩,I ⟨#[]⟩] 44) S);have aJ:=hid (zE az gM.o (by simp));have aS:=hid (Ao aB (Ae #[O Ai (-1-(K:Ak)),I ⟨#[]⟩,I ⟨#[]⟩] 44));have aT:=hid (Ao aC (Ae #[O Ai (-1-(K:Ak)),I ⟨#[]⟩,I ⟨#[]⟩] 44));have HR:=hid (Ao hr (Ae #[O Ai (-1-(K:Ak)),I ⟨#[]⟩,I ⟨#[]⟩] 44));have HM:Y ((w.alloc (Ae #[O Ai (-1-(K:Ak)),I ⟨#[]⟩,I ⟨#[]⟩] 44)).heap[w.heap.size]?=V (Ae #[O Ai (-1-(K:Ak)),I ⟨#[]⟩,I ⟨#[]⟩] 44)):=Bn _ _;have a8:Z xs=n*3:=hr.1;have r:Y (∀g,(X d n f).ownBlock=V g->g<w.heap.size):=fun g hg=>(An hr g hg).2
 go_in;go_wp2_with fail;rw[bj.o];have v:Y (Turn (w.alloc (Ae #[O Ai (-1-(K:Ak)),I ⟨#[]⟩,I ⟨#[]⟩] 44)) (w.alloc (Ae #[O Ai (-1-(K:Ak)),I ⟨#[]⟩,I ⟨#[]⟩] 44)) (fun k=>(X d n f).ownBlock=V k)):=Turn.refl _ _;have af:=J (HR);have bM:w.heap.size<(w.alloc (Ae #[O Ai (-1-(K:Ak)),I ⟨#[]⟩,I ⟨#[]⟩] 44)).heap.size:=by simp
 generalize w.alloc (Ae #[O Ai (-1-(K:Ak)),I ⟨#[]⟩,I ⟨#[]⟩] 44)=wm at*
 go_loopw [6] (fun iv wr=>∃i:Ad,i<=n/\iv=O Ai i/\Y (wr.ownsRow B 44 3 (X d n f) n (mH K i xs))/\Y (Turn wm wr (fun k=>(X d n f).ownBlock=V k))) (fun iv _=>n-(intOf iv).toNat)
 ·exact⟨0,Ax _,rfl,af,v⟩
 ·
  obtain⟨i,br,rfl,p,ai⟩:=hrel;have ab:=hid (ai.o.keep HM.o (fun c=>by have:=r.o _ c;omega));have m0:=cbi 0 ab.o;have m1:=cbi 1 ab.o;have m2:=cbi 2 ab.o
  by_cases bA:i<n
  ·have bG:(i:Ak)<n:=by omega
   obtain⟨g,gc,q1,_,_⟩:=Bm p.o (by omega);simp only[Au,Fb] at q1;obtain⟨rfl,rfl⟩:=q1;have bz:=zdJ (j:=K) a8 br;obtain⟨x0,c0⟩:∃u,wr.cell? ⟨g,i*3,S⟩=V u:=⟨_,by rw[Ap p.o _ (by omega)];exact Bd (by omega)⟩;obtain⟨x1,c1⟩:∃u,wr.cell? ⟨g,i*3+1,S⟩=V u:=⟨_,by rw[Ap p.o _ (by omega)];exact Bd (by omega)⟩;obtain⟨x2,c2⟩:∃u,wr.cell? ⟨g,i*3+2,S⟩=V u:=⟨_,by rw[Ap p.o _ (by omega)];exact Bd (by omega)⟩;have f0:wr.frozen? ⟨g,i*3,S⟩=false:=Nz p.o _;have f1:wr.frozen? ⟨g,i*3+1,S⟩=false:=Nz p.o _;have f2:wr.frozen? ⟨g,i*3+2,S⟩=false:=Nz p.o _;obtain⟨s0,g0⟩:=Ol p.o (i*3) (O Ai (-1-(K:Ak)));obtain⟨s1,g1⟩:=Ol s0 (i*3+1) (I ⟨#[]⟩);obtain⟨s2,g2⟩:=Ol s1 (i*3+2) (I ⟨#[]⟩);rw[zdK a8 bA] at s2;have ao:=hid s2;have x:=hid (((ai.o.step g0 (fun k a=>Ay (by rw[<-a];rfl))).step g1 (fun k a=>Ay (by rw[<-a];rfl))).step g2 (fun k a=>Ay (by rw[<-a];rfl)));go_wp2_with fail
   go_roundw
   ·exact⟨i+1,by omega,by go_num,ao,x⟩
   ·simp[intOf];omega
  ·have bq:n=i:=by omega
   subst bq;have af:Y (wr.ownsRow B 44 3 (X d (n+0) f) (n+0) (M.sg K (n+0))):=by
    have h:=p.o;unfold mH at h;rw[Ga (by omega),Cv] at h;exact h
   have v:=hid ai.o;have aG:=hid (Ao af.o (Ae #[O Ai (-1-(K:Ak)),I ⟨#[]⟩,I ⟨#[]⟩] 44));have aK:Y (∀j u,(M.sg K 1)[j]?=V u->(wr.alloc (Ae #[O Ai (-1-(K:Ak)),I ⟨#[]⟩,I ⟨#[]⟩] 44)).cell? ((⟨wr.heap.size,0,S⟩:Eu).add j)=V u):=zZ wr #[_,_,_] _ _ rfl;have a9:B<=(wr.alloc (Ae #[O Ai (-1-(K:Ak)),I ⟨#[]⟩,I ⟨#[]⟩] 44)).heap.size:=by have:=v.o.size;simp;omega
   have bc:w.heap.size<=(wr.alloc (Ae #[O Ai (-1-(K:Ak)),I ⟨#[]⟩,I ⟨#[]⟩] 44)).heap.size:=by have:=v.o.size;simp;omega
   have bC:0<=1:=by omega
   have bn:n+1<=1000000000000:=by omega
   go_wp2_with (at_builtin;refine @vZ _ _ _ _ _ _ rfl (.tmp 29) (.tmp 31) rfl B w.heap.size i0 hi aD aE aF d f K n 0 1 rfl aG.o ⟨wr.heap.size,0,S⟩ rfl aK.o bC (Vn _) bn a9 bc ?_);intro v1 w1 p1 hh;obtain⟨bH,a5,aY,aX⟩:=hh.o;have gA:=Ac wr (Ae #[O Ai (-1-(K:Ak)),I ⟨#[]⟩,I ⟨#[]⟩] 44) (X d n f).ownBlock;have aR:=hid a5;have bk:=hid aY;have ah:=hid ((v.o.step gA (fun k a=>Ay a)).step aX (fun k a=>Ay a));have al:=hid (ah.o.keep HM.o (fun c=>by have:=r.o _ c;omega));have m0:=cbi 0 al.o;have m1:=cbi 1 al.o;have m2:=cbi 2 al.o;have aH:=hid (Ao aR.o (Ae #[O Ai (-1-(K:Ak)),I ⟨#[]⟩,I ⟨#[]⟩,O Ai (-1-(K:Ak)),I ⟨#[]⟩,I ⟨#[]⟩] 44));have aL:Y (∀j u,(M.sg K 2)[j]?=V u->(w1.alloc (Ae #[O Ai (-1-(K:Ak)),I ⟨#[]⟩,I ⟨#[]⟩,O Ai (-1-(K:Ak)),I ⟨#[]⟩,I ⟨#[]⟩] 44)).cell? ((⟨w1.heap.size,0,S⟩:Eu).add j)=V u):=zZ w1 #[_,_,_,_,_,_] _ _ rfl;have ba:B<=(w1.alloc (Ae #[O Ai (-1-(K:Ak)),I ⟨#[]⟩,I ⟨#[]⟩,O Ai (-1-(K:Ak)),I ⟨#[]⟩,I ⟨#[]⟩] 44)).heap.size:=by have:=ah.o.size;simp;omega
   have bd:w.heap.size<=(w1.alloc (Ae #[O Ai (-1-(K:Ak)),I ⟨#[]⟩,I ⟨#[]⟩,O Ai (-1-(K:Ak)),I ⟨#[]⟩,I ⟨#[]⟩] 44)).heap.size:=by have:=ah.o.size;simp;omega
   have bD:p1<=2:=by omega
   have bo:n+2<=1000000000000:=by omega
   go_wp2_with (at_builtin;refine @vZ _ _ _ _ _ _ rfl (.tmp 33) (.tmp 36) rfl B w.heap.size i0 hi aD aE aF d f K n p1 2 rfl aH.o ⟨w1.heap.size,0,S⟩ rfl aL.o bD (Vn _) bo ba bd ?_);intro v2 w2 p2 hh;obtain⟨bB,bI,a6,aZ,aA⟩:=hh.o;have gA:=Ac w1 (Ae #[O Ai (-1-(K:Ak)),I ⟨#[]⟩,I ⟨#[]⟩,O Ai (-1-(K:Ak)),I ⟨#[]⟩,I ⟨#[]⟩] 44) (X d n f).ownBlock;have ao:=hid a6;have bm:=hid aZ;have bl:=hid ((bk.o.step r.o gA (Aq _)).step r.o aA bB);have x:=hid ((ah.o.step gA (fun k a=>Ay a)).step aA (fun k a=>Ay a));have am:=hid (x.o.keep HM.o (fun c=>by have:=r.o _ c;omega));have m0:=cbi 0 am.o;have m1:=cbi 1 am.o;have m2:=cbi 2 am.o;have aI:=hid (Ao ao.o (Ae #[O Ai (-1-(K:Ak)),I ⟨#[]⟩,I ⟨#[]⟩,O Ai (-1-(K:Ak)),I ⟨#[]⟩,I ⟨#[]⟩,O Ai (-1-(K:Ak)),I ⟨#[]⟩,I ⟨#[]⟩] 44));have aM:Y (∀j u,(M.sg K 3)[j]?=V u->(w2.alloc (Ae #[O Ai (-1-(K:Ak)),I ⟨#[]⟩,I ⟨#[]⟩,O Ai (-1-(K:Ak)),I ⟨#[]⟩,I ⟨#[]⟩,O Ai (-1-(K:Ak)),I ⟨#[]⟩,I ⟨#[]⟩] 44)).cell? ((⟨w2.heap.size,0,S⟩:Eu).add j)=V u):=zZ w2 #[_,_,_,_,_,_,_,_,_] _ _ rfl;have bb:B<=(w2.alloc (Ae #[O Ai (-1-(K:Ak)),I ⟨#[]⟩,I ⟨#[]⟩,O Ai (-1-(K:Ak)),I ⟨#[]⟩,I ⟨#[]⟩,O Ai (-1-(K:Ak)),I ⟨#[]⟩,I ⟨#[]⟩] 44)).heap.size:=by have:=x.o.size;simp;omega
   have be:w.heap.size<=(w2.alloc (Ae #[O Ai (-1-(K:Ak)),I ⟨#[]⟩,I ⟨#[]⟩,O Ai (-1-(K:Ak)),I ⟨#[]⟩,I ⟨#[]⟩,O Ai (-1-(K:Ak)),I ⟨#[]⟩,I ⟨#[]⟩] 44)).heap.size:=by have:=x.o.size;simp;omega
   have bE:p2<=3:=by omega
   have bp:n+3<=1000000000000:=by omega
   go_wp2_with (at_builtin;refine @vZ _ _ _ _ _ _ rfl (.tmp 38) (.tmp 42) rfl B w.heap.size i0 hi aD aE aF d f K n p2 3 rfl aI.o ⟨w2.heap.size,0,S⟩ rfl aM.o bE (Vn _) bp bb be ?_);intro v3 w3 p3 hh;obtain⟨a4,bJ,a7,a0,ap⟩:=hh.o;have gA:=Ac w2 (Ae #[O Ai (-1-(K:Ak)),I ⟨#[]⟩,I ⟨#[]⟩,O Ai (-1-(K:Ak)),I ⟨#[]⟩,I ⟨#[]⟩,O Ai (-1-(K:Ak)),I ⟨#[]⟩,I ⟨#[]⟩] 44) (X d n f).ownBlock;have ag:=hid a7;have aQ:=hid a0;have aO:=hid ((bl.o.step r.o gA (Aq _)).step r.o ap a4);have aP:=hid ((bm.o.step r.o gA (Aq _)).step r.o ap a4);have y:=hid ((x.o.step gA (fun k a=>Ay a)).step ap (fun k a=>Ay a));have an:=hid (y.o.keep HM.o (fun c=>by have:=r.o _ c;omega));have m0:=cbi 0 an.o;have m1:=cbi 1 an.o;have m2:=cbi 2 an.o;obtain⟨aw,bf⟩:=aO.o.row ag.o;obtain⟨ax,bg⟩:=aP.o.row ag.o;obtain⟨ay,bh⟩:=aQ.o.row ag.o;have aU:w3.ownsRow B 44 3 (X d n f) n (M.sg K n):=by
    have h:=fp ag.o (m:=n) (by omega)
    rwa[dF _ _ _ (by omega)] at h
   obtain⟨a1,c1,rfl⟩:=zL aw;obtain⟨a2,c2,rfl⟩:=zL ax;obtain⟨a3,c3,rfl⟩:=zL ay;have aa:Y (∀e∈([(X d n f,K,n),(X a1 (n+1) c1,K,n+1),(X a2 (n+2) c2,K,n+2),(X a3 (n+3) c3,K,n+3)]:A (Aj×Ad×Ad)),w3.ownsRow B 44 3 e.1 e.2.2 (M.sg e.2.1 e.2.2)/\(e.2.1=K/\e.2.2<=n+3)/\∀k,e.1.ownBlock=V k->(X d n f).ownBlock=V k\/w.heap.size<=k):=fun e he=>by
    simp only[En,Ge,Mn] at he;rcases he with rfl|rfl|rfl|rfl
    ·exact⟨aU,⟨rfl,by dsimp only;omega⟩,fun k a=>Ay a⟩
    ·exact⟨aw,⟨rfl,by dsimp only;omega⟩,bf⟩
    ·exact⟨ax,⟨rfl,by dsimp only;omega⟩,bg⟩
    ·exact⟨ay,⟨rfl,by dsimp only;omega⟩,bh⟩
   have s:=hid (y.o.keep aJ.o (fun hF=>zI aJ.o HR.o (by decide) Q hF rfl));have t:=hid (Turn.row aS.o y.o (fun k a hF=>qB HR.o aS.o (by decide) k a hF));have F:=hid (Turn.row aT.o y.o (fun k a hF=>qB HR.o aT.o (by decide) k a hF));have r3:=cbi 3 s.o;have bK:=y.o.size;have ad:Y (∀j u,([X d n f,X a1 (n+1) c1,X a2 (n+2) c2,X a3 (n+3) c3]:A Aj)[j]?=V u->(w3.alloc (Hl6 d n f a1 c1 a2 c2 a3 c3)).cell? ((⟨w3.heap.size,0,S⟩:Eu).add j)=V u):=zZ w3 #[_,_,_,_] _ _ rfl;have ae:Y (∀u∈([X d n f,X a1 (n+1) c1,X a2 (n+2) c2,X a3 (n+3) c3]:A Aj),u.oneCell'=true):=by intro u hu;simp only[En,Ge,Mn] at hu;rcases hu with rfl|rfl|rfl|rfl <;> rfl
   have aq:Y (Z b+4<=Bh):=by show _<=_;unfold Bh;omega
   have aj:Y ((Z b+4)*24<=140737488355328):=by show _<=_;omega
   have ak:Y (B<=(w3.alloc (Hl6 d n f a1 c1 a2 c2 a3 c3)).heap.size):=by show _<=_;simp;omega
   go_wp2_with (at_builtin;refine Ei _ rfl (.tmp 48) (.tmp 53) 75 rfl B 41 i1 _ 1 24 underlying75 hj bs bt bu rfl (by decide) _ _ _ rfl (Ao t.o _) ⟨w3.heap.size,0,S⟩ 4 4 [X d n f,X a1 (n+1) c1,X a2 (n+2) c2,X a3 (n+3) c3] rfl rfl ad.o ae.o (by decide) aq.o aj.o ak.o (w3.heap.size+1) (by simp) ?_);intro g4 c4 w4 z l aV _;have bi:Y (∀k,(X (V ⟨g4,0,S⟩) (Z b+4) c4).ownBlock=V k->(X e1 (Z b) e2).ownBlock=V k\/w.heap.size<=k):=fun k a=>by
    have e:g4=k:=Bc a;rw[<-e];exact aV.imp id (fun h=>by omega)
   generalize(V (⟨g4,0,S⟩:Eu))=b4 at*;have gB:=Ac w3 (Hl6 d n f a1 c1 a2 c2 a3 c3) S;have y4:=zw (zE s.o gB (by simp)) l (zI (zE s.o gB (by simp)) (Ao t.o _) (by decide));have m4:=zK (Ao F.o (Hl6 d n f a1 c1 a2 c2 a3 c3)) l (fun k a c=>qB (Ao t.o (Hl6 d n f a1 c1 a2 c2 a3 c3)) (Ao F.o (Hl6 d n f a1 c1 a2 c2 a3 c3)) (by decide) k a c);have r4:=cbi 3 y4;have f4:=zm9 3 y4;have gS:=zF w4 Q 3 (X b4 (Z b+4) c4);have E:=hid (zH (i:=3) y4 (X b4 (Z b+4) c4));have av:=hid (zJ z gS (zI y4 z (by decide)));have H:=hid (zJ m4 gS (zI y4 m4 (by decide)));have ar:Y (Turn w3 (w4.setCell ⟨Q,3,S⟩ (X b4 (Z b+4) c4)) (fun k=>k=Q\/(X e1 (Z b) e2).ownBlock=V k\/(X k1 (Z b) k2).ownBlock=V k)):=(((Turn.refl w3 _).step gB (fun k a=>by cases a)).step l (fun k a=>Ay (Bf (Ay a)))).step gS (fun k a=>Ay (Ay (Bc a).symm));go_upto_region 10 with fail;generalize(w4.setCell ⟨Q,3,S⟩ (X b4 (Z b+4) c4))=w5 at*;have r5:=cbi 4 E.o;have bL:=ar.o.size;have ad:Y (∀j u,([O Ai (-1-(K:Ak)),O Ai (-1-(K:Ak)),O Ai (-1-(K:Ak)),O Ai (-1-(K:Ak))]:A Aj)[j]?=V u->(w5.alloc (Ae #[O Ai (-1-(K:Ak)),O Ai (-1-(K:Ak)),O Ai (-1-(K:Ak)),O Ai (-1-(K:Ak))] 3)).cell? ((⟨w5.heap.size,0,S⟩:Eu).add j)=V u):=zZ w5 #[_,_,_,_] _ _ rfl;have ae:Y (∀u∈([O Ai (-1-(K:Ak)),O Ai (-1-(K:Ak)),O Ai (-1-(K:Ak)),O Ai (-1-(K:Ak))]:A Aj),u.oneCell'=true):=by intro u hu;simp only[En,Ge,Mn] at hu;rcases hu with rfl|rfl|rfl|rfl <;> rfl
   have aj:Y ((Z b+4)*8<=140737488355328):=by show _<=_;omega
   have ak:Y (B<=(w5.alloc (Ae #[O Ai (-1-(K:Ak)),O Ai (-1-(K:Ak)),O Ai (-1-(K:Ak)),O Ai (-1-(K:Ak))] 3)).heap.size):=by show _<=_;simp;omega
   go_wp2_with (at_builtin;refine Ei _ rfl (.tmp 61) (.tmp 66) 55 rfl B 3 i2 _ 1 8 underlying55 a bv bw bx rfl (by decide) _ _ _ rfl (Ao H.o _) ⟨w5.heap.size,0,S⟩ 4 4 [O Ai (-1-(K:Ak)),O Ai (-1-(K:Ak)),O Ai (-1-(K:Ak)),O Ai (-1-(K:Ak))] rfl rfl ad.o ae.o (by decide) aq.o aj.o ak.o (w5.heap.size+1) (by simp) ?_);intro g6 c6 w6 C o aW _;have gB:=Ac w5 (Ae #[O Ai (-1-(K:Ak)),O Ai (-1-(K:Ak)),O Ai (-1-(K:Ak)),O Ai (-1-(K:Ak))] 3) S;have y6:=zw (zE E.o gB (by simp)) o (zI (zE E.o gB (by simp)) (Ao H.o _) (by decide));have v6:=zK (Ao av.o (Ae #[O Ai (-1-(K:Ak)),O Ai (-1-(K:Ak)),O Ai (-1-(K:Ak)),O Ai (-1-(K:Ak))] 3)) o (fun k a c=>qB (Ao H.o (Ae #[O Ai (-1-(K:Ak)),O Ai (-1-(K:Ak)),O Ai (-1-(K:Ak)),O Ai (-1-(K:Ak))] 3)) (Ao av.o (Ae #[O Ai (-1-(K:Ak)),O Ai (-1-(K:Ak)),O Ai (-1-(K:Ak)),O Ai (-1-(K:Ak))] 3)) (by decide) k a c);have r6:=cbi 4 y6;have f6:=zm9 4 y6;have gS:=zF w6 Q 4 (X (V ⟨g6,0,S⟩) (Z b+4) c6);have au:Y (Turn w3 (w6.setCell ⟨Q,4,S⟩ (X (V ⟨g6,0,S⟩) (Z b+4) c6)) (fun k=>k=Q\/(X e1 (Z b) e2).ownBlock=V k\/(X k1 (Z b) k2).ownBlock=V k)):=((ar.o.step gB (fun k a=>by cases a)).step o (fun k a=>Ay (Bf (Bf a)))).step gS (fun k a=>Ay (Ay (Bc a).symm));have aN:Y (∀e∈([(X d n f,K,n),(X a1 (n+1) c1,K,n+1),(X a2 (n+2) c2,K,n+2),(X a3 (n+3) c3,K,n+3)]:A (Aj×Ad×Ad)),(w6.setCell ⟨Q,4,S⟩ (X (V ⟨g6,0,S⟩) (Z b+4) c6)).ownsRow B 44 3 e.1 e.2.2 (M.sg e.2.1 e.2.2)):=fun e he=>by
    have N:=(aa.o e he).1;refine Turn.row N au.o (fun k a hF=>?_);rcases hF with q|q|q
    ·exact zI s.o N (by decide) k a q
    ·exact qB N t.o (by decide) k q a
    ·exact qB N F.o (by decide) k q a
   have HP:Y (M.Post w (w6.setCell ⟨Q,4,S⟩ (X (V ⟨g6,0,S⟩) (Z b+4) c6)) Q B vl vb vk (X e1 (Z b) e2) (X k1 (Z b) k2) (X d n f) b n [(X d n f,K,n),(X a1 (n+1) c1,K,n+1),(X a2 (n+2) c2,K,n+2),(X a3 (n+3) c3,K,n+3)] (X b4 (Z b+4) c4) (X (V ⟨g6,0,S⟩) (Z b+4) c6)):=⟨rfl,zH (i:=4) y6 _,by rw[Ah,Ef];exact zJ v6 gS (zI y6 v6 (by decide)),by rw[Ah,Ef];exact zJ C gS (zI y6 C (by decide)),fun e he=>⟨aN.o e he,by rw[((aa.o e he).2.1).1,hK.o];omega,((aa.o e he).2.1).2⟩,bi.o,fun k a=>by
    have e:g6=k:=Bc a;rw[<-e];exact aW.imp id (fun h=>by omega),fun e he=>(aa.o e he).2.2,((Turn.of_grown gM.o).trans y.o (fun _ h=>h) (fun k a=>Bf (Bf (Bf a)))).trans au.o (fun _ h=>h) (fun k a=>a.elim Ay (fun q=>q.elim (fun q=>Bf (Ay q)) (fun q=>Bf (Bf (Ay q)))))⟩
   go_wp2
   go_end0
   exact⟨rfl,_,_,_,HP.o⟩
structure L.R (w:Ag) (wb B:Ad) (vl:Aj) (es ev:A (Aj×Ad×Ad)):Prop where
 ex:∃vb vk ve vm,w.heap[wb]?=V (Ae #[vl,vb,vk,ve,vm] 77 (0,0))/\w.ownsRow B 32 1 vb (Z es) (es.map (·.1))/\w.ownsRow B 3 1 vk (Z es) (es.map fun e=>O Ai (e.2.1:Ad))/\w.ownsRow B 41 1 ve (Z ev) (ev.map (·.1))/\w.ownsRow B 3 1 vm (Z ev) (ev.map fun e=>O Ai (-1-(e.2.1:Ak)))/\∀k,vk.ownBlock=V k->vm.ownBlock≠V k
 all:∀e∈es,w.ownsRow B 5 1 e.1 e.2.2 (L.sg e.2.1 0 e.2.2)
 evs:∀e∈ev,w.ownsRow B 44 3 e.1 e.2.2 (M.sg e.2.1 e.2.2)
 low:B<=wb
 bd:∀e∈es++ev,e.2.1<1000000000000/\e.2.2<1000000000000
theorem L.R.keep {b d:A (Aj×Ad×Ad)}(h:L.R w i B g b d)(f:w.grownBy w' S):L.R w' i B g b d:=by
 obtain⟨r,u,t,x,j,k,l,m,o,p⟩:=h.ex;have a:∀{e:Cs} {s:Ad} {v:Aj} {n:Ad} {xs:A Aj},w.ownsRow B e s v n xs->w'.ownsRow B e s v n xs:=fun q=>zK q f (fun _ _ c=>by cases c)
 exact⟨⟨r,u,t,x,zE j f (by simp),a k,a l,a m,a o,p⟩,fun e he=>a (h.all e he),fun e he=>a (h.evs e he),h.low,h.bd⟩
theorem M.at (j m i c:Ad)(h:i<m)(a:c<3):(M.sg j m)[i*3+c]?=(M.ev j)[c]?:=by
 induction m generalizing i with
 |zero=>omega
 |succ m ih=>
  show(M.ev j++M.sg j m)[i*3+c]?=_
  cases i with
  |zero=>rw[Cx (by show _<3;omega)];congr 1;omega
  |succ i=>
   rw[Cl (by show 3<=_;omega),show(i+1)*3+c-Z (M.ev j)=i*3+c by show _-3=_;omega];exact ih i (by omega)
theorem nC {wb:Ad}{vl:Aj}{g l:A (Aj×Ad×Ad)}(h:L.R w wb B vl g l)(al:Z g<=1000000000)(am:Z l<=1000000000):Am prog 39 #[Al (V ⟨wb,0,S⟩)] w fun e w'=>e=Af (Av true)/\w.grownBy w' S:=by
 have H0:=J (h);have HK:=J (h.bd);go_in;go_wp2_with fail
 go_loopw [3] (fun iv wr=>∃i:Ad,i<=Z g/\iv=O Ai i/\Y (w.grownBy wr S)) (fun iv _=>Z g-(intOf iv).toNat)
 ·exact⟨0,Ax _,rfl,zP _ _⟩
 ·
  obtain⟨i,an,rfl,N⟩:=hrel;obtain⟨vb,vk,ve,vm,o,z,E,C,F,_⟩:=(H0.o.keep N.o).ex;obtain⟨x1,x2,rfl⟩:=zL C;obtain⟨y1,y2,rfl⟩:=zL F;obtain⟨b1,b2,rfl⟩:=zL z;obtain⟨k1,k2,rfl⟩:=zL E;have q1:=cbi 1 o;have q3:=cbi 3 o;have H:=hid o;have aa:=hid C;have ad:=hid F;have Q:=J z;have ab:=J E
  by_cases q:i<Z g
  ·have ai:(i:Ak)<Z g:=by omega
   obtain⟨gb,af,e1,_,_⟩:=Bm Q.o (by omega);simp only[Au,Fb] at e1;obtain⟨rfl,rfl⟩:=e1;obtain⟨gk,ag,e2,_,_⟩:=Bm ab.o (by omega);simp only[Au,Fb] at e2;obtain⟨rfl,rfl⟩:=e2;have s:wr.cell? ⟨gb,i,S⟩=V g[i].1:=by
    have h:=Ap Q.o i (by omega);rw[h];simp[q]
   have ck:wr.cell? ⟨gk,i,S⟩=V (O Ai (g[i].2.1:Ad)):=by
    have h:=Ap ab.o i (by omega);rw[h];simp[q]
   have b:=H0.o.all g[i] (Cr q);have y:=HK.o g[i] (Mo _ (Cr q));generalize g[i]=en at*;obtain⟨v,r,n⟩:=en;simp only at s ck b y;obtain⟨va,vc,rfl⟩:=zL b;have d:=J (b);generalize wr=wo at*;go_wp2_with fail
   go_loopw [4] (fun kv wz=>∃k:Ad,k<=n/\kv=O Ai k/\Y (wo.grownBy wz S)) (fun kv _=>n-(intOf kv).toNat)
   ·exact⟨0,Ax _,rfl,zP _ _⟩
   ·
    obtain⟨k,ak,rfl,a⟩:=hrel;have z1:=a.o.cell q1 (by simp);have z2:wr.cell? ⟨wb,2,S⟩=V (X (V ⟨gk,0,S⟩) (Z g) k2):=a.o.cell (zB H.o) (by simp);have z3:=a.o.cell s (by simp);have z4:=a.o.cell ck (by simp)
    by_cases m:k<n
    ·have x:(k:Ak)<n:=by omega
     obtain⟨gv,ah,e3,_,_⟩:=Bm d.o (by omega);simp only[Au,Fb] at e3;obtain⟨rfl,rfl⟩:=e3;have z5:wr.cell? ⟨gv,k,S⟩=V (O Bp (xR r k:Ad)):=by
      have h:=Ap (zK (zK d.o N.o (fun _ _ c=>by cases c)) a.o (fun _ _ c=>by cases c)) k (by omega);rw[h];unfold L.sg;simp[m]
     have ae:Y (∀W,Am prog 65 #[O Ai r,O Ai k] W fun e w'=>e=Af (O Bp (xR r k:Ad))/\w'=W):=fun W=>fX r k W (by omega) (by omega)
     go_wp2_with fail;go_quiet ((go_at_call 65;exact Calls.quiet_of_same (ae.o _)));go_wp2_with fail;exact⟨⟨k+1,by omega,by go_num,zD a.o (x3 _ _)⟩,by simp[intOf];omega⟩
    ·have x:¬(k:Ak)<n:=by omega
     have t:=J (zD N.o a.o);go_wp2_with fail
     go_roundw
     ·exact⟨i+1,by omega,by go_num,t⟩
     ·simp[intOf];omega
  ·have ai:¬(i:Ak)<Z g:=by omega
   generalize wr=wo at*;go_wp2_with fail
   go_loopw [5] (fun jv wz=>∃j:Ad,j<=Z l/\jv=O Ai j/\Y (wo.grownBy wz S)) (fun jv _=>Z l-(intOf jv).toNat)
   ·exact⟨0,Ax _,rfl,zP _ _⟩
   ·
    obtain⟨j,ao,rfl,a⟩:=hrel;have z1:=a.o.cell q3 (by simp)
    by_cases p:j<Z l
    ·have aj:(j:Ak)<Z l:=by omega
     obtain⟨gb,af,e1,_,_⟩:=Bm aa.o (by omega);simp only[Au,Fb] at e1;obtain⟨rfl,rfl⟩:=e1;obtain⟨gk,ag,e2,_,_⟩:=Bm ad.o (by omega);simp only[Au,Fb] at e2;obtain⟨rfl,rfl⟩:=e2;have s:wr.cell? ⟨gb,j,S⟩=V l[j].1:=a.o.cell (by
      have h:=Ap aa.o j (by omega);rw[h];simp[p]) (by simp)
     have ck:wr.cell? ⟨gk,j,S⟩=V (O Ai (-1-(l[j].2.1:Ak))):=a.o.cell (by
      have h:=Ap ad.o j (by omega);rw[h];simp[p]) (by simp)
     have b:=(H0.o.keep (zD N.o a.o)).evs l[j] (Cr p);have z2:wr.cell? ⟨wb,4,S⟩=V (X (V ⟨gk,0,S⟩) (Z l) y2):=a.o.cell (zB H.o) (by simp);have y:=HK.o l[j] (Mh _ (Cr p));generalize l[j]=en at*;obtain⟨v,r,n⟩:=en;simp only at s ck b y;obtain⟨va,vc,rfl⟩:=zL b;have d:=hid b;generalize wr=wp at*;go_wp2_with fail
     go_loopw [6] (fun kv wz=>∃k:Ad,k<=n/\kv=O Ai k/\Y (wp.grownBy wz S)) (fun kv _=>n-(intOf kv).toNat)
     ·exact⟨0,Ax _,rfl,zP _ _⟩
     ·
      obtain⟨k,ak,rfl,f⟩:=hrel;have u1:=f.o.cell z1 (by simp);have u2:=f.o.cell z2 (by simp);have u3:=f.o.cell s (by simp);have u4:=f.o.cell ck (by simp)
      by_cases m:k<n
      ·have x:(k:Ak)<n:=by omega
       obtain⟨gv,ah,e3,_,_⟩:=Bm d.o (by omega);simp only[Au,Fb] at e3;obtain⟨rfl,rfl⟩:=e3;have u:=hid (zK d.o f.o (fun _ _ c=>by cases c));have t0:wr.cell? ⟨gv,k*3,S⟩=V (O Ai (-1-(r:Ak))):=(Ap u.o _ (by omega)).trans (M.at r n k 0 m (by omega));have t1:wr.cell? ⟨gv,k*3+1,S⟩=V (I ⟨#[]⟩):=(Ap u.o _ (by omega)).trans (M.at r n k 1 m (by omega));have t2:wr.cell? ⟨gv,k*3+2,S⟩=V (I ⟨#[]⟩):=(Ap u.o _ (by omega)).trans (M.at r n k 2 m (by omega));go_wp2_with fail;go_quiet (fail);go_wp2_with fail;exact⟨⟨k+1,by omega,by go_num,zD f.o (x3 _ _)⟩,by simp[intOf];omega⟩
      ·have x:¬(k:Ak)<n:=by omega
       have t:=J (zD a.o f.o);go_wp2_with fail
       go_roundw
       ·exact⟨j+1,by omega,by go_num,t⟩
       ·simp[intOf];omega
    ·have aj:¬(j:Ak)<Z l:=by omega
     have HF:=hid (zD N.o a.o);go_wp2;go_ret;exact⟨rfl,HF.o⟩
theorem nh (s:As)(w:Ag)(n:s.size<=Bh):Am prog 316 #[I s] w fun e w'=>e=Af (Av (zm s.data.toList))/\w'=w:=by
 unfold Bh at n;go_in;go_wp2
 go_loop [3] (fun i=>∃k:Ad,k<=s.size/\i=O Ai k/\Y (Ec Ck (s.data.toList.take k)=true)) (fun i=>s.size-(intOf i).toNat)
 ·exact⟨0,Ax _,rfl,rfl⟩
 ·
  obtain⟨k,p,rfl,f⟩:=hrel
  by_cases c:k<s.size
  ·have g:Y (Ck s[k].toNat=false->zm s.data.toList=false):=by
    intro h;unfold zm;rw[R.all_false c h];simp
   have j:Y (Ck s[k].toNat=true->Ec Ck (s.data.toList.take (k+1))=true):=fun h=>R.all_succ c f.o h
   generalize o:s[k]=b at*;go_wp2_with fail;refine(uW _ w).mono ?_;rintro e q ⟨rfl,rfl⟩
   cases hp:Ck b.toNat
   ·have d:=hid (g.o hp)
    go_wp2;go_ret;exact⟨zX d.o.symm,rfl⟩
   ·have a:=hid (j.o hp)
    go_wp2;exact⟨⟨k+1,by omega,by go_num,a⟩,by simp[intOf];omega⟩
  ·have d:Y (zm s.data.toList=(decide (1<=s.size) && decide (s.size<=5))):=by
    show zm s.data.toList=_;unfold zm;rw[R.all_done (by omega) f.o,Cp,Bool.and_true]
    congr 1
    rw[decide_eq_decide,ne_eq,<-Ep,Cp];omega
   by_cases l:1<=s.size
   ·have m:(1:Ak)<=s.size:=by omega
    have a:Y (zm s.data.toList=decide ((s.size:Ak)<=5)):=by
     show _=_;rw[d.o,Cf l,Bool.true_and,decide_eq_decide];omega
    go_wp2;go_ret;exact⟨zX (by rw[a.o]),rfl⟩
   ·have m:¬(1:Ak)<=s.size:=by omega
    have a:Y (zm s.data.toList=false):=by
     show _=_;rw[d.o,Ce l,Bool.false_and]
    go_wp2;go_ret;exact⟨zX (by rw[a.o]),rfl⟩
theorem od (s:As)(b:Ee)(w:Ag)(r:s.size<=Bh):Am prog 314 #[I s,Av b] w fun e w'=>e=Af (Av (Ec (if b then yX else yG) s.data.toList))/\w'=w:=by
 unfold Bh at r;generalize q:(if b=true then yX else yG)=p;have o:Y (∀c:Ak,p c=(decide ((if b then 32 else 33)<=c) && decide (c<=126))):=fun c=>by subst q;cases b <;> rfl
 go_in;go_wp2
 go_loop [5] (fun i=>∃k:Ad,k<=s.size/\i=O Ai k/\Y (Ec p (s.data.toList.take k)=true)) (fun i=>s.size-(intOf i).toNat)
 ·exact⟨0,Ax _,rfl,rfl⟩
 ·
  obtain⟨k,y,rfl,l⟩:=hrel
  by_cases j:k<s.size
  ·have d:Y (p s[k].toNat=false->Ec p s.data.toList=false):=fun h=>R.all_false j h
   have g:Y (p s[k].toNat=true->Ec p (s.data.toList.take (k+1))=true):=fun h=>R.all_succ j l.o h
   generalize x:s[k]=c at*;have a:=hid (o.o c.toNat);generalize p c.toNat=pc at*
   by_cases u:126<(c.toNat:Ak)
   ·have f:=hid (d.o (by rw[a.o,Ce (show ¬(c.toNat:Ak)<=126 by omega),Bool.and_false]))
    go_wp2;go_ret;exact⟨zX f.o.symm,rfl⟩
   ·by_cases v:(c.toNat:Ak)<32
    ·have f:=hid (d.o (by rw[a.o,Ce (show ¬(if b=true then 32 else 33)<=(c.toNat:Ak) by split <;> omega),Bool.false_and]))
     go_wp2;go_ret;exact⟨zX f.o.symm,rfl⟩
    ·by_cases m:(c.toNat:Ak)=32
     ·cases b
      ·have f:=hid (d.o (by rw[a.o,m];rfl))
       go_wp2;go_ret;exact⟨zX f.o.symm,rfl⟩
      ·have n:=hid (g.o (by rw[a.o,m];rfl))
       go_wp2;exact⟨⟨k+1,by omega,by go_num,n⟩,by simp[intOf];omega⟩
     ·have n:=hid (g.o (by rw[a.o,Cf (show(if b=true then 32 else 33)<=(c.toNat:Ak) by split <;> omega),Cf (show(c.toNat:Ak)<=126 by omega)];rfl))
      have t:((c.toNat:Ak) == 32)=false:=by rw[Ch];exact m
      go_wp2;exact⟨⟨k+1,by omega,by go_num,n⟩,by simp[intOf];omega⟩
  ·have f:=J (R.all_done (by omega) l.o)
   go_wp2;go_ret;exact⟨zX (by rw[f.o]),rfl⟩
theorem aL (l:A Ab)(c:Ab)(k:Ad)(d:k<Z l)(f:∀j (i:j<k),l[j]'(by omega)≠c)(a:l[k]=c):Mf l c=k:=by
 induction l generalizing k with
 |nil=>cases d
 |cons b l ih=>
  unfold Mf
  cases k with
  |zero=>have e:b=c:=a;rw[Az (by rw[e];simp)];rfl
  |succ k=>
   have g:=f 0 (by omega);have h:=ih k (by simpa using d) (fun j i=>f (j+1) (by omega)) a;rw[Aw (by simpa using g),h,Aw (by simp <;> omega)]
   omega
theorem nB (l:A Ab)(c:Ab)(a:∀j (g:j<Z l),l[j]≠c):Mf l c = -1:=by
 induction l with
 |nil=>rfl
 |cons b l ih=>
  unfold Mf;have d:=a 0 (by simp);have f:=ih (fun j g=>a (j+1) (by simp;omega));rw[Aw (by simpa using d),f,Az (by simp)]
theorem mC (l:A Ab)(c:Ab)(w:Ag)(E:Z l<=1000000):Am prog 254 #[I (Aa l),O Bp c.toNat] w fun e w'=>e=Af (Cm #[I (Aa (Ca l [c]).1),I (Aa (Ca l [c]).2.1),Av (Ca l [c]).2.2])/\w.grownBy w' S:=by
 have v:=Bz l;have u:=Be l;have m:Y (Ca l [c]=if 0<=Es l [c] then (l.take (Es l [c]).toNat,l.drop ((Es l [c]).toNat+1),true) else (l,[],false)):=rfl;have n:Y (∀k (g:k<Z l),(∀j (hj:j<k),l[j]'(by omega)≠c)->l[k]=c->Es l [c]=k):=fun k g h1 h2=>by rw[<-wC];exact aL l c k g h1 h2
 have p:Y ((∀j (hj:j<Z l),l[j]≠c)->Es l [c] = -1):=fun h=>by rw[<-wC];exact nB l c h
 have o:Y (∀k (g:k<Z l),(Aa l)[k]'(by rw[v];exact g)=l[k]):=fun k g=>rfl
 generalize Ca l [c]=r at*;generalize Es l [c]=ix at*;go_in;go_wp2
 go_loop [7] (fun i=>∃k:Ad,k<=Z l/\i=O Ai k/\Y (∀j (hj:j<k) (hl:j<Z l),l[j]≠c)) (fun i=>Z l-(intOf i).toNat)
 ·exact⟨0,Ax _,rfl,fun j hj=>by cases hj⟩
 ·
  obtain⟨k,g,rfl,d⟩:=hrel
  by_cases b:k<Z l
  ·have B:k<(Aa l).size:=by rw[v];exact b
   have q:=o.o k b
   by_cases f:l[k]=c
   ·have a:=n.o k b (fun j hj=>d.o j hj (by omega)) f
    have s:Y (r=(l.take k,l.drop (k+1),true)):=by show _=_;rw[m.o,a,Az (by omega)];rfl
    have x:(Aa l).extract 0 k=Aa (l.take k):=by rw[kB,Vo,Iw,u]
    have y:(Aa l).extract (k+1) (Z l)=Aa (l.drop (k+1)):=by rw[kB,u,Cc (by rw[Cy];omega)]
    have z:=congrArg UInt8.toNat (q.trans f);clear d a f q;go_wp2
    go_region
    go_wp2
    go_ret3
    exact⟨by rw[s.o];exact eO rfl rfl,zV _⟩
   ·have C:((((Aa l)[k]).toNat:Ak) == (c.toNat:Ak))=false:=by
     rw[q,Ch];intro e;exact f (Hb.1 (by omega))
    have t:Y (∀j (hj:j<k+1) (hl:j<Z l),l[j]≠c):=fun j hj hl=>by
     by_cases e:j=k
     ·subst e;exact f
     ·exact d.o j (by omega) hl
    clear d f q;go_wp2;exact⟨⟨k+1,by omega,by go_num,t⟩,by simp[intOf];omega⟩
  ·have a:=p.o (fun j hj=>d.o j (by omega) hj)
   have s:Y (r=(l,[],false)):=by show _=_;rw[m.o,a];rfl
   clear d a;go_wp2
   go_ret3
   exact⟨by rw[s.o];rfl,zP _ _⟩
def szOf (v:Aj):Ad:=match v with|I s=>s.size|_=>0
theorem pF (l:A Ab):szOf (I (Aa l))=Z l:=Bz l
theorem zh7 (l:A Ab)(k:Ad):(Aa l).extract k (Aa l).size=Aa (l.drop k):=by grind[Aa,wQ,Be,Bz,List.take_of_length_le,List.length_drop,ByteArray.ext,Array.toList_inj]
theorem zh8 (l:A Ab)(k:Ad):(Aa l).extract 0 k=Aa (l.take k):=by
 have h:((Aa l).extract 0 k).data.toList=(Aa (l.take k)).data.toList:=by
  rw[wQ,Be,Be,Iw,Vo]
 exact ByteArray.ext (Array.toList_inj.1 h)
theorem gT (r:A Ab):r=[]\/∃t c,r=t++[c]:=by
 rcases Xk r with h|⟨t,c,h⟩
 ·exact Ay h
 grind
theorem zc2 (l:A Ab):Gh (l++[32]) 32=Gh l 32:=by
 unfold Gh;rw[List.reverse_append]
 rfl
theorem zc3 (l:A Ab)(c:Ab)(h:c≠32):Gh (l++[c]) 32=l++[c]:=by
 unfold Gh
 grind[List.reverse_append,List.dropWhile,List.dropWhile_cons_of_neg,List.reverse_cons,List.reverse_reverse]
theorem se:∀l:A Ab,Gh (Hi l 32) 32=Iq l 32
 |[]=>rfl
 |c::t=>by
  by_cases h:c=32
  ·subst h
   have b:Hi (32::t) 32=Hi t 32:=rfl;rw[b,se t];unfold Iq;have d:Gh (32::t) 32=if Gh t 32=[] then [] else 32::Gh t 32:=by
    unfold Gh;rw[List.reverse_cons,List.dropWhile_append]
    by_cases a:(t.reverse.dropWhile (· == 32))=[]
    ·rw[a];rfl
    ·have f:(t.reverse.dropWhile (· == 32)).isEmpty=false:=by simpa using a
     rw[f,Aw (by simp),Aw (by simpa using a)];simp
   rw[d]
   by_cases a:Gh t 32=[]
   ·rw[Az a,a]
   ·rw[Aw a];rfl
  ·have b:Hi (c::t) 32=c::t:=by
    unfold Hi;rw[Oa (by simpa using h)]
   rw[b];unfold Iq;have d:∃r,Gh (c::t) 32=c::r:=by
    unfold Gh;rw[List.reverse_cons,List.dropWhile_append]
    by_cases a:(t.reverse.dropWhile (· == 32)).isEmpty=true
    ·rw[Az a,Oa (by simpa using h)]
     exact⟨[],rfl⟩
    ·rw[Aw a,List.reverse_append]
     exact⟨_,rfl⟩
   obtain⟨r,g⟩:=d;rw[g];unfold Hi;rw[Oa (by simpa using h)]
theorem og (l:A Ab)(w:Ag)(s:Z l<=1000000):Am prog 315 #[I (Aa l)] w fun e w'=>e=Af (I (Aa (Iq l 32)))/\w'=w:=by
 have v:=hid (se l);go_in
 go_upto_block 0 with fail
 go_cut [0] (fun sv wz=>sv=I (Aa (Hi l 32))/\Y (wz=w))
 ·
  go_wp2_with fail
  go_loopw [0] (fun sv wr=>∃r:A Ab,sv=I (Aa r)/\(Z r)<=1000000/\Y (Hi r 32=Hi l 32)/\wr=w) (fun sv _=>szOf sv)
  ·exact⟨l,rfl,s,rfl,rfl⟩
  ·
   obtain⟨r,rfl,k,d,rfl⟩:=hrel;have u:=Bz r
   cases r with
   |nil=>
    have p:(Aa ([]:A Ab)).size=0:=rfl;go_wp2_with fail
    go_meet
    ·exact⟨by rw[<-d.o];rfl,rfl⟩
   |cons c t=>
    have i:(Aa (c::t)).size=Z t+1:=u;have x:∀h:0<(Aa (c::t)).size,(Aa (c::t))[0]'h=c:=fun _=>rfl
    have j:=zh7 (c::t) 1;rw[i] at j;have f:(c::t).drop 1=t:=rfl;rw[f] at j
    by_cases a:c=32
    ·subst a
     have b:Y (Hi t 32=Hi l 32):=d;go_wp2_with fail
     go_roundw
     ·exact⟨t,rfl,by simp at k;omega,b,by first|rfl|trivial⟩
     ·rw[pF,pF];exact Nat.lt_succ_self _
    ·have g:¬((c.toNat:Ad):Ak)=32:=fun e=>a (Hb.1 (by show c.toNat=32;omega))
     have b:Y (Hi l 32=c::t):=by
      show _=_;rw[<-d.o];unfold Hi;rw[Oa (by simpa using a)]
     go_wp2_with fail
     go_meet
     ·exact⟨by rw[b.o],by first|rfl|trivial⟩
 ·
  obtain⟨rfl,q⟩:=hcut;have o:Z (Hi l 32)<=1000000:=by
   unfold Hi;exact Bi (Xh _).length_le s
  generalize Hi l 32=m at*;generalize wc=w1 at*
  go_upto_block 2 with fail
  go_cut [0] (fun sv wz=>sv=I (Aa (Gh m 32))/\Y (wz=w))
  ·
   go_wp2_with fail
   go_loopw [0] (fun sv wr=>∃r:A Ab,sv=I (Aa r)/\(Z r)<=1000000/\Y (Gh r 32=Gh m 32)/\wr=w1) (fun sv _=>szOf sv)
   ·exact⟨m,rfl,o,rfl,rfl⟩
   ·
    obtain⟨r,rfl,k,d,rfl⟩:=hrel;rcases gT r with rfl|⟨t,c,rfl⟩
    ·have p:(Aa ([]:A Ab)).size=0:=rfl
     go_wp2_with fail
     go_meet
     ·exact⟨by rw[<-d.o];rfl,q⟩
    ·have i:(Aa (t++[c])).size=Z t+1:=by rw[Bz,Ah];rfl
     have x:∀h:Z t<(Aa (t++[c])).size,(Aa (t++[c]))[Z t]'h=c:=fun h=>by
      show(t++[c])[Z t]'(by simp)=c;simp
     have j:=zh8 (t++[c]) (Z t);have f:(t++[c]).take (Z t)=t:=by simp
     rw[f] at j;have y:Z t+1<=1000000:=by simpa using k
     by_cases a:c=32
     ·subst a
      have b:Y (Gh t 32=Gh m 32):=(zc2 t).symm.trans d.o;generalize t++[32]=tt at*;go_wp2_with fail
      go_roundw
      ·exact⟨t,rfl,by omega,b,by first|rfl|trivial⟩
      ·rw[pF];show _<(Aa tt).size;omega
     ·have g:¬((c.toNat:Ad):Ak)=32:=fun e=>a (Hb.1 (by show c.toNat=32;omega))
      have b:Y (Gh m 32=t++[c]):=d.o.symm.trans (zc3 t c a);generalize t++[c]=tt at*;go_wp2_with fail
      go_meet
      ·exact⟨by rw[b.o],q⟩
  ·
   obtain⟨rfl,n⟩:=hcut;go_wp2;go_ret;exact⟨by rw[v.o];rfl,n.o⟩
def ji (nm:A Ab):Ad->A Hd->Ak
 |_,[]=>-1
 |i,x::r=>if x.1=nm then (i:Ad) else ji nm (i+1) r
def ud (nm:A Ab)(l:A Hd):Ak:=ji nm 0 l
theorem my (a:A Ab):∀(l:A Hd) (i:Ad),(0<=ji a i l)↔xY a l=true
 |[],i=>by
  show(0:Ak)<=-1↔_
  constructor
  ·intro h;omega
  ·intro h;cases h
 |x::r,i=>by
  have b:=my a r (i+1);rw[ji];unfold xY xt at b ⊢;rw[Mp]
  by_cases h:x.1=a
  ·rw[Az h,Az (by simpa using h)]
   constructor
   ·intro _;simp
   ·intro _;omega
  ·rw[Aw h,Aw (by simpa using h)]
   exact b
theorem rT (a:A Ab)(l:A Hd):decide (0<=ud a l)=xY a l:=by
 have h:=my a l 0;rw[Eb,decide_eq_true_iff];exact h
theorem sV (a:A Ab)(l:A Hd){o:Ad}(u:w.cell? ⟨b,o+2,S⟩=V v)(m:w.ownsRow 0 185 2 v (Z l) (zi l))(y:Z l<=1000000):Am prog 253 #[Al (V ⟨b,o,S⟩),I (Aa a)] w fun e w'=>e=Af (O Ai (ud a l))/\w'=w:=by
 obtain⟨z,B,rfl⟩:=zL m;have n:=hid m;go_in;go_wp2
 go_loop [5] (fun iv=>∃i:Ad,i<=Z l/\iv=O Ai i/\Y (ud a l=ji a i (l.drop i))) (fun iv=>Z l-(intOf iv).toNat)
 ·exact⟨0,Ax _,rfl,rfl⟩
 ·
  obtain⟨i,q,rfl,j⟩:=hrel
  by_cases f:i<Z l
  ·have k:(i:Ak)<Z l:=by omega
   obtain⟨g,s,p,_,_⟩:=Bm n.o (by omega);simp only[Au,Fb] at p;obtain⟨rfl,rfl⟩:=p;have r:w.cell? ⟨g,i*2,S⟩=V (I (Aa l[i].1)):=qY (fun t:Hd=>[I (Aa t.1),I (Aa t.2)]) 2 (fun _=>rfl) n.o (zP _ _) i 0 f (by omega) rfl;have h:=oy l[i].1 a;have c:Y (ud a l=if l[i].1=a then ((i:Ad):Ak) else ji a (i+1) (l.drop (i+1))):=by
    show _=_;rw[j.o,Ed f,ji]
   generalize l[i]=x at*
   by_cases d:x.1=a
   ·rw[Az d] at c
    rw[Cf d] at h;go_wp2;go_ret;exact⟨by rw[c.o];rfl,rfl⟩
   ·rw[Aw d] at c
    rw[Ce d] at h;go_wp2;exact⟨⟨i+1,by omega,by go_num,c⟩,by simp[intOf];omega⟩
  ·have c:Y (ud a l = -1):=by
    show _=_;rw[j.o,Ga (by omega)];rfl
   have k:¬(i:Ak)<Z l:=by omega
   go_wp2;go_ret;exact⟨by rw[c.o];rfl,rfl⟩
theorem fS (l:A Ab)(c:Ab):Z (Ca l [c]).1<=Z l/\(Z (Ca l [c]).2.1)<=Z l:=by
 have e:Ca l [c]=if 0<=Es l [c] then (l.take (Es l [c]).toNat,l.drop ((Es l [c]).toNat+1),true) else (l,[],false):=rfl;rw[e]
 split
 ·simp only[Cq,Cy];omega
 ·exact⟨Aq _,Ax _⟩
theorem zbZ (l:A Ab)(w:Ag)(n:Z l<=1000000):Am prog 317 #[I (Aa l)] w fun e w'=>e=Af (Av (ya l))/\w.grownBy w' S:=by
 have j:Y (ya l=(Iv (Ca l [58]).1 true && (!(Ca l [58]).2.2 || zm (Ca l [58]).2.1))):=rfl;have f:=hid (mC l 58 w n);obtain⟨k,m⟩:=fS l 58;have b:Y (∀W,Am prog 131 #[I (Aa (Ca l [58]).1),Av true] W fun e w'=>e=Af (Av (Iv (Ca l [58]).1 true))/\w'=W):=fun W=>by
  have h:=uq (Aa (Ca l [58]).1) true W (by rw[Bz];unfold Bh;omega);rw[Be] at h;exact h
 have a:Y (∀W,Am prog 316 #[I (Aa (Ca l [58]).2.1)] W fun e w'=>e=Af (Av (zm (Ca l [58]).2.1))/\w'=W):=fun W=>by
  have h:=nh (Aa (Ca l [58]).2.1) W (by rw[Bz];unfold Bh;omega);rw[Be] at h;exact h
 generalize ya l=res at*;generalize Iv (Ca l [58]).1 true=bl at*;generalize zm (Ca l [58]).2.1=bn at*;generalize Ca l [58]=r at*;obtain⟨s,t,o⟩:=r;go_in;go_wp2_with fail;refine f.o.mono ?_;rintro e u ⟨rfl,g⟩;have i:=hid g;go_wp2_with fail;refine(b.o _).mono ?_;rintro e p ⟨rfl,c⟩;obtain rfl:=c.symm;go_wp2_with fail;refine(a.o _).mono ?_;rintro e q ⟨rfl,d⟩;obtain rfl:=d.symm
 cases bl <;> cases o
 all_goals
  go_wp2;go_ret;exact⟨zX (by rw[j.o];try rfl),i.o⟩
theorem zk9:(prog.info? 100).map (fun i=>(i.zero,i.size,i.bytes))=V (V (Al S),1,8):=by kernel_rfl
theorem YInv.more {b:A (Br Ad)}{p:Cn}(h:YInv w yb B o b y)(x:o.ownBlock=S)(m:HMv w w' yb)
  (r:∃vd vc vs,w'.heap[yb]?=V (Ae #[o,vd,vc,vs] 99 (0,0))/\QRow w' B 60 vd (y'.draws.map drawV)/\w'.ownsRow B 100 1 vc (Z (b++[V a])) ((b++[V a]).map ptrV)/\w'.ownsRow B 44 3 vs (Z y'.sent) (evCells y'.sent))
  (n:y'.conns=y.conns++[V p]) (v:CAt w' a B p) (l:∀k,CF w' a k->w.heap.size<=k):YInv w' yb B o (b++[V a]) y'/\YMv w w' yb b (b++[V a]):=by
 have t:=h.len;have u:∀i cb:Ad,b[i]?=V (V cb)->∀k,CF w cb k->w'.heap[k]?=w.heap[k]?:=fun i cb hi k hk=>by
  obtain⟨c,_,q⟩:=h.here i cb hi;exact m.turn.block k (q.lt hk) (fun hF=>kf (h.hf x hF).2 (q.cf hk).2)
 have g:∀i cb:Ad,b[i]?=V (V cb)->∀k,CF w' cb k->CF w cb k/\k<w.heap.size:=fun i cb hi k hk=>by
  obtain⟨c,_,q⟩:=h.here i cb hi;have:=(q.keep (u i cb hi)).2 k hk;exact⟨this,q.lt this⟩
 have d:∀i cb:Ad,(b++[V a])[i]?=V (V cb)->(i<Z b/\b[i]?=V (V cb))\/(i=Z b/\cb=a):=fun i cb hi=>by
  by_cases f:i<Z b
  ·rw[Cx f] at hi;exact Ay ⟨f,hi⟩
  ·rw[Cl (by omega)] at hi
   have s:=(Bo.1 hi).1;have e:i-Z b=0:=by simpa using s
   rw[e] at hi;simp at hi;exact Bf ⟨by omega,hi.symm⟩
 refine⟨⟨r,h.low,by rw[n,Ah,Ah,t];rfl,fun i cb hi=>?_,fun i hi=>?_,fun i j cb cb' hij hi hj k q q'=>?_⟩,⟨⟨m.turn.os,m.turn.tape,m.turn.output,m.turn.size,fun k hk l=>m.turn.block k hk (fun hF=>l (Ay hF))⟩,fun k hF=>?_⟩⟩
 ·rcases d i cb hi with ⟨h1,h2⟩|⟨h1,h2⟩
  ·obtain⟨c,z,C⟩:=h.here i cb h2
   exact⟨c,by rw[n,Cx (by omega)];exact z,(C.keep (u i cb h2)).1⟩
  ·rw[h2]
   exact⟨p,by rw[n,Cl (by omega),h1,t,Gp];rfl,v⟩
 ·by_cases f:i<Z b
  ·rw[Cx f] at hi
   rw[n,Cx (by omega)];exact h.gone i hi
  ·rw[Cl (by omega)] at hi
   have s:=(Bo.1 hi).1;have e:i-Z b=0:=by simpa using s
   rw[e] at hi;simp at hi
 ·rcases d i cb hi with ⟨h1,h2⟩|⟨h1,h2⟩
  ·rcases d j cb' hj with ⟨h3,h4⟩|⟨h3,h4⟩
   ·exact h.apart i j cb cb' hij h2 h4 k (g i cb h2 k q).1 (g j cb' h4 k q').1
   ·rw[h4] at q'
    have:=l k q';have:=(g i cb h2 k q).2
    omega
  ·rcases d j cb' hj with ⟨h3,h4⟩|⟨h3,h4⟩
   ·rw[h2] at q
    have:=l k q;have:=(g j cb' h4 k q').2
    omega
   ·omega
 ·rcases hF with hF|⟨i,cb,hi,hF⟩
  ·rcases m.foot k hF with q|q
   ·exact Ay (Ay q)
   ·exact Bf q
  ·rcases d i cb hi with ⟨h1,h2⟩|⟨h1,h2⟩
   ·exact Ay (Bf ⟨i,cb,h2,(g i cb h2 k hF).1⟩)
   ·rw[h2] at hF;exact Bf (l k hF)
abbrev Hl9:=Ae #[O Ai 0,X S 0 0,I ⟨#[]⟩,I ⟨#[]⟩,X S 0 0,Al S] 106 (0,0)
theorem zjF (c:w.heap[a]?=V Hl9)(b:CF w a k):k=a:=by
 rcases b with b|⟨pb,h1,h2⟩
 ·rcases b with rfl|⟨j,u,c1,c2⟩
  ·rfl
  ·rw[zB c] at c1
   exfalso
   match j,c1 with
   |0,c1=>simp at c1;subst c1;cases c2
   |1,c1=>simp at c1;subst c1;cases c2
   |2,c1=>simp at c1;subst c1;cases c2
   |3,c1=>simp at c1;subst c1;cases c2
   |4,c1=>simp at c1;subst c1;cases c2
   |5,c1=>simp at c1;subst c1;cases c2
   |j+6,c1=>simp at c1
 ·rw[zB c] at h1;simp at h1
def Yd.opened (y:Yd):Yd:={ y with conns:=y.conns++[V (.hd xf)] }
theorem pW {c:A (Br Ad)}(h:YInv w yb B g c y)(j:Z y.conns=64):Am prog 24 #[Al (V ⟨yb,0,S⟩)] w fun e w'=>e=Af (Cm #[O Ai 0,O Ai 7])/\w'=w:=by
 obtain⟨l,vc,m,a,d,b,f⟩:=h.ex;obtain⟨ca,ck,rfl⟩:=zL b;have k:=cbi 2 a;have i:(Z c:Ak)=64:=by have:=h.len;omega
 go_in;go_wp2
 go_ret2
 exact⟨rfl,rfl⟩
abbrev Hl0:=Ae #[O Ai 0,X S 0 0,I ⟨#[]⟩,I ⟨#[]⟩,X S 0 0,Al S] 106
abbrev Hl5 (a):=Ae #[Al (V ⟨a,0,S⟩)] 100
theorem zi2 {tv:Aj}{b:A (Br Ad)}(h:YInv w yb B tv b y)(ht:tv.ownBlock=S)(hn:Z y.conns<64)(hB:B<=w.heap.size):Am prog 24 #[Al (V ⟨yb,0,S⟩)] w fun e w'=>e=Af (Cm #[O Ai (Z y.conns+1:Ad),O Ai 0])/\YInv w' yb B tv (b++[V w.heap.size]) y.opened/\YMv w w' yb b (b++[V w.heap.size]):=by
 obtain⟨i0,hi,ak,al,am⟩:=Ej zk9;obtain⟨vd,vc,vs,t,h2,F,h4⟩:=h.ex;obtain⟨ca,ck,rfl⟩:=zL F;have k2:=cbi 2 t;have hl:=hid h.len;have ao:Z b<64:=by rw[hl.o];exact hn
 have HT:Y (y.opened={ y with conns:=y.conns++[V (.hd xf)] }):=rfl;have an:=zO t;have E:=hid (zD (Ac w Hl0 S) (Ac (w.alloc Hl0) (Hl5 w.heap.size) S));have s:=J (zK F E.o (fun k hk c=>by cases c));have af:Y (∀j u,([Al (V ⟨w.heap.size,0,S⟩)]:A Aj)[j]?=V u->((w.alloc Hl0).alloc (Hl5 w.heap.size)).cell? ((⟨w.heap.size+1,0,S⟩:Eu).add j)=V u):=by
  have:=zZ (w.alloc Hl0) #[Al (V ⟨w.heap.size,0,S⟩)] 100 _ rfl;simp only[World.size_alloc] at this;exact this
 have aa:Y (∀u∈([Al (V ⟨w.heap.size,0,S⟩)]:A Aj),u.oneCell'=true):=fun u hu=>by simp at hu;subst hu;rfl
 have ae:Y (Z b+1<=Bh):=by show _<=_;unfold Bh;omega
 have ai:Y ((Z b+1)*8<=140737488355328):=by show _<=_;omega
 have n:Y (((w.alloc Hl0).alloc (Hl5 w.heap.size)).heap.size=w.heap.size+1+1):=by show _=_;simp
 have ab:Y (B<=((w.alloc Hl0).alloc (Hl5 w.heap.size)).heap.size):=by show _<=_;rw[n.o];omega
 have f:=hid (zE t E.o (by simp));have r:=hid (zI f.o s.o (by decide));have kX:=cbi 2 f.o;have aj:=zO f.o;have x:=hid (zE (Bn w Hl0) (Ac (w.alloc Hl0) (Hl5 w.heap.size) S) (by simp));have v:Y (∀m a o,o.ownsRow B 100 1 (X (V ⟨m,0,S⟩) (Z b+1) a) (Z b+1) (b.map ptrV++[Al (V ⟨w.heap.size,0,S⟩)])->((w.alloc Hl0).alloc (Hl5 w.heap.size)).grownBy o (X ca (Z b) ck).ownBlock->((X ca (Z b) ck).ownBlock=V m\/m=w.heap.size+1+1)->YInv (o.setCell ⟨yb,2,S⟩ (X (V ⟨m,0,S⟩) (Z b+1) a)) yb B tv (b++[V w.heap.size]) { y with conns:=y.conns++[V (.hd xf)] }/\YMv w (o.setCell ⟨yb,2,S⟩ (X (V ⟨m,0,S⟩) (Z b+1) a)) yb b (b++[V w.heap.size])):=fun m a o ho hg hat=>by
  have H:=zw f.o hg r.o;have gs:=zF o yb 2 (X (V ⟨m,0,S⟩) (Z b+1) a);have l:∀k,k<w.heap.size->(X ca (Z b) ck).ownBlock≠V k->k≠yb->(o.setCell ⟨yb,2,S⟩ (X (V ⟨m,0,S⟩) (Z b+1) a)).heap[k]?=w.heap[k]?:=fun k hk hv hy=>by
   have N:k<((w.alloc Hl0).alloc (Hl5 w.heap.size)).heap.size:=by rw[n.o];omega
   exact(gs.block k (Eh N hg.size) (by simpa using hy)).trans ((hg.block k N (fun e=>hv e.symm)).trans (E.o.block k hk (by simp)))
  have Q:(o.setCell ⟨yb,2,S⟩ (X (V ⟨m,0,S⟩) (Z b+1) a)).heap[w.heap.size]?=V Hl9:=
   zE (zw x.o hg (zI x.o s.o (by decide))) gs (by simp;omega)
  refine h.more ht ((HMv.of_grown (zO t) E.o).trans (HMv.append kX aj hg r.o (by rcases hat with h|h;exact Ay h;exact Bf (by rw[h,n.o])))) ⟨vd,_,vs,zH (i:=2) H _,h2.keep ?_ (fun k q=>?_),?_,jH h4 (fun k q=>?_)⟩ rfl ⟨⟨_,_,Q,Bk _ _ _ _,Bk _ _ _ _⟩,hB⟩ (fun k hk=>by have:=zjF Q hk;omega)
  ·have:=E.o.size;have:=hg.size;have:=gs.size;omega
  ·obtain⟨_,cs,e⟩:=h2.block k q
   refine l k (zO e) (fun e2=>?_) (fun e2=>?_)
   ·obtain⟨c,C⟩:=qT F k e2
    rw[e] at C;simp at C
   ·rw[e2,t] at e;simp at e
  ·have:=zJ ho gs (zI H ho (by decide))
   rw[Ah,Ef];exact this
  ·obtain⟨cs,e⟩:=qT h4 k q
   refine l k (zO e) (fun e2=>?_) (fun e2=>?_)
   ·obtain⟨c,C⟩:=qT F k e2
    rw[e] at C;simp at C
   ·rw[e2,t] at e;simp at e
 have HR:Y ((Z y.conns+1:Ad)=Z b+1):=by show _=_;rw[hl.o]
 generalize y.opened=y' at*;go_in;go_wp2_with (at_builtin;refine Ei _ rfl (.tmp 14) (.tmp 17) 97 rfl B 100 i0 _ 1 8 underlying97 hi ak al am rfl (by decide) _ _ _ rfl s.o ⟨w.heap.size+1,0,S⟩ 1 1 [Al (V ⟨w.heap.size,0,S⟩)] rfl rfl af.o aa.o (by decide) ae.o ai.o ab.o (w.heap.size+1+1) n.o ?_);intro m a o g d p _;have ag:=hid g;have ad:=hid d;have ah:=hid p;have z:=hid (zw f.o d r.o);have q9:=cbi 2 z.o;have f9:=zm9 2 z.o;go_wp2
 go_ret2
 exact⟨by rw[HR.o];rfl,by rw[HT.o];exact v.o _ _ _ ag.o ad.o ah.o⟩
theorem YInv.open_at {k:Aj}{d:A (Br Ad)}(h:YInv w yb B k d y){n:Ak}(b:y.isOpen n=true):∃m:Ad,n=(m+1:Ad)/\m<Z d/\∃a c,d[m]?=V (V a)/\y.conns[m]?=V (V c)/\CAt w a B c:=by
 have l:1<=n/\n<=Z y.conns:=by
  unfold Yd.isOpen at b;simp only[Ez,Gd] at b;exact⟨b.1,b.2.1⟩
 have o:=h.len;obtain⟨m,rfl⟩:∃m:Ad,n=(m+1:Ad):=⟨(n-1).toNat,by omega⟩;have f:m<Z d:=by omega
 rw[h.same m f] at b;obtain⟨a,e⟩:=Option.isSome_iff_exists.1 b;have g:d[m]?=V (V a):=by rw[Bd f,e]
 obtain⟨c,i,j⟩:=h.here m a g;exact⟨m,rfl,f,a,c,g,i,j⟩
theorem ab {c:A (Br Ad)}(h:YInv w yb B f c y)(n:Ak)(b:y.isOpen n=false)(d:Z c<=1000000):Am prog 27 #[Al (V ⟨yb,0,S⟩),O Ai n] w fun e w'=>e=Af (O Ai 7)/\w'=w:=by
 have a:=hid (wW h n d);rw[b] at a;go_in;go_wp2_with fail;refine a.o.mono ?_;rintro e g ⟨rfl,rfl⟩;go_wp2;go_ret;exact⟨rfl,rfl⟩
theorem zeR {a:A (Br Ad)}(h:YInv w yb B d a y)(p:d.ownBlock=S)(m:Ad)(c:y.isOpen (m+1:Ad)=true)(g:Z a<=1000000):Am prog 27 #[Al (V ⟨yb,0,S⟩),O Ai (m+1:Ad)] w fun e w'=>e=Af (O Ai 0)/\YInv w' yb B d (a.set m S) (y.ended m)/\YMv w w' yb a (a.set m S):=by
 have b:=hid (wW h (m+1:Ad) g);rw[c] at b;obtain⟨q,k,o,_⟩:=h.open_at c;have l:m=q:=by omega
 subst l;have f:=hid (zd8 h p m o g);generalize((m+1:Ad):Ak)=n at*;go_in;go_wp2_with fail;refine b.o.mono ?_;rintro e r ⟨rfl,rfl⟩;go_wp2_with fail;refine f.o.mono ?_;rintro e s ⟨rfl,i⟩;have j:=hid i;go_wp2;go_ret;exact⟨rfl,j.o⟩
def Yd.noPolicy:A Ab:=[72,84,84,80,47,49,46,49,32,53,48,51,32,83,101,114,118,105,99,101,32,85,110,97,118,97,105,108,97,98,108,101,13,10,99,111,110,116,101,110,116,45,108,101,110,103,116,104,58,32,48,13,10,13,10]
abbrev Hl1:=Ae #[O Bp 72,O Bp 84,O Bp 84,O Bp 80,O Bp 47,O Bp 49,O Bp 46,O Bp 49,O Bp 32,O Bp 53,O Bp 48,O Bp 51,O Bp 32,O Bp 83,O Bp 101,O Bp 114,O Bp 118,O Bp 105,O Bp 99,O Bp 101,O Bp 32,O Bp 85,O Bp 110,O Bp 97,O Bp 118,O Bp 97,O Bp 105,O Bp 108,O Bp 97,O Bp 98,O Bp 108,O Bp 101,O Bp 13,O Bp 10,O Bp 99,O Bp 111,O Bp 110,O Bp 116,O Bp 101,O Bp 110,O Bp 116,O Bp 45,O Bp 108,O Bp 101,O Bp 110,O Bp 103,O Bp 116,O Bp 104,O Bp 58,O Bp 32,O Bp 48,O Bp 13,O Bp 10,O Bp 13,O Bp 10] 5 (55,56)
abbrev Hl4 (a b):=Ae #[I ⟨#[]⟩,X (V ⟨a,0,S⟩) 55 55,O Ai (yi b)] 172
theorem lm {l:Ad}{r:Aj}(n:HInv w l B r h)(s:w.cell? ⟨yb,0,S⟩=V (Al S))(o:Z h.headers<=100000)(p:xZ x5 h.headers=[]\/zm (xZ x5 h.headers)=true)(m:GE w):Am prog 80 #[Al (V ⟨yb,0,S⟩),Al (V ⟨l,0,S⟩)] w fun e w'=>∃pb,e=Af (Al (V ⟨pb,0,S⟩))/\PcAt w' pb w.heap.size ⟨[],Yd.noPolicy,yi h⟩/\w.grownBy w' S:=by
 have c:=hid (Ac w Hl1 S);have i:=hid (Bn w Hl1);have k:=hid (zi1 (n.keep c.o) o p (m.grown c.o));have a:=Lib.run_convert_bytes_const (P:=prog) w 32 5 #[O Bp 72,O Bp 84,O Bp 84,O Bp 80,O Bp 47,O Bp 49,O Bp 46,O Bp 49,O Bp 32,O Bp 53,O Bp 48,O Bp 51,O Bp 32,O Bp 83,O Bp 101,O Bp 114,O Bp 118,O Bp 105,O Bp 99,O Bp 101,O Bp 32,O Bp 85,O Bp 110,O Bp 97,O Bp 118,O Bp 97,O Bp 105,O Bp 108,O Bp 97,O Bp 98,O Bp 108,O Bp 101,O Bp 13,O Bp 10,O Bp 99,O Bp 111,O Bp 110,O Bp 116,O Bp 101,O Bp 110,O Bp 116,O Bp 45,O Bp 108,O Bp 101,O Bp 110,O Bp 103,O Bp 116,O Bp 104,O Bp 58,O Bp 32,O Bp 48,O Bp 13,O Bp 10,O Bp 13,O Bp 10] 55 55 underlying32 underlying5;go_in;go_wp2_with fail;refine k.o.mono ?_;rintro e d ⟨rfl,f⟩;have g:=Ac d (Hl4 w.heap.size h) S;have b:Y (PcAt (d.alloc (Hl4 w.heap.size h)) d.heap.size w.heap.size ⟨[],Yd.noPolicy,yi h⟩/\w.grownBy (d.alloc (Hl4 w.heap.size h)) S):=by
  have q:=(zD c.o f).size;exact⟨⟨⟨_,Bn d (Hl4 w.heap.size h),Bf ⟨rfl,w.heap.size,55,#[O Bp 72,O Bp 84,O Bp 84,O Bp 80,O Bp 47,O Bp 49,O Bp 46,O Bp 49,O Bp 32,O Bp 53,O Bp 48,O Bp 51,O Bp 32,O Bp 83,O Bp 101,O Bp 114,O Bp 118,O Bp 105,O Bp 99,O Bp 101,O Bp 32,O Bp 85,O Bp 110,O Bp 97,O Bp 118,O Bp 97,O Bp 105,O Bp 108,O Bp 97,O Bp 98,O Bp 108,O Bp 101,O Bp 13,O Bp 10,O Bp 99,O Bp 111,O Bp 110,O Bp 116,O Bp 101,O Bp 110,O Bp 116,O Bp 45,O Bp 108,O Bp 101,O Bp 110,O Bp 103,O Bp 116,O Bp 104,O Bp 58,O Bp 32,O Bp 48,O Bp 13,O Bp 10,O Bp 13,O Bp 10],(55,56),rfl,Aq _,zE (zE i.o f (by simp)) g (by simp),fun j u hu=>by rw[<-hu,<-Fo];rfl⟩⟩,q⟩,zD (zD c.o f) g⟩
 go_wp2;go_ret;exact⟨_,rfl,b.o⟩
theorem YInv.conn {tv':Aj}{f:A (Br Ad)}{row:Br Ad}{r:Cn}(h:YInv w yb B v f y)(H:v.ownBlock=S)(b:f[m]?=V (V a))(g:CMv w w' a row)(l:∀k,row=V k->k=yb)(z:CAt w' a B r)
  (t:∃vd vc vs,w'.heap[yb]?=V (Ae #[tv',vd,vc,vs] 99 (0,0))/\QRow w' B 60 vd (y'.draws.map drawV)/\w'.ownsRow B 100 1 vc (Z f) (f.map ptrV)/\w'.ownsRow B 44 3 vs (Z y'.sent) (evCells y'.sent))
  (C:∀k,HF w' yb k->HF w yb k\/w.heap.size<=k) (p:y'.conns=y.conns.set m (V r)):YInv w' yb B tv' f y'/\YMv w w' yb f f:=by
 have F:m<Z f:=(Bo.1 b).1;have E:=h.len;have u:∀i cb':Ad,i≠m->f[i]?=V (V cb')->∀k,CF w cb' k->w'.heap[k]?=w.heap[k]?:=fun i cb' hne hi k hk=>by
  obtain⟨c,_,q⟩:=h.here i cb' hi;refine g.turn.block k (q.lt hk) (fun hF=>?_);rcases hF with hF|hF
  ·exact h.apart i m cb' a hne hi b k hk hF
  ·exact kf (h.hf H (Ay (l k hF))).2 (q.cf hk).2
 have n:∀i cb':Ad,i≠m->f[i]?=V (V cb')->∀k,CF w' cb' k->CF w cb' k/\k<w.heap.size:=fun i cb' hne hi k hk=>by
  obtain⟨c,_,q⟩:=h.here i cb' hi;have:=(q.keep (u i cb' hne hi)).2 k hk;exact⟨this,q.lt this⟩
 refine⟨⟨t,h.low,by rw[p,Gv];exact E,fun i cb' hi=>?_,fun i hi=>?_,fun i j ca cb' hij hi hj k q q'=>?_⟩,⟨⟨g.turn.os,g.turn.tape,g.turn.output,g.turn.size,fun k hk hn=>g.turn.block k hk (fun hF=>?_)⟩,fun k hF=>?_⟩⟩
 ·by_cases e:i=m
  ·subst e
   rw[b] at hi;have d:a=cb':=by simpa using hi
   subst d;exact⟨r,by rw[p,Fm (by omega)],z⟩
  ·obtain⟨c,N,o⟩:=h.here i cb' hi
   exact⟨c,by rw[p,Fc (fun d=>e d.symm)];exact N,(o.keep (u i cb' e hi)).1⟩
 ·have e:m≠i:=fun e=>by subst e;rw[b] at hi;simp at hi
  rw[p,Fc e];exact h.gone i hi
 ·by_cases s:i=m
  ·subst s
   rw[b] at hi;have d:a=ca:=by simpa using hi
   subst d;have o:=n j cb' (fun e=>hij e.symm) hj k q';rcases g.foot k q with q3|q3
   ·exact h.apart i j a cb' hij b hj k q3 o.1
   ·omega
  ·by_cases d:j=m
   ·subst d
    rw[b] at hj;have x:a=cb':=by simpa using hj
    subst x;have o:=n i ca s hi k q;rcases g.foot k q' with q3|q3
    ·exact h.apart i j ca a hij hi b k o.1 q3
    ·omega
   ·exact h.apart i j ca cb' hij hi hj k (n i ca s hi k q).1 (n j cb' d hj k q').1
 ·rcases hF with hF|hF
  ·exact hn (Bf ⟨m,a,b,hF⟩)
  ·exact hn (Ay (Ay (l k hF)))
 ·rcases hF with hF|⟨i,cb',hi,hF⟩
  ·rcases C k hF with q|q
   ·exact Ay (Ay q)
   ·exact Bf q
  ·by_cases e:i=m
   ·subst e
    rw[b] at hi;have d:a=cb':=by simpa using hi
    subst d;rcases g.foot k hF with q|q
    ·exact Ay (Bf ⟨i,a,b,q⟩)
    ·exact Bf q
   ·exact Ay (Bf ⟨i,cb',hi,(n i cb' e hi k hF).1⟩)
def Yd.put (y:Yd)(m:Ad)(c:Cn):Yd:={ y with conns:=y.conns.set m (V c) }
theorem YInv.put {d:Ad}{b:A (Br Ad)}{n:Cn}(h:YInv w yb B l b y)(p:l.ownBlock=S)(o:b[m]?=V (V d))(j:CMv w w' d S)(C:CAt w' d B n):YInv w' yb B l b (y.put m n)/\YMv w w' yb b b:=by
 obtain⟨c,_,q⟩:=h.here m d o;have g:∀k,HF w yb k->w'.heap[k]?=w.heap[k]?:=fun k hk=>by
  obtain⟨_,u,t,e,i⟩:=h.hf p hk;refine j.turn.block k (zO e) (fun hF=>?_);rcases hF with hF|hF
  ·exact kf ⟨u,t,e,i⟩ (q.cf hF).2
  ·cases hF
 obtain⟨r,vc,s,f,v,x,z⟩:=h.ex;have a:=g yb (Ay rfl);exact h.conn p o j (fun k e=>by cases e) C ⟨r,vc,s,a.trans f,v.keep j.turn.size (fun k e=>g k (Bf ⟨1,r,zB f,e⟩)),jH x (fun k e=>g k (Bf ⟨2,vc,zB f,e⟩)),jH z (fun k e=>g k (Bf ⟨3,s,zB f,e⟩))⟩ (fun k hF=>Ay (t6 a hF)) rfl
theorem DatAt.conv {a:Br Eu}(h:DatAt w B p (X a (Z p.data) k)):(convert 32 9 (X a (Z p.data) k)).run prog w = .ok (I (Aa p.data)) w:=by
 rcases h with ⟨ao,b,off,cap,e,hc,_⟩|⟨_,g,cap,cur,f,e,h1,h2,h3⟩
 ·simp only[Au,Fb] at e
  obtain⟨rfl,rfl⟩:=e;refine j8 ?_
  by_cases d:p.data=[]
  ·rw[d];exact Ay ⟨_,_,rfl,rfl⟩
  ·have n:=Ox.2 d
   have c:=hc.le;have l:=hc.addr (by omega);subst l;refine Bf ⟨b,off,k,rfl,c,hc.lt (by omega),fun j u hu=>hc.olds j _ ?_⟩;unfold Ba;rw[Fq,hu];rfl
 ·simp only[Au,Fb] at e
  obtain⟨rfl,rfl⟩:=e;exact run_convert_bytes_back w _ _ _ ⟨g,0,S⟩ k p.data underlying32 underlying5 underlying9 (fun j hj=>by
   rw[vJ,Gr];have m:(Ba p.data)[j]?=V (O Bp (p.data[j]).toNat):=by
    unfold Ba;rw[Fq,Bd hj];rfl
   have i:=h3 j _ m;rw[zB h2];exact i)
theorem YInv.lt {b:A (Br Ad)}(h:YInv w yb B d b y)(f:d.ownBlock=S)(a:YF w yb b k):k<w.heap.size:=by
 rcases a with a|⟨i,cb,hi,a⟩
 ·obtain⟨_,g,t,e,_⟩:=h.hf f a
  exact zO e
 ·obtain⟨c,_,q⟩:=h.here i cb hi
  exact q.lt a
theorem YInv.grown {b:Aj}{a:A (Br Ad)}(h:YInv w yb B b a y)(f:b.ownBlock=S)(g:w.grownBy w' S):YInv w' yb B b a y/\YMv w w' yb a a:=by
 obtain⟨c,d⟩:=h.keep g.size (fun k hF=>g.block k (h.lt f hF) (by simp));exact⟨c,⟨g.os,g.tape,g.output,g.size,fun k hk _=>g.block k hk (by simp)⟩,fun k hk=>Ay (d k hk)⟩
def Yd.ready (y:Yd)(m:Ad):Yd:=
 match y.conns[m]? with
 |V (V (.bd p))=>if p.left=0 then (y.put m (.hd xf)).send ⟨m+1,p.dst,p.data⟩ else y
 |_=>y
def Yd.after (y:Yd)(m:Ad)(r:A Ab):Yd:=if r=[] then y.ready m else (y.send ⟨m+1,[],r⟩).ended m
def psAfter (ps:A (Br Ad))(m:Ad)(r:A Ab):A (Br Ad):=if r=[] then ps else ps.set m S
theorem cg {Q:Ad}{a:A (Br Ad)}{y1:Yd}(h:YInv w yb B v a y)(F:v.ownBlock=S)(E:a[m]?=V (V Q))(c:Ab)(r:A Ab)
  (hT:Am prog 79 #[Al (V ⟨Q,0,S⟩),O Bp c.toNat,.func (.func 80) #[Al (V ⟨yb,0,S⟩)] #[]] w fun e w'=>e=Af (I (Aa r))/\YInv w' yb B v a y1/\YMv w w' yb a a) (hs:Z y1.sent<=100000000) (hl:Z a<=1000000) (hB:B<=w.heap.size):Am prog 47 #[Al (V ⟨yb,0,S⟩),O Ai (m+1:Ad),O Bp c.toNat] w fun e w'=>e=Af (Cm #[])/\YInv w' yb B v (psAfter a m r) (y1.after m r)/\YMv w w' yb a (psAfter a m r):=by
 obtain⟨vd,vc,vs,h1,h2,h3,h4⟩:=h.ex;obtain⟨ca,ck,rfl⟩:=zL h3;have k2:=cbi 2 h1;have l:m<Z a:=(Bo.1 E).1;obtain⟨g,aa,rfl,rfl,c1,_⟩:=nY h3 m l;have ad:(m:Ak)<Z a:=by omega
 have C:a[m]=V Q:=by rw[Bd l] at E;exact Bc E
 rw[C] at c1;simp only[ptrV] at c1;have HT:=hid hT;have HM:=hid E;have i:Y (y1.after m r=if r=[] then y1.ready m else (y1.send ⟨m+1,[],r⟩).ended m):=rfl;have f:Y (psAfter a m r=if r=[] then a else a.set m S):=rfl;generalize y1.after m r=y9 at*;generalize psAfter a m r=ps9 at*;have e0:=uE r;go_in;go_wp2_with fail;refine HT.o.mono ?_;rintro e w1 ⟨rfl,i1,m1⟩;have k:=hid i1;have q:=hid m1;have ae:=m1.turn.size
 by_cases u:r=[]
 ·rw[Cf u] at e0
  rw[Az u] at i f;subst u;obtain⟨c9,s,d⟩:=k.o.here m Q HM.o
  cases c9 with
  |hd hh=>
   have j:Y (y9=y1):=by show _=_;rw[i.o];unfold Yd.ready;rw[s]
   have b:=hid (eB d);go_wp2_with fail;refine b.o.mono ?_;rintro e o ⟨rfl,rfl⟩;go_wp2
   go_end0
   exact⟨rfl,by rw[j.o,f.o];exact k.o,by rw[f.o];exact q.o⟩
  |bd p=>
   by_cases t:p.left=0
   ·have j:Y (y9=(y1.put m (.hd xf)).send ⟨m+1,p.dst,p.data⟩):=by show _=_;rw[i.o];unfold Yd.ready;rw[s];exact Az t
    have b:=hid (pf (row:=S) d t);go_wp2_with fail;refine b.o.mono ?_;rintro e o ⟨pb,rfl,z,pa,mv,_,_⟩;obtain⟨P2,Q2⟩:=k.o.put F HM.o mv z;have N:Y (∀W,o.grownBy W S->Am prog 81 #[Al (V ⟨yb,0,S⟩),O Ai (m+1:Ad),I (Aa p.dst),I (Aa p.data)] W fun e w'=>e=Af (Cm #[])/\Y (YInv w' yb B v a y9)/\Y (YMv w w' yb a a)):=fun W hW=>by
     obtain⟨k1,k2⟩:=P2.grown F hW;refine(oA k1 F (m+1) p.dst p.data (by show (Z y1.sent)<=_;omega) (by have:=hW.size;have:=mv.turn.size;omega)).mono ?_;rintro e w' ⟨rfl,q1,q2⟩;have a1:YInv w' yb B v a y9:=by rw[j.o];exact q1
     exact⟨rfl,hid a1,hid (((q.o.trans Q2).trans k2).trans q2)⟩
    obtain⟨af,n,pd⟩:=pa.ex;obtain⟨da,dk,rfl⟩:=pd.form;have p0:=cbi 0 n;have p1:=cbi 1 n;have H:DatAt o.drew B p (X da (Z p.data) dk):=pd.away (zV o) (fun _ _ c=>by cases c);have ab:=H.conv;go_upto_region 7 with fail
    go_region_law (go_simp;go_at_call 81;refine(N.o _ (zV o)).mono ?_;rintro e w3 ⟨rfl,I3,M3⟩)
    all_goals
     go_wp2
     go_end0
     exact⟨rfl,by rw[f.o];exact I3.o,by rw[f.o];exact M3.o⟩
   ·have j:Y (y9=y1):=by show _=_;rw[i.o];unfold Yd.ready;rw[s];exact Aw t
    have b:=hid (eC d t);go_wp2_with fail;refine b.o.mono ?_;rintro e o ⟨rfl,rfl⟩;go_wp2
    go_end0
    exact⟨rfl,by rw[j.o,f.o];exact k.o,by rw[f.o];exact q.o⟩
 ·rw[Ce u] at e0
  rw[Aw u] at i f;have N:=hid (oA k.o F (m+1) [] r (by omega) (by omega));have x:=J (N.o);go_wp2_with fail;refine x.o.mono ?_;rintro e o ⟨rfl,i2,m2⟩;have M2:=hid (q.o.trans m2);have j:=hid (zd8 i2 F m l hl);go_wp2_with fail;refine j.o.mono ?_;rintro e w3 ⟨rfl,i3,m3⟩;have I3:=hid i3;have M3:=hid (M2.o.trans m3);go_wp2
  (try simp only[Exit.inBlock,Exit.then])
  refine Et (results_none rfl _ _ _) rfl ?_;exact⟨rfl,by rw[i.o,f.o];exact I3.o,by rw[f.o];exact M3.o⟩
structure HOk (h:Rq.Head):Prop where
 size:h.size<=600
 line:Z h.line<=h.size
 heads:Z h.headers<=12
 cl:∀x∈h.headers,x.1=x5->zm x.2=true/\xL x.2<=300
 meth:Z h.method<=3000
 targ:Z h.target<=3000
 hv:∀x∈h.headers,Z x.1<=3000/\(Z x.2)<=3000
theorem HOk.zero:HOk xf:=⟨Ax _,Aq _,Ax _,(fun x hx=>by cases hx),Ax _,Ax _,(fun x hx=>by cases hx)⟩
theorem HOk.begin (a:HOk h)(l:A Ab)(c:Z l<=3000):HOk (yH h l):=by
 have b:=lM l c;unfold yH
 split
 ·rename_i m t v e
  rw[e] at b
  split
  ·exact⟨a.size,a.line,a.heads,a.cl,b m (by simp),b t (by simp),a.hv⟩
  ·exact a
 ·exact a
theorem HOk.add (b:HOk h)(l:A Ab)(m:Z l<=3000)(a:xq h l=[]):HOk (jc h l):=by
 have d:Z (qF l).1<=3000:=by have:=(hY l 58).1;unfold qF Cj;simp only[Bv];omega
 have f:=sL l m;unfold xq at a;unfold jc
 by_cases g:xu l=true
 ·rw[Az g] at a ⊢
  generalize qF l=x at*;unfold yN at a
  by_cases i:Z h.headers=12
  ·rw[Az i] at a;cases a
  ·rw[Aw i] at a
   refine⟨b.size,b.line,?_,fun z hz hcl=>?_,b.meth,b.targ,fun z hz=>?_⟩
   ·show(Z (h.headers++[x]))<=12
    rw[Ah];have:=b.heads;show (Z h.headers)+1<=12
    omega
   ·rcases Ea.1 (show z∈h.headers++[x] from hz) with hz|hz
    ·exact b.cl z hz hcl
    ·have e:z=x:=by simpa using hz
     subst e
     by_cases j:z.1=uH
     ·rw[Az j] at a;cases a
     ·rw[Aw j,Az hcl] at a
      unfold yM at a
      by_cases c:(xY z.1 h.headers || !zm z.2)=true
      ·rw[Az c] at a;cases a
      ·rw[Aw c] at a
       by_cases k:300<xL z.2
       ·rw[Az k] at a;cases a
       ·simp only[Sn,Xg,not_or,Bool.not_eq_false] at c
        exact⟨c.2,by omega⟩
   ·rcases Ea.1 (show z∈h.headers++[x] from hz) with hz|hz
    ·exact b.hv z hz
    ·have e:z=x:=by simpa using hz
     subst e;exact⟨d,f⟩
 ·rw[Aw g] at a;cases a
theorem HOk.take (a:HOk h)(c:Ab)(b:(qe h c).2.2=[]):HOk (qe h c).1:=by
 unfold qe at b ⊢
 by_cases g:600<h.size+1
 ·rw[Az g] at b;cases b
 ·rw[Aw g] at b ⊢
  have f:HOk { h with size:=h.size+1,line:=[] }:=⟨by show h.size+1<=600;omega,Ax _,a.heads,a.cl,a.meth,a.targ,a.hv⟩;have d:Z (qQ h.line 13).1<=3000:=by have:=pI h.line 13;have:=a.line;have:=a.size;omega
  by_cases i:c=10
  ·rw[Az i] at b ⊢
   generalize({ h with size:=h.size+1,line:=[] }:Rq.Head)=h' at*;unfold yT at b ⊢
   by_cases j:(qQ h.line 13).2=true
   ·rw[Az j] at b ⊢
    by_cases k:h'.method=[]
    ·rw[Az k];exact f.begin _ d
    ·rw[Aw k] at b ⊢
     by_cases l:(qQ h.line 13).1=[]
     ·rw[Az l];exact f
     ·rw[Aw l] at b ⊢
      exact f.add _ d b
   ·rw[Aw j] at b;cases b
  ·rw[Aw i]
   refine⟨by show h.size+1<=600;omega,?_,a.heads,a.cl,a.meth,a.targ,a.hv⟩;show(Z (h.line++[c]))<=h.size+1;rw[Ah];have:=a.line;show (Z h.line)+1<=h.size+1
   omega
theorem HOk.value (a:HOk h):xZ x5 h.headers=[]\/(zm (xZ x5 h.headers)=true/\xL (xZ x5 h.headers)<=300):=by
 unfold xZ
 cases e:xt x5 h.headers <;> grind[xZ,xt,x5,List.mem_cons_self,Rq.Head,HOk,zm,xL]
theorem HOk.number (a:HOk h):xZ x5 h.headers=[]\/zm (xZ x5 h.headers)=true:=a.value.imp id And.left
theorem HOk.body (b:HOk h):0<=yi h/\yi h<=300:=by
 unfold yi;rcases b.value with e|⟨e,e2⟩
 ·rw[e];decide
 ·refine⟨?_,e2⟩
  unfold zm at e;simp only[Ez,Gd] at e;have a:=e.2.2;unfold Ec at a;exact(R.num_le _ (fun c hc=>Mq.1 a c hc) e.2.1).1
def COk:Cn->Prop
 | .hd h=>HOk h
 | .bd p=>1<=p.left/\p.left<=300/\(Z p.data)+p.left<=100000000
def Yd.D0 (h:Rq.Head):Pc:=⟨[],Yd.noPolicy,yi h⟩
def Yd.take0 (y:Yd)(m:Ad)(c:Ab):Yd:=
 match y.conns[m]? with
 |V (V (.hd h))=>(y.put m (Cn.take Yd.D0 h c).1).after m (Cn.take Yd.D0 h c).2
 |V (V (.bd p))=>(y.put m (.bd (p.take c))).after m []
 |_=>y
def YOk (y:Yd):Prop:=∀(m:Ad) (c:Cn),y.conns[m]?=V (V c)->COk c
theorem YInv.low_all {b:A (Br Ad)}(h:YInv w yb B d b y)(f:d.ownBlock=S)(a:YF w yb b k):B<=k:=by
 rcases a with a|⟨i,cb,hi,a⟩
 ·exact(h.hf f a).1
 ·obtain⟨c,_,q⟩:=h.here i cb hi
  exact(q.cf a).1
theorem YMv.keep {b:Aj}{a:A (Br Ad)}(m:YMv w w' yb a ps')(h:YInv w yb B b a y)(d:b.ownBlock=S)(f:k<B)(c:k<w.heap.size):w'.heap[k]?=w.heap[k]?:=
 m.turn.block k c (fun hF=>by have:=h.low_all d hF;omega)
theorem fo (a:A (Br Ad))(m:Ad)(r:A Ab):Z (psAfter a m r)=Z a:=by unfold psAfter;split <;> simp
theorem zbW {q:Ad}{o:A (Br Ad)}(h:YInv w yb B (Al S) o y)(hk:YOk y)(i:o[m]?=V (V q))(c:Ab)(hs:Z y.sent<=100000000)(hl:Z o<=1000000)(r:B<=w.heap.size)(hG:Glob w)(N:GE w)(aa:0<B/\Tryz.laysC172_ren.g 15<B):Am prog 47 #[Al (V ⟨yb,0,S⟩),O Ai (m+1:Ad),O Bp c.toNat] w fun e w'=>e=Af (Cm #[])/\∃ps',YInv w' yb B (Al S) ps' (y.take0 m c)/\YMv w w' yb o ps'/\(Z ps')=Z o:=by
 obtain⟨F,t,j⟩:=h.here m q i;have ab:B<=q:=(j.cf (Ay (Ay rfl))).1;have n:=hk m F t
 cases F with
 |hd hh=>
  have hI:=j;have b:=n;have s:y.take0 m c=(y.put m (Cn.take Yd.D0 hh c).1).after m (Cn.take Yd.D0 hh c).2:=by unfold Yd.take0;rw[t]
  rw[s];refine(cg (y1:=y.put m (Cn.take Yd.D0 hh c).1) h rfl i c (Cn.take Yd.D0 hh c).2 ?_ hs hl r).mono fun e w' ⟨d,a,f⟩=>⟨d,_,a,f,fo _ _ _⟩
  refine(ah (yb:=yb) S (fun _=>True) (fun _ _ _ _=>trivial) hI c Yd.D0 b.size (by have:=b.line;have:=b.size;omega) (by have:=b.heads;omega) r hG N ⟨by omega,by omega⟩ (fun k e=>by cases e) ?_).mono ?_
  ·intro W h' v Q ht
   have l:HOk h':=by have:=b.take c (by rw[ht]);rw[ht] at this;exact this
   obtain⟨vd,vc,vs,H,_⟩:=h.ex;have E:¬HF w q yb:=fun hF=>kf (h.hf rfl (Ay rfl)).2 (j.cf (Ay hF)).2
   have C:=cbi 0 ((Q.turn.block yb (zO H) E).trans H);have x:Tryz.laysC172_ren.g 15<w.heap.size:=by omega
   have u:GE W:=by
    obtain⟨ev,d,a⟩:=N;refine⟨ev,?_,a⟩;rw[kJ (Q.turn.block _ x (fun hF=>by have:=(j.cf (Ay hF)).1;omega))];exact d
   refine(lm v C (by have:=l.heads;omega) l.number u).mono ?_;rintro e w' ⟨pb,d,a,f⟩;exact⟨pb,d,a,f,trivial⟩
  ·rintro e w' ⟨d,a,f,_⟩
   exact⟨d,(h.put rfl i f a).1,(h.put rfl i f a).2⟩
 |bd p=>
  have z:1<=p.left/\p.left<=300/\(Z p.data)+p.left<=100000000:=n;have s:y.take0 m c=(y.put m (.bd (p.take c))).after m []:=by unfold Yd.take0;rw[t]
  rw[s];refine(cg (y1:=y.put m (.bd (p.take c))) h rfl i c [] ?_ hs hl r).mono fun e w' ⟨d,a,f⟩=>⟨d,_,a,f,fo _ _ _⟩
  refine(ag (row:=S) j c ⟨z.1,by omega⟩ (by omega) r).mono ?_;rintro e w' ⟨d,a,f⟩;exact⟨d,(h.put rfl i f a).1,(h.put rfl i f a).2⟩
end Go.Proofs.YtfocdefchbnkpaaGreatDoor
