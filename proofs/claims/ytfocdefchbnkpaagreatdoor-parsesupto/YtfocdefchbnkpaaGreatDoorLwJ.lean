import Derived.Test.YtfocdefchbnkpaaGreatDoorTkE
set_option maxRecDepth 100000
set_option maxHeartbeats 20000000
open Go renaming World->Ag
open Go.Ending renaming returned->Af
open Go.Lib renaming byteCells->Ba
open Go.Value renaming int->O,slice->X
open List renaming length->Z
open Option renaming none->S
namespace Go.Proofs.YtfocdefchbnkpaaGreatDoor
open Go.RowKit Tryz
theorem lB (c:Int)(n:Nat)(w:Ag)(h:-9223372036854775808<=c)(i:c<9223372036854775808)(d:0<n)(g:n<9223372036854775808):Calls prog 60 #[O .i64 c,O .i64 n] w fun e w'=>(∃k:Nat,k<n/\e=Af (O .i64 k))/\w'=w:=by
 by_cases j:c<0
 ·obtain⟨m,b⟩:∃m:Nat,c = -(m:Int)-1:=⟨(-c-1).toNat,by omega⟩
  have f:m<9223372036854775808:=by omega
  have a:m % n<n:=Nat.mod_lt _ d;subst b;go_in;go_wp2;go_ret;refine⟨⟨m % n,a,?_⟩,rfl⟩;show Af (O .i64 ((m:Int) % (n:Int)))=_
  go_num
 ·obtain⟨m,b⟩:∃m:Nat,c=(m:Int):=⟨c.toNat,by omega⟩
  have a:m % n<n:=Nat.mod_lt _ d;subst b;go_in;go_wp2;go_ret;refine⟨⟨m % n,a,?_⟩,rfl⟩;show Af (O .i64 ((m:Int) % (n:Int)))=_
  go_num
theorem zlE (a b:Int):∃r:UInt8,bits .xor .u8 a b=(r.toNat:Int):=by
 have h:∃x:Int,bits .xor .u8 a b=IntKind.u8.wrap x:=⟨_,rfl⟩;obtain⟨x,d⟩:=h;have c:IntKind.u8.wrap x=x % 256:=rfl;rw[d,c];refine⟨UInt8.ofNat (x % 256).toNat,?_⟩;rw[Qc]
 omega
def zgN (w:Ag)(e:Ending)(w':Ag):Prop:=∃a k,∃l:List UInt8,e=Af (X a (Z l) k)/\w'.ownsRow w.heap.size 5 1 (X a (Z l) k) (Z l) (Ba l)/\w.grownBy w' S/\(Z l)<=1000000000
theorem zhL (s:ByteArray)(c:Int)(n:Nat)(w:Ag)(z:s.size<=maxLen)(Q:-9223372036854775808<=c)(h2:c<9223372036854775808):Calls prog 58 #[.string s,O .i64 c,O .u64 n] w (zgN w):=by
 have o:=J (bA s w z);have f:Y ((xg s.data.toList).1=0->∃j,VHs j/\qx (R.readS s.data.toList).1=j.map toR/\yz s.data.toList=x4 j):=fun h=>zdB h
 generalize yz s.data.toList=pt at*;generalize xg s.data.toList=er at*;generalize qx (R.readS s.data.toList).1=hsr at*;obtain⟨q,ah⟩:=er;simp only at o f;go_in;go_wp2_with fail;refine o.o.mono ?_;rintro e w1 ⟨v,rfl,t,B⟩;have N:=J (zt t);have l:=J (B);clear t B o
 by_cases u:q=0
 ·subst u
  obtain⟨j,d,E,i⟩:=f.o rfl;have a:=l.o rfl;rw[E] at a;obtain⟨ua,uc,rfl⟩:∃ua uc,v=X ua (Z (j.map toR)) uc:=by obtain⟨css,Q,_⟩:=a;exact zL Q
  have m:Y (Calls prog 92 #[X ua (Z (j.map toR)) uc] w1 (Gives w1 pt)):=by
   have h:=na _ (j.map toR) a (by rw[Bv];have:=d.hl;omega) (fun x hx=>by obtain⟨y,hy,rfl⟩:=Hr.1 hx;exact zgY (d.hosts y hy));rw[be,<-i] at h;exact h
  have af:Z pt<=1000000000:=by
   rw[i,nH];have Q:=xx qX 8000 j (fun x hx=>aJ (d.hosts x hx).pk);have:=d.hl;unfold xM;rw[Ah];simp;omega
  have ag:0<Z pt:=by
   rw[i,nH];omega
  rw[Bv] at m ⊢;clear a d E i f l;go_wp2_with fail;refine m.o.mono ?_;rintro e w3 ⟨a3,k3,rfl,C,g3⟩;have G3:=J (zD N.o g3);have b:=J (zo C N.o.size);have p:=J (lB c (Z pt) w3 Q h2 ag (by omega));clear C g3 m N;go_wp2_with fail;refine p.o.mono ?_;rintro e wX ⟨⟨k,hk,rfl⟩,H⟩;rw[H];clear H wX p;obtain⟨g,gc,e1,ad,_⟩:=World.ownsRow.form b.o (by omega);simp only[Value.slice.injEq,Fb] at e1;obtain⟨rfl,rfl⟩:=e1;have ai:(k:Int)<Z pt:=by omega
  have ab:=xU pt;have ck:w3.cell? ⟨g,k,S⟩=some (O .u8 (pt[k].toNat:Nat)):=by
   rw[World.ownsRow.cellAt b.o k (by omega)];unfold Ba;simp[hk]
  have fk:=World.ownsRow.frozenAt b.o k;obtain⟨r,hx⟩:=zlE (pt[k].toNat:Int) ((n:Int) % 256);obtain⟨F,ae⟩:=World.ownsRow.stored b.o k (O .u8 (r.toNat:Nat));have aa:Y ((w3.setCell ⟨g,k,S⟩ (O .u8 (r.toNat:Nat))).ownsRow w.heap.size 5 1 (X (some ⟨g,0,S⟩) (Z pt) k3) (Z pt) (Ba (pt.set k r))):=by
   have e:Ba (pt.set k r)=(Ba pt).set k (O .u8 (r.toNat:Nat)):=by unfold Ba;rw[List.map_set]
   rw[e];exact F
  have G4:Y (w.grownBy (w3.setCell ⟨g,k,S⟩ (O .u8 (r.toNat:Nat))) S):=ze G3.o (zF _ _ _ _) ad;clear F ae b G3 ab;generalize pt[k]=pk at*;go_wp2;go_ret;have e:Z (pt.set k r)=Z pt:=Gv;refine⟨some ⟨g,0,S⟩,k3,pt.set k r,?_,?_,G4.o,?_⟩
  ·rw[e];rfl
  ·rw[e];exact aa.o
  ·rw[e];exact af
 ·have aj:(q == 0)=false:=by rw[Ch];exact u
  clear f l;go_wp2;go_ret;exact⟨S,0,[],rfl,World.ownsRow_nil _ _ _ _,N.o,by simp⟩
theorem Turn.of_grown {w w':Ag}{F:Nat->Prop}(g:w.grownBy w' S):Turn w w' F:=⟨g.os,g.tape,g.output,g.size,fun k hk _=>g.block k hk (by simp)⟩
structure L.Arg (w:Ag) (s:ByteArray) (sa:Option Addr) (sc:Nat) (l:List UInt8):Prop where
 sz:s.size<=maxLen
 rd:RdO w (X sa (Z l) sc) l
 bk:l≠[]->∀g o,sa=some ⟨g,o,S⟩->g<w.heap.size
 nil:sa=S->l=[]
 ln:Z l<=1000000000000
theorem L.Arg.keep {w w':Ag}{s:ByteArray}{b:Option Addr}{d:Nat}{l:List UInt8}(h:L.Arg w s b d l)(a:w.grownBy w' S):L.Arg w' s b d l:=
 ⟨h.sz,h.rd.keep a (fun _ _ _ _ _ c=>by cases c),fun h0 g o e=>Eh (h.bk h0 g o e) a.size,h.nil,h.ln⟩
end Go.Proofs.YtfocdefchbnkpaaGreatDoor
