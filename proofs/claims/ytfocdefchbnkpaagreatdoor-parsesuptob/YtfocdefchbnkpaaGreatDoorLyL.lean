import Derived.Test.YtfocdefchbnkpaaGreatDoorYrY
set_option maxRecDepth 100000
set_option maxHeartbeats 20000000
open Go renaming World->Ag,Calls->Am
open Go.Ending renaming returned->Af
open Go.IntKind renaming i64->Ai
open Go.Value renaming int->O,slice->X,pointer->Al,bool->Av
open Go.World renaming ownsRow_nil->Bk
open Go.World.ownsRow renaming cellAt->Ap
open List renaming length->Z
open Option renaming some->V,none->S
open _root_ renaming Nat->Ad,Option->Br
namespace Go.Proofs.YtfocdefchbnkpaaGreatDoor
open Go.RowKit Tryz
def vy (f:Ad->Ad):Ad->Ad
 |0=>0
 |n+1=>vy f n+f n
variable {n:Ad}
theorem zgO (f:Ad->Ad){i:Ad}(h:i<=n):vy f i<=vy f n:=by
 induction n with
 |zero=>rw[Nat.le_zero.1 h];exact Aq _
 |succ n ih=>
  by_cases a:i<=n
  ·exact Bi (ih a) (Fv _ _)
  ·rw[show i=n+1 by omega];exact Aq _
def dD (w:Ag)(va:Br Addr)(n:Ad)(f:Ad->Ad):Prop:=∀i,i<n->∃bk o,va=V ⟨bk,o,S⟩/\∃(k e c N:Int) (s:ByteArray) (sa:Br Addr) (sc:Ad) (l:List UInt8),
 w.cell? ⟨bk,o+i*6,S⟩=V (O Ai k)/\w.cell? ⟨bk,o+i*6+1,S⟩=V (O Ai e)/\w.cell? ⟨bk,o+i*6+2,S⟩=V (O Ai c)/\w.cell? ⟨bk,o+i*6+3,S⟩=V (O .u64 N)/\w.cell? ⟨bk,o+i*6+4,S⟩=V (.string s)/\w.cell? ⟨bk,o+i*6+5,S⟩=V (X sa (Z l) sc)/\L.Arg w s sa sc l/\(Z l)<=f i/\-9223372036854775808<=e/\e<9223372036854775808
structure L.P (w wr:Ag) (N ne nv ny:Ad):Prop where
 gr:w.grownBy wr S
 ex:∃vl es ev ys,Z es<=ne/\(Z ev)<=nv/\(Z ys)<=ny/\L.W wr w.heap.size w.heap.size N vl es ev ys
variable {w:Ag}
theorem L.P.looks {wr:Ag}{N ne nv b:Ad}(h:L.P w wr N ne nv b)(l:ne<=1000000000)(m:nv<=1000000000):Am prog 39 #[Al (V ⟨w.heap.size,0,S⟩)] wr fun e w'=>e=Af (Av true)/\L.P w w' N ne nv b:=by
 obtain⟨j,c,d,k,f,g,i,a⟩:=h.ex;exact(nC a.r).mono fun e w' ⟨q1,q2⟩=>⟨q1,zD h.gr q2,j,c,d,k,f,g,i,a.keep q2 (Aq _)⟩
theorem L.P.of {wr w':Ag}{N ne nv b m:Ad}{l:List L.Y}(g:w.grownBy wr S)(h:L.St wr w' w.heap.size w.heap.size N ne nv m l)(o:m<=b):L.P w w' N ne nv b:=by
 obtain⟨k,c,d,a,f,i,n,j,_⟩:=h.ex;exact⟨h.grown g (Aq _),k,c,d,a,f,i,by omega,j⟩
theorem zbA {va:Br Addr}{vc:Ad}{f:Ad->Ad}(hx:dD w va n f)(hn:n<=1100000)(hf:vy f n<=1100000)(hG:Glob w)(hT:GT w)(hE:GE w)(F:0<w.heap.size/\Tryz.laysC172_ren.g 15<w.heap.size):Am prog 15 #[X va n vc,O Ai 8] w fun e w'=>e=Af (Av true)/\w.grownBy w' S:=by
 have gA:w.grownBy (w.alloc (.cells #[X S 0 0,X S 0 0,X S 0 0,X S 0 0,X S 0 0] 77)) S:=World.grownBy_alloc _ _ S;have af:L.W (w.alloc (.cells #[X S 0 0,X S 0 0,X S 0 0,X S 0 0,X S 0 0] 77)) w.heap.size w.heap.size 0 (X S 0 0) [] [] []:=⟨⟨⟨_,_,_,_,heap_alloc_new _ _,Bk _ _ _ _,Bk _ _ _ _,Bk _ _ _ _,Bk _ _ _ _,(fun k hk=>by cases hk)⟩,(fun e he=>by cases he),(fun e he=>by cases he),Aq _,(fun e he=>by cases he)⟩,Bk _ _ _ _,(fun i p hi=>by cases hi),(fun i j p q _ hi=>by cases hi),(fun i p hi=>by cases hi)⟩;have HX:=hid hx;have aa:=hid (zb8 af gA (Aq _) gA.size hG hT hE F);have ae:Y (∀(wr:Ag) (i:Ad) (k e c N:Int) (s:ByteArray) (sa:Br Addr) (sc:Ad) (l:List UInt8),i<n->k<=8->L.P w wr (1000+vy f i) (100+4*i) (100+4*i) (1+i)->L.Arg w s sa sc l->Z l<=f i->(-9223372036854775808<=e/\e<9223372036854775808)->Am prog 38 #[Al (V ⟨w.heap.size,0,S⟩),.agg #[O Ai k,O Ai e,O Ai c,O .u64 N,.string s,X sa (Z l) sc]] wr fun e w'=>e=Af (Av true)/\L.P w w' (1000+vy f (i+1)) (100+4*(i+1)) (100+4*(i+1)) (1+(i+1))):=fun wr i k e c N s sa sc l hi hk v ha hl he=>by
  obtain⟨B,t,u,b,h1,h2,h3,Q⟩:=v.ex;have hs:=zgO f (show i+1<=n by omega);have az:vy f (i+1)=vy f i+f i:=rfl;refine(rn Q k e c N hk he (ha.keep v.gr) (fun h0 g o e j p hj hF=>?_) (by omega) v.gr.size (by omega) (by omega) (by omega) (by omega) (hG.grown v.gr) (hT.grown v.gr) (hE.grown v.gr) F).mono fun e w' ⟨C,z⟩=>⟨C,L.P.of v.gr (z.widen (by omega) (by omega) (by omega)) (by unfold L.ny;split <;> omega)⟩
  have:=((Q.yd j p hj).1.lt g hF).1;have:=ha.bk h0 g o e
  omega
 go_in;go_wp2_with fail;refine aa.o.mono ?_;rintro e w1 ⟨rfl,g1,aC,ao,ar,aE,l1,l2,l3,l4⟩;have ab:Y (L.P w w1 (1000+vy f 0) (100+4*0) (100+4*0) (1+0)):=⟨g1,aC,ao,ar,aE,l1,l2,Nat.le_of_eq l3,l4⟩;go_wp2_with fail
 go_loopw [6,7] (fun ok iv wr=>∃i:Ad,i<=n/\iv=O Ai i/\ok=Av true/\Y (L.P w wr (1000+vy f i) (100+4*i) (100+4*i) (1+i))) (fun _ iv _=>n-(intOf iv).toNat)
 ·exact⟨0,Ax _,rfl,rfl,ab⟩
 ·
  obtain⟨i,aG,rfl,rfl,d⟩:=hrel
  by_cases ah:i<n
  ·have aF:(i:Int)<n:=by omega
   obtain⟨H,o,rfl,k,e,c,N,s,sa,sc,l,q0,C,z,q3,q4,q5,ha,ag,av,aw⟩:=HX.o i ah;have d0:=d.o.gr.cell (a:=⟨H,o+i*6,S⟩) q0 (by simp);have d1:=d.o.gr.cell (a:=⟨H,o+i*6+1,S⟩) C (by simp);have d2:=d.o.gr.cell (a:=⟨H,o+i*6+2,S⟩) z (by simp);have d3:=d.o.gr.cell (a:=⟨H,o+i*6+3,S⟩) q3 (by simp);have d4:=d.o.gr.cell (a:=⟨H,o+i*6+4,S⟩) q4 (by simp);have d5:=d.o.gr.cell (a:=⟨H,o+i*6+5,S⟩) q5 (by simp)
   by_cases hk:k<=8
   ·have ay:¬(8<k):=by omega
    have HC:=hid (ae.o wr i k e c N s sa sc l ah hk d.o ha ag ⟨av,aw⟩);go_wp2_with fail;refine HC.o.mono ?_;rintro e w2 ⟨rfl,ai⟩;have y:=hid (ai.looks (by omega) (by omega));go_wp2_with fail;refine y.o.mono ?_;rintro e w3 ⟨rfl,aj⟩;have E:=hid aj;go_wp2_with fail
    go_roundw
    ·exact⟨i+1,by omega,by go_num,rfl,E⟩
    ·simp[intOf];omega
   ·have ay:8<k:=by omega
    have E:Y (L.P w wr (1000+vy f (i+1)) (100+4*(i+1)) (100+4*(i+1)) (1+(i+1))):=by
     obtain⟨B,t,u,b,h1,h2,h3,Q⟩:=d.o.ex;have az:vy f (i+1)=vy f i+f i:=rfl;exact⟨d.o.gr,B,t,u,b,by omega,by omega,by omega,Q.keep (zP _ S) (by omega)⟩
    go_wp2_with fail
    go_roundw
    ·exact⟨i+1,by omega,by go_num,rfl,E⟩
    ·simp[intOf];omega
  ·have hE:i=n:=by omega
   subst hE;obtain⟨aB,an,aq,ak,k1,k2,k3,x⟩:=d.o.ex;obtain⟨m,hm⟩:∃m,Y (Z ak=m):=⟨_,rfl⟩;have aJ:m<=1+i:=by rw[<-hm.o];exact k3
   have ad:Y (w.grownBy wr S/\∃B t u b,Z t<=100+4*i/\(Z u)<=100+4*i+4*0/\(Z b)=m/\L.W wr w.heap.size w.heap.size (1000+vy f i) B t u b):=⟨d.o.gr,aB,an,aq,ak,k1,k2,hm.o,x⟩;have au:1000+vy f i<=1000000000:=by omega
   generalize 1000+vy f i=NN at*;go_wp2_with fail
   go_loopw [6,9] (fun ok jv wz=>ok=Av true/\∃j:Ad,j<=m/\jv=O Ai j/\Y (w.grownBy wz S/\∃B t u b,Z t<=100+4*i/\(Z u)<=100+4*i+4*j/\(Z b)=m/\L.W wz w.heap.size w.heap.size NN B t u b)) (fun _ jv _=>m-(intOf jv).toNat)
   ·exact⟨rfl,0,Ax _,rfl,ad⟩
   ·
    obtain⟨rfl,j,aH,rfl,HQ⟩:=hrel;obtain⟨hg,B,t,u,b,k1,k2,k3,x⟩:=HQ.o;obtain⟨la,lk,rfl⟩:=zL x.l;have c0:wr.cell? ⟨w.heap.size,0,S⟩=V (X la m lk):=by
     obtain⟨_,_,_,_,q,_⟩:=x.r.ex;have h:=zB (i:=0) q;rw[k3] at h;exact h
    by_cases aI:j<m
    ·have ax:(j:Int)<m:=by omega
     obtain⟨gl,gk,e1,_,_⟩:=World.ownsRow.form x.l (by omega);simp only[Value.slice.injEq,Fb] at e1;obtain⟨rfl,rfl⟩:=e1;obtain⟨p,v⟩:∃p,b[j]?=V p:=⟨_,Bd (by omega)⟩;have p0:wr.cell? ⟨gl,j*2,S⟩=V (Al (V ⟨p.xb,0,S⟩)):=(Ap x.l _ (by omega)).trans (bf b j p 0 v (by omega));have p1:wr.cell? ⟨gl,j*2+1,S⟩=V (Al (V ⟨p.yb,0,S⟩)):=(Ap x.l _ (by omega)).trans (bf b j p 1 v (by omega));have HC:Y (Am prog 40 #[Al (V ⟨w.heap.size,0,S⟩),.agg #[Al (V ⟨p.xb,0,S⟩),Al (V ⟨p.yb,0,S⟩)]] wr fun e w'=>e=Af (Av true)/\w.grownBy w' S/\∃B t u b,Z t<=100+4*i/\(Z u)<=100+4*i+4*(j+1)/\(Z b)=m/\L.W w' w.heap.size w.heap.size NN B t u b):=(lC x v hg.size (by omega) au).mono fun e w' ⟨C,z⟩=>by
      obtain⟨aA,am,ap,aD,h1,h2,h3,Q,_⟩:=z.ex;exact⟨C,z.grown hg (Aq _),aA,am,ap,aD,by omega,by omega,by omega,Q⟩
     go_wp2_with fail;refine HC.o.mono ?_;rintro e w2 ⟨rfl,hx⟩;have al:=hid hx;go_wp2_with fail
     go_roundw
     ·exact⟨rfl,j+1,by omega,by go_num,al⟩
     ·simp[intOf];omega
    ·have ax:¬(j:Int)<m:=by omega
     have y:Y (Am prog 39 #[Al (V ⟨w.heap.size,0,S⟩)] wr fun e w'=>e=Af (Av true)/\w.grownBy w' S):=(nC x.r).mono fun e w' ⟨C,z⟩=>⟨C,zD hg z⟩
     go_wp2_with fail;refine y.o.mono ?_;rintro e w3 ⟨rfl,g3⟩;have G3:=hid g3;go_wp2;go_ret;exact⟨rfl,G3.o⟩
theorem zb7 {j:Br Addr}{vc:Ad}{f:Ad->Ad}(i:dD w j n f)(m:n<=1100000)(l:vy f n<=1100000)(d:Glob w)(h:GT w)(c:GE w)(a:0<w.heap.size/\Tryz.laysC172_ren.g 15<w.heap.size):Am prog 5 #[X j n vc] w fun e w'=>e=Af (Av true)/\w.grownBy w' S:=by
 have H:=hid (zbA (vc:=vc) i m l d h c a);go_in;go_wp2_with fail;refine H.o.mono ?_;rintro e o ⟨rfl,b⟩;have k:=hid b;go_wp2;go_ret;exact⟨rfl,k.o⟩
end Go.Proofs.YtfocdefchbnkpaaGreatDoor
