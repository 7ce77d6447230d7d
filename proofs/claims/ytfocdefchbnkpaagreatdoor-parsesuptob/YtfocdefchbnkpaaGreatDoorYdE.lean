import Derived.Test.YtfocdefchbnkpaaGreatDoorRqA
import Derived.DeepKeys4
import Derived.Shelf.Sort.Plain
import Derived.Shelf.Slices.In.SortNone
set_option maxRecDepth 100000
set_option maxHeartbeats 20000000
open Go renaming World->Ag,Value->Aj,Addr->Eu,Calls->Am,info_parts->Ej,maxLen->Bh,wpList_append_lies->Ei,heap_alloc_new->Bn
open Go.Ending renaming returned->Af
open Go.IntKind renaming i64->Ai,u8->Bp
open Go.Lib renaming indexByte->Mf,cut->Ca,index->Es,trimRightB->Gh,trimLeftB->Hi,trimB->Iq,byteCells->Ba
open Go.Obj renaming cells->Ae
open Go.Proofs.YtfocdefchbnkpaaGreatDoor.R renaming str->Aa,allB->Ec,digitI->Ck,str_size->Bz,str_toList->Be
open Go.Value renaming slice->X,string->I,pointer->Al,int->O,bool->Av,tuple->Cm
open Go.Value.slice renaming injEq->Au
open Go.World renaming grownBy_alloc->Ac,ownsRow_nil->Bk,cell?_of_block->Mr
open Go.World.ownsRow renaming form->Bm,frozenAt->Nz,cellAt->Ap,stored->Ol,lt->An,alloc->Ao
open List renaming length->Z
open Option renaming some->V,none->S
open Or renaming inl->Ay,inr->Bf
open _root_ renaming Int->Ak,Nat->Ad,List->A,Option->Br,UInt8->Ab
namespace Go.Proofs.YtfocdefchbnkpaaGreatDoor
open Go.RowKit Tryz
def Yd.isOpen (y:Yd)(n:Ak):Bool:=decide (1<=n) && (decide (n<=Z y.conns) && (match y.conns[(n-1).toNat]? with|V (V _)=>true|_=>false))
variable {w w':Ag}{B yb k m n i ck:Ad}{g o l j v d:Aj}{a c f ps' b:A (Br Ad)}{y y':Yd}
theorem YInv.same (h:YInv w yb B g a y)(m:Ad)(f:m<Z a):y.isOpen (m+1:Ad)=a[m].isSome:=by
 have i:=h.len;have e:a[m]?=V a[m]:=Bd f;unfold Yd.isOpen;have b:decide ((1:Ak)<=(m+1:Ad))=true:=Cf (by omega);have c:decide (((m+1:Ad):Ak)<=Z y.conns)=true:=Cf (by omega);have d:(((m+1:Ad):Ak)-1).toNat=m:=by omega
 rw[b,c,d]
 cases hp:a[m] <;> grind[List.getElem?_eq_getElem,Yd.isOpen,Yd,YInv]
theorem nY {a:Br Eu}(h:w.ownsRow B 100 1 (X a (Z c) k) (Z c) (c.map ptrV))(m:Ad)(f:m<Z c):∃g b,a=V ⟨g,0,S⟩/\k=b/\w.cell? ⟨g,m,S⟩=V (ptrV c[m])/\w.frozen? ⟨g,m,S⟩=false:=by
 obtain⟨g,b,d,_,_⟩:=Bm h (by omega);simp only[Au,Fb] at d;obtain⟨rfl,rfl⟩:=d;refine⟨g,_,rfl,rfl,?_,Nz h m⟩;rw[Ap h m (by omega),Fq,Bd f]
 rfl
theorem wW {s:Aj}(h:YInv w yb B s f y)(n:Ak)(t:Z f<=1000000):Am prog 46 #[Al (V ⟨yb,0,S⟩),O Ai n] w fun e w'=>e=Af (Av (y.isOpen n))/\w'=w:=by
 obtain⟨x,vc,z,j,k,c,l⟩:=h.ex;obtain⟨ca,ck,rfl⟩:=zL c;have v:=cbi 2 j;have o:=h.len
 by_cases q:1<=n
 ·by_cases u:n<=Z f
  ·obtain⟨m,rfl⟩:∃m:Ad,n=(m+1:Ad):=⟨(n-1).toNat,by omega⟩
   have d:m<Z f:=by omega
   have b:=hid (h.same m d);obtain⟨g,p,rfl,rfl,i,_⟩:=nY c m d;generalize y.isOpen (m+1:Ad)=r at*
   cases hp:f[m] with
   |none=>
    rw[hp] at i b;have a:=J (b.o);simp only[ptrV] at i;go_in;go_wp2;go_ret;exact⟨by rw[a.o];exact zX,rfl⟩
   |some cb=>
    rw[hp] at i b;have a:=J (b.o);simp only[ptrV] at i;go_in;go_wp2;go_ret;exact⟨by rw[a.o];exact zX,rfl⟩
  ·have a:Y (y.isOpen n=false):=by
    show _=_;unfold Yd.isOpen;rw[Ce (show ¬n<=Z y.conns by omega)];simp
   generalize y.isOpen n=r at*;go_in;go_wp2;go_ret;exact⟨by rw[a.o];exact zX,rfl⟩
 ·have a:Y (y.isOpen n=false):=by
   show _=_;unfold Yd.isOpen;rw[Ce q];rfl
  generalize y.isOpen n=r at*;go_in;go_wp2;go_ret;exact⟨by rw[a.o];exact zX,rfl⟩
theorem YInv.own {tv':Aj}(h:YInv w yb B o f y)(p:o.ownBlock=S)(m:HMv w w' yb)
  (l:∃vd vc vs,w'.heap[yb]?=V (Ae #[tv',vd,vc,vs] 99 (0,0))/\QRow w' B 60 vd (y'.draws.map drawV)/\w'.ownsRow B 100 1 vc (Z ps') (ps'.map ptrV)/\w'.ownsRow B 44 3 vs (Z y'.sent) (evCells y'.sent))
  (d:Z ps'=Z y'.conns) (a:∀i cb:Ad,ps'[i]?=V (V cb)->f[i]?=V (V cb)/\y'.conns[i]?=y.conns[i]?) (b:∀i:Ad,ps'[i]?=V S->y'.conns[i]?=V S):YInv w' yb B tv' ps' y'/\YMv w w' yb f ps':=by
 have n:∀i cb:Ad,f[i]?=V (V cb)->∀k,CF w cb k->w'.heap[k]?=w.heap[k]?:=fun i cb hi k hk=>by
  obtain⟨c,_,q⟩:=h.here i cb hi;exact m.turn.block k (q.lt hk) (fun hF=>kf (h.hf p hF).2 (q.cf hk).2)
 have g:∀i cb:Ad,ps'[i]?=V (V cb)->∀k,CF w' cb k->CF w cb k:=fun i cb hi=>by
  obtain⟨c,_,q⟩:=h.here i cb (a i cb hi).1;exact(q.keep (n i cb (a i cb hi).1)).2
 refine⟨⟨l,h.low,d,fun i cb hi=>?_,b,fun i j cb cb' hij hi hj k q q'=>h.apart i j cb cb' hij (a i cb hi).1 (a j cb' hj).1 k (g i cb hi k q) (g j cb' hj k q')⟩,⟨⟨m.turn.os,m.turn.tape,m.turn.output,m.turn.size,fun k hk hn=>m.turn.block k hk (fun hF=>hn (Ay hF))⟩,fun k hF=>?_⟩⟩
 ·obtain⟨c,r,s⟩:=h.here i cb (a i cb hi).1
  exact⟨c,by rw[(a i cb hi).2];exact r,(s.keep (n i cb (a i cb hi).1)).1⟩
 ·rcases hF with hF|⟨i,cb,hi,hF⟩
  ·rcases m.foot k hF with q|q
   ·exact Ay (Ay q)
   ·exact Bf q
  ·exact Ay (Bf ⟨i,cb,(a i cb hi).1,g i cb hi k hF⟩)
def Yd.ended (y:Yd)(m:Ad):Yd:={ y with conns:=y.conns.set m S }
theorem zd8 (h:YInv w yb B l a y)(x:l.ownBlock=S)(m:Ad)(u:m<Z a)(N:Z a<=1000000):Am prog 48 #[Al (V ⟨yb,0,S⟩),O Ai (m+1:Ad)] w fun e w'=>e=Af (Cm #[])/\YInv w' yb B l (a.set m S) (y.ended m)/\YMv w w' yb a (a.set m S):=by
 obtain⟨C,vc,E,f,j,b,n⟩:=h.ex;obtain⟨ca,ck,rfl⟩:=zL b;have z:=cbi 2 f;obtain⟨g,r,rfl,rfl,F,H⟩:=nY b m u;have v:(m:Ak)<Z a:=by omega
 have d:=Ol b m (Al S);have c:=zI f b;have o:=c g rfl;have M:=HMv.row z (zO f) (w':=w.setCell ⟨g,m,S⟩ (Al S)) d.2 c;have t:=hid (h.own (tv':=l) (ps':=a.set m S) (y':=y.ended m) x M ⟨C,_,E,zE f d.2 (by simp;exact fun e=>o e.symm),j.keep M.turn.size (fun k hk=>d.2.block k (by obtain⟨_,_,e⟩:=j.block k hk;exact zO e) (fun e=>by
   obtain⟨_,_,s⟩:=j.block k hk;obtain⟨_,p⟩:=qT b k e.symm;rw[s] at p;simp at p)),by rw[Gv,List.map_set];exact d.1,zJ n d.2 (fun k hk e=>qB b n (by decide) k hk (by rw[e];rfl))⟩ (by show _=Z (y.conns.set m S);rw[Gv,Gv];exact h.len) (fun i cb hi=>by
   by_cases e:m=i
   ·subst e;rw[Fm (by omega)] at hi;simp at hi
   ·rw[Fc e] at hi;exact⟨hi,Fc e⟩) (fun i hi=>by
   show(y.conns.set m S)[i]?=_
   by_cases e:m=i
   ·subst e;rw[Fm (by have:=h.len;omega)]
   ·rw[Fc e] at hi ⊢;exact h.gone i hi))
 generalize a[m]=q at*;go_in;go_wp2
 go_end0
 exact⟨rfl,t.o⟩
theorem m9:(prog.info? 44).map (fun i=>(i.zero,i.size,i.bytes))=V (V (.agg #[O Ai 0,I ⟨#[]⟩,I ⟨#[]⟩]),3,40):=by kernel_rfl
def Yd.send (y:Yd)(e:Ev):Yd:={ y with sent:=y.sent++[e] }
theorem YInv.sent {f vc:Aj}(h:YInv w yb B f a y)(x:f.ownBlock=S)(n:w.heap[yb]?=V (Ae #[f,g,vc,j] 99 (0,0)))(o:QRow w B 60 g (y.draws.map drawV))(p:w.ownsRow B 100 1 vc (Z a) (a.map ptrV))(r:w.ownsRow B 44 3 j (Z y.sent) (evCells y.sent))(m:HMv w w' yb){l:A Ev}
  (b:w'.heap[yb]?=V (Ae #[f,g,vc,v] 99 (0,0))) (u:w'.ownsRow B 44 3 v (Z l) (evCells l)) (s:∀k,k<w.heap.size->j.ownBlock≠V k->k≠yb->w'.heap[k]?=w.heap[k]?):YInv w' yb B f a { y with sent:=l }/\YMv w w' yb a a:=by
 refine h.own x m ⟨g,vc,v,b,o.keep m.turn.size (fun k q=>?_),jH p (fun k q=>?_),u⟩ h.len (fun i cb hi=>⟨hi,rfl⟩) h.gone
 ·obtain⟨_,t,e⟩:=o.block k q
  refine s k (zO e) (fun e2=>?_) (fun e2=>?_)
  ·obtain⟨c,d⟩:=qT r k e2
   rw[e] at d;simp at d
  ·rw[e2,n] at e;simp at e
 ·obtain⟨t,e⟩:=qT p k q
  refine s k (zO e) (fun e2=>?_) (fun e2=>?_)
  ·obtain⟨c,d⟩:=qT r k e2
   rw[e] at d;simp at d
  ·rw[e2,n] at e;simp at e
abbrev Hx6 (a b c):=Ae #[O Ai a,I (Aa b),I (Aa c)] 44
theorem oA {N:Aj}{r:A (Br Ad)}(h:YInv w yb B N r y)(ht:N.ownBlock=S)(n:Ad)(a d:A Ab)(hn:Z y.sent<=1000000000)(hB:B<=w.heap.size):Am prog 81 #[Al (V ⟨yb,0,S⟩),O Ai n,I (Aa a),I (Aa d)] w fun e w'=>e=Af (Cm #[])/\YInv w' yb B N r (y.send ⟨n,a,d⟩)/\YMv w w' yb r r:=by
 obtain⟨i0,hi,aj,ak,al⟩:=Ej m9;obtain⟨vd,vc,vs,z,h2,h3,H⟩:=h.ex;obtain⟨sa,sk,rfl⟩:=zL H;have k3:=cbi 3 z;have HT:Y (y.send ⟨n,a,d⟩={ y with sent:=y.sent++[⟨n,a,d⟩] }):=rfl;have F:=hid (Ac w (Hx6 n a d) S);have v:=J (zK H F.o (fun k hk c=>by cases c));have ae:Y (∀j u,([O Ai n,I (Aa a),I (Aa d)]:A Aj)[j]?=V u->(w.alloc (Hx6 n a d)).cell? ((⟨w.heap.size,0,S⟩:Eu).add j)=V u):=zZ w #[_,_,_] _ _ rfl;have Q:Y (∀u∈([O Ai n,I (Aa a),I (Aa d)]:A Aj),u.oneCell'=true):=fun u hu=>by simp at hu;rcases hu with rfl|rfl|rfl <;> rfl
 have ad:Y (Z y.sent+1<=Bh):=by show _<=_;unfold Bh;omega
 have ah:Y ((Z y.sent+1)*40<=140737488355328):=by show _<=_;omega
 have m:Y ((w.alloc (Hx6 n a d)).heap.size=w.heap.size+1):=by show _=_;simp
 have aa:Y (B<=(w.alloc (Hx6 n a d)).heap.size):=by show _<=_;rw[m.o];omega
 have g:=hid (zE z F.o);have q:=hid (zI g.o v.o);have kX:=cbi 3 g.o;have ai:=zO g.o;have t:Y (∀o b s,s.ownsRow B 44 3 (X (V ⟨o,0,S⟩) (Z y.sent+1) b) (Z y.sent+1) (evCells y.sent++[O Ai n,I (Aa a),I (Aa d)])->(w.alloc (Hx6 n a d)).grownBy s (X sa (Z y.sent) sk).ownBlock->((X sa (Z y.sent) sk).ownBlock=V o\/o=w.heap.size+1)->YInv (s.setCell ⟨yb,3,S⟩ (X (V ⟨o,0,S⟩) (Z y.sent+1) b)) yb B N r { y with sent:=y.sent++[⟨n,a,d⟩] }/\YMv w (s.setCell ⟨yb,3,S⟩ (X (V ⟨o,0,S⟩) (Z y.sent+1) b)) yb r r):=fun o b s ho hg hat=>by
  have C:=zw g.o hg q.o;have gs:=zF s yb 3 (X (V ⟨o,0,S⟩) (Z y.sent+1) b);refine h.sent ht z h2 h3 H ((HMv.of_grown (zO z) F.o).trans (HMv.append kX ai hg q.o (by rcases hat with h|h;exact Ay h;exact Bf (by rw[h,m.o])))) (zH (i:=3) C _) ?_ (fun k hk hv hy=>?_)
  ·have:=zJ ho gs (zI C ho)
   rw[Ah,um];exact this
  ·have E:k<(w.alloc (Hx6 n a d)).heap.size:=by rw[m.o];omega
   exact(gs.block k (Eh E hg.size) (by simpa using hy)).trans ((hg.block k E (fun e=>hv e.symm)).trans (F.o.block k hk (by simp)))
 generalize y.send ⟨n,a,d⟩=y' at*;go_in;go_wp2_with (at_builtin;refine Ei _ rfl (.tmp 12) (.tmp 17) 41 rfl B 44 i0 _ 3 40 underlying41 hi aj ak al rfl (by decide) _ _ _ rfl v.o ⟨w.heap.size,0,S⟩ 1 1 [O Ai n,I (Aa a),I (Aa d)] rfl rfl ae.o Q.o (by decide) ad.o ah.o aa.o (w.heap.size+1) m.o ?_);intro o b s l f p _;have af:=hid l;have ab:=hid f;have ag:=hid p;have x:=hid (zw g.o f q.o);have q9:=cbi 3 x.o;have f9:=zm9 3 x.o;go_wp2
 go_end0
 exact⟨rfl,by rw[HT.o];exact t.o _ _ _ af.o ab.o ag.o⟩
def Yd.told (y:Yd):Yd:={ y with sent:=[] }
theorem lV {z:Aj}{d:A (Br Ad)}(h:YInv w yb B z d y)(Q:z.ownBlock=S):Am prog 28 #[Al (V ⟨yb,0,S⟩)] w fun e w'=>∃v,e=Af v/\YInv w' yb B z d y.told/\YMv w w' yb d d/\w'.ownsRow B 44 3 v (Z y.sent) (evCells y.sent)/\(∀k,v.ownBlock=V k->¬YF w' yb d k)/\∀k,v.ownBlock=V k->YF w yb d k:=by
 obtain⟨vd,vc,vs,o,H,N,r⟩:=h.ex;obtain⟨sa,sk,rfl⟩:=zL r;have k3:=cbi 3 o;have f3:=zm9 3 o;have s:=zF w yb 3 (X S 0 0);have n:=zH (i:=3) o (X S 0 0);have p:=hid (h.sent Q o H N r (w':=w.setCell ⟨yb,3,S⟩ (X S 0 0)) (v:=.slice S 0 0) (l:=[]) (HMv.set k3 (fun k hk=>by cases hk)) n (Bk _ _ _ _) (fun k hk _ hy=>s.block k hk (by simpa using hy)));have x:=zJ r s (zI o r);have HR:=hid x;have HN:Y (∀k,(X sa (Z y.sent) sk).ownBlock=V k->¬YF (w.setCell ⟨yb,3,S⟩ (X S 0 0)) yb d k):=fun k hk hF=>by
  obtain⟨cs,e⟩:=qT x k hk;rcases hF with hF|⟨i,cb,hi,hF⟩
  ·rcases hF with rfl|⟨j,u,c1,a⟩
   ·rw[n] at e;simp at e
   ·rw[zB n] at c1
    match j,c1 with
    |0,c1=>simp at c1;subst c1;rw[Q] at a;cases a
    |1,c1=>
     simp at c1;subst c1;obtain⟨E,C,F,g,m,_⟩:=p.o.1.ex;rw[n] at g;simp at g;rw[g.1] at a;obtain⟨_,c,b⟩:=m.block k a;rw[e] at b;simp at b
    |2,c1=>
     simp at c1;subst c1;obtain⟨E,C,F,g,_,m,_⟩:=p.o.1.ex;rw[n] at g;simp at g;rw[g.2.1] at a;obtain⟨c,b⟩:=qT m k a;rw[e] at b;simp at b
    |3,c1=>simp at c1;subst c1;cases a
    |j+4,c1=>simp at c1
  ·obtain⟨c,_,q⟩:=p.o.1.here i cb hi
   obtain⟨_,a,t,f,m,b⟩:=q.cf hF;rw[e] at m;simp at m;rw[<-m.2.1] at b;revert b;decide
 have HI:Y (∀k,(X sa (Z y.sent) sk).ownBlock=V k->YF w yb d k):=fun k hk=>Ay (Bf ⟨3,_,k3,hk⟩)
 go_in;go_wp2;go_ret;exact⟨_,rfl,p.o.1,p.o.2,HR.o,HN.o,HI.o⟩
def M.ev (j:Ad):A Aj:=[O Ai (-1-(j:Ak)),I ⟨#[]⟩,I ⟨#[]⟩]
def M.sg (j:Ad):Ad->A Aj
 |0=>[]
 |m+1=>M.ev j++M.sg j m
theorem kz (j m:Ad):Z (M.sg j m)=m*3:=by
 induction m <;> simp_all[M.ev,M.sg] <;> omega
theorem bJ (j n m:Ad):M.sg j n++M.sg j m=M.sg j (n+m):=by
 induction n with
 |zero=>rw[Gr];rfl
 |succ n ih=>rw[Nat.succ_add];show(M.ev j++M.sg j n)++M.sg j m=M.ev j++M.sg j (n+m);rw[Bl,ih]
theorem dF (j m p:Ad)(h:p<=m):(M.sg j m).take (p*3)=M.sg j p:=by
 obtain⟨d,rfl⟩:=Nat.exists_eq_add_of_le h;rw[<-bJ,<-kz j p,List.take_left]
theorem eh (j m:Ad):∀u∈M.sg j m,u.oneCell'=true:=by
 induction m with
 |zero=>intro u a;cases a
 |succ m ih=>
  intro u a;rcases Ea.1 a with h|h
  ·simp[M.ev] at h;rcases h with rfl|rfl <;> rfl
  ·exact ih u h
theorem fp {e:TypeId}{a:Br Eu}{c:Ad}{d:A Aj}(h:w.ownsRow B e 3 (X a n c) n d)(i:m<=n:=by omega):w.ownsRow B e 3 (X a m c) m (d.take (m*3)):=by
 obtain⟨f,b⟩:=h;refine⟨by rw[Cq];omega,?_⟩;rcases b with ⟨b,h3⟩|⟨g,cap,cur,b,hB,hb,hle,hmx,hsz,htk⟩
 ·simp only[Au] at b
  exact Ay ⟨by rw[b.1,b.2.2];congr 1;omega,by omega⟩
 ·simp only[Au,Fb] at b
  refine Bf ⟨g,cap,cur,by rw[b.1,b.2],hB,hb,by omega,hmx,hsz,?_⟩;rw[<-htk,List.take_take,Vj (by omega)]
def M.Out (w:Ag)(B N:Ad)(a:Br Eu)(c k n p m:Ad)(v:Aj):Prop:=
 (v=X a (n+m) c/\m<=p/\a≠S)\/(w.ownsRow B 44 3 v (n+m) (M.sg k (n+m))/\∀g,v.ownBlock=V g->N<=g)
theorem M.Out.row {N:Ad}{a:Br Eu}{c p:Ad}(h:M.Out w B N a c k n p m v)(b:w.ownsRow B 44 3 (X a (n+p) c) (n+p) (M.sg k (n+p))):w.ownsRow B 44 3 v (n+m) (M.sg k (n+m))/\∀g,v.ownBlock=V g->(X a n c).ownBlock=V g\/N<=g:=by
 rcases h with ⟨rfl,hm,_⟩|⟨h,h2⟩
 ·have:=fp b (m:=n+m)
  rw[dF _ _ _ (by omega)] at this;exact⟨this,fun g hg=>Ay (by cases a <;> exact hg)⟩
 ·exact⟨h,fun g hg=>Bf (h2 g hg)⟩
theorem M.Out.step {N:Ad}{a:Br Eu}{c p b:Ad}(h:M.Out w B N a c k n p m v)(d:∀g,(X a n c).ownBlock=V g->g<N)(f:w.grownBy w' (X a n c).ownBlock)(i:p<=b):M.Out w' B N a c k n b m v:=by grind[zK,M.Out]
theorem vZ {w:Ag}{v:Array Oper}{rest:A Oper}{o:Oper}{ac:Act}{Q:Exit->Act->Ag->Prop}(q:o.guard=S)(s x:Operand)
  (ho:o.op = .call { callee:=.builtin .append,args:=#[s,x],argTypes:=#[41,41] })
  {B N:Ad} {l:TypeInfo} (hi:prog.info? 44=V l) (F:l.zero=V (.agg #[O Ai 0,I ⟨#[]⟩,I ⟨#[]⟩])) (t:l.size=3) (H:l.bytes=40)
  (a:Br Eu) (c k n p m:Ad) (hs:ac.eval s=X a n c) (hr:w.ownsRow B 44 3 (X a (n+p) c) (n+p) (M.sg k (n+p)))
  (y:Eu) (hx:ac.eval x=X (V y) m m) (hc:∀j u,(M.sg k m)[j]?=V u->w.cell? (y.add j)=V u) (r:p<=m) (hm:0<m) (hb:n+m<=1000000000000) (hB:B<=w.heap.size) (hN:N<=w.heap.size)
  (hK:∀C w' p',Y (p<=p'/\p'<=m/\w'.ownsRow B 44 3 (X a (n+p') c) (n+p') (M.sg k (n+p'))/\M.Out w' B N a c k n p' m C/\w.grownBy w' (X a n c).ownBlock)->wpList prog v Q rest (ac.put o.dst C) w'):wpList prog v Q (o::rest) ac w:=by
 have d:w.ownsRow B 44 3 (X a n c) n (M.sg k n):=by
  have:=fp hr (m:=n)
  rwa[dF _ _ _ (by omega)] at this
 by_cases f:n+m<=c/\a≠S
 ·rcases d.2 with ⟨h,_⟩|⟨g,cap,cur,h,hBg,_⟩
  ·simp only[Au] at h;exact absurd h.1 f.2
  ·simp only[Au,Fb] at h
   obtain⟨rfl,rfl⟩:=h;refine wpList_append_fits w q s x 41 ho B 44 l 3 underlying41 hi t g n c (M.sg k n) hs d y m m (M.sg k m) hx (kz _ _) hc (eh _ _) f.1 ?_;intro w' i z;rw[bJ] at i;exact hK _ w' m ⟨r,Aq _,i,Ay ⟨rfl,Aq _,by simp⟩,z⟩
 ·refine wpList_append_grows w q s x 41 ho 44 l _ 3 40 underlying41 hi F t H rfl (by decide) a n c (M.sg k n) hs ?_ (kz _ _) ?_ y m m (M.sg k m) hx (kz _ _) hc (eh _ _) ?_ (by unfold Bh;omega) (by omega) ?_
  ·intro e
   rcases d.2 with ⟨h,h0⟩|⟨g,cap,cur,h,_⟩
   ·simp only[Au] at h;exact⟨h0,h.2.2⟩
   ·simp only[Au] at h;rw[e] at h;cases h.1
  ·intro b e j u E
   rcases d.2 with ⟨h,h0⟩|⟨g,cap,cur,h,hBg,hb2,hle,hmx,hsz,htk⟩
   ·simp only[Au] at h;rw[e] at h;cases h.1
   ·simp only[Au,Fb] at h
    rw[e] at h;obtain⟨h,rfl⟩:=h;obtain rfl:=Bc h;subst e;have hj:j<n*3:=by have:=(Bo.1 E).1;rwa[kz] at this
    have:=Ap d j (by omega);unfold Addr.add
    split
    ·rename_i h0;subst h0;rw[this];exact E
    ·simp only[Gr];rw[this];exact E
  ·by_cases ha:a=S
   ·rcases d.2 with ⟨h,h0⟩|⟨g,cap,cur,h,_⟩
    ·simp only[Au] at h;omega
    ·simp only[Au] at h;rw[ha] at h;cases h.1
   ·have:¬n+m<=c:=fun h=>f ⟨h,ha⟩
    omega
  ·intro C w' i z
   rw[bJ] at i;exact hK C w' p ⟨Aq _,r,zK hr z (fun _ _ c=>by cases c),Bf ⟨zo i hB,fun g hg=>Bi hN (An i g hg).1⟩,zT z _⟩
theorem zkC:(prog.info? 41).map (fun i=>(i.zero,i.size,i.bytes))=V (V (X S 0 0),1,24):=by kernel_rfl
def mH (j i:Ad)(xs:A Aj):A Aj:=M.sg j i++xs.drop (i*3)
theorem zdJ {j:Ad}{a:A Aj}(c:Z a=n*3)(b:i<=n):Z (mH j i a)=n*3:=by grind[mH,List.length_append,kz,List.length_drop]
theorem zdK {j:Ad}{b:A Aj}(k:Z b=n*3)(h:i<n):(((mH j i b).set (i*3) (O Ai (-1-(j:Ak)))).set (i*3+1) (I ⟨#[]⟩)).set (i*3+2) (I ⟨#[]⟩)=mH j (i+1) b:=by
 have g:=kz j i;obtain⟨c,d,f,e⟩:∃c d f,b.drop (i*3)=c::d::f::b.drop (i*3+3):=⟨b[i*3],b[i*3+1],b[i*3+2],by rw[Ed (by omega),Ed (by omega),Ed (by omega)]⟩;unfold mH;rw[e,show(i+1)*3=i*3+3 by omega,<-bJ j i 1,Bl];generalize M.sg j i=a at*;generalize b.drop (i*3+3)=r at*;rw[<-g,Mg _ _ (Aq _),Mg _ _ (by omega),Mg _ _ (by omega),Gp,Ow,Ow]
 rfl
structure M.Post (w w':Ag) (wb B:Ad) (vl vb vk ve vm va:Aj) (ev:A (Aj×Ad×Ad)) (n:Ad) (ev':A (Aj×Ad×Ad)) (ve' vm':Aj):Prop where
 len:Z ev'=4
 box:w'.heap[wb]?=V (Ae #[vl,vb,vk,ve',vm'] 77 (0,0))
 re:w'.ownsRow B 41 1 ve' (Z (ev++ev')) ((ev++ev').map (·.1))
 rm:w'.ownsRow B 3 1 vm' (Z (ev++ev')) ((ev++ev').map fun e=>O Ai (-1-(e.2.1:Ak)))
 all:∀e∈ev',w'.ownsRow B 44 3 e.1 e.2.2 (M.sg e.2.1 e.2.2)/\e.2.1<=Z ev/\e.2.2<=n+3
 fe:∀k,ve'.ownBlock=V k->ve.ownBlock=V k\/w.heap.size<=k
 fm:∀k,vm'.ownBlock=V k->vm.ownBlock=V k\/w.heap.size<=k
 fa:∀e∈ev',∀k,e.1.ownBlock=V k->va.ownBlock=V k\/w.heap.size<=k
 turn:Turn w w' (fun k=>k=wb\/ve.ownBlock=V k\/vm.ownBlock=V k\/va.ownBlock=V k)
abbrev Hx4 (a b c d e f g h i):=Ae #[X a b c,X d (b+1) e,X f (b+2) g,X h (b+3) i] 41
theorem zb9 {Q:Ad}{vl vb vk ve vm:Aj}{b:A (Aj×Ad×Ad)}(d:Br Eu)(n f:Ad)(xs:A Aj)(az:w.heap[Q]?=V (Ae #[vl,vb,vk,ve,vm] 77 (0,0)))(aB:w.ownsRow B 41 1 ve (Z b) (b.map (·.1)))(aC:w.ownsRow B 3 1 vm (Z b) (b.map fun e=>O Ai (-1-(e.2.1:Ak))))(hr:w.ownsRow B 44 3 (X d n f) n xs)(hB:B<=w.heap.size)(bF:Z b<=100000000)(hn:n<=1000000000):Am prog 66 #[Al (V ⟨Q,0,S⟩),(X d n f)] w fun e w'=>e=Af (Cm #[])/\∃ev' ve' vm',M.Post w w' Q B vl vb vk ve vm (X d n f) b n ev' ve' vm':=by
 obtain⟨i0,hi,aD,aE,aF⟩:=Ej m9;obtain⟨i1,hj,bs,bt,bu⟩:=Ej zkC;obtain⟨i2,a,bv,bw,bx⟩:=Ej ip;obtain⟨e1,e2,rfl⟩:=zL aB;obtain⟨k1,k2,rfl⟩:=zL aC;obtain⟨K,hK⟩:∃K,Y (K=Z b / 4):=⟨_,rfl⟩;have bj:Y (-1-(Z b:Ak) / 4 = -1-(K:Ak)):=by show _=_;have:=hK.o;omega
 have q3:=cbi 3 az;have gM:=hid (Ac w (Ae #[O Ai (-1-(K:Ak)),I ⟨#[]⟩,I ⟨#[]⟩] 44) S);have aJ:=hid (zE az gM.o);have aS:=hid (Ao aB (Ae #[O Ai (-1-(K:Ak)),I ⟨#[]⟩,I ⟨#[]⟩] 44));have aT:=hid (Ao aC (Ae #[O Ai (-1-(K:Ak)),I ⟨#[]⟩,I ⟨#[]⟩] 44));have HR:=hid (Ao hr (Ae #[O Ai (-1-(K:Ak)),I ⟨#[]⟩,I ⟨#[]⟩] 44));have HM:Y ((w.alloc (Ae #[O Ai (-1-(K:Ak)),I ⟨#[]⟩,I ⟨#[]⟩] 44)).heap[w.heap.size]?=V (Ae #[O Ai (-1-(K:Ak)),I ⟨#[]⟩,I ⟨#[]⟩] 44)):=Bn _ _;have a8:Z xs=n*3:=hr.1;have r:Y (∀g,(X d n f).ownBlock=V g->g<w.heap.size):=fun g hg=>(An hr g hg).2
 go_in;go_wp2_with fail;rw[bj.o];have v:Y (Turn (w.alloc (Ae #[O Ai (-1-(K:Ak)),I ⟨#[]⟩,I ⟨#[]⟩] 44)) (w.alloc (Ae #[O Ai (-1-(K:Ak)),I ⟨#[]⟩,I ⟨#[]⟩] 44)) (fun k=>(X d n f).ownBlock=V k)):=Turn.refl _ _;have af:=J (HR);have bM:w.heap.size<(w.alloc (Ae #[O Ai (-1-(K:Ak)),I ⟨#[]⟩,I ⟨#[]⟩] 44)).heap.size:=by simp
 generalize w.alloc (Ae #[O Ai (-1-(K:Ak)),I ⟨#[]⟩,I ⟨#[]⟩] 44)=wm at*
 go_loopw [6] (fun iv wr=>∃i:Ad,i<=n/\iv=O Ai i/\Y (wr.ownsRow B 44 3 (X d n f) n (mH K i xs))/\Y (Turn wm wr (fun k=>(X d n f).ownBlock=V k))) (fun iv _=>n-(intOf iv).toNat)
 ·exact⟨0,Ax _,rfl,af,v⟩
 ·
  obtain⟨i,br,rfl,p,ai⟩:=hrel;have ab:=hid (ai.o.keep HM.o (fun c=>by have:=r.o _ c;omega));have m0:=cbi 0 ab.o;have m1:=cbi 1 ab.o;have m2:=cbi 2 ab.o
  by_cases bA:i<n
  ·have bG:(i:Ak)<n:=by omega
   obtain⟨g,gc,q1,_,_⟩:=Bm p.o (by omega);simp only[Au,Fb] at q1;obtain⟨rfl,rfl⟩:=q1;have bz:=zdJ (j:=K) a8 br;obtain⟨x0,c0⟩:∃u,wr.cell? ⟨g,i*3,S⟩=V u:=⟨_,by rw[Ap p.o _ (by omega)];exact Bd (by omega)⟩;obtain⟨x1,c1⟩:∃u,wr.cell? ⟨g,i*3+1,S⟩=V u:=⟨_,by rw[Ap p.o _ (by omega)];exact Bd (by omega)⟩;obtain⟨x2,c2⟩:∃u,wr.cell? ⟨g,i*3+2,S⟩=V u:=⟨_,by rw[Ap p.o _ (by omega)];exact Bd (by omega)⟩;have f0:wr.frozen? ⟨g,i*3,S⟩=false:=Nz p.o _;have f1:wr.frozen? ⟨g,i*3+1,S⟩=false:=Nz p.o _;have f2:wr.frozen? ⟨g,i*3+2,S⟩=false:=Nz p.o _;obtain⟨s0,g0⟩:=Ol p.o (i*3) (O Ai (-1-(K:Ak)));obtain⟨s1,g1⟩:=Ol s0 (i*3+1) (I ⟨#[]⟩);obtain⟨s2,g2⟩:=Ol s1 (i*3+2) (I ⟨#[]⟩);rw[zdK a8 bA] at s2;have ao:=hid s2;have x:=hid (((ai.o.step g0 (fun k a=>Ay (by rw[<-a];rfl))).step g1 (fun k a=>Ay (by rw[<-a];rfl))).step g2 (fun k a=>Ay (by rw[<-a];rfl)));go_wp2_with fail
   go_roundw
   ·exact⟨i+1,by omega,by go_num,ao,x⟩
   ·simp[intOf];omega
  ·have bq:n=i:=by omega
   subst bq;have af:Y (wr.ownsRow B 44 3 (X d (n+0) f) (n+0) (M.sg K (n+0))):=by
    have h:=p.o;unfold mH at h;rw[Ga (by omega),Cv] at h;exact h
   have v:=hid ai.o;have aG:=hid (Ao af.o (Ae #[O Ai (-1-(K:Ak)),I ⟨#[]⟩,I ⟨#[]⟩] 44));have aK:Y (∀j u,(M.sg K 1)[j]?=V u->(wr.alloc (Ae #[O Ai (-1-(K:Ak)),I ⟨#[]⟩,I ⟨#[]⟩] 44)).cell? ((⟨wr.heap.size,0,S⟩:Eu).add j)=V u):=zZ wr #[_,_,_] _ _ rfl;have a9:B<=(wr.alloc (Ae #[O Ai (-1-(K:Ak)),I ⟨#[]⟩,I ⟨#[]⟩] 44)).heap.size:=by have:=v.o.size;simp;omega
   have bc:w.heap.size<=(wr.alloc (Ae #[O Ai (-1-(K:Ak)),I ⟨#[]⟩,I ⟨#[]⟩] 44)).heap.size:=by have:=v.o.size;simp;omega
   have bC:0<=1:=by omega
   have bn:n+1<=1000000000000:=by omega
   go_wp2_with (at_builtin;refine @vZ _ _ _ _ _ _ rfl (.tmp 29) (.tmp 31) rfl B w.heap.size i0 hi aD aE aF d f K n 0 1 rfl aG.o ⟨wr.heap.size,0,S⟩ rfl aK.o bC (Vn _) bn a9 bc ?_);intro v1 w1 p1 hh;obtain⟨bH,a5,aY,aX⟩:=hh.o;have gA:=Ac wr (Ae #[O Ai (-1-(K:Ak)),I ⟨#[]⟩,I ⟨#[]⟩] 44) (X d n f).ownBlock;have aR:=hid a5;have bk:=hid aY;have ah:=hid ((v.o.step gA (fun k a=>Ay a)).step aX (fun k a=>Ay a));have al:=hid (ah.o.keep HM.o (fun c=>by have:=r.o _ c;omega));have m0:=cbi 0 al.o;have m1:=cbi 1 al.o;have m2:=cbi 2 al.o;have aH:=hid (Ao aR.o (Ae #[O Ai (-1-(K:Ak)),I ⟨#[]⟩,I ⟨#[]⟩,O Ai (-1-(K:Ak)),I ⟨#[]⟩,I ⟨#[]⟩] 44));have aL:Y (∀j u,(M.sg K 2)[j]?=V u->(w1.alloc (Ae #[O Ai (-1-(K:Ak)),I ⟨#[]⟩,I ⟨#[]⟩,O Ai (-1-(K:Ak)),I ⟨#[]⟩,I ⟨#[]⟩] 44)).cell? ((⟨w1.heap.size,0,S⟩:Eu).add j)=V u):=zZ w1 #[_,_,_,_,_,_] _ _ rfl;have ba:B<=(w1.alloc (Ae #[O Ai (-1-(K:Ak)),I ⟨#[]⟩,I ⟨#[]⟩,O Ai (-1-(K:Ak)),I ⟨#[]⟩,I ⟨#[]⟩] 44)).heap.size:=by have:=ah.o.size;simp;omega
   have bd:w.heap.size<=(w1.alloc (Ae #[O Ai (-1-(K:Ak)),I ⟨#[]⟩,I ⟨#[]⟩,O Ai (-1-(K:Ak)),I ⟨#[]⟩,I ⟨#[]⟩] 44)).heap.size:=by have:=ah.o.size;simp;omega
   have bD:p1<=2:=by omega
   have bo:n+2<=1000000000000:=by omega
   go_wp2_with (at_builtin;refine @vZ _ _ _ _ _ _ rfl (.tmp 33) (.tmp 36) rfl B w.heap.size i0 hi aD aE aF d f K n p1 2 rfl aH.o ⟨w1.heap.size,0,S⟩ rfl aL.o bD (Vn _) bo ba bd ?_);intro v2 w2 p2 hh;obtain⟨bB,bI,a6,aZ,aA⟩:=hh.o;have gA:=Ac w1 (Ae #[O Ai (-1-(K:Ak)),I ⟨#[]⟩,I ⟨#[]⟩,O Ai (-1-(K:Ak)),I ⟨#[]⟩,I ⟨#[]⟩] 44) (X d n f).ownBlock;have ao:=hid a6;have bm:=hid aZ;have bl:=hid ((bk.o.step r.o gA (Aq _)).step r.o aA bB);have x:=hid ((ah.o.step gA (fun k a=>Ay a)).step aA (fun k a=>Ay a));have am:=hid (x.o.keep HM.o (fun c=>by have:=r.o _ c;omega));have m0:=cbi 0 am.o;have m1:=cbi 1 am.o;have m2:=cbi 2 am.o;have aI:=hid (Ao ao.o (Ae #[O Ai (-1-(K:Ak)),I ⟨#[]⟩,I ⟨#[]⟩,O Ai (-1-(K:Ak)),I ⟨#[]⟩,I ⟨#[]⟩,O Ai (-1-(K:Ak)),I ⟨#[]⟩,I ⟨#[]⟩] 44));have aM:Y (∀j u,(M.sg K 3)[j]?=V u->(w2.alloc (Ae #[O Ai (-1-(K:Ak)),I ⟨#[]⟩,I ⟨#[]⟩,O Ai (-1-(K:Ak)),I ⟨#[]⟩,I ⟨#[]⟩,O Ai (-1-(K:Ak)),I ⟨#[]⟩,I ⟨#[]⟩] 44)).cell? ((⟨w2.heap.size,0,S⟩:Eu).add j)=V u):=zZ w2 #[_,_,_,_,_,_,_,_,_] _ _ rfl;have bb:B<=(w2.alloc (Ae #[O Ai (-1-(K:Ak)),I ⟨#[]⟩,I ⟨#[]⟩,O Ai (-1-(K:Ak)),I ⟨#[]⟩,I ⟨#[]⟩,O Ai (-1-(K:Ak)),I ⟨#[]⟩,I ⟨#[]⟩] 44)).heap.size:=by have:=x.o.size;simp;omega
   have be:w.heap.size<=(w2.alloc (Ae #[O Ai (-1-(K:Ak)),I ⟨#[]⟩,I ⟨#[]⟩,O Ai (-1-(K:Ak)),I ⟨#[]⟩,I ⟨#[]⟩,O Ai (-1-(K:Ak)),I ⟨#[]⟩,I ⟨#[]⟩] 44)).heap.size:=by have:=x.o.size;simp;omega
   have bE:p2<=3:=by omega
   have bp:n+3<=1000000000000:=by omega
   go_wp2_with (at_builtin;refine @vZ _ _ _ _ _ _ rfl (.tmp 38) (.tmp 42) rfl B w.heap.size i0 hi aD aE aF d f K n p2 3 rfl aI.o ⟨w2.heap.size,0,S⟩ rfl aM.o bE (Vn _) bp bb be ?_);intro v3 w3 p3 hh;obtain⟨a4,bJ,a7,a0,ap⟩:=hh.o;have gA:=Ac w2 (Ae #[O Ai (-1-(K:Ak)),I ⟨#[]⟩,I ⟨#[]⟩,O Ai (-1-(K:Ak)),I ⟨#[]⟩,I ⟨#[]⟩,O Ai (-1-(K:Ak)),I ⟨#[]⟩,I ⟨#[]⟩] 44) (X d n f).ownBlock;have ag:=hid a7;have aQ:=hid a0;have aO:=hid ((bl.o.step r.o gA (Aq _)).step r.o ap a4);have aP:=hid ((bm.o.step r.o gA (Aq _)).step r.o ap a4);have y:=hid ((x.o.step gA (fun k a=>Ay a)).step ap (fun k a=>Ay a));have an:=hid (y.o.keep HM.o (fun c=>by have:=r.o _ c;omega));have m0:=cbi 0 an.o;have m1:=cbi 1 an.o;have m2:=cbi 2 an.o;obtain⟨aw,bf⟩:=aO.o.row ag.o;obtain⟨ax,bg⟩:=aP.o.row ag.o;obtain⟨ay,bh⟩:=aQ.o.row ag.o;have aU:w3.ownsRow B 44 3 (X d n f) n (M.sg K n):=by
    have h:=fp ag.o (m:=n)
    rwa[dF _ _ _ (by omega)] at h
   obtain⟨a1,c1,rfl⟩:=zL aw;obtain⟨a2,c2,rfl⟩:=zL ax;obtain⟨a3,c3,rfl⟩:=zL ay;have aa:Y (∀e∈([(X d n f,K,n),(X a1 (n+1) c1,K,n+1),(X a2 (n+2) c2,K,n+2),(X a3 (n+3) c3,K,n+3)]:A (Aj×Ad×Ad)),w3.ownsRow B 44 3 e.1 e.2.2 (M.sg e.2.1 e.2.2)/\(e.2.1=K/\e.2.2<=n+3)/\∀k,e.1.ownBlock=V k->(X d n f).ownBlock=V k\/w.heap.size<=k):=fun e he=>by
    simp only[En,Ge,Mn] at he;rcases he with rfl|rfl|rfl|rfl
    ·exact⟨aU,⟨rfl,by dsimp only;omega⟩,fun k a=>Ay a⟩
    ·exact⟨aw,⟨rfl,by dsimp only;omega⟩,bf⟩
    ·exact⟨ax,⟨rfl,by dsimp only;omega⟩,bg⟩
    ·exact⟨ay,⟨rfl,by dsimp only;omega⟩,bh⟩
   have s:=hid (y.o.keep aJ.o (fun hF=>zI aJ.o HR.o (by decide) Q hF rfl));have t:=hid (Turn.row aS.o y.o (fun k a hF=>qB HR.o aS.o (by decide) k a hF));have F:=hid (Turn.row aT.o y.o (fun k a hF=>qB HR.o aT.o (by decide) k a hF));have r3:=cbi 3 s.o;have bK:=y.o.size;have ad:Y (∀j u,([X d n f,X a1 (n+1) c1,X a2 (n+2) c2,X a3 (n+3) c3]:A Aj)[j]?=V u->(w3.alloc (Hx4 d n f a1 c1 a2 c2 a3 c3)).cell? ((⟨w3.heap.size,0,S⟩:Eu).add j)=V u):=zZ w3 #[_,_,_,_] _ _ rfl;have ae:Y (∀u∈([X d n f,X a1 (n+1) c1,X a2 (n+2) c2,X a3 (n+3) c3]:A Aj),u.oneCell'=true):=by intro u hu;simp only[En,Ge,Mn] at hu;rcases hu with rfl|rfl|rfl|rfl <;> rfl
   have aq:Y (Z b+4<=Bh):=by show _<=_;unfold Bh;omega
   have aj:Y ((Z b+4)*24<=140737488355328):=by show _<=_;omega
   have ak:Y (B<=(w3.alloc (Hx4 d n f a1 c1 a2 c2 a3 c3)).heap.size):=by show _<=_;simp;omega
   go_wp2_with (at_builtin;refine Ei _ rfl (.tmp 48) (.tmp 53) 75 rfl B 41 i1 _ 1 24 underlying75 hj bs bt bu rfl (by decide) _ _ _ rfl (Ao t.o _) ⟨w3.heap.size,0,S⟩ 4 4 [X d n f,X a1 (n+1) c1,X a2 (n+2) c2,X a3 (n+3) c3] rfl rfl ad.o ae.o (by decide) aq.o aj.o ak.o (w3.heap.size+1) (by simp) ?_);intro g4 c4 w4 z l aV _;have bi:Y (∀k,(X (V ⟨g4,0,S⟩) (Z b+4) c4).ownBlock=V k->(X e1 (Z b) e2).ownBlock=V k\/w.heap.size<=k):=fun k a=>by
    have e:g4=k:=Bc a;rw[<-e];exact aV.imp id (fun h=>by omega)
   generalize(V (⟨g4,0,S⟩:Eu))=b4 at*;have gB:=Ac w3 (Hx4 d n f a1 c1 a2 c2 a3 c3) S;have y4:=zw (zE s.o gB) l (zI (zE s.o gB) (Ao t.o _));have m4:=zK (Ao F.o (Hx4 d n f a1 c1 a2 c2 a3 c3)) l (fun k a c=>qB (Ao t.o (Hx4 d n f a1 c1 a2 c2 a3 c3)) (Ao F.o (Hx4 d n f a1 c1 a2 c2 a3 c3)) (by decide) k a c);have r4:=cbi 3 y4;have f4:=zm9 3 y4;have gS:=zF w4 Q 3 (X b4 (Z b+4) c4);have E:=hid (zH (i:=3) y4 (X b4 (Z b+4) c4));have av:=hid (zJ z gS (zI y4 z));have H:=hid (zJ m4 gS (zI y4 m4));have ar:Y (Turn w3 (w4.setCell ⟨Q,3,S⟩ (X b4 (Z b+4) c4)) (fun k=>k=Q\/(X e1 (Z b) e2).ownBlock=V k\/(X k1 (Z b) k2).ownBlock=V k)):=(((Turn.refl w3 _).step gB (fun k a=>by cases a)).step l (fun k a=>Ay (Bf (Ay a)))).step gS (fun k a=>Ay (Ay (Bc a).symm));go_upto_region 10 with fail;generalize(w4.setCell ⟨Q,3,S⟩ (X b4 (Z b+4) c4))=w5 at*;have r5:=cbi 4 E.o;have bL:=ar.o.size;have ad:Y (∀j u,([O Ai (-1-(K:Ak)),O Ai (-1-(K:Ak)),O Ai (-1-(K:Ak)),O Ai (-1-(K:Ak))]:A Aj)[j]?=V u->(w5.alloc (Ae #[O Ai (-1-(K:Ak)),O Ai (-1-(K:Ak)),O Ai (-1-(K:Ak)),O Ai (-1-(K:Ak))] 3)).cell? ((⟨w5.heap.size,0,S⟩:Eu).add j)=V u):=zZ w5 #[_,_,_,_] _ _ rfl;have ae:Y (∀u∈([O Ai (-1-(K:Ak)),O Ai (-1-(K:Ak)),O Ai (-1-(K:Ak)),O Ai (-1-(K:Ak))]:A Aj),u.oneCell'=true):=by intro u hu;simp only[En,Ge,Mn] at hu;rcases hu with rfl|rfl|rfl|rfl <;> rfl
   have aj:Y ((Z b+4)*8<=140737488355328):=by show _<=_;omega
   have ak:Y (B<=(w5.alloc (Ae #[O Ai (-1-(K:Ak)),O Ai (-1-(K:Ak)),O Ai (-1-(K:Ak)),O Ai (-1-(K:Ak))] 3)).heap.size):=by show _<=_;simp;omega
   go_wp2_with (at_builtin;refine Ei _ rfl (.tmp 61) (.tmp 66) 55 rfl B 3 i2 _ 1 8 underlying55 a bv bw bx rfl (by decide) _ _ _ rfl (Ao H.o _) ⟨w5.heap.size,0,S⟩ 4 4 [O Ai (-1-(K:Ak)),O Ai (-1-(K:Ak)),O Ai (-1-(K:Ak)),O Ai (-1-(K:Ak))] rfl rfl ad.o ae.o (by decide) aq.o aj.o ak.o (w5.heap.size+1) (by simp) ?_);intro g6 c6 w6 C o aW _;have gB:=Ac w5 (Ae #[O Ai (-1-(K:Ak)),O Ai (-1-(K:Ak)),O Ai (-1-(K:Ak)),O Ai (-1-(K:Ak))] 3) S;have y6:=zw (zE E.o gB) o (zI (zE E.o gB) (Ao H.o _));have v6:=zK (Ao av.o (Ae #[O Ai (-1-(K:Ak)),O Ai (-1-(K:Ak)),O Ai (-1-(K:Ak)),O Ai (-1-(K:Ak))] 3)) o (fun k a c=>qB (Ao H.o (Ae #[O Ai (-1-(K:Ak)),O Ai (-1-(K:Ak)),O Ai (-1-(K:Ak)),O Ai (-1-(K:Ak))] 3)) (Ao av.o (Ae #[O Ai (-1-(K:Ak)),O Ai (-1-(K:Ak)),O Ai (-1-(K:Ak)),O Ai (-1-(K:Ak))] 3)) (by decide) k a c);have r6:=cbi 4 y6;have f6:=zm9 4 y6;have gS:=zF w6 Q 4 (X (V ⟨g6,0,S⟩) (Z b+4) c6);have au:Y (Turn w3 (w6.setCell ⟨Q,4,S⟩ (X (V ⟨g6,0,S⟩) (Z b+4) c6)) (fun k=>k=Q\/(X e1 (Z b) e2).ownBlock=V k\/(X k1 (Z b) k2).ownBlock=V k)):=((ar.o.step gB (fun k a=>by cases a)).step o (fun k a=>Ay (Bf (Bf a)))).step gS (fun k a=>Ay (Ay (Bc a).symm));have aN:Y (∀e∈([(X d n f,K,n),(X a1 (n+1) c1,K,n+1),(X a2 (n+2) c2,K,n+2),(X a3 (n+3) c3,K,n+3)]:A (Aj×Ad×Ad)),(w6.setCell ⟨Q,4,S⟩ (X (V ⟨g6,0,S⟩) (Z b+4) c6)).ownsRow B 44 3 e.1 e.2.2 (M.sg e.2.1 e.2.2)):=fun e he=>by
    have N:=(aa.o e he).1;refine Turn.row N au.o (fun k a hF=>?_);rcases hF with q|q|q
    ·exact zI s.o N (by decide) k a q
    ·exact qB N t.o (by decide) k q a
    ·exact qB N F.o (by decide) k q a
   have HP:Y (M.Post w (w6.setCell ⟨Q,4,S⟩ (X (V ⟨g6,0,S⟩) (Z b+4) c6)) Q B vl vb vk (X e1 (Z b) e2) (X k1 (Z b) k2) (X d n f) b n [(X d n f,K,n),(X a1 (n+1) c1,K,n+1),(X a2 (n+2) c2,K,n+2),(X a3 (n+3) c3,K,n+3)] (X b4 (Z b+4) c4) (X (V ⟨g6,0,S⟩) (Z b+4) c6)):=⟨rfl,zH (i:=4) y6 _,by rw[Ah,Ef];exact zJ v6 gS (zI y6 v6),by rw[Ah,Ef];exact zJ C gS (zI y6 C),fun e he=>⟨aN.o e he,by rw[((aa.o e he).2.1).1,hK.o];omega,((aa.o e he).2.1).2⟩,bi.o,fun k a=>by
    have e:g6=k:=Bc a;rw[<-e];exact aW.imp id (fun h=>by omega),fun e he=>(aa.o e he).2.2,((Turn.of_grown gM.o).trans y.o (fun _ h=>h) (fun k a=>Bf (Bf (Bf a)))).trans au.o (fun _ h=>h) (fun k a=>a.elim Ay (fun q=>q.elim (fun q=>Bf (Ay q)) (fun q=>Bf (Bf (Ay q)))))⟩
   go_wp2
   go_end0
   exact⟨rfl,_,_,_,HP.o⟩
structure L.R (w:Ag) (wb B:Ad) (vl:Aj) (es ev:A (Aj×Ad×Ad)):Prop where
 ex:∃vb vk ve vm,w.heap[wb]?=V (Ae #[vl,vb,vk,ve,vm] 77 (0,0))/\w.ownsRow B 32 1 vb (Z es) (es.map (·.1))/\w.ownsRow B 3 1 vk (Z es) (es.map fun e=>O Ai (e.2.1:Ad))/\w.ownsRow B 41 1 ve (Z ev) (ev.map (·.1))/\w.ownsRow B 3 1 vm (Z ev) (ev.map fun e=>O Ai (-1-(e.2.1:Ak)))/\∀k,vk.ownBlock=V k->vm.ownBlock≠V k
 all:∀e∈es,w.ownsRow B 5 1 e.1 e.2.2 (L.sg e.2.1 0 e.2.2)
 evs:∀e∈ev,w.ownsRow B 44 3 e.1 e.2.2 (M.sg e.2.1 e.2.2)
 low:B<=wb
 bd:∀e∈es++ev,e.2.1<1000000000000/\e.2.2<1000000000000
theorem L.R.keep {b d:A (Aj×Ad×Ad)}(h:L.R w i B g b d)(f:w.grownBy w' S):L.R w' i B g b d:=by
 obtain⟨r,u,t,x,j,k,l,m,o,p⟩:=h.ex;have a:∀{e:TypeId} {s:Ad} {v:Aj} {n:Ad} {xs:A Aj},w.ownsRow B e s v n xs->w'.ownsRow B e s v n xs:=fun q=>zK q f (fun _ _ c=>by cases c)
 exact⟨⟨r,u,t,x,zE j f,a k,a l,a m,a o,p⟩,fun e he=>a (h.all e he),fun e he=>a (h.evs e he),h.low,h.bd⟩
theorem M.at (j m i c:Ad)(h:i<m)(a:c<3:=by omega):(M.sg j m)[i*3+c]?=(M.ev j)[c]?:=by
 induction m generalizing i with
 |zero=>omega
 |succ m ih=>
  show(M.ev j++M.sg j m)[i*3+c]?=_
  cases i with
  |zero=>rw[Cx (by show _<3;omega)];congr 1;omega
  |succ i=>
   rw[Cl (by show 3<=_;omega),show(i+1)*3+c-Z (M.ev j)=i*3+c by show _-3=_;omega];exact ih i (by omega)
theorem nC {wb:Ad}{vl:Aj}{g l:A (Aj×Ad×Ad)}(h:L.R w wb B vl g l)(al:Z g<=1000000000:=by omega)(am:Z l<=1000000000:=by omega):Am prog 39 #[Al (V ⟨wb,0,S⟩)] w fun e w'=>e=Af (Av true)/\w.grownBy w' S:=by
 have H0:=J (h);have HK:=J (h.bd);go_in;go_wp2_with fail
 go_loopw [3] (fun iv wr=>∃i:Ad,i<=Z g/\iv=O Ai i/\Y (w.grownBy wr S)) (fun iv _=>Z g-(intOf iv).toNat)
 ·exact⟨0,Ax _,rfl,zP _ _⟩
 ·
  obtain⟨i,an,rfl,N⟩:=hrel;obtain⟨vb,vk,ve,vm,o,z,E,C,F,_⟩:=(H0.o.keep N.o).ex;obtain⟨x1,x2,rfl⟩:=zL C;obtain⟨y1,y2,rfl⟩:=zL F;obtain⟨b1,b2,rfl⟩:=zL z;obtain⟨k1,k2,rfl⟩:=zL E;have q1:=cbi 1 o;have q3:=cbi 3 o;have H:=hid o;have aa:=hid C;have ad:=hid F;have Q:=J z;have ab:=J E
  by_cases q:i<Z g
  ·have ai:(i:Ak)<Z g:=by omega
   obtain⟨gb,af,e1,_,_⟩:=Bm Q.o (by omega);simp only[Au,Fb] at e1;obtain⟨rfl,rfl⟩:=e1;obtain⟨gk,ag,e2,_,_⟩:=Bm ab.o (by omega);simp only[Au,Fb] at e2;obtain⟨rfl,rfl⟩:=e2;have s:wr.cell? ⟨gb,i,S⟩=V g[i].1:=by
    have h:=Ap Q.o i (by omega);rw[h];simp[q]
   have ck:wr.cell? ⟨gk,i,S⟩=V (O Ai (g[i].2.1:Ad)):=by
    have h:=Ap ab.o i (by omega);rw[h];simp[q]
   have b:=H0.o.all g[i] (Cr q);have y:=HK.o g[i] (Mo _ (Cr q));generalize g[i]=en at*;obtain⟨v,r,n⟩:=en;simp only at s ck b y;obtain⟨va,vc,rfl⟩:=zL b;have d:=J (b);generalize wr=wo at*;go_wp2_with fail
   go_loopw [4] (fun kv wz=>∃k:Ad,k<=n/\kv=O Ai k/\Y (wo.grownBy wz S)) (fun kv _=>n-(intOf kv).toNat)
   ·exact⟨0,Ax _,rfl,zP _ _⟩
   ·
    obtain⟨k,ak,rfl,a⟩:=hrel;have z1:=a.o.cell q1 (by simp);have z2:wr.cell? ⟨wb,2,S⟩=V (X (V ⟨gk,0,S⟩) (Z g) k2):=a.o.cell (zB H.o) (by simp);have z3:=a.o.cell s (by simp);have z4:=a.o.cell ck (by simp)
    by_cases m:k<n
    ·have x:(k:Ak)<n:=by omega
     obtain⟨gv,ah,e3,_,_⟩:=Bm d.o (by omega);simp only[Au,Fb] at e3;obtain⟨rfl,rfl⟩:=e3;have z5:wr.cell? ⟨gv,k,S⟩=V (O Bp (xR r k:Ad)):=by
      have h:=Ap (zK (zK d.o N.o (fun _ _ c=>by cases c)) a.o (fun _ _ c=>by cases c)) k (by omega);rw[h];unfold L.sg;simp[m]
     have ae:Y (∀W,Am prog 65 #[O Ai r,O Ai k] W fun e w'=>e=Af (O Bp (xR r k:Ad))/\w'=W):=fun W=>fX r k W
     go_wp2_with fail;go_quiet ((go_at_call 65;exact Calls.quiet_of_same (ae.o _)));go_wp2_with fail;exact⟨⟨k+1,by omega,by go_num,zD a.o (x3 _ _)⟩,by simp[intOf];omega⟩
    ·have x:¬(k:Ak)<n:=by omega
     have t:=J (zD N.o a.o);go_wp2_with fail
     go_roundw
     ·exact⟨i+1,by omega,by go_num,t⟩
     ·simp[intOf];omega
  ·have ai:¬(i:Ak)<Z g:=by omega
   generalize wr=wo at*;go_wp2_with fail
   go_loopw [5] (fun jv wz=>∃j:Ad,j<=Z l/\jv=O Ai j/\Y (wo.grownBy wz S)) (fun jv _=>Z l-(intOf jv).toNat)
   ·exact⟨0,Ax _,rfl,zP _ _⟩
   ·
    obtain⟨j,ao,rfl,a⟩:=hrel;have z1:=a.o.cell q3 (by simp)
    by_cases p:j<Z l
    ·have aj:(j:Ak)<Z l:=by omega
     obtain⟨gb,af,e1,_,_⟩:=Bm aa.o (by omega);simp only[Au,Fb] at e1;obtain⟨rfl,rfl⟩:=e1;obtain⟨gk,ag,e2,_,_⟩:=Bm ad.o (by omega);simp only[Au,Fb] at e2;obtain⟨rfl,rfl⟩:=e2;have s:wr.cell? ⟨gb,j,S⟩=V l[j].1:=a.o.cell (by
      have h:=Ap aa.o j (by omega);rw[h];simp[p]) (by simp)
     have ck:wr.cell? ⟨gk,j,S⟩=V (O Ai (-1-(l[j].2.1:Ak))):=a.o.cell (by
      have h:=Ap ad.o j (by omega);rw[h];simp[p]) (by simp)
     have b:=(H0.o.keep (zD N.o a.o)).evs l[j] (Cr p);have z2:wr.cell? ⟨wb,4,S⟩=V (X (V ⟨gk,0,S⟩) (Z l) y2):=a.o.cell (zB H.o) (by simp);have y:=HK.o l[j] (Mh _ (Cr p));generalize l[j]=en at*;obtain⟨v,r,n⟩:=en;simp only at s ck b y;obtain⟨va,vc,rfl⟩:=zL b;have d:=hid b;generalize wr=wp at*;go_wp2_with fail
     go_loopw [6] (fun kv wz=>∃k:Ad,k<=n/\kv=O Ai k/\Y (wp.grownBy wz S)) (fun kv _=>n-(intOf kv).toNat)
     ·exact⟨0,Ax _,rfl,zP _ _⟩
     ·
      obtain⟨k,ak,rfl,f⟩:=hrel;have u1:=f.o.cell z1 (by simp);have u2:=f.o.cell z2 (by simp);have u3:=f.o.cell s (by simp);have u4:=f.o.cell ck (by simp)
      by_cases m:k<n
      ·have x:(k:Ak)<n:=by omega
       obtain⟨gv,ah,e3,_,_⟩:=Bm d.o (by omega);simp only[Au,Fb] at e3;obtain⟨rfl,rfl⟩:=e3;have u:=hid (zK d.o f.o (fun _ _ c=>by cases c));have t0:wr.cell? ⟨gv,k*3,S⟩=V (O Ai (-1-(r:Ak))):=(Ap u.o _ (by omega)).trans (M.at r n k 0 m);have t1:wr.cell? ⟨gv,k*3+1,S⟩=V (I ⟨#[]⟩):=(Ap u.o _ (by omega)).trans (M.at r n k 1 m);have t2:wr.cell? ⟨gv,k*3+2,S⟩=V (I ⟨#[]⟩):=(Ap u.o _ (by omega)).trans (M.at r n k 2 m);go_wp2_with fail;go_quiet (fail);go_wp2_with fail;exact⟨⟨k+1,by omega,by go_num,zD f.o (x3 _ _)⟩,by simp[intOf];omega⟩
      ·have x:¬(k:Ak)<n:=by omega
       have t:=J (zD a.o f.o);go_wp2_with fail
       go_roundw
       ·exact⟨j+1,by omega,by go_num,t⟩
       ·simp[intOf];omega
    ·have aj:¬(j:Ak)<Z l:=by omega
     have HF:=hid (zD N.o a.o);go_wp2;go_ret;exact⟨rfl,HF.o⟩
theorem nh (s:ByteArray)(w:Ag)(n:s.size<=Bh):Am prog 316 #[I s] w fun e w'=>e=Af (Av (zm s.data.toList))/\w'=w:=by
 unfold Bh at n;go_in;go_wp2
 go_loop [3] (fun i=>∃k:Ad,k<=s.size/\i=O Ai k/\Y (Ec Ck (s.data.toList.take k)=true)) (fun i=>s.size-(intOf i).toNat)
 ·exact⟨0,Ax _,rfl,rfl⟩
 ·
  obtain⟨k,p,rfl,f⟩:=hrel
  by_cases c:k<s.size
  ·have g:Y (Ck s[k].toNat=false->zm s.data.toList=false):=by
    intro h;unfold zm;rw[R.all_false c h];simp
   have j:Y (Ck s[k].toNat=true->Ec Ck (s.data.toList.take (k+1))=true):=fun h=>R.all_succ c f.o h
   generalize o:s[k]=b at*;go_wp2_with fail;refine(uW _ w).mono ?_;rintro e q ⟨rfl,rfl⟩
   cases hp:Ck b.toNat
   ·have d:=hid (g.o hp)
    go_wp2;go_ret;exact⟨zX d.o.symm,rfl⟩
   ·have a:=hid (j.o hp)
    go_wp2;exact⟨⟨k+1,by omega,by go_num,a⟩,by simp[intOf];omega⟩
  ·have d:Y (zm s.data.toList=(decide (1<=s.size) && decide (s.size<=5))):=by
    show zm s.data.toList=_;unfold zm;rw[R.all_done (by omega) f.o,R.size_eq,Bool.and_true]
    congr 1
    rw[decide_eq_decide,ne_eq,<-Ep,R.size_eq];omega
   by_cases l:1<=s.size
   ·have m:(1:Ak)<=s.size:=by omega
    have a:Y (zm s.data.toList=decide ((s.size:Ak)<=5)):=by
     show _=_;rw[d.o,Cf l,Bool.true_and,decide_eq_decide];omega
    go_wp2;go_ret;exact⟨zX (by rw[a.o]),rfl⟩
   ·have m:¬(1:Ak)<=s.size:=by omega
    have a:Y (zm s.data.toList=false):=by
     show _=_;rw[d.o,Ce l,Bool.false_and]
    go_wp2;go_ret;exact⟨zX (by rw[a.o]),rfl⟩
theorem od (s:ByteArray)(b:Bool)(w:Ag)(r:s.size<=Bh):Am prog 314 #[I s,Av b] w fun e w'=>e=Af (Av (Ec (if b then yX else yG) s.data.toList))/\w'=w:=by
 unfold Bh at r;generalize q:(if b=true then yX else yG)=p;have o:Y (∀c:Ak,p c=(decide ((if b then 32 else 33)<=c) && decide (c<=126))):=fun c=>by subst q;cases b <;> rfl
 go_in;go_wp2
 go_loop [5] (fun i=>∃k:Ad,k<=s.size/\i=O Ai k/\Y (Ec p (s.data.toList.take k)=true)) (fun i=>s.size-(intOf i).toNat)
 ·exact⟨0,Ax _,rfl,rfl⟩
 ·
  obtain⟨k,y,rfl,l⟩:=hrel
  by_cases j:k<s.size
  ·have d:Y (p s[k].toNat=false->Ec p s.data.toList=false):=fun h=>R.all_false j h
   have g:Y (p s[k].toNat=true->Ec p (s.data.toList.take (k+1))=true):=fun h=>R.all_succ j l.o h
   generalize x:s[k]=c at*;have a:=hid (o.o c.toNat);generalize p c.toNat=pc at*
   by_cases u:126<(c.toNat:Ak)
   ·have f:=hid (d.o (by rw[a.o,Ce (show ¬(c.toNat:Ak)<=126 by omega),Bool.and_false]))
    go_wp2;go_ret;exact⟨zX f.o.symm,rfl⟩
   ·by_cases v:(c.toNat:Ak)<32
    ·have f:=hid (d.o (by rw[a.o,Ce (show ¬(if b=true then 32 else 33)<=(c.toNat:Ak) by split <;> omega),Bool.false_and]))
     go_wp2;go_ret;exact⟨zX f.o.symm,rfl⟩
    ·by_cases m:(c.toNat:Ak)=32
     ·cases b
      ·have f:=hid (d.o (by rw[a.o,m];rfl))
       go_wp2;go_ret;exact⟨zX f.o.symm,rfl⟩
      ·have n:=hid (g.o (by rw[a.o,m];rfl))
       go_wp2;exact⟨⟨k+1,by omega,by go_num,n⟩,by simp[intOf];omega⟩
     ·have n:=hid (g.o (by rw[a.o,Cf (show(if b=true then 32 else 33)<=(c.toNat:Ak) by split <;> omega),Cf (show(c.toNat:Ak)<=126 by omega)];rfl))
      have t:((c.toNat:Ak) == 32)=false:=by rw[Ch];exact m
      go_wp2;exact⟨⟨k+1,by omega,by go_num,n⟩,by simp[intOf];omega⟩
  ·have f:=J (R.all_done (by omega) l.o)
   go_wp2;go_ret;exact⟨zX (by rw[f.o]),rfl⟩
theorem aL (l:A Ab)(c:Ab)(k:Ad)(d:k<Z l)(f:∀j (i:j<k),l[j]'(by omega)≠c)(a:l[k]=c):Mf l c=k:=by
 induction l generalizing k with
 |nil=>cases d
 |cons b l ih=>
  unfold Mf
  cases k with
  |zero=>have e:b=c:=a;rw[Az (by rw[e];simp)];rfl
  |succ k=>
   have g:=f 0 (by omega);have h:=ih k (by simpa using d) (fun j i=>f (j+1) (by omega)) a;rw[Aw (by simpa using g),h,Aw (by simp <;> omega)]
   omega
theorem nB (l:A Ab)(c:Ab)(a:∀j (g:j<Z l),l[j]≠c):Mf l c = -1:=by
 induction l with
 |nil=>rfl
 |cons b l ih=>
  unfold Mf;have d:=a 0 (by simp);have f:=ih (fun j g=>a (j+1) (by simp;omega));rw[Aw (by simpa using d),f,Az (by simp)]
theorem mC (l:A Ab)(c:Ab)(w:Ag)(E:Z l<=1000000:=by omega):Am prog 254 #[I (Aa l),O Bp c.toNat] w fun e w'=>e=Af (Cm #[I (Aa (Ca l [c]).1),I (Aa (Ca l [c]).2.1),Av (Ca l [c]).2.2])/\w.grownBy w' S:=by
 have v:=Bz l;have u:=Be l;have m:Y (Ca l [c]=if 0<=Es l [c] then (l.take (Es l [c]).toNat,l.drop ((Es l [c]).toNat+1),true) else (l,[],false)):=rfl;have n:Y (∀k (g:k<Z l),(∀j (hj:j<k),l[j]'(by omega)≠c)->l[k]=c->Es l [c]=k):=fun k g h1 h2=>by rw[<-wC];exact aL l c k g h1 h2
 have p:Y ((∀j (hj:j<Z l),l[j]≠c)->Es l [c] = -1):=fun h=>by rw[<-wC];exact nB l c h
 have o:Y (∀k (g:k<Z l),(Aa l)[k]'(by rw[v];exact g)=l[k]):=fun k g=>rfl
 generalize Ca l [c]=r at*;generalize Es l [c]=ix at*;go_in;go_wp2
 go_loop [7] (fun i=>∃k:Ad,k<=Z l/\i=O Ai k/\Y (∀j (hj:j<k) (hl:j<Z l),l[j]≠c)) (fun i=>Z l-(intOf i).toNat)
 ·exact⟨0,Ax _,rfl,fun j hj=>by cases hj⟩
 ·
  obtain⟨k,g,rfl,d⟩:=hrel
  by_cases b:k<Z l
  ·have B:k<(Aa l).size:=by rw[v];exact b
   have q:=o.o k b
   by_cases f:l[k]=c
   ·have a:=n.o k b (fun j hj=>d.o j hj (by omega)) f
    have s:Y (r=(l.take k,l.drop (k+1),true)):=by show _=_;rw[m.o,a,Az (by omega)];rfl
    have x:(Aa l).extract 0 k=Aa (l.take k):=by rw[kB,Vo,Iw,u]
    have y:(Aa l).extract (k+1) (Z l)=Aa (l.drop (k+1)):=by rw[kB,u,Cc (by rw[Cy];omega)]
    have z:=congrArg UInt8.toNat (q.trans f);clear d a f q;go_wp2
    go_region
    go_wp2
    go_ret3
    exact⟨by rw[s.o];exact eO rfl rfl,zV _⟩
   ·have C:((((Aa l)[k]).toNat:Ak) == (c.toNat:Ak))=false:=by
     rw[q,Ch];intro e;exact f (Hb.1 (by omega))
    have t:Y (∀j (hj:j<k+1) (hl:j<Z l),l[j]≠c):=fun j hj hl=>by
     by_cases e:j=k
     ·subst e;exact f
     ·exact d.o j (by omega) hl
    clear d f q;go_wp2;exact⟨⟨k+1,by omega,by go_num,t⟩,by simp[intOf];omega⟩
  ·have a:=p.o (fun j hj=>d.o j (by omega) hj)
   have s:Y (r=(l,[],false)):=by show _=_;rw[m.o,a];rfl
   clear d a;go_wp2
   go_ret3
   exact⟨by rw[s.o];rfl,zP _ _⟩
def szOf (v:Aj):Ad:=match v with|I s=>s.size|_=>0
theorem pF (l:A Ab):szOf (I (Aa l))=Z l:=Bz l
theorem zh7 (l:A Ab)(k:Ad):(Aa l).extract k (Aa l).size=Aa (l.drop k):=by grind[Aa,wQ,Be,Bz,List.take_of_length_le,List.length_drop,ByteArray.ext,Array.toList_inj]
theorem zh8 (l:A Ab)(k:Ad):(Aa l).extract 0 k=Aa (l.take k):=by
 have h:((Aa l).extract 0 k).data.toList=(Aa (l.take k)).data.toList:=by
  rw[wQ,Be,Be,Iw,Vo]
 exact ByteArray.ext (Array.toList_inj.1 h)
theorem gT (r:A Ab):r=[]\/∃t c,r=t++[c]:=by
 rcases Xk r with h|⟨t,c,h⟩
 ·exact Ay h
 grind
theorem zc2 (l:A Ab):Gh (l++[32]) 32=Gh l 32:=by
 unfold Gh;rw[List.reverse_append]
 rfl
theorem zc3 (l:A Ab)(c:Ab)(h:c≠32):Gh (l++[c]) 32=l++[c]:=by
 unfold Gh
 grind[List.reverse_append,List.dropWhile,List.dropWhile_cons_of_neg,List.reverse_cons,List.reverse_reverse]
theorem se:∀l:A Ab,Gh (Hi l 32) 32=Iq l 32
 |[]=>rfl
 |c::t=>by
  by_cases h:c=32
  ·subst h
   have b:Hi (32::t) 32=Hi t 32:=rfl;rw[b,se t];unfold Iq;have d:Gh (32::t) 32=if Gh t 32=[] then [] else 32::Gh t 32:=by
    unfold Gh;rw[List.reverse_cons,List.dropWhile_append]
    by_cases a:(t.reverse.dropWhile (· == 32))=[]
    ·rw[a];rfl
    ·have f:(t.reverse.dropWhile (· == 32)).isEmpty=false:=by simpa using a
     rw[f,Aw (by simp),Aw (by simpa using a)];simp
   rw[d]
   by_cases a:Gh t 32=[]
   ·rw[Az a,a]
   ·rw[Aw a];rfl
  ·have b:Hi (c::t) 32=c::t:=by
    unfold Hi;rw[Oa (by simpa using h)]
   rw[b];unfold Iq;have d:∃r,Gh (c::t) 32=c::r:=by
    unfold Gh;rw[List.reverse_cons,List.dropWhile_append]
    by_cases a:(t.reverse.dropWhile (· == 32)).isEmpty=true
    ·rw[Az a,Oa (by simpa using h)]
     exact⟨[],rfl⟩
    ·rw[Aw a,List.reverse_append]
     exact⟨_,rfl⟩
   obtain⟨r,g⟩:=d;rw[g];unfold Hi;rw[Oa (by simpa using h)]
theorem og (l:A Ab)(w:Ag)(s:Z l<=1000000):Am prog 315 #[I (Aa l)] w fun e w'=>e=Af (I (Aa (Iq l 32)))/\w'=w:=by
 have v:=hid (se l);go_in
 go_upto_block 0 with fail
 go_cut [0] (fun sv wz=>sv=I (Aa (Hi l 32))/\Y (wz=w))
 ·
  go_wp2_with fail
  go_loopw [0] (fun sv wr=>∃r:A Ab,sv=I (Aa r)/\(Z r)<=1000000/\Y (Hi r 32=Hi l 32)/\wr=w) (fun sv _=>szOf sv)
  ·exact⟨l,rfl,s,rfl,rfl⟩
  ·
   obtain⟨r,rfl,k,d,rfl⟩:=hrel;have u:=Bz r
   cases r with
   |nil=>
    have p:(Aa ([]:A Ab)).size=0:=rfl;go_wp2_with fail
    go_meet
    ·exact⟨by rw[<-d.o];rfl,rfl⟩
   |cons c t=>
    have i:(Aa (c::t)).size=Z t+1:=u;have x:∀h:0<(Aa (c::t)).size,(Aa (c::t))[0]'h=c:=fun _=>rfl
    have j:=zh7 (c::t) 1;rw[i] at j;have f:(c::t).drop 1=t:=rfl;rw[f] at j
    by_cases a:c=32
    ·subst a
     have b:Y (Hi t 32=Hi l 32):=d;go_wp2_with fail
     go_roundw
     ·exact⟨t,rfl,by simp at k;omega,b,by first|rfl|trivial⟩
     ·rw[pF,pF];exact Nat.lt_succ_self _
    ·have g:¬((c.toNat:Ad):Ak)=32:=fun e=>a (Hb.1 (by show c.toNat=32;omega))
     have b:Y (Hi l 32=c::t):=by
      show _=_;rw[<-d.o];unfold Hi;rw[Oa (by simpa using a)]
     go_wp2_with fail
     go_meet
     ·exact⟨by rw[b.o],by first|rfl|trivial⟩
 ·
  obtain⟨rfl,q⟩:=hcut;have o:Z (Hi l 32)<=1000000:=by
   unfold Hi;exact Bi (Xh _).length_le s
  generalize Hi l 32=m at*;generalize wc=w1 at*
  go_upto_block 2 with fail
  go_cut [0] (fun sv wz=>sv=I (Aa (Gh m 32))/\Y (wz=w))
  ·
   go_wp2_with fail
   go_loopw [0] (fun sv wr=>∃r:A Ab,sv=I (Aa r)/\(Z r)<=1000000/\Y (Gh r 32=Gh m 32)/\wr=w1) (fun sv _=>szOf sv)
   ·exact⟨m,rfl,o,rfl,rfl⟩
   ·
    obtain⟨r,rfl,k,d,rfl⟩:=hrel;rcases gT r with rfl|⟨t,c,rfl⟩
    ·have p:(Aa ([]:A Ab)).size=0:=rfl
     go_wp2_with fail
     go_meet
     ·exact⟨by rw[<-d.o];rfl,q⟩
    ·have i:(Aa (t++[c])).size=Z t+1:=by rw[Bz,Ah];rfl
     have x:∀h:Z t<(Aa (t++[c])).size,(Aa (t++[c]))[Z t]'h=c:=fun h=>by
      show(t++[c])[Z t]'(by simp)=c;simp
     have j:=zh8 (t++[c]) (Z t);have f:(t++[c]).take (Z t)=t:=by simp
     rw[f] at j;have y:Z t+1<=1000000:=by simpa using k
     by_cases a:c=32
     ·subst a
      have b:Y (Gh t 32=Gh m 32):=(zc2 t).symm.trans d.o;generalize t++[32]=tt at*;go_wp2_with fail
      go_roundw
      ·exact⟨t,rfl,by omega,b,by first|rfl|trivial⟩
      ·rw[pF];show _<(Aa tt).size;omega
     ·have g:¬((c.toNat:Ad):Ak)=32:=fun e=>a (Hb.1 (by show c.toNat=32;omega))
      have b:Y (Gh m 32=t++[c]):=d.o.symm.trans (zc3 t c a);generalize t++[c]=tt at*;go_wp2_with fail
      go_meet
      ·exact⟨by rw[b.o],q⟩
  ·
   obtain⟨rfl,n⟩:=hcut;go_wp2;go_ret;exact⟨by rw[v.o];rfl,n.o⟩
def ji (nm:A Ab):Ad->A Hd->Ak
 |_,[]=>-1
 |i,x::r=>if x.1=nm then (i:Ad) else ji nm (i+1) r
def ud (nm:A Ab)(l:A Hd):Ak:=ji nm 0 l
theorem my (a:A Ab):∀(l:A Hd) (i:Ad),(0<=ji a i l)↔xY a l=true
 |[],i=>by
  show(0:Ak)<=-1↔_
  constructor
  ·intro h;omega
  ·intro h;cases h
 |x::r,i=>by
  have b:=my a r (i+1);rw[ji];unfold xY xt at b ⊢;rw[Mp]
  by_cases h:x.1=a
  ·rw[Az h,Az (by simpa using h)]
   constructor
   ·intro _;simp
   ·intro _;omega
  ·rw[Aw h,Aw (by simpa using h)]
   exact b
theorem rT (a:A Ab)(l:A Hd):decide (0<=ud a l)=xY a l:=by
 have h:=my a l 0;rw[Eb,decide_eq_true_iff];exact h
theorem sV (a:A Ab)(l:A Hd){b o:Ad}(u:w.cell? ⟨b,o+2,S⟩=V v)(m:w.ownsRow 0 185 2 v (Z l) (zi l))(y:Z l<=1000000):Am prog 253 #[Al (V ⟨b,o,S⟩),I (Aa a)] w fun e w'=>e=Af (O Ai (ud a l))/\w'=w:=by
 obtain⟨z,B,rfl⟩:=zL m;have n:=hid m;go_in;go_wp2
 go_loop [5] (fun iv=>∃i:Ad,i<=Z l/\iv=O Ai i/\Y (ud a l=ji a i (l.drop i))) (fun iv=>Z l-(intOf iv).toNat)
 ·exact⟨0,Ax _,rfl,rfl⟩
 ·
  obtain⟨i,q,rfl,j⟩:=hrel
  by_cases f:i<Z l
  ·have k:(i:Ak)<Z l:=by omega
   obtain⟨g,s,p,_,_⟩:=Bm n.o (by omega);simp only[Au,Fb] at p;obtain⟨rfl,rfl⟩:=p;have r:w.cell? ⟨g,i*2,S⟩=V (I (Aa l[i].1)):=qY (fun t:Hd=>[I (Aa t.1),I (Aa t.2)]) 2 (fun _=>rfl) n.o (zP _ _) i 0 f (by omega) rfl;have h:=oy l[i].1 a;have c:Y (ud a l=if l[i].1=a then ((i:Ad):Ak) else ji a (i+1) (l.drop (i+1))):=by
    show _=_;rw[j.o,Ed f,ji]
   generalize l[i]=x at*
   by_cases d:x.1=a
   ·rw[Az d] at c
    rw[Cf d] at h;go_wp2;go_ret;exact⟨by rw[c.o];rfl,rfl⟩
   ·rw[Aw d] at c
    rw[Ce d] at h;go_wp2;exact⟨⟨i+1,by omega,by go_num,c⟩,by simp[intOf];omega⟩
  ·have c:Y (ud a l = -1):=by
    show _=_;rw[j.o,Ga (by omega)];rfl
   have k:¬(i:Ak)<Z l:=by omega
   go_wp2;go_ret;exact⟨by rw[c.o];rfl,rfl⟩
theorem fS (l:A Ab)(c:Ab):Z (Ca l [c]).1<=Z l/\(Z (Ca l [c]).2.1)<=Z l:=by
 have e:Ca l [c]=if 0<=Es l [c] then (l.take (Es l [c]).toNat,l.drop ((Es l [c]).toNat+1),true) else (l,[],false):=rfl;rw[e]
 split
 ·simp only[Cq,Cy];omega
 ·exact⟨Aq _,Ax _⟩
theorem zbZ (l:A Ab)(w:Ag)(n:Z l<=1000000):Am prog 317 #[I (Aa l)] w fun e w'=>e=Af (Av (ya l))/\w.grownBy w' S:=by
 have j:Y (ya l=(R.labels (Ca l [58]).1 true && (!(Ca l [58]).2.2 || zm (Ca l [58]).2.1))):=rfl;have f:=hid (mC l 58 w n);obtain⟨k,m⟩:=fS l 58;have b:Y (∀W,Am prog 131 #[I (Aa (Ca l [58]).1),Av true] W fun e w'=>e=Af (Av (R.labels (Ca l [58]).1 true))/\w'=W):=fun W=>by
  have h:=uq (Aa (Ca l [58]).1) true W (by rw[Bz];unfold Bh;omega);rw[Be] at h;exact h
 have a:Y (∀W,Am prog 316 #[I (Aa (Ca l [58]).2.1)] W fun e w'=>e=Af (Av (zm (Ca l [58]).2.1))/\w'=W):=fun W=>by
  have h:=nh (Aa (Ca l [58]).2.1) W (by rw[Bz];unfold Bh;omega);rw[Be] at h;exact h
 generalize ya l=res at*;generalize R.labels (Ca l [58]).1 true=bl at*;generalize zm (Ca l [58]).2.1=bn at*;generalize Ca l [58]=r at*;obtain⟨s,t,o⟩:=r;go_in;go_wp2_with fail;refine f.o.mono ?_;rintro e u ⟨rfl,g⟩;have i:=hid g;go_wp2_with fail;refine(b.o _).mono ?_;rintro e p ⟨rfl,c⟩;obtain rfl:=c.symm;go_wp2_with fail;refine(a.o _).mono ?_;rintro e q ⟨rfl,d⟩;obtain rfl:=d.symm
 cases bl <;> cases o
 all_goals
  go_wp2;go_ret;exact⟨zX (by rw[j.o];try rfl),i.o⟩
theorem zk9:(prog.info? 100).map (fun i=>(i.zero,i.size,i.bytes))=V (V (Al S),1,8):=by kernel_rfl
theorem YInv.more {a:Ad}{p:Cn}(h:YInv w yb B o b y)(x:o.ownBlock=S)(m:HMv w w' yb)
  (r:∃vd vc vs,w'.heap[yb]?=V (Ae #[o,vd,vc,vs] 99 (0,0))/\QRow w' B 60 vd (y'.draws.map drawV)/\w'.ownsRow B 100 1 vc (Z (b++[V a])) ((b++[V a]).map ptrV)/\w'.ownsRow B 44 3 vs (Z y'.sent) (evCells y'.sent))
  (n:y'.conns=y.conns++[V p]) (v:CAt w' a B p) (l:∀k,CF w' a k->w.heap.size<=k):YInv w' yb B o (b++[V a]) y'/\YMv w w' yb b (b++[V a]):=by
 have t:=h.len;have u:∀i cb:Ad,b[i]?=V (V cb)->∀k,CF w cb k->w'.heap[k]?=w.heap[k]?:=fun i cb hi k hk=>by
  obtain⟨c,_,q⟩:=h.here i cb hi;exact m.turn.block k (q.lt hk) (fun hF=>kf (h.hf x hF).2 (q.cf hk).2)
 have g:∀i cb:Ad,b[i]?=V (V cb)->∀k,CF w' cb k->CF w cb k/\k<w.heap.size:=fun i cb hi k hk=>by
  obtain⟨c,_,q⟩:=h.here i cb hi;have:=(q.keep (u i cb hi)).2 k hk;exact⟨this,q.lt this⟩
 have d:∀i cb:Ad,(b++[V a])[i]?=V (V cb)->(i<Z b/\b[i]?=V (V cb))\/(i=Z b/\cb=a):=fun i cb hi=>by
  by_cases f:i<Z b
  ·rw[Cx f] at hi;exact Ay ⟨f,hi⟩
  ·rw[Cl (by omega)] at hi
   have s:=(Bo.1 hi).1;have e:i-Z b=0:=by simpa using s
   rw[e] at hi;simp at hi;exact Bf ⟨by omega,hi.symm⟩
 refine⟨⟨r,h.low,by rw[n,Ah,Ah,t];rfl,fun i cb hi=>?_,fun i hi=>?_,fun i j cb cb' hij hi hj k q q'=>?_⟩,⟨⟨m.turn.os,m.turn.tape,m.turn.output,m.turn.size,fun k hk l=>m.turn.block k hk (fun hF=>l (Ay hF))⟩,fun k hF=>?_⟩⟩
 ·rcases d i cb hi with ⟨h1,h2⟩|⟨h1,h2⟩
  ·obtain⟨c,z,C⟩:=h.here i cb h2
   exact⟨c,by rw[n,Cx (by omega)];exact z,(C.keep (u i cb h2)).1⟩
  ·rw[h2]
   exact⟨p,by rw[n,Cl (by omega),h1,t,Gp];rfl,v⟩
 ·by_cases f:i<Z b
  ·rw[Cx f] at hi
   rw[n,Cx (by omega)];exact h.gone i hi
  ·rw[Cl (by omega)] at hi
   have s:=(Bo.1 hi).1;have e:i-Z b=0:=by simpa using s
   rw[e] at hi;simp at hi
 ·rcases d i cb hi with ⟨h1,h2⟩|⟨h1,h2⟩
  ·rcases d j cb' hj with ⟨h3,h4⟩|⟨h3,h4⟩
   ·exact h.apart i j cb cb' hij h2 h4 k (g i cb h2 k q).1 (g j cb' h4 k q').1
   ·rw[h4] at q'
    have:=l k q';have:=(g i cb h2 k q).2
    omega
  ·rcases d j cb' hj with ⟨h3,h4⟩|⟨h3,h4⟩
   ·rw[h2] at q
    have:=l k q;have:=(g j cb' h4 k q').2
    omega
   ·omega
 ·rcases hF with hF|⟨i,cb,hi,hF⟩
  ·rcases m.foot k hF with q|q
   ·exact Ay (Ay q)
   ·exact Bf q
  ·rcases d i cb hi with ⟨h1,h2⟩|⟨h1,h2⟩
   ·exact Ay (Bf ⟨i,cb,h2,(g i cb h2 k hF).1⟩)
   ·rw[h2] at hF;exact Bf (l k hF)
abbrev Hx7:=Ae #[O Ai 0,X S 0 0,I ⟨#[]⟩,I ⟨#[]⟩,X S 0 0,Al S] 106 (0,0)
theorem zjF {a:Ad}(c:w.heap[a]?=V Hx7)(b:CF w a k):k=a:=by
 rcases b with b|⟨pb,h1,h2⟩
 ·rcases b with rfl|⟨j,u,c1,c2⟩
  ·rfl
  ·rw[zB c] at c1
   exfalso
   match j,c1 with
   |0,c1=>simp at c1;subst c1;cases c2
   |1,c1=>simp at c1;subst c1;cases c2
   |2,c1=>simp at c1;subst c1;cases c2
   |3,c1=>simp at c1;subst c1;cases c2
   |4,c1=>simp at c1;subst c1;cases c2
   |5,c1=>simp at c1;subst c1;cases c2
   |j+6,c1=>simp at c1
 ·rw[zB c] at h1;simp at h1
def Yd.opened (y:Yd):Yd:={ y with conns:=y.conns++[V (.hd xf)] }
theorem pW (h:YInv w yb B g c y)(j:Z y.conns=64):Am prog 24 #[Al (V ⟨yb,0,S⟩)] w fun e w'=>e=Af (Cm #[O Ai 0,O Ai 7])/\w'=w:=by
 obtain⟨l,vc,m,a,d,b,f⟩:=h.ex;obtain⟨ca,ck,rfl⟩:=zL b;have k:=cbi 2 a;have i:(Z c:Ak)=64:=by have:=h.len;omega
 go_in;go_wp2
 go_ret2
 exact⟨rfl,rfl⟩
abbrev Hx0:=Ae #[O Ai 0,X S 0 0,I ⟨#[]⟩,I ⟨#[]⟩,X S 0 0,Al S] 106
abbrev Hx3 (a):=Ae #[Al (V ⟨a,0,S⟩)] 100
theorem zi2 {tv:Aj}(h:YInv w yb B tv b y)(ht:tv.ownBlock=S)(hn:Z y.conns<64)(hB:B<=w.heap.size):Am prog 24 #[Al (V ⟨yb,0,S⟩)] w fun e w'=>e=Af (Cm #[O Ai (Z y.conns+1:Ad),O Ai 0])/\YInv w' yb B tv (b++[V w.heap.size]) y.opened/\YMv w w' yb b (b++[V w.heap.size]):=by
 obtain⟨i0,hi,ak,al,am⟩:=Ej zk9;obtain⟨vd,vc,vs,t,h2,F,h4⟩:=h.ex;obtain⟨ca,ck,rfl⟩:=zL F;have k2:=cbi 2 t;have hl:=hid h.len;have ao:Z b<64:=by rw[hl.o];exact hn
 have HT:Y (y.opened={ y with conns:=y.conns++[V (.hd xf)] }):=rfl;have an:=zO t;have E:=hid (zD (Ac w Hx0 S) (Ac (w.alloc Hx0) (Hx3 w.heap.size) S));have s:=J (zK F E.o (fun k hk c=>by cases c));have af:Y (∀j u,([Al (V ⟨w.heap.size,0,S⟩)]:A Aj)[j]?=V u->((w.alloc Hx0).alloc (Hx3 w.heap.size)).cell? ((⟨w.heap.size+1,0,S⟩:Eu).add j)=V u):=by
  have:=zZ (w.alloc Hx0) #[Al (V ⟨w.heap.size,0,S⟩)] 100 _ rfl;simp only[World.size_alloc] at this;exact this
 have aa:Y (∀u∈([Al (V ⟨w.heap.size,0,S⟩)]:A Aj),u.oneCell'=true):=fun u hu=>by simp at hu;subst hu;rfl
 have ae:Y (Z b+1<=Bh):=by show _<=_;unfold Bh;omega
 have ai:Y ((Z b+1)*8<=140737488355328):=by show _<=_;omega
 have n:Y (((w.alloc Hx0).alloc (Hx3 w.heap.size)).heap.size=w.heap.size+1+1):=by show _=_;simp
 have ab:Y (B<=((w.alloc Hx0).alloc (Hx3 w.heap.size)).heap.size):=by show _<=_;rw[n.o];omega
 have f:=hid (zE t E.o);have r:=hid (zI f.o s.o);have kX:=cbi 2 f.o;have aj:=zO f.o;have x:=hid (zE (Bn w Hx0) (Ac (w.alloc Hx0) (Hx3 w.heap.size) S));have v:Y (∀m a o,o.ownsRow B 100 1 (X (V ⟨m,0,S⟩) (Z b+1) a) (Z b+1) (b.map ptrV++[Al (V ⟨w.heap.size,0,S⟩)])->((w.alloc Hx0).alloc (Hx3 w.heap.size)).grownBy o (X ca (Z b) ck).ownBlock->((X ca (Z b) ck).ownBlock=V m\/m=w.heap.size+1+1)->YInv (o.setCell ⟨yb,2,S⟩ (X (V ⟨m,0,S⟩) (Z b+1) a)) yb B tv (b++[V w.heap.size]) { y with conns:=y.conns++[V (.hd xf)] }/\YMv w (o.setCell ⟨yb,2,S⟩ (X (V ⟨m,0,S⟩) (Z b+1) a)) yb b (b++[V w.heap.size])):=fun m a o ho hg hat=>by
  have H:=zw f.o hg r.o;have gs:=zF o yb 2 (X (V ⟨m,0,S⟩) (Z b+1) a);have l:∀k,k<w.heap.size->(X ca (Z b) ck).ownBlock≠V k->k≠yb->(o.setCell ⟨yb,2,S⟩ (X (V ⟨m,0,S⟩) (Z b+1) a)).heap[k]?=w.heap[k]?:=fun k hk hv hy=>by
   have N:k<((w.alloc Hx0).alloc (Hx3 w.heap.size)).heap.size:=by rw[n.o];omega
   exact(gs.block k (Eh N hg.size) (by simpa using hy)).trans ((hg.block k N (fun e=>hv e.symm)).trans (E.o.block k hk (by simp)))
  have Q:(o.setCell ⟨yb,2,S⟩ (X (V ⟨m,0,S⟩) (Z b+1) a)).heap[w.heap.size]?=V Hx7:=
   zE (zw x.o hg (zI x.o s.o)) gs
  refine h.more ht ((HMv.of_grown (zO t) E.o).trans (HMv.append kX aj hg r.o (by rcases hat with h|h;exact Ay h;exact Bf (by rw[h,n.o])))) ⟨vd,_,vs,zH (i:=2) H _,h2.keep ?_ (fun k q=>?_),?_,jH h4 (fun k q=>?_)⟩ rfl ⟨⟨_,_,Q,Bk _ _ _ _,Bk _ _ _ _⟩,hB⟩ (fun k hk=>by have:=zjF Q hk;omega)
  ·have:=E.o.size;have:=hg.size;have:=gs.size;omega
  ·obtain⟨_,cs,e⟩:=h2.block k q
   refine l k (zO e) (fun e2=>?_) (fun e2=>?_)
   ·obtain⟨c,C⟩:=qT F k e2
    rw[e] at C;simp at C
   ·rw[e2,t] at e;simp at e
  ·have:=zJ ho gs (zI H ho)
   rw[Ah,Ef];exact this
  ·obtain⟨cs,e⟩:=qT h4 k q
   refine l k (zO e) (fun e2=>?_) (fun e2=>?_)
   ·obtain⟨c,C⟩:=qT F k e2
    rw[e] at C;simp at C
   ·rw[e2,t] at e;simp at e
 have HR:Y ((Z y.conns+1:Ad)=Z b+1):=by show _=_;rw[hl.o]
 generalize y.opened=y' at*;go_in;go_wp2_with (at_builtin;refine Ei _ rfl (.tmp 14) (.tmp 17) 97 rfl B 100 i0 _ 1 8 underlying97 hi ak al am rfl (by decide) _ _ _ rfl s.o ⟨w.heap.size+1,0,S⟩ 1 1 [Al (V ⟨w.heap.size,0,S⟩)] rfl rfl af.o aa.o (by decide) ae.o ai.o ab.o (w.heap.size+1+1) n.o ?_);intro m a o g d p _;have ag:=hid g;have ad:=hid d;have ah:=hid p;have z:=hid (zw f.o d r.o);have q9:=cbi 2 z.o;have f9:=zm9 2 z.o;go_wp2
 go_ret2
 exact⟨by rw[HR.o];rfl,by rw[HT.o];exact v.o _ _ _ ag.o ad.o ah.o⟩
theorem YInv.open_at {k:Aj}{d:A (Br Ad)}(h:YInv w yb B k d y){n:Ak}(b:y.isOpen n=true):∃m:Ad,n=(m+1:Ad)/\m<Z d/\∃a c,d[m]?=V (V a)/\y.conns[m]?=V (V c)/\CAt w a B c:=by
 have l:1<=n/\n<=Z y.conns:=by
  unfold Yd.isOpen at b;simp only[Ez,Gd] at b;exact⟨b.1,b.2.1⟩
 have o:=h.len;obtain⟨m,rfl⟩:∃m:Ad,n=(m+1:Ad):=⟨(n-1).toNat,by omega⟩;have f:m<Z d:=by omega
 rw[h.same m f] at b;obtain⟨a,e⟩:=Option.isSome_iff_exists.1 b;have g:d[m]?=V (V a):=by rw[Bd f,e]
 obtain⟨c,i,j⟩:=h.here m a g;exact⟨m,rfl,f,a,c,g,i,j⟩
theorem ab {f:Aj}(h:YInv w yb B f c y)(n:Ak)(b:y.isOpen n=false)(d:Z c<=1000000):Am prog 27 #[Al (V ⟨yb,0,S⟩),O Ai n] w fun e w'=>e=Af (O Ai 7)/\w'=w:=by
 have a:=hid (wW h n d);rw[b] at a;go_in;go_wp2_with fail;refine a.o.mono ?_;rintro e g ⟨rfl,rfl⟩;go_wp2;go_ret;exact⟨rfl,rfl⟩
theorem zeR (h:YInv w yb B d a y)(p:d.ownBlock=S)(m:Ad)(c:y.isOpen (m+1:Ad)=true)(g:Z a<=1000000):Am prog 27 #[Al (V ⟨yb,0,S⟩),O Ai (m+1:Ad)] w fun e w'=>e=Af (O Ai 0)/\YInv w' yb B d (a.set m S) (y.ended m)/\YMv w w' yb a (a.set m S):=by
 have b:=hid (wW h (m+1:Ad) g);rw[c] at b;obtain⟨q,k,o,_⟩:=h.open_at c;have l:m=q:=by omega
 subst l;have f:=hid (zd8 h p m o g);generalize((m+1:Ad):Ak)=n at*;go_in;go_wp2_with fail;refine b.o.mono ?_;rintro e r ⟨rfl,rfl⟩;go_wp2_with fail;refine f.o.mono ?_;rintro e s ⟨rfl,i⟩;have j:=hid i;go_wp2;go_ret;exact⟨rfl,j.o⟩
def Yd.noPolicy:A Ab:=[72,84,84,80,47,49,46,49,32,53,48,51,32,83,101,114,118,105,99,101,32,85,110,97,118,97,105,108,97,98,108,101,13,10,99,111,110,116,101,110,116,45,108,101,110,103,116,104,58,32,48,13,10,13,10]
variable {h:Rq.Head}
abbrev Hx1:=Ae #[O Bp 72,O Bp 84,O Bp 84,O Bp 80,O Bp 47,O Bp 49,O Bp 46,O Bp 49,O Bp 32,O Bp 53,O Bp 48,O Bp 51,O Bp 32,O Bp 83,O Bp 101,O Bp 114,O Bp 118,O Bp 105,O Bp 99,O Bp 101,O Bp 32,O Bp 85,O Bp 110,O Bp 97,O Bp 118,O Bp 97,O Bp 105,O Bp 108,O Bp 97,O Bp 98,O Bp 108,O Bp 101,O Bp 13,O Bp 10,O Bp 99,O Bp 111,O Bp 110,O Bp 116,O Bp 101,O Bp 110,O Bp 116,O Bp 45,O Bp 108,O Bp 101,O Bp 110,O Bp 103,O Bp 116,O Bp 104,O Bp 58,O Bp 32,O Bp 48,O Bp 13,O Bp 10,O Bp 13,O Bp 10] 5 (55,56)
abbrev Hx2 (a b):=Ae #[I ⟨#[]⟩,X (V ⟨a,0,S⟩) 55 55,O Ai (yi b)] 172
theorem lm {l:Ad}{r:Aj}(n:HInv w l B r h)(s:w.cell? ⟨yb,0,S⟩=V (Al S))(o:Z h.headers<=100000)(p:xZ x5 h.headers=[]\/zm (xZ x5 h.headers)=true)(m:GE w):Am prog 80 #[Al (V ⟨yb,0,S⟩),Al (V ⟨l,0,S⟩)] w fun e w'=>∃pb,e=Af (Al (V ⟨pb,0,S⟩))/\PcAt w' pb w.heap.size ⟨[],Yd.noPolicy,yi h⟩/\w.grownBy w' S:=by
 have c:=hid (Ac w Hx1 S);have i:=hid (Bn w Hx1);have k:=hid (zi1 (n.keep c.o) o p (m.grown c.o));have a:=Lib.run_convert_bytes_const (P:=prog) w 32 5 #[O Bp 72,O Bp 84,O Bp 84,O Bp 80,O Bp 47,O Bp 49,O Bp 46,O Bp 49,O Bp 32,O Bp 53,O Bp 48,O Bp 51,O Bp 32,O Bp 83,O Bp 101,O Bp 114,O Bp 118,O Bp 105,O Bp 99,O Bp 101,O Bp 32,O Bp 85,O Bp 110,O Bp 97,O Bp 118,O Bp 97,O Bp 105,O Bp 108,O Bp 97,O Bp 98,O Bp 108,O Bp 101,O Bp 13,O Bp 10,O Bp 99,O Bp 111,O Bp 110,O Bp 116,O Bp 101,O Bp 110,O Bp 116,O Bp 45,O Bp 108,O Bp 101,O Bp 110,O Bp 103,O Bp 116,O Bp 104,O Bp 58,O Bp 32,O Bp 48,O Bp 13,O Bp 10,O Bp 13,O Bp 10] 55 55 underlying32 underlying5;go_in;go_wp2_with fail;refine k.o.mono ?_;rintro e d ⟨rfl,f⟩;have g:=Ac d (Hx2 w.heap.size h) S;have b:Y (PcAt (d.alloc (Hx2 w.heap.size h)) d.heap.size w.heap.size ⟨[],Yd.noPolicy,yi h⟩/\w.grownBy (d.alloc (Hx2 w.heap.size h)) S):=by
  have q:=(zD c.o f).size;exact⟨⟨⟨_,Bn d (Hx2 w.heap.size h),Bf ⟨rfl,w.heap.size,55,#[O Bp 72,O Bp 84,O Bp 84,O Bp 80,O Bp 47,O Bp 49,O Bp 46,O Bp 49,O Bp 32,O Bp 53,O Bp 48,O Bp 51,O Bp 32,O Bp 83,O Bp 101,O Bp 114,O Bp 118,O Bp 105,O Bp 99,O Bp 101,O Bp 32,O Bp 85,O Bp 110,O Bp 97,O Bp 118,O Bp 97,O Bp 105,O Bp 108,O Bp 97,O Bp 98,O Bp 108,O Bp 101,O Bp 13,O Bp 10,O Bp 99,O Bp 111,O Bp 110,O Bp 116,O Bp 101,O Bp 110,O Bp 116,O Bp 45,O Bp 108,O Bp 101,O Bp 110,O Bp 103,O Bp 116,O Bp 104,O Bp 58,O Bp 32,O Bp 48,O Bp 13,O Bp 10,O Bp 13,O Bp 10],(55,56),rfl,Aq _,zE (zE i.o f) g,fun j u hu=>by rw[<-hu,<-Fo];rfl⟩⟩,q⟩,zD (zD c.o f) g⟩
 go_wp2;go_ret;exact⟨_,rfl,b.o⟩
theorem YInv.conn {a:Ad}{tv':Aj}{row:Br Ad}{r:Cn}(h:YInv w yb B v f y)(H:v.ownBlock=S)(b:f[m]?=V (V a))(g:CMv w w' a row)(l:∀k,row=V k->k=yb)(z:CAt w' a B r)
  (t:∃vd vc vs,w'.heap[yb]?=V (Ae #[tv',vd,vc,vs] 99 (0,0))/\QRow w' B 60 vd (y'.draws.map drawV)/\w'.ownsRow B 100 1 vc (Z f) (f.map ptrV)/\w'.ownsRow B 44 3 vs (Z y'.sent) (evCells y'.sent))
  (C:∀k,HF w' yb k->HF w yb k\/w.heap.size<=k) (p:y'.conns=y.conns.set m (V r)):YInv w' yb B tv' f y'/\YMv w w' yb f f:=by
 have F:m<Z f:=(Bo.1 b).1;have E:=h.len;have u:∀i cb':Ad,i≠m->f[i]?=V (V cb')->∀k,CF w cb' k->w'.heap[k]?=w.heap[k]?:=fun i cb' hne hi k hk=>by
  obtain⟨c,_,q⟩:=h.here i cb' hi;refine g.turn.block k (q.lt hk) (fun hF=>?_);rcases hF with hF|hF
  ·exact h.apart i m cb' a hne hi b k hk hF
  ·exact kf (h.hf H (Ay (l k hF))).2 (q.cf hk).2
 have n:∀i cb':Ad,i≠m->f[i]?=V (V cb')->∀k,CF w' cb' k->CF w cb' k/\k<w.heap.size:=fun i cb' hne hi k hk=>by
  obtain⟨c,_,q⟩:=h.here i cb' hi;have:=(q.keep (u i cb' hne hi)).2 k hk;exact⟨this,q.lt this⟩
 refine⟨⟨t,h.low,by rw[p,Gv];exact E,fun i cb' hi=>?_,fun i hi=>?_,fun i j ca cb' hij hi hj k q q'=>?_⟩,⟨⟨g.turn.os,g.turn.tape,g.turn.output,g.turn.size,fun k hk hn=>g.turn.block k hk (fun hF=>?_)⟩,fun k hF=>?_⟩⟩
 ·by_cases e:i=m
  ·subst e
   rw[b] at hi;have d:a=cb':=by simpa using hi
   subst d;exact⟨r,by rw[p,Fm (by omega)],z⟩
  ·obtain⟨c,N,o⟩:=h.here i cb' hi
   exact⟨c,by rw[p,Fc (fun d=>e d.symm)];exact N,(o.keep (u i cb' e hi)).1⟩
 ·have e:m≠i:=fun e=>by subst e;rw[b] at hi;simp at hi
  rw[p,Fc e];exact h.gone i hi
 ·by_cases s:i=m
  ·subst s
   rw[b] at hi;have d:a=ca:=by simpa using hi
   subst d;have o:=n j cb' (fun e=>hij e.symm) hj k q';rcases g.foot k q with q3|q3
   ·exact h.apart i j a cb' hij b hj k q3 o.1
   ·omega
  ·by_cases d:j=m
   ·subst d
    rw[b] at hj;have x:a=cb':=by simpa using hj
    subst x;have o:=n i ca s hi k q;rcases g.foot k q' with q3|q3
    ·exact h.apart i j ca a hij hi b k o.1 q3
    ·omega
   ·exact h.apart i j ca cb' hij hi hj k (n i ca s hi k q).1 (n j cb' d hj k q').1
 ·rcases hF with hF|hF
  ·exact hn (Bf ⟨m,a,b,hF⟩)
  ·exact hn (Ay (Ay (l k hF)))
 ·rcases hF with hF|⟨i,cb',hi,hF⟩
  ·rcases C k hF with q|q
   ·exact Ay (Ay q)
   ·exact Bf q
  ·by_cases e:i=m
   ·subst e
    rw[b] at hi;have d:a=cb':=by simpa using hi
    subst d;rcases g.foot k hF with q|q
    ·exact Ay (Bf ⟨i,a,b,q⟩)
    ·exact Bf q
   ·exact Ay (Bf ⟨i,cb',hi,(n i cb' e hi k hF).1⟩)
def Yd.put (y:Yd)(m:Ad)(c:Cn):Yd:={ y with conns:=y.conns.set m (V c) }
theorem YInv.put {d:Ad}{n:Cn}(h:YInv w yb B l b y)(p:l.ownBlock=S)(o:b[m]?=V (V d))(j:CMv w w' d S)(C:CAt w' d B n):YInv w' yb B l b (y.put m n)/\YMv w w' yb b b:=by
 obtain⟨c,_,q⟩:=h.here m d o;have g:∀k,HF w yb k->w'.heap[k]?=w.heap[k]?:=fun k hk=>by
  obtain⟨_,u,t,e,i⟩:=h.hf p hk;refine j.turn.block k (zO e) (fun hF=>?_);rcases hF with hF|hF
  ·exact kf ⟨u,t,e,i⟩ (q.cf hF).2
  ·cases hF
 obtain⟨r,vc,s,f,v,x,z⟩:=h.ex;have a:=g yb (Ay rfl);exact h.conn p o j (fun k e=>by cases e) C ⟨r,vc,s,a.trans f,v.keep j.turn.size (fun k e=>g k (Bf ⟨1,r,zB f,e⟩)),jH x (fun k e=>g k (Bf ⟨2,vc,zB f,e⟩)),jH z (fun k e=>g k (Bf ⟨3,s,zB f,e⟩))⟩ (fun k hF=>Ay (t6 a hF)) rfl
theorem DatAt.conv {p:Pc}{a:Br Eu}(h:DatAt w B p (X a (Z p.data) k)):(convert 32 9 (X a (Z p.data) k)).run prog w = .ok (I (Aa p.data)) w:=by
 rcases h with ⟨ao,b,off,cap,e,hc,_⟩|⟨_,g,cap,cur,f,e,h1,h2,h3⟩
 ·simp only[Au,Fb] at e
  obtain⟨rfl,rfl⟩:=e;refine j8 ?_
  by_cases d:p.data=[]
  ·rw[d];exact Ay ⟨_,_,rfl,rfl⟩
  ·have n:=Ox.2 d
   have c:=hc.le;have l:=hc.addr (by omega);subst l;refine Bf ⟨b,off,k,rfl,c,hc.lt (by omega),fun j u hu=>hc.olds j _ ?_⟩;unfold Ba;rw[Fq,hu];rfl
 ·simp only[Au,Fb] at e
  obtain⟨rfl,rfl⟩:=e;exact run_convert_bytes_back w _ _ _ ⟨g,0,S⟩ k p.data underlying32 underlying5 underlying9 (fun j hj=>by
   rw[vJ,Gr];have m:(Ba p.data)[j]?=V (O Bp (p.data[j]).toNat):=by
    unfold Ba;rw[Fq,Bd hj];rfl
   have i:=h3 j _ m;rw[zB h2];exact i)
theorem YInv.lt (h:YInv w yb B d b y)(f:d.ownBlock=S)(a:YF w yb b k):k<w.heap.size:=by
 rcases a with a|⟨i,cb,hi,a⟩
 ·obtain⟨_,g,t,e,_⟩:=h.hf f a
  exact zO e
 ·obtain⟨c,_,q⟩:=h.here i cb hi
  exact q.lt a
theorem YInv.grown {b:Aj}(h:YInv w yb B b a y)(f:b.ownBlock=S)(g:w.grownBy w' S):YInv w' yb B b a y/\YMv w w' yb a a:=by
 obtain⟨c,d⟩:=h.keep g.size (fun k hF=>g.block k (h.lt f hF) (by simp));exact⟨c,⟨g.os,g.tape,g.output,g.size,fun k hk _=>g.block k hk (by simp)⟩,fun k hk=>Ay (d k hk)⟩
def Yd.ready (y:Yd)(m:Ad):Yd:=
 match y.conns[m]? with
 |V (V (.bd p))=>if p.left=0 then (y.put m (.hd xf)).send ⟨m+1,p.dst,p.data⟩ else y
 |_=>y
def Yd.after (y:Yd)(m:Ad)(r:A Ab):Yd:=if r=[] then y.ready m else (y.send ⟨m+1,[],r⟩).ended m
def psAfter (ps:A (Br Ad))(m:Ad)(r:A Ab):A (Br Ad):=if r=[] then ps else ps.set m S
theorem cg {Q:Ad}{y1:Yd}(h:YInv w yb B v a y)(F:v.ownBlock=S)(E:a[m]?=V (V Q))(c:Ab)(r:A Ab)
  (hT:Am prog 79 #[Al (V ⟨Q,0,S⟩),O Bp c.toNat,.func (.func 80) #[Al (V ⟨yb,0,S⟩)] #[]] w fun e w'=>e=Af (I (Aa r))/\YInv w' yb B v a y1/\YMv w w' yb a a) (hs:Z y1.sent<=100000000) (hl:Z a<=1000000) (hB:B<=w.heap.size):Am prog 47 #[Al (V ⟨yb,0,S⟩),O Ai (m+1:Ad),O Bp c.toNat] w fun e w'=>e=Af (Cm #[])/\YInv w' yb B v (psAfter a m r) (y1.after m r)/\YMv w w' yb a (psAfter a m r):=by
 obtain⟨vd,vc,vs,h1,h2,h3,h4⟩:=h.ex;obtain⟨ca,ck,rfl⟩:=zL h3;have k2:=cbi 2 h1;have l:m<Z a:=(Bo.1 E).1;obtain⟨g,aa,rfl,rfl,c1,_⟩:=nY h3 m l;have ad:(m:Ak)<Z a:=by omega
 have C:a[m]=V Q:=by rw[Bd l] at E;exact Bc E
 rw[C] at c1;simp only[ptrV] at c1;have HT:=hid hT;have HM:=hid E;have i:Y (y1.after m r=if r=[] then y1.ready m else (y1.send ⟨m+1,[],r⟩).ended m):=rfl;have f:Y (psAfter a m r=if r=[] then a else a.set m S):=rfl;generalize y1.after m r=y9 at*;generalize psAfter a m r=ps9 at*;have e0:=uE r;go_in;go_wp2_with fail;refine HT.o.mono ?_;rintro e w1 ⟨rfl,i1,m1⟩;have k:=hid i1;have q:=hid m1;have ae:=m1.turn.size
 by_cases u:r=[]
 ·rw[Cf u] at e0
  rw[Az u] at i f;subst u;obtain⟨c9,s,d⟩:=k.o.here m Q HM.o
  cases c9 with
  |hd hh=>
   have j:Y (y9=y1):=by show _=_;rw[i.o];unfold Yd.ready;rw[s]
   have b:=hid (eB d);go_wp2_with fail;refine b.o.mono ?_;rintro e o ⟨rfl,rfl⟩;go_wp2
   go_end0
   exact⟨rfl,by rw[j.o,f.o];exact k.o,by rw[f.o];exact q.o⟩
  |bd p=>
   by_cases t:p.left=0
   ·have j:Y (y9=(y1.put m (.hd xf)).send ⟨m+1,p.dst,p.data⟩):=by show _=_;rw[i.o];unfold Yd.ready;rw[s];exact Az t
    have b:=hid (pf (row:=S) d t);go_wp2_with fail;refine b.o.mono ?_;rintro e o ⟨pb,rfl,z,pa,mv,_,_⟩;obtain⟨P2,Q2⟩:=k.o.put F HM.o mv z;have N:Y (∀W,o.grownBy W S->Am prog 81 #[Al (V ⟨yb,0,S⟩),O Ai (m+1:Ad),I (Aa p.dst),I (Aa p.data)] W fun e w'=>e=Af (Cm #[])/\Y (YInv w' yb B v a y9)/\Y (YMv w w' yb a a)):=fun W hW=>by
     obtain⟨k1,k2⟩:=P2.grown F hW;refine(oA k1 F (m+1) p.dst p.data (by show (Z y1.sent)<=_;omega) (by have:=hW.size;have:=mv.turn.size;omega)).mono ?_;rintro e w' ⟨rfl,q1,q2⟩;have a1:YInv w' yb B v a y9:=by rw[j.o];exact q1
     exact⟨rfl,hid a1,hid (((q.o.trans Q2).trans k2).trans q2)⟩
    obtain⟨af,n,pd⟩:=pa.ex;obtain⟨da,dk,rfl⟩:=pd.form;have p0:=cbi 0 n;have p1:=cbi 1 n;have H:DatAt o.drew B p (X da (Z p.data) dk):=pd.away (zV o) (fun _ _ c=>by cases c);have ab:=H.conv;go_upto_region 7 with fail
    go_region_law (go_simp;go_at_call 81;refine(N.o _ (zV o)).mono ?_;rintro e w3 ⟨rfl,I3,M3⟩)
    all_goals
     go_wp2
     go_end0
     exact⟨rfl,by rw[f.o];exact I3.o,by rw[f.o];exact M3.o⟩
   ·have j:Y (y9=y1):=by show _=_;rw[i.o];unfold Yd.ready;rw[s];exact Aw t
    have b:=hid (eC d t);go_wp2_with fail;refine b.o.mono ?_;rintro e o ⟨rfl,rfl⟩;go_wp2
    go_end0
    exact⟨rfl,by rw[j.o,f.o];exact k.o,by rw[f.o];exact q.o⟩
 ·rw[Ce u] at e0
  rw[Aw u] at i f;have N:=hid (oA k.o F (m+1) [] r (by omega) (by omega));have x:=J (N.o);go_wp2_with fail;refine x.o.mono ?_;rintro e o ⟨rfl,i2,m2⟩;have M2:=hid (q.o.trans m2);have j:=hid (zd8 i2 F m l hl);go_wp2_with fail;refine j.o.mono ?_;rintro e w3 ⟨rfl,i3,m3⟩;have I3:=hid i3;have M3:=hid (M2.o.trans m3);go_wp2
  (try simp only[Exit.inBlock,Exit.then])
  refine bodyPost_ret (results_none rfl _ _ _) rfl ?_;exact⟨rfl,by rw[i.o,f.o];exact I3.o,by rw[f.o];exact M3.o⟩
structure HOk (h:Rq.Head):Prop where
 size:h.size<=600
 line:Z h.line<=h.size
 heads:Z h.headers<=12
 cl:∀x∈h.headers,x.1=x5->zm x.2=true/\xL x.2<=300
 meth:Z h.method<=3000
 targ:Z h.target<=3000
 hv:∀x∈h.headers,Z x.1<=3000/\(Z x.2)<=3000
theorem HOk.zero:HOk xf:=⟨Ax _,Aq _,Ax _,(fun x hx=>by cases hx),Ax _,Ax _,(fun x hx=>by cases hx)⟩
theorem HOk.begin (a:HOk h)(l:A Ab)(c:Z l<=3000):HOk (yH h l):=by
 have b:=lM l c;unfold yH
 split
 ·rename_i m t v e
  rw[e] at b
  split
  ·exact⟨a.size,a.line,a.heads,a.cl,b m (by simp),b t (by simp),a.hv⟩
  ·exact a
 ·exact a
theorem HOk.add (b:HOk h)(l:A Ab)(m:Z l<=3000)(a:xq h l=[]):HOk (jc h l):=by
 have d:Z (qF l).1<=3000:=by have:=(hY l 58).1;unfold qF R.lower;simp only[Bv];omega
 have f:=sL l m;unfold xq at a;unfold jc
 by_cases g:xu l=true
 ·rw[Az g] at a ⊢
  generalize qF l=x at*;unfold yN at a
  by_cases i:Z h.headers=12
  ·rw[Az i] at a;cases a
  ·rw[Aw i] at a
   refine⟨b.size,b.line,?_,fun z hz hcl=>?_,b.meth,b.targ,fun z hz=>?_⟩
   ·show(Z (h.headers++[x]))<=12
    rw[Ah];have:=b.heads;show (Z h.headers)+1<=12
    omega
   ·rcases Ea.1 (show z∈h.headers++[x] from hz) with hz|hz
    ·exact b.cl z hz hcl
    ·have e:z=x:=by simpa using hz
     subst e
     by_cases j:z.1=uH
     ·rw[Az j] at a;cases a
     ·rw[Aw j,Az hcl] at a
      unfold yM at a
      by_cases c:(xY z.1 h.headers || !zm z.2)=true
      ·rw[Az c] at a;cases a
      ·rw[Aw c] at a
       by_cases k:300<xL z.2
       ·rw[Az k] at a;cases a
       ·simp only[Sn,Xg,not_or,Bool.not_eq_false] at c
        exact⟨c.2,by omega⟩
   ·rcases Ea.1 (show z∈h.headers++[x] from hz) with hz|hz
    ·exact b.hv z hz
    ·have e:z=x:=by simpa using hz
     subst e;exact⟨d,f⟩
 ·rw[Aw g] at a;cases a
theorem HOk.take (a:HOk h)(c:Ab)(b:(qe h c).2.2=[]):HOk (qe h c).1:=by
 unfold qe at b ⊢
 by_cases g:600<h.size+1
 ·rw[Az g] at b;cases b
 ·rw[Aw g] at b ⊢
  have f:HOk { h with size:=h.size+1,line:=[] }:=⟨by show h.size+1<=600;omega,Ax _,a.heads,a.cl,a.meth,a.targ,a.hv⟩;have d:Z (qQ h.line 13).1<=3000:=by have:=pI h.line 13;have:=a.line;have:=a.size;omega
  by_cases i:c=10
  ·rw[Az i] at b ⊢
   generalize({ h with size:=h.size+1,line:=[] }:Rq.Head)=h' at*;unfold yT at b ⊢
   by_cases j:(qQ h.line 13).2=true
   ·rw[Az j] at b ⊢
    by_cases k:h'.method=[]
    ·rw[Az k];exact f.begin _ d
    ·rw[Aw k] at b ⊢
     by_cases l:(qQ h.line 13).1=[]
     ·rw[Az l];exact f
     ·rw[Aw l] at b ⊢
      exact f.add _ d b
   ·rw[Aw j] at b;cases b
  ·rw[Aw i]
   refine⟨by show h.size+1<=600;omega,?_,a.heads,a.cl,a.meth,a.targ,a.hv⟩;show(Z (h.line++[c]))<=h.size+1;rw[Ah];have:=a.line;show (Z h.line)+1<=h.size+1
   omega
theorem HOk.value (a:HOk h):xZ x5 h.headers=[]\/(zm (xZ x5 h.headers)=true/\xL (xZ x5 h.headers)<=300):=by
 unfold xZ
 cases e:xt x5 h.headers <;> grind[xZ,xt,x5,List.mem_cons_self,Rq.Head,HOk,zm,xL]
theorem HOk.number (a:HOk h):xZ x5 h.headers=[]\/zm (xZ x5 h.headers)=true:=a.value.imp id And.left
theorem HOk.body (b:HOk h):0<=yi h/\yi h<=300:=by
 unfold yi;rcases b.value with e|⟨e,e2⟩
 ·rw[e];decide
 ·refine⟨?_,e2⟩
  unfold zm at e;simp only[Ez,Gd] at e;have a:=e.2.2;unfold Ec at a;exact(R.num_le _ (fun c hc=>Mq.1 a c hc) e.2.1).1
def COk:Cn->Prop
 | .hd h=>HOk h
 | .bd p=>1<=p.left/\p.left<=300/\(Z p.data)+p.left<=100000000
def Yd.D0 (h:Rq.Head):Pc:=⟨[],Yd.noPolicy,yi h⟩
def Yd.take0 (y:Yd)(m:Ad)(c:Ab):Yd:=
 match y.conns[m]? with
 |V (V (.hd h))=>(y.put m (Cn.take Yd.D0 h c).1).after m (Cn.take Yd.D0 h c).2
 |V (V (.bd p))=>(y.put m (.bd (p.take c))).after m []
 |_=>y
def YOk (y:Yd):Prop:=∀(m:Ad) (c:Cn),y.conns[m]?=V (V c)->COk c
theorem YInv.low_all (h:YInv w yb B d b y)(f:d.ownBlock=S)(a:YF w yb b k):B<=k:=by
 rcases a with a|⟨i,cb,hi,a⟩
 ·exact(h.hf f a).1
 ·obtain⟨c,_,q⟩:=h.here i cb hi
  exact(q.cf a).1
theorem YMv.keep {b:Aj}(m:YMv w w' yb a ps')(h:YInv w yb B b a y)(d:b.ownBlock=S)(f:k<B)(c:k<w.heap.size):w'.heap[k]?=w.heap[k]?:=
 m.turn.block k c (fun hF=>by have:=h.low_all d hF;omega)
theorem fo (a:A (Br Ad))(m:Ad)(r:A Ab):Z (psAfter a m r)=Z a:=by unfold psAfter;split <;> simp
theorem zbW {q:Ad}{o:A (Br Ad)}(h:YInv w yb B (Al S) o y)(hk:YOk y)(i:o[m]?=V (V q))(c:Ab)(hs:Z y.sent<=100000000)(hl:Z o<=1000000)(r:B<=w.heap.size)(hG:Glob w)(N:GE w)(aa:0<B/\Tryz.laysC172_ren.g 15<B):Am prog 47 #[Al (V ⟨yb,0,S⟩),O Ai (m+1:Ad),O Bp c.toNat] w fun e w'=>e=Af (Cm #[])/\∃ps',YInv w' yb B (Al S) ps' (y.take0 m c)/\YMv w w' yb o ps'/\(Z ps')=Z o:=by
 obtain⟨F,t,j⟩:=h.here m q i;have ab:B<=q:=(j.cf (Ay (Ay rfl))).1;have n:=hk m F t
 cases F with
 |hd hh=>
  have hI:=j;have b:=n;have s:y.take0 m c=(y.put m (Cn.take Yd.D0 hh c).1).after m (Cn.take Yd.D0 hh c).2:=by unfold Yd.take0;rw[t]
  rw[s];refine(cg (y1:=y.put m (Cn.take Yd.D0 hh c).1) h rfl i c (Cn.take Yd.D0 hh c).2 ?_ hs hl r).mono fun e w' ⟨d,a,f⟩=>⟨d,_,a,f,fo _ _ _⟩
  refine(ah (yb:=yb) S (fun _=>True) (fun _ _ _ _=>trivial) hI c Yd.D0 b.size (by have:=b.line;have:=b.size;omega) (by have:=b.heads;omega) r hG N ⟨by omega,by omega⟩ (fun k e=>by cases e) ?_).mono ?_
  ·intro W h' v Q ht
   have l:HOk h':=by have:=b.take c (by rw[ht]);rw[ht] at this;exact this
   obtain⟨vd,vc,vs,H,_⟩:=h.ex;have E:¬HF w q yb:=fun hF=>kf (h.hf rfl (Ay rfl)).2 (j.cf (Ay hF)).2
   have C:=cbi 0 ((Q.turn.block yb (zO H) E).trans H);have x:Tryz.laysC172_ren.g 15<w.heap.size:=by omega
   have u:GE W:=by
    obtain⟨ev,d,a⟩:=N;refine⟨ev,?_,a⟩;rw[kJ (Q.turn.block _ x (fun hF=>by have:=(j.cf (Ay hF)).1;omega))];exact d
   refine(lm v C (by have:=l.heads;omega) l.number u).mono ?_;rintro e w' ⟨pb,d,a,f⟩;exact⟨pb,d,a,f,trivial⟩
  ·rintro e w' ⟨d,a,f,_⟩
   exact⟨d,(h.put rfl i f a).1,(h.put rfl i f a).2⟩
 |bd p=>
  have z:1<=p.left/\p.left<=300/\(Z p.data)+p.left<=100000000:=n;have s:y.take0 m c=(y.put m (.bd (p.take c))).after m []:=by unfold Yd.take0;rw[t]
  rw[s];refine(cg (y1:=y.put m (.bd (p.take c))) h rfl i c [] ?_ hs hl r).mono fun e w' ⟨d,a,f⟩=>⟨d,_,a,f,fo _ _ _⟩
  refine(ag (row:=S) j c ⟨z.1,by omega⟩ (by omega) r).mono ?_;rintro e w' ⟨d,a,f⟩;exact⟨d,(h.put rfl i f a).1,(h.put rfl i f a).2⟩
theorem gJ (y:Yd)(m:Ad)(r:A Ab)(i:Ad)(a:m≠i):(y.after m r).conns[i]?=y.conns[i]?:=by
 unfold Yd.after
 split
 ·unfold Yd.ready
  split
  ·split
   ·show(y.conns.set m _)[i]?=_
    rw[Fc a]
   ·rfl
  ·rfl
 ·show(y.conns.set m S)[i]?=_
  rw[Fc a]
theorem za1 (y:Yd)(m:Ad)(c:Ab)(i:Ad)(a:m≠i):(y.take0 m c).conns[i]?=y.conns[i]?:=by
 unfold Yd.take0
 split
 ·rw[gJ _ _ _ _ a]
  show(y.conns.set m _)[i]?=_;rw[Fc a]
 ·rw[gJ _ _ _ _ a]
  show(y.conns.set m _)[i]?=_;rw[Fc a]
 ·rfl
theorem mj (y:Yd)(m:Ad)(r:A Ab):Z (y.after m r).sent<=Z y.sent+1:=by
 have a:∀(z:Yd) (e:Ev),Z (z.send e).sent=Z z.sent+1:=fun z e=>by show(Z (z.sent++[e]))=_;rw[Ah];rfl
 unfold Yd.after
 split
 ·unfold Yd.ready
  split
  ·split
   ·rw[a];exact Aq _
   ·omega
  ·omega
 ·show(Z (y.send _).sent)<=_
  rw[a];omega
theorem bG (y:Yd)(m:Ad)(c:Ab):Z (y.take0 m c).sent<=Z y.sent+1:=by
 unfold Yd.take0
 split
 ·exact mj _ _ _
 ·exact mj _ _ _
 ·omega
theorem eH (y:Yd)(m:Ad)(c:Cn)(a:m<Z y.conns):(y.put m c).conns[m]?=V (V c):=by
 show(y.conns.set m _)[m]?=_;rw[Fm a]
theorem nZ (b:m<Z y.conns){c:Cn}(i:(∃h,c = .hd h/\HOk h)\/∃p,c = .bd p/\0<=p.left/\p.left<=300/\(Z p.data)+p.left<=100000000){d:Cn}(a:((y.put m c).after m []).conns[m]?=V (V d)):COk d:=by
 unfold Yd.after at a;rw[Az rfl] at a;unfold Yd.ready at a;rw[eH y m c b] at a;rcases i with ⟨h,rfl,hk⟩|⟨p,rfl,h1,h2,h3⟩
 ·simp only at a
  rw[eH y m _ b] at a;have e:Cn.hd h=d:=by simpa using a
  subst e;exact hk
 ·simp only at a
  by_cases f:p.left=0
  ·rw[Az f] at a
   have g:(((y.put m (.bd p)).put m (.hd xf)).send ⟨m+1,p.dst,p.data⟩).conns[m]?=V (V (.hd xf)):=eH (y.put m (.bd p)) m _ (by show m<Z (y.conns.set m _);rw[Gv];exact b);rw[g] at a;have e:Cn.hd xf=d:=by simpa using a
   subst e;exact HOk.zero
  ·rw[Aw f,eH y m _ b] at a
   have e:Cn.bd p=d:=by simpa using a
   subst e;exact⟨by omega,h2,h3⟩
theorem YOk.take0 (j:YOk y)(m:Ad)(c:Ab):YOk (y.take0 m c):=by
 intro i d a
 by_cases n:m=i
 ·subst n
  unfold Yd.take0 at a
  split at a
  ·rename_i h ec
   have f:m<Z y.conns:=(Bo.1 ec).1;have l:HOk h:=j m _ ec
   by_cases g:((qe h c).2.1 && decide ((qe h c).2.2=[]))=true
   ·have e:Cn.take Yd.D0 h c=(.bd (Yd.D0 (qe h c).1),[]):=by unfold Cn.take;rw[Az g]
    rw[e] at a;simp only[Ez,Gd] at g;have b:=(l.take c g.2).body;exact nZ f (Bf ⟨_,rfl,b.1,b.2,by have:Z (Yd.D0 (qe h c).1).data=55:=rfl;rw[this];have:=b.2;show(55:Ak)+yi _<=_;omega⟩) a
   ·have e:Cn.take Yd.D0 h c=(.hd (qe h c).1,(qe h c).2.2):=by unfold Cn.take;rw[Aw g]
    rw[e] at a
    by_cases k:(qe h c).2.2=[]
    ·rw[k] at a
     exact nZ f (Ay ⟨_,rfl,l.take c k⟩) a
    ·unfold Yd.after at a
     rw[Aw k] at a;have o:((((y.put m (.hd (qe h c).1)).send ⟨m+1,[],(qe h c).2.2⟩).ended m).conns[m]?)=V S:=by
      show((y.conns.set m _).set m S)[m]?=_;rw[Fm (by rw[Gv];exact f)]
     rw[o] at a;simp at a
  ·rename_i p ec
   have f:m<Z y.conns:=(Bo.1 ec).1;have s:1<=p.left/\p.left<=300/\(Z p.data)+p.left<=100000000:=j m _ ec;refine nZ f (Bf ⟨_,rfl,by show 0<=p.left-1;omega,by show p.left-1<=300;omega,?_⟩) a;have r:Z (p.take c).data<=Z p.data+1:=by unfold Pc.take;simp only;split <;> simp
   have q:(p.take c).left=p.left-1:=rfl;rw[q];omega
  ·exact j m d a
 ·rw[za1 y m c i n] at a
  exact j i d a
def Yd.step0 (y:Yd)(m:Ad)(c:Ab):Yd:=if y.isOpen (m+1:Ad)=true then y.take0 m c else y
def Yd.fed0 (y:Yd)(m:Ad)(l:A Ab):Yd:=l.foldl (fun y c=>y.step0 m c) y
theorem rS (y:Yd)(m:Ad)(l:A Ab)(c:Ab):y.fed0 m (l++[c])=(y.fed0 m l).step0 m c:=by unfold Yd.fed0;rw[Mb];rfl
theorem rR (y:Yd)(m:Ad)(l:A Ab)(h:y.isOpen (m+1:Ad)=false):y.fed0 m l=y:=by
 induction l <;> grind[Yd.step0,Yd.fed0,Yd]
theorem gK (y:Yd)(m:Ad)(a b:A Ab):y.fed0 m (a++b)=(y.fed0 m a).fed0 m b:=by unfold Yd.fed0;rw[Mb]
def Apart (w:Ag)(yb:Ad)(ps:A (Br Ad))(v:Aj):Prop:=∀k,v.ownBlock=V k->¬YF w yb ps k
theorem RdO.moved {l:A Ab}(h:RdO w v l)(m:YMv w w' yb b ps')(d:Apart w yb b v):RdO w' v l:=by
 rcases h with h|⟨g,o,c,h1,hc,h2,h3⟩
 ·exact Ay h
 ·have e:=m.turn.block g h2 (d g (by rw[h1];rfl))
  exact Bf ⟨g,o,c,h1,hc,Eh h2 m.turn.size,fun j u hu=>by rw[Mr (a:=⟨g,o+j,S⟩) e];exact h3 j u hu⟩
theorem Glob.moved (b:Glob w)(m:YMv w w' yb c ps')(h:YInv w yb B d c y)(g:d.ownBlock=S)(i:B<=w.heap.size)(f:0<B):Glob w':=by
 have e:=m.keep h g f (by omega);unfold Glob at b ⊢;rw[Mr (a:=⟨0,0,S⟩) e];exact b
theorem GE.moved {b:Aj}(i:GE w)(m:YMv w w' yb a ps')(h:YInv w yb B b a y)(d:b.ownBlock=S)(f:B<=w.heap.size)(c:Tryz.laysC172_ren.g 15<B):GE w':=by
 have e:=m.keep h d c (by omega)
 grind[kJ,Yd,GE,YMv,YInv]
theorem lW {f:Aj}(h:YInv w yb B f c y)(n:Ak)(v:Aj)(b:y.isOpen n=false)(d:Z c<=1000000):Am prog 26 #[Al (V ⟨yb,0,S⟩),O Ai n,v] w fun e w'=>e=Af (O Ai 7)/\w'=w:=by
 have a:=hid (wW h n d);rw[b] at a;go_in;go_wp2_with fail;refine a.o.mono ?_;rintro e g ⟨rfl,rfl⟩;go_wp2;go_ret;exact⟨rfl,rfl⟩
structure Fd (w wr:Ag) (yb B m:Ad) (ps ps':A (Br Ad)) (y y':Yd) (i:Ad):Prop where
 inv:YInv wr yb B (Al S) ps' y'
 mv:YMv w wr yb ps ps'
 len:Z ps'=Z ps
 ok:YOk y'
 sent:Z y'.sent<=Z y.sent+i
theorem zeS {j:A (Br Ad)}{a:Br Eu}{l:A Ab}(h:YInv w yb B (Al S) j y)(hk:YOk y)(ho:y.isOpen (m+1:Ad)=true)(hr:RdO w (X a (Z l) k) l)(ha:Apart w yb j (X a (Z l) k))(ag:Z l<=2000000)(hs:Z y.sent<=10000000)(F:Z j<=1000000)(hB:B<=w.heap.size)(hG:Glob w)(E:GE w)(r:0<B/\Tryz.laysC172_ren.g 15<B):Am prog 26 #[Al (V ⟨yb,0,S⟩),O Ai (m+1:Ad),X a (Z l) k] w fun e w'=>e=Af (O Ai 0)/\∃ps',YInv w' yb B (Al S) ps' (y.fed0 m l)/\YMv w w' yb j ps'/\(Z ps')=Z j:=by
 have N:=hid (wW h (m+1:Ad) F);rw[ho] at N;have HZ:Y (Fd w w yb B m j j y (y.fed0 m (l.take 0)) 0):=⟨h,YMv.refl _ _ _,rfl,hk,Aq _⟩;have C:=hid hr;have u:Y (∀wr ps' y' i,Fd w wr yb B m j ps' y y' i->Am prog 46 #[Al (V ⟨yb,0,S⟩),O Ai (m+1:Ad)] wr fun e w'=>e=Af (Av (y'.isOpen (m+1:Ad)))/\w'=wr):=fun wr ps' y' i hF=>wW hF.inv _ (by rw[hF.len];exact F)
 have v:Y (∀wr ps' y' i,Fd w wr yb B m j ps' y y' i->RdO wr (X a (Z l) k) l):=fun wr ps' y' i hF=>hr.moved hF.mv ha
 have z:Y (∀wr ps' y' i (c:Ab),Fd w wr yb B m j ps' y y' i->i<Z l->y'.isOpen (m+1:Ad)=true->Am prog 47 #[Al (V ⟨yb,0,S⟩),O Ai (m+1:Ad),O Bp c.toNat] wr fun e w'=>e=Af (Cm #[])/\∃p,Fd w w' yb B m j p y (y'.take0 m c) (i+1)):=fun wr ps' y' i c hF hi d=>by
  obtain⟨m',e1,_,cb,c0,Q,_⟩:=hF.inv.open_at d;have e3:m=m':=by omega
  subst e3;have ah:=hF.mv.turn.size;refine(zbW hF.inv hF.ok Q c (by have:=hF.sent;omega) (by rw[hF.len];exact F) (by omega) (hG.moved hF.mv h rfl hB r.1) (E.moved hF.mv h rfl hB r.2) r).mono ?_;rintro e w' ⟨q1,p,q2,q3,q4⟩;exact⟨q1,p,⟨q2,hF.mv.trans q3,q4.trans hF.len,hF.ok.take0 m c,by have:=bG y' m c;have:=hF.sent;omega⟩⟩
 have t:Y (∀i,i<Z l->(y.fed0 m (l.take i)).isOpen (m+1:Ad)=false->y.fed0 m l=y.fed0 m (l.take i)):=fun i hi d=>by
  have:l=l.take i++l.drop i:=(He i l).symm;rw[this,gK,He,rR _ _ _ d]
 have x:Y (∀i (hi:i<Z l),(y.fed0 m (l.take i)).isOpen (m+1:Ad)=true->(y.fed0 m (l.take i)).take0 m l[i]=y.fed0 m (l.take (i+1))):=fun i hi d=>by
  rw[Sp,Bd hi];show _=y.fed0 m (l.take i++[l[i]]);rw[rS];unfold Yd.step0;rw[Az d]
 have s:Y (l.take (Z l)=l):=Ia;generalize((m+1:Ad):Ak)=n at*;go_in;go_wp2_with fail;refine N.o.mono ?_;rintro e w1 ⟨rfl,rfl⟩;go_wp2_with fail
 go_loopw [7] (fun iv wr=>∃i:Ad,i<=Z l/\iv=O Ai i/\∃ps',Y (Fd w1 wr yb B m j ps' y (y.fed0 m (l.take i)) i)) (fun iv _=>Z l-(intOf iv).toNat)
 ·exact⟨0,Ax _,rfl,j,HZ⟩
 ·
  obtain⟨i,af,rfl,ps',q⟩:=hrel
  by_cases f:i<Z l
  ·have ae:(i:Ak)<Z l:=by omega
   have HI:=hid (u.o wr ps' _ i q.o);have HR:=hid (v.o wr ps' _ i q.o);have HT:=hid (fun d=>z.o wr ps' _ i l[i] q.o f d);have HE:=hid (t.o i f);have HS:=hid (x.o i f);obtain⟨g,o,rfl,ad⟩:∃g o,a=V ⟨g,o,S⟩/\wr.cell? ⟨g,o+i,S⟩=V (O Bp l[i].toNat):=by
    rcases HR.o with ⟨_,_,e,Q⟩|⟨g,o,c,e,_,_,h3⟩
    ·rw[Q] at f;cases f
    ·simp only[Au,Fb] at e
     exact⟨g,o,e.1,h3 i _ (Bd f)⟩
   generalize aa:y.fed0 m (l.take i)=y' at*;generalize l[i]=c at*;generalize d:y'.isOpen n=b at*;have HB:=hid d;go_wp2_with fail;refine HI.o.mono ?_;rintro e w2 ⟨rfl,rfl⟩
   cases b
   ·go_wp2
    go_ret;exact⟨rfl,ps',by rw[HE.o trivial];exact q.o.inv,q.o.mv,q.o.len⟩
   ·go_wp2_with fail
    refine(HT.o trivial).mono ?_;rintro e w3 ⟨rfl,ab,F3⟩;have H:=hid F3;go_wp2_with fail
    go_roundw
    ·exact⟨i+1,by omega,by go_num,ab,by rw[<-HS.o trivial];exact H⟩
    ·simp[intOf];omega
  ·have E:i=Z l:=by omega
   subst E;rw[s.o] at q;go_wp2;go_ret;exact⟨rfl,ps',q.o.inv,q.o.mv,q.o.len⟩
def Yd.new:Yd:=⟨[],[],[]⟩
theorem YOk.new:YOk Yd.new:=fun m c h=>by simp[Yd.new] at h
abbrev Hx5:=Ae #[Al S,X S 0 0,X S 0 0,X S 0 0] 99
theorem zkL (w:Ag):Am prog 33 #[] w fun e w'=>∃yb,e=Af (Al (V ⟨yb,0,S⟩))/\yb=w.heap.size/\YInv w' yb w.heap.size (Al S) [] Yd.new/\w.grownBy w' S/\∀k,YF w' yb [] k->w.heap.size<=k:=by
 have d:=hid (Ac w Hx5 S);have c:=Bn w Hx5;have b:YInv (w.alloc Hx5) w.heap.size w.heap.size (Al S) [] Yd.new:=
  ⟨⟨_,_,_,c,⟨S,0,0,0,rfl,⟨Aq _,fun h=>by omega,fun h=>by omega,rfl,fun j u h=>by simp[Yd.new] at h,fun j h=>by simp at h⟩,fun a h=>by cases h⟩,Bk _ _ _ _,Bk _ _ _ _⟩,Aq _,rfl,fun i cb h=>by simp at h,fun i h=>by simp at h,fun i j cb cb' _ h=>by simp at h⟩
 have f:=hid b;have g:Y (∀k,YF (w.alloc Hx5) w.heap.size [] k->w.heap.size<=k):=fun k hk=>b.low_all rfl hk
 go_in;go_wp2;go_ret;exact⟨_,rfl,rfl,f.o,d.o,g.o⟩
theorem YInv.types {d:A (Br Ad)}(h:YInv w yb B g d y)(j:g.ownBlock=S)(b:YF w yb d k):∃a t f,w.heap[k]?=V (Ae a t f)/\(t∈ydTypes\/t∈cnTypes):=by
 rcases b with b|⟨i,cb,hi,b⟩
 ·obtain⟨_,a,t,e,m⟩:=h.hf j b
  exact⟨a,t,_,e,Ay m⟩
 ·obtain⟨c,_,q⟩:=h.here i cb hi
  obtain⟨_,a,t,f,e,m⟩:=q.cf b;exact⟨a,t,f,e,Bf m⟩
def ju (ov:A Bool)(n:Ak):Bool:=decide (1<=n) && (decide (n<=Z ov) && !(ov.getD (n-1).toNat true))
variable {ca:Br Eu}
theorem tH {g:Ad}{m p:Aj}(a:A Bool)(n:Ak)(c:w.heap[yb]?=V (Ae #[m,l,o,X ca (Z a) ck,p] 131 (0,0)))(d:∀k (h:k<Z a),ca=V ⟨g,0,S⟩/\w.cell? ⟨g,k*9,S⟩=V (Av a[k]))(r:Z a<=1000000):Am prog 98 #[Al (V ⟨yb,0,S⟩),O Ai n] w fun e w'=>e=Af (Av (ju a n))/\w'=w:=by
 have t:=cbi 3 c
 by_cases f:1<=n
 ·by_cases i:n<=Z a
  ·obtain⟨k,rfl⟩:∃k:Ad,n=((k+1:Ad):Ak):=⟨(n-1).toNat,by omega⟩
   have j:k<Z a:=by omega
   obtain⟨rfl,q⟩:=d k j;have b:Y (ju a ((k+1:Ad):Ak)=!a[k]):=by
    show _=_;unfold ju;rw[Cf f,Cf i,show(((k+1:Ad):Ak)-1).toNat=k by omega,Gf,Bd j]
    rfl
   have s:((k:Ad):Ak)<Z a:=by omega
   generalize a[k]=x at*;clear c d;go_in;go_wp2;go_ret;exact⟨by rw[b.o];rfl,rfl⟩
  ·have b:Y (ju a n=false):=by show _=_;unfold ju;rw[Ce i];simp
   clear c d;go_in;go_wp2;go_ret;exact⟨by rw[b.o];rfl,rfl⟩
 ·have b:Y (ju a n=false):=by show _=_;unfold ju;rw[Ce f];rfl
  clear c d;go_in;go_wp2;go_ret;exact⟨by rw[b.o];rfl,rfl⟩
theorem eI {g:Ad}{m:Aj}(a:A Bool)(n:Ak)(c:w.heap[yb]?=V (Ae #[l,j,m,X ca (Z a) ck,o] 131 (0,0)))(d:∀k (h:k<Z a),ca=V ⟨g,0,S⟩/\w.cell? ⟨g,k*9,S⟩=V (Av a[k]))(i:Z a<=1000000)(f:ju a n=false):Am prog 63 #[Al (V ⟨yb,0,S⟩),O Ai n] w fun e w'=>e=Af (O Ai 7)/\w'=w:=by
 have b:=hid (tH a n c d i);rw[f] at b;go_in;go_wp2_with fail;refine b.o.mono ?_;rintro e p ⟨rfl,rfl⟩;go_wp2;go_ret;exact⟨rfl,rfl⟩
theorem oQ {g:Ad}{m:Aj}(v:Aj)(a:A Bool)(n:Ak)(c:w.heap[yb]?=V (Ae #[l,j,m,X ca (Z a) ck,o] 131 (0,0)))(d:∀k (h:k<Z a),ca=V ⟨g,0,S⟩/\w.cell? ⟨g,k*9,S⟩=V (Av a[k]))(i:Z a<=1000000)(f:ju a n=false):Am prog 97 #[Al (V ⟨yb,0,S⟩),O Ai n,v] w fun e w'=>e=Af (O Ai 7)/\w'=w:=by
 have b:=hid (tH a n c d i);rw[f] at b;go_in;go_wp2_with fail;refine b.o.mono ?_;rintro e p ⟨rfl,rfl⟩;go_wp2;go_ret;exact⟨rfl,rfl⟩
theorem zfV {g:Ad}{p q r:Aj}{j:Array Aj}(a:A Bool)(d:w.heap[yb]?=V (Ae #[p,o,q,X ca (Z a) ck,r] 131 (0,0)))(f:∀k (h:k<Z a),ca=V ⟨g,0,S⟩/\w.cell? ⟨g,k*9,S⟩=V (Av a[k]))(i:w.heap[g]?=V (Ae j 195 (0,0)))(n:Z a<=1000000)(b:ju a ((m+1:Ad):Ak)=true):Am prog 63 #[Al (V ⟨yb,0,S⟩),O Ai (m+1:Ad)] w fun e w'=>e=Af (O Ai 0)/\w'=w.setCell ⟨g,m*9,S⟩ (Av true):=by
 have c:=hid (tH a (m+1:Ad) d f n);rw[b] at c;have l:m<Z a:=by
  unfold ju at b;simp only[Ez,Gd] at b
  omega
 obtain⟨rfl,s⟩:=f m l;have v:=cbi 3 d;have t:w.frozen? ⟨g,m*9,S⟩=false:=zG i;have u:((m:Ad):Ak)<Z a:=by omega
 go_in;go_wp2_with fail;refine c.o.mono ?_;rintro e x ⟨rfl,rfl⟩;go_wp2;go_ret;exact⟨rfl,rfl⟩
end Go.Proofs.YtfocdefchbnkpaaGreatDoor
