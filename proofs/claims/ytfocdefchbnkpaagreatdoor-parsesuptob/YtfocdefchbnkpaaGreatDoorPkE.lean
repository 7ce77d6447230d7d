import Derived.Test.YtfocdefchbnkpaaGreatDoorProZ5
import Derived.Lib.SlBytesConst
set_option maxRecDepth 100000
set_option maxHeartbeats 20000000
open Go renaming World->Ag,Calls->Am,heap_alloc_new->Bn,Value->Aj,convert->Oh,maxLen->Bh,info_parts->Ej,wpList_append_own->Cu,run_convert_bytes_back->Qb
open Go.Ending renaming returned->Af
open Go.IntKind renaming i64->Ai,u8->Bp
open Go.Lib renaming byteCells->Ba
open Go.Obj renaming cells->Ae
open Go.Proofs.YtfocdefchbnkpaaGreatDoor.R renaming str->Aa,str_toList->Be,str_size->Bz,header->Ft
open Go.RowKit renaming wrap64->Sv
open Go.Value renaming string->I,slice->X,int->O,bool->Av,pointer->Al
open Go.Value.slice renaming injEq->Au
open Go.World renaming grownBy_alloc->Ac,ownsRow_nil->Bk,ownsRow->Ib
open Go.World.ownsRow renaming form->Bm,cellAt->Ap,alloc->Ao,lt->An
open List renaming length->Z
open Option renaming some->V,none->S
open Or renaming inl->Ay
open UInt8 renaming ofNat->Cb
open _root_ renaming List->A,UInt8->Ab,Nat->Ad,Int->Ak,Option->Br
namespace Go.Proofs.YtfocdefchbnkpaaGreatDoor
open Go.RowKit Tryz
theorem xx {α:Type}(f:α->A Ab)(B:Ad)(l:A α)(h:∀x∈l,Z (f x)<=B):Z (zR f l)<=1+Z l*B:=by
 unfold zR;rw[Bb];have:=R.flat_len f B l h
 omega
theorem zhQ {m:P.Mt}(h:VMt m):Z (K.mt m)<=60:=by grind[K.mt,List.length_append,qr,List.length_cons,P.Mt,VMt]
theorem zj5 {t:A Ab×Ak}(h:VTg t):Z (K.tg t)<=60:=by grind[K.tg,List.length_append,qr,kw,VTg]
theorem ziW {t:A Ab×A Ab}(h:VSt t):Z (K.st t)<=60:=by grind[K.st,List.length_append,qr,VSt]
theorem ziQ (s:A Ab):xc (!decide (s=[])) s=f7 s:=by simp_all[xc,f7]
theorem l8 (s:A Ab):(Aa s).toList.isEmpty=decide (s=[]):=by
 rw[ByteArray.toList_eq,Be]
 cases s <;> rfl
theorem join7 (a b c d e f g:A Ab):xW [a,b,c,d,e,f,g]=a++(b++(c++(d++(e++(f++g))))):=by unfold xW;simp
abbrev Gy2 (a b c d):=Rd a (X b (Z (zM c)) d) (zM c)
abbrev Gy3 (a b c d):=Rd a (X b (Z (zR K.mt c)) d) (zR K.mt c)
abbrev Gy4 (a b c d):=Rd a (X b (Z (zR K.tg c)) d) (zR K.tg c)
abbrev Gy6 (a):=Z (zR K.st a)
theorem zfC (r:P.Rl)(g j m d:Br Addr)(i l n f:Ad)(w:Ag)(hM:w.ownsRow 0 276 3 (X g (Z r.ms) i) (Z r.ms) (xe r.ms))(az:w.ownsRow 0 285 2 (X j (Z r.tg) l) (Z r.tg) (zx r.tg))(hS:w.ownsRow 0 280 2 (X m (Z r.sets) n) (Z r.sets) (zi r.sets))(hD:w.ownsRow 0 9 1 (X d (Z r.drops) f) (Z r.drops) (zY r.drops))(v:VRl r):Am prog 110 #[.agg #[O Ai r.number,I (Aa r.path),X g (Z r.ms) i,X j (Z r.tg) l,I (Aa r.rep),X m (Z r.sets) n,X d (Z r.drops) f]] w (Gives w (qN r)):=by
 have b:Y ((w.alloc (Ae #[O Ai r.number,I (Aa r.path),X g (Z r.ms) i,X j (Z r.tg) l,I (Aa r.rep),X m (Z r.sets) n,X d (Z r.drops) f] 213)).heap[w.heap.size]?=V (Ae #[O Ai r.number,I (Aa r.path),X g (Z r.ms) i,X j (Z r.tg) l,I (Aa r.rep),X m (Z r.sets) n,X d (Z r.drops) f] 213)):=Bn _ _;have c0:=cbi 0 b.o;have c1:=cbi 1 b.o;have c2:=cbi 2 b.o;have c3:=cbi 3 b.o;have c4:=cbi 4 b.o;have c5:=cbi 5 b.o;have c6:=cbi 6 b.o;have o:Y (w.grownBy (w.alloc (Ae #[O Ai r.number,I (Aa r.path),X g (Z r.ms) i,X j (Z r.tg) l,I (Aa r.rep),X m (Z r.sets) n,X d (Z r.drops) f] 213)) S):=Ac _ _ _;have HM:=J (zK hM o.o (fun k hk c=>by cases c));have ad:=J (zK az o.o (fun k hk c=>by cases c));have ab:=J (zK hS o.o (fun k hk c=>by cases c));have aa:Y ((w.alloc (Ae #[O Ai r.number,I (Aa r.path),X g (Z r.ms) i,X j (Z r.tg) l,I (Aa r.rep),X m (Z r.sets) n,X d (Z r.drops) f] 213)).ownsRow 0 9 1 (X d (Z r.drops) f) (Z r.drops) (r.drops.map fun s=>[I (Aa s)]).flatten):=strRow1 (zK hD o.o (fun k hk c=>by cases c));have hb:=l8 r.rep;have l1:Z (zR K.mt r.ms)<=200:=by have:=xx K.mt 60 r.ms (fun x hx=>zhQ (v.ms x hx));have:=v.ml;omega
 have l2:Z (zR K.tg r.tg)<=300:=by have:=xx K.tg 60 r.tg (fun x hx=>zj5 (v.tg x hx));have:=v.tl;omega
 have l3:Z (zR K.st r.sets)<=200:=by have:=xx K.st 60 r.sets (fun x hx=>ziW (v.sets x hx));have:=v.sl;omega
 have l4:Z (zR zM r.drops)<=200:=by have:=xx zM 60 r.drops (fun x hx=>by rw[qr];have:=(v.drops x hx).nl;omega);have:=v.dl;omega
 have l5:Z r.rep<=24:=by rcases v.rep with h|h;rw[h];simp;exact h.2
 have l6:=v.pl;have hR:=ziQ r.rep;have p:=J (v);clear hM az hS hD v;have C1:Y (∀W,(w.alloc (Ae #[O Ai r.number,I (Aa r.path),X g (Z r.ms) i,X j (Z r.tg) l,I (Aa r.rep),X m (Z r.sets) n,X d (Z r.drops) f] 213)).grownBy W S->Am prog 111 #[O Ai r.number] W fun e w'=>∃a k,e=Af (X a (Z (qc r.number)) k)/\Rd w' (X a (Z (qc r.number)) k) (qc r.number)/\W.grownBy w' S/\(w.alloc (Ae #[O Ai r.number,I (Aa r.path),X g (Z r.ms) i,X j (Z r.tg) l,I (Aa r.rep),X m (Z r.sets) n,X d (Z r.drops) f] 213)).grownBy w' S/\w'.cell? ⟨w.heap.size,0,S⟩=V (O Ai r.number)/\w'.cell? ⟨w.heap.size,1,S⟩=V (I (Aa r.path))/\w'.cell? ⟨w.heap.size,2,S⟩=V (X g (Z r.ms) i)/\w'.cell? ⟨w.heap.size,3,S⟩=V (X j (Z r.tg) l)/\w'.cell? ⟨w.heap.size,4,S⟩=V (I (Aa r.rep))/\w'.cell? ⟨w.heap.size,5,S⟩=V (X m (Z r.sets) n)/\w'.cell? ⟨w.heap.size,6,S⟩=V (X d (Z r.drops) f)):=fun W hW=>(oI r.number W p.o.num.1).mono fun e w' ⟨a,k,h1,h2,h3⟩=>⟨a,k,h1,Rd.of_row h2,h3,zD hW h3,zB (zE b.o (zD hW h3)),zB (zE b.o (zD hW h3)),zB (zE b.o (zD hW h3)),zB (zE b.o (zD hW h3)),zB (zE b.o (zD hW h3)),zB (zE b.o (zD hW h3)),zB (zE b.o (zD hW h3))⟩
 have C2:Y (∀W,(w.alloc (Ae #[O Ai r.number,I (Aa r.path),X g (Z r.ms) i,X j (Z r.tg) l,I (Aa r.rep),X m (Z r.sets) n,X d (Z r.drops) f] 213)).grownBy W S->Am prog 108 #[I (Aa r.path)] W fun e w'=>∃a k,e=Af (X a (Z (zM r.path)) k)/\Rd w' (X a (Z (zM r.path)) k) (zM r.path)/\W.grownBy w' S/\(w.alloc (Ae #[O Ai r.number,I (Aa r.path),X g (Z r.ms) i,X j (Z r.tg) l,I (Aa r.rep),X m (Z r.sets) n,X d (Z r.drops) f] 213)).grownBy w' S/\w'.cell? ⟨w.heap.size,0,S⟩=V (O Ai r.number)/\w'.cell? ⟨w.heap.size,1,S⟩=V (I (Aa r.path))/\w'.cell? ⟨w.heap.size,2,S⟩=V (X g (Z r.ms) i)/\w'.cell? ⟨w.heap.size,3,S⟩=V (X j (Z r.tg) l)/\w'.cell? ⟨w.heap.size,4,S⟩=V (I (Aa r.rep))/\w'.cell? ⟨w.heap.size,5,S⟩=V (X m (Z r.sets) n)/\w'.cell? ⟨w.heap.size,6,S⟩=V (X d (Z r.drops) f)):=fun W hW=>(vt r.path W).mono fun e w' ⟨a,k,h1,h2,h3⟩=>⟨a,k,h1,Rd.of_row h2,h3,zD hW h3,zB (zE b.o (zD hW h3)),zB (zE b.o (zD hW h3)),zB (zE b.o (zD hW h3)),zB (zE b.o (zD hW h3)),zB (zE b.o (zD hW h3)),zB (zE b.o (zD hW h3)),zB (zE b.o (zD hW h3))⟩
 have C3:Y (∀W,(w.alloc (Ae #[O Ai r.number,I (Aa r.path),X g (Z r.ms) i,X j (Z r.tg) l,I (Aa r.rep),X m (Z r.sets) n,X d (Z r.drops) f] 213)).grownBy W S->Am prog 162 #[.func (.func 163) #[] #[],X g (Z r.ms) i] W fun e w'=>∃a k,e=Af (X a (Z (zR K.mt r.ms)) k)/\Rd w' (X a (Z (zR K.mt r.ms)) k) (zR K.mt r.ms)/\W.grownBy w' S/\(w.alloc (Ae #[O Ai r.number,I (Aa r.path),X g (Z r.ms) i,X j (Z r.tg) l,I (Aa r.rep),X m (Z r.sets) n,X d (Z r.drops) f] 213)).grownBy w' S/\w'.cell? ⟨w.heap.size,0,S⟩=V (O Ai r.number)/\w'.cell? ⟨w.heap.size,1,S⟩=V (I (Aa r.path))/\w'.cell? ⟨w.heap.size,2,S⟩=V (X g (Z r.ms) i)/\w'.cell? ⟨w.heap.size,3,S⟩=V (X j (Z r.tg) l)/\w'.cell? ⟨w.heap.size,4,S⟩=V (I (Aa r.rep))/\w'.cell? ⟨w.heap.size,5,S⟩=V (X m (Z r.sets) n)/\w'.cell? ⟨w.heap.size,6,S⟩=V (X d (Z r.drops) f)):=fun W hW=>(zf0 r.ms _ (zK HM.o hW (fun k hk c=>by cases c)) (by have:=p.o.ml;omega) (fun x hx=>⟨by have:=(p.o.ms x hx).nl;omega,by have:=(p.o.ms x hx).vl;omega⟩) (by omega)).mono fun e w' ⟨a,k,h1,h2,h3⟩=>⟨a,k,h1,Rd.of_row h2,h3,zD hW h3,zB (zE b.o (zD hW h3)),zB (zE b.o (zD hW h3)),zB (zE b.o (zD hW h3)),zB (zE b.o (zD hW h3)),zB (zE b.o (zD hW h3)),zB (zE b.o (zD hW h3)),zB (zE b.o (zD hW h3))⟩
 have C4:Y (∀W,(w.alloc (Ae #[O Ai r.number,I (Aa r.path),X g (Z r.ms) i,X j (Z r.tg) l,I (Aa r.rep),X m (Z r.sets) n,X d (Z r.drops) f] 213)).grownBy W S->Am prog 164 #[.func (.func 165) #[] #[],X j (Z r.tg) l] W fun e w'=>∃a k,e=Af (X a (Z (zR K.tg r.tg)) k)/\Rd w' (X a (Z (zR K.tg r.tg)) k) (zR K.tg r.tg)/\W.grownBy w' S/\(w.alloc (Ae #[O Ai r.number,I (Aa r.path),X g (Z r.ms) i,X j (Z r.tg) l,I (Aa r.rep),X m (Z r.sets) n,X d (Z r.drops) f] 213)).grownBy w' S/\w'.cell? ⟨w.heap.size,0,S⟩=V (O Ai r.number)/\w'.cell? ⟨w.heap.size,1,S⟩=V (I (Aa r.path))/\w'.cell? ⟨w.heap.size,2,S⟩=V (X g (Z r.ms) i)/\w'.cell? ⟨w.heap.size,3,S⟩=V (X j (Z r.tg) l)/\w'.cell? ⟨w.heap.size,4,S⟩=V (I (Aa r.rep))/\w'.cell? ⟨w.heap.size,5,S⟩=V (X m (Z r.sets) n)/\w'.cell? ⟨w.heap.size,6,S⟩=V (X d (Z r.drops) f)):=fun W hW=>(zf3 r.tg _ (zK ad.o hW (fun k hk c=>by cases c)) (by have:=p.o.tl;omega) (fun x hx=>⟨by have:=(p.o.tg x hx).ul;omega,by have:=(p.o.tg x hx).lo;omega⟩) (by omega)).mono fun e w' ⟨a,k,h1,h2,h3⟩=>⟨a,k,h1,Rd.of_row h2,h3,zD hW h3,zB (zE b.o (zD hW h3)),zB (zE b.o (zD hW h3)),zB (zE b.o (zD hW h3)),zB (zE b.o (zD hW h3)),zB (zE b.o (zD hW h3)),zB (zE b.o (zD hW h3)),zB (zE b.o (zD hW h3))⟩
 have C5:Y (∀W,(w.alloc (Ae #[O Ai r.number,I (Aa r.path),X g (Z r.ms) i,X j (Z r.tg) l,I (Aa r.rep),X m (Z r.sets) n,X d (Z r.drops) f] 213)).grownBy W S->Am prog 166 #[Av (!decide (r.rep=[])),I (Aa r.rep)] W fun e w'=>∃a k,e=Af (X a (Z (xc (!decide (r.rep=[])) r.rep)) k)/\Rd w' (X a (Z (xc (!decide (r.rep=[])) r.rep)) k) (xc (!decide (r.rep=[])) r.rep)/\W.grownBy w' S/\(w.alloc (Ae #[O Ai r.number,I (Aa r.path),X g (Z r.ms) i,X j (Z r.tg) l,I (Aa r.rep),X m (Z r.sets) n,X d (Z r.drops) f] 213)).grownBy w' S/\w'.cell? ⟨w.heap.size,0,S⟩=V (O Ai r.number)/\w'.cell? ⟨w.heap.size,1,S⟩=V (I (Aa r.path))/\w'.cell? ⟨w.heap.size,2,S⟩=V (X g (Z r.ms) i)/\w'.cell? ⟨w.heap.size,3,S⟩=V (X j (Z r.tg) l)/\w'.cell? ⟨w.heap.size,4,S⟩=V (I (Aa r.rep))/\w'.cell? ⟨w.heap.size,5,S⟩=V (X m (Z r.sets) n)/\w'.cell? ⟨w.heap.size,6,S⟩=V (X d (Z r.drops) f)):=fun W hW=>(gW (!decide (r.rep=[])) r.rep W (by omega)).mono fun e w' ⟨a,k,h1,h2,h3⟩=>⟨a,k,h1,Rd.of_row h2,h3,zD hW h3,zB (zE b.o (zD hW h3)),zB (zE b.o (zD hW h3)),zB (zE b.o (zD hW h3)),zB (zE b.o (zD hW h3)),zB (zE b.o (zD hW h3)),zB (zE b.o (zD hW h3)),zB (zE b.o (zD hW h3))⟩
 have C6:Y (∀W,(w.alloc (Ae #[O Ai r.number,I (Aa r.path),X g (Z r.ms) i,X j (Z r.tg) l,I (Aa r.rep),X m (Z r.sets) n,X d (Z r.drops) f] 213)).grownBy W S->Am prog 167 #[.func (.func 168) #[] #[],X m (Z r.sets) n] W fun e w'=>∃a k,e=Af (X a (Gy6 r.sets) k)/\Rd w' (X a (Gy6 r.sets) k) (zR K.st r.sets)/\W.grownBy w' S/\(w.alloc (Ae #[O Ai r.number,I (Aa r.path),X g (Z r.ms) i,X j (Z r.tg) l,I (Aa r.rep),X m (Z r.sets) n,X d (Z r.drops) f] 213)).grownBy w' S/\w'.cell? ⟨w.heap.size,0,S⟩=V (O Ai r.number)/\w'.cell? ⟨w.heap.size,1,S⟩=V (I (Aa r.path))/\w'.cell? ⟨w.heap.size,2,S⟩=V (X g (Z r.ms) i)/\w'.cell? ⟨w.heap.size,3,S⟩=V (X j (Z r.tg) l)/\w'.cell? ⟨w.heap.size,4,S⟩=V (I (Aa r.rep))/\w'.cell? ⟨w.heap.size,5,S⟩=V (X m (Z r.sets) n)/\w'.cell? ⟨w.heap.size,6,S⟩=V (X d (Z r.drops) f)):=fun W hW=>(zf2 r.sets _ (zK ab.o hW (fun k hk c=>by cases c)) (by have:=p.o.sl;omega) (fun x hx=>⟨by have:=(p.o.sets x hx).nl;omega,by have:=(p.o.sets x hx).vl;omega⟩) (by omega)).mono fun e w' ⟨a,k,h1,h2,h3⟩=>⟨a,k,h1,Rd.of_row h2,h3,zD hW h3,zB (zE b.o (zD hW h3)),zB (zE b.o (zD hW h3)),zB (zE b.o (zD hW h3)),zB (zE b.o (zD hW h3)),zB (zE b.o (zD hW h3)),zB (zE b.o (zD hW h3)),zB (zE b.o (zD hW h3))⟩
 have C7:Y (∀W,(w.alloc (Ae #[O Ai r.number,I (Aa r.path),X g (Z r.ms) i,X j (Z r.tg) l,I (Aa r.rep),X m (Z r.sets) n,X d (Z r.drops) f] 213)).grownBy W S->Am prog 169 #[.func (.func 108) #[] #[],X d (Z r.drops) f] W fun e w'=>∃a k,e=Af (X a (Z (zR zM r.drops)) k)/\Rd w' (X a (Z (zR zM r.drops)) k) (zR zM r.drops)/\W.grownBy w' S/\(w.alloc (Ae #[O Ai r.number,I (Aa r.path),X g (Z r.ms) i,X j (Z r.tg) l,I (Aa r.rep),X m (Z r.sets) n,X d (Z r.drops) f] 213)).grownBy w' S/\w'.cell? ⟨w.heap.size,0,S⟩=V (O Ai r.number)/\w'.cell? ⟨w.heap.size,1,S⟩=V (I (Aa r.path))/\w'.cell? ⟨w.heap.size,2,S⟩=V (X g (Z r.ms) i)/\w'.cell? ⟨w.heap.size,3,S⟩=V (X j (Z r.tg) l)/\w'.cell? ⟨w.heap.size,4,S⟩=V (I (Aa r.rep))/\w'.cell? ⟨w.heap.size,5,S⟩=V (X m (Z r.sets) n)/\w'.cell? ⟨w.heap.size,6,S⟩=V (X d (Z r.drops) f)):=fun W hW=>(zeY r.drops _ (zK aa.o hW (fun k hk c=>by cases c)) (by have:=p.o.dl;omega) (fun x hx=>by have:=(p.o.drops x hx).nl;omega) (by omega)).mono fun e w' ⟨a,k,h1,h2,h3⟩=>⟨a,k,h1,Rd.of_row h2,h3,zD hW h3,zB (zE b.o (zD hW h3)),zB (zE b.o (zD hW h3)),zB (zE b.o (zD hW h3)),zB (zE b.o (zD hW h3)),zB (zE b.o (zD hW h3)),zB (zE b.o (zD hW h3)),zB (zE b.o (zD hW h3))⟩
 have HJ:Y (∀W q t u y z B C E F H a6 k6 a7 k7,(w.alloc (Ae #[O Ai r.number,I (Aa r.path),X g (Z r.ms) i,X j (Z r.tg) l,I (Aa r.rep),X m (Z r.sets) n,X d (Z r.drops) f] 213)).grownBy W S->Rd W (X q (Z (qc r.number)) t) (qc r.number)->Rd W (X u (Z (zM r.path)) y) (zM r.path)->Rd W (X z (Z (zR K.mt r.ms)) B) (zR K.mt r.ms)->Rd W (X C (Z (zR K.tg r.tg)) E) (zR K.tg r.tg)->Rd W (X F (Z (xc (!decide (r.rep=[])) r.rep)) H) (xc (!decide (r.rep=[])) r.rep)->Rd W (X a6 (Gy6 r.sets) k6) (zR K.st r.sets)->Rd W (X a7 (Z (zR zM r.drops)) k7) (zR zM r.drops)->Am prog 70 #[X (V ⟨W.heap.size,0,S⟩) 7 7] (W.alloc (Ae #[X q (Z (qc r.number)) t,X u (Z (zM r.path)) y,X z (Z (zR K.mt r.ms)) B,X C (Z (zR K.tg r.tg)) E,X F (Z (xc (!decide (r.rep=[])) r.rep)) H,X a6 (Gy6 r.sets) k6,X a7 (Z (zR zM r.drops)) k7] 32)) fun e w'=>Gives w (qN r) e w'/\w'.cell? ⟨w.heap.size,0,S⟩=V (O Ai r.number)/\w'.cell? ⟨w.heap.size,1,S⟩=V (I (Aa r.path))/\w'.cell? ⟨w.heap.size,2,S⟩=V (X g (Z r.ms) i)/\w'.cell? ⟨w.heap.size,3,S⟩=V (X j (Z r.tg) l)/\w'.cell? ⟨w.heap.size,4,S⟩=V (I (Aa r.rep))/\w'.cell? ⟨w.heap.size,5,S⟩=V (X m (Z r.sets) n)/\w'.cell? ⟨w.heap.size,6,S⟩=V (X d (Z r.drops) f)):=fun W q t u y z B C E F H a6 k6 a7 k7 hW r1 r2 r3 r4 r5 r6 r7=>by
  have h:=yZ hW [X q (Z (qc r.number)) t,X u (Z (zM r.path)) y,X z (Z (zR K.mt r.ms)) B,X C (Z (zR K.tg r.tg)) E,X F (Z (xc (!decide (r.rep=[])) r.rep)) H,X a6 (Gy6 r.sets) k6,X a7 (Z (zR zM r.drops)) k7] [qc r.number,zM r.path,zR K.mt r.ms,zR K.tg r.tg,xc (!decide (r.rep=[])) r.rep,zR K.st r.sets,zR zM r.drops] (.cons r1 (.cons r2 (.cons r3 (.cons r4 (.cons r5 (.cons r6 (.cons r7 .nil))))))) (by rw[join7];have:=lO (!decide (r.rep=[])) r.rep;simp only[Ah,qr,kw];omega);rw[show xW [qc r.number,zM r.path,zR K.mt r.ms,zR K.tg r.tg,xc (!decide (r.rep=[])) r.rep,zR K.st r.sets,zR zM r.drops]=qN r by rw[join7,hR];rfl] at h;refine Calls.mono h fun e w' ⟨a,k,h1,h2,h3⟩=>⟨⟨a,k,h1,ke h2 o.o.size,zD o.o h3⟩,zB (zE b.o h3),zB (zE b.o h3),zB (zE b.o h3),zB (zE b.o h3),zB (zE b.o h3),zB (zE b.o h3),zB (zE b.o h3)⟩
 clear hR l1 l2 l3 l4 l5 l6;go_in;go_wp2_with fail;generalize(w.alloc (Ae #[O Ai r.number,I (Aa r.path),X g (Z r.ms) i,X j (Z r.tg) l,I (Aa r.rep),X m (Z r.sets) n,X d (Z r.drops) f] 213))=wa at*
 go_region_held3 (fun W=>W.cell? ⟨w.heap.size,0,S⟩=V (O Ai r.number)/\W.cell? ⟨w.heap.size,1,S⟩=V (I (Aa r.path))/\W.cell? ⟨w.heap.size,2,S⟩=V (X g (Z r.ms) i)/\W.cell? ⟨w.heap.size,3,S⟩=V (X j (Z r.tg) l)/\W.cell? ⟨w.heap.size,4,S⟩=V (I (Aa r.rep))/\W.cell? ⟨w.heap.size,5,S⟩=V (X m (Z r.sets) n)/\W.cell? ⟨w.heap.size,6,S⟩=V (X d (Z r.drops) f)) (go_keep) (first
  |(go_at_call 111;show Am _ _ _ (World.drew wa) _;refine(C1.o _ (zV wa)).mono ?_;rintro e w1 ⟨q,t,rfl,r1,g1,G1,aH,aI,aJ,aK,aL,aM,aN⟩;have N:Y (Rd w1 (X q (Z (qc r.number)) t) (qc r.number)):=r1;have G1:Y (wa.grownBy w1 S):=G1;clear r1 g1)
  |(go_at_call 108;refine(C2.o _ G1.o).mono ?_;rintro e w2 ⟨u,y,rfl,r2,g2,G2,aO,aP,aQ,aR,aS,aT,aU⟩;have ai:Y (Gy2 w2 u r.path y):=r2;have Q:Y (Rd w2 (X q (Z (qc r.number)) t) (qc r.number)):=N.o.keep g2;have G2:Y (wa.grownBy w2 S):=G2;clear r2 g2 N G1)
  |(go_at_call 162;refine(C3.o _ G2.o).mono ?_;rintro e w3 ⟨z,B,rfl,r3,g3,G3,aV,aW,aX,aY,a0,a8,a9⟩;have an:Y (Gy3 w3 z r.ms B):=r3;have ae:Y (Rd w3 (X q (Z (qc r.number)) t) (qc r.number)):=Q.o.keep g3;have aj:Y (Gy2 w3 u r.path y):=ai.o.keep g3;have G3:Y (wa.grownBy w3 S):=G3;clear r3 g3 Q ai G2)
  |(go_at_call 164;refine(C4.o _ G3.o).mono ?_;rintro e w4 ⟨C,E,rfl,r4,g4,G4,ba,bb,bc,bd,be,bf,bg⟩;have ar:Y (Gy4 w4 C r.tg E):=r4;have af:Y (Rd w4 (X q (Z (qc r.number)) t) (qc r.number)):=ae.o.keep g4;have ak:Y (Gy2 w4 u r.path y):=aj.o.keep g4;have ao:Y (Gy3 w4 z r.ms B):=an.o.keep g4;have G4:Y (wa.grownBy w4 S):=G4;clear r4 g4 ae aj an G3)
  |(go_at_call 166;refine(C5.o _ G4.o).mono ?_;rintro e w5 ⟨F,H,rfl,r5,g5,G5,bh,bi,bj,bk,bl,bm,bn⟩;have aw:Y (Rd w5 (X F (Z (xc (!decide (r.rep=[])) r.rep)) H) (xc (!decide (r.rep=[])) r.rep)):=r5;have ag:Y (Rd w5 (X q (Z (qc r.number)) t) (qc r.number)):=af.o.keep g5;have al:Y (Gy2 w5 u r.path y):=ak.o.keep g5;have ap:Y (Gy3 w5 z r.ms B):=ao.o.keep g5;have au:Y (Gy4 w5 C r.tg E):=ar.o.keep g5;have G5:Y (wa.grownBy w5 S):=G5;clear r5 g5 af ak ao ar G4)
  |(go_at_call 167;refine(C6.o _ G5.o).mono ?_;rintro e w6 ⟨a6,k6,rfl,r6,g6,G6,bo,bp,bq,br,bs,bt,bu⟩;have ay:Y (Rd w6 (X a6 (Gy6 r.sets) k6) (zR K.st r.sets)):=r6;have ah:Y (Rd w6 (X q (Z (qc r.number)) t) (qc r.number)):=ag.o.keep g6;have am:Y (Gy2 w6 u r.path y):=al.o.keep g6;have aq:Y (Gy3 w6 z r.ms B):=ap.o.keep g6;have av:Y (Gy4 w6 C r.tg E):=au.o.keep g6;have ax:Y (Rd w6 (X F (Z (xc (!decide (r.rep=[])) r.rep)) H) (xc (!decide (r.rep=[])) r.rep)):=aw.o.keep g6;have G6:Y (wa.grownBy w6 S):=G6;clear r6 g6 ag al ap au aw G5)
  |(go_at_call 169;refine(C7.o _ G6.o).mono ?_;rintro e w7 ⟨a7,k7,rfl,r7,g7,G7,bv,bw,bx,bz,bA,bB,bC⟩;have aG:Y (Rd w7 (X a7 (Z (zR zM r.drops)) k7) (zR zM r.drops)):=r7;have aA:Y (Rd w7 (X q (Z (qc r.number)) t) (qc r.number)):=ah.o.keep g7;have aB:Y (Gy2 w7 u r.path y):=am.o.keep g7;have aC:Y (Gy3 w7 z r.ms B):=aq.o.keep g7;have aD:Y (Gy4 w7 C r.tg E):=av.o.keep g7;have aE:Y (Rd w7 (X F (Z (xc (!decide (r.rep=[])) r.rep)) H) (xc (!decide (r.rep=[])) r.rep)):=ax.o.keep g7;have aF:Y (Rd w7 (X a6 (Gy6 r.sets) k6) (zR K.st r.sets)):=ay.o.keep g7;have G7:Y (wa.grownBy w7 S):=G7;clear r7 g7 ah am aq av ax ay G6)
  |(go_at_call 70;refine(HJ.o _ q t u y z B C E F H a6 k6 a7 k7 G7.o aA.o aB.o aC.o aD.o aE.o aF.o aG.o).mono ?_;rintro e wZ ⟨⟨aZ,kZ,rfl,hZ,gZ⟩,z0,z1,z2,z3,z4,z5,z6⟩;have HZ:Y (wZ.ownsRow w.heap.size 5 1 (X aZ (Z (qN r)) kZ) (Z (qN r)) (Ba (qN r))):=hZ;have GZ:Y (w.grownBy wZ S):=gZ;clear hZ gZ))
 all_goals
  go_wp2;go_ret;exact⟨aZ,kZ,rfl,HZ.o,GZ.o⟩
theorem zdA {r:P.Rl}(a:VRl r):Z (qN r)<=1200:=by
 have b:=xx K.mt 60 r.ms (fun x hx=>zhQ (a.ms x hx));have c:=xx K.tg 60 r.tg (fun x hx=>zj5 (a.tg x hx));have d:=xx K.st 60 r.sets (fun x hx=>ziW (a.sets x hx));have f:=xx zM 60 r.drops (fun x hx=>by rw[qr];have:=(a.drops x hx).nl;omega)
 grind[xx,K.mt,zhQ,K.tg,zj5,K.st,ziW,zM,qr,f7,List.length_cons,qN,List.length_append,kw,P.Rl,VRl]
variable {w w':Ag}
theorem zf1 (l:A P.Rl)(v:Aj)(ab:A (A Aj))(d:w.ownsRow 0 213 7 v (Z l) ab.flatten)(m:All2 (PRuleVal w) ab l)(hn:Z l<=255)(hv:∀x∈l,VRl x)(o:Z (zR qN l)<=900000):Am prog 109 #[.func (.func 110) #[] #[],v] w (Gives w (zR qN l)):=by
 obtain⟨va,vc,rfl⟩:=zL d;have HR:=J (d);have HA:=J (m);have HV:=J (hv);have N:=J (o);go_in;go_wp2_with fail;refine(kC (Z l) w).mono ?_;rintro e w0 ⟨a0,k0,rfl,h0,g0⟩;have Q:=J (h0);have F:=J (g0);go_wp2_with fail
 go_loopw [5,13] (fun sv iv wr=>∃i:Ad,i<=Z l/\iv=O Ai i/\(∃a k,sv=X a (Z (zk qN l i)) k/\Y (wr.ownsRow w.heap.size 5 1 (X a (Z (zk qN l i)) k) (Z (zk qN l i)) (Ba (zk qN l i))))/\Y (w.grownBy wr S)) (fun _ iv _=>Z l-(intOf iv).toNat)
 ·exact⟨0,Ax _,rfl,⟨a0,k0,rfl,Q⟩,F⟩
 ·
  obtain⟨i,au,rfl,⟨a,k,rfl,HO⟩,E⟩:=hrel
  by_cases C:i<Z l
  ·have ar:(i:Ak)<Z l:=by omega
   obtain⟨gt,ap,af,_,aq⟩:=Bm HR.o (by omega);simp only[Au] at af;obtain⟨rfl,_,rfl⟩:=af;have ag:=zK HR.o E.o (fun k hk c=>by cases c);obtain⟨ce,ad,ae⟩:=aE HA.o i C;have n:=ad.keep E.o (za _ _);have b:∀j,j<7->wr.cell? ⟨gt,i*7+j,S⟩=ce[j]?:=fun j hj=>by
    rw[Ap ag (i*7+j) (by omega)];exact ae j hj
   have ah:=HV.o l[i] (Cr C);have y:=J (jY qN l i C);have av:Z (zk qN l (i+1))<=900000:=Bi (vf qN l (i+1)) N.o;generalize l[i]=x at*;obtain⟨vM,vT,vS,vD,rfl,hM,B,hS,hD⟩:=id n;obtain⟨p,q,rfl⟩:=zL hM;obtain⟨r,s,rfl⟩:=zL B;obtain⟨t,u,rfl⟩:=zL hS;obtain⟨f,g,rfl⟩:=zL hD;have ai:wr.cell? ⟨gt,i*7,S⟩=V (O Ai x.number):=b 0 (by omega);have aj:wr.cell? ⟨gt,i*7+1,S⟩=V (I (Aa x.path)):=b 1 (by omega);have ak:wr.cell? ⟨gt,i*7+2,S⟩=V (X p (Z x.ms) q):=b 2 (by omega);have al:wr.cell? ⟨gt,i*7+3,S⟩=V (X r (Z x.tg) s):=b 3 (by omega);have am:wr.cell? ⟨gt,i*7+4,S⟩=V (I (Aa x.rep)):=b 4 (by omega);have an:wr.cell? ⟨gt,i*7+5,S⟩=V (X t (Z x.sets) u):=b 5 (by omega);have ao:wr.cell? ⟨gt,i*7+6,S⟩=V (X f (Z x.drops) g):=b 6 (by omega);have z:wr.grownBy (wr.alloc (Ae #[O Ai x.number,I (Aa x.path),X p (Z x.ms) q,X r (Z x.tg) s,I (Aa x.rep),X t (Z x.sets) u,X f (Z x.drops) g] 213)) S:=Ac _ _ S;have HI:Y (Am prog 110 #[.agg #[O Ai x.number,I (Aa x.path),X p (Z x.ms) q,X r (Z x.tg) s,I (Aa x.rep),X t (Z x.sets) u,X f (Z x.drops) g]] (wr.alloc (Ae #[O Ai x.number,I (Aa x.path),X p (Z x.ms) q,X r (Z x.tg) s,I (Aa x.rep),X t (Z x.sets) u,X f (Z x.drops) g] 213)) (Gives (wr.alloc (Ae #[O Ai x.number,I (Aa x.path),X p (Z x.ms) q,X r (Z x.tg) s,I (Aa x.rep),X t (Z x.sets) u,X f (Z x.drops) g] 213)) (qN x))):=zfC x p r t f q s u g (wr.alloc (Ae #[O Ai x.number,I (Aa x.path),X p (Z x.ms) q,X r (Z x.tg) s,I (Aa x.rep),X t (Z x.sets) u,X f (Z x.drops) g] 213)) (zK hM z (fun k hk c=>by cases c)) (zK B z (fun k hk c=>by cases c)) (zK hS z (fun k hk c=>by cases c)) (zK hD z (fun k hk c=>by cases c)) ah;have H:=J (zD E.o z);have R0:Y (Rd (wr.alloc (Ae #[O Ai x.number,I (Aa x.path),X p (Z x.ms) q,X r (Z x.tg) s,I (Aa x.rep),X t (Z x.sets) u,X f (Z x.drops) g] 213)) (X a (Z (zk qN l i)) k) (zk qN l i)):=(Rd.of_row HO.o).keep z;go_wp2_with fail;refine HI.o.mono ?_;rintro e w1 ⟨a1,k1,rfl,h1,g1⟩;have R1:=J (Rd.of_row h1);have aa:=J (R0.o.keep g1);have G1:=J (zD H.o g1);have HJ:Y (Am prog 70 #[X (V ⟨w1.heap.size,0,S⟩) 2 2] (w1.alloc (Ae #[X a (Z (zk qN l i)) k,X a1 (Z (qN x)) k1] 32)) (Gives w (zk qN l (i+1)))):=by
    have h:=yZ G1.o [X a (Z (zk qN l i)) k,X a1 (Z (qN x)) k1] [zk qN l i,qN x] (.cons aa.o (.cons R1.o .nil)) (by rw[y.o];omega);rw[y.o] at h;exact h
   go_wp2_with fail;refine HJ.o.mono ?_;rintro e w2 ⟨a2,k2,rfl,h2,g2⟩;have H2:=J (h2);have G2:=J (g2);go_wp2
   go_roundw
   ·exact⟨i+1,by omega,by go_num,⟨a2,k2,rfl,H2⟩,G2⟩
   ·simp[intOf];omega
  ·have hE:i=Z l:=by omega
   subst hE;have HC:=J (jw qN l);rw[HC.o] at HO ⊢;go_wp2;go_ret;exact⟨a,k,rfl,HO.o,E.o⟩
abbrev Gy1 (a b c d):=Ae #[I (Aa b),X c a d] 146
theorem zfB (x:P.Hst)(b:Br Addr)(c:Ad)(w:Ag)(N:PRulesRow w 0 (X b (Z x.rules) c) x.rules)(hn:Z x.name<=24)(aa:Z x.rules<=6)(t:∀r∈x.rules,VRl r):Am prog 72 #[.agg #[I (Aa x.name),X b (Z x.rules) c]] w (Gives w (qX x)):=by
 have d:Y ((w.alloc (Gy1 (Z x.rules) x.name b c)).heap[w.heap.size]?=V (Gy1 (Z x.rules) x.name b c)):=Bn _ _;have c0:=cbi 0 d.o;have c1:=cbi 1 d.o;have f:Y (w.grownBy (w.alloc (Gy1 (Z x.rules) x.name b c)) S):=Ac _ _ _;have n:Y (PRulesRow (w.alloc (Gy1 (Z x.rules) x.name b c)) 0 (X b (Z x.rules) c) x.rules):=N.keep f.o (za _ _);have l1:=xx qN 1200 x.rules (fun r hr=>zdA (t r hr));have v:=J (t);have C1:Y (∀W,(w.alloc (Gy1 (Z x.rules) x.name b c)).grownBy W S->Am prog 108 #[I (Aa x.name)] W fun e w'=>∃a k,e=Af (X a (Z (zM x.name)) k)/\Rd w' (X a (Z (zM x.name)) k) (zM x.name)/\W.grownBy w' S/\(w.alloc (Gy1 (Z x.rules) x.name b c)).grownBy w' S/\w'.cell? ⟨w.heap.size,0,S⟩=V (I (Aa x.name))/\w'.cell? ⟨w.heap.size,1,S⟩=V (X b (Z x.rules) c)):=fun W hW=>(vt x.name W).mono fun e w' ⟨a,k,h1,h2,h3⟩=>⟨a,k,h1,Rd.of_row h2,h3,zD hW h3,zB (zE d.o (zD hW h3)),zB (zE d.o (zD hW h3))⟩
 have C2:Y (∀W,(w.alloc (Gy1 (Z x.rules) x.name b c)).grownBy W S->Am prog 109 #[.func (.func 110) #[] #[],X b (Z x.rules) c] W fun e w'=>∃a k,e=Af (X a (Z (zR qN x.rules)) k)/\Rd w' (X a (Z (zR qN x.rules)) k) (zR qN x.rules)/\W.grownBy w' S/\(w.alloc (Gy1 (Z x.rules) x.name b c)).grownBy w' S/\w'.cell? ⟨w.heap.size,0,S⟩=V (I (Aa x.name))/\w'.cell? ⟨w.heap.size,1,S⟩=V (X b (Z x.rules) c)):=fun W hW=>((let ⟨css,q1,q2⟩:=n.o.keep hW (za _ _);zf1 x.rules _ css q1 q2 (by omega) v.o (by omega))).mono fun e w' ⟨a,k,h1,h2,h3⟩=>⟨a,k,h1,Rd.of_row h2,h3,zD hW h3,zB (zE d.o (zD hW h3)),zB (zE d.o (zD hW h3))⟩
 have HJ:Y (∀W i j l m,(w.alloc (Gy1 (Z x.rules) x.name b c)).grownBy W S->Rd W (X i (Z (zM x.name)) j) (zM x.name)->Rd W (X l (Z (zR qN x.rules)) m) (zR qN x.rules)->Am prog 70 #[X (V ⟨W.heap.size,0,S⟩) 2 2] (W.alloc (Ae #[X i (Z (zM x.name)) j,X l (Z (zR qN x.rules)) m] 32)) fun e w'=>Gives w (qX x) e w'/\w'.cell? ⟨w.heap.size,0,S⟩=V (I (Aa x.name))/\w'.cell? ⟨w.heap.size,1,S⟩=V (X b (Z x.rules) c)):=fun W i j l m hW b c=>by
  have h:=yZ hW [X i (Z (zM x.name)) j,X l (Z (zR qN x.rules)) m] [zM x.name,zR qN x.rules] (.cons b (.cons c .nil)) (by rw[join2,Ah,qr];omega);rw[show xW [zM x.name,zR qN x.rules]=qX x from join2 _ _] at h;refine Calls.mono h fun e w' ⟨a,k,h1,h2,h3⟩=>⟨⟨a,k,h1,ke h2 f.o.size,zD f.o h3⟩,zB (zE d.o h3),zB (zE d.o h3)⟩
 go_in;go_wp2_with fail;generalize(w.alloc (Gy1 (Z x.rules) x.name b c))=wa at*
 go_region_held3 (fun W=>W.cell? ⟨w.heap.size,0,S⟩=V (I (Aa x.name))/\W.cell? ⟨w.heap.size,1,S⟩=V (X b (Z x.rules) c)) (go_keep) (first
  |(go_at_call 108;show Am _ _ _ (World.drew wa) _;refine(C1.o _ (zV wa)).mono ?_;rintro e w1 ⟨i,j,rfl,b,g1,q,z,B⟩;have g:Y (Gy2 w1 i x.name j):=b;have q:Y (wa.grownBy w1 S):=q;clear b g1)
  |(go_at_call 109;refine(C2.o _ q.o).mono ?_;rintro e u ⟨l,m,rfl,c,F,s,C,E⟩;have p:Y (Rd u (X l (Z (zR qN x.rules)) m) (zR qN x.rules)):=c;have o:Y (Gy2 u i x.name j):=g.o.keep F;have s:Y (wa.grownBy u S):=s;clear c F g q)
  |(go_at_call 70;refine(HJ.o _ i j l m s.o o.o p.o).mono ?_;rintro e wZ ⟨⟨y,kZ,rfl,Q,H⟩,z0,z1⟩;have HZ:Y (wZ.ownsRow w.heap.size 5 1 (X y (Z (qX x)) kZ) (Z (qX x)) (Ba (qX x))):=Q;have GZ:Y (w.grownBy wZ S):=H;clear Q H))
 all_goals
  go_wp2;go_ret;exact⟨y,kZ,rfl,HZ.o,GZ.o⟩
structure VPk (x:P.Hst):Prop where
 nl:Z x.name<=24
 rl:Z x.rules<=6
 rules:∀r∈x.rules,VRl r
theorem aJ {x:P.Hst}(h:VPk x):Z (qX x)<=8000:=by
 have a:=xx qN 1200 x.rules (fun r hr=>zdA (h.rules r hr));have:=h.nl;have:=h.rl;unfold qX;rw[Ah,qr];omega
theorem zeZ (l:A P.Hst)(v:Aj)(C:A (A Aj))(d:w.ownsRow 0 146 2 v (Z l) C.flatten)(g:All2 (PHostVal w) C l)(hn:Z l<=255)(hv:∀x∈l,VPk x)(n:Z (zR qX l)<=900000):Am prog 71 #[.func (.func 72) #[] #[],v] w (Gives w (zR qX l)):=by
 obtain⟨va,vc,rfl⟩:=zL d;have HR:=J (d);have HA:=J (g);have HV:=J (hv);have y:=J (n);go_in;go_wp2_with fail;refine(kC (Z l) w).mono ?_;rintro e w0 ⟨a0,k0,rfl,h0,g0⟩;have z:=J (h0);have t:=J (g0);go_wp2_with fail
 go_loopw [5,13] (fun sv iv wr=>∃i:Ad,i<=Z l/\iv=O Ai i/\(∃a k,sv=X a (Z (zk qX l i)) k/\Y (wr.ownsRow w.heap.size 5 1 (X a (Z (zk qX l i)) k) (Z (zk qX l i)) (Ba (zk qX l i))))/\Y (w.grownBy wr S)) (fun _ iv _=>Z l-(intOf iv).toNat)
 ·exact⟨0,Ax _,rfl,⟨a0,k0,rfl,z⟩,t⟩
 ·
  obtain⟨i,ag,rfl,⟨a,k,rfl,Q⟩,s⟩:=hrel
  by_cases r:i<Z l
  ·have af:(i:Ak)<Z l:=by omega
   obtain⟨gt,ad,H,_,ae⟩:=Bm HR.o (by omega);simp only[Au] at H;obtain⟨rfl,_,rfl⟩:=H;have N:=zK HR.o s.o (fun k hk c=>by cases c);obtain⟨ce,E,F⟩:=mo HA.o i r;have m:=E.keep s.o (za _ _);have b:∀j,j<2->wr.cell? ⟨gt,i*2+j,S⟩=ce[j]?:=fun j hj=>by
    rw[Ap N (i*2+j) (by omega)];exact F j hj
   have f:=HV.o l[i] (Cr r);have q:=J (jY qX l i r);have ah:Z (zk qX l (i+1))<=900000:=Bi (vf qX l (i+1)) y.o;generalize l[i]=x at*;obtain⟨vR,rfl,hR⟩:=id m;obtain⟨o,p,rfl⟩:=uU hR;have aa:wr.cell? ⟨gt,i*2,S⟩=V (I (Aa x.name)):=b 0 (by omega);have ab:wr.cell? ⟨gt,i*2+1,S⟩=V (X o (Z x.rules) p):=b 1 (by omega);have gB:wr.grownBy (wr.alloc (Gy1 (Z x.rules) x.name o p)) S:=Ac _ _ S;have HI:Y (Am prog 72 #[.agg #[I (Aa x.name),X o (Z x.rules) p]] (wr.alloc (Gy1 (Z x.rules) x.name o p)) (Gives (wr.alloc (Gy1 (Z x.rules) x.name o p)) (qX x))):=zfB x o p (wr.alloc (Gy1 (Z x.rules) x.name o p)) (hR.keep gB (za _ _)) f.nl f.rl f.rules;have u:=J (zD s.o gB);have R0:Y (Rd (wr.alloc (Gy1 (Z x.rules) x.name o p)) (X a (Z (zk qX l i)) k) (zk qX l i)):=(Rd.of_row Q.o).keep gB;go_wp2_with fail;refine HI.o.mono ?_;rintro e w1 ⟨a1,k1,rfl,h1,g1⟩;have R1:=J (Rd.of_row h1);have B:=J (R0.o.keep g1);have G1:=J (zD u.o g1);have HJ:Y (Am prog 70 #[X (V ⟨w1.heap.size,0,S⟩) 2 2] (w1.alloc (Ae #[X a (Z (zk qX l i)) k,X a1 (Z (qX x)) k1] 32)) (Gives w (zk qX l (i+1)))):=by
    have h:=yZ G1.o [X a (Z (zk qX l i)) k,X a1 (Z (qX x)) k1] [zk qX l i,qX x] (.cons B.o (.cons R1.o .nil)) (by rw[q.o];omega);rw[q.o] at h;exact h
   go_wp2_with fail;refine HJ.o.mono ?_;rintro e w2 ⟨a2,k2,rfl,h2,g2⟩;have H2:=J (h2);have G2:=J (g2);go_wp2
   go_roundw
   ·exact⟨i+1,by omega,by go_num,⟨a2,k2,rfl,H2⟩,G2⟩
   ·simp[intOf];omega
  ·have hE:i=Z l:=by omega
   subst hE;have HC:=J (jw qX l);rw[HC.o] at Q ⊢;go_wp2;go_ret;exact⟨a,k,rfl,Q.o,s.o⟩
theorem zlK {n:Ad}(h:n<4294967296):vw n<4294967296:=by
 unfold vw
 split
 ·exact Nat.xor_lt_two_pow (n:=32) (by omega) (by decide)
 ·omega
def vV:Ad->Ad->Ad
 |0,s=>s
 |k+1,s=>vw (vV k s)
theorem aF (k:Ad){n:Ad}(h:n<4294967296):vV k n<4294967296:=by
 induction k <;> grind[zlK,vV]
theorem ze1 (s:Ad)(c:Ab):mF s c=vV 8 (s ^^^ c.toNat):=rfl
theorem pK {s:Ad}(c:Ab)(h:s<4294967296):s ^^^ c.toNat<4294967296:=Nat.xor_lt_two_pow (n:=32) h (by have:=c.toNat_lt;omega)
theorem zcU:∀(l:A Ab) (s:Ad),s<4294967296->l.foldl mF s<4294967296
 |[],_,h=>h
 |c::l,s,h=>zcU l (mF s c) (by rw[ze1];exact aF 8 (pK c h))
def ym (l:A Ab)(i:Ad):Ad:=(l.take i).foldl mF 4294967295
theorem tA (l:A Ab)(i:Ad):ym l i<4294967296:=zcU _ _ (by decide)
theorem rO (l:A Ab)(i:Ad)(h:i<Z l):ym l (i+1)=vV 8 (ym l i ^^^ l[i].toNat):=by
 unfold ym;rw[Co h,Mb];rfl
theorem zhX {q:Ad}(h:q<4294967296):4294967295 ^^^ q=4294967295-q:=by
 apply Nat.eq_of_testBit_eq
 intro i;have b:(4294967295:Ad)=2 ^ 32-1:=by decide
 have c:4294967295-q=2 ^ 32-(q+1):=by omega
 rw[Nat.testBit_xor,c,Nat.testBit_two_pow_sub_succ (by simpa using h),b,Nat.testBit_two_pow_sub_one]
 by_cases a:i<32
 ·simp[a]
 ·have:q.testBit i=false:=Nat.testBit_lt_two_pow (Eh h (by rw[show(4294967296:Ad)=2 ^ 32 by decide];exact Nat.pow_le_pow_right (by decide) (by omega)))
  simp[a,this]
theorem oB (n:Ad)(w:Ag)(d:n<4294967296):Am prog 112 #[O .u32 n] w fun e w'=>e=Af (O .u32 (vw n:Ad))/\w'=w:=by
 have c:=J (u32_xor_nat (n / 2) 3988292384 (by omega) (by decide));have b:Y (bits .and .u32 (n:Ak) 1=((n % 2:Ad):Ak)):=by
  have h:=u32_and_nat n 1 d (by decide);rw[Nat.and_one_is_mod] at h;exact h
 by_cases h:n % 2=1
 ·have a:Y (vw n=n / 2 ^^^ 3988292384):=by show _=_;unfold vw;rw[Az h]
  have f:(bits .and .u32 (n:Ak) 1 == 1)=true:=by rw[b.o,h];rfl
  go_in;go_wp2;go_ret;exact⟨by rw[a.o,<-c.o];rfl,rfl⟩
 ·have a:Y (vw n=n / 2):=by show _=_;unfold vw;rw[Aw h]
  have f:(bits .and .u32 (n:Ak) 1 == 1)=false:=by
   rw[b.o,Ch];omega
  go_in;go_wp2;go_ret;exact⟨by rw[a.o];rfl,rfl⟩
theorem zkQ (a:Br Addr)(k:Ad)(l:A Ab)(z:Rd w (X a (Z l) k) l)(hl:Z l<=1000000):Am prog 74 #[X a (Z l) k] w fun e w'=>e=Af (O .u32 (yg l:Ad))/\w'=w:=by
 have r:=J (z);go_in;go_wp2
 go_loopw [3,8] (fun sv iv wr=>∃i:Ad,i<=Z l/\iv=O Ai i/\sv=O .u32 (ym l i:Ad)/\wr=w) (fun _ iv _=>Z l-(intOf iv).toNat)
 ·exact⟨0,Ax _,rfl,rfl,rfl⟩
 ·
  obtain⟨i,N,rfl,rfl,n⟩:=hrel;rw[n]
  by_cases d:i<Z l
  ·have H:(i:Ak)<Z l:=by omega
   obtain⟨g,x,m,F,b⟩:∃g x,(X a (Z l) k:Aj)=X (V ⟨g,0,S⟩) (Z l) x/\g<w.heap.size/\∀j u,(Ba l)[j]?=V u->w.cell? ((⟨g,0,S⟩:Addr).add j)=V u:=by
    rcases r.o with ⟨_,h0⟩|h
    ·rw[h0] at d;cases d
    ·exact h
   simp only[Au,Fb] at m;obtain⟨rfl,rfl⟩:=m;have d0:w.cell? ⟨g,i,S⟩=V (O Bp l[i].toNat):=by
    have h:=b i (O Bp l[i].toNat) (by unfold Ba;rw[Fq,Bd d];rfl);rw[vJ,Gr] at h;exact h
   have C:=J (rO l i d);have hc:=l[i].toNat_lt;have hx:bits .xor .u32 (ym l i:Ak) (l[i].toNat:Ak)=((ym l i ^^^ l[i].toNat:Ad):Ak):=u32_xor_nat _ _ (tA l i) (by omega);have p:Y (ym l i ^^^ l[i].toNat<4294967296):=pK _ (tA l i);generalize l[i]=c at*;generalize hs:ym l i ^^^ c.toNat=s0 at*;have s:Y (∀j,Am prog 112 #[O .u32 (vV j s0:Ad)] w fun e w'=>e=Af (O .u32 (vV (j+1) s0:Ad))/\w'=w):=fun j=>oB (vV j s0) w (aF j p.o)
   go_wp2_with fail
   go_loopw [3,16] (fun sv jv wq=>∃j:Ad,j<=8/\jv=O Ai j/\sv=O .u32 (vV j s0:Ad)/\wq=w) (fun _ jv _=>8-(intOf jv).toNat)
   ·exact⟨0,by omega,rfl,rfl,rfl⟩
   ·
    obtain⟨j,Q,rfl,rfl,n⟩:=hrel;rw[n]
    by_cases hj:j<8
    ·have aa:(j:Ak)<8:=by omega
     have f:=s.o j;have t:=J (f);go_wp2_with (go_at_call 112;refine t.o.mono ?_;rintro e wX ⟨rfl,o⟩;rw[o];clear o wX)
     go_roundw
     ·exact⟨j+1,by omega,by go_num,rfl,by first|trivial|rfl⟩
     ·simp[intOf];omega
    ·have v:j=8:=by omega
     subst v;go_wp2
     go_roundw
     ·exact⟨i+1,by omega,by go_num,by rw[C.o],by first|trivial|rfl⟩
     ·simp[intOf];omega
  ·have v:i=Z l:=by omega
   subst v;have B:Y ((yg l:Ad)=4294967295-ym l (Z l)):=by show _=_;unfold yg ym;rw[Ia]
   have y:=tA l (Z l);have E:Y (bits .xor .u32 IntKind.u32.max (ym l (Z l):Ak)=((4294967295-ym l (Z l):Ad):Ak)):=by
    have h:=u32_xor_nat 4294967295 (ym l (Z l)) (by decide) y;rw[zhX y] at h;exact h
   generalize ym l (Z l)=q at*;go_wp2;go_ret;exact⟨by rw[B.o,<-E.o];rfl,rfl⟩
theorem zeA (n:Ad)(h:n<4294967296):xW [qc ((n % 65536:Ad):Ak),qc ((n / 65536:Ad):Ak)]=xF n:=by
 rw[join2];unfold qc xF;simp only[Xe,Of,Hc];rw[show n % 65536 % 256=n % 256 by omega,show n % 65536 / 256=n / 256 % 256 by omega,show n / 65536 / 256=n / 16777216 % 256 by omega]
theorem zi4 (n:Ad)(w:Ag)(p:n<4294967296):Am prog 73 #[O .u32 n] w (Gives w (xF n)):=by
 have B:Sv (bits .and .u32 (n:Ak) 65535)=((n % 65536:Ad):Ak):=by
  have h:=u32_and_nat n 65535 p (by decide);rw[show(65535:Ad)=2 ^ 16-1 by decide,Nat.and_two_pow_sub_one_eq_mod] at h;rw[show bits .and .u32 (n:Ak) 65535=((n % 65536:Ad):Ak) from h];simp only[Sv];omega
 have C:Sv ((n:Ak) / 65536)=((n / 65536:Ad):Ak):=by simp only[Sv];omega
 have b:=J (zeA n p);go_in;go_wp2_with fail;refine(eE (n % 65536) w).mono ?_;rintro e z ⟨j,q,rfl,m,l⟩;have a:=J (Rd.of_row m);have g:=J (l);go_wp2_with fail;refine(eE (n / 65536) z).mono ?_;rintro e s ⟨k,r,rfl,o,f⟩;have d:=J (Rd.of_row o);have c:=J (a.o.keep f);have t:=J (zD g.o f);go_wp2_with fail;have i:Y (Am prog 70 #[X (V ⟨s.heap.size,0,S⟩) 2 2] (s.alloc (Ae #[X j (Z (qc ((n % 65536:Ad):Ak))) q,X k (Z (qc ((n / 65536:Ad):Ak))) r] 32)) (Gives w (xF n))):=by
  have h:=yZ t.o [X j (Z (qc ((n % 65536:Ad):Ak))) q,X k (Z (qc ((n / 65536:Ad):Ak))) r] [qc ((n % 65536:Ad):Ak),qc ((n / 65536:Ad):Ak)] (.cons c.o (.cons d.o .nil)) (by rw[b.o];unfold xF;simp);rw[b.o] at h;exact h
 refine i.o.mono ?_;rintro e E ⟨u,y,rfl,x,v⟩;go_wp2;go_ret;exact⟨u,y,rfl,x,v⟩
abbrev Gy0:=Ae #[O Bp 83,O Bp 89,O Bp 49] 5 (3,4)
abbrev Gy5 (a b c):=Ae #[X b a c] 88
abbrev Gy7 (a):=X (V ⟨a+1,0,S⟩) 3 3
theorem sE (v:Aj)(a:A P.Hst)(B:PHostsRow w 0 v a)(hn:Z a<=4)(E:∀x∈a,VPk x):Am prog 43 #[.agg #[v]] w (Gives w (x4 a)):=by
 obtain⟨b,c,rfl⟩:∃b c,v=X b (Z a) c:=by obtain⟨m,p,_⟩:=B;exact zL p
 have z:w.grownBy ((w.alloc (Gy5 (Z a) b c)).alloc Gy0) S:=zD (Ac _ _ S) (Ac _ _ S);have g:(w.alloc (Gy5 (Z a) b c)).heap.size=w.heap.size+1:=by simp
 have C:=xx qX 8000 a (fun x hx=>aJ (E x hx));have Q:Y (Am prog 71 #[.func (.func 72) #[] #[],X b (Z a) c] ((w.alloc (Gy5 (Z a) b c)).alloc Gy0) (Gives ((w.alloc (Gy5 (Z a) b c)).alloc Gy0) (zR qX a))):=by
  obtain⟨m,q1,q2⟩:=B.keep z (za _ _);exact zeZ a _ m q1 q2 (by omega) E (by omega)
 have R0:Y (Rd ((w.alloc (Gy5 (Z a) b c)).alloc Gy0) (Gy7 w.heap.size) [83,89,49]):=by
  refine Or.inr ⟨w.heap.size+1,3,rfl,by rw[show((w.alloc (Gy5 (Z a) b c)).alloc Gy0).heap.size=w.heap.size+2 by simp];omega,fun j u hu=>?_⟩;rw[vJ,Gr,<-g,World.cell?_alloc_mark];rw[<-hu,<-Fo];rfl
 have f:(Oh 32 32 (Gy7 w.heap.size)).run prog ((w.alloc (Gy5 (Z a) b c)).alloc (Ae #[O Bp 83,O Bp 89,O Bp 49] 5)) = .ok (Gy7 w.heap.size) ((w.alloc (Gy5 (Z a) b c)).alloc Gy0):=by
  have h:=Lib.run_convert_bytes_const (P:=prog) (w.alloc (Gy5 (Z a) b c)) 32 5 #[O Bp 83,O Bp 89,O Bp 49] 3 3 underlying32 underlying5;rw[g] at h;exact h
 have u0:((w.alloc (Gy5 (Z a) b c)).alloc Gy0).cell? ⟨w.heap.size,0,S⟩=V (X b (Z a) c):=zB (zE (Bn w (Gy5 (Z a) b c)) (Ac _ _ S));have i:=J (z);have d:Y (Z (xM a)<=100000):=by
  show _<=_;unfold xM;rw[Ah];simp only[Bb,Bu];omega
 go_in;go_wp2_with fail;refine Q.o.mono ?_;rintro e w1 ⟨a1,k1,rfl,p,t⟩;have R1:=J (Rd.of_row p);have l:=J (R0.o.keep t);have H:=J (zD i.o t);have k:Y (Am prog 70 #[X (V ⟨w1.heap.size,0,S⟩) 2 2] (w1.alloc (Ae #[X (V ⟨w.heap.size+1,0,S⟩) 3 3,X a1 (Z (zR qX a)) k1] 32)) (Gives w (xM a))):=by
  have h:=yZ H.o [X (V ⟨w.heap.size+1,0,S⟩) 3 3,X a1 (Z (zR qX a)) k1] [[83,89,49],zR qX a] (.cons l.o (.cons R1.o .nil)) (by rw[join2];have:=d.o;unfold xM at this;omega);rw[show xW [[83,89,49],zR qX a]=xM a from join2 _ _] at h;exact h
 go_wp2_with fail;refine k.o.mono ?_;rintro e F ⟨o,q,rfl,h2,g2⟩;have r:=J (Rd.of_row h2);have N:=J (g2);have HS:Y (Am prog 74 #[X o (Z (xM a)) q] F fun e w'=>e=Af (O .u32 (yg (xM a):Ad))/\w'=F):=zkQ o q _ r.o (by have:=d.o;omega);go_wp2_with fail;refine HS.o.mono ?_;rintro e wX ⟨rfl,n⟩;rw[n];go_wp2_with fail;refine(zi4 (yg (xM a)) F (by unfold yg;omega)).mono ?_;rintro e w3 ⟨a3,k3,rfl,h3,y⟩;have R3:=J (Rd.of_row h3);have s:=J (r.o.keep y);have G3:=J (zD N.o y);have k:Y (Am prog 70 #[X (V ⟨w3.heap.size,0,S⟩) 2 2] (w3.alloc (Ae #[X o (Z (xM a)) q,X a3 (Z (xF (yg (xM a)))) k3] 32)) (Gives w (x4 a))):=by
  have h:=yZ G3.o [X o (Z (xM a)) q,X a3 (Z (xF (yg (xM a)))) k3] [xM a,xF (yg (xM a))] (.cons s.o (.cons R3.o .nil)) (by rw[join2,Ah];have:=d.o;unfold xF;simp;omega);rw[show xW [xM a,xF (yg (xM a))]=x4 a from join2 _ _] at h;exact h
 go_wp2_with fail;refine k.o.mono ?_;rintro e w4 ⟨a4,k4,rfl,h4,g4⟩;go_wp2;go_ret;exact⟨a4,k4,rfl,h4,g4⟩
def uK (m:R.Mt):A Ab:=zM m.name++(if m.ask then 1::zM m.val else [0])
def dy (r:R.Rl):A Ab:=if r.change then 1::zM r.to else [0]
def qm (r:R.Rl):A Ab:=qc r.number++(zM r.path++(zR uK r.ms++(zR K.tg r.tg++(dy r++(zR K.st r.sets++zR zM r.drops)))))
def yr (h:R.Hst):A Ab:=zM h.name++zR qm h.rules
def kV (hs:A R.Hst):A Ab:=[83,89,49]++zR yr hs
def t7 (hs:A R.Hst):A Ab:=kV hs++xF (yg (kV hs))
theorem dM {α β:Type}(g:α->β)(f:β->A Ab)(h:α->A Ab)(e:∀x,f (g x)=h x)(l:A α):zR f (l.map g)=zR h l:=by
 unfold zR;rw[Bv,Ny]
 congr 3
 funext x;exact e x
theorem ziS (x:P.Rl):qm (toRl x)=qN x:=by grind[qm,qN,dy,f7,toRl,rlOf,dM,mtOf,uK,K.mt,P.Rl]
theorem zhD (x:P.Hst):yr (toR x)=qX x:=by grind[yr,qX,toR,dM,toRl,qm,qN,ziS,P.Hst]
theorem be (a:A P.Hst):t7 (a.map toR)=x4 a:=by grind[kV,toR,xM,dM,yr,qX,zhD,t7,x4,P.Hst]
def yz (l:A Ab):A Ab:=if (xg l).1=0 then t7 (qx (R.readS l).1) else []
variable {l b:A Ab}
theorem zd4 {a:A P.Hst}(h:(xA l).1=0)(g:SrtH (zp l).1 a):yz l=x4 a/\(Z a)<=4/\(∀x∈a,VPk x):=by
 obtain⟨n,c,d⟩:=m8 h;obtain⟨f,e⟩:=co l n c d;rw[e] at f;have m:=zcB g f;obtain⟨i,j,k⟩:=mB l c d;have b:=dt g i j k;refine⟨?_,b.hl,fun x hx=>⟨(b.hosts x hx).nl,(b.hosts x hx).rl,(b.hosts x hx).rules⟩⟩;unfold yz;rw[Az (by rw[<-vg];exact h),e,<-m,be]
theorem zi3 (s:ByteArray)(w:Ag)(z:s.size<=Bh)(Q:Glob w):Am prog 18 #[I s] w fun e w'=>∃a k,e=Af (.tuple #[X a (Z (yz s.data.toList)) k,O Ai (xg s.data.toList).1,O Ai (xg s.data.toList).2])/\w'.ownsRow w.heap.size 5 1 (X a (Z (yz s.data.toList)) k) (Z (yz s.data.toList)) (Ba (yz s.data.toList))/\w.grownBy w' S:=by
 have o:Y (Am prog 41 #[I s] w fun e w'=>∃j l vc,e=Af (.tuple #[.agg #[X j l vc],O Ai (xA s.data.toList).1,O Ai (xA s.data.toList).2])/\w.grownBy w' S/\((xA s.data.toList).1=0->∃b,PHostsRow w' 0 (X j l vc) b/\SrtH (zp s.data.toList).1 b)):=by
  refine(o5 s w z Q (fun u p h3=>oO _ (by rw[R.size_eq];exact u) p h3)).mono ?_;rintro e w' ⟨v,rfl,u,p,j,l,vc,rfl⟩;exact⟨j,l,vc,rfl,u,p⟩
 have f:Y (∀b,(xA s.data.toList).1=0->SrtH (zp s.data.toList).1 b->yz s.data.toList=x4 b/\(Z b)<=4/\(∀h∈b,VPk h)):=fun b u p=>zd4 u p
 have d:Y ((xA s.data.toList).1≠0->yz s.data.toList=[]):=fun h=>by
  unfold yz;rw[Aw (by rw[<-vg];exact h)]
 have r:Y ((xA s.data.toList).1=0->(xA s.data.toList).2=0):=mx;rw[<-vg];clear Q;generalize yz s.data.toList=pt at*;generalize xA s.data.toList=er at*;generalize zp s.data.toList=rd at*;obtain⟨t,aa⟩:=er;simp only at o f d r ⊢;go_in;go_wp2_with fail;refine o.o.mono ?_;rintro e N ⟨j,l,vc,rfl,y,B⟩;have m:=J (y);have n:=J (B);have c:Y (N.grownBy (N.alloc (Ae #[X j l vc] 88)) S):=Ac _ _ S;clear y B
 by_cases q:t=0
 ·subst q
  have x:=r.o rfl;subst x;obtain⟨b,g,i⟩:=n.o rfl;obtain⟨q1,q2,q3⟩:=f.o b rfl i;have F:Y (Am prog 43 #[.agg #[X j l vc]] (N.alloc (Ae #[X j l vc] 88)) (Gives w pt)):=by
   rw[q1];exact(sE _ b (PHostsRow.keep g c.o (za _ _)) q2 q3).mono fun e w' ⟨a,k,k1,H,k3⟩=>⟨a,k,k1,ke H (zD m.o c.o).size,zD (zD m.o c.o) k3⟩
  clear q1 q2 q3 g i;go_wp2_with (go_at_call 43;refine F.o.mono ?_;rintro e w2 ⟨a2,H,rfl,p,g2⟩)
  go_ret3
  exact⟨a2,H,rfl,p,g2⟩
 ·have E:=J (d.o q)
  have ab:(t != 0)=true:=by rw[Qv];exact q
  have C:=J (zD m.o c.o);go_wp2
  go_ret3
  rw[E.o];exact⟨S,0,rfl,Bk _ _ _ _,C.o⟩
def xd (l:A Ab)(i:Ad):A Ab:=Cb (Z l)::l.take i
theorem zgD (l:A Ab):xd l (Z l)=zM l:=by simp_all[xd,zM]
theorem zcI (l:A Ab)(i:Ad)(h:i<Z l):xd l (i+1)=xd l i++[l[i]]:=by simp_all[xd]
theorem zgE (l:A Ab)(i:Ad)(h:i<=Z l):Z (xd l i)=i+1:=by unfold xd;simp;omega
theorem u8o (n:Ad):(Cb n).toNat=n % 256:=by rw[Qc]
theorem ziI (s:ByteArray)(w:Ag)(hl:s.size<=100000):Am prog 137 #[I s] w (Gives w (zM s.data.toList)):=by
 obtain⟨i0,hi,y,z,B⟩:=Ej jD;have f:=R.size_eq s;have E:Y ((Cb s.size).toNat=s.size % 256):=u8o _;have g:Y (w.grownBy (w.alloc (Ae #[O Bp ((s.size:Ak) % 256)] 5)) S):=Ac _ _ _;have n:Y ((w.alloc (Ae #[O Bp ((s.size:Ak) % 256)] 5)).ownsRow w.heap.size 5 1 (X (V ⟨w.heap.size,0,S⟩) (Z (xd s.data.toList 0)) 1) (Z (xd s.data.toList 0)) (Ba (xd s.data.toList 0))):=by
  have h:=uY w [Cb s.size];unfold Ba at h;simp only[Er,Fa] at h;rw[E.o] at h;show Ib _ _ _ _ _ _ _;unfold Ba xd;rw[Gm,f];simp only[Er,Fa];rw[E.o];exact h
 have d:=J (f);go_in;go_wp2
 go_loopw [3,4] (fun sv iv wr=>∃i:Ad,i<=s.size/\iv=O Ai i/\(∃a k,sv=X a (Z (xd s.data.toList i)) k/\Y (wr.ownsRow w.heap.size 5 1 (X a (Z (xd s.data.toList i)) k) (Z (xd s.data.toList i)) (Ba (xd s.data.toList i))))/\Y (w.grownBy wr S)) (fun _ iv _=>s.size-(intOf iv).toNat)
 ·exact⟨0,Ax _,rfl,⟨_,_,rfl,n⟩,g⟩
 ·
  obtain⟨i,v,rfl,⟨a,k,rfl,r⟩,p⟩:=hrel
  by_cases x:i<s.size
  ·have aa:(i:Ak)<s.size:=by omega
   have m:Y (xd s.data.toList (i+1)=xd s.data.toList i++[s[i]]):=zcI s.data.toList i (by rw[d.o];exact x);have F:Z (xd s.data.toList i)<=100001:=by rw[zgE _ _ (by rw[d.o];exact v)];omega
   have ab:=p.o.size;have o:Y ((wr.alloc (Ae #[O Bp s[i].toNat] 5)).ownsRow w.heap.size 5 1 (X a (Z (xd s.data.toList i)) k) (Z (xd s.data.toList i)) (Ba (xd s.data.toList i))):=Ao r.o _;have C:Y (∀j u,(Ba [s[i]])[j]?=V u->(wr.alloc (Ae #[O Bp s[i].toNat] 5)).cell? ((⟨wr.heap.size,0,S⟩:Addr).add j)=V u):=zZ wr #[_] _ _ rfl;have H:(wr.alloc (Ae #[O Bp s[i].toNat] 5)).heap.size=wr.heap.size+1:=by simp
   have l:Y (w.grownBy (wr.alloc (Ae #[O Bp s[i].toNat] 5)) S):=zD p.o (Ac _ _ S);go_wp2_with (at_builtin;refine Cu _ rfl _ _ 32 rfl w.heap.size 5 i0 _ 1 1 underlying32 hi y z B rfl (by decide) _ _ _ rfl o.o ⟨wr.heap.size,0,S⟩ 1 1 (Ba [s[i]]) rfl ?a1 C.o (vo [s[i]]) ?a4 ?a5 ?a6 ?_)
   ·rfl
   ·unfold Bh;omega
   ·omega
   ·omega
   intro v' w2 b c _;obtain⟨N,vc,rfl⟩:=zL b;have t:Y (w2.ownsRow w.heap.size 5 1 (X N (Z (xd s.data.toList (i+1))) vc) (Z (xd s.data.toList (i+1))) (Ba (xd s.data.toList (i+1)))):=by
    show Ib _ _ _ _ _ _ _;rw[m.o,Ah,Lib.byteCells_append];exact b
   have q:=J (qI l.o c (fun k hk=>(An o.o k hk).1));have HV:Y (Z (xd s.data.toList i)+1=Z (xd s.data.toList (i+1))):=by show _=_;rw[m.o,Ah];rfl
   go_wp2
   go_roundw
   ·exact⟨i+1,by omega,by go_num,⟨N,vc,by rw[HV.o],t⟩,q⟩
   ·simp[intOf];omega
  ·have hE:i=s.size:=by omega
   subst hE;have Q:Y (xd s.data.toList s.size=zM s.data.toList):=by show _=_;rw[<-d.o];exact zgD _
   rw[Q.o] at r ⊢;go_wp2;go_ret;exact⟨a,k,rfl,r.o,p.o⟩
theorem zkZ (n:Ad)(w:Ag)(b:n<=65535):Am prog 194 #[O Ai n] w (Gives w (qc n)):=by
 have a:Y ((Cb (n % 256)).toNat=n % 256/\(Cb (n / 256)).toNat=n / 256):=⟨u8n _,u8n _⟩;go_in;go_wp2;go_ret;refine⟨V ⟨w.heap.size,0,S⟩,2,rfl,?_,Ac _ _ _⟩;have h:=uY w (qc n) (by rw[kw];omega);unfold Ba qc at h ⊢;simp only[Er,Fa,Xe] at h ⊢;rw[a.o.1,a.o.2] at h ⊢;exact h
theorem oi (n:Ak)(w:Ag)(h:0<=n/\n<=65535):Am prog 194 #[O Ai n] w (Gives w (qc n)):=by
 obtain⟨k,rfl⟩:=Sg h.1;exact zkZ k w (by omega)
theorem rZ (a b:Ad)(c:a<4294967296)(d:b<4294967296):bits .xor Ai (a:Ak) (b:Ak)=((a ^^^ b:Ad):Ak):=by
 have f:a ^^^ b<2 ^ 32:=Nat.xor_lt_two_pow (by omega) (by omega);show IntKind.i64.wrap ((BitVec.ofInt 64 (a:Ak) ^^^ BitVec.ofInt 64 (b:Ak)).toNat:Ak)=_;rw[BitVec.toNat_xor,ofInt_u64 a (by omega),ofInt_u64 b (by omega)];simp[IntKind.wrap,IntKind.bits,IntKind.signed]
 omega
theorem zkW (a:Br Addr)(k:Ad)(l:A Ab)(y:Rd w (X a (Z l) k) l)(hl:Z l<=1000000):Am prog 139 #[X a (Z l) k] w (Gives w (xF (yg l))):=by
 have r:=J (y);go_in;go_wp2
 go_loopw [3,4] (fun sv iv wr=>∃i:Ad,i<=Z l/\iv=O Ai i/\sv=O Ai (ym l i:Ad)/\wr=w) (fun _ iv _=>Z l-(intOf iv).toNat)
 ·exact⟨0,Ax _,rfl,rfl,rfl⟩
 ·
  obtain⟨i,N,rfl,rfl,n⟩:=hrel;rw[n]
  by_cases d:i<Z l
  ·have H:(i:Ak)<Z l:=by omega
   obtain⟨g,v,m,F,b⟩:∃g v,(X a (Z l) k:Aj)=X (V ⟨g,0,S⟩) (Z l) v/\g<w.heap.size/\∀j u,(Ba l)[j]?=V u->w.cell? ((⟨g,0,S⟩:Addr).add j)=V u:=by
    rcases r.o with ⟨_,h0⟩|h
    ·rw[h0] at d;cases d
    ·exact h
   simp only[Au,Fb] at m;obtain⟨rfl,rfl⟩:=m;have E:w.cell? ⟨g,i,S⟩=V (O Bp l[i].toNat):=by
    have h:=b i (O Bp l[i].toNat) (by unfold Ba;rw[Fq,Bd d];rfl);rw[vJ,Gr] at h;exact h
   have C:=J (rO l i d);have hc:=l[i].toNat_lt;have hx:bits .xor Ai (ym l i:Ak) (l[i].toNat:Ak)=((ym l i ^^^ l[i].toNat:Ad):Ak):=rZ _ _ (tA l i) (by omega);have p:Y (ym l i ^^^ l[i].toNat<4294967296):=pK _ (tA l i);generalize l[i]=c at*;generalize hs:ym l i ^^^ c.toNat=s0 at*;go_wp2_with fail
   go_loopw [3,5] (fun sv jv wq=>∃j:Ad,j<=8/\jv=O Ai j/\sv=O Ai (vV j s0:Ad)/\wq=w) (fun _ jv _=>8-(intOf jv).toNat)
   ·exact⟨0,by omega,rfl,rfl,rfl⟩
   ·
    obtain⟨j,Q,rfl,rfl,n⟩:=hrel;rw[n]
    by_cases hj:j<8
    ·have aa:(j:Ak)<8:=by omega
     have hq:=aF j p.o;have f:Y (vV (j+1) s0=vw (vV j s0)):=rfl;generalize vV j s0=q at*;have ab:bits .xor Ai ((q:Ak) / 2) 3988292384=((q / 2 ^^^ 3988292384:Ad):Ak):=rZ (q / 2) 3988292384 (by omega) (by decide)
     by_cases x:q % 2=1
     ·have t:((q:Ak) % 2)=1:=by omega
      have o:Y (vV (j+1) s0=q / 2 ^^^ 3988292384):=by show _=_;rw[f.o];unfold vw;rw[Az x]
      go_wp2
      go_roundw
      ·exact⟨j+1,by omega,by go_num,by rw[o.o],by first|trivial|rfl⟩
      ·simp[intOf];omega
     ·have t:((q:Ak) % 2)=0:=by omega
      have o:Y (vV (j+1) s0=q / 2):=by show _=_;rw[f.o];unfold vw;rw[Aw x]
      go_wp2
      go_roundw
      ·exact⟨j+1,by omega,by go_num,by rw[o.o];rfl,by first|trivial|rfl⟩
      ·simp[intOf];omega
    ·have s:j=8:=by omega
     subst s;go_wp2
     go_roundw
     ·exact⟨i+1,by omega,by go_num,by rw[C.o],by first|trivial|rfl⟩
     ·simp[intOf];omega
  ·have s:i=Z l:=by omega
   subst s;have z:Y ((yg l:Ad)=4294967295-ym l (Z l)):=by show _=_;unfold yg ym;rw[Ia]
   have hk:=tA l (Z l);generalize ym l (Z l)=q at*;have B:Y (Ba (xF (4294967295-q))=[O Bp ((4294967295-(q:Ak)) % 256),O Bp ((4294967295-(q:Ak)) / 256 % 256),O Bp ((4294967295-(q:Ak)) / 65536 % 256),O Bp ((4294967295-(q:Ak)) / 16777216)]):=by
    show _=_;unfold Ba xF;simp only[Er,Fa];rw[u8n _,u8n _,u8n _,u8n _];rw[show(((4294967295-q) % 256:Ad):Ak)=(4294967295-(q:Ak)) % 256 by omega,show(((4294967295-q) / 256 % 256:Ad):Ak)=(4294967295-(q:Ak)) / 256 % 256 by omega,show(((4294967295-q) / 65536 % 256:Ad):Ak)=(4294967295-(q:Ak)) / 65536 % 256 by omega,show(((4294967295-q) / 16777216 % 256:Ad):Ak)=(4294967295-(q:Ak)) / 16777216 by omega]
   go_wp2;go_ret;rw[z.o];refine⟨V ⟨w.heap.size,0,S⟩,4,rfl,?_,Ac _ _ _⟩;have h:=uY w (xF (4294967295-q)) (by unfold xF;simp);rw[B.o] at h ⊢;exact h
def RdO (w:Ag)(v:Aj)(l:A Ab):Prop:=
 (∃a c,v=X a 0 c/\l=[])\/∃g o c,v=X (V ⟨g,o,S⟩) (Z l) c/\(Z l)<=c/\g<w.heap.size/\∀j u,l[j]?=V u->w.cell? ⟨g,o+j,S⟩=V (O Bp u.toNat)
variable {v:Aj}{row:Br Ad}
theorem RdO.keep (h:RdO w v l)(b:w.grownBy w' row)(d:∀g o n c,v=X (V ⟨g,o,S⟩) n c->row≠V g):RdO w' v l:=by
 rcases h with h|⟨g,o,c,h1,hc,h2,h3⟩
 ·exact Ay h
 ·exact Or.inr ⟨g,o,c,h1,hc,Eh h2 b.size,fun j u hu=>b.cell (a:=⟨g,o+j,S⟩) (h3 j u hu) (fun e=>d g o _ c h1 e.symm)⟩
theorem RdO.keep1 (h:RdO w v l)(b:w.grownBy w' row)(d:l≠[]->∀g o n c,v=X (V ⟨g,o,S⟩) n c->row≠V g):RdO w' v l:=by
 by_cases a:l=[]
 ·subst a
  rcases h with h|⟨g,o,c,h1,_⟩
  ·exact Ay h
  ·exact Ay ⟨_,c,h1,rfl⟩
 ·exact h.keep b (d a)
theorem RdO.form (h:RdO w v l):∃a c,v=X a (Z l) c/\(Z l)<=c:=by grind[RdO]
structure TInv (w:Ag) (tb:Ad) (v:Aj) (b:A Ab) (s:T.St):Prop where
 ex:∃p:Ad,p<=Z b/\s.rest=b.drop p/\w.heap[tb]?=V (Ae #[v,O Ai p,Av s.bad] 257 (0,0))
 rd:RdO w v b
 ap:b≠[]->∀g o n c,v=X (V ⟨g,o,S⟩) n c->g≠tb
 len:Z b<=140737488355328
variable {s:T.St}
theorem TInv.keep {c:Ad}(h:TInv w c v b s)(a:w.grownBy w' S):TInv w' c v b s:=by
 obtain⟨p,d,f,g⟩:=h.ex;exact⟨⟨p,d,f,zE g a⟩,h.rd.keep a (fun _ _ _ _ _ e=>by cases e),h.ap,h.len⟩
variable {a:Ad}
theorem TInv.set (h:TInv w a v b s)(i:w.grownBy w' (V a)){d:T.St}{p:Ad}(j:p<=Z b)(k:d.rest=b.drop p)(f:w'.heap[a]?=V (Ae #[v,O Ai p,Av d.bad] 257 (0,0))):TInv w' a v b d:=
 ⟨⟨p,j,k,f⟩,h.rd.keep1 i (fun h0 g o n c e e2=>h.ap h0 g o n c e (by cases e2;rfl)),h.ap,h.len⟩
theorem uX {l:Ad}(h:TInv w l v b s):Am prog 140 #[Al (V ⟨l,0,S⟩)] w fun e w'=>e=Af (O Ai ((xD s).1:Ad))/\TInv w' l v b (xD s).2/\w.grownBy w' (V l):=by
 obtain⟨p,H,k,d⟩:=h.ex;obtain⟨a,c,rfl,C⟩:=h.rd.form;have E:=h.len;have N:=cbi 0 d;have Q:=cbi 1 d;have f1:=zm9 1 d;have f2:=zm9 2 d;have c2:=cbi 2 d;have r:=J (h);have B:=J (d);have m:=J (k)
 by_cases f:p<Z b
 ·have t:Y (xD s=(b[p].toNat,⟨b.drop (p+1),s.bad⟩)):=by
   show _=_;unfold xD;rw[m.o,Ed f]
  have z:(p:Ak)<Z b:=by omega
  obtain⟨g,o,u,y⟩:∃g o,a=V ⟨g,o,S⟩/\w.cell? ⟨g,o+p,S⟩=V (O Bp b[p].toNat):=by
   rcases r.o.rd with ⟨_,_,_,h0⟩|⟨g,o,c',h1,_,_,h3⟩
   ·rw[h0] at f;cases f
   ·simp only[Au,Fb] at h1
    exact⟨g,o,h1.1,h3 p b[p] (Bd f)⟩
  subst u;have F:g≠l:=r.o.ap (fun h0=>by rw[h0] at f;cases f) g o _ c rfl;rw[t.o];generalize b[p]=x at*;go_in;go_wp2
  go_region
  go_wp2
  go_region
  go_wp2;go_ret;have n:=zF w l 1 (O Ai ((p:Ak)+1));have i:=zD (zV (w.setCell ⟨l,1,S⟩ (O Ai ((p:Ak)+1)))) (zV _);have j:=zD n (zT i _);refine⟨?_,r.o.set j (p:=p+1) (by omega) rfl (zE (zH B.o _) i),j⟩;have hx:=x.toNat_lt;have e:Sv (x.toNat:Ak)=x.toNat:=by simp only[Sv];omega
  show Af (O Ai (Sv (x.toNat:Ak)))=_;rw[e]
 ·have q:p=Z b:=by omega
  have t:Y (xD s=(0,⟨[],true⟩)):=by
   show _=_;unfold xD;rw[m.o,q,List.drop_length]
  rw[t.o];have z:¬((p:Ak)<Z b):=by omega
  go_in;go_wp2
  go_region
  go_wp2;go_ret;have n:=zF w l 2 (Av true);have i:=zV (w.setCell ⟨l,2,S⟩ (Av true));have j:=zD n (zT i _);exact⟨rfl,r.o.set j (p:=p) H (by rw[q,List.drop_length]) (zE (zH B.o _) i),j⟩
theorem yP {g:Ad}(h:TInv w g v b s)(i:Bool):Am prog 141 #[Al (V ⟨g,0,S⟩),Av i] w fun e w'=>e=Af (.tuple #[])/\TInv w' g v b (qP s i)/\w.grownBy w' (V g):=by
 obtain⟨p,l,c,a⟩:=h.ex;have n:=zm9 2 a;have m:=cbi 2 a;have j:=J (h);have k:=J (a);have d:=J (c)
 cases i
 ·go_in
  go_wp2
  go_end0
  have f:=zF w g 2 (Av true);exact⟨rfl,j.o.set f (p:=p) l d.o (zH k.o _),f⟩
 ·go_in
  go_wp2
  go_end0
  exact⟨rfl,j.o,zP _ _⟩
theorem kD {j:Ad}(h:TInv w j v b s)(m:Ad):Am prog 142 #[Al (V ⟨j,0,S⟩),O Ai m] w fun e w'=>e=Af (O Ai ((zr m s).1:Ad))/\TInv w' j v b (zr m s).2/\w.grownBy w' (V j):=by
 have k:=J (uX h);have d:Y (zr m s=if m<(xD s).1 then (0,⟨(xD s).2.rest,true⟩) else xD s):=rfl;generalize zr m s=fw at*;generalize xD s=on at*;obtain⟨n,C⟩:=on;simp only at k d;go_in;go_wp2_with fail;refine k.o.mono ?_;rintro e y ⟨rfl,l,r⟩;have q:=J (l);have o:=J (r);obtain⟨p,x,c,a⟩:=l.ex;have B:=zm9 2 a;have z:=cbi 2 a;have t:=J (a);have f:=J (c)
 by_cases i:m<n
 ·have u:(m:Ak)<n:=by omega
  rw[Az i] at d;go_wp2;go_ret;rw[d.o];have g:=zF y j 2 (Av true);exact⟨rfl,q.o.set g (p:=p) x f.o (zH t.o _),zD o.o g⟩
 ·have u:¬((m:Ak)<n):=by omega
  rw[Aw i] at d;go_wp2;go_ret;rw[d.o];exact⟨rfl,q.o,o.o⟩
theorem oh {d:Ad}(h:TInv w d v b s):Am prog 195 #[Al (V ⟨d,0,S⟩)] w fun e w'=>e=Af (O Ai (xa s).1)/\TInv w' d v b (xa s).2/\w.grownBy w' (V d):=by
 have g:∀s:T.St,(xD s).1<=255:=fun s=>by
  unfold xD
  split
  ·omega
  ·rename_i c r _;have:=c.toNat_lt;simp only;omega
 have q:=g s;have t:=g (xD s).2;have p:Y (xa s=((((xD s).1+256*(xD (xD s).2).1:Ad):Ak),(xD (xD s).2).2)):=rfl;have j:=J (h);go_in;go_wp2_with fail;refine(uX j.o).mono ?_;rintro e u ⟨rfl,m,k⟩;have a:=J (m);have i:=J (k);go_wp2_with fail;refine(uX a.o).mono ?_;rintro e x ⟨rfl,n,l⟩;have f:=J (n);have o:=J (zD i.o l);go_wp2;go_ret;rw[p.o];exact⟨rfl,f.o,o.o⟩
theorem uR (m:Ad)(s:T.St)(a:m<=255:=by omega):(zr m s).1<=255:=by
 unfold zr
 split
 ·simp
 ·omega
theorem t8 (W:Ag)(a:Br Addr)(c:Ad):(Oh 32 9 (X a 0 c)).run prog W = .ok (I ⟨#[]⟩) W:=by
 cases a with
 |none=>exact run_convert_bytes_nil W _ _ underlying32 underlying5 _ _ _ underlying9
 |some a=>exact Qb W _ _ _ a c [] underlying32 underlying5 underlying9 (fun j hj=>by cases hj)
theorem vB {i:Ad}(h:TInv w i v b s):Am prog 143 #[Al (V ⟨i,0,S⟩)] w fun e w'=>e=Af (I (Aa (zj s).1))/\TInv w' i v b (zj s).2/\w.grownBy w' (V i):=by
 have ag:=uR 24 s;have H1:=J (kD h 24);have C:Y (zj s=if (Z (zr 24 s).2.rest)<(zr 24 s).1 then ([],⟨(zr 24 s).2.rest,true⟩) else ((zr 24 s).2.rest.take (zr 24 s).1,⟨(zr 24 s).2.rest.drop (zr 24 s).1,(zr 24 s).2.bad⟩)):=rfl;clear h;generalize zj s=tx at*;generalize zr 24 s=fw at*;obtain⟨n,z⟩:=fw;simp only at H1 C ag;go_in;go_wp2_with fail;refine H1.o.mono ?_;rintro e r ⟨rfl,i1,g1⟩;have B:=J (i1);have G1:=J (g1);obtain⟨p,hp,f,d⟩:=i1.ex;obtain⟨a,c,rfl,ak⟩:=i1.rd.form;have aj:=i1.len;have c0:=cbi 0 d;have c1:=cbi 1 d;have f1:=zm9 1 d;have f2:=zm9 2 d;have c2:=cbi 2 d;have H:=J (d);have l:=J (f);have ab:Z z.rest=Z b-p:=by rw[f,Cy]
 clear g1 i1 d f H1
 by_cases t:Z z.rest<n
 ·rw[Az t] at C
  have hI:(Z b:Ak)<(p:Ak)+n:=by omega
  clear ab t;go_wp2
  go_region
  go_wp2;go_ret;rw[C.o];have af:=zF r i 2 (Av true);have N:=zV (r.setCell ⟨i,2,S⟩ (Av true));have Q:=zD af (zT N _);exact⟨rfl,B.o.set Q (p:=p) hp l.o (zE (zH H.o _) N),zD G1.o Q⟩
 ·rw[Aw t] at C
  have hI:¬((Z b:Ak)<(p:Ak)+n):=by omega
  have y:p+n<=Z b:=by omega
  clear ab t;have m:Y (∀x:Ak,r.grownBy (r.setCell ⟨i,1,S⟩ (O Ai x)).drew.drew (V i)):=fun x=>zD (zF r i 1 (O Ai x)) (zT (zD (zV _) (zV _)) _)
  have E:Y (∀x:Ak,x=(p+n:Ad)->TInv (r.setCell ⟨i,1,S⟩ (O Ai x)).drew.drew i (X a (Z b) c) b ⟨z.rest.drop n,z.bad⟩):=fun x hx=>by
   subst hx;exact B.o.set (m.o _) (p:=p+n) (by omega) (by show z.rest.drop n=_;rw[l.o,List.drop_drop]) (zE (zH H.o _) (zD (zV _) (zV _)))
  by_cases ah:n=0
  ·subst ah
   have al:=fun W a c=>t8 W a c
   rcases Nat.lt_or_ge p c with aa|aa
   ·clear B H
    go_wp2
    go_region
    go_wp2
    go_region
    go_wp2;go_ret;rw[C.o];exact⟨rfl,E.o _ rfl,zD G1.o (m.o _)⟩
   ·obtain rfl:c=p:=by omega
    clear B H;go_wp2
    go_region
    go_wp2
    go_region
    go_wp2;go_ret;rw[C.o];exact⟨rfl,E.o _ rfl,zD G1.o (m.o _)⟩
  ·obtain⟨g,o,ae,q⟩:∃g o,a=V ⟨g,o,S⟩/\∀j u,b[j]?=V u->r.cell? ⟨g,o+j,S⟩=V (O Bp u.toNat):=by
    rcases B.o.rd with ⟨_,_,_,h0⟩|⟨g,o,c',h1,_,_,h3⟩
    ·rw[h0] at y;simp at y;omega
    ·simp only[Au,Fb] at h1
     exact⟨g,o,h1.1,h3⟩
   subst ae;have ai:g≠i:=B.o.ap (fun h0=>by rw[h0] at y;simp at y;omega) g o _ c rfl;have F:Z (z.rest.take n)=n:=by rw[Cq,l.o,Cy];omega
   have ad:Y (∀(W:Ag) (k:Ad),r.grownBy W (V i)->(Oh 32 9 (X (V ⟨g,o+p,S⟩) n k)).run prog W = .ok (I (Aa (z.rest.take n))) W):=fun W k hW=>by
    have h:=Qb (P:=prog) W 32 9 5 ⟨g,o+p,S⟩ k (z.rest.take n) underlying32 underlying5 underlying9 (fun j hj=>by
     rw[vJ,Nat.add_assoc];refine hW.cell (a:=⟨g,o+(p+j),S⟩) (q (p+j) _ ?_) (by simpa using ai);rw[F] at hj;rw[List.getElem_take,<-Bd,l.o,Vq])
    rw[F] at h;exact h
   have am:∀(x:Ak) (k:Ad),(Oh 32 9 (X (V ⟨g,o+p,S⟩) n k)).run prog (r.setCell ⟨i,1,S⟩ (O Ai x)).drew.drew = .ok (I (Aa (z.rest.take n))) (r.setCell ⟨i,1,S⟩ (O Ai x)).drew.drew:=fun x k=>ad.o _ k (m.o x)
   have aa:p<c:=by omega
   clear q F B H;go_wp2
   go_region
   go_wp2
   go_region
   go_wp2
   all_goals
    go_ret;rw[C.o];exact⟨rfl,E.o _ rfl,zD G1.o (m.o _)⟩
theorem j7 (s:T.St):Z (zj s).1<=255:=by grind[uR,zj,List.length_take,T.St]
theorem za3 (h:a<w.heap.size)(b:w.heap.size<=w'.heap.size):V w'.heap.size≠V a:=fun c=>by have:=Bc c;omega
theorem TInv.far {j:Ag}{r:T.St}(d:TInv w a v b r)(h:TInv j a v b s)(f:j.grownBy w' row)(i:∀k,row=V k->w.heap.size<=k):TInv w' a v b s:=by
 obtain⟨p,l,m,n⟩:=h.ex;obtain⟨_,_,_,q⟩:=d.ex;have t:=zO q;refine⟨⟨p,l,m,zE n f (fun c=>by have:=i a c.symm;omega)⟩,?_,h.ap,h.len⟩;rcases d.rd with h'|⟨g,o,c,e1,hc,hlt,_⟩
 ·exact Ay h'
 ·exact h.rd.keep f (fun g' o' n' c' e' e2=>by
   have:=i g' e2;rw[e1] at e';simp only[Au,Ey,Addr.mk.injEq] at e'
   omega)
theorem eM {x:Ad}(h:TInv w x v b s):Am prog 197 #[Al (V ⟨x,0,S⟩)] w fun e w'=>∃u,e=Af u/\TInv w' x v b (jL s).2/\w.grownBy w' (V x)/\w'.ownsRow w.heap.size 183 2 u (Z (jL s).1) (zx (jL s).1):=by
 obtain⟨i0,hi,ad,ae,af⟩:=Ej zd2;have hN:=uR 4 s;have HF:=J (kD h 4);have HP:Y (jL s=qU T.tg (zr 4 s).1 (qP (zr 4 s).2 (decide (0<(zr 4 s).1)))):=rfl;have H:x<w.heap.size:=by obtain⟨_,_,_,q⟩:=h.ex;exact zO q
 have H0:=J (h);generalize jL s=res at*;generalize zr 4 s=fw at*;obtain⟨N,s1⟩:=fw;simp only at HF HP hN;go_in;go_wp2_with fail;refine HF.o.mono ?_;rintro e w1 ⟨rfl,i1,g1⟩;have I1:=J (i1);have G1:=J (g1);go_wp2_with fail;refine(yP I1.o _).mono ?_;rintro e w2 ⟨rfl,i2,g2⟩;have I2:=J (i2);have G2:=J (zD G1.o g2);generalize qP s1 (decide (0<N))=s2 at*;go_wp2_with fail
 go_loopw [3,5] (fun u iv wr=>∃(i:Ad) (d:A (A Ab×Ak)) (st:T.St),i<=N/\(Z d)=i/\iv=O Ai i/\Y (res=(d++(qU T.tg (N-i) st).1,(qU T.tg (N-i) st).2))/\Y (TInv wr x v b st)/\Y (w.grownBy wr (V x))/\Y (wr.ownsRow w.heap.size 183 2 u (Z d) (zx d))) (fun _ iv _=>N-(intOf iv).toNat)
 case atStart=>exact⟨0,[],s2,Ax _,rfl,rfl,by show _=_;rw[HP.o];rfl,I2,G2,Bk _ _ _ _⟩
 case round=>
  obtain⟨i,d,st,an,aa,rfl,HE,IR,GR,HO⟩:=hrel
  by_cases ao:i<N
  ·have am:(i:Ak)<N:=by omega
   have p:Y (res=((d++[(T.tg st).1])++(qU T.tg (N-(i+1)) (T.tg st).2).1,(qU T.tg (N-(i+1)) (T.tg st).2).2)):=by
    show _=_;rw[HE.o,show N-i=N-(i+1)+1 by omega,Bl];rfl
   have r:Y (T.tg st=(((zj st).1,(xa (zj st).2).1),qP (xa (zj st).2).2 (R.upstream (zj st).1 && (decide (0<(xa (zj st).2).1) && decide ((xa (zj st).2).1<=1000))))):=rfl;have al:=j7 st;generalize T.tg st=tg at*;go_wp2_with fail;refine(vB IR.o).mono ?_;rintro e wt ⟨rfl,it,gt⟩;have It:=J (it);have Gt:=J (zD GR.o gt);have Ot:=J (zK HO.o gt (fun k hk c=>by have:=Bc c;have:=(An HO.o k hk).1;omega));generalize zj st=tx at*;obtain⟨l,s3⟩:=tx;simp only at It r al;have F:=Gt.o.size;have ag:Y ((wt.alloc (Ae #[I (Aa l),O Ai 0] 183)).heap[wt.heap.size]?=V (Ae #[I (Aa l),O Ai 0] 183)):=Bn _ _;go_wp2_with fail;refine(oh (It.o.keep (Ac _ _ S))).mono ?_;rintro e wu ⟨rfl,iu,gu⟩;have C:=J (zE ag.o gu (za3 H F));have Iu:=J (iu);have Gu:Y (w.grownBy wu (V x)):=zD (zD Gt.o (Ac _ _ _)) gu;have Ou:Y (wu.ownsRow w.heap.size 183 2 u3 (Z d) (zx d)):=zK (Ao Ot.o _) gu (fun k hk c=>by have:=Bc c;have:=(An Ot.o k hk).1;omega);have q1:=cbi 1 C.o;have q2:=zm9 1 C.o;have ah:Y (∀k,(u3:Aj).ownBlock=V k->k<wt.heap.size):=fun k hk=>(An Ot.o k hk).2
   generalize xa s3=tw at*;obtain⟨n,s4⟩:=tw;simp only at Iu r;have o:Y ((wu.setCell ⟨wt.heap.size,1,S⟩ (O Ai n)).heap[wt.heap.size]?=V (Ae #[I (Aa l),O Ai n] 183)):=zH C.o _;have r0:=cbi 0 o.o;have r1:=cbi 1 o.o;go_wp2_with fail;refine(cp (Aa l) _ (by rw[Bz];unfold Bh;omega)).mono ?_;rintro e wv ⟨rfl,ak⟩;rw[ak,Be];have ab:∀k,V wt.heap.size=V k->w.heap.size<=k:=fun k c=>by have:=Bc c;omega
   have gS:=zF wu wt.heap.size 1 (O Ai n);have Is:=J (H0.o.far Iu.o gS ab);have Gs:=J (qI Gu.o gS ab);have E:=J (zK Ou.o gS (fun k hk c=>by have:=Bc c;have:=ah.o k hk;omega));generalize R.upstream l=up at*
   cases up
   ·have g:Y (tg=((l,n),qP s4 (false))):=by show _=_;rw[r.o];simp[]
    rw[g.o] at p;go_wp2_with fail;refine(yP Is.o (false)).mono ?_;rintro e w5 ⟨rfl,i5,t⟩;have Q:=J (i5);have y:=J (zD Gs.o t);have z:=J (zK E.o t (fun k hk c=>by have:=Bc c;have:=(An E.o k hk).1;omega));have m:=J (zE o.o t (za3 H F));have z0:=cbi 0 m.o;have z1:=cbi 1 m.o;have aj:=y.o.size;generalize qP s4 (false)=s5 at*;go_wp2_with (at_builtin;refine Cu _ rfl _ _ 123 rfl w.heap.size 183 i0 _ 2 24 underlying123 hi ad ae af rfl (by decide) _ _ _ rfl (Ao z.o _) ⟨w5.heap.size,0,S⟩ 1 1 [I (Aa l),O Ai n] rfl rfl ?c1 ?c2 ?c3 ?c4 ?c5 ?_)
    case c1=>exact zZ _ #[_,_] _ _
    case c2=>intro u hu;simp at hu;rcases hu with rfl|rfl <;> rfl
    case c3=>unfold Bh;omega
    case c4=>omega
    case c5=>simp;omega
    intro v9 B f a _;have O9:Y (B.ownsRow w.heap.size 183 2 v9 (Z (d++[(l,n)])) (zx (d++[(l,n)]))):=by rw[yn,Ah,aa];exact f
    have j:∀k,(u3:Aj).ownBlock=V k->w.heap.size<=k:=fun k hk=>(An z.o k hk).1
    have I9:Y (TInv B x v b s5):=H0.o.far (Q.o.keep (Ac _ _ _)) a j;have G9:Y (w.grownBy B (V x)):=qI (zD y.o (Ac _ _ _)) a j;go_wp2_with fail
    go_roundw
    case rel=>exact⟨i+1,d++[(l,n)],s5,by omega,by simp;omega,by go_num,p,I9,G9,O9⟩
    case measure=>simp[intOf];omega
   by_cases ai:0<n
   ·have g:Y (tg=((l,n),qP s4 (decide (n<=1000)))):=by show _=_;rw[r.o];simp[ai]
    rw[g.o] at p;go_wp2_with fail;refine(yP Is.o (decide (n<=1000))).mono ?_;rintro e w5 ⟨rfl,i5,t⟩;have Q:=J (i5);have y:=J (zD Gs.o t);have z:=J (zK E.o t (fun k hk c=>by have:=Bc c;have:=(An E.o k hk).1;omega));have m:=J (zE o.o t (za3 H F));have z0:=cbi 0 m.o;have z1:=cbi 1 m.o;have aj:=y.o.size;generalize qP s4 (decide (n<=1000))=s5 at*;go_wp2_with (at_builtin;refine Cu _ rfl _ _ 123 rfl w.heap.size 183 i0 _ 2 24 underlying123 hi ad ae af rfl (by decide) _ _ _ rfl (Ao z.o _) ⟨w5.heap.size,0,S⟩ 1 1 [I (Aa l),O Ai n] rfl rfl ?c1 ?c2 ?c3 ?c4 ?c5 ?_)
    case c1=>exact zZ _ #[_,_] _ _
    case c2=>intro u hu;simp at hu;rcases hu with rfl|rfl <;> rfl
    case c3=>unfold Bh;omega
    case c4=>omega
    case c5=>simp;omega
    intro v9 B f a _;have O9:Y (B.ownsRow w.heap.size 183 2 v9 (Z (d++[(l,n)])) (zx (d++[(l,n)]))):=by rw[yn,Ah,aa];exact f
    have j:∀k,(u3:Aj).ownBlock=V k->w.heap.size<=k:=fun k hk=>(An z.o k hk).1
    have I9:Y (TInv B x v b s5):=H0.o.far (Q.o.keep (Ac _ _ _)) a j;have G9:Y (w.grownBy B (V x)):=qI (zD y.o (Ac _ _ _)) a j;go_wp2_with fail
    go_roundw
    case rel=>exact⟨i+1,d++[(l,n)],s5,by omega,by simp;omega,by go_num,p,I9,G9,O9⟩
    case measure=>simp[intOf];omega
   ·have g:Y (tg=((l,n),qP s4 (false))):=by show _=_;rw[r.o];simp[ai]
    rw[g.o] at p;go_wp2_with fail;refine(yP Is.o (false)).mono ?_;rintro e w5 ⟨rfl,i5,t⟩;have Q:=J (i5);have y:=J (zD Gs.o t);have z:=J (zK E.o t (fun k hk c=>by have:=Bc c;have:=(An E.o k hk).1;omega));have m:=J (zE o.o t (za3 H F));have z0:=cbi 0 m.o;have z1:=cbi 1 m.o;have aj:=y.o.size;generalize qP s4 (false)=s5 at*;go_wp2_with (at_builtin;refine Cu _ rfl _ _ 123 rfl w.heap.size 183 i0 _ 2 24 underlying123 hi ad ae af rfl (by decide) _ _ _ rfl (Ao z.o _) ⟨w5.heap.size,0,S⟩ 1 1 [I (Aa l),O Ai n] rfl rfl ?c1 ?c2 ?c3 ?c4 ?c5 ?_)
    case c1=>exact zZ _ #[_,_] _ _
    case c2=>intro u hu;simp at hu;rcases hu with rfl|rfl <;> rfl
    case c3=>unfold Bh;omega
    case c4=>omega
    case c5=>simp;omega
    intro v9 B f a _;have O9:Y (B.ownsRow w.heap.size 183 2 v9 (Z (d++[(l,n)])) (zx (d++[(l,n)]))):=by rw[yn,Ah,aa];exact f
    have j:∀k,(u3:Aj).ownBlock=V k->w.heap.size<=k:=fun k hk=>(An z.o k hk).1
    have I9:Y (TInv B x v b s5):=H0.o.far (Q.o.keep (Ac _ _ _)) a j;have G9:Y (w.grownBy B (V x)):=qI (zD y.o (Ac _ _ _)) a j;go_wp2_with fail
    go_roundw
    case rel=>exact⟨i+1,d++[(l,n)],s5,by omega,by simp;omega,by go_num,p,I9,G9,O9⟩
    case measure=>simp[intOf];omega
  ·have hE:i=N:=by omega
   subst hE;rw[Gp] at HE;have p:Y (res=(d,st)):=by show _=_;rw[HE.o];simp[qU]
   go_wp2;go_ret;rw[p.o];exact⟨_,rfl,IR.o,GR.o,HO.o⟩
theorem eL {f:Ad}(h:TInv w f v b s):Am prog 196 #[Al (V ⟨f,0,S⟩)] w fun e w'=>∃u,e=Af u/\TInv w' f v b (jU s).2/\w.grownBy w' (V f)/\w'.ownsRow w.heap.size 181 3 u (Z (jU s).1) (xC (jU s).1):=by
 obtain⟨i0,hi,aV,aW,aX⟩:=Ej zcZ;have hN:(zr 3 s).1<=255:=uR 3 s;have HF:Y (Am prog 142 #[Al (V ⟨f,0,S⟩),O Ai (3:Ad)] w fun e w'=>e=Af (O Ai ((zr 3 s).1:Ad))/\TInv w' f v b (zr 3 s).2/\w.grownBy w' (V f)):=kD h 3;have HP:Y (jU s=qU T.mt (zr 3 s).1 (zr 3 s).2):=rfl;have a8:f<w.heap.size:=by obtain⟨_,_,_,q⟩:=h.ex;exact zO q
 have H0:Y (TInv w f v b s):=h;generalize jU s=res at*;generalize zr 3 s=fw at*;obtain⟨N,s2⟩:=fw;simp only at HF HP hN;go_in;go_wp2_with fail;refine HF.o.mono ?_;rintro e w2 ⟨rfl,i2,g2⟩;have I2:Y (TInv w2 f v b s2):=i2;have G2:Y (w.grownBy w2 (V f)):=g2;go_wp2_with fail
 go_loopw [3,5] (fun u iv wr=>∃(i:Ad) (g:A R.Mt) (st:T.St),i<=N/\(Z g)=i/\iv=O Ai i/\Y (res=(g++(qU T.mt (N-i) st).1,(qU T.mt (N-i) st).2))/\Y (TInv wr f v b st)/\Y (w.grownBy wr (V f))/\Y (wr.ownsRow w.heap.size 181 3 u (Z g) (xC g))) (fun _ iv _=>N-(intOf iv).toNat)
 case atStart=>exact⟨0,[],s2,Ax _,rfl,rfl,by show _=_;rw[HP.o];rfl,I2,G2,Bk _ _ _ _⟩
 case round=>
  obtain⟨i,g,st,bc,aT,rfl,HE,IR,GR,HO⟩:=hrel
  by_cases be:i<N
  ·have bb:(i:Ak)<N:=by omega
   have y:Y (res=((g++[(T.mt st).1])++(qU T.mt (N-(i+1)) (T.mt st).2).1,(qU T.mt (N-(i+1)) (T.mt st).2).2)):=by
    show _=_;rw[HE.o,show N-i=N-(i+1)+1 by omega,Bl];rfl
   have HM:Y (T.mt st=if (zr 1 (qP (zj st).2 (Ft (zj st).1 false))).1=1 then (⟨(zj st).1,(ki (zr 1 (qP (zj st).2 (Ft (zj st).1 false))).2).1,true⟩,(ki (zr 1 (qP (zj st).2 (Ft (zj st).1 false))).2).2)
    else (⟨(zj st).1,[],false⟩,(zr 1 (qP (zj st).2 (Ft (zj st).1 false))).2)):=rfl
   have a5:=j7 st;generalize T.mt st=mt at*;go_wp2_with fail;refine(vB IR.o).mono ?_;rintro e a ⟨rfl,aY,ax⟩;have av:Y (TInv a f v b ((zj st).2)):=aY;have ae:=J (zD GR.o ax);have C:=J (zK HO.o ax (fun k l c=>by have:=Bc c;have:=(An HO.o k l).1;omega));generalize zj st=tx at*;obtain⟨j,s3⟩:=tx;simp only at av HM a5;have ao:V a.heap.size≠V f:=za3 a8 ae.o.size;have bf:=ae.o.size;have aJ:Y (∀k,(u3:Aj).ownBlock=V k->k<a.heap.size):=fun k l=>(An C.o k l).2
   have x:∀k,V a.heap.size=V k->w.heap.size<=k:=fun k c=>by have:=Bc c;omega
   have ah:a.grownBy (a.alloc (Ae #[I (Aa j),I ⟨#[]⟩,Av false] 181)) S:=Ac _ _ _;have aN:Y (TInv (a.alloc (Ae #[I (Aa j),I ⟨#[]⟩,Av false] 181)) f v b (s3)):=av.o.keep ah;have aC:Y (w.grownBy (a.alloc (Ae #[I (Aa j),I ⟨#[]⟩,Av false] 181)) (V f)):=zD ae.o (zT ah _);have aK:=J (zK C.o ah (fun k l c=>by cases c));have ap:Y ((a.alloc (Ae #[I (Aa j),I ⟨#[]⟩,Av false] 181)).heap[a.heap.size]?=V (Ae #[I (Aa j),I ⟨#[]⟩,Av false] 181)):=Bn _ _;have bg:=cbi 0 ap.o;have hh:=tz (Aa j) false (a.alloc (Ae #[I (Aa j),I ⟨#[]⟩,Av false] 181)) (by rw[Bz];omega);rw[Be] at hh;have HH:Y (Am prog 248 #[I (Aa j),Av false] (a.alloc (Ae #[I (Aa j),I ⟨#[]⟩,Av false] 181)) fun e w'=>e=Af (Av (Ft j false))/\Below (a.alloc (Ae #[I (Aa j),I ⟨#[]⟩,Av false] 181)).heap.size (a.alloc (Ae #[I (Aa j),I ⟨#[]⟩,Av false] 181)) w'):=hh;go_wp2_with fail;refine(HH.o).mono ?_;rintro e ay ⟨rfl,aS⟩;have aa:(a.alloc (Ae #[I (Aa j),I ⟨#[]⟩,Av false] 181)).grownBy ay S:=zt aS;have aO:Y (TInv ay f v b (s3)):=aN.o.keep aa;have aD:Y (w.grownBy ay (V f)):=zD aC.o (zT aa _);have E:=J (zK aK.o aa (fun k l c=>by cases c));have az:=J (zE ap.o aa);generalize Ft j false=hd at*;go_wp2_with fail;refine(yP aO.o hd).mono ?_;rintro e a9 ⟨rfl,aZ,ai⟩;have aP:Y (TInv a9 f v b (qP s3 hd)):=aZ;have aE:=J (zD aD.o ai);have F:=J (zK E.o ai (fun k l c=>by have:=Bc c;have:=(An E.o k l).1;omega));have aA:=J (zE az.o ai ao);generalize qP s3 hd=s4 at*;go_wp2_with fail;refine(kD aP.o 1).mono ?_;rintro e ab ⟨rfl,a0,aj⟩;have ag:Y (TInv ab f v b ((zr 1 s4).2)):=a0;have af:=J (zD aE.o aj);have t:=J (zK F.o aj (fun k l c=>by have:=Bc c;have:=(An F.o k l).1;omega));have o:=J (zE aA.o aj ao);generalize zr 1 s4=fk at*;obtain⟨kk,s5⟩:=fk;simp only at ag HM;generalize au:ki s5=mb at*
   by_cases l:kk=1
   ·subst l
    rw[Az rfl] at HM;have a6:=j7 s5;have B:Y (mb=((zj s5).1,qP (zj s5).2 (R.value (zj s5).1))):=au.symm;have bo:=cbi 2 o.o;have bq:=zm9 2 o.o;have ak:=zF ab a.heap.size 2 (Av true);have aB:Y ((ab.setCell ⟨a.heap.size,2,S⟩ (Av true)).heap[a.heap.size]?=V (Ae #[I (Aa j),I ⟨#[]⟩,Av true] 181)):=zH o.o _;have aQ:Y (TInv (ab.setCell ⟨a.heap.size,2,S⟩ (Av true)) f v b (s5)):=H0.o.far ag.o ak x;have aF:=J (qI af.o ak x);have H:=J (zK t.o ak (fun k l c=>by have:=Bc c;have:=aJ.o k l;omega));go_wp2_with fail;refine(vB aQ.o).mono ?_;rintro e r ⟨rfl,a1,al⟩;have aw:Y (TInv r f v b ((zj s5).2)):=a1;have aG:=J (zD aF.o al);have aL:=J (zK H.o al (fun k l c=>by have:=Bc c;have:=(An H.o k l).1;omega));have ad:=J (zE aB.o al ao);generalize zj s5=ty at*;obtain⟨n,s6⟩:=ty;simp only at aw B a6;rw[B.o] at HM;have bp:=cbi 1 ad.o;have br:=zm9 1 ad.o;have am:=zF r a.heap.size 1 (I (Aa n));have aq:Y ((r.setCell ⟨a.heap.size,1,S⟩ (I (Aa n))).heap[a.heap.size]?=V (Ae #[I (Aa j),I (Aa n),Av true] 181)):=zH ad.o _;have aR:Y (TInv (r.setCell ⟨a.heap.size,1,S⟩ (I (Aa n))) f v b (s6)):=H0.o.far aw.o am x;have aH:=J (qI aG.o am x);have Q:=J (zK aL.o am (fun k l c=>by have:=Bc c;have:=aJ.o k l;omega));have bk:=cbi 1 aq.o;have hv:=dj (Aa n) (r.setCell ⟨a.heap.size,1,S⟩ (I (Aa n))) (by rw[Bz];unfold Bh;omega);rw[Be] at hv;have HV:Y (Am prog 249 #[I (Aa n)] (r.setCell ⟨a.heap.size,1,S⟩ (I (Aa n))) fun e w'=>e=Af (Av (R.value n))/\w'=(r.setCell ⟨a.heap.size,1,S⟩ (I (Aa n)))):=hv;go_wp2_with fail;refine(HV.o).mono ?_;rintro e ba ⟨rfl,aU⟩;rw[aU];generalize R.value n=vv at*;go_wp2_with fail;refine(yP aR.o vv).mono ?_;rintro e a3 ⟨rfl,a2,an⟩;have a4:Y (TInv a3 f v b (qP s6 vv)):=a2;have aI:=J (zD aH.o an);have aM:=J (zK Q.o an (fun k l c=>by have:=Bc c;have:=(An Q.o k l).1;omega));have ar:=J (zE aq.o an ao);generalize qP s6 vv=s7 at*;have z:Y (mt=(⟨j,n,true⟩,s7)):=HM.o;rw[z.o] at y;have bl:=cbi 0 ar.o;have bm:=cbi 1 ar.o;have bn:=cbi 2 ar.o;have a7:=aI.o.size;go_wp2_with (at_builtin;refine Cu _ rfl _ _ 122 rfl w.heap.size 181 i0 _ 3 40 underlying122 hi aV aW aX rfl (by decide) _ _ _ rfl (Ao aM.o _) ⟨a3.heap.size,0,S⟩ 1 1 [I (Aa j),I (Aa n),Av true] rfl rfl ?c1 ?c2 ?c3 ?c4 ?c5 ?_)
    case c1=>exact zZ _ #[_,_,_] _ _
    case c2=>intro u hu;simp at hu;rcases hu with rfl|rfl|rfl <;> rfl
    case c3=>unfold Bh;omega
    case c4=>omega
    case c5=>simp;omega
    intro v9 w9 m d _;have O9:Y (w9.ownsRow w.heap.size 181 3 v9 (Z (g++[(⟨j,n,true⟩:R.Mt)])) (xC (g++[(⟨j,n,true⟩:R.Mt)]))):=by rw[k8,Ah,aT];exact m
    have p:∀k,(u3:Aj).ownBlock=V k->w.heap.size<=k:=fun k l=>(An aM.o k l).1
    have I9:Y (TInv w9 f v b s7):=H0.o.far (a4.o.keep (Ac _ _ _)) d p;have G9:Y (w.grownBy w9 (V f)):=qI (zD aI.o (Ac _ _ _)) d p;go_wp2_with fail
    go_roundw
    case rel=>exact⟨i+1,g++[⟨j,n,true⟩],s7,by omega,by simp;omega,by go_num,y,I9,G9,O9⟩
    case measure=>simp[intOf];omega
   ·rw[Aw l] at HM
    have bd:¬((kk:Ak)=1):=by omega
    have z:Y (mt=(⟨j,[],false⟩,s5)):=HM.o;rw[z.o] at y;have bh:=cbi 0 o.o;have bi:=cbi 1 o.o;have bj:=cbi 2 o.o;have a7:=af.o.size;go_wp2_with (at_builtin;refine Cu _ rfl _ _ 122 rfl w.heap.size 181 i0 _ 3 40 underlying122 hi aV aW aX rfl (by decide) _ _ _ rfl (Ao t.o _) ⟨ab.heap.size,0,S⟩ 1 1 [I (Aa j),I ⟨#[]⟩,Av false] rfl rfl ?c1 ?c2 ?c3 ?c4 ?c5 ?_)
    case c1=>exact zZ _ #[_,_,_] _ _
    case c2=>intro u hu;simp at hu;rcases hu with rfl|rfl|rfl <;> rfl
    case c3=>unfold Bh;omega
    case c4=>omega
    case c5=>simp;omega
    intro v9 w9 m d _;have O9:Y (w9.ownsRow w.heap.size 181 3 v9 (Z (g++[(⟨j,[],false⟩:R.Mt)])) (xC (g++[(⟨j,[],false⟩:R.Mt)]))):=by rw[k8,Ah,aT];exact m
    have p:∀k,(u3:Aj).ownBlock=V k->w.heap.size<=k:=fun k l=>(An t.o k l).1
    have I9:Y (TInv w9 f v b s5):=H0.o.far (ag.o.keep (Ac _ _ _)) d p;have G9:Y (w.grownBy w9 (V f)):=qI (zD af.o (Ac _ _ _)) d p;go_wp2_with fail
    go_roundw
    case rel=>exact⟨i+1,g++[⟨j,[],false⟩],s5,by omega,by simp;omega,by go_num,y,I9,G9,O9⟩
    case measure=>simp[intOf];omega
  ·have hE:i=N:=by omega
   subst hE;rw[Gp] at HE;have y:Y (res=(g,st)):=by show _=_;rw[HE.o];simp[qU]
   go_wp2;go_ret;rw[y.o];exact⟨_,rfl,IR.o,GR.o,HO.o⟩
end Go.Proofs.YtfocdefchbnkpaaGreatDoor
