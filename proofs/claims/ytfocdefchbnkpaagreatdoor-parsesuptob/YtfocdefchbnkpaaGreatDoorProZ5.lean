import Derived.Test.YtfocdefchbnkpaaGreatDoorEqD
set_option maxRecDepth 100000
set_option maxHeartbeats 20000000
open Go renaming World->Ag,Calls->Am,Value->Aj,maxLen->Bh,heap_alloc_new->Bn
open Go.Calls renaming mono->Oq
open Go.Ending renaming returned->Af
open Go.IntKind renaming i64->Ai
open Go.Lib renaming byteCells->Ba,bytesWorld->Na
open Go.Obj renaming cells->Ae
open Go.Proofs.YtfocdefchbnkpaaGreatDoor.R renaming str->Aa,decI->Hz,lnTgs->Ho,lnTg->Hv,decI_len->Sl,q_len->Fy,flat_len->Od,q->Fi,str_toList->Be,lines->Fu,lnMt->Gg,lnSet->Em,lnDrop->Cz,SmallH->Qn,hostLines->Ex,plain->Ic,readS->Gw,size_eq->Cp
open Go.Sort renaming grow->Vt
open Go.Value renaming slice->X,string->I,int->O,pointer->Al,tuple->Cm,agg->Fe,bool->Av
open Go.Value.slice renaming injEq->Au
open Go.World renaming grownBy_alloc->Ac,ownsRow->Ib,drew->Md,setCell->Bs,ownsRow_nil->Bk
open Go.World.ownsRow renaming lt->An,cellAt->Ap,form->Bm
open List renaming length->Z
open Option renaming some->V,none->S
open Or renaming inl->Ay,inr->Bf
open UInt8 renaming ofNat->Cb
open _root_ renaming Nat->Ad,List->A,Int->Ak,UInt8->Ab,ByteArray->As
namespace Go.Proofs.YtfocdefchbnkpaaGreatDoor
open Go.RowKit Tryz
def GT (w:Ag):Prop:=Lib.TabIs prog w "internal/strconv.uint64pow10" .u64 Lib.pow10Tab
variable {w w':Ag}
theorem GT.block (h:GT w):∃g,(prog).globalNamed "internal/strconv.uint64pow10" = V g/\g<w.heap.size:=by
 unfold GT Lib.TabIs World.var? at h
 cases hg:(prog).globalNamed "internal/strconv.uint64pow10" <;> grind[GT,Array.getElem?_eq_none]
theorem GT.same (h:GT w)(a:∀g,(prog).globalNamed "internal/strconv.uint64pow10" = V g->w'.heap[g]?=w.heap[g]?):GT w':=by
 unfold GT Lib.TabIs World.var? at*
 cases hg:(prog).globalNamed "internal/strconv.uint64pow10" <;> grind[GT]
theorem GT.grown (h:GT w)(b:w.grownBy w' S):GT w':=h.same fun g e=>by
 obtain⟨d,a,c⟩:=h.block;obtain rfl:=Bc (e.symm.trans a);exact b.block g c (by simp)
def GTB (B:Ad):Prop:=∀g,(prog).globalNamed "internal/strconv.uint64pow10" = V g->g<B
theorem GT.bound (h:GT w):GTB w.heap.size:=fun g e=>by
 obtain⟨c,a,b⟩:=h.block;obtain rfl:=Bc (e.symm.trans a);exact b
variable {B b a:Ad}
theorem GT.kept {l:A TypeId}(h:GT w)(b:Kept B l w w')(a:GTB B):GT w':=h.same fun g e=>b.block g (h.bound g e) (Ay (a g e))
theorem nA (w:Ag)(k:Ad)(a:Array Obj):w.grownBy (Vt (w.drewN k) a) S:=by
 refine zD (jP w k) ?_;generalize w.drewN k=u;exact⟨rfl,rfl,rfl,by simp[Vt],fun j hj _=>by simp[Vt,Qr hj]⟩
theorem lv (a:GT w)(n:Ak)(b:0<=n/\n<=99999):Am prog 159 #[O Ai n] w fun e w'=>e=Af (I (Aa (Hz n)))/\w.grownBy w' S:=by
 refine(Tryz.strconv_Itoa n (by omega) (by omega) w a).mono ?_;rintro e w' ⟨rfl,k,c,rfl⟩;refine⟨?_,nA w k c⟩;rw[zhJ n b.1];rfl
theorem zdE (l:A (A Ab×Ak))(b:∀t∈l,Z t.1<=3000/\0<=t.2/\t.2<=99999):Z (Ho l)<=Z l*3200:=by
 have a:∀t∈l,Z (Hv t)<=3100:=fun t a=>by
  have h:=b t a;have f:=Sl t.2 h.2;unfold Hv;simp only[Ah,Fy,Bb,Bu];omega
 cases l with
 |nil=>simp[Ho]
 |cons t l=>
  have c:=a t (by simp);have d:Z (l.map fun u=>[44,32]++Hv u).flatten<=Z l*3200:=Od _ _ _ (fun u hu=>by
   have:=a u (by simp[hu]);simp only[Ah,Bb,Bu];omega)
  unfold Ho;rw[Ah,Bb,Sr];omega
theorem rE (l:A (A Ab))(x:A Ab):zY (l++[x])=zY l++[I (Aa x)]:=by simp[zY]
theorem zcF (x:A Ab)(n:Ak):Aa (Fi x)++(⟨#[32]⟩:As)++Aa (Hz n)=Aa (Hv (x,n)):=by
 apply ByteArray.ext
 simp[Aa,Hv]
abbrev Gt1 (a b):=Ae #[I (Aa a),O Ai b] 285
abbrev Gt4 (a b):=Aa (Fi a)++⟨#[32]⟩++Aa (Hz b)
theorem zbS (l:A (A Ab×Ak))(v:Aj)(p:w.ownsRow 0 285 2 v (Z l) (zx l))(hn:Z l<=4000)
  (hs:∀t∈l,Z t.1<=3000/\0<=t.2/\t.2<=99999) (hT:GT w):Am prog 161 #[v] w fun e w'=>e=Af (I (Aa (Ho l)))/\w.grownBy w' S:=by
 obtain⟨i0,hi,ah,ai,aj⟩:=info_parts fW;obtain⟨va,vc,rfl⟩:=zL p;have HR:=J (p);have HS:=J (hs);have HT:=J (hT);have H:Y (∀W g a,w.grownBy W S->W.ownsRow w.heap.size 9 1 (X (V ⟨g,0,S⟩) (Z l) a) (Z l) (zY (l.map Hv))->Am prog 220 #[X (V ⟨g,0,S⟩) (Z l) a,I ⟨#[44,32]⟩] W fun e w'=>e=Af (I (Aa (Ho l)))/\w.grownBy w' S):=fun W g a hW ho=>by
  have e1:((l.map Hv).map Aa).map (fun b=>b.data.toList)=l.map Hv:=by
   rw[Ny];have:((fun b:As=>b.data.toList) ∘ Aa)=id:=by funext x;exact Be x
   rw[this,List.map_id]
  have hb:=(An ho g rfl).2;have hc:Z l<=a:=by
   rcases ho.2 with ⟨h,_⟩|⟨g',cap',cur,h,_,_,h3,_⟩
   ·cases h
   ·cases h;exact h3
  have h:=Tryz.strings_Join g 0 a ((l.map Hv).map Aa) ⟨#[44,32]⟩ W (fun j x hx=>by
   have hj:j<Z l:=by have:=(Bo.1 hx).1;simpa using this
   rw[Gr,Ap ho j (by omega)];unfold zY;rw[Fq] at hx ⊢
   cases hq:(l.map Hv)[j]? with
   |none=>rw[hq] at hx;cases hx
   |some y=>rw[hq] at hx;simp at hx ⊢;exact hx) hb (by simp;omega) (by simpa using hc) (by
    rw[e1];show(Z (Lib.join (l.map Hv) [44,32]))<=_;rw[l9];have:=zdE l hs;omega)
  rw[e1,show(⟨#[44,32]⟩:As).data.toList=[44,32] from rfl,l9,Bv,Bv] at h;exact Oq h fun e w' ⟨h1,h2⟩=>⟨h1,zD hW (zt h2)⟩
 go_in;go_wp2_with (at_make;refine wpList_make_own _ rfl _ _ 22 rfl w.heap.size 9 i0 (I ⟨#[]⟩) 1 underlying22 hi ah ai _ _ _ (Z l) rfl rfl (by omega) ?b2 ?b3 (Aq _) ?_)
 ·rw[aj];omega
 ·unfold Bh;omega
 intro w0 m d;have ad:=J (m);have aa:=J d;go_wp2
 go_loopw [3,11] (fun sv iv wr=>∃k:Ad,k<=Z l/\iv=O Ai k/\(∃g a,sv=X (V ⟨g,0,S⟩) k a/\Y (wr.ownsRow w.heap.size 9 1 (X (V ⟨g,0,S⟩) k a) k (zY ((l.take k).map Hv))))/\Y (w.grownBy wr S)) (fun _ iv _=>Z l-(intOf iv).toNat)
 ·exact⟨0,Ax _,rfl,⟨_,_,rfl,ad⟩,aa⟩
 ·
  obtain⟨k,hk,rfl,⟨g,a,rfl,HO⟩,N⟩:=hrel
  by_cases s:k<Z l
  ·have aC:(k:Ak)<Z l:=by omega
   obtain⟨gt,ax,ag,_,aB⟩:=Bm HR.o (by omega);simp only[Au] at ag;obtain⟨rfl,_,rfl⟩:=ag;have d0:wr.cell? ⟨gt,k*2,S⟩=V (I (Aa l[k].1)):=qY (fun t:A Ab×Ak=>[I (Aa t.1),O Ai t.2]) 2 (fun _=>rfl) HR.o N.o k 0 s (by omega) rfl;have d1:wr.cell? ⟨gt,k*2+1,S⟩=V (O Ai l[k].2):=qY (fun t:A Ab×Ak=>[I (Aa t.1),O Ai t.2]) 2 (fun _=>rfl) HR.o N.o k 1 s (by omega) rfl;have r:=HS.o l[k] (Cr s);have an:Y (zY ((l.take (k+1)).map Hv)=zY ((l.take k).map Hv)++[I (Aa (Hv l[k]))]):=by
    show _=_;rw[Co s,Ef,List.map_singleton,rE]
   generalize l[k]=t at*;obtain⟨x,n⟩:=t;simp only at d0 d1 r;have HN:=J (r.2);have zq:(Aa (Fi x)).size<=3002:=by rw[R.str_size,Fy];omega
   have zd:(Aa (Hz n)).size<=5:=by rw[R.str_size];exact Sl _ r.2
   have ay:¬(9223372036854775807<(Aa (Fi x)).size+1):=by omega
   have az:¬(9223372036854775807<(Aa (Fi x)).size+1+(Aa (Hz n)).size):=by omega
   have HQ:Y (∀W,Am prog 105 #[I (Aa x)] W fun e w'=>e=Af (I (Aa (Fi x)))/\w'=W):=fun W=>ye x W r.1
   have HI:Y (∀W,w.grownBy W S->Am prog 159 #[O Ai n] W fun e w'=>e=Af (I (Aa (Hz n)))/\W.grownBy w' S):=fun W hW=>lv (HT.o.grown hW) n HN.o
   have E:Y ((wr.alloc (Gt1 x n)).heap[wr.heap.size]?=V (Gt1 x n)):=Bn _ _;have F:Y (wr.grownBy (wr.alloc (Gt1 x n)) S):=Ac _ _ _;have aE:=N.o.size;have au:=J (zK HO.o F.o (fun k hk c=>by cases c));have ab:=J (zD N.o F.o);have b0:=cbi 0 E.o;have b1:=cbi 1 E.o;have bl:=zO E.o;have al:Y (∀u∈([I (Gt4 x n)]:A Aj),u.oneCell'=true):=by
    intro u hu;simp only[En,Ge,Mn] at hu;subst hu;rfl
   have ap:Y (k+1<=Bh):=by show _<=_;unfold Bh;omega
   have Q:=J (zcF x n);go_wp2;generalize wr.alloc (Gt1 x n)=wx at*
   go_region_law (first|(refine step_append_lies _ rfl (.tmp 15) (.tmp 24) 22 rfl w.heap.size 9 i0 _ 1 16 underlying22 hi ah ai aj rfl (by decide) _ _ _ (by simp[Act.eval]) (World.ownsRow.alloc z.o _) ⟨i.heap.size,0,S⟩ 1 1 [I (Gt4 x n)] (by simp[Act.eval]) rfl aq.o al.o (by decide) ap.o (by omega) am.o (i.heap.size+1) av.o ?_;intro g9 B w9 o f aA aD;have C:∀j,(X (V ⟨g,0,S⟩) k a).ownBlock=V j->w.heap.size<=j:=fun j hj=>(An z.o j hj).1;have C9:Y (w.grownBy w9 S):=qI (zD ak.o (Ac _ _ _)) f C;have ar:Y (w9.ownsRow w.heap.size 9 1 (X (V ⟨g9,0,S⟩) (k+1) B) (k+1) (zY ((l.take (k+1)).map Hv))):=by { show Ib _ _ _ _ _ _ _;rw[an.o,<-Q.o];exact o };clear o f C)|(go_simp;go_at_call 159;refine(HI.o _ (zD ab.o (zV wx))).mono ?_;rintro e i ⟨rfl,af⟩;have GN:wx.grownBy i S:=zD (zV wx) af;have ak:=J (zD ab.o GN);have z:=J (zK au.o GN (fun k hk c=>by cases c));have sN:wx.heap.size<=i.heap.size:=GN.size;have aq:Y (∀j u,([I (Gt4 x n)]:A Aj)[j]?=V u->(i.alloc (Ae #[I (Gt4 x n)] 9)).cell? ((⟨i.heap.size,0,S⟩:Addr).add j)=V u):=zZ i #[_] _ _ rfl;have am:Y (w.heap.size<=(i.alloc (Ae #[I (Gt4 x n)] 9)).heap.size):=by { show _<=_;rw[show(i.alloc (Ae #[I (Gt4 x n)] 9)).heap.size=i.heap.size+1 from by simp];omega };have av:Y ((i.alloc (Ae #[I (Gt4 x n)] 9)).heap.size=i.heap.size+1):=by { show _=_;simp };clear af GN)|(go_simp;go_at_call 105;refine(HQ.o _).mono ?_;rintro e w' ⟨rfl,rfl⟩))
   all_goals
    go_wp2
    go_roundw
    ·exact⟨k+1,by omega,by go_num,⟨g9,B,rfl,ar⟩,C9⟩
    ·simp[intOf];omega
  ·have aw:k=Z l:=by omega
   subst aw;have ae:Y (wr.ownsRow w.heap.size 9 1 (X (V ⟨g,0,S⟩) (Z l) a) (Z l) (zY (l.map Hv))):=by
    have h:=HO.o;rw[Ia] at h;exact h
   have ao:=J (H.o wr g a N.o ae.o);go_wp2_with (go_at_call 220;refine ao.o.mono ?_;rintro e w2 ⟨rfl,h2⟩);go_ret;exact⟨rfl,h2⟩
variable {v:Aj}
theorem vP {l:A TypeId}{e:TypeId}{s:Ad}{n:Ad}{a:A Aj}(h:w.ownsRow B e s v n a)(c:Kept b l w w')(d:e ∉ l:=by decide):w'.ownsRow B e s v n a:=by
 refine⟨h.1,?_⟩;rcases h.2 with h|⟨g,cap,cur,rfl,hB,hb,r⟩
 ·exact Ay h
 ·exact Bf ⟨g,cap,cur,rfl,hB,c.cell hb d,r⟩
variable {l:A Ab}
theorem WInv.setOp {op:Ak}(h:WInv w b l op)(a:Ak):WInv (w.setCell ⟨b,2,S⟩ (O Ai a)) b l a/\Kept b wtags w (w.setCell ⟨b,2,S⟩ (O Ai a)):=by
 have c:=zF w b 2 (O Ai a);rcases h with ⟨v,hb,ho⟩|⟨v,hb,ho⟩
 ·exact⟨Ay ⟨v,zH hb _,zK ho c (fun k hk e=>by have:=(An ho k hk).1;cases e;omega)⟩,v8 c hb (by decide) (Aq _)⟩
 ·exact⟨Bf ⟨v,zH hb _,zK ho c (fun k hk e=>by have:=(An ho k hk).1;cases e;omega)⟩,v8 c hb (by decide) (Aq _)⟩
theorem WInv.fz {op:Ak}(h:WInv w a l op):w.frozen? ⟨a,2,S⟩=false:=by
 rcases h with ⟨v,hb,ho⟩|⟨v,hb,ho⟩
 ·exact zG hb
 ·exact zG hb
theorem jV {w0 W:Ag}{op:Ad}(h:WInv W b l op)(d:Kept b wtags w0 W)(a:A (A Ab))(c:op<=3:=by decide)(g:Z l<=100000000000000:=by omega)(i:Z a<=10:=by simp)(f:Z a.flatten<=100000000:=by simp):Am prog 104 #[Al (V ⟨b,0,S⟩),X (V ⟨W.heap.size,0,S⟩) (Z a) (Z a)] (W.alloc (Ae (zY a).toArray 9)) fun e w'=>e=Af (Cm #[])/\WInv w' b (l++lnS op a) op/\Kept b wtags w0 w':=
 (lw (op:=op) (h.grown (Ac _ _ _)) W.heap.size (Z a) a (Bn _ _) c (by omega) (by omega)).mono fun e w' ⟨g1,g2,g3⟩=>⟨g1,g2,(d.trans (xJ (Ac _ _ S))).trans g3⟩
variable {α:Type}
theorem kL (f:α->A Ab)(l:A α)(k:Ad)(b:k<Z l)(a:A Ab):a++((l.take (k+1)).map f).flatten=a++((l.take k).map f).flatten++f l[k]:=by
 rw[v7 f l k b,Bl]
theorem zfS (h:WInv w a l (1:Ad))(cs:A Aj)(r:P.Rl)(hr:PRuleVal w cs r)(hs:R.Small (toRl r))(hl:Z l<=90000000000000)(hT:GT w)(hB:GTB a):Am prog 106 #[Al (V ⟨a,0,S⟩),Fe cs.toArray] w fun e w'=>e=Af (Cm #[])/\WInv w' a (l++Fu (toRl r)) (1:Ad)/\Kept a wtags w w':=by
 obtain⟨vM,vT,vS,vD,rfl,hM,ay,hS,hD⟩:=hr;obtain⟨m1,m2,rfl⟩:=zL hM;obtain⟨t1,t2,rfl⟩:=zL ay;obtain⟨x1,x2,rfl⟩:=zL hS;obtain⟨H,N,rfl⟩:=zL hD;have gA:w.grownBy (w.alloc (Ae #[O Ai r.number,I (Aa r.path),X m1 (Z r.ms) m2,X t1 (Z r.tg) t2,I (Aa r.rep),X x1 (Z r.sets) x2,X H (Z r.drops) N] 213)) S:=Ac _ _ _;have B:Y ((w.alloc (Ae #[O Ai r.number,I (Aa r.path),X m1 (Z r.ms) m2,X t1 (Z r.tg) t2,I (Aa r.rep),X x1 (Z r.sets) x2,X H (Z r.drops) N] 213)).heap[w.heap.size]?=V (Ae #[O Ai r.number,I (Aa r.path),X m1 (Z r.ms) m2,X t1 (Z r.tg) t2,I (Aa r.rep),X x1 (Z r.sets) x2,X H (Z r.drops) N] 213)):=Bn _ _;have J0:Y (WInv (w.alloc (Ae #[O Ai r.number,I (Aa r.path),X m1 (Z r.ms) m2,X t1 (Z r.tg) t2,I (Aa r.rep),X x1 (Z r.sets) x2,X H (Z r.drops) N] 213)) a l (1:Ad)):=h.grown gA;have av:Y (GT (w.alloc (Ae #[O Ai r.number,I (Aa r.path),X m1 (Z r.ms) m2,X t1 (Z r.tg) t2,I (Aa r.rep),X x1 (Z r.sets) x2,X H (Z r.drops) N] 213))):=hT.grown gA;have a8:Y (GTB a):=hB;have aE:Y (Kept a wtags w (w.alloc (Ae #[O Ai r.number,I (Aa r.path),X m1 (Z r.ms) m2,X t1 (Z r.tg) t2,I (Aa r.rep),X x1 (Z r.sets) x2,X H (Z r.drops) N] 213))):=xJ gA;have HM:=J (zK hM gA (fun k hk c=>by cases c));have aO:=J (zK ay gA (fun k hk c=>by cases c));have aa:=J (zK hS gA (fun k hk c=>by cases c));have ai:=J (zK hD gA (fun k hk c=>by cases c));have K0:Y (Kept a wtags (w.alloc (Ae #[O Ai r.number,I (Aa r.path),X m1 (Z r.ms) m2,X t1 (Z r.tg) t2,I (Aa r.rep),X x1 (Z r.sets) x2,X H (Z r.drops) N] 213)) (w.alloc (Ae #[O Ai r.number,I (Aa r.path),X m1 (Z r.ms) m2,X t1 (Z r.tg) t2,I (Aa r.rep),X x1 (Z r.sets) x2,X H (Z r.drops) N] 213))):=Kept.refl _ _ _;have aD:0<=r.number/\r.number<=99999:=hs.num;have aL:Y (0<=r.number/\r.number<=99999):=aD;have ba:Z r.path<=3000:=hs.path;have bb:Z r.rep<=3000:=hs.to;have aw:Y (∀m∈r.ms,Z m.name<=3000/\(Z m.val)<=3000):=fun m hm=>hs.ms.2 (mtOf m) (Hh hm)
 have bl:Z r.ms<=4000:=by have:=hs.ms.1;simpa[toRl,rlOf] using this
 have ax:Y (∀t∈r.tg,Z t.1<=3000/\0<=t.2/\t.2<=99999):=hs.tg.2;have be:Z r.tg<=4000:=hs.tg.1;have ad:Y (∀t∈r.sets,Z t.1<=3000/\(Z t.2)<=3000):=hs.sets.2;have bn:Z r.sets<=4000:=hs.sets.1;have ab:Y (∀t∈r.drops,Z t<=3000):=hs.drops.2;have bk:Z r.drops<=4000:=hs.drops.1;have bj:Z (Hz r.number)<=5:=Sl _ aD;have bd:=zdE r.tg ax.o;have aI:Y (jx r++kj r++(r.ms.map fun m=>Gg (mtOf m)).flatten++wF r++uF r++(r.sets.map Em).flatten++(r.drops.map Cz).flatten++lnS 1 [[125]]=Fu (toRl r)):=zhN r;have HI:Y (Am prog 159 #[O Ai r.number] (w.alloc (Ae #[O Ai r.number,I (Aa r.path),X m1 (Z r.ms) m2,X t1 (Z r.tg) t2,I (Aa r.rep),X x1 (Z r.sets) x2,X H (Z r.drops) N] 213)) fun e w'=>e=Af (I (Aa (Hz r.number)))/\(w.alloc (Ae #[O Ai r.number,I (Aa r.path),X m1 (Z r.ms) m2,X t1 (Z r.tg) t2,I (Aa r.rep),X x1 (Z r.sets) x2,X H (Z r.drops) N] 213)).grownBy w' S):=lv av.o r.number aL.o;have aN:Y (∀W,Am prog 105 #[I (Aa r.path)] W fun e w'=>e=Af (I (Aa (Fi r.path)))/\w'=W):=fun W=>ye r.path W ba
 have au:Y (∀W,Am prog 105 #[I (Aa r.rep)] W fun e w'=>e=Af (I (Aa (Fi r.rep)))/\w'=W):=fun W=>ye r.rep W bb
 clear h hT hB hM ay hS hD hs aD;generalize Fu (toRl r)=res at*;go_in;go_wp2_with fail;refine HI.o.mono ?_;rintro e wI ⟨rfl,az⟩;have KI:Y (Kept a wtags (w.alloc (Ae #[O Ai r.number,I (Aa r.path),X m1 (Z r.ms) m2,X t1 (Z r.tg) t2,I (Aa r.rep),X x1 (Z r.sets) x2,X H (Z r.drops) N] 213)) wI):=K0.o.trans (xJ az);have JI:Y (WInv wI a l (1:Ad)):=J0.o.grown az;generalize w.alloc (Ae #[O Ai r.number,I (Aa r.path),X m1 (Z r.ms) m2,X t1 (Z r.tg) t2,I (Aa r.rep),X x1 (Z r.sets) x2,X H (Z r.drops) N] 213)=wa at*;clear az gA;go_wp2_with fail;have aF:Y (Am prog 104 #[Al (V ⟨a,0,S⟩),X (V ⟨wI.heap.size,0,S⟩) 3 3] (wI.alloc (Ae #[I ⟨#[114,117,108,101,32]⟩,I (Aa (Hz r.number)),I ⟨#[32,123]⟩] 9)) fun e w'=>e=Af (Cm #[])/\WInv w' a (l++jx r) (1:Ad)/\Kept a wtags wa w'):=by
  have h:=jV JI.o KI.o [[114,117,108,101,32],Hz r.number,[32,123]] (by decide) (by omega) (by simp) (by simp only[Ci,Ew,Ah,Bb,Bu];omega);exact h
 refine aF.o.mono ?_;rintro e w1 ⟨rfl,aW,a1⟩;have J1:Y (WInv w1 a (l++jx r) (1:Ad)):=aW;have K1:Y (Kept a wtags wa w1):=a1;clear aW a1;have c1:w1.cell? ⟨a,2,S⟩=V (O Ai 1):=WInv.op J1.o;have f1:w1.frozen? ⟨a,2,S⟩=false:=WInv.fz J1.o;obtain⟨aX,a2⟩:=WInv.setOp J1.o (2:Ad);have J2:Y (WInv (w1.setCell ⟨a,2,S⟩ (O Ai 2)) a (l++jx r) (2:Ad)):=aX;have K2:Y (Kept a wtags wa (w1.setCell ⟨a,2,S⟩ (O Ai 2))):=K1.o.trans a2;have a7:Z (l++jx r)<=90000000001000:=by
  show(Z (l++lnS 1 [[114,117,108,101,32],Hz r.number,[32,123]]))<=_;unfold lnS;simp only[Ci,Ew,Ah,Bb,Bu,Hx];omega
 clear aX a2;have aP:=K2.o.cell B.o (by decide);have br:=cbi 1 aP;clear aP;go_wp2_with fail;refine(aN.o _).mono ?_;rintro e wq ⟨rfl,x⟩;subst x;generalize w1.setCell ⟨a,2,S⟩ (O Ai 2)=w2 at*;go_wp2_with fail;have aG:Y (Am prog 104 #[Al (V ⟨a,0,S⟩),X (V ⟨w2.heap.size,0,S⟩) 3 3] (w2.alloc (Ae #[I ⟨#[112,97,116,104,32]⟩,I (Aa (Fi r.path)),I ⟨#[59]⟩] 9)) fun e w'=>e=Af (Cm #[])/\WInv w' a (l++jx r++kj r) (2:Ad)/\Kept a wtags wa w'):=by
  have h:=jV J2.o K2.o [[112,97,116,104,32],Fi r.path,[59]] (by decide) (by omega) (by simp) (by simp only[Ci,Ew,Ah,Bb,Bu,Fy];omega);exact h
 refine aG.o.mono ?_;rintro e w3 ⟨rfl,aY,a3⟩;have J3:Y (WInv w3 a (l++jx r++kj r) (2:Ad)):=aY;have K3:Y (Kept a wtags wa w3):=a3;clear aY a3;have bo:Z (l++jx r++kj r)<=90000000010000:=by
  rw[Ah];show _+Z (lnS 2 [[112,97,116,104,32],Fi r.path,[59]])<=_;unfold lnS;simp only[Ci,Ew,Ah,Bb,Bu,Hx,Fy] at a7 ⊢;omega
 have aM:Y (l++res=(l++jx r++kj r)++((r.ms.map fun m=>Gg (mtOf m)).flatten++wF r++uF r++(r.sets.map Em).flatten++(r.drops.map Cz).flatten++lnS 1 [[125]])):=by
  show _=_;rw[<-aI.o];simp only[Bl]
 generalize l++jx r++kj r=pre at*;clear a7 c1 f1;have aQ:=K3.o.cell B.o (by decide);have bs:=cbi 2 aQ;clear aQ;go_wp2_with fail
 go_loopw [32] (fun iv wr=>∃k:Ad,k<=Z r.ms/\iv=O Ai k/\Y (WInv wr a (pre++((r.ms.take k).map (fun m=>Gg (mtOf m))).flatten) (2:Ad))/\(Z (pre++((r.ms.take k).map (fun m=>Gg (mtOf m))).flatten))<=90000000010000+6100*k/\Y (Kept a wtags wa wr)) (fun iv _=>Z r.ms-(intOf iv).toNat)
 ·exact⟨0,Ax _,rfl,by rw[Gm,Fa,Ew,Cv];exact J3,by rw[Gm,Fa,Ew,Cv];omega,K3⟩
 ·
  obtain⟨k,hk,rfl,i,p,j⟩:=hrel
  by_cases b:k<Z r.ms
  ·have al:(k:Ak)<Z r.ms:=by omega
   obtain⟨gm,aj,o,_,ak⟩:=Bm HM.o (by omega);simp only[Au] at o;obtain⟨rfl,_,rfl⟩:=o;have d:=vP HM.o j.o;have e0:wr.cell? ⟨gm,k*3,S⟩=V (I (Aa r.ms[k].name)):=qY P.Mt.cells 3 (fun _=>rfl) d (zP _ _) k 0 b (by omega) rfl;have e1:wr.cell? ⟨gm,k*3+1,S⟩=V (Av r.ms[k].ask):=qY P.Mt.cells 3 (fun _=>rfl) d (zP _ _) k 1 b (by omega) rfl;have e2:wr.cell? ⟨gm,k*3+2,S⟩=V (I (Aa r.ms[k].val)):=qY P.Mt.cells 3 (fun _=>rfl) d (zP _ _) k 2 b (by omega) rfl;clear d;have aC:=aw.o r.ms[k] (Cr b);have n:=kL (fun m=>Gg (mtOf m)) r.ms k b pre;have a9:Z (Gg (mtOf r.ms[k]))<=6100:=by
    unfold Gg mtOf;split <;> simp only[Ah,Fy,Bb,Bu] <;> omega
   have aK:Y (Am prog 160 #[Al (V ⟨a,0,S⟩),Fe #[I (Aa r.ms[k].name),Av r.ms[k].ask,I (Aa r.ms[k].val)]] (wr.alloc (Ae #[I (Aa r.ms[k].name),Av r.ms[k].ask,I (Aa r.ms[k].val)] 276)) fun e w'=>e=Af (Cm #[])/\WInv w' a (pre++((r.ms.take (k+1)).map (fun m=>Gg (mtOf m))).flatten) (2:Ad)/\Kept a wtags wa w'/\(Z (pre++((r.ms.take (k+1)).map (fun m=>Gg (mtOf m))).flatten))<=90000000010000+6100*(k+1)):=by
    refine(zbV (i.o.grown (Ac _ _ S)) r.ms[k] aC.1 aC.2 (by omega)).mono ?_;rintro e w' ⟨rfl,q1,q2⟩;rw[n];exact⟨rfl,q1,(j.o.trans (xJ (Ac _ _ S))).trans q2,by rw[Ah];omega⟩
   clear n a9 aC;generalize r.ms[k]=m at*;obtain⟨mn,ma,mv⟩:=m;simp only at e0 e1 e2 aK;go_wp2_with (go_at_call 160;refine aK.o.mono ?_;rintro e w2 ⟨rfl,h2,h3,h4⟩)
   go_roundw
   ·exact⟨k+1,by omega,by go_num,h2,h4,h3⟩
   ·simp[intOf];omega
  ·have HE:k=Z r.ms:=by omega
   subst HE;rw[Ia] at i p;have F:Y (l++res=(pre++(r.ms.map (fun m=>Gg (mtOf m))).flatten)++(wF r++uF r++(r.sets.map Em).flatten++(r.drops.map Cz).flatten++lnS 1 [[125]])):=by
    show _=_;rw[aM.o];simp only[Bl]
   generalize pre++(r.ms.map (fun m=>Gg (mtOf m))).flatten=pre2 at*;have bp:Z pre2<=90000100000000:=by omega
   clear p;have aR:=j.o.cell B.o (by decide);have bt:=cbi 3 aR;clear aR;have aH:Y (Am prog 161 #[X t1 (Z r.tg) t2] wr fun e w'=>e=Af (I (Aa (Ho r.tg)))/\wr.grownBy w' S):=zbS r.tg _ (vP aO.o j.o) be ax.o (av.o.kept j.o a8.o);go_wp2_with fail;refine aH.o.mono ?_;rintro e wL ⟨rfl,aA⟩;have KL:Y (Kept a wtags wa wL):=j.o.trans (xJ aA);have JL:Y (WInv wL a pre2 (2:Ad)):=WInv.grown i.o aA;clear aA i j;go_wp2_with fail;have Q:Y (Am prog 104 #[Al (V ⟨a,0,S⟩),X (V ⟨wL.heap.size,0,S⟩) 3 3] (wL.alloc (Ae #[I ⟨#[116,111,32]⟩,I (Aa (Ho r.tg)),I ⟨#[59]⟩] 9)) fun e w'=>e=Af (Cm #[])/\WInv w' a (pre2++wF r) (2:Ad)/\Kept a wtags wa w'):=by
    have h:=jV JL.o KL.o [[116,111,32],Ho r.tg,[59]] (by decide) (by omega) (by simp) (by simp only[Ci,Ew,Ah,Bb,Bu];omega);exact h
   refine Q.o.mono ?_;rintro e w5 ⟨rfl,aZ,a4⟩;have J5:Y (WInv w5 a (pre2++wF r) (2:Ad)):=aZ;have K5:Y (Kept a wtags wa w5):=a4;clear aZ a4;have bf:Z (pre2++wF r)<=90000200000000:=by
    rw[Ah];show _+Z (lnS 2 [[116,111,32],Ho r.tg,[59]])<=_;unfold lnS;simp only[Ci,Ew,Ah,Bb,Bu,Hx];omega
   clear bd
   by_cases z:r.rep=[]
   ·have bm:Aa r.rep=⟨#[]⟩:=by rw[z];rfl
    have y:Y (l++res=(pre2++wF r)++((r.sets.map Em).flatten++(r.drops.map Cz).flatten++lnS 1 [[125]])):=by
     show _=_;rw[F.o];unfold uF;rw[Az z];simp only[Bl,Hc]
    have v:Y (wa.ownsRow 0 9 1 (X H (Z r.drops) N) (Z r.drops) (r.drops.map fun s=>[I (Aa s)]).flatten):=strRow1 ai.o;clear z;generalize pre2++wF r=pre at*;have ae:=K5.o.cell B.o (by decide);have bh:=cbi 4 ae;clear ae;have aT:=K5.o.cell B.o (by decide);have bv:=cbi 5 aT;clear aT;go_wp2_with fail
    go_loopw [58] (fun iv wr=>∃k:Ad,k<=Z r.sets/\iv=O Ai k/\Y (WInv wr a (pre++((r.sets.take k).map Em).flatten) (2:Ad))/\(Z (pre++((r.sets.take k).map Em).flatten))<=90000300000000+6100*k/\Y (Kept a wtags wa wr)) (fun iv _=>Z r.sets-(intOf iv).toNat)
    ·exact⟨0,Ax _,rfl,by rw[Gm,Fa,Ew,Cv];exact J5,by rw[Gm,Fa,Ew,Cv];omega,K5⟩
    ·
     obtain⟨k,hk,rfl,i,p,j⟩:=hrel
     by_cases b:k<Z r.sets
     ·have al:(k:Ak)<Z r.sets:=by omega
      obtain⟨gm,aj,o,_,ak⟩:=Bm aa.o (by omega);simp only[Au] at o;obtain⟨rfl,_,rfl⟩:=o;have d:=vP aa.o j.o;have e0:wr.cell? ⟨gm,k*2,S⟩=V (I (Aa r.sets[k].1)):=qY (fun t:A Ab×A Ab=>[I (Aa t.1),I (Aa t.2)]) 2 (fun _=>rfl) d (zP _ _) k 0 b (by omega) rfl;have e1:wr.cell? ⟨gm,k*2+1,S⟩=V (I (Aa r.sets[k].2)):=qY (fun t:A Ab×A Ab=>[I (Aa t.1),I (Aa t.2)]) 2 (fun _=>rfl) d (zP _ _) k 1 b (by omega) rfl;clear d;have C:=ad.o r.sets[k] (Cr b);have n:=kL Em r.sets k b pre;generalize bc:r.sets[k]=st at*;obtain⟨f,g⟩:=st;simp only at e0 e1 C;have ap:Y (∀W,Am prog 105 #[I (Aa f)] W fun e w'=>e=Af (I (Aa (Fi f)))/\w'=W):=fun W=>ye f W C.1
      have aq:Y (∀W,Am prog 105 #[I (Aa g)] W fun e w'=>e=Af (I (Aa (Fi g)))/\w'=W):=fun W=>ye g W C.2
      have u:Y ((wr.alloc (Ae #[I (Aa f),I (Aa g)] 280)).heap[wr.heap.size]?=V (Ae #[I (Aa f),I (Aa g)] 280)):=Bn _ _;have b0:=cbi 0 u.o;have b1:=cbi 1 u.o;have Q:Y (Am prog 104 #[Al (V ⟨a,0,S⟩),X (V ⟨wr.heap.size+1,0,S⟩) 5 5] (((wr.alloc (Ae #[I (Aa f),I (Aa g)] 280)).drew).alloc (Ae #[I ⟨#[115,101,116,32]⟩,I (Aa (Fi f)),I ⟨#[32,61,32]⟩,I (Aa (Fi g)),I ⟨#[59]⟩] 9)) fun e w'=>e=Af (Cm #[])/\WInv w' a (pre++((r.sets.take (k+1)).map Em).flatten) (2:Ad)/\Kept a wtags wa w'/\(Z (pre++((r.sets.take (k+1)).map Em).flatten))<=90000300000000+6100*(k+1)/\w'.cell? ⟨wr.heap.size,0,S⟩=V (I (Aa f))/\w'.cell? ⟨wr.heap.size,1,S⟩=V (I (Aa g))):=by
       have gD:wr.grownBy (wr.alloc (Ae #[I (Aa f),I (Aa g)] 280)).drew S:=zD (Ac _ _ S) (zV _);have h:=jV (w0:=(wr.alloc (Ae #[I (Aa f),I (Aa g)] 280)).drew) (i.o.grown gD) (Kept.refl _ _ _) [[115,101,116,32],Fi f,[32,61,32],Fi g,[59]] (by decide) (by omega) (by simp) (by simp only[Ci,Ew,Ah,Bb,Bu,Fy];omega);rw[show((wr.alloc (Ae #[I (Aa f),I (Aa g)] 280)).drew).heap.size=wr.heap.size+1 by simp[Md]] at h;have aB:Z (Em (f,g))<=6100:=by
        unfold Em;simp only[Ah,Fy,Bb,Bu];omega
       rw[n];refine Oq h fun e w' ⟨q1,q2,q3⟩=>⟨q1,?_,(j.o.trans (xJ gD)).trans q3,by rw[Ah];omega,zB (q3.cell (c:=#[I (Aa f),I (Aa g)]) u.o (by decide)),zB (q3.cell (c:=#[I (Aa f),I (Aa g)]) u.o (by decide))⟩
       rw[ziU (f,g)] at q2;exact q2
      clear n C i j;go_wp2_with fail
      go_region_held3 (fun W=>W.cell? ⟨wr.heap.size,0,S⟩=V (I (Aa f))/\W.cell? ⟨wr.heap.size,1,S⟩=V (I (Aa g))) (go_keep) (first
       |(go_at_call 105;refine(ap.o _).mono ?_;rintro e w' ⟨rfl,rfl⟩)
       |(go_at_call 105;refine(aq.o _).mono ?_;rintro e w' ⟨rfl,rfl⟩)
       |(go_at_call 104;refine Q.o.mono ?_;rintro e w3 ⟨rfl,h2,h3,h4,g4,g5⟩))
      all_goals
       go_wp2
       go_roundw
       ·exact⟨k+1,by omega,by go_num,h2,h4,h3⟩
       ·simp[intOf];omega
     ·have HE:k=Z r.sets:=by omega
      subst HE;rw[Ia] at i p;have E:Y (l++res=(pre++(r.sets.map Em).flatten)++((r.drops.map Cz).flatten++lnS 1 [[125]])):=by
       show _=_;rw[y.o];simp only[Bl]
      generalize pre++(r.sets.map Em).flatten=pre at*;have bg:Z pre<=90000400000000:=by omega
      have J6:Y (WInv wr a pre (2:Ad)):=i;have K6:Y (Kept a wtags wa wr):=j;clear p i j hk;have aS:=K6.o.cell B.o (by decide);have bu:=cbi 6 aS;clear aS;go_wp2_with fail
      go_loopw [75] (fun iv wr=>∃k:Ad,k<=Z r.drops/\iv=O Ai k/\Y (WInv wr a (pre++((r.drops.take k).map Cz).flatten) (2:Ad))/\(Z (pre++((r.drops.take k).map Cz).flatten))<=90000400000000+6100*k/\Y (Kept a wtags wa wr)) (fun iv _=>Z r.drops-(intOf iv).toNat)
      ·exact⟨0,Ax _,rfl,by rw[Gm,Fa,Ew,Cv];exact J6,by rw[Gm,Fa,Ew,Cv];omega,K6⟩
      ·
       obtain⟨k,hk,rfl,i,p,j⟩:=hrel
       by_cases b:k<Z r.drops
       ·have al:(k:Ak)<Z r.drops:=by omega
        obtain⟨gm,aj,o,_,ak⟩:=Bm v.o (by omega);simp only[Au] at o;obtain⟨rfl,_,rfl⟩:=o;have d:=vP v.o j.o;have e0:wr.cell? ⟨gm,k*1,S⟩=V (I (Aa r.drops[k])):=qY (fun s=>[I (Aa s)]) 1 (fun _=>rfl) d (zP _ _) k 0 b (by omega) rfl;clear d;rw[Nx] at e0;have ah:=ab.o r.drops[k] (Cr b);have n:=kL Cz r.drops k b pre;generalize r.drops[k]=dk at*;have ar:Y (∀W,Am prog 105 #[I (Aa dk)] W fun e w'=>e=Af (I (Aa (Fi dk)))/\w'=W):=fun W=>ye dk W ah
        have an:Y (Am prog 104 #[Al (V ⟨a,0,S⟩),X (V ⟨wr.heap.size,0,S⟩) 3 3] (wr.alloc (Ae #[I ⟨#[100,114,111,112,32]⟩,I (Aa (Fi dk)),I ⟨#[59]⟩] 9)) fun e w'=>e=Af (Cm #[])/\WInv w' a (pre++((r.drops.take (k+1)).map Cz).flatten) (2:Ad)/\Kept a wtags wa w'/\(Z (pre++((r.drops.take (k+1)).map Cz).flatten))<=90000400000000+6100*(k+1)):=by
         have h:=jV i.o j.o [[100,114,111,112,32],Fi dk,[59]] (by decide) (by omega) (by simp) (by simp only[Ci,Ew,Ah,Bb,Bu,Fy];omega);have aB:Z (Cz dk)<=6100:=by
          unfold Cz;simp only[Ah,Fy,Bb,Bu];omega
         rw[n];refine Oq h fun e w' ⟨q1,q2,q3⟩=>⟨q1,?_,q3,by rw[Ah];omega⟩
         rw[zcT dk] at q2;exact q2
        clear n ah i j;go_wp2_with fail;refine(ar.o _).mono ?_;rintro e wq ⟨rfl,x⟩;rw[x];clear x wq;go_wp2_with fail;refine an.o.mono ?_;rintro e w7 ⟨rfl,h2,h3,h4⟩;go_wp2
        go_roundw
        ·exact⟨k+1,by omega,by go_num,h2,h4,h3⟩
        ·simp[intOf];omega
       ·have HE:k=Z r.drops:=by omega
        subst HE;rw[Ia] at i p;have ao:Y (l++res=(pre++(r.drops.map Cz).flatten)++lnS 1 [[125]]):=by
         show _=_;rw[E.o];simp only[Bl]
        generalize pre++(r.drops.map Cz).flatten=pre8 at*;have c8:wr.cell? ⟨a,2,S⟩=V (O Ai 2):=WInv.op i.o;have f8:wr.frozen? ⟨a,2,S⟩=false:=WInv.fz i.o;obtain⟨af,ag⟩:=WInv.setOp i.o (1:Ad);have J8:Y (WInv (wr.setCell ⟨a,2,S⟩ (O Ai 1)) a pre8 (1:Ad)):=af;have K8:Y (Kept a wtags wa (wr.setCell ⟨a,2,S⟩ (O Ai 1))):=j.o.trans ag;clear af ag i j;have am:Y (Am prog 104 #[Al (V ⟨a,0,S⟩),X (V ⟨wr.heap.size,0,S⟩) 1 1] ((wr.setCell ⟨a,2,S⟩ (O Ai 1)).alloc (Ae #[I ⟨#[125]⟩] 9)) fun e w'=>e=Af (Cm #[])/\WInv w' a (pre8++lnS 1 [[125]]) (1:Ad)/\Kept a wtags wa w'):=by
         have h:=jV J8.o K8.o [[125]];rw[show(wr.setCell ⟨a,2,S⟩ (O Ai 1)).heap.size=wr.heap.size by simp[Bs]] at h;exact h
        go_wp2_with fail;refine am.o.mono ?_;rintro e w9 ⟨rfl,h2,h3⟩;go_wp2
        go_end0
        rw[ao.o];exact⟨rfl,h2,aE.o.trans h3⟩
   ·have y:Y (l++res=(pre2++wF r++uF r)++((r.sets.map Em).flatten++(r.drops.map Cz).flatten++lnS 1 [[125]])):=by
     show _=_;rw[F.o];simp only[Bl]
    have a6:uF r=lnS 2 [[114,101,112,108,97,99,101,32],Fi r.rep,[59]]:=by unfold uF;rw[Aw z]
    have v:Y (wa.ownsRow 0 9 1 (X H (Z r.drops) N) (Z r.drops) (r.drops.map fun s=>[I (Aa s)]).flatten):=strRow1 ai.o;rw[a6] at y;have bi:(Aa r.rep).toList.isEmpty=false:=by
     rw[ByteArray.toList_eq,Be]
     cases h:r.rep with
     |nil=>exact absurd h z
     |cons _ _=>rfl
    clear a6 z;have ae:=K5.o.cell B.o (by decide);have bh:=cbi 4 ae;clear ae;go_wp2_with fail;refine(au.o _).mono ?_;rintro e wq ⟨rfl,x⟩;rw[x];clear x wq;go_wp2_with fail;have aJ:Y (Am prog 104 #[Al (V ⟨a,0,S⟩),X (V ⟨w5.heap.size,0,S⟩) 3 3] (w5.alloc (Ae #[I ⟨#[114,101,112,108,97,99,101,32]⟩,I (Aa (Fi r.rep)),I ⟨#[59]⟩] 9)) fun e w'=>e=Af (Cm #[])/\WInv w' a (pre2++wF r++lnS 2 [[114,101,112,108,97,99,101,32],Fi r.rep,[59]]) (2:Ad)/\Kept a wtags wa w'):=by
     have h:=jV J5.o K5.o [[114,101,112,108,97,99,101,32],Fi r.rep,[59]] (by decide) (by omega) (by simp) (by simp only[Ci,Ew,Ah,Bb,Bu,Fy];omega);exact h
    refine aJ.o.mono ?_;rintro e wp ⟨rfl,a0,a5⟩;have Jp:Y (WInv wp a (pre2++wF r++lnS 2 [[114,101,112,108,97,99,101,32],Fi r.rep,[59]]) (2:Ad)):=a0;have Kp:Y (Kept a wtags wa wp):=a5;clear a0 a5;have bq:Z (pre2++wF r++lnS 2 [[114,101,112,108,97,99,101,32],Fi r.rep,[59]])<=90000300000000:=by
     rw[Ah];unfold lnS;simp only[Ci,Ew,Ah,Bb,Bu,Hx,Fy] at bf ⊢;omega
    generalize pre2++wF r++lnS 2 [[114,101,112,108,97,99,101,32],Fi r.rep,[59]]=pre at*;have aV:=Kp.o.cell B.o (by decide);have bx:=cbi 5 aV;clear aV;go_wp2_with fail
    go_loopw [58] (fun iv wr=>∃k:Ad,k<=Z r.sets/\iv=O Ai k/\Y (WInv wr a (pre++((r.sets.take k).map Em).flatten) (2:Ad))/\(Z (pre++((r.sets.take k).map Em).flatten))<=90000300000000+6100*k/\Y (Kept a wtags wa wr)) (fun iv _=>Z r.sets-(intOf iv).toNat)
    ·exact⟨0,Ax _,rfl,by rw[Gm,Fa,Ew,Cv];exact Jp,by rw[Gm,Fa,Ew,Cv];omega,Kp⟩
    ·
     obtain⟨k,hk,rfl,i,p,j⟩:=hrel
     by_cases b:k<Z r.sets
     ·have al:(k:Ak)<Z r.sets:=by omega
      obtain⟨gm,aj,o,_,ak⟩:=Bm aa.o (by omega);simp only[Au] at o;obtain⟨rfl,_,rfl⟩:=o;have d:=vP aa.o j.o;have e0:wr.cell? ⟨gm,k*2,S⟩=V (I (Aa r.sets[k].1)):=qY (fun t:A Ab×A Ab=>[I (Aa t.1),I (Aa t.2)]) 2 (fun _=>rfl) d (zP _ _) k 0 b (by omega) rfl;have e1:wr.cell? ⟨gm,k*2+1,S⟩=V (I (Aa r.sets[k].2)):=qY (fun t:A Ab×A Ab=>[I (Aa t.1),I (Aa t.2)]) 2 (fun _=>rfl) d (zP _ _) k 1 b (by omega) rfl;clear d;have C:=ad.o r.sets[k] (Cr b);have n:=kL Em r.sets k b pre;generalize bc:r.sets[k]=st at*;obtain⟨f,g⟩:=st;simp only at e0 e1 C;have ap:Y (∀W,Am prog 105 #[I (Aa f)] W fun e w'=>e=Af (I (Aa (Fi f)))/\w'=W):=fun W=>ye f W C.1
      have aq:Y (∀W,Am prog 105 #[I (Aa g)] W fun e w'=>e=Af (I (Aa (Fi g)))/\w'=W):=fun W=>ye g W C.2
      have u:Y ((wr.alloc (Ae #[I (Aa f),I (Aa g)] 280)).heap[wr.heap.size]?=V (Ae #[I (Aa f),I (Aa g)] 280)):=Bn _ _;have b0:=cbi 0 u.o;have b1:=cbi 1 u.o;have Q:Y (Am prog 104 #[Al (V ⟨a,0,S⟩),X (V ⟨wr.heap.size+1,0,S⟩) 5 5] (((wr.alloc (Ae #[I (Aa f),I (Aa g)] 280)).drew).alloc (Ae #[I ⟨#[115,101,116,32]⟩,I (Aa (Fi f)),I ⟨#[32,61,32]⟩,I (Aa (Fi g)),I ⟨#[59]⟩] 9)) fun e w'=>e=Af (Cm #[])/\WInv w' a (pre++((r.sets.take (k+1)).map Em).flatten) (2:Ad)/\Kept a wtags wa w'/\(Z (pre++((r.sets.take (k+1)).map Em).flatten))<=90000300000000+6100*(k+1)/\w'.cell? ⟨wr.heap.size,0,S⟩=V (I (Aa f))/\w'.cell? ⟨wr.heap.size,1,S⟩=V (I (Aa g))):=by
       have gD:wr.grownBy (wr.alloc (Ae #[I (Aa f),I (Aa g)] 280)).drew S:=zD (Ac _ _ S) (zV _);have h:=jV (w0:=(wr.alloc (Ae #[I (Aa f),I (Aa g)] 280)).drew) (i.o.grown gD) (Kept.refl _ _ _) [[115,101,116,32],Fi f,[32,61,32],Fi g,[59]] (by decide) (by omega) (by simp) (by simp only[Ci,Ew,Ah,Bb,Bu,Fy];omega);rw[show((wr.alloc (Ae #[I (Aa f),I (Aa g)] 280)).drew).heap.size=wr.heap.size+1 by simp[Md]] at h;have aB:Z (Em (f,g))<=6100:=by
        unfold Em;simp only[Ah,Fy,Bb,Bu];omega
       rw[n];refine Oq h fun e w' ⟨q1,q2,q3⟩=>⟨q1,?_,(j.o.trans (xJ gD)).trans q3,by rw[Ah];omega,zB (q3.cell (c:=#[I (Aa f),I (Aa g)]) u.o (by decide)),zB (q3.cell (c:=#[I (Aa f),I (Aa g)]) u.o (by decide))⟩
       rw[ziU (f,g)] at q2;exact q2
      clear n C i j;go_wp2_with fail
      go_region_held3 (fun W=>W.cell? ⟨wr.heap.size,0,S⟩=V (I (Aa f))/\W.cell? ⟨wr.heap.size,1,S⟩=V (I (Aa g))) (go_keep) (first
       |(go_at_call 105;refine(ap.o _).mono ?_;rintro e w' ⟨rfl,rfl⟩)
       |(go_at_call 105;refine(aq.o _).mono ?_;rintro e w' ⟨rfl,rfl⟩)
       |(go_at_call 104;refine Q.o.mono ?_;rintro e w3 ⟨rfl,h2,h3,h4,g4,g5⟩))
      all_goals
       go_wp2
       go_roundw
       ·exact⟨k+1,by omega,by go_num,h2,h4,h3⟩
       ·simp[intOf];omega
     ·have HE:k=Z r.sets:=by omega
      subst HE;rw[Ia] at i p;have E:Y (l++res=(pre++(r.sets.map Em).flatten)++((r.drops.map Cz).flatten++lnS 1 [[125]])):=by
       show _=_;rw[y.o];simp only[Bl]
      generalize pre++(r.sets.map Em).flatten=pre at*;have bg:Z pre<=90000400000000:=by omega
      have J6:Y (WInv wr a pre (2:Ad)):=i;have K6:Y (Kept a wtags wa wr):=j;clear p i j hk;have aU:=K6.o.cell B.o (by decide);have bw:=cbi 6 aU;clear aU;go_wp2_with fail
      go_loopw [75] (fun iv wr=>∃k:Ad,k<=Z r.drops/\iv=O Ai k/\Y (WInv wr a (pre++((r.drops.take k).map Cz).flatten) (2:Ad))/\(Z (pre++((r.drops.take k).map Cz).flatten))<=90000400000000+6100*k/\Y (Kept a wtags wa wr)) (fun iv _=>Z r.drops-(intOf iv).toNat)
      ·exact⟨0,Ax _,rfl,by rw[Gm,Fa,Ew,Cv];exact J6,by rw[Gm,Fa,Ew,Cv];omega,K6⟩
      ·
       obtain⟨k,hk,rfl,i,p,j⟩:=hrel
       by_cases b:k<Z r.drops
       ·have al:(k:Ak)<Z r.drops:=by omega
        obtain⟨gm,aj,o,_,ak⟩:=Bm v.o (by omega);simp only[Au] at o;obtain⟨rfl,_,rfl⟩:=o;have d:=vP v.o j.o;have e0:wr.cell? ⟨gm,k*1,S⟩=V (I (Aa r.drops[k])):=qY (fun s=>[I (Aa s)]) 1 (fun _=>rfl) d (zP _ _) k 0 b (by omega) rfl;clear d;rw[Nx] at e0;have ah:=ab.o r.drops[k] (Cr b);have n:=kL Cz r.drops k b pre;generalize r.drops[k]=dk at*;have ar:Y (∀W,Am prog 105 #[I (Aa dk)] W fun e w'=>e=Af (I (Aa (Fi dk)))/\w'=W):=fun W=>ye dk W ah
        have an:Y (Am prog 104 #[Al (V ⟨a,0,S⟩),X (V ⟨wr.heap.size,0,S⟩) 3 3] (wr.alloc (Ae #[I ⟨#[100,114,111,112,32]⟩,I (Aa (Fi dk)),I ⟨#[59]⟩] 9)) fun e w'=>e=Af (Cm #[])/\WInv w' a (pre++((r.drops.take (k+1)).map Cz).flatten) (2:Ad)/\Kept a wtags wa w'/\(Z (pre++((r.drops.take (k+1)).map Cz).flatten))<=90000400000000+6100*(k+1)):=by
         have h:=jV i.o j.o [[100,114,111,112,32],Fi dk,[59]] (by decide) (by omega) (by simp) (by simp only[Ci,Ew,Ah,Bb,Bu,Fy];omega);have aB:Z (Cz dk)<=6100:=by
          unfold Cz;simp only[Ah,Fy,Bb,Bu];omega
         rw[n];refine Oq h fun e w' ⟨q1,q2,q3⟩=>⟨q1,?_,q3,by rw[Ah];omega⟩
         rw[zcT dk] at q2;exact q2
        clear n ah i j;go_wp2_with fail;refine(ar.o _).mono ?_;rintro e wq ⟨rfl,x⟩;rw[x];clear x wq;go_wp2_with fail;refine an.o.mono ?_;rintro e w7 ⟨rfl,h2,h3,h4⟩;go_wp2
        go_roundw
        ·exact⟨k+1,by omega,by go_num,h2,h4,h3⟩
        ·simp[intOf];omega
       ·have HE:k=Z r.drops:=by omega
        subst HE;rw[Ia] at i p;have ao:Y (l++res=(pre++(r.drops.map Cz).flatten)++lnS 1 [[125]]):=by
         show _=_;rw[E.o];simp only[Bl]
        generalize pre++(r.drops.map Cz).flatten=pre8 at*;have c8:wr.cell? ⟨a,2,S⟩=V (O Ai 2):=WInv.op i.o;have f8:wr.frozen? ⟨a,2,S⟩=false:=WInv.fz i.o;obtain⟨af,ag⟩:=WInv.setOp i.o (1:Ad);have J8:Y (WInv (wr.setCell ⟨a,2,S⟩ (O Ai 1)) a pre8 (1:Ad)):=af;have K8:Y (Kept a wtags wa (wr.setCell ⟨a,2,S⟩ (O Ai 1))):=j.o.trans ag;clear af ag i j;have am:Y (Am prog 104 #[Al (V ⟨a,0,S⟩),X (V ⟨wr.heap.size,0,S⟩) 1 1] ((wr.setCell ⟨a,2,S⟩ (O Ai 1)).alloc (Ae #[I ⟨#[125]⟩] 9)) fun e w'=>e=Af (Cm #[])/\WInv w' a (pre8++lnS 1 [[125]]) (1:Ad)/\Kept a wtags wa w'):=by
         have h:=jV J8.o K8.o [[125]];rw[show(wr.setCell ⟨a,2,S⟩ (O Ai 1)).heap.size=wr.heap.size by simp[Bs]] at h;exact h
        go_wp2_with fail;refine am.o.mono ?_;rintro e w9 ⟨rfl,h2,h3⟩;go_wp2
        go_end0
        rw[ao.o];exact⟨rfl,h2,aE.o.trans h3⟩
theorem PRuleVal.kept {a:A Aj}{r:P.Rl}(h:PRuleVal w a r)(b:Kept B wtags w w'):PRuleVal w' a r:=by grind[vP,P.Rl,PRuleVal,Kept,wtags]
theorem zfR {f:Ad}(h:WInv w f l (0:Ad))(cs:A Aj)(x:P.Hst)(hv:PHostVal w cs x)(hs:Qn (toR x))(hl:Z l<=80000000000000)(hT:GT w)(hB:GTB f):Am prog 68 #[Al (V ⟨f,0,S⟩),Fe cs.toArray] w fun e w'=>e=Af (Cm #[])/\WInv w' f (l++Ex (toR x)) (0:Ad)/\Kept f wtags w w':=by
 obtain⟨vR,rfl,au,i,s⟩:=hv;obtain⟨m,n,rfl⟩:=zL i;have C:w.grownBy (w.alloc (Ae #[I (Aa x.name),X m (Z x.rules) n] 146)) S:=Ac _ _ _;have E:Y ((w.alloc (Ae #[I (Aa x.name),X m (Z x.rules) n] 146)).heap[w.heap.size]?=V (Ae #[I (Aa x.name),X m (Z x.rules) n] 146)):=Bn _ _;have J0:Y (WInv (w.alloc (Ae #[I (Aa x.name),X m (Z x.rules) n] 146)) f l (0:Ad)):=h.grown C;have ab:Y (GT (w.alloc (Ae #[I (Aa x.name),X m (Z x.rules) n] 146))):=hT.grown C;have F:Y (GTB f):=hB;have ao:Y (Kept f wtags w (w.alloc (Ae #[I (Aa x.name),X m (Z x.rules) n] 146))):=xJ C;have HR:=J (zK i C (fun k hk c=>by cases c));have HA:Y (All2 (PRuleVal (w.alloc (Ae #[I (Aa x.name),X m (Z x.rules) n] 146))) au x.rules):=s.map fun a b hab=>hab.keep C (za _ _)
 have K0:Y (Kept f wtags (w.alloc (Ae #[I (Aa x.name),X m (Z x.rules) n] 146)) (w.alloc (Ae #[I (Aa x.name),X m (Z x.rules) n] 146))):=Kept.refl _ _ _;have z:Z x.name<=3000:=hs.name;have aB:Z x.rules<=4000:=by have:=hs.rules.1;simpa[toR] using this
 have t:Y (∀r∈x.rules,R.Small (toRl r)):=fun r hr=>hs.rules.2 (toRl r) (Hh hr)
 have N:Y (lnS 0 [[104,111,115,116,32],Fi x.name,[32,123]]++(x.rules.map (fun r=>Fu (toRl r))).flatten++lnS 0 [[125]]=Ex (toR x)):=zk2 x;have HQ:Y (∀W,Am prog 105 #[I (Aa x.name)] W fun e w'=>e=Af (I (Aa (Fi x.name)))/\w'=W):=fun W=>ye x.name W z
 have u0:=cbi 0 E.o;generalize Ex (toR x)=res at*;go_in;go_wp2_with fail;refine(HQ.o _).mono ?_;rintro e wq ⟨rfl,ax⟩;subst ax;generalize w.alloc (Ae #[I (Aa x.name),X m (Z x.rules) n] 146)=wa at*;go_wp2_with fail;have H:Y (Am prog 104 #[Al (V ⟨f,0,S⟩),X (V ⟨wa.heap.size,0,S⟩) 3 3] (wa.alloc (Ae #[I ⟨#[104,111,115,116,32]⟩,I (Aa (Fi x.name)),I ⟨#[32,123]⟩] 9)) fun e w'=>e=Af (Cm #[])/\WInv w' f (l++lnS 0 [[104,111,115,116,32],Fi x.name,[32,123]]) (0:Ad)/\Kept f wtags wa w'):=by
  have h:=jV J0.o K0.o [[104,111,115,116,32],Fi x.name,[32,123]] (by decide) (by omega) (by simp) (by simp only[Ci,Ew,Ah,Bb,Bu,Fy];omega);exact h
 refine H.o.mono ?_;rintro e w1 ⟨rfl,o,ag⟩;have aC:Z (l++lnS 0 [[104,111,115,116,32],Fi x.name,[32,123]])<=80000000010000:=by
  unfold lnS;simp only[Ci,Ew,Ah,Bb,Bu,Hx,Fy];omega
 have aa:Y (l++res=(l++lnS 0 [[104,111,115,116,32],Fi x.name,[32,123]])++((x.rules.map (fun r=>Fu (toRl r))).flatten++lnS 0 [[125]])):=by
  show _=_;rw[<-N.o];simp only[Bl]
 generalize l++lnS 0 [[104,111,115,116,32],Fi x.name,[32,123]]=pre at*;have c1:w1.cell? ⟨f,2,S⟩=V (O Ai 0):=o.op;have f1:w1.frozen? ⟨f,2,S⟩=false:=o.fz;obtain⟨ae,ah⟩:=o.setOp (1:Ad);have J2:Y (WInv (w1.setCell ⟨f,2,S⟩ (O Ai 1)) f pre (1:Ad)):=ae;have K2:Y (Kept f wtags wa (w1.setCell ⟨f,2,S⟩ (O Ai 1))):=ag.trans ah;have ad:=K2.o.cell E.o (by decide);have u2:=cbi 1 ad;go_wp2_with fail
 go_loopw [22] (fun iv wr=>∃k:Ad,k<=Z x.rules/\iv=O Ai k/\Y (WInv wr f (pre++((x.rules.take k).map (fun r=>Fu (toRl r))).flatten) (1:Ad))/\(Z (pre++((x.rules.take k).map (fun r=>Fu (toRl r))).flatten))<=80000000010000+110000000*k/\Y (Kept f wtags wa wr)) (fun iv _=>Z x.rules-(intOf iv).toNat)
 ·exact⟨0,Ax _,rfl,by rw[Gm,Fa,Ew,Cv];exact J2,by rw[Gm,Fa,Ew,Cv];omega,K2⟩
 ·
  obtain⟨k,hk,rfl,u,aw,v⟩:=hrel
  by_cases y:k<Z x.rules
  ·have aA:(k:Ak)<Z x.rules:=by omega
   obtain⟨p,ay,am,_,az⟩:=Bm HR.o (by omega);simp only[Au] at am;obtain⟨rfl,_,rfl⟩:=am;have an:=vP HR.o v.o;obtain⟨ce,ak,al⟩:=aE HA.o k y;have g:=ak.kept v.o;have B:=t.o x.rules[k] (Cr y);have Q:=kL (fun r=>Fu (toRl r)) x.rules k y pre;have av:=R.lines_len _ B;have d:∀j,j<7->wr.cell? ⟨p,k*7+j,S⟩=ce[j]?:=fun j hj=>by
    rw[Ap an (k*7+j) (by omega)];exact al j hj
   generalize x.rules[k]=r at*;obtain⟨vM,vT,vS,vD,rfl,hM,aj,hS,hD⟩:=id g;obtain⟨m1,m2,rfl⟩:=zL hM;obtain⟨t1,t2,rfl⟩:=zL aj;obtain⟨x1,x2,rfl⟩:=zL hS;obtain⟨d1,d2,rfl⟩:=zL hD;have e0:wr.cell? ⟨p,k*7,S⟩=V (O Ai r.number):=d 0 (by omega);have e1:wr.cell? ⟨p,k*7+1,S⟩=V (I (Aa r.path)):=d 1 (by omega);have e2:wr.cell? ⟨p,k*7+2,S⟩=V (X m1 (Z r.ms) m2):=d 2 (by omega);have e3:wr.cell? ⟨p,k*7+3,S⟩=V (X t1 (Z r.tg) t2):=d 3 (by omega);have e4:wr.cell? ⟨p,k*7+4,S⟩=V (I (Aa r.rep)):=d 4 (by omega);have e5:wr.cell? ⟨p,k*7+5,S⟩=V (X x1 (Z r.sets) x2):=d 5 (by omega);have e6:wr.cell? ⟨p,k*7+6,S⟩=V (X d1 (Z r.drops) d2):=d 6 (by omega);have ar:Y (Am prog 106 #[Al (V ⟨f,0,S⟩),Fe #[O Ai r.number,I (Aa r.path),X m1 (Z r.ms) m2,X t1 (Z r.tg) t2,I (Aa r.rep),X x1 (Z r.sets) x2,X d1 (Z r.drops) d2]] (wr.alloc (Ae #[O Ai r.number,I (Aa r.path),X m1 (Z r.ms) m2,X t1 (Z r.tg) t2,I (Aa r.rep),X x1 (Z r.sets) x2,X d1 (Z r.drops) d2] 213)) fun e w'=>e=Af (Cm #[])/\WInv w' f (pre++((x.rules.take (k+1)).map (fun r=>Fu (toRl r))).flatten) (1:Ad)/\Kept f wtags wa w'/\(Z (pre++((x.rules.take (k+1)).map (fun r=>Fu (toRl r))).flatten))<=80000000010000+110000000*(k+1)):=by
    have gB:wr.grownBy (wr.alloc (Ae #[O Ai r.number,I (Aa r.path),X m1 (Z r.ms) m2,X t1 (Z r.tg) t2,I (Aa r.rep),X x1 (Z r.sets) x2,X d1 (Z r.drops) d2] 213)) S:=Ac _ _ S;refine(zfS (u.o.grown gB) _ r (g.keep gB (za _ _)) B (by omega) ((ab.o.kept v.o F.o).grown gB) F.o).mono ?_;rintro e w' ⟨rfl,q1,q2⟩;rw[Q];exact⟨rfl,q1,(v.o.trans (xJ gB)).trans q2,by rw[Ah];omega⟩
   go_wp2_with (go_at_call 106;refine ar.o.mono ?_;rintro e w2 ⟨rfl,h2,h3,h4⟩)
   go_roundw
   ·exact⟨k+1,by omega,by go_num,h2,h4,h3⟩
   ·simp[intOf];omega
  ·have HE:k=Z x.rules:=by omega
   subst HE;rw[Ia] at u aw;have aq:Y (l++res=(pre++(x.rules.map (fun r=>Fu (toRl r))).flatten)++lnS 0 [[125]]):=by
    show _=_;rw[aa.o];simp only[Bl]
   generalize pre++(x.rules.map (fun r=>Fu (toRl r))).flatten=pre8 at*;have c8:wr.cell? ⟨f,2,S⟩=V (O Ai 1):=u.o.op;have f8:wr.frozen? ⟨f,2,S⟩=false:=u.o.fz;obtain⟨af,ai⟩:=u.o.setOp (0:Ad);have J8:Y (WInv (wr.setCell ⟨f,2,S⟩ (O Ai 0)) f pre8 (0:Ad)):=af;have K8:Y (Kept f wtags wa (wr.setCell ⟨f,2,S⟩ (O Ai 0))):=v.o.trans ai;have ap:Y (Am prog 104 #[Al (V ⟨f,0,S⟩),X (V ⟨wr.heap.size,0,S⟩) 1 1] ((wr.setCell ⟨f,2,S⟩ (O Ai 0)).alloc (Ae #[I ⟨#[125]⟩] 9)) fun e w'=>e=Af (Cm #[])/\WInv w' f (pre8++lnS 0 [[125]]) (0:Ad)/\Kept f wtags wa w'):=by
    have h:=jV J8.o K8.o [[125]];rw[show(wr.setCell ⟨f,2,S⟩ (O Ai 0)).heap.size=wr.heap.size by simp[Bs]] at h;exact h
   go_wp2_with fail;refine ap.o.mono ?_;rintro e w9 ⟨rfl,h2,h3⟩;go_wp2
   go_end0
   rw[aq.o];exact⟨rfl,h2,ao.o.trans h3⟩
theorem PHostVal.kept {d:A Aj}{x:P.Hst}(h:PHostVal w d x)(f:Kept B wtags w w'):PHostVal w' d x:=by
 obtain⟨j,e,c,g,i⟩:=h;exact⟨j,e,c,vP g f,i.map fun a b hab=>hab.kept f⟩
theorem aH (x:R.Hst):Ex x≠[]:=by unfold Ex;simp
theorem pQ (x:R.Hst)(a:Qn x):Z (Ex x)<=440000010000:=by
 have b:Z (x.rules.map Fu).flatten<=Z x.rules*110000000:=Od _ _ _ (fun r hr=>R.lines_len r (a.rules.2 r hr))
 grind[Fu,Od,R.lines_len,Ex,List.length_append,Fy,List.length_cons,List.length_nil,R.Hst,Qn]
theorem eU (f:α->A Ab)(l:A α)(k:Ad):Z ((l.take k).map f).flatten<=Z (l.map f).flatten:=by grind[List.take_append_drop,List.flatten_append,List.length_append]
theorem ze6 (a:A P.Hst)(c:Z a<=12)(b:∀h∈a,Qn (toR h)):Z (a.map fun h=>Ex (toR h)).flatten<=79000000000000:=by
 have h:=Od (fun h:P.Hst=>Ex (toR h)) 440000010000 a (fun x hx=>pQ _ (b x hx))
 omega
abbrev Gt0:=Ae #[Al S,X S 0 0,O Ai 0] 143
abbrev Gt6 (a b c):=Ae #[X b a c] 88
theorem tu (v:Aj)(d:A P.Hst)(hH:PHostsRow w 0 v d)(am:Z d<=4000)(hn:Z (d.map fun h=>Ex (toR h)).flatten<=79000000000000)(o:∀h∈d,Qn (toR h))(hT:GT w):Am prog 42 #[Fe #[v]] w fun e w'=>e=Af (I (Aa (Ic (d.map toR))))/\w.grownBy w' S:=by
 obtain⟨ah,n,p⟩:=hH;obtain⟨l,f,rfl⟩:=zL n;have H:w.grownBy ((w.alloc (Gt6 (Z d) l f)).alloc Gt0) S:=zD (Ac _ _ S) (Ac _ _ S);have C:Y (((w.alloc (Gt6 (Z d) l f)).alloc Gt0).heap[w.heap.size]?=V (Gt6 (Z d) l f)):=zE (Bn w (Gt6 (Z d) l f)) (Ac _ _ S);have s:Y (((w.alloc (Gt6 (Z d) l f)).alloc Gt0).heap[w.heap.size+1]?=V Gt0):=by
  have:=Bn (w.alloc (Gt6 (Z d) l f)) Gt0;rw[show(w.alloc (Gt6 (Z d) l f)).heap.size=w.heap.size+1 by simp] at this;exact this
 have J0:Y (WInv ((w.alloc (Gt6 (Z d) l f)).alloc Gt0) (w.heap.size+1) [] (0:Ad)):=Ay ⟨_,s.o,Bk _ _ _ _⟩;have r:=J (hT.grown H);have y:Y (GTB (w.heap.size+1)):=fun g e=>Nat.lt_succ_of_lt (hT.bound g e)
 have z:Y (Kept (w.heap.size+1) wtags w ((w.alloc (Gt6 (Z d) l f)).alloc Gt0)):=xJ H;have HR:=J (zK n H (fun k hk c=>by cases c));have HA:Y (All2 (PHostVal ((w.alloc (Gt6 (Z d) l f)).alloc Gt0)) ah d):=p.map fun a b hab=>hab.keep H (za _ _)
 have K0:Y (Kept (w.heap.size+1) wtags ((w.alloc (Gt6 (Z d) l f)).alloc Gt0) ((w.alloc (Gt6 (Z d) l f)).alloc Gt0)):=Kept.refl _ _ _;have q:=J (o);have F:=J (hn);have E:=J (nK d);have u0:=cbi 0 C.o;generalize Ic (d.map toR)=res at*;go_in;go_wp2_with fail;generalize((w.alloc (Gt6 (Z d) l f)).alloc Gt0)=wa at*
 go_loopw [9] (fun iv wr=>∃k:Ad,k<=Z d/\iv=O Ai k/\Y (WInv wr (w.heap.size+1) ((d.take k).map (fun h=>Ex (toR h))).flatten (0:Ad))/\Y (Kept (w.heap.size+1) wtags wa wr)/\Y (k=0->wr.heap[w.heap.size+1]?=V Gt0)) (fun iv _=>Z d-(intOf iv).toNat)
 ·exact⟨0,Ax _,rfl,by rw[Gm,Fa,Ew];exact J0,K0,fun _=>s.o⟩
 ·
  obtain⟨k,hk,rfl,JR,t,HZ⟩:=hrel
  by_cases u:k<Z d
  ·have al:(k:Ak)<Z d:=by omega
   obtain⟨gm,aj,ab,_,ak⟩:=Bm HR.o (by omega);simp only[Au] at ab;obtain⟨rfl,_,rfl⟩:=ab;have ad:=vP HR.o t.o;obtain⟨ce,Q,aa⟩:=mo HA.o k u;have m:=Q.kept t.o;have o:=q.o d[k] (Cr u);have B:=v7 (fun h=>Ex (toR h)) d k u;have ai:Z ((d.take k).map (fun h=>Ex (toR h))).flatten<=79000000000000:=Bi (eU _ d k) F.o;have i:∀j,j<2->wr.cell? ⟨gm,k*2+j,S⟩=ce[j]?:=fun j hj=>by
    rw[Ap ad (k*2+j) (by omega)];exact aa j hj
   generalize d[k]=x at*;obtain⟨vR,rfl,N⟩:=id m;obtain⟨r1,r2,rfl⟩:=uU N;have e0:wr.cell? ⟨gm,k*2,S⟩=V (I (Aa x.name)):=i 0 (by omega);have e1:wr.cell? ⟨gm,k*2+1,S⟩=V (X r1 (Z x.rules) r2):=i 1 (by omega);have ae:Y (Am prog 68 #[Al (V ⟨w.heap.size+1,0,S⟩),Fe #[I (Aa x.name),X r1 (Z x.rules) r2]] (wr.alloc (Ae #[I (Aa x.name),X r1 (Z x.rules) r2] 146)) fun e w'=>e=Af (Cm #[])/\WInv w' (w.heap.size+1) ((d.take (k+1)).map (fun h=>Ex (toR h))).flatten (0:Ad)/\Kept (w.heap.size+1) wtags wa w'):=by
    have gB:wr.grownBy (wr.alloc (Ae #[I (Aa x.name),X r1 (Z x.rules) r2] 146)) S:=Ac _ _ S;refine(zfR (JR.o.grown gB) _ x (m.keep gB (za _ _)) o (by omega) ((r.o.kept t.o y.o).grown gB) y.o).mono ?_;rintro e w' ⟨rfl,q1,q2⟩;rw[B];exact⟨rfl,q1,(t.o.trans (xJ gB)).trans q2⟩
   go_wp2_with (go_at_call 68;refine ae.o.mono ?_;rintro e w2 ⟨rfl,f,h3⟩)
   go_roundw
   ·exact⟨k+1,by omega,by go_num,f,h3,fun h=>absurd h (by omega)⟩
   ·simp[intOf];omega
  ·have HE:k=Z d:=by omega
   subst HE;have ag:Y (Am prog 69 #[Al (V ⟨w.heap.size+1,0,S⟩)] wr fun e w'=>e=Af (I (Aa res))/\Kept (w.heap.size+1) wtags wr w'):=by
    show Am _ _ _ _ _;have hJ:=JR.o;rw[Ia] at hJ;rw[E.o]
    by_cases h0:Z d=0
    ·have he:d=[]:=Ep.1 h0
     subst he;exact eG (HZ.o rfl)
    ·refine oL hJ (fun hc=>?_)
     match d,h0,hc with
     |x::xs,_,hc=>
      rw[Er,Ci] at hc;exact aH _ (List.append_eq_nil_iff.1 hc).1
   have af:=J (z.o.trans t.o);go_wp2_with (go_at_call 69;refine ag.o.mono ?_;rintro e w2 ⟨rfl,g2⟩);go_ret;exact⟨rfl,(af.o.trans g2).grown (Nat.le_succ _)⟩
def jT (l:A Ab):A Ab:=if (xg l).1=0 then Ic (qx (Gw l).1) else []
theorem m8 (h:(xA l).1=0):Z l<=3000/\(zp l).2.broken=false/\(zp l).2.err=0:=by grind[xA,wg,zp]
theorem mx (h:(xA l).1=0):(xA l).2=0:=by grind[xA,yV]
theorem zi0 {a:A P.Hst}(h:(xA l).1=0)(b:SrtH (zp l).1 a):jT l=Ic (a.map toR)/\(Z a)<=12/\(∀h∈a,Qn (toR h)):=by grind[m8,co,zcB,gd,toR,List.mem_map_of_mem,jT,vg,P.Hst,xA,SrtH,zp,Ic,Qn]
theorem zeU (s:As)(w:Ag)(x:s.size<=Bh)(H:Glob w)(N:GT w):Am prog 17 #[I s] w fun e w'=>e=Af (Cm #[I (Aa (jT s.data.toList)),O Ai (xg s.data.toList).1,O Ai (xg s.data.toList).2])/\w.grownBy w' S:=by
 have m:Y (Am prog 41 #[I s] w fun e w'=>∃i j vc,e=Af (Cm #[Fe #[X i j vc],O Ai (xA s.data.toList).1,O Ai (xA s.data.toList).2])/\w.grownBy w' S/\((xA s.data.toList).1=0->∃a,PHostsRow w' 0 (X i j vc) a/\SrtH (zp s.data.toList).1 a)):=by
  refine(o5 s w x H (fun q r h3=>oO _ (by rw[Cp];exact q) r h3)).mono ?_;rintro e w' ⟨v,rfl,q,r,i,j,vc,rfl⟩;exact⟨i,j,vc,rfl,q,r⟩
 have d:Y (∀a,(xA s.data.toList).1=0->SrtH (zp s.data.toList).1 a->jT s.data.toList=Ic (a.map toR)/\(Z a)<=12/\(∀h∈a,Qn (toR h))):=fun a q r=>zi0 q r
 have c:Y ((xA s.data.toList).1≠0->jT s.data.toList=[]):=fun h=>by
  unfold jT;rw[Aw (by rw[<-vg];exact h)]
 have o:Y ((xA s.data.toList).1=0->(xA s.data.toList).2=0):=mx;have HT:=J (N);rw[<-vg];clear N H;generalize jT s.data.toList=pt at*;generalize xA s.data.toList=er at*;generalize zp s.data.toList=rd at*;obtain⟨p,aa⟩:=er;simp only at m d c o ⊢;go_in;go_wp2_with fail;refine m.o.mono ?_;rintro e F ⟨i,j,vc,rfl,u,y⟩;have k:=J (u);have l:=J y;have b:Y (F.grownBy (F.alloc (Ae #[X i j vc] 88)) S):=Ac _ _ S;clear u y
 by_cases n:p=0
 ·subst n
  have t:=o.o rfl;subst t;obtain⟨a,f,g⟩:=l.o rfl;obtain⟨Q,q2,E⟩:=d.o a rfl g;have C:Y (Am prog 42 #[Fe #[X i j vc]] (F.alloc (Ae #[X i j vc] 88)) fun e w'=>e=Af (I (Aa pt))/\w.grownBy w' S):=by
   rw[Q];exact(tu _ a (PHostsRow.keep f b.o (za _ _)) (by omega) (ze6 _ q2 E) E ((HT.o.grown k.o).grown b.o)).mono fun e w' ⟨k1,k2⟩=>⟨k1,zD (zD k.o b.o) k2⟩
  clear Q q2 E f g;go_wp2_with (go_at_call 42;refine C.o.mono ?_;rintro e w2 ⟨rfl,g2⟩)
  go_ret3
  exact⟨rfl,g2⟩
 ·have B:=J (c.o n)
  have ab:(p != 0)=true:=by rw[Qv];exact n
  have z:=J (zD k.o b.o);go_wp2
  go_ret3
  exact⟨by rw[B.o];rfl,z.o⟩
theorem tD (n:Ak)(w:Ag):Am prog 36 #[O Ai n] w fun e w'=>e=Af (O Ai n)/\w'=w:=by
 go_in;go_wp2;go_ret;exact⟨rfl,rfl⟩
theorem nD (s:As)(w:Ag)(d:s.size<=Bh)(t:Glob w)(u:GT w):Am prog 14 #[I s] w fun e w'=>e=Af (Av true)/\w.grownBy w' S:=by
 have g:=J (zeU s w d t u);have j:Y (∀W,Am prog 34 #[I s] W fun e w'=>∃v,e=Af (Cm #[v,O Ai (xg s.data.toList).1,O Ai (xg s.data.toList).2])/\Below W.heap.size W w'/\((xg s.data.toList).1=0->HostsRow w' W.heap.size v (qx (Gw s.data.toList).1))):=fun W=>bA s W d
 have c:Y ((xg s.data.toList).1=0->jT s.data.toList=Ic (qx (Gw s.data.toList).1)/\(Z (qx (Gw s.data.toList).1))<=4/\∀h∈qx (Gw s.data.toList).1,Qn h):=fun h=>by
  obtain⟨C,E,F⟩:=m8 (by rw[vg];exact h);obtain⟨H,_⟩:=co _ C E F;exact⟨by unfold jT;rw[Az h],gd H⟩
 have b:Y ((xg s.data.toList).1≠0->jT s.data.toList=[]):=fun h=>by unfold jT;rw[Aw h]
 generalize jT s.data.toList=pt at*;generalize xg s.data.toList=er at*;generalize qx (Gw s.data.toList).1=hs at*;obtain⟨a,z⟩:=er;simp only at g j c b;have r:Y (∀W,Am prog 36 #[O Ai a] W fun e w'=>e=Af (O Ai a)/\w'=W):=fun W=>tD a W
 go_in;go_wp2_with fail;refine g.o.mono ?_;rintro e w1 ⟨rfl,n⟩;have f:=J (n);go_wp2_with fail;refine(j.o w1).mono ?_;rintro e w2 ⟨v,rfl,m,o⟩;have l:=J (zD f.o (zt m));have i:=J o
 by_cases k:a=0
 ·subst k
  obtain⟨x,q2,y⟩:=c.o rfl;have q:Y (Am prog 35 #[v] w2 fun e w'=>e=Af (I (Aa pt))/\w.grownBy w' S):=by
   rw[x];exact(sS v hs (i.o rfl) (by omega) y).mono fun e w' ⟨k1,k2⟩=>⟨k1,zD l.o k2⟩
  go_wp2_with (first
   |(go_at_call 35;refine q.o.mono ?_;rintro e w3 ⟨rfl,B⟩)
   |(go_at_call 36;refine(r.o _).mono ?_;rintro e w' ⟨rfl,rfl⟩))
  go_ret;exact⟨rfl,B⟩
 ·have p:=J (b.o k)
  have Q:Aa pt=⟨#[]⟩:=by rw[p.o];rfl
  have N:(a == 0)=false:=by rw[Ch];exact k
  go_wp2_with (go_at_call 36;refine(r.o _).mono ?_;rintro e w' ⟨rfl,rfl⟩);go_ret;exact⟨rfl,l.o⟩
theorem Glob.grown (h:Glob w)(a:w.grownBy w' S):Glob w':=h.keep a (by simp)
theorem dO:(⟨([104,111,115,116,32,34,65,46,98,34,123,114,117,108,101,32,55,123,112,97,116,104,34,47,120,34,59,116,111,34,117,34,49,44,34,118,34,50,59,114,101,112,108,97,99,101,34,47,34,59,125,114,117,108,101,32,57,123,112,97,116,104,34,47,34,59,116,111,34,117,34,49,44,34,118,34,48,59,125,125]:A Ab).toArray⟩:As).size=80:=by decide
theorem vJ (b o i:Ad):(⟨b,o,S⟩:Addr).add i=⟨b,o+i,S⟩:=by unfold Addr.add;split <;> simp_all
def Rd (w:Ag)(v:Aj)(l:A Ab):Prop:=
 (v=X S 0 0/\l=[])\/∃g c,v=X (V ⟨g,0,S⟩) (Z l) c/\g<w.heap.size/\∀j u,(Ba l)[j]?=V u->w.cell? ((⟨g,0,S⟩:Addr).add j)=V u
theorem Rd.keep (h:Rd w v l)(a:w.grownBy w' S):Rd w' v l:=by
 rcases h with h|⟨g,c,h1,h2,h3⟩
 ·exact Ay h
 ·exact Bf ⟨g,c,h1,Eh h2 a.size,fun j u hu=>a.cell (h3 j u hu) (by simp)⟩
theorem Rd.of_row (h:w.ownsRow B 5 1 v (Z l) (Ba l)):Rd w v l:=by
 rcases h.2 with ⟨h1,h2⟩|⟨g,cap,cur,hv,hB,hb,r⟩
 ·exact Ay ⟨h1,Ep.1 h2⟩
 ·refine Bf ⟨g,cap,hv,zO hb,fun j u hu=>?_⟩
  subst hv;have a:j<Z l:=by have:=(Bo.1 hu).1;simpa[Ba] using this
  rw[vJ,Gr,Ap h j (by omega)];exact hu
theorem vo (l:A Ab):∀u∈Ba l,u.oneCell'=true:=by
 intro u a;unfold Ba at a;obtain⟨b,_,rfl⟩:=Hr.1 a
 rfl
theorem xU (l:A Ab):Z (Ba l)=Z l:=by unfold Ba;simp
def xW (ls:A (A Ab)):A Ab:=ls.flatten
def yS (ls:A (A Ab))(i:Ad):A Ab:=(ls.take i).flatten
theorem ef (a:A (A Ab)):yS a (Z a)=xW a:=by simp_all[yS,xW]
theorem sq (a:A (A Ab))(i:Ad)(h:i<Z a):yS a (i+1)=yS a i++a[i]:=by grind[yS,List.take_succ_eq_append_getElem,List.flatten_append]
theorem zaA (a:A (A Ab))(i:Ad):Z (yS a i)<=Z (xW a):=by grind[yS,xW,List.take_append_drop,List.flatten_append,List.length_append]
theorem zbR (g c:Ad)(f:A Aj)(b:A (A Ab))(N:w.heap[g]?=V (Ae f.toArray 32 (0,0)))(t:All2 (Rd w) f b)(hl:Z (xW b)<=100000000000000)(hn:Z f<=1000):Am prog 70 #[X (V ⟨g,0,S⟩) (Z f) c] w fun e w'=>∃a k,e=Af (X a (Z (xW b)) k)/\w'.ownsRow w.heap.size 5 1 (X a (Z (xW b)) k) (Z (xW b)) (Ba (xW b))/\w.grownBy w' S:=by
 obtain⟨Q,H,z,B,C⟩:=info_parts jD;have E:=J (N);have F:=J (t);have l:=J (t.len);go_in;go_wp2
 go_loopw [3,8] (fun sv iv wr=>∃i:Ad,i<=Z f/\iv=O Ai i/\(∃a k,sv=X a (Z (yS b i)) k/\Y (wr.ownsRow w.heap.size 5 1 (X a (Z (yS b i)) k) (Z (yS b i)) (Ba (yS b i))))/\Y (w.grownBy wr S)) (fun _ iv _=>Z f-(intOf iv).toNat)
 ·exact⟨0,Ax _,rfl,⟨S,0,rfl,Bk _ _ _ _⟩,zP _ _⟩
 ·
  obtain⟨i,ad,rfl,⟨a,k,rfl,o⟩,n⟩:=hrel
  by_cases q:i<Z f
  ·have ab:(i:Ak)<Z f:=by omega
   have d0:wr.cell? ⟨g,i,S⟩=V f[i]:=by
    refine n.o.cell (a:=⟨g,i,S⟩) ?_ (by simp);rw[zB E.o];simp[q]
   have u:=(F.o.get i q (by have:=l.o;omega)).keep n.o;have aa:i<Z b:=by have:=l.o;omega
   have j:Y (yS b (i+1)=yS b i++b[i]):=by
    exact sq b i (by have:=l.o;omega)
   have p:=Bi (zaA b (i+1)) hl;rw[j.o,Ah] at p;have y:=n.o.size;generalize f[i]=v at*;generalize b[i]=x at*;rcases u with ⟨rfl,rfl⟩|⟨gx,cx,rfl,hgx,hcx⟩
   ·have m:Y (yS b (i+1)=yS b i):=by show _=_;rw[j.o,Cv]
    go_wp2_with (at_builtin;refine wpList_append_own_none rfl _ _ 32 rfl w.heap.size 5 Q 1 underlying32 H _ _ _ rfl o.o rfl ?_);go_wp2
    go_roundw
    ·exact⟨i+1,by omega,by go_num,⟨a,k,by rw[m.o],by rw[m.o];exact o⟩,n⟩
    ·simp[intOf];omega
   ·have HC:=J (hcx)
    go_wp2_with (at_builtin;refine wpList_append_own _ rfl _ _ 32 rfl w.heap.size 5 Q _ 1 1 underlying32 H z B C rfl (by decide) _ _ _ rfl o.o ⟨gx,0,S⟩ (Z x) cx (Ba x) rfl ?a1 HC.o (vo x) ?a4 ?a5 y ?_)
    ·rw[xU,Nx]
    ·unfold Bh;omega
    ·omega
    intro v' w2 d h _;obtain⟨va,vc,rfl⟩:=zL d;have s:Y (w2.ownsRow w.heap.size 5 1 (X va (Z (yS b (i+1))) vc) (Z (yS b (i+1))) (Ba (yS b (i+1)))):=by
     show Ib _ _ _ _ _ _ _;rw[j.o,Ah,Lib.byteCells_append];exact d
    have r:=J (qI n.o h (fun k hk=>(An o.o k hk).1));have HV:Y (Z (yS b i)+Z x=Z (yS b (i+1))):=by show _=_;rw[j.o,Ah]
    go_wp2
    go_roundw
    ·exact⟨i+1,by omega,by go_num,⟨va,vc,by rw[HV.o],s⟩,r⟩
    ·simp[intOf];omega
  ·have hE:i=Z f:=by omega
   subst hE;have HJ:Y (yS b (Z f)=xW b):=by show _=_;rw[l.o];exact ef b
   rw[HJ.o] at o ⊢;go_wp2;go_ret;exact⟨a,k,rfl,o.o,n.o⟩
def Gives (w:Ag)(l:A Ab)(e:Ending)(w':Ag):Prop:=
 ∃a k,e=Af (X a (Z l) k)/\w'.ownsRow w.heap.size 5 1 (X a (Z l) k) (Z l) (Ba l)/\w.grownBy w' S
theorem uY (w:Ag)(l:A Ab)(a:Z l<=1000000:=by simp):(w.alloc (Ae (Ba l).toArray 5)).ownsRow w.heap.size 5 1 (X (V ⟨w.heap.size,0,S⟩) (Z l) (Z l)) (Z l) (Ba l):=by
 refine⟨by rw[xU,Nx],Bf ⟨w.heap.size,Z l,(Ba l).toArray,rfl,Aq _,Bn _ _,Aq _,by unfold Bh;omega,by simp[xU],?_⟩⟩;rw[Cc (by simp[xU])]
theorem kC (n:Ad)(w:Ag):Am prog 107 #[O Ai n] w (Gives w [Cb n]):=by
 have a:Y ((Cb n).toNat=n % 256):=by show _=_;rw[Qc]
 go_in;go_wp2;go_ret;refine⟨V ⟨w.heap.size,0,S⟩,1,rfl,?_,Ac _ _ _⟩;have h:=uY w [Cb n];unfold Ba at h ⊢;simp only[Er,Fa] at h ⊢;rw[a.o] at h ⊢;exact h
theorem ke {base:Ad}{e:TypeId}{n:Ad}{c:A Aj}(h:w.ownsRow base e b v n c)(d:a<=base):w.ownsRow a e b v n c:=
 ⟨h.1,h.2.imp id fun⟨g,cap,cur,h1,h2,h3⟩=>⟨g,cap,cur,h1,Bi d h2,h3⟩⟩
theorem yZ {w0 W:Ag}(g:w0.grownBy W S)(c:A Aj)(d:A (A Ab))(l:All2 (Rd W) c d)(m:Z (xW d)<=1000000)(n:Z c<=100:=by simp):Am prog 70 #[X (V ⟨W.heap.size,0,S⟩) (Z c) (Z c)] (W.alloc (Ae c.toArray 32)) (Gives w0 (xW d)):=by
 have f:W.grownBy (W.alloc (Ae c.toArray 32)) S:=Ac _ _ _;refine(zbR W.heap.size (Z c) c d (Bn _ _) (l.map fun a b hab=>hab.keep f) (by omega) (by omega)).mono ?_;rintro e w' ⟨a,k,h,i,j⟩;exact⟨a,k,h,ke i (Bi g.size (by simp)),zD (zD g f) j⟩
theorem zm2 (n:Ad):Cb (n % 256)=Cb n:=by grind[UInt8.toNat_inj,UInt8.toNat_ofNat']
theorem zjA (n:Ad):xW [[Cb n],[Cb (n / 256)]]=qc n:=by grind[xW,qc,zm2]
theorem eE (n:Ad)(w:Ag):Am prog 111 #[O Ai n] w (Gives w (qc n)):=by
 go_in;go_wp2_with fail;refine(kC n w).mono ?_;rintro e x ⟨i,o,rfl,l,k⟩;have a:=J (Rd.of_row l);have f:=J (k);go_wp2_with fail;refine(kC (n / 256) x).mono ?_;rintro e q ⟨j,p,rfl,m,d⟩;have c:=J (Rd.of_row m);have b:=J (a.o.keep d);have r:=J (zD f.o d);go_wp2_with fail;have g:Y (Am prog 70 #[X (V ⟨q.heap.size,0,S⟩) 2 2] (q.alloc (Ae #[X i 1 o,X j 1 p] 32)) (Gives w (qc n))):=by
  have h:=yZ r.o [X i 1 o,X j 1 p] [[Cb n],[Cb (n / 256)]] (.cons b.o (.cons c.o .nil)) (by unfold xW;simp);rw[zjA n] at h;exact h
 refine g.o.mono ?_;rintro e y ⟨s,v,rfl,u,t⟩;go_wp2;go_ret;exact⟨s,v,rfl,u,t⟩
theorem Rd.bytes (w:Ag)(s:As)(c:Ad):Rd (Na w 5 s) (X (V ⟨w.heap.size,0,S⟩) s.size c) s.data.toList:=by
 refine Bf ⟨w.heap.size,c,by rw[Cp],by rw[Lib.bytesWorld_size];omega,fun j u hu=>?_⟩;rw[vJ,Gr];unfold Ba at hu;rw[Fq] at hu
 cases hq:s.data.toList[j]? with
 |none=>rw[hq] at hu;cases hu
 |some b=>rw[hq] at hu;cases hu;exact(BytesAt.new w s).cell hq
theorem ziA (s:As)(w:Ag)(t:s.size<=255):Am prog 108 #[I s] w (Gives w (zM s.data.toList)):=by
 have d:∀w,(convert 9 32 (I s)).run prog w = .ok (X (V ⟨w.heap.size,0,S⟩) s.size (grownCap w s.size 0 5)) (Na w 5 s):=fun w=>Lib.run_convert_string_bytes (u:=.string) w _ _ _ s (by kernel_rfl) (by kernel_rfl) (by kernel_rfl)
 go_in;go_wp2_with fail;refine(kC s.size w).mono ?_;rintro e a ⟨j,m,rfl,l,k⟩;have b:=J (Rd.of_row l);have n:=J (k);have c:a.grownBy (Na a 5 s) S:=ww _ _ _;have i:=J (b.o.keep c);have f:=J (zD n.o c);have g:Y (Am prog 70 #[X (V ⟨(Na a 5 s).heap.size,0,S⟩) 2 2] ((Na a 5 s).alloc (Ae #[X j 1 m,X (V ⟨a.heap.size,0,S⟩) s.size (grownCap a s.size 0 5)] 32)) (Gives w (zM s.data.toList))):=by
  have h:=yZ f.o [X j 1 m,X (V ⟨a.heap.size,0,S⟩) s.size (grownCap a s.size 0 5)] [[Cb s.size],s.data.toList] (.cons i.o (.cons (Rd.bytes _ _ _) .nil)) (by unfold xW;simp;omega);rw[show xW [[Cb s.size],s.data.toList]=zM s.data.toList by unfold xW zM;rw[Cp];simp] at h;exact h
 go_wp2_with fail;refine g.o.mono ?_;rintro e v ⟨o,r,rfl,q,p⟩;go_wp2;go_ret;exact⟨o,r,rfl,q,p⟩
theorem vt (l:A Ab)(w:Ag)(a:Z l<=255:=by omega):Am prog 108 #[I (Aa l)] w (Gives w (zM l)):=by
 have h:=ziA (Aa l) w a;rw[Be] at h;exact h
def xc (b:Bool)(l:A Ab):A Ab:=if b then 1::zM l else [0]
theorem gW (b:Bool)(l:A Ab)(w:Ag)(y:Z l<=255):Am prog 166 #[Av b,I (Aa l)] w (Gives w (xc b l)):=by
 cases b
 ·go_in
  go_wp2_with fail;refine(kC 0 w).mono ?_;rintro e r ⟨f,j,rfl,i,g⟩;go_wp2;go_ret;exact⟨f,j,rfl,i,g⟩
 ·go_in
  go_wp2_with fail;refine(kC 1 w).mono ?_;rintro e r ⟨f,j,rfl,i,g⟩;have a:=J (Rd.of_row i);have m:=J (g);go_wp2_with fail;refine(vt l r y).mono ?_;rintro e s ⟨o,q,rfl,p,k⟩;have d:=J (Rd.of_row p);have c:=J (a.o.keep k);have t:=J (zD m.o k);go_wp2_with fail;have n:Y (Am prog 70 #[X (V ⟨s.heap.size,0,S⟩) 2 2] (s.alloc (Ae #[X f 1 j,X o (Z (zM l)) q] 32)) (Gives w (xc true l))):=by
   have h:=yZ t.o [X f 1 j,X o (Z (zM l)) q] [[1],zM l] (.cons c.o (.cons d.o .nil)) (by unfold xW zM;simp;omega);rw[show xW [[1],zM l]=xc true l by unfold xW xc;simp] at h;exact h
  refine n.o.mono ?_;rintro e B ⟨u,z,rfl,x,v⟩;go_wp2;go_ret;exact⟨u,z,rfl,x,v⟩
theorem oI (n:Ak)(w:Ag)(h:0<=n):Am prog 111 #[O Ai n] w (Gives w (qc n)):=by
 obtain⟨k,rfl⟩:=Sg h;exact eE k w
theorem qr (l:A Ab):Z (zM l)=Z l+1:=by unfold zM;simp
theorem kw (n:Ak):Z (qc n)=2:=rfl
theorem lO (b:Bool)(l:A Ab):Z (xc b l)<=Z l+2:=by unfold xc;split <;> simp[qr]
theorem join2 (a b:A Ab):xW [a,b]=a++b:=by unfold xW;simp
abbrev Gt3 (a b):=Ae #[I (Aa a),I (Aa b)] 280
abbrev Gt5 (a b c d):=Rd a (X b (Z (zM c)) d) (zM c)
abbrev Gt7 (a b c):=X a (Z (zM b)) c
theorem zi8 (t:A Ab×A Ab)(w:Ag)(j:Z t.1<=255)(l:Z t.2<=255):Am prog 168 #[Fe #[I (Aa t.1),I (Aa t.2)]] w (Gives w (K.st t)):=by
 have b:Y ((w.alloc (Gt3 t.1 t.2)).heap[w.heap.size]?=V (Gt3 t.1 t.2)):=Bn _ _;have c0:=cbi 0 b.o;have c1:=cbi 1 b.o;have g:Y (w.grownBy (w.alloc (Gt3 t.1 t.2)) S):=Ac _ _ _;have C1:Y (∀W,(w.alloc (Gt3 t.1 t.2)).grownBy W S->Am prog 108 #[I (Aa t.1)] W fun e w'=>∃a k,e=Af (Gt7 a t.1 k)/\Rd w' (Gt7 a t.1 k) (zM t.1)/\W.grownBy w' S/\(w.alloc (Gt3 t.1 t.2)).grownBy w' S/\w'.cell? ⟨w.heap.size,0,S⟩=V (I (Aa t.1))/\w'.cell? ⟨w.heap.size,1,S⟩=V (I (Aa t.2))):=fun W hW=>(vt t.1 W j).mono fun e w' ⟨a,k,j,l,h3⟩=>⟨a,k,j,Rd.of_row l,h3,zD hW h3,zB (zE b.o (zD hW h3)),zB (zE b.o (zD hW h3))⟩
 have C2:Y (∀W,(w.alloc (Gt3 t.1 t.2)).grownBy W S->Am prog 108 #[I (Aa t.2)] W fun e w'=>∃a k,e=Af (Gt7 a t.2 k)/\Rd w' (Gt7 a t.2 k) (zM t.2)/\W.grownBy w' S/\(w.alloc (Gt3 t.1 t.2)).grownBy w' S/\w'.cell? ⟨w.heap.size,0,S⟩=V (I (Aa t.1))/\w'.cell? ⟨w.heap.size,1,S⟩=V (I (Aa t.2))):=fun W hW=>(vt t.2 W l).mono fun e w' ⟨a,k,j,l,h3⟩=>⟨a,k,j,Rd.of_row l,h3,zD hW h3,zB (zE b.o (zD hW h3)),zB (zE b.o (zD hW h3))⟩
 have HJ:Y (∀W d f i m,(w.alloc (Gt3 t.1 t.2)).grownBy W S->Rd W (Gt7 d t.1 f) (zM t.1)->Rd W (Gt7 i t.2 m) (zM t.2)->Am prog 70 #[X (V ⟨W.heap.size,0,S⟩) 2 2] (W.alloc (Ae #[X d (Z (zM t.1)) f,X i (Z (zM t.2)) m] 32)) fun e w'=>Gives w (K.st t) e w'/\w'.cell? ⟨w.heap.size,0,S⟩=V (I (Aa t.1))/\w'.cell? ⟨w.heap.size,1,S⟩=V (I (Aa t.2))):=fun W d f i m hW q r=>by
  have h:=yZ hW [X d (Z (zM t.1)) f,X i (Z (zM t.2)) m] [zM t.1,zM t.2] (.cons q (.cons r .nil)) (by rw[join2,Ah,qr,qr];omega);rw[show xW [zM t.1,zM t.2]=K.st t from join2 _ _] at h;refine Oq h fun e w' ⟨a,k,j,l,h3⟩=>⟨⟨a,k,j,ke l g.o.size,zD g.o h3⟩,zB (zE b.o h3),zB (zE b.o h3)⟩
 go_in;go_wp2_with fail;generalize(w.alloc (Gt3 t.1 t.2))=wa at*
 go_region_held3 (fun W=>W.cell? ⟨w.heap.size,0,S⟩=V (I (Aa t.1))/\W.cell? ⟨w.heap.size,1,S⟩=V (I (Aa t.2))) (go_keep) (first
  |(go_at_call 108;show Am _ _ _ (Md wa) _;refine(C1.o _ (zV wa)).mono ?_;rintro e N ⟨d,f,rfl,q,g1,p,x,y⟩;have c:Y (Gt5 N d t.1 f):=q;have p:Y (wa.grownBy N S):=p;clear q g1)
  |(go_at_call 108;refine(C2.o _ p.o).mono ?_;rintro e u ⟨i,m,rfl,r,C,s,z,B⟩;have o:Y (Gt5 u i t.2 m):=r;have n:Y (Gt5 u d t.1 f):=c.o.keep C;have s:Y (wa.grownBy u S):=s;clear r C c p)
  |(go_at_call 70;refine(HJ.o _ d f i m s.o n.o o.o).mono ?_;rintro e Q ⟨⟨v,H,rfl,F,E⟩,z0,z1⟩;have HZ:Y (Q.ownsRow w.heap.size 5 1 (X v (Z (K.st t)) H) (Z (K.st t)) (Ba (K.st t))):=F;have GZ:Y (w.grownBy Q S):=E;clear F E))
 all_goals
  go_wp2;go_ret;exact⟨v,H,rfl,HZ.o,GZ.o⟩
theorem lz (t:A Ab×Ak)(w:Ag)(j:Z t.1<=255)(l:0<=t.2):Am prog 165 #[Fe #[I (Aa t.1),O Ai t.2]] w (Gives w (K.tg t)):=by
 have b:Y ((w.alloc (Gt1 t.1 t.2)).heap[w.heap.size]?=V (Gt1 t.1 t.2)):=Bn _ _;have c0:=cbi 0 b.o;have c1:=cbi 1 b.o;have g:Y (w.grownBy (w.alloc (Gt1 t.1 t.2)) S):=Ac _ _ _;have C1:Y (∀W,(w.alloc (Gt1 t.1 t.2)).grownBy W S->Am prog 108 #[I (Aa t.1)] W fun e w'=>∃a k,e=Af (Gt7 a t.1 k)/\Rd w' (Gt7 a t.1 k) (zM t.1)/\W.grownBy w' S/\(w.alloc (Gt1 t.1 t.2)).grownBy w' S/\w'.cell? ⟨w.heap.size,0,S⟩=V (I (Aa t.1))/\w'.cell? ⟨w.heap.size,1,S⟩=V (O Ai t.2)):=fun W hW=>(vt t.1 W j).mono fun e w' ⟨a,k,j,l,h3⟩=>⟨a,k,j,Rd.of_row l,h3,zD hW h3,zB (zE b.o (zD hW h3)),zB (zE b.o (zD hW h3))⟩
 have C2:Y (∀W,(w.alloc (Gt1 t.1 t.2)).grownBy W S->Am prog 111 #[O Ai t.2] W fun e w'=>∃a k,e=Af (X a (Z (qc t.2)) k)/\Rd w' (X a (Z (qc t.2)) k) (qc t.2)/\W.grownBy w' S/\(w.alloc (Gt1 t.1 t.2)).grownBy w' S/\w'.cell? ⟨w.heap.size,0,S⟩=V (I (Aa t.1))/\w'.cell? ⟨w.heap.size,1,S⟩=V (O Ai t.2)):=fun W hW=>(oI t.2 W l).mono fun e w' ⟨a,k,j,l,h3⟩=>⟨a,k,j,Rd.of_row l,h3,zD hW h3,zB (zE b.o (zD hW h3)),zB (zE b.o (zD hW h3))⟩
 have HJ:Y (∀W d f i m,(w.alloc (Gt1 t.1 t.2)).grownBy W S->Rd W (Gt7 d t.1 f) (zM t.1)->Rd W (X i (Z (qc t.2)) m) (qc t.2)->Am prog 70 #[X (V ⟨W.heap.size,0,S⟩) 2 2] (W.alloc (Ae #[X d (Z (zM t.1)) f,X i (Z (qc t.2)) m] 32)) fun e w'=>Gives w (K.tg t) e w'/\w'.cell? ⟨w.heap.size,0,S⟩=V (I (Aa t.1))/\w'.cell? ⟨w.heap.size,1,S⟩=V (O Ai t.2)):=fun W d f i m hW q r=>by
  have h:=yZ hW [X d (Z (zM t.1)) f,X i (Z (qc t.2)) m] [zM t.1,qc t.2] (.cons q (.cons r .nil)) (by rw[join2,Ah,qr,kw];omega);rw[show xW [zM t.1,qc t.2]=K.tg t from join2 _ _] at h;refine Oq h fun e w' ⟨a,k,j,l,h3⟩=>⟨⟨a,k,j,ke l g.o.size,zD g.o h3⟩,zB (zE b.o h3),zB (zE b.o h3)⟩
 go_in;go_wp2_with fail;generalize(w.alloc (Gt1 t.1 t.2))=wa at*
 go_region_held3 (fun W=>W.cell? ⟨w.heap.size,0,S⟩=V (I (Aa t.1))/\W.cell? ⟨w.heap.size,1,S⟩=V (O Ai t.2)) (go_keep) (first
  |(go_at_call 108;show Am _ _ _ (Md wa) _;refine(C1.o _ (zV wa)).mono ?_;rintro e N ⟨d,f,rfl,q,g1,p,x,y⟩;have c:Y (Gt5 N d t.1 f):=q;have p:Y (wa.grownBy N S):=p;clear q g1)
  |(go_at_call 111;refine(C2.o _ p.o).mono ?_;rintro e u ⟨i,m,rfl,r,C,s,z,B⟩;have o:Y (Rd u (X i (Z (qc t.2)) m) (qc t.2)):=r;have n:Y (Gt5 u d t.1 f):=c.o.keep C;have s:Y (wa.grownBy u S):=s;clear r C c p)
  |(go_at_call 70;refine(HJ.o _ d f i m s.o n.o o.o).mono ?_;rintro e Q ⟨⟨v,H,rfl,F,E⟩,z0,z1⟩;have HZ:Y (Q.ownsRow w.heap.size 5 1 (X v (Z (K.tg t)) H) (Z (K.tg t)) (Ba (K.tg t))):=F;have GZ:Y (w.grownBy Q S):=E;clear F E))
 all_goals
  go_wp2;go_ret;exact⟨v,H,rfl,HZ.o,GZ.o⟩
abbrev Gt2 (a b c):=Ae #[I (Aa a),Av b,I (Aa c)] 276
theorem zbT (m:P.Mt)(w:Ag)(j:Z m.name<=255)(l:Z m.val<=255):Am prog 163 #[Fe #[I (Aa m.name),Av m.ask,I (Aa m.val)]] w (Gives w (K.mt m)):=by
 have b:Y ((w.alloc (Gt2 m.name m.ask m.val)).heap[w.heap.size]?=V (Gt2 m.name m.ask m.val)):=Bn _ _;have c0:=cbi 0 b.o;have c1:=cbi 1 b.o;have c2:=cbi 2 b.o;have g:Y (w.grownBy (w.alloc (Gt2 m.name m.ask m.val)) S):=Ac _ _ _;have C1:Y (∀W,(w.alloc (Gt2 m.name m.ask m.val)).grownBy W S->Am prog 108 #[I (Aa m.name)] W fun e w'=>∃a k,e=Af (Gt7 a m.name k)/\Rd w' (Gt7 a m.name k) (zM m.name)/\W.grownBy w' S/\(w.alloc (Gt2 m.name m.ask m.val)).grownBy w' S/\w'.cell? ⟨w.heap.size,0,S⟩=V (I (Aa m.name))/\w'.cell? ⟨w.heap.size,1,S⟩=V (Av m.ask)/\w'.cell? ⟨w.heap.size,2,S⟩=V (I (Aa m.val))):=fun W hW=>(vt m.name W j).mono fun e w' ⟨a,k,j,l,h3⟩=>⟨a,k,j,Rd.of_row l,h3,zD hW h3,zB (zE b.o (zD hW h3)),zB (zE b.o (zD hW h3)),zB (zE b.o (zD hW h3))⟩
 have C2:Y (∀W,(w.alloc (Gt2 m.name m.ask m.val)).grownBy W S->Am prog 166 #[Av m.ask,I (Aa m.val)] W fun e w'=>∃a k,e=Af (X a (Z (xc m.ask m.val)) k)/\Rd w' (X a (Z (xc m.ask m.val)) k) (xc m.ask m.val)/\W.grownBy w' S/\(w.alloc (Gt2 m.name m.ask m.val)).grownBy w' S/\w'.cell? ⟨w.heap.size,0,S⟩=V (I (Aa m.name))/\w'.cell? ⟨w.heap.size,1,S⟩=V (Av m.ask)/\w'.cell? ⟨w.heap.size,2,S⟩=V (I (Aa m.val))):=fun W hW=>(gW m.ask m.val W l).mono fun e w' ⟨a,k,j,l,h3⟩=>⟨a,k,j,Rd.of_row l,h3,zD hW h3,zB (zE b.o (zD hW h3)),zB (zE b.o (zD hW h3)),zB (zE b.o (zD hW h3))⟩
 have HJ:Y (∀W d f i n,(w.alloc (Gt2 m.name m.ask m.val)).grownBy W S->Rd W (Gt7 d m.name f) (zM m.name)->Rd W (X i (Z (xc m.ask m.val)) n) (xc m.ask m.val)->Am prog 70 #[X (V ⟨W.heap.size,0,S⟩) 2 2] (W.alloc (Ae #[X d (Z (zM m.name)) f,X i (Z (xc m.ask m.val)) n] 32)) fun e w'=>Gives w (K.mt m) e w'/\w'.cell? ⟨w.heap.size,0,S⟩=V (I (Aa m.name))/\w'.cell? ⟨w.heap.size,1,S⟩=V (Av m.ask)/\w'.cell? ⟨w.heap.size,2,S⟩=V (I (Aa m.val))):=fun W d f i n hW r s=>by
  have h:=yZ hW [X d (Z (zM m.name)) f,X i (Z (xc m.ask m.val)) n] [zM m.name,xc m.ask m.val] (.cons r (.cons s .nil)) (by rw[join2,Ah,qr];have:=lO m.ask m.val;omega);rw[show xW [zM m.name,xc m.ask m.val]=K.mt m by rw[join2];rfl] at h;refine Oq h fun e w' ⟨a,k,j,l,h3⟩=>⟨⟨a,k,j,ke l g.o.size,zD g.o h3⟩,zB (zE b.o h3),zB (zE b.o h3),zB (zE b.o h3)⟩
 go_in;go_wp2_with fail;generalize(w.alloc (Gt2 m.name m.ask m.val))=wa at*
 go_region_held3 (fun W=>W.cell? ⟨w.heap.size,0,S⟩=V (I (Aa m.name))/\W.cell? ⟨w.heap.size,1,S⟩=V (Av m.ask)/\W.cell? ⟨w.heap.size,2,S⟩=V (I (Aa m.val))) (go_keep) (first
  |(go_at_call 108;show Am _ _ _ (Md wa) _;refine(C1.o _ (zV wa)).mono ?_;rintro e w1 ⟨d,f,rfl,r,g1,q,x,y,z⟩;have c:Y (Gt5 w1 d m.name f):=r;have q:Y (wa.grownBy w1 S):=q;clear r g1)
  |(go_at_call 166;refine(C2.o _ q.o).mono ?_;rintro e u ⟨i,n,rfl,s,F,t,B,C,E⟩;have p:Y (Rd u (X i (Z (xc m.ask m.val)) n) (xc m.ask m.val)):=s;have o:Y (Gt5 u d m.name f):=c.o.keep F;have t:Y (wa.grownBy u S):=t;clear s F c q)
  |(go_at_call 70;refine(HJ.o _ d f i n t.o o.o p.o).mono ?_;rintro e wZ ⟨⟨v,Q,rfl,N,H⟩,z0,z1,z2⟩;have HZ:Y (wZ.ownsRow w.heap.size 5 1 (X v (Z (K.mt m)) Q) (Z (K.mt m)) (Ba (K.mt m))):=N;have GZ:Y (w.grownBy wZ S):=H;clear N H))
 all_goals
  go_wp2;go_ret;exact⟨v,Q,rfl,HZ.o,GZ.o⟩
def zk (f:α->A Ab)(l:A α)(i:Ad):A Ab:=Cb (Z l)::((l.take i).map f).flatten
theorem jw (f:α->A Ab)(l:A α):zk f l (Z l)=zR f l:=by simp_all[zk,zR]
theorem jY (f:α->A Ab)(l:A α)(i:Ad)(h:i<Z l):xW [zk f l i,f l[i]]=zk f l (i+1):=by grind[join2,zk,List.take_succ_eq_append_getElem,List.flatten_append,xW]
theorem vf (f:α->A Ab)(l:A α)(i:Ad):Z (zk f l i)<=Z (zR f l):=by grind[zk,zR,List.take_append_drop,List.flatten_append]
theorem zf0 (l:A P.Mt)(v:Aj)(c:w.ownsRow 0 276 3 v (Z l) (xe l))(hn:Z l<=255)(hv:∀x∈l,Z x.name<=255/\(Z x.val)<=255)(d:Z (zR K.mt l)<=900000):Am prog 162 #[.func (.func 163) #[] #[],v] w (Gives w (zR K.mt l)):=by
 obtain⟨va,vc,rfl⟩:=zL c;have q:=J (c);have C:=J (hv);have o:=J (d);go_in;go_wp2_with fail;refine(kC (Z l) w).mono ?_;rintro e w0 ⟨a0,k0,rfl,h0,N⟩;have p:=J (h0);have m:=J (N);go_wp2_with fail
 go_loopw [5,13] (fun sv iv wr=>∃i:Ad,i<=Z l/\iv=O Ai i/\(∃a k,sv=X a (Z (zk K.mt l i)) k/\Y (wr.ownsRow w.heap.size 5 1 (X a (Z (zk K.mt l i)) k) (Z (zk K.mt l i)) (Ba (zk K.mt l i))))/\Y (w.grownBy wr S)) (fun _ iv _=>Z l-(intOf iv).toNat)
 ·exact⟨0,Ax _,rfl,⟨a0,k0,rfl,p⟩,m⟩
 ·
  obtain⟨i,ae,rfl,⟨a,k,rfl,t⟩,j⟩:=hrel
  by_cases b:i<Z l
  ·have ad:(i:Ak)<Z l:=by omega
   obtain⟨gt,aa,s,_,ab⟩:=Bm q.o (by omega);simp only[Au] at s;obtain⟨rfl,_,rfl⟩:=s;have d0:wr.cell? ⟨gt,i*3,S⟩=V (I (Aa l[i].name)):=by
    have h:=qY P.Mt.cells 3 (fun _=>rfl) q.o j.o i 0 b (by omega) rfl;exact h
   have d1:wr.cell? ⟨gt,i*3+1,S⟩=V (Av l[i].ask):=by
    have h:=qY P.Mt.cells 3 (fun _=>rfl) q.o j.o i 1 b (by omega) rfl;exact h
   have d2:wr.cell? ⟨gt,i*3+2,S⟩=V (I (Aa l[i].val)):=by
    have h:=qY P.Mt.cells 3 (fun _=>rfl) q.o j.o i 2 b (by omega) rfl;exact h
   have g:=C.o l[i] (Cr b);have f:=J (jY K.mt l i b);have af:=Bi (vf K.mt l (i+1)) o.o;generalize l[i]=x at*;have z:=J (zbT x (wr.alloc (Gt2 x.name x.ask x.val)) g.1 g.2);have n:Y (w.grownBy (wr.alloc (Gt2 x.name x.ask x.val)) S):=zD j.o (Ac _ _ S);have E:Y (Rd (wr.alloc (Gt2 x.name x.ask x.val)) (X a (Z (zk K.mt l i)) k) (zk K.mt l i)):=(Rd.of_row t.o).keep (Ac _ _ S);go_wp2_with fail;refine z.o.mono ?_;rintro e w1 ⟨H,k1,rfl,h1,u⟩;have F:=J (Rd.of_row h1);have r:=J (E.o.keep u);have y:=J (zD n.o u);have B:Y (Am prog 70 #[X (V ⟨w1.heap.size,0,S⟩) 2 2] (w1.alloc (Ae #[X a (Z (zk K.mt l i)) k,X H (Z (K.mt x)) k1] 32)) (Gives w (zk K.mt l (i+1)))):=by
    have h:=yZ y.o [X a (Z (zk K.mt l i)) k,X H (Z (K.mt x)) k1] [zk K.mt l i,K.mt x] (.cons r.o (.cons F.o .nil)) (by rw[f.o];omega);rw[f.o] at h;exact h
   go_wp2_with fail;refine B.o.mono ?_;rintro e w2 ⟨a2,k2,rfl,h2,Q⟩;have H2:=J (h2);have G2:=J (Q);go_wp2
   go_roundw
   ·exact⟨i+1,by omega,by go_num,⟨a2,k2,rfl,H2⟩,G2⟩
   ·simp[intOf];omega
  ·have hE:i=Z l:=by omega
   subst hE;have HC:=J (jw K.mt l);rw[HC.o] at t ⊢;go_wp2;go_ret;exact⟨a,k,rfl,t.o,j.o⟩
theorem zf3 (l:A (A Ab×Ak))(v:Aj)(b:w.ownsRow 0 285 2 v (Z l) (zx l))(hn:Z l<=255)(hv:∀x∈l,Z x.1<=255/\0<=x.2)(d:Z (zR K.tg l)<=900000):Am prog 164 #[.func (.func 165) #[] #[],v] w (Gives w (zR K.tg l)):=by
 obtain⟨va,vc,rfl⟩:=zL b;have u:=J (b);have E:=J (hv);have o:=J (d);go_in;go_wp2_with fail;refine(kC (Z l) w).mono ?_;rintro e w0 ⟨a0,k0,rfl,h0,Q⟩;have p:=J (h0);have m:=J (Q);go_wp2_with fail
 go_loopw [5,13] (fun sv iv wr=>∃i:Ad,i<=Z l/\iv=O Ai i/\(∃a k,sv=X a (Z (zk K.tg l i)) k/\Y (wr.ownsRow w.heap.size 5 1 (X a (Z (zk K.tg l i)) k) (Z (zk K.tg l i)) (Ba (zk K.tg l i))))/\Y (w.grownBy wr S)) (fun _ iv _=>Z l-(intOf iv).toNat)
 ·exact⟨0,Ax _,rfl,⟨a0,k0,rfl,p⟩,m⟩
 ·
  obtain⟨i,ae,rfl,⟨a,k,rfl,s⟩,j⟩:=hrel
  by_cases c:i<Z l
  ·have ad:(i:Ak)<Z l:=by omega
   obtain⟨gt,aa,r,_,ab⟩:=Bm u.o (by omega);simp only[Au] at r;obtain⟨rfl,_,rfl⟩:=r;have d0:wr.cell? ⟨gt,i*2,S⟩=V (I (Aa l[i].1)):=by
    have h:=qY (fun t:A Ab×Ak=>[I (Aa t.1),O Ai t.2]) 2 (fun _=>rfl) u.o j.o i 0 c (by omega) rfl;exact h
   have d1:wr.cell? ⟨gt,i*2+1,S⟩=V (O Ai l[i].2):=by
    have h:=qY (fun t:A Ab×Ak=>[I (Aa t.1),O Ai t.2]) 2 (fun _=>rfl) u.o j.o i 1 c (by omega) rfl;exact h
   have g:=E.o l[i] (Cr c);have f:=J (jY K.tg l i c);have af:=Bi (vf K.tg l (i+1)) o.o;generalize l[i]=x at*;have B:=J (lz x (wr.alloc (Gt1 x.1 x.2)) g.1 g.2);have n:Y (w.grownBy (wr.alloc (Gt1 x.1 x.2)) S):=zD j.o (Ac _ _ S);have F:Y (Rd (wr.alloc (Gt1 x.1 x.2)) (X a (Z (zk K.tg l i)) k) (zk K.tg l i)):=(Rd.of_row s.o).keep (Ac _ _ S);go_wp2_with fail;refine B.o.mono ?_;rintro e w1 ⟨N,k1,rfl,h1,y⟩;have H:=J (Rd.of_row h1);have q:=J (F.o.keep y);have z:=J (zD n.o y);have C:Y (Am prog 70 #[X (V ⟨w1.heap.size,0,S⟩) 2 2] (w1.alloc (Ae #[X a (Z (zk K.tg l i)) k,X N (Z (K.tg x)) k1] 32)) (Gives w (zk K.tg l (i+1)))):=by
    have h:=yZ z.o [X a (Z (zk K.tg l i)) k,X N (Z (K.tg x)) k1] [zk K.tg l i,K.tg x] (.cons q.o (.cons H.o .nil)) (by rw[f.o];omega);rw[f.o] at h;exact h
   go_wp2_with fail;refine C.o.mono ?_;rintro e w2 ⟨a2,k2,rfl,h2,g2⟩;have H2:=J (h2);have G2:=J (g2);go_wp2
   go_roundw
   ·exact⟨i+1,by omega,by go_num,⟨a2,k2,rfl,H2⟩,G2⟩
   ·simp[intOf];omega
  ·have hE:i=Z l:=by omega
   subst hE;have HC:=J (jw K.tg l);rw[HC.o] at s ⊢;go_wp2;go_ret;exact⟨a,k,rfl,s.o,j.o⟩
theorem zf2 (l:A (A Ab×A Ab))(v:Aj)(b:w.ownsRow 0 280 2 v (Z l) (zi l))(hn:Z l<=255)(hv:∀x∈l,Z x.1<=255/\(Z x.2)<=255)(d:Z (zR K.st l)<=900000):Am prog 167 #[.func (.func 168) #[] #[],v] w (Gives w (zR K.st l)):=by
 obtain⟨va,vc,rfl⟩:=zL b;have u:=J (b);have E:=J (hv);have o:=J (d);go_in;go_wp2_with fail;refine(kC (Z l) w).mono ?_;rintro e w0 ⟨a0,k0,rfl,h0,Q⟩;have p:=J (h0);have m:=J (Q);go_wp2_with fail
 go_loopw [5,13] (fun sv iv wr=>∃i:Ad,i<=Z l/\iv=O Ai i/\(∃a k,sv=X a (Z (zk K.st l i)) k/\Y (wr.ownsRow w.heap.size 5 1 (X a (Z (zk K.st l i)) k) (Z (zk K.st l i)) (Ba (zk K.st l i))))/\Y (w.grownBy wr S)) (fun _ iv _=>Z l-(intOf iv).toNat)
 ·exact⟨0,Ax _,rfl,⟨a0,k0,rfl,p⟩,m⟩
 ·
  obtain⟨i,ae,rfl,⟨a,k,rfl,s⟩,j⟩:=hrel
  by_cases c:i<Z l
  ·have ad:(i:Ak)<Z l:=by omega
   obtain⟨gt,aa,r,_,ab⟩:=Bm u.o (by omega);simp only[Au] at r;obtain⟨rfl,_,rfl⟩:=r;have d0:wr.cell? ⟨gt,i*2,S⟩=V (I (Aa l[i].1)):=by
    have h:=qY (fun t:A Ab×A Ab=>[I (Aa t.1),I (Aa t.2)]) 2 (fun _=>rfl) u.o j.o i 0 c (by omega) rfl;exact h
   have d1:wr.cell? ⟨gt,i*2+1,S⟩=V (I (Aa l[i].2)):=by
    have h:=qY (fun t:A Ab×A Ab=>[I (Aa t.1),I (Aa t.2)]) 2 (fun _=>rfl) u.o j.o i 1 c (by omega) rfl;exact h
   have g:=E.o l[i] (Cr c);have f:=J (jY K.st l i c);have af:=Bi (vf K.st l (i+1)) o.o;generalize l[i]=x at*;have B:=J (zi8 x (wr.alloc (Gt3 x.1 x.2)) g.1 g.2);have n:Y (w.grownBy (wr.alloc (Gt3 x.1 x.2)) S):=zD j.o (Ac _ _ S);have F:Y (Rd (wr.alloc (Gt3 x.1 x.2)) (X a (Z (zk K.st l i)) k) (zk K.st l i)):=(Rd.of_row s.o).keep (Ac _ _ S);go_wp2_with fail;refine B.o.mono ?_;rintro e w1 ⟨N,k1,rfl,h1,y⟩;have H:=J (Rd.of_row h1);have q:=J (F.o.keep y);have z:=J (zD n.o y);have C:Y (Am prog 70 #[X (V ⟨w1.heap.size,0,S⟩) 2 2] (w1.alloc (Ae #[X a (Z (zk K.st l i)) k,X N (Z (K.st x)) k1] 32)) (Gives w (zk K.st l (i+1)))):=by
    have h:=yZ z.o [X a (Z (zk K.st l i)) k,X N (Z (K.st x)) k1] [zk K.st l i,K.st x] (.cons q.o (.cons H.o .nil)) (by rw[f.o];omega);rw[f.o] at h;exact h
   go_wp2_with fail;refine C.o.mono ?_;rintro e w2 ⟨a2,k2,rfl,h2,g2⟩;have H2:=J (h2);have G2:=J (g2);go_wp2
   go_roundw
   ·exact⟨i+1,by omega,by go_num,⟨a2,k2,rfl,H2⟩,G2⟩
   ·simp[intOf];omega
  ·have hE:i=Z l:=by omega
   subst hE;have HC:=J (jw K.st l);rw[HC.o] at s ⊢;go_wp2;go_ret;exact⟨a,k,rfl,s.o,j.o⟩
theorem zeY (l:A (A Ab))(v:Aj)(b:w.ownsRow 0 9 1 v (Z l) (l.map fun s=>[I (Aa s)]).flatten)(hn:Z l<=255)(hv:∀x∈l,Z x<=255)(c:Z (zR zM l)<=900000):Am prog 169 #[.func (.func 108) #[] #[],v] w (Gives w (zR zM l)):=by
 obtain⟨va,vc,rfl⟩:=zL b;have u:=J (b);have E:=J (hv);have m:=J (c);go_in;go_wp2_with fail;refine(kC (Z l) w).mono ?_;rintro e w0 ⟨a0,k0,rfl,h0,Q⟩;have n:=J (h0);have g:=J (Q);go_wp2_with fail
 go_loopw [5,13] (fun sv iv wr=>∃i:Ad,i<=Z l/\iv=O Ai i/\(∃a k,sv=X a (Z (zk zM l i)) k/\Y (wr.ownsRow w.heap.size 5 1 (X a (Z (zk zM l i)) k) (Z (zk zM l i)) (Ba (zk zM l i))))/\Y (w.grownBy wr S)) (fun _ iv _=>Z l-(intOf iv).toNat)
 ·exact⟨0,Ax _,rfl,⟨a0,k0,rfl,n⟩,g⟩
 ·
  obtain⟨i,ae,rfl,⟨a,k,rfl,t⟩,r⟩:=hrel
  by_cases f:i<Z l
  ·have ad:(i:Ak)<Z l:=by omega
   obtain⟨gt,aa,p,_,ab⟩:=Bm u.o (by omega);simp only[Au] at p;obtain⟨rfl,_,rfl⟩:=p;have d0:wr.cell? ⟨gt,i,S⟩=V (I (Aa l[i])):=by
    have h:=qY (fun s=>[I (Aa s)]) 1 (fun _=>rfl) u.o r.o i 0 f (by omega) rfl;rw[Nx] at h;exact h
   have q:=E.o l[i] (Cr f);have d:=J (jY zM l i f);have af:=Bi (vf zM l (i+1)) m.o;generalize l[i]=x at*;have B:=J (vt x wr q);have j:=J (r.o);have F:=J (Rd.of_row t.o);go_wp2_with fail;refine B.o.mono ?_;rintro e w1 ⟨N,k1,rfl,h1,y⟩;have H:=J (Rd.of_row h1);have o:=J (F.o.keep y);have z:=J (zD j.o y);have C:Y (Am prog 70 #[X (V ⟨w1.heap.size,0,S⟩) 2 2] (w1.alloc (Ae #[X a (Z (zk zM l i)) k,X N (Z (zM x)) k1] 32)) (Gives w (zk zM l (i+1)))):=by
    have h:=yZ z.o [X a (Z (zk zM l i)) k,X N (Z (zM x)) k1] [zk zM l i,zM x] (.cons o.o (.cons H.o .nil)) (by rw[d.o];omega);rw[d.o] at h;exact h
   go_wp2_with fail;refine C.o.mono ?_;rintro e w2 ⟨a2,k2,rfl,h2,g2⟩;have H2:=J (h2);have G2:=J (g2);go_wp2
   go_roundw
   ·exact⟨i+1,by omega,by go_num,⟨a2,k2,rfl,H2⟩,G2⟩
   ·simp[intOf];omega
  ·have hE:i=Z l:=by omega
   subst hE;have HC:=J (jw zM l);rw[HC.o] at t ⊢;go_wp2;go_ret;exact⟨a,k,rfl,t.o,r.o⟩
end Go.Proofs.YtfocdefchbnkpaaGreatDoor
