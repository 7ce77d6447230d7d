import Derived.Test.YtfocdefchbnkpaaGreatDoorRefS
set_option maxRecDepth 100000
set_option maxHeartbeats 20000000
open Go renaming World->Ag,Calls->Am
open Go.Ending renaming returned->Af
open Go.IntKind renaming i64->Ai
open Go.Lib renaming index->Es,byteCells->Ba
open Go.Obj renaming cells->Ae
open Go.Proofs.YtfocdefchbnkpaaGreatDoor.R renaming Rl->Gn,Hst->Fp,str->Aa,q->Fi,str_size->Bz,lnMt->Gg,dec->Sm,decI->Hz,lnTg->Hv,lnTgs->Ho,lnSet->Em,lnDrop->Cz,lnTo->Sw,lnHead->Vd,lines->Fu,hostLines->Ex,plain->Ic,span->By,smallI->Ek,digitI->Ck,signI->Oy,numStep->Sk,partI->Ih,lowC->Mi,word->Gx,lower->Cj,allB->Ec,header->Ft,value->Gz,path->Hp,upstream->Hf,labelsGo->Ht,named->Hq,wHost->Hy
open Go.Sort renaming SWO->Vh,ltStr->Iy,swo_ltStr->Hk,ltInt->Mw
open Go.Value renaming string->I,int->O,pointer->Al,slice->X,tuple->Cm,bool->Av
open Go.World renaming grownBy_alloc->Ac
open List renaming replicate->Hs,length->Z
open Nat renaming strongRecOn->Xp
open Option renaming some->V,none->S
open Prod renaming fst->Bq
open UInt8 renaming ofNat->Cb
open _root_ renaming List->A,UInt8->Ab,Bool->Ee,Nat->Ad,Int->Ak
namespace Go.Proofs.YtfocdefchbnkpaaGreatDoor
open Go.RowKit Tryz
theorem vg (l:A Ab):xA l=xg l:=by
 unfold xA xg
 by_cases b:3000<Z l
 ·rw[Az b,Az b]
 ·rw[Aw b,Aw b]
  rcases oP l (by omega) with ⟨h1,h2,h3,h4,_⟩|d
  ·rw[Aw (by omega)]
   unfold yV;rw[Aw (by rw[h2];simp),h3]
   by_cases a:(R.readS l).2.E=0
   ·rw[Aw (by simpa using a),Az a,a]
   ·rw[Az a,Aw a,h4 a]
  ·rw[Az d.bad]
   unfold yV;rw[Az d.broken,d.place]
def toRl (r:P.Rl):Gn:=rlOf r (decide (r.rep≠[]))
def toR (h:P.Hst):Fp:=⟨h.name,h.rules.map toRl⟩
theorem zm6 {a:Gn}{b:P.Rl}(h:RlSim a b)(g:GoodRl a):a=toRl b:=by
 obtain⟨c,f⟩:=h;have e:a.change=decide (b.rep≠[]):=by
  cases hc:a.change with
  |false=>rw[f hc];simp
  |true=>
   have d:=g.2 hc;rw[c] at d;exact(Cf d).symm
 rw[c,e];rfl
theorem zlX {a:A Gn}{b:A P.Rl}(h:All2 RlSim a b)(c:∀r∈a,GoodRl r):a=b.map toRl:=by
 induction h <;> grind[zm6,Gn,P.Rl,All2,RlSim,GoodRl,toRl]
theorem zlN {a:Fp}{b:P.Hst}(h:HstSim a b)(f:GoodHst a):a=toR b:=by
 obtain⟨c,d⟩:=h
 cases a
 simp only at c d;rw[c,zlX d f.2.2.2];rfl
theorem zk5 {a:A Fp}{b:A P.Hst}(h:All2 HstSim a b)(c:∀r∈a,GoodHst r):a=b.map toR:=by
 induction h <;> grind[zlN,Fp,P.Hst,All2,HstSim,GoodHst,toR]
theorem co (l:A Ab)(c:Z l<=3000)(a:(zp l).2.broken=false)(f:(zp l).2.err=0):GoodHs (R.readS l).1/\(R.readS l).1=(zp l).1.map toR:=by
 rcases oP l c with ⟨h1,h2,h3,h4,h5⟩|d
 ·have b:=zfU l c ⟨h1,by rw[<-h3];exact f⟩
  exact⟨b,zk5 h5 b.2.2⟩
 ·rw[d.broken] at a;cases a
theorem oO (l:A Ab)(d:Z l<=3000)(b:(zp l).2.broken=false)(c:(zp l).2.err=0):Z (zp l).1<=12/\∀h∈(zp l).1,Z h.rules<=12:=by
 obtain⟨a,e⟩:=co l d b c;rw[e] at a;refine⟨by have:=a.1;simp at this;omega,fun h hh=>?_⟩;have:=(a.2.2 (toR h) (Hh hh)).2.1;simp[toR] at this;omega
section
variable {α:Type} (lt:α->α->Ee)
def gIns (out:A α)(x:α):A α:=out.take (Z (out.takeWhile fun o=>lt o x))++[x]++out.drop (Z (out.takeWhile fun o=>lt o x))
def gSort (l:A α):A α:=l.foldl (gIns lt) []
theorem zeB (out:A α)(x:α):(gIns lt out x).Perm (x::out):=by
 unfold gIns;rw[Bl,List.singleton_append];refine List.perm_middle.trans ?_;rw[He]
theorem zl7 (p:α->Ee)(l:A α):l.take (Z (l.takeWhile p))=l.takeWhile p:=by
 induction l with
 |nil=>rfl
 |cons a l ih=>
  rw[Sf];split
  ·rw[Bb,Fk,ih]
  ·rfl
theorem zjX (p:α->Ee)(l:A α):l.drop (Z (l.takeWhile p))=l.dropWhile p:=by
 induction l with
 |nil=>rfl
 |cons a l ih=>
  rw[Sf,List.dropWhile_cons];split
  ·rw[Bb,In,ih]
  ·rfl
theorem zlP (p:α->Ee)(l:A α):∀a∈l.takeWhile p,p a=true:=by
 induction l with
 |nil=>intro a c;simp at c
 |cons b l ih=>
  intro a c;rw[Sf] at c
  split at c
  ·rename_i hb
   rcases En.1 c with rfl|c
   ·exact hb
   ·exact ih a c
  ·simp at c
theorem zlO (g:Vh lt)(x:α)(l:A α)(f:l.Pairwise (fun a b=>lt b a=false)):∀a∈l.dropWhile (fun o=>lt o x),lt a x=false:=by
 induction l with
 |nil=>intro a c;simp at c
 |cons b l ih=>
  intro a c;rw[List.pairwise_cons] at f;rw[List.dropWhile_cons] at c
  split at c
  ·exact ih f.2 a c
  ·rename_i hb
   have d:lt b x=false:=by simpa using hb
   rcases En.1 c with rfl|c
   ·exact d
   ·exact g.ntrans a b x (f.1 a c) d
theorem ik (d:Vh lt)(out:A α)(x:α)(h:out.Pairwise (fun a b=>lt b a=false)):(gIns lt out x).Pairwise (fun a b=>lt b a=false):=by
 unfold gIns;rw[zl7,zjX];have c:=h;rw[<-List.takeWhile_append_dropWhile (p:=fun o=>lt o x) (l:=out),Fx] at c;obtain⟨f,g,i⟩:=c;rw[Bl,List.singleton_append,Fx,List.pairwise_cons];refine⟨f,⟨fun b hb=>zlO lt d x out h b hb,g⟩,fun a ha b hb=>?_⟩;rcases En.1 hb with rfl|hb
 ·have:=zlP _ _ a ha
  exact Go.Sort.SWO.asymmA d this
 ·exact i a ha b hb
theorem gFold (f:Vh lt)(l:A α):∀out:A α,out.Pairwise (fun a b=>lt b a=false)->(l.foldl (gIns lt) out).Perm (l++out)/\(l.foldl (gIns lt) out).Pairwise (fun a b=>lt b a=false):=by
 induction l with
 |nil=>intro out h;exact⟨List.Perm.refl _,h⟩
 |cons x l ih=>
  intro out h;obtain⟨c,d⟩:=ih (gIns lt out x) (ik lt f out x h);refine⟨c.trans ?_,d⟩;refine((zeB lt out x).append_left l).trans ?_;exact List.perm_middle
end
def rlLt (a b:Gn):Ee:=decide (a.number<b.number)
def hsLt (a b:Fp):Ee:=qd a.name b.name
theorem za0:Vh rlLt:=⟨fun x=>by simp[rlLt],fun x y z h1 h2=>by simp[rlLt] at *;omega,fun x y z h1 h2=>by simp[rlLt] at *;omega⟩
theorem yc (a b:A Ab):qd a b=Iy a b:=by unfold qd Iy;rw[bytesLess_eq]
theorem oz:Vh hsLt:=⟨fun x=>by unfold hsLt;rw[yc];exact Hk.irrefl _,fun x y z=>by unfold hsLt;rw[yc,yc,yc];exact Hk.trans _ _ _,fun x y z=>by unfold hsLt;rw[yc,yc,yc];exact Hk.ntrans _ _ _⟩
theorem pE (a b:A Ab)(c:Iy a b=false)(d:Iy b a=false):a=b:=by
 unfold Iy at c d
 grind[List.le_antisymm]
theorem eQ (l:A Gn):zf l=gSort rlLt l:=rfl
theorem ga (l:A Fp):qx l=gSort hsLt (l.map fun h=>⟨h.name,zf h.rules⟩):=by
 unfold qx gSort;rw[List.foldl_map];rfl
variable {α:Type}
theorem vQ {β:Type}{f:α->β}(l:A α)(h:(l.map f).Pairwise (·≠·)){a b:α}(c:a∈l)(d:b∈l)(e:f a=f b):a=b:=by
 induction l with
 |nil=>simp at c
 |cons x l ih=>
  rw[Er,List.pairwise_cons] at h;rcases En.1 c with ea|ha1
  ·rcases En.1 d with eb|hb1
   ·rw[ea,eb]
   ·exact absurd (ea ▸ e) (h.1 _ (Hh hb1))
  ·rcases En.1 d with eb|hb1
   ·exact absurd (eb ▸ e).symm (h.1 _ (Hh ha1))
   ·exact ih h.2 ha1 hb1
theorem zc8 (l m:A Gn)(g:m.Perm l)(p:m.Pairwise (fun a b=>rlLt b a=false))(o:(l.map R.Rl.number).Pairwise (·≠·)):m=zf l:=by
 obtain⟨c,j⟩:=gFold rlLt za0 l [] .nil;rw[Cv] at c;rw[eQ];refine Sd (le:=fun a b=>rlLt b a=false) ?_ p j (g.trans c.symm);intro a b k n h i;have e:a.number=b.number:=by simp[rlLt] at h i;omega
 have d:=g.mem_iff.1 k;have f:=c.mem_iff.1 n;exact vQ l o d f e
def srtH (h:Fp):Fp:=⟨h.name,zf h.rules⟩
theorem zb4 (l m:A Fp)(h:m.Perm (l.map srtH))(o:m.Pairwise (fun a b=>hsLt b a=false))(n:(l.map R.Hst.name).Pairwise (·≠·)):m=qx l:=by
 obtain⟨f,i⟩:=gFold hsLt oz (l.map srtH) [] .nil;rw[Cv] at f;rw[ga];refine Sd (le:=fun a b=>hsLt b a=false) ?_ o i (h.trans f.symm);intro a b j k c d;unfold hsLt at c d;rw[yc] at c d;have e:a.name=b.name:=pE _ _ d c;have g:((l.map srtH).map R.Hst.name).Pairwise (·≠·):=by rw[Ny];exact n
 exact vQ _ g (h.mem_iff.1 j) (f.mem_iff.1 k) e
theorem zg8 {a b:P.Hst}(h:SrtR a b)(g:((toR a).rules.map R.Rl.number).Pairwise (·≠·)):toR b=srtH (toR a):=by
 obtain⟨c,d,f⟩:=h;have e:b.rules.map toRl=zf (a.rules.map toRl):=by
  refine zc8 _ _ (d.map toRl) ?_ g;rw[Ma];exact f
 unfold toR srtH;simp only;rw[c,e]
variable {c:A P.Hst}
theorem zcB {f:A P.Hst}(h:SrtH f c)(i:GoodHs (f.map toR)):c.map toR=qx (f.map toR):=by
 obtain⟨p,g,n,o,q⟩:=h;have e:c.map toR=(p.map toR).map srtH:=by
  apply Xj
  ·simp[o]
  ·intro j l m
   simp only[Ha];have k:j<Z p:=by simpa using m
   have r:j<Z c:=by simpa using l
   refine zg8 (q j k r) ?_;exact(i.2.2 (toR p[j]) (Hh (g.mem_iff.1 (Cr k)))).2.2.1
 refine zb4 _ _ ?_ ?_ i.2.1
 ·rw[e];exact((g.map toR).map srtH)
 ·rw[e,Ma,Ma]
  refine n.imp ?_;intro a b d;show qd b.name a.name=false;rw[yc];exact d
theorem gd {l:A Fp}(c:GoodHs l):Z (qx l)<=4/\∀h∈qx l,R.SmallH h:=by
 refine⟨by rw[dq];exact c.1,fun h hh=>?_⟩;obtain⟨a,_⟩:=gFold hsLt oz (l.map srtH) [] .nil;rw[Cv] at a;rw[ga] at hh;obtain⟨x,g,rfl⟩:=Hr.1 (a.mem_iff.1 hh);obtain⟨d,i,_,f⟩:=c.2.2 x g;refine⟨d,?_,fun r hr=>?_⟩
 ·show(Z (zf x.rules))<=4000
  rw[bD];omega
 ·obtain⟨b,_⟩:=gFold rlLt za0 x.rules [] .nil
  rw[Cv] at b;exact(f r (b.mem_iff.1 hr)).1
theorem ziZ (l:A Ab):(⟨#[34]⟩:ByteArray)++Aa l++⟨#[34]⟩=Aa (Fi l):=by
 apply ByteArray.ext
 simp[Aa,Fi]
theorem ye (l:A Ab)(w:Ag)(a:Z l<=3000):Am prog 105 #[I (Aa l)] w fun e w'=>e=Af (I (Aa (Fi l)))/\w'=w:=by
 have b:(Aa l).size<=3000:=by rw[Bz];exact a
 have e:=ziZ l;go_in;go_wp2;go_ret;exact⟨rfl,rfl⟩
variable {w:Ag}
theorem Kept.cell {B:Ad}{l:A TypeId}{w':Ag}(h:Kept B l w w'){b:Ad}{c:Array Value}{t:TypeId}{f:Ad×Ad}(a:w.heap[b]?=V (Ae c t f))(d:t ∉ l):w'.heap[b]?=V (Ae c t f):=by grind[Kept]
variable {l r t s b:A Ab}
theorem WInv.grown {w':Ag}{b:Ad}{op:Ak}(h:WInv w b l op)(a:w.grownBy w' S):WInv w' b l op:=by
 rcases h with ⟨v,hb,ho⟩|⟨v,hb,ho⟩
 ·exact Or.inl ⟨v,zE hb a,zK ho a (fun k hk c=>by cases c)⟩
 ·exact Or.inr ⟨v,zE hb a,zK ho a (fun k hk c=>by cases c)⟩
theorem WInv.op {a:Ad}{op:Ak}(h:WInv w a l op):w.cell? ⟨a,2,S⟩=V (O Ai op):=by
 rcases h with ⟨v,hb,ho⟩|⟨v,hb,ho⟩
 ·exact zB hb
 ·exact zB hb
def lnS (op:Ad)(ps:A (A Ab)):A Ab:=Hs (2*op) 32++ps.flatten++[10]
theorem zl0 (op:Ad):Lib.repeatL (⟨#[32,32]⟩:ByteArray).data.toList op=Hs (2*op) 32:=by
 have h:=Lib.repeatL_replicate 32 2 op;rw[Nat.mul_comm];exact h
theorem lw {b:Ad}{op:Ad}(h:WInv w b l op)(g c:Ad)(a:A (A Ab))(y:w.heap[g]?=V (Ae (zY a).toArray 9 (0,0)))(ab:op<=3)
  (hl:Z l+6+Z a.flatten+1<=140737488355328) (hn:Z a<=1000):Am prog 104 #[Al (V ⟨b,0,S⟩),X (V ⟨g,0,S⟩) (Z a) c] w fun e w'=>e=Af (Cm #[])/\WInv w' b (l++lnS op a) op/\Kept b wtags w w':=by
 have c2:=h.op;have s:=J (h);have F:=J y;have t:Y (∀W,w.grownBy W S->Am prog 157 #[I ⟨#[32,32]⟩,O Ai op] W fun e w'=>e=Af (I (Aa (Hs (2*op) 32)))/\w.grownBy w' S/\w'.cell? ⟨b,2,S⟩=V (O Ai op)):=fun W hW=>
  (Tryz.strings_Repeat ⟨#[32,32]⟩ op W (by omega) (by show 2*op<=_;omega)).mono fun e w' ⟨h1,d⟩=>⟨by rw[h1,zl0];rfl,zD hW (zt d),(s.o.grown (zD hW (zt d))).op⟩
 have o:Y (∀W,w.grownBy W S->Am prog 156 #[Al (V ⟨b,0,S⟩),I (Aa (Hs (2*op) 32))] W fun e w'=>∃n:Ak,e=Af (Cm #[O Ai n,.nilIface])/\WInv w' b (l++Hs (2*op) 32) op/\Kept b wtags w w'/\w'.cell? ⟨b,2,S⟩=V (O Ai op)):=fun W hW=>
  (oN (s.o.grown hW) (Aa (Hs (2*op) 32)) (by rw[Bz,Hx];omega)).mono fun e w' ⟨h1,d,f⟩=>⟨_,h1,by rw[R.str_toList] at d;exact d,(xJ hW).trans f,d.op⟩
 go_in;go_wp2_with fail
 go_region_held3 (fun W=>W.cell? ⟨b,2,S⟩=V (O Ai op)) (go_keep) (first
  |(go_at_call 157;show Am _ _ _ (World.drew w) _;refine(t.o _ (zV w)).mono ?_;rintro e wR ⟨rfl,m,H⟩;have k:Y (w.grownBy wR S):=m;clear m)
  |(go_at_call 156;refine(o.o _ k.o).mono ?_;rintro e B ⟨nT,rfl,v,x,N⟩;have C:Y (WInv B b (l++Hs (2*op) 32) op):=v;have E:Y (Kept b wtags w B):=x;clear v x))
 all_goals
  go_wp2_with fail
  go_loopw [17] (fun iv wr=>∃i:Ad,i<=Z a/\iv=O Ai i/\Y (WInv wr b (l++Hs (2*op) 32++(a.take i).flatten) op)/\Y (Kept b wtags w wr)) (fun iv _=>Z a-(intOf iv).toNat)
  ·exact⟨0,Ax _,rfl,by rw[Gm,Ew,Cv];exact C,E⟩
  ·
   obtain⟨i,aa,rfl,u,q⟩:=hrel
   by_cases j:i<Z a
   ·have Q:(i:Ak)<Z a:=by omega
    have d0:wr.cell? ⟨g,i,S⟩=V (I (Aa a[i])):=by
     rw[Lib.cell_of_heap (q.o.cell F.o (by decide))];simp[zY,j]
    have r:Z (a.take i).flatten+a[i].length<=Z a.flatten:=by
     have e:a=a.take i++a[i]::a.drop (i+1):=by rw[<-Ed j,He]
     have:=congrArg (fun z=>Z (List.flatten z)) e;simp only[Eg,Ci,Ah] at this
     omega
    have o:Y (Am prog 156 #[Al (V ⟨b,0,S⟩),I (Aa a[i])] wr fun e w'=>∃n:Ak,e=Af (Cm #[O Ai n,.nilIface])/\WInv w' b (l++Hs (2*op) 32++(a.take (i+1)).flatten) op/\Kept b wtags w w'):=
     (oN u.o (Aa a[i]) (by rw[Bz];simp only[Ah,Hx];omega)).mono fun e w' ⟨h1,d,f⟩=>⟨_,h1,by
      rw[R.str_toList,Bl,<-List.flatten_concat,<-Co j] at d;exact d,q.o.trans f⟩
    generalize a[i]=pi at*;go_wp2_with (go_at_call 156;refine o.o.mono ?_;rintro e w2 ⟨n2,rfl,d,f⟩)
    go_roundw
    ·exact⟨i+1,by omega,by go_num,d,f⟩
    ·simp[intOf];omega
   ·have p:Y (Am prog 158 #[Al (V ⟨b,0,S⟩),O .u8 10] wr fun e w'=>e=Af .nilIface/\WInv w' b (l++lnS op a) op/\Kept b wtags w w'):=
     (zfQ u.o 10 (by rw[show i=Z a by omega,Cc (Aq _)];simp only[Ah,Hx];omega)).mono fun e w' ⟨h1,d,f⟩=>⟨h1,by
      rw[show i=Z a by omega,Cc (Aq _)] at d;unfold lnS;rw[<-Bl,<-Bl];exact d,q.o.trans f⟩
    go_wp2_with (go_at_call 158;refine p.o.mono ?_;rintro e w2 ⟨rfl,d,f⟩)
    go_end0
    exact⟨rfl,d,f⟩
abbrev Go2 (a b c):=Ae #[I (Aa a),Av b,I (Aa c)] 276
theorem zbV {a:Ad}(h:WInv w a l (2:Ad))(m:P.Mt)(t:Z m.name<=3000)(u:Z m.val<=3000)(z:Z l<=100000000000000):Am prog 160 #[Al (V ⟨a,0,S⟩),.agg #[I (Aa m.name),Av m.ask,I (Aa m.val)]] w fun e w'=>e=Af (Cm #[])/\WInv w' a (l++Gg (mtOf m)) (2:Ad)/\Kept a wtags w w':=by
 have d:Y ((w.alloc (Go2 m.name m.ask m.val)).heap[w.heap.size]?=V (Go2 m.name m.ask m.val)):=heap_alloc_new _ _;have r:=cbi 0 d.o;have s:=cbi 2 d.o;have b:Y (w.grownBy (w.alloc (Go2 m.name m.ask m.val)) S):=Ac _ _ _;have k:Y (∀W (ps:A (A Ab)),w.grownBy W S->Z ps<=10->Z ps.flatten<=10000->Am prog 104 #[Al (V ⟨a,0,S⟩),X (V ⟨W.heap.size,0,S⟩) (Z ps) (Z ps)] (W.alloc (Ae (zY ps).toArray 9)) fun e w'=>e=Af (Cm #[])/\WInv w' a (l++lnS 2 ps) (2:Ad)/\Kept a wtags w w'/\Kept a wtags W w'):=fun W ps hW hp1 hp2=>
  (lw (op:=2) (h.grown (zD hW (Ac _ _ _))) W.heap.size (Z ps) ps (heap_alloc_new _ _) (by omega) (by omega) (by omega)).mono fun e w' ⟨g1,j,f⟩=>⟨g1,j,(xJ (zD hW (Ac _ _ S))).trans f,(xJ (Ac _ _ S)).trans f⟩
 have p:Y (Gg (mtOf m)=lnS 2 (if m.ask then [[104,101,97,100,101,114,32],Fi m.name,[32,61,32],Fi m.val,[59]] else [[104,101,97,100,101,114,32],Fi m.name,[59]])):=by
  show Gg (mtOf m)=_;unfold Gg mtOf lnS
  cases m.ask <;> simp
 have g:Y (∀W,Am prog 105 #[I (Aa m.name)] W fun e w'=>e=Af (I (Aa (Fi m.name)))/\w'=W):=fun W=>ye m.name W t
 have i:Y (∀W,Am prog 105 #[I (Aa m.val)] W fun e w'=>e=Af (I (Aa (Fi m.val)))/\w'=W):=fun W=>ye m.val W u
 rw[p.o]
 cases hask:m.ask with
 |false=>
  rw[hask] at r s b;have n:Y (Am prog 104 #[Al (V ⟨a,0,S⟩),X (V ⟨w.heap.size+1,0,S⟩) 3 3] ((w.alloc (Ae #[I (Aa m.name),Av false,I (Aa m.val)] 276)).alloc (Ae #[I ⟨#[104,101,97,100,101,114,32]⟩,I (Aa (Fi m.name)),I ⟨#[59]⟩] 9)) fun e w'=>e=Af (Cm #[])/\WInv w' a (l++lnS 2 [[104,101,97,100,101,114,32],Fi m.name,[59]]) (2:Ad)/\Kept a wtags w w'):=by
   have h:=k.o _ [[104,101,97,100,101,114,32],Fi m.name,[59]] b.o (by simp) (by simp[R.q_len];omega);rw[show(w.alloc (Ae #[I (Aa m.name),Av false,I (Aa m.val)] 276)).heap.size=w.heap.size+1 by simp] at h;exact Calls.mono h fun e w' ⟨k1,k2,k3,_⟩=>⟨k1,k2,k3⟩
  simp only[Ct,Gj];generalize l++lnS 2 [[104,101,97,100,101,114,32],Fi m.name,[59]]=lo at*;go_in;go_wp2_with (go_at_call 105;refine(g.o _).mono ?_;rintro e w' ⟨rfl,rfl⟩);refine n.o.mono ?_;rintro e v ⟨rfl,j,f⟩;go_wp2
  go_end0
  exact⟨rfl,j,f⟩
 |true=>
  rw[hask] at r s b;have o:Y (Am prog 104 #[Al (V ⟨a,0,S⟩),X (V ⟨w.heap.size+1,0,S⟩) 5 5] (((w.alloc (Ae #[I (Aa m.name),Av true,I (Aa m.val)] 276)).drew).alloc (Ae #[I ⟨#[104,101,97,100,101,114,32]⟩,I (Aa (Fi m.name)),I ⟨#[32,61,32]⟩,I (Aa (Fi m.val)),I ⟨#[59]⟩] 9)) fun e w'=>e=Af (Cm #[])/\WInv w' a (l++lnS 2 [[104,101,97,100,101,114,32],Fi m.name,[32,61,32],Fi m.val,[59]]) (2:Ad)/\Kept a wtags w w'/\w'.cell? ⟨w.heap.size,0,S⟩=V (I (Aa m.name))/\w'.cell? ⟨w.heap.size,2,S⟩=V (I (Aa m.val))):=by
   have h:=k.o _ [[104,101,97,100,101,114,32],Fi m.name,[32,61,32],Fi m.val,[59]] (zD b.o (zV _)) (by simp) (by simp[R.q_len];omega);rw[show((w.alloc (Ae #[I (Aa m.name),Av true,I (Aa m.val)] 276)).drew).heap.size=w.heap.size+1 by simp[World.drew]] at h;rw[hask] at d;exact Calls.mono h fun e w' ⟨k1,k2,k3,k4⟩=>⟨k1,k2,k3,zB (k4.cell (c:=#[I (Aa m.name),Av true,I (Aa m.val)]) d.o (by decide)),zB (k4.cell (c:=#[I (Aa m.name),Av true,I (Aa m.val)]) d.o (by decide))⟩
  simp only[Gq];generalize l++lnS 2 [[104,101,97,100,101,114,32],Fi m.name,[32,61,32],Fi m.val,[59]]=lo at*;go_in;go_wp2_with fail
  go_region_held3 (fun W=>W.cell? ⟨w.heap.size,0,S⟩=V (I (Aa m.name))/\W.cell? ⟨w.heap.size,2,S⟩=V (I (Aa m.val))) (go_keep) (first
   |(go_at_call 105;refine(g.o _).mono ?_;rintro e w' ⟨rfl,rfl⟩)
   |(go_at_call 105;refine(i.o _).mono ?_;rintro e w' ⟨rfl,rfl⟩)
   |(go_at_call 104;refine o.o.mono ?_;rintro e v ⟨rfl,j,f,x,y⟩))
  all_goals
   go_wp2;refine bodyPost_ret (results_none rfl _ _ _) rfl ?_;exact⟨rfl,j,f⟩
theorem zaX (n:Ad):Lib.decDigits n=Sm n:=by
 induction n using Xp with
 |_ n ih=>
  rw[Lib.decDigits,Sm]
  by_cases h:n<10
  ·rw[dif_pos h,Az h]
  ·rw[dif_neg h,Aw h,ih (n / 10) (by omega)]
theorem zhJ (n:Ak)(h:0<=n):Lib.itoa n=Hz n:=by
 unfold Lib.itoa Hz;rw[Aw (by omega),zaX]
theorem l9 (l:A (A Ab×Ak)):Lib.join (l.map Hv) [44,32]=Ho l:=by
 cases l with
 |nil=>rfl
 |cons a l=>
  rw[Er,Lib.join_cons];unfold Ho Lib.joinTail;rw[Ny];rfl
def uF (r:P.Rl):A Ab:=if r.rep=[] then [] else lnS 2 [[114,101,112,108,97,99,101,32],Fi r.rep,[59]]
def jx (r:P.Rl):A Ab:=lnS 1 [[114,117,108,101,32],Hz r.number,[32,123]]
def kj (r:P.Rl):A Ab:=lnS 2 [[112,97,116,104,32],Fi r.path,[59]]
def wF (r:P.Rl):A Ab:=lnS 2 [[116,111,32],Ho r.tg,[59]]
theorem ziU (t:A Ab×A Ab):lnS 2 [[115,101,116,32],Fi t.1,[32,61,32],Fi t.2,[59]]=Em t:=by
 unfold lnS Em;simp
theorem zcT (t:A Ab):lnS 2 [[100,114,111,112,32],Fi t,[59]]=Cz t:=by
 unfold lnS Cz;simp
theorem zlU (r:P.Rl):uF r=Sw (toRl r):=by
 unfold uF Sw toRl rlOf lnS
 by_cases h:r.rep=[] <;> simp[h]
theorem zk1 (r:P.Rl):jx r++kj r=Vd (toRl r):=by
 unfold jx kj Vd toRl rlOf lnS;simp
theorem zhN (r:P.Rl):jx r++kj r++(r.ms.map fun m=>Gg (mtOf m)).flatten++wF r++uF r++(r.sets.map Em).flatten++(r.drops.map Cz).flatten++lnS 1 [[125]]=Fu (toRl r):=by
 have e:(toRl r).ms.map Gg=r.ms.map fun m=>Gg (mtOf m):=by
  show(r.ms.map mtOf).map Gg=_;rw[Ny];rfl
 rw[zlU,zk1];unfold Fu wF lnS;rw[e];show _=Vd (toRl r)++_++_++Ho r.tg++_++_++(r.sets.map Em).flatten++(r.drops.map Cz).flatten++_;simp
theorem zk2 (h:P.Hst):lnS 0 [[104,111,115,116,32],Fi h.name,[32,123]]++(h.rules.map fun r=>Fu (toRl r)).flatten++lnS 0 [[125]]=Ex (toR h):=by
 have e:(toR h).rules.map Fu=h.rules.map fun r=>Fu (toRl r):=by
  show(h.rules.map toRl).map Fu=_;rw[Ny];rfl
 unfold Ex lnS;rw[e];show _=_++Fi h.name++_++_++_;simp
theorem nK (a:A P.Hst):Ic (a.map toR)=(a.map fun h=>Ex (toR h)).flatten:=by
 unfold Ic;rw[Ny];rfl
theorem dropAdd (l:A Ab)(a b:Ad):l.drop (a+b)=(l.drop a).drop b:=by rw[List.drop_drop]
theorem pC (p:Ak->Ee)(a b:A Ab)(d:∀c∈a,p c.toNat=true)(f:∀c cs,b=c::cs->p c.toNat=false):By p (a++b)=Z a:=by
 induction a with
 |nil=>
  cases b with
  |nil=>rfl
  |cons c cs=>show(if p c.toNat then _ else 0)=0;rw[f c cs rfl];rfl
 |cons x a ih=>
  show(if p x.toNat then By p (a++b)+1 else 0)=_;rw[d x (by simp),Az rfl,ih (fun c h=>d c (by simp[h]))];rfl
structure TokAt (t r:A Ab) (k:Ak):Prop where
 ms:qD (t++r)=(Z t,k)
 nb:∀c cs,t++r=c::cs->xN c.toNat=false
theorem zj9 (t r:A Ab)(h:t≠[])(b:∀c∈t,Ek c.toNat=true)(f:∀c cs,r=c::cs->Ek c.toNat=false):TokAt t r 1:=by
 match t,h with
 |c::t,_=>
  have a:=b c (by simp);refine⟨?_,fun d ds e=>?_⟩
  ·show(if Ek c.toNat then (By Ek ((c::t)++r),(1:Ak)) else _)=_
   rw[Az a,pC _ _ _ b f]
  ·cases e
   unfold Ek at a;unfold xN;simp at a ⊢;omega
theorem tok_num (t r:A Ab)(h:t≠[])(i:Z t<=5)(f:∀c∈t,Ck c.toNat=true)(g:∀c cs,r=c::cs->Ck c.toNat=false):TokAt t r 2:=by
 match t,h with
 |c::t,_=>
  have a:=f c (by simp);have b:Ek c.toNat=false:=by unfold Ck at a;unfold Ek;simp at a ⊢;omega
  refine⟨?_,fun d ds e=>?_⟩
  ·show(if Ek c.toNat then _ else if Ck c.toNat then xm ((c::t)++r) else _)=_
   rw[Aw (by rw[b];simp),Az a];unfold xm;rw[pC _ _ _ f g,Aw (by omega)]
  ·cases e
   unfold Ck at a;unfold xN;simp at a ⊢;omega
theorem zk6 (s r:A Ab)(x:Ab)(h:x ∉ s):Es (s++x::r) [x]=Z s:=by
 induction s <;> grind[jq]
theorem zhF (s:A Ab)(x:Ab)(h:x ∉ s):Es s [x] = -1:=by
 induction s with
 |nil=>rfl
 |cons c s ih=>
  rw[jq,Aw (fun e=>h (by simp[e])),ih (fun hh=>h (by simp[hh])),Az rfl]
theorem zlC (s r:A Ab)(g:Z s<=24)(b:(34:Ab) ∉ s)(a:(10:Ab) ∉ s):TokAt (Fi s) r 3:=by
 have f:Lib.cut (s++34::r) [34]=(s,r,true):=by
  unfold Lib.cut;rw[zk6 s r 34 b,Az (by omega)];simp
 refine⟨?_,fun d ds e=>?_⟩
 ·have e:Fi s++r=34::(s++34::r):=by unfold Fi;simp
  rw[e,qD,Aw (by decide),Aw (by decide),Az (by decide)];unfold yD jm Lib.contains;rw[In,Iw,f];show(if (!true || (decide (24<Z s) || decide (0<=Es s [10])))=true then ((0:Ad),(5:Ak)) else _)=_;rw[zhF s 10 a,Aw (by simp;omega)];unfold Fi;simp
 ·have c:Fi s++r=34::(s++34::r):=by unfold Fi;simp
  rw[c] at e;cases e;decide
theorem za6 (c:Ab)(r:A Ab)(a:Oy c.toNat=true):TokAt [c] r 4:=by
 have b:Ek c.toNat=false:=by unfold Oy at a;unfold Ek;simp at a ⊢;omega
 have f:Ck c.toNat=false:=by unfold Oy at a;unfold Ck;simp at a ⊢;omega
 have g:¬c.toNat=34:=by unfold Oy at a;simp at a;omega
 refine⟨?_,fun d ds e=>?_⟩
 ·show(if Ek c.toNat then _ else if Ck c.toNat then _ else if c.toNat=34 then _ else if Oy c.toNat then ((1:Ad),(4:Ak)) else _)=_
  rw[Aw (by rw[b];simp),Aw (by rw[f];simp),Aw g,Az a];rfl
 grind[Ek,Oy,Ck,xN,TokAt]
theorem zlH (t r:A Ab)(h:t≠[])(a:(t.all fun c=>Ek c.toNat)=true):TokAt t (32::r) 1:=
 zj9 t _ h (fun c hc=>Mq.1 a c hc) (fun c cs e=>by cases e;decide)
structure At (l rest:A Ab) (st:P.St):Prop where
 ok:st.broken=false
 err:st.err=0
 pos:∃p b,(∀c∈b,xN c.toNat=true)/\l.drop p=b++rest/\p<=Z l/\st.tok=zg l p
theorem At.blank {c:Ab}{st:P.St}(h:At l (c::r) st)(d:xN c.toNat=true):At l r st:=by
 obtain⟨p,b,a,f,g,e⟩:=h.pos;exact⟨h.ok,h.err,p,b++[c],fun x hx=>by rcases Ea.1 hx with hx|hx;exact a x hx;simp at hx;rw[hx];exact d,by rw[f];simp,g,e⟩
theorem At.blanks {l r:A Ab}{st:P.St}:∀(b:A Ab),At l (b++r) st->(b.all fun c=>xN c.toNat)=true->At l r st
 |[],h,_=>h
 |c::b,h,hb=>by
  simp only[Xi,Ez] at hb;exact At.blanks b (At.blank h hb.1) hb.2
variable {k:Ak}
theorem At.tok {st:P.St}(h:At l (t++r) st)(i:TokAt t r k):st.tok.raw=t/\st.tok.k=k/\At l r (qR l st true):=by
 obtain⟨p,f,m,a,q,e⟩:=h.pos;have o:By xN (l.drop p)=Z f:=by rw[a];exact pC _ _ _ m i.nb
 have d:qE l p=p+Z f:=by unfold qE;rw[o]
 have j:l.drop (qE l p)=t++r:=by rw[d,dropAdd,a,List.drop_left]
 have b:st.tok.raw=t:=by
  rw[e];show(l.drop (qE l p)).take (qD (l.drop (qE l p))).1=t;rw[j,i.ms,List.take_left]
 have n:st.tok.k=k:=by rw[e];show(qD (l.drop (qE l p))).2=k;rw[j,i.ms]
 have g:st.tok.at_=p+Z f:=by rw[e];exact d
 refine⟨b,n,?_⟩;unfold qR;rw[Az ⟨rfl,h.ok⟩];refine⟨h.ok,h.err,p+Z f+Z t,[],(fun c hc=>by cases hc),?_,?_,?_⟩
 ·rw[dropAdd,dropAdd,a,List.drop_left,List.drop_left];rfl
 ·have:=congrArg Z a;simp only[Cy,Ah] at this;omega
 ·show zg l (st.tok.at_+Z st.tok.raw)=_;rw[g,b]
theorem At.take {st:P.St}(h:At l (t++r) st)(a:TokAt t r k):At l r (zS l st t):=by
 obtain⟨b,_,c⟩:=h.tok a
 grind[zS,P.St,At,TokAt]
theorem At.sees {st:P.St}(h:At l (t++r) st)(b:TokAt t r k)(x:A Ab):qH st x=decide (t=x):=by
 obtain⟨a,_,_⟩:=h.tok b;unfold qH;rw[a,h.ok];simp
theorem At.word {st:P.St}(t:A Ab)(h:At l (t++32::r) st)(a:t≠[])(b:(t.all fun c=>Ek c.toNat)=true):At l r (zS l st t):=
 (h.take (zlH t r a b)).blank (by decide)
theorem At.sign {st:P.St}(c:Ab)(h:At l (c::r) st)(a:Oy c.toNat=true):At l r (zS l st [c]):=At.take (t:=[c]) h (za6 c r a)
theorem At.str {st:P.St}(h:At l (Fi s++r) st)(g:Z s<=24)(b:(34:Ab) ∉ s)(a:(10:Ab) ∉ s) :
  (qA l st).1=s/\At l r (qA l st).2:=by
 obtain⟨d,f,c⟩:=h.tok (zlC s r g b a);unfold qA;rw[f,show((3:Ak) == 3)=true from rfl];refine⟨?_,c⟩;rw[c.ok,d];unfold Fi;simp
theorem zh5 (n:Ad):Sm n≠[]:=by unfold Sm;split <;> simp
theorem mw (n:Ad):∀c∈Sm n,Ck c.toNat=true:=by
 induction n using Xp with
 |ind n ih=>
  intro c a;have d:∀k,k<10->Ck (Cb (48+k)).toNat=true:=by decide
  unfold Sm at a
  split at a
  ·rename_i h;rw[Si] at a;rw[a];exact d n h
  ·rcases Ea.1 a with a|a
   ·exact ih (n / 10) (by omega) c a
   ·rw[Si] at a;rw[a];exact d (n % 10) (Nat.mod_lt _ (by decide))
theorem zhW (l:A Ab)(c:Ab):R.num (l++[c])=Sk (R.num l) c:=by unfold R.num;rw[Mb];rfl
theorem zkI (n:Ad)(h:n<=99999):R.num (Sm n)=n:=by
 induction n using Xp with
 |ind n ih=>
  have d:∀k,k<10->(Cb (48+k)).toNat=48+k:=by decide
  unfold Sm
  split
  ·rename_i hn
   show Sk 0 (Cb (48+n))=n;unfold Sk;rw[d n hn];simp only[wrap64];omega
  ·rw[zhW,ih (n / 10) (by omega) (by omega)]
   unfold Sk;rw[d (n % 10) (by omega)];simp only[wrap64];omega
theorem At.num {n:Ak}{st:P.St}(h:At l (Hz n++r) st)(a:0<=n/\n<=99999)(b:∀c cs,r=c::cs->Ck c.toNat=false) :
  (qp l st).1=n/\At l r (qp l st).2:=by
 obtain⟨d,f,g⟩:=h.tok (tok_num (Hz n) r (zh5 _) (R.decI_len n a) (mw _) b)
 grind[tok_num,Hz,zh5,R.decI_len,mw,qp,R.num,Sm,zkI,P.St,At,Ck]
theorem kN (st:P.St)(a b:Ak)(h:a<b:=by omega):zy st a b=st:=by grind[zy,zh,P.St]
theorem jG (st:P.St)(b:Ee)(e a:Ak)(h:b=false):zh st b e a=st:=by rw[h];rfl
theorem cQ {c:Ab}(h:Ih c.toNat false=true):c≠34/\c≠10/\Ih c.toNat true=true/\Mi c=c:=by
 have b:Ek c.toNat=true\/Ck c.toNat=true\/(c.toNat:Ak)=45:=by unfold Ih at h;simpa[or_assoc] using h
 have a:(97<=c.toNat/\c.toNat<=122)\/(48<=c.toNat/\c.toNat<=57)\/c.toNat=45:=by
  rcases b with h|h|h
  ·left;unfold Ek at h;simp at h;omega
  ·right;left;unfold Ck at h;simp at h;omega
  ·right;right;omega
 refine⟨fun e=>by subst e;revert a;decide,fun e=>by subst e;revert a;decide,?_,?_⟩
 ·unfold Ih at h ⊢;simp at h ⊢;exact Or.inl h
 ·unfold Mi R.largeI;rw[Aw (by simp;omega)]
theorem zdI (h:Gx s false=true):(34:Ab) ∉ s/\(10:Ab) ∉ s/\Gx s true=true/\Cj s=s:=by
 unfold Gx Ec at h;simp only[Ez,Mq,Gd] at h;refine⟨fun hm=>(cQ (h.1 _ hm)).1 rfl,fun hm=>(cQ (h.1 _ hm)).2.1 rfl,?_,?_⟩
 ·unfold Gx Ec
  simp only[Ez,Mq,Gd];exact⟨fun c hc=>(cQ (h.1 c hc)).2.2.1,h.2⟩
 ·unfold Cj
  conv=>rhs;rw[<-List.map_id s]
  exact List.map_congr_left fun c hc=>(cQ (h.1 c hc)).2.2.2
theorem rX (h:Ft s false=true):(34:Ab) ∉ s/\(10:Ab) ∉ s/\Ft s true=true/\Cj s=s:=by
 unfold Ft at h ⊢;rw[Ez] at h ⊢;obtain⟨a,b,c,d⟩:=zdI h.1;exact⟨a,b,⟨c,h.2⟩,d⟩
theorem pJ (h:Gz s=true):(34:Ab) ∉ s/\(10:Ab) ∉ s:=by
 unfold Gz Ec at h;simp only[Ez,Mq] at h;refine⟨fun hm=>?_,fun hm=>?_⟩
 ·have:=h.1 _ hm;revert this;decide
 ·have:=h.1 _ hm;revert this;decide
theorem zd5 (h:Hp s=true):(34:Ab) ∉ s/\(10:Ab) ∉ s:=by
 unfold Hp Ec at h;simp only[Ez,Mq] at h;refine⟨fun hm=>?_,fun hm=>?_⟩
 ·have:=h.1 _ hm;revert this;decide
 ·have:=h.1 _ hm;revert this;decide
theorem gi (h:Hf s=true):(34:Ab) ∉ s/\(10:Ab) ∉ s:=by
 unfold Hf Ec at h;simp only[Ez,Mq] at h;refine⟨fun hm=>?_,fun hm=>?_⟩
 ·have:=h.1 _ hm;revert this;decide
 ·have:=h.1 _ hm;revert this;decide
theorem tC:∀(s:A Ab) (n:Ad),Ht false s n=true->(34:Ab) ∉ s/\(10:Ab) ∉ s/\Ht true s n=true/\Cj s=s
 |[],n,h=>⟨by simp,by simp,by simpa[Ht] using h,rfl⟩
 |c::s,n,h=>by
  unfold Ht at h ⊢
  by_cases a:(c.toNat:Ak)=46/\0<n
  ·rw[Az a] at h ⊢
   obtain⟨b,d,f,g⟩:=tC s 0 h;have j:c=46:=Hb.1 (by have:=a.1;show c.toNat=46;omega);subst j;exact⟨by simp[b],by simp[d],f,by show Mi 46::Cj s=_;rw[g];rfl⟩
  ·rw[Aw a] at h ⊢
   by_cases i:Ih c.toNat false=true
   ·rw[Az i] at h
    obtain⟨b,d,f,g⟩:=tC s (n+1) h;obtain⟨k,l,m,o⟩:=cQ i;rw[Az m];exact⟨by simp[b,Ne.symm k],by simp[d,Ne.symm l],f,by show Mi c::Cj s=_;rw[g,o]⟩
   ·rw[Aw i] at h;cases h
theorem zhR (h:Hq s false=true):(34:Ab) ∉ s/\(10:Ab) ∉ s/\Hq s true=true/\Cj s=s:=by
 unfold Hq at h ⊢
 by_cases f:s=[42]
 ·rw[Az f];subst f;exact⟨by decide,by decide,rfl,by decide⟩
 ·rw[Aw f] at h ⊢
  by_cases g:s.take 2=[42,46]/\2<Z s
  ·rw[Az g] at h ⊢
   obtain⟨b,c,d,a⟩:=tC _ 0 h;have e:s=[42,46]++s.drop 2:=by rw[<-g.1,He]
   refine⟨?_,?_,d,?_⟩
   ·rw[e];simp;exact b
   ·rw[e];simp;exact c
   ·rw[e]
    show Cj ([42,46]++s.drop 2)=_;unfold Cj at a ⊢;rw[Ef,a];rfl
  ·rw[Aw g] at h ⊢
   obtain⟨b,c,d,a⟩:=tC _ 0 h;exact⟨b,c,d,a⟩
structure VMt (m:P.Mt):Prop where
 name:Ft m.name false=true
 nl:Z m.name<=24
 val:Gz m.val=true
 vl:Z m.val<=24
 no:m.ask=false->m.val=[]
structure VTg (t:A Ab×Ak):Prop where
 up:Hf t.1=true
 ul:Z t.1<=24
 lo:1<=t.2
 hi:t.2<=1000
structure VSt (t:A Ab×A Ab):Prop where
 name:Ft t.1 false=true
 nl:Z t.1<=24
 val:Gz t.2=true
 vl:Z t.2<=24
structure VDp (t:A Ab):Prop where
 name:Ft t false=true
 nl:Z t<=24
structure VRl (r:P.Rl):Prop where
 num:0<=r.number/\r.number<=65535
 path:Hp r.path=true
 pl:Z r.path<=24
 ml:Z r.ms<=3
 ms:∀m∈r.ms,VMt m
 t0:r.tg≠[]
 tl:Z r.tg<=4
 tg:∀t∈r.tg,VTg t
 rep:r.rep=[]\/(Hp r.rep=true/\(Z r.rep)<=24)
 sl:Z r.sets<=3
 sets:∀s∈r.sets,VSt s
 dl:Z r.drops<=3
 drops:∀d∈r.drops,VDp d
 once:(r.sets.map Bq++r.drops).Pairwise (·≠·)
structure VHst (h:P.Hst):Prop where
 name:Hq h.name false=true
 nl:Z h.name<=24
 rl:Z h.rules<=6
 ord:(h.rules.map P.Rl.number).Pairwise (·<·)
 rules:∀r∈h.rules,VRl r
structure VHs (hs:A P.Hst):Prop where
 hl:Z hs<=4
 ord:(hs.map P.Hst.name).Pairwise (fun a b=>qd a b=true)
 hosts:∀h∈hs,VHst h
theorem At.path {st:P.St}(w:A Ab)(h:At l (w++32::(Fi s++59::r)) st)(b:w≠[])(i:(w.all fun c=>Ek c.toNat)=true)(a:Hp s=true)(j:Z s<=24) :
  (xi l st w).1=s/\At l r (xi l st w).2:=by
 have d:=h.word w b i;obtain⟨f,g⟩:=d.str j (zd5 a).1 (zd5 a).2;unfold xi;rw[f];refine⟨rfl,?_⟩;rw[jG _ _ _ _ (by rw[a];rfl)];exact g.sign 59 (by decide)
theorem At.header {st:P.St}(h:At l (Fi s++r) st)(b:Ft s false=true)(a:Z s<=24) :
  (qV l st).1=s/\At l r (qV l st).2:=by
 obtain⟨c,d,i,j⟩:=rX b;obtain⟨f,g⟩:=h.str a c d
 grind[rX,qV,jG,P.St,At,Fi,Ft]
theorem At.value {st:P.St}(h:At l (61::32::(Fi s++r)) st)(a:Gz s=true)(c:Z s<=24) :
  (x6 l st).1=s/\At l r (x6 l st).2:=by
 have b:=(h.sign 61 (by decide)).blank (by decide);obtain⟨d,f⟩:=b.str c (pJ a).1 (pJ a).2
 grind[pJ,x6,jG,P.St,At,Fi,Gz]
theorem At.seesSign {st:P.St}{c:Ab}(h:At l (c::r) st)(a:Oy c.toNat=true)(x:A Ab):qH st x=decide ([c]=x):=At.sees (t:=[c]) h (za6 c r a) x
theorem At.seesWord {st:P.St}(t:A Ab)(h:At l (t++32::r) st)(a:t≠[])(b:(t.all fun c=>Ek c.toNat)=true)(x:A Ab):qH st x=decide (t=x):=h.sees (zlH t r a b) x
theorem At.match_ {st:P.St}(m:P.Mt)(n:Ad)(h:At l (Gg (mtOf m)++r) st)(b:VMt m)(u:n<3) :
  (qo l st n).1=m/\At l r (qo l st n).2:=by
 have e:Gg (mtOf m)++r=[32,32,32,32]++(qO++32::(Fi m.name++((if m.ask then [32,61,32]++Fi m.val else [])++59::10::r))):=by
  unfold Gg mtOf qO;simp
 rw[e] at h;have p:=(h.blanks _ (by decide)).word qO (by decide) (by decide);obtain⟨f,g⟩:=p.header b.name b.nl;have i:jC l st n=qV l (zS l st qO):=by unfold jC;rw[kN _ _ _]
 obtain⟨v,t,j⟩:=m;simp only at f g b
 cases t with
 |true=>
  have d:At l (61::32::(Fi j++59::10::r)) (qV l (zS l st qO)).2:=by
   refine At.blank (c:=32) ?_ (by decide)
   simpa using g
  have a:qH (qV l (zS l st qO)).2 [61]=true:=by rw[d.seesSign (by decide)];decide
  obtain⟨k,o⟩:=d.value b.val b.vl;unfold qo vz;rw[i,a,Az rfl,f,k];exact⟨rfl,(o.sign 59 (by decide)).blank (by decide)⟩
 |false=>
  have d:At l (59::10::r) (qV l (zS l st qO)).2:=by simpa using g
  have a:qH (qV l (zS l st qO)).2 [61]=false:=by rw[d.seesSign (by decide)];decide
  have s:j=[]:=b.no rfl;unfold qo vz;rw[i,a,Aw (by simp),f,s];exact⟨rfl,(d.sign 59 (by decide)).blank (by decide)⟩
theorem At.mtLoop {l r:A Ab}(d:∀st,At l r st->qH st qO=false):∀(c:A P.Mt) (a:Ad) (st:P.St) (b:A P.Mt),
  At l ((c.map fun m=>Gg (mtOf m)).flatten++r) st->(∀m∈c,VMt m)->Z b+Z c<=3->Z c<a->(qw l a st b).1=b++c/\At l r (qw l a st b).2
 |[],a+1,st,b,h,_,_,_=>by
  have f:=h;unfold qw;rw[d st f,Aw (by simp)];exact⟨by simp,f⟩
 |m::c,a+1,st,b,h,hv,hl,hf=>by
  have f:At l (Gg (mtOf m)++((c.map fun m=>Gg (mtOf m)).flatten++r)) st:=by simpa using h
  have j:qH st qO=true:=by
   have e:Gg (mtOf m)++((c.map fun m=>Gg (mtOf m)).flatten++r)=[32,32,32,32]++(qO++32::(Fi m.name++((if m.ask then [32,61,32]++Fi m.val else [])++59::10::((c.map fun m=>Gg (mtOf m)).flatten++r)))):=by
    unfold Gg mtOf qO;simp
   rw[e] at f;rw[(f.blanks _ (by decide)).seesWord qO (by decide) (by decide)];simp
  simp only[Bb] at hl hf;obtain⟨g,i⟩:=f.match_ m (Z b) (hv m (by simp)) (by omega);unfold qw;rw[j,Az rfl,g];have:=At.mtLoop d c a _ (b++[m]) i (fun x hx=>hv x (by simp[hx])) (by simp;omega) (by omega);exact⟨by rw[this.1];simp,this.2⟩
theorem At.target {st:P.St}(t:A Ab×Ak)(n:Ad)(c:Ab)(h:At l (Hv t++c::r) st)(a:VTg t)(m:n<4)(k:Ck c.toNat=false) :
  (zb l st n).1=t/\At l (c::r) (zb l st n).2:=by
 have e:Hv t++c::r=Fi t.1++32::(Hz t.2++c::r):=by unfold Hv;simp
 rw[e] at h;obtain⟨b,f⟩:=h.str a.ul (gi a.up).1 (gi a.up).2;have j:xT l st n=(t.1,(qA l st).2):=by
  unfold xT;rw[kN _ _ _,b,jG _ _ _ _ (by rw[a.up];rfl)]
 obtain⟨g,i⟩:=(f.blank (by decide)).num ⟨by have:=a.lo;omega,by have:=a.hi;omega⟩ (fun d ds e=>by cases e;exact k);unfold zb;rw[j];simp only;rw[g,jG _ _ _ _ (by have:=a.hi;simp;omega)];exact⟨rfl,i⟩
theorem At.tgLoop {l r:A Ab}:∀(ts:A (A Ab×Ak)) (a:Ad) (st:P.St) (b:A (A Ab×Ak)),
  At l ((ts.map fun u=>[44,32]++Hv u).flatten++59::r) st->(∀t∈ts,VTg t)->Z b+Z ts<=4->Z ts<a->(xG l a st b).1=b++ts/\At l (59::r) (xG l a st b).2
 |[],a+1,st,b,h,_,_,_=>by
  have d:=h;unfold xG;rw[d.seesSign (by decide),Aw (by decide)];exact⟨by simp,d⟩
 |t::ts,a+1,st,b,h,hv,hl,hf=>by
  have d:At l (44::32::(Hv t++((ts.map fun u=>[44,32]++Hv u).flatten++59::r))) st:=by simpa using h
  have n:qH st [44]=true:=by rw[d.seesSign (by decide)];decide
  have g:=(d.sign 44 (by decide)).blank (by decide);simp only[Bb] at hl hf;obtain⟨c,j,i,m⟩:∃c j,(ts.map fun u=>[44,32]++Hv u).flatten++59::r=c::j/\Ck c.toNat=false:=by
   cases ts with
   |nil=>exact⟨59,r,rfl,by decide⟩
   |cons u us=>exact⟨44,_,rfl,by decide⟩
  rw[i] at g;obtain⟨k,f⟩:=g.target t (Z b) c (hv t (by simp)) (by omega) m;rw[<-i] at f;unfold xG;rw[n,Az rfl,k];have:=At.tgLoop ts a _ (b++[t]) f (fun x hx=>hv x (by simp[hx])) (by simp;omega) (by omega);exact⟨by rw[this.1];simp,this.2⟩
theorem At.targets {st:P.St}(ts:A (A Ab×Ak))(h:At l (kh++32::(Ho ts++59::r)) st)(o:ts≠[])(d:∀t∈ts,VTg t)(v:Z ts<=4)(s:Z ts<=Z l) :
  (qS l st).1=ts/\At l r (qS l st).2:=by
 match ts,o with
 |t::ts,_=>
  have p:=h.word kh (by decide) (by decide);have a:At l (Hv t++((ts.map fun u=>[44,32]++Hv u).flatten++59::r)) (zS l st kh):=by simpa[Ho] using p
  obtain⟨c,j,i,q⟩:∃c j,(ts.map fun u=>[44,32]++Hv u).flatten++59::r=c::j/\Ck c.toNat=false:=by
   cases ts with
   |nil=>exact⟨59,r,rfl,by decide⟩
   |cons u us=>exact⟨44,_,rfl,by decide⟩
  rw[i] at a;obtain⟨k,f⟩:=a.target t 0 c (d t (by simp)) (by omega) q;rw[<-i] at f;simp only[Bb] at v s;obtain⟨m,n⟩:=At.tgLoop ts (Z l+1) _ [t] f (fun x hx=>d x (by simp[hx])) (by simp;omega) (by omega);have g:(yA l st).1=t::ts/\At l (59::r) (yA l st).2:=by
   unfold yA;rw[k];exact⟨m,n⟩
  have b:(t::ts).filter (fun t=>!(t.2 == 0))=t::ts:=List.filter_eq_self.2 fun x hx=>by
   have:=(d x hx).lo;simp;omega
  unfold qS;rw[g.1,b];refine⟨rfl,?_⟩;rw[jG _ _ _ _ (by rfl)];exact g.2.sign 59 (by decide)
theorem At.edited {st:P.St}(a:A (A Ab))(h:At l (Fi s++r) st)(c:Ft s false=true)(b:Z s<=24)(g:s ∉ a) :
  (qi l st a).1=s/\At l r (qi l st a).2:=by
 obtain⟨d,f⟩:=h.header c b
 grind[qi,jG,List.any_eq_false,P.St,At,Fi,Ft]
theorem At.set_ {st:P.St}(t:A Ab×A Ab)(n:Ad)(a:A (A Ab))(h:At l (Em t++r) st)(b:VSt t)(m:n<3)(k:t.1 ∉ a) :
  (xj l st n a).1=t/\At l r (xj l st n a).2:=by
 have e:Em t++r=[32,32,32,32]++(xX++32::(Fi t.1++32::61::32::(Fi t.2++59::10::r))):=by
  unfold Em xX;simp
 rw[e] at h;have i:=(h.blanks _ (by decide)).word xX (by decide) (by decide);have j:jl l st n a=qi l (zS l st xX) a:=by unfold jl;rw[kN _ _ _]
 obtain⟨c,d⟩:=i.edited a b.name b.nl k;obtain⟨f,g⟩:=(d.blank (by decide)).value b.val b.vl;unfold xj;rw[j,c,f];exact⟨rfl,(g.sign 59 (by decide)).blank (by decide)⟩
theorem At.drop_ {st:P.St}(t:A Ab)(n:Ad)(a:A (A Ab))(h:At l (Cz t++r) st)(b:VDp t)(j:n<3)(i:t ∉ a) :
  (xO l st n a).1=t/\At l r (xO l st n a).2:=by
 have e:Cz t++r=[32,32,32,32]++(qy++32::(Fi t++59::10::r)):=by
  unfold Cz qy;simp
 rw[e] at h;have f:=(h.blanks _ (by decide)).word qy (by decide) (by decide);have g:je l st n a=qi l (zS l st qy) a:=by unfold je;rw[kN _ _ _]
 obtain⟨c,d⟩:=f.edited a b.name b.nl i;unfold xO;rw[g,c];exact⟨rfl,(d.sign 59 (by decide)).blank (by decide)⟩
theorem At.stLoop {l r:A Ab}(c:∀st,At l r st->qH st xX=false):∀(ts:A (A Ab×A Ab)) (b:Ad) (st:P.St) (a:A (A Ab×A Ab)),
  At l ((ts.map Em).flatten++r) st->(∀m∈ts,VSt m)->((a++ts).map Bq).Pairwise (·≠·)->Z a+Z ts<=3->Z ts<b->(qk l b st a).1=a++ts/\At l r (qk l b st a).2
 |[],b+1,st,a,h,_,_,_,_=>by
  have d:=h;unfold qk;rw[c st d,Aw (by simp)];exact⟨by simp,d⟩
 |t::ts,b+1,st,a,h,hv,hp,hl,hf=>by
  have d:At l (Em t++((ts.map Em).flatten++r)) st:=by simpa using h
  have k:qH st xX=true:=by
   have e:Em t++((ts.map Em).flatten++r)=[32,32,32,32]++(xX++32::(Fi t.1++32::61::32::(Fi t.2++59::10::((ts.map Em).flatten++r)))):=by
    unfold Em xX;simp
   rw[e] at d;rw[(d.blanks _ (by decide)).seesWord xX (by decide) (by decide)];simp
  simp only[Bb] at hl hf;have f:t.1 ∉ a.map Bq:=by
   rw[Ef,Fx] at hp;intro j;exact hp.2.2 _ j t.1 (by simp) rfl
  obtain⟨g,i⟩:=d.set_ t (Z a) (a.map Bq) (hv t (by simp)) (by omega) f;unfold qk;rw[k,Az rfl,g];have:=At.stLoop c ts b _ (a++[t]) i (fun x hx=>hv x (by simp[hx])) (by simpa using hp) (by simp;omega) (by omega);exact⟨by rw[this.1];simp,this.2⟩
theorem At.dpLoop {l r:A Ab}(c:A (A Ab))(d:∀st,At l r st->qH st qy=false):∀(ts:A (A Ab)) (b:Ad) (st:P.St) (a:A (A Ab)),
  At l ((ts.map Cz).flatten++r) st->(∀m∈ts,VDp m)->(c++a++ts).Pairwise (·≠·)->Z a+Z ts<=3->Z ts<b->(qf l c b st a).1=a++ts/\At l r (qf l c b st a).2
 |[],b+1,st,a,h,_,_,_,_=>by
  have f:=h;unfold qf;rw[d st f,Aw (by simp)];exact⟨by simp,f⟩
 |t::ts,b+1,st,a,h,hv,hp,hl,hf=>by
  have f:At l (Cz t++((ts.map Cz).flatten++r)) st:=by simpa using h
  have n:qH st qy=true:=by
   have e:Cz t++((ts.map Cz).flatten++r)=[32,32,32,32]++(qy++32::(Fi t++59::10::((ts.map Cz).flatten++r))):=by
    unfold Cz qy;simp
   rw[e] at f;rw[(f.blanks _ (by decide)).seesWord qy (by decide) (by decide)];simp
  simp only[Bb] at hl hf;have g:t ∉ c++a:=by
   rw[Fx] at hp;intro k;exact hp.2.2 _ k t (by simp) rfl
  obtain⟨i,j⟩:=f.drop_ t (Z a) (c++a) (hv t (by simp)) (by omega) g;unfold qf;rw[n,Az rfl,i];have:=At.dpLoop c d ts b _ (a++[t]) j (fun x hx=>hv x (by simp[hx])) (by simpa using hp) (by simp;omega) (by omega);exact⟨by rw[this.1];simp,this.2⟩
theorem At.len {st:P.St}(h:At l r st):Z r<=Z l:=by grind[Z,List.length_drop,List.length_append,P.St,At]
theorem zeK (x:P.Rl):Sw (toRl x)=if x.rep=[] then [] else [32,32,32,32]++(qK++32::(Fi x.rep++[59,10])):=by
 unfold Sw toRl rlOf qK
 by_cases h:x.rep=[] <;> simp[h]
theorem nE (x:P.Rl)(r:A Ab):Fu (toRl x)++r=[32,32]++(qz++32::(Hz x.number++32::123::([10,32,32,32,32]++(jB++32::(Fi x.path++59::10::((x.ms.map fun m=>Gg (mtOf m)).flatten++
  ([32,32,32,32]++(kh++32::(Ho x.tg++59::10::(Sw (toRl x)++((x.sets.map Em).flatten++((x.drops.map Cz).flatten++32::32::125::10::r)))))))))))):=by
 have e:(toRl x).ms.map Gg=x.ms.map fun m=>Gg (mtOf m):=by
  show(x.ms.map mtOf).map Gg=_;rw[Ny];rfl
 unfold Fu Vd;rw[e];show(([32,32,114,117,108,101,32]++Hz x.number++_++Fi x.path++_)++_++_++Ho x.tg++_++_++(x.sets.map Em).flatten++(x.drops.map Cz).flatten++_)++r=_;unfold qz jB kh;simp
theorem rt (a:A (A Ab))(w:A Ab)(c:qy≠w)(f:[125]≠w)(st:P.St)(h:At l ((a.map Cz).flatten++32::32::125::r) st):qH st w=false:=by
 cases a with
 |nil=>
  have b:At l ([32,32]++125::r) st:=h;rw[(b.blanks _ (by decide)).seesSign (by decide)];simpa using f
 |cons d a=>
  have e:((d::a).map Cz).flatten++32::32::125::r=[32,32,32,32]++(qy++32::(Fi d++59::10::((a.map Cz).flatten++32::32::125::r))):=by
   rw[Er,Ci];unfold Cz qy;simp
  rw[e] at h;rw[(h.blanks _ (by decide)).seesWord qy (by decide) (by decide)];simpa using c
theorem zhU (a:A (A Ab×A Ab))(b:A (A Ab))(w:A Ab)(c:xX≠w)(f:qy≠w)(g:[125]≠w)(st:P.St)(h:At l ((a.map Em).flatten++((b.map Cz).flatten++32::32::125::r)) st):qH st w=false:=by
 cases a with
 |nil=>exact rt b w f g st h
 |cons d a=>
  have e:((d::a).map Em).flatten++((b.map Cz).flatten++32::32::125::r)=[32,32,32,32]++(xX++32::(Fi d.1++32::61::32::(Fi d.2++59::10::((a.map Em).flatten++((b.map Cz).flatten++32::32::125::r))))):=by
   rw[Er,Ci];unfold Em xX;simp
  rw[e] at h;rw[(h.blanks _ (by decide)).seesWord xX (by decide) (by decide)];simpa using c
theorem At.rule {st:P.St}(x:P.Rl)(a:A Ak)(h:At l (Fu (toRl x)++r) st)(f:VRl x)(hn:Z a<6)(ho:x.number ∉ a) :
  (xI l st a).1=x/\At l r (xI l st a).2:=by
 rw[nE] at h;have C:8<=Z l:=by
  have:=h.len;simp only[Ah,Bb,qz,Bu] at this;omega
 have h1:=(h.blanks _ (by decide)).word qz (by decide) (by decide);obtain⟨n1,n2⟩:=h1.num ⟨f.num.1,by have:=f.num.2;omega⟩ (fun c cs e=>by cases e;decide);have hA:jS l st a=(x.number,(qp l (zS l st qz)).2):=by
  unfold jS xp;rw[kN _ _ _,n1];rw[jG _ (decide (65535<x.number)) _ _ (by have:=f.num.2;simp;omega)];rw[jG _ _ _ _ (by rw[Xd];intro y hy;simp;intro e;subst e;exact ho hy)]
 have h2:=((n2.blank (by decide)).sign 123 (by decide)).blanks _ (by decide);obtain⟨v,w⟩:=h2.path jB (by decide) (by decide) f.path f.pl;have hB:vH l (qp l (zS l st qz)).2=xi l (zS l (qp l (zS l st qz)).2 [123]) jB:=rfl;rw[<-hB] at v w;generalize hb:vH l (qp l (zS l st qz)).2=b at v w;obtain⟨F,H⟩:=At.mtLoop (l:=l) (fun s i=>by rw[(i.blanks [32,32,32,32] (by decide)).seesWord kh (by decide) (by decide)];decide) x.ms (Z l+1) b.2 [] (w.blank (by decide)) f.ms (by have:=f.ml;simp;omega) (by have:=f.ml;omega);generalize hm:qw l (Z l+1) b.2 []=m at F H;obtain⟨Q,t2⟩:=At.targets x.tg (H.blanks _ (by decide)) f.t0 f.tg f.tl (by have:=f.tl;omega);generalize ht:qS l m.2=t at Q t2;have hC:(yu l t.2).1=x.rep/\At l ((x.sets.map Em).flatten++((x.drops.map Cz).flatten++32::32::125::10::r)) (yu l t.2).2:=by
  have j:=t2.blank (by decide);rw[zeK] at j;unfold yu
  by_cases o:x.rep=[]
  ·rw[Az o] at j
   have u:=j;rw[zhU _ _ qK (by decide) (by decide) (by decide) _ u,Aw (by simp)];exact⟨o.symm,u⟩
  ·rw[Aw o] at j
   have u:At l ([32,32,32,32]++(qK++32::(Fi x.rep++59::(10::((x.sets.map Em).flatten++((x.drops.map Cz).flatten++32::32::125::10::r)))))) t.2:=by simpa using j
   have t5:=u.blanks _ (by decide);have E:=f.rep.resolve_left o;rw[t5.seesWord qK (by decide) (by decide),Az (by simp)];obtain⟨k,n⟩:=t5.path qK (by decide) (by decide) E.1 E.2;exact⟨k,n.blank (by decide)⟩
 obtain⟨k,n⟩:=hC;generalize hc:yu l t.2=c at k n;have g:=f.once;obtain⟨p,N⟩:=At.stLoop (l:=l) (fun s i=>rt x.drops xX (by decide) (by decide) s i) x.sets (Z l+1) c.2 [] n f.sets (by rw[Hc];exact(Fx.1 g).1) (by have:=f.sl;simp;omega) (by have:=f.sl;omega);rw[Hc] at p;generalize i:qk l (Z l+1) c.2 []=s at p N;obtain⟨z,B⟩:=At.dpLoop (l:=l) (s.1.map Bq) (fun q hq=>by rw[(At.blanks [32,32] hq (by decide)).seesSign (by decide)];decide) x.drops (Z l+1) s.2 [] N f.drops (by rw[p,Cv];exact g) (by have:=f.dl;simp;omega) (by have:=f.dl;omega);rw[Hc] at z;generalize hd:qf l (s.1.map Bq) (Z l+1) s.2 []=d at z B;have hR:xI l st a=(⟨x.number,b.1,m.1,t.1,c.1,s.1,d.1⟩,zS l d.2 [125]):=by
  unfold xI;rw[hA];unfold ui;simp only;rw[hb,hm];unfold uh;rw[ht];unfold jy;rw[hc,i];unfold wi;rw[hd]
 rw[hR];refine⟨?_,((B.blanks [32,32] (by decide)).sign 125 (by decide)).blank (by decide)⟩;show(⟨x.number,b.1,m.1,t.1,c.1,s.1,d.1⟩:P.Rl)=x;rw[v,F,Q,k,p,z];rfl
theorem At.rlLoop {l r:A Ab}(d:∀st,At l r st->qH st qz=false):∀(c:A P.Rl) (b:Ad) (st:P.St) (a:A P.Rl),
  At l ((c.map fun x=>Fu (toRl x)).flatten++r) st->(∀m∈c,VRl m)->((a++c).map P.Rl.number).Pairwise (·<·)->Z a+Z c<=6->Z c<b->(xB l b st a).1=a++c/\At l r (xB l b st a).2
 |[],b+1,st,a,h,_,_,_,_=>by
  have f:=h;unfold xB;rw[d st f,Aw (by simp)];exact⟨by simp,f⟩
 |x::c,b+1,st,a,h,hv,hp,hl,hf=>by
  have f:At l (Fu (toRl x)++((c.map fun x=>Fu (toRl x)).flatten++r)) st:=by simpa using h
  have o:qH st qz=true:=by
   have i:=f;rw[nE] at i;rw[(i.blanks _ (by decide)).seesWord qz (by decide) (by decide)];simp
  simp only[Bb] at hl hf;have g:x.number ∉ a.map P.Rl.number:=by
   rw[Ef,Fx] at hp;intro n;have:=hp.2.2 _ n x.number (by simp)
   omega
  obtain⟨j,k⟩:=f.rule x (a.map P.Rl.number) (hv x (by simp)) (by simp;omega) g;unfold xB;rw[o,Az rfl,j];have:=At.rlLoop d c b _ (a++[x]) k (fun y hy=>hv y (by simp[hy])) (by simpa using hp) (by simp;omega) (by omega);exact⟨by rw[this.1];simp,this.2⟩
theorem tN (x:P.Hst)(r:A Ab):Ex (toR x)++r=Hy++32::(Fi x.name++32::123::10::((x.rules.map fun x=>Fu (toRl x)).flatten++125::10::r)):=by
 have e:(toR x).rules.map Fu=x.rules.map fun r=>Fu (toRl r):=by
  show(x.rules.map toRl).map Fu=_;rw[Ny];rfl
 grind[toR,Fu,toRl,List.map_map,Ex,Hy,Fi,P.Hst]
theorem At.host {st:P.St}(x:P.Hst)(a:A (A Ab))(h:At l (Ex (toR x)++r) st)(b:VHst x)(v:Z a<4)(n:x.name ∉ a) :
  (xP l st a).1=x/\At l r (xP l st a).2:=by
 rw[tN] at h;have c:7<=Z l:=by
  have:=h.len;simp only[Ah,Bb,Hy,Bu,R.q_len] at this;omega
 obtain⟨p,q,t,u⟩:=zhR b.name;have j:=h.word Hy (by decide) (by decide);obtain⟨d,f⟩:=j.str b.nl p q;have m:kg l st a=(x.name,(qA l (zS l st Hy)).2):=by
  unfold kg x8 bK;rw[kN _ _ _,d,u];rw[jG _ (!R.named x.name true) _ _ (by rw[t];rfl)];rw[jG _ _ _ _ (by rw[Xd];intro y o;simp;intro e;subst e;exact n o)]
 have k:=((f.blank (by decide)).sign 123 (by decide)).blank (by decide);obtain⟨g,i⟩:=At.rlLoop (l:=l) (fun s hs=>by rw[hs.seesSign (by decide)];decide) x.rules (Z l+1) _ [] k b.rules (by rw[Hc];exact b.ord) (by have:=b.rl;simp;omega) (by have:=b.rl;omega);unfold xP eu;rw[m];simp only;rw[g];exact⟨rfl,(i.sign 125 (by decide)).blank (by decide)⟩
theorem tO (a:A Ab):qd a a=false:=by
 unfold qd
 induction a with
 |nil=>rfl
 |cons c a ih=>unfold Op.bytesLess;simp[ih]
theorem At.hsLoop {l:A Ab}:∀(g:A P.Hst) (f:Ad) (st:P.St) (d:A P.Hst),
  At l (g.map fun x=>Ex (toR x)).flatten st->(∀m∈g,VHst m)->((d++g).map P.Hst.name).Pairwise (fun a b=>qd a b=true)->Z d+Z g<=4->Z g<f->(qg l f st d).1=d++g/\At l [] (qg l f st d).2
 |[],f+1,st,d,h,_,_,_,_=>by
  have i:=h;have r:TokAt [] [] 0:=⟨rfl,fun c cs e=>by cases e⟩;unfold qg;rw[i.sees r,Aw (by decide)];exact⟨by simp,i⟩
 |x::g,f+1,st,d,h,hv,hp,hl,hf=>by
  have i:At l (Ex (toR x)++(g.map fun x=>Ex (toR x)).flatten) st:=by simpa using h
  have q:qH st Hy=true:=by
   have k:=i;rw[tN] at k;rw[k.seesWord Hy (by decide) (by decide)];simp
  simp only[Bb] at hl hf;have j:x.name ∉ d.map P.Hst.name:=by
   rw[Ef,Fx] at hp;intro p;have:=hp.2.2 _ p x.name (by simp);rw[tO] at this;cases this
  obtain⟨n,o⟩:=i.host x (d.map P.Hst.name) (hv x (by simp)) (by simp;omega) j;unfold qg;rw[q,Az rfl,n];have:=At.hsLoop g f _ (d++[x]) o (fun y hy=>hv y (by simp[hy])) (by simpa using hp) (by simp;omega) (by omega);exact⟨by rw[this.1];simp,this.2⟩
abbrev Go1 (a):=qg a (Z a+1) (kW a) []
theorem zbX (a:A P.Hst)(b:VHs a):(zp (Ic (a.map toR))).1=a/\(zp (Ic (a.map toR))).2.broken=false/\(zp (Ic (a.map toR))).2.err=0:=by
 rw[nK];generalize g:(a.map fun h=>Ex (toR h)).flatten=l;have n:At l (a.map fun h=>Ex (toR h)).flatten (kW l):=⟨rfl,rfl,0,[],(fun c hc=>by cases hc),by rw[g];rfl,Ax _,rfl⟩;have o:Z a<Z l+1:=by
  have:Z a<=Z l:=by
   rw[<-g];have:∀xs:A P.Hst,Z xs<=Z (xs.map fun h=>Ex (toR h)).flatten:=fun xs=>by
    induction xs with
    |nil=>simp
    |cons x xs ih=>
     rw[Er,Ci,Ah,Bb];have:1<=Z (Ex (toR x)):=by unfold Ex;simp only[Ah,Bb,Bu];omega
     omega
   exact this a
  omega
 obtain⟨i,j⟩:=At.hsLoop a (Z l+1) (kW l) [] n b.hosts (by rw[Hc];exact b.ord) (by have:=b.hl;simp;omega) o;have m:=j;obtain⟨_,p,d⟩:=m.tok (t:=[]) (r:=[]) (k:=0) ⟨rfl,fun c cs e=>by cases e⟩;have f:jk l (Go1 l).2=qR l (Go1 l).2 true:=by
  unfold jk;rw[p];rfl
 unfold zp;exact⟨by rw[i];rfl,by rw[f];exact d.ok,by rw[f];exact d.err⟩
def PFine (st:P.St):Prop:=st.broken=false/\st.err=0
def Tkd (l:A Ab)(st:P.St):Prop:=∃p,st.tok=zg l p
theorem vU {st:P.St}{b:Ee}{e a:Ak}(c:e≠0)(h:PFine (zh st b e a)):PFine st/\b=false:=by grind[zh,xH,P.St,PFine]
theorem jX {st:P.St}(b:Ee)(e a:Ak)(h:Tkd l st):Tkd l (zh st b e a):=by grind[zh,xH,P.St,Tkd]
theorem tE {st:P.St}{a b:Ak}(h:PFine (zy st a b)):PFine st/\a<b:=by grind[zy,vU,P.St,PFine]
theorem jJ {st:P.St}(a b:Ak)(h:Tkd l st):Tkd l (zy st a b):=jX _ _ _ h
theorem mA {st:P.St}{b:Ee}(h:PFine (qR l st b)):PFine st/\b=true:=by
 unfold qR at h
 split at h
 ·rename_i hc;exact⟨⟨hc.2,h.2⟩,hc.1⟩
 ·exact absurd h.1 (by simp)
theorem pH {st:P.St}(b:Ee)(h:Tkd l st):Tkd l (qR l st b):=by
 unfold qR
 split
 ·exact⟨_,rfl⟩
 ·exact h
theorem j0 {st:P.St}(h:PFine (zS l st r)):PFine st:=(mA h).1
theorem qt {st:P.St}(r:A Ab)(h:Tkd l st):Tkd l (zS l st r):=pH _ h
theorem gq (r:A Ab)(h:(qD r).2=3):(qD r).1<=26:=by
 unfold qD at h ⊢
 grind[qD,xm,yD,jm]
theorem lG (r:A Ab)(h:(qD r).2=2):(qD r).1=By Ck r/\By Ck r<=5:=by
 unfold qD at h ⊢
 grind[qD,xm,yD,By,Ck]
theorem nJ {st:P.St}(f:Tkd l st)(h:PFine (qA l st).2):PFine st/\(Z (qA l st).1)<=24:=by
 obtain⟨b,c⟩:=mA (show PFine (qR l st (st.tok.k == 3)) from h);refine⟨b,?_⟩;obtain⟨p,d⟩:=f;have a:st.tok.k=3:=by simpa using c
 have g:Z st.tok.raw<=26:=by
  rw[d] at a ⊢;have:=gq _ a;show(Z ((l.drop (qE l p)).take (qD (l.drop (qE l p))).1))<=26;rw[Cq];omega
 unfold qA;simp only
 split
 ·simp
 ·rw[Cq];omega
theorem dC {st:P.St}(a:Tkd l st):Tkd l (qA l st).2:=pH _ a
theorem zbG {st:P.St}(i:Tkd l st)(h:PFine (qp l st).2):PFine st/\0<=(qp l st).1/\(qp l st).1<=99999:=by
 obtain⟨d,f⟩:=mA (show PFine (qR l st (st.tok.k == 2)) from h);refine⟨d,?_⟩;obtain⟨p,g⟩:=i;have a:st.tok.k=2:=by simpa using f
 have b:Z st.tok.raw<=5/\∀c∈st.tok.raw,Ck c.toNat=true:=by
  rw[g] at a ⊢;obtain⟨j,m⟩:=lG _ a;show(Z ((l.drop (qE l p)).take (qD (l.drop (qE l p))).1))<=5/\∀c∈(l.drop (qE l p)).take (qD (l.drop (qE l p))).1,_;rw[j];exact⟨by rw[Cq];omega,R.span_all _ _⟩
 unfold qp;simp only
 split
 ·omega
 ·exact R.num_le st.tok.raw b.2 b.1
theorem zdG {st:P.St}(a:Tkd l st):Tkd l (qp l st).2:=pH _ a
theorem zjC (p:Ab->Ee)(h:(List.range 256).all (fun n=>p (Cb n))=true)(c:Ab):p c=true:=by
 have:=Mq.1 h c.toNat (List.mem_range.2 c.toNat_lt)
 rwa[UInt8.ofNat_toNat] at this
theorem lD (c:Ab):Ih c.toNat true=true->Ih (Mi c).toNat false=true:=by
 have:=zjC (fun c=>!R.partI c.toNat true || Ih (Mi c).toNat false) (by decide +kernel) c;simp only[Sn,Xg] at this;intro h;rcases this with h'|h'
 ·rw[h] at h';cases h'
 ·exact h'
theorem aN (c:Ab):(Mi c=46↔c=46)/\(Mi c=42↔c=42):=by
 have:=zjC (fun c=>decide ((Mi c=46↔c=46)/\(Mi c=42↔c=42))) (by decide +kernel) c
 simpa using this
theorem za7 (h:Gx s true=true):Gx (Cj s) false=true:=by
 unfold Gx Ec Cj at*;simp only[Ez,Mq,Gd,Hr,Bv] at*;exact⟨fun c ⟨d,hd,e⟩=>by rw[<-e];exact lD d (h.1 d hd),h.2⟩
theorem lE (s:A Ab)(h:Gx s true=true):Cj (Cj s)=Cj s:=(zdI (za7 h)).2.2.2
theorem zb3 (h:Ft s true=true):Ft (Cj s) false=true:=by
 unfold Ft at h ⊢;rw[Ez] at h ⊢;exact⟨za7 h.1,by rw[lE s h.1];exact h.2⟩
theorem uo:∀(s:A Ab) (n:Ad),Ht true s n=true->Ht false (Cj s) n=true
 |[],n,h=>by simpa[Ht,Cj] using h
 |c::s,n,h=>by
  show Ht false (Mi c::Cj s) n=true;unfold Ht at h ⊢;have a:((Mi c).toNat:Ak)=46↔(c.toNat:Ak)=46:=by
   have:=(aN c).1
   constructor
   ·intro e;have:c=46:=this.1 (Hb.1 (by show(Mi c).toNat=46;omega));subst this;rfl
   ·intro e;have:Mi c=46:=this.2 (Hb.1 (by show c.toNat=46;omega));rw[this];rfl
  by_cases b:(c.toNat:Ak)=46/\0<n
  ·rw[Az b] at h
   rw[Az ⟨a.2 b.1,b.2⟩];exact uo s 0 h
  ·rw[Aw b] at h
   rw[Aw (fun hh=>b ⟨a.1 hh.1,hh.2⟩)]
   by_cases d:Ih c.toNat true=true
   ·rw[Az d] at h
    rw[Az (lD c d)];exact uo s (n+1) h
   ·rw[Aw d] at h;cases h
theorem zeN (h:Hq s true=true):Hq (Cj s) false=true:=by
 unfold Hq at h ⊢
 by_cases g:s=[42]
 ·subst g;rfl
 ·rw[Aw g] at h
  have i:¬Cj s=[42]:=by
   intro e
   apply g
   have d:Z s=1:=by have:=congrArg Z e;simpa[Cj] using this
   obtain⟨c,rfl⟩:=List.length_eq_one_iff.1 d;have:Mi c=42:=by simpa[Cj] using e
   rw[(aN c).2.1 this]
  rw[Aw i];have k:Z (Cj s)=Z s:=by unfold Cj;simp
  have j:(Cj s).take 2=[42,46]↔s.take 2=[42,46]:=by
   unfold Cj;rw[<-List.map_take]
   constructor
   ·intro e
    rcases hq:s.take 2 with _|⟨a,_|⟨b,_|⟨c,q⟩⟩⟩
    ·rw[hq] at e;simp at e
    ·rw[hq] at e;simp at e
    ·rw[hq] at e
     simp only[Er,Fa,List.cons.injEq,and_true] at e;rw[(aN a).2.1 e.1,(aN b).1.1 e.2]
    ·rw[hq] at e;simp at e
   ·intro e;rw[e];rfl
  by_cases f:s.take 2=[42,46]/\2<Z s
  ·rw[Az f] at h
   rw[Az ⟨j.2 f.1,by omega⟩];have:(Cj s).drop 2=Cj (s.drop 2):=by unfold Cj;rw[List.map_drop]
   unfold R.labels;rw[this];exact uo _ 0 h
  ·rw[Aw f] at h
   rw[Aw (fun hh=>f ⟨j.1 hh.1,by omega⟩)];exact uo _ 0 h
variable {a:A (A Ab)}
theorem zgV {x:A Ab}(h:(a.any fun n=>decide (n=x))=false):x ∉ a:=by grind
theorem zjW {a:A Ak}{x:Ak}(h:(a.any fun n=>decide (n=x))=false):x ∉ a:=by grind
theorem nG {b:Ee}(h:(!b)=false):b=true:=by cases b with|true=>rfl|false=>cases h
theorem lP {st:P.St}(j:Tkd l st)(h:PFine (x8 l st a).2):PFine st/\Hq (x8 l st a).1 false=true/\(Z (x8 l st a).1)<=24/\(x8 l st a).1 ∉ a:=by
 obtain⟨b,c⟩:=vU (by decide) (show PFine (zh (zh (qA l st).2 (!bK (qA l st).1) 4 st.tok.at_) (a.any fun n=>decide (n=Cj (qA l st).1)) 5 st.tok.at_) from h);obtain⟨d,f⟩:=vU (by decide) b;obtain⟨g,i⟩:=nJ j d;exact⟨g,zeN (nG f),by show(Z (Cj _))<=24;unfold Cj;rw[Bv];exact i,zgV c⟩
theorem eW {st:P.St}(a:A (A Ab))(b:Tkd l st):Tkd l (x8 l st a).2:=jX _ _ _ (jX _ _ _ (dC b))
theorem zd6 {st:P.St}{w:A Ab}(a:Tkd l st)(h:PFine (xi l st w).2):PFine st/\Hp (xi l st w).1=true/\(Z (xi l st w).1)<=24:=by grind[j0,PFine,zS,zh,qA,vU,nJ,qt,nG,P.St,Tkd,xi,Hp]
theorem za4 {st:P.St}(w:A Ab)(a:Tkd l st):Tkd l (xi l st w).2:=qt _ (jX _ _ _ (dC (qt _ a)))
theorem ry {st:P.St}(a:Tkd l st)(h:PFine (qV l st).2):PFine st/\Ft (qV l st).1 false=true/\(Z (qV l st).1)<=24:=by grind[vU,PFine,zh,qA,nJ,zb3,nG,Cj,List.length_map,P.St,Tkd,qV,Ft]
theorem pG {st:P.St}(a:Tkd l st):Tkd l (qV l st).2:=jX _ _ _ (dC a)
theorem lQ {st:P.St}(a:Tkd l st)(h:PFine (x6 l st).2):PFine st/\Gz (x6 l st).1=true/\(Z (x6 l st).1)<=24:=by grind[vU,PFine,zh,qA,zS,nJ,qt,j0,nG,P.St,Tkd,x6,Gz]
theorem sd {st:P.St}(a:Tkd l st):Tkd l (x6 l st).2:=jX _ _ _ (dC (qt _ a))
theorem zdF {st:P.St}(n:Ad)(a:Tkd l st):Tkd l (jC l st n).2:=pG (qt _ (jJ _ _ a))
theorem zl8 {st:P.St}(a:Tkd l st):Tkd l (vz l st).2:=by grind[vz,sd,P.St,Tkd]
variable {n:Ad}
theorem zhZ {st:P.St}(d:Tkd l st)(h:PFine (qo l st n).2):PFine st/\n<3/\VMt (qo l st n).1:=by
 have a:=j0 (show PFine (zS l (vz l (jC l st n).2).2 [59]) from h);have b:PFine (jC l st n).2/\Gz (vz l (jC l st n).2).1=true/\(Z (vz l (jC l st n).2).1)<=24/\(qH (jC l st n).2 [61]=false->(vz l (jC l st n).2).1=[]):=by
  unfold vz at a ⊢
  by_cases c:qH (jC l st n).2 [61]=true
  ·rw[Az c] at a ⊢
   obtain⟨f,g,i⟩:=lQ (zdF n d) a;exact⟨f,g,i,fun h=>by rw[c] at h;cases h⟩
  ·rw[Aw c] at a ⊢
   exact⟨a,rfl,by simp,fun _=>rfl⟩
 obtain⟨j,k,m⟩:=ry (qt _ (jJ _ _ d)) (show PFine (qV l (zS l (zy st n 3) qO)).2 from b.1);obtain⟨o,p⟩:=tE (j0 j);exact⟨o,by omega,k,m,b.2.1,b.2.2.1,b.2.2.2⟩
theorem zgF {st:P.St}(n:Ad)(a:Tkd l st):Tkd l (qo l st n).2:=qt _ (zl8 (zdF n a))
theorem rq {l:A Ab}:∀(d:Ad) (st:P.St) (c:A P.Mt),Tkd l st->Tkd l (qw l d st c).2/\(PFine (qw l d st c).2->PFine st/\(Z c<=3->(∀m∈c,VMt m)->Z (qw l d st c).1<=3/\∀m∈(qw l d st c).1,VMt m))
 |0,st,c,ht=>⟨ht,fun h=>⟨h,fun a b=>⟨a,b⟩⟩⟩
 |d+1,st,c,ht=>by
  unfold qw
  by_cases f:qH st qO=true
  ·rw[Az f]
   obtain⟨g,i⟩:=rq d (qo l st (Z c)).2 (c++[(qo l st (Z c)).1]) (zgF _ ht);refine⟨g,fun h=>?_⟩;obtain⟨j,k⟩:=i h;obtain⟨n,p,o⟩:=zhZ ht j;exact⟨n,fun d1 d2=>k (by simp;omega) (fun m hm=>by rcases Ea.1 hm with hm|hm;exact d2 m hm;simp at hm;rw[hm];exact o)⟩
  ·rw[Aw f]
   exact⟨ht,fun h=>⟨h,fun a b=>⟨a,b⟩⟩⟩
theorem fu {st:P.St}(n:Ad)(a:Tkd l st):Tkd l (xT l st n).2:=jX _ _ _ (dC (jJ _ _ a))
theorem rz {st:P.St}(b:Tkd l st)(h:PFine (zb l st n).2):PFine st/\n<4/\Hf (zb l st n).1.1=true/\(Z (zb l st n).1.1)<=24/\0<=(zb l st n).1.2/\(zb l st n).1.2<=1000:=by
 obtain⟨a,c⟩:=vU (by decide) (show PFine (zh (qp l (xT l st n).2).2 (decide (1000<(qp l (xT l st n).2).1)) 4 (xT l st n).2.tok.at_) from h);obtain⟨d,f,_⟩:=zbG (fu n b) a
 grind[vU,PFine,zh,qp,xT,zbG,fu,qA,zy,nJ,jJ,tE,nG,P.St,Tkd,zb,Hf]
theorem bI {st:P.St}(n:Ad)(a:Tkd l st):Tkd l (zb l st n).2:=jX _ _ _ (zdG (fu n a))
def VT0 (t:A Ab×Ak):Prop:=Hf t.1=true/\(Z t.1)<=24/\0<=t.2/\t.2<=1000
theorem dv {l:A Ab}:∀(d:Ad) (st:P.St) (c:A (A Ab×Ak)),Tkd l st->Tkd l (xG l d st c).2/\(PFine (xG l d st c).2->PFine st/\(Z c<=4->(∀m∈c,VT0 m)->Z (xG l d st c).1<=4/\∀m∈(xG l d st c).1,VT0 m))
 |0,st,c,ht=>⟨ht,fun h=>⟨h,fun a b=>⟨a,b⟩⟩⟩
 |d+1,st,c,ht=>by
  unfold xG
  by_cases f:qH st [44]=true
  ·rw[Az f]
   obtain⟨g,i⟩:=dv d (zb l (zS l st [44]) (Z c)).2 (c++[(zb l (zS l st [44]) (Z c)).1]) (bI _ (qt _ ht));refine⟨g,fun h=>?_⟩;obtain⟨j,k⟩:=i h;obtain⟨n,p,o⟩:=rz (qt _ ht) j;exact⟨j0 n,fun d1 d2=>k (by simp;omega) (fun m hm=>by rcases Ea.1 hm with hm|hm;exact d2 m hm;simp at hm;rw[hm];exact o)⟩
  ·rw[Aw f]
   exact⟨ht,fun h=>⟨h,fun a b=>⟨a,b⟩⟩⟩
theorem zgG {st:P.St}(a:Tkd l st):Tkd l (yA l st).2:=(dv _ _ _ (bI _ (qt _ a))).1
theorem zbH {st:P.St}(c:Tkd l st)(h:PFine (qS l st).2):PFine st/\(qS l st).1≠[]/\(Z (qS l st).1)<=4/\∀t∈(qS l st).1,VTg t:=by
 obtain⟨n,b⟩:=vU (by decide) (show PFine (zh (zS l (yA l st).2 [59]) (((yA l st).1.filter fun t=>!(t.2 == 0)).isEmpty) 4 st.tok.at_) from h);have o:=j0 n;obtain⟨d,f⟩:=(dv (Z l+1) _ [(zb l (zS l st kh) 0).1] (bI _ (qt _ c))).2 (show PFine (yA l st).2 from o);obtain⟨g,u,i⟩:=rz (qt _ c) d;obtain⟨j,k⟩:=f (by simp) (fun m hm=>by simp at hm;rw[hm];exact i);refine⟨j0 g,?_,?_,fun t htm=>?_⟩
 ·show((yA l st).1.filter fun t=>!(t.2 == 0))≠[]
  intro e;rw[e] at b;cases b
 ·show(Z ((yA l st).1.filter fun t=>!(t.2 == 0)))<=4
  exact Bi (List.length_filter_le _ _) j
 ·have a:t∈(yA l st).1.filter fun t=>!(t.2 == 0):=htm
  rw[List.mem_filter] at a;obtain⟨q,r,v,s⟩:=k t a.1;have p:t.2≠0:=by simpa using a.2
  exact⟨q,r,by omega,s⟩
theorem za5 {st:P.St}(a:Tkd l st):Tkd l (qS l st).2:=jX _ _ _ (qt _ (zgG a))
theorem rx {st:P.St}(b:Tkd l st)(h:PFine (qi l st a).2):PFine st/\Ft (qi l st a).1 false=true/\(Z (qi l st a).1)<=24/\(qi l st a).1 ∉ a:=by grind[vU,PFine,zh,qV,ry,zgV,P.St,Tkd,qi,Ft]
theorem bH {st:P.St}(a:A (A Ab))(b:Tkd l st):Tkd l (qi l st a).2:=jX _ _ _ (pG b)
theorem zlT {st:P.St}(b:Tkd l st)(h:PFine (xj l st n a).2):PFine st/\n<3/\VSt (xj l st n a).1/\(xj l st n a).1.1 ∉ a:=by
 have o:=j0 (show PFine (zS l (x6 l (jl l st n a).2).2 [59]) from h);have p:Tkd l (jl l st n a).2:=bH a (qt _ (jJ _ _ b));obtain⟨c,d,f⟩:=lQ p o;obtain⟨g,i,j,k⟩:=rx (qt _ (jJ _ _ b)) (show PFine (qi l (zS l (zy st n 3) xX) a).2 from c);obtain⟨m,q⟩:=tE (j0 g);exact⟨m,by omega,⟨i,j,d,f⟩,k⟩
theorem zlA {st:P.St}(n:Ad)(a:A (A Ab))(b:Tkd l st):Tkd l (xj l st n a).2:=qt _ (sd (bH a (qt _ (jJ _ _ b))))
theorem zkK {st:P.St}(j:Tkd l st)(h:PFine (xO l st n a).2):PFine st/\n<3/\VDp (xO l st n a).1/\(xO l st n a).1 ∉ a:=by
 have i:=j0 (show PFine (zS l (je l st n a).2 [59]) from h);obtain⟨b,c,d,f⟩:=rx (qt _ (jJ _ _ j)) (show PFine (qi l (zS l (zy st n 3) qy) a).2 from i);obtain⟨g,k⟩:=tE (j0 b);exact⟨g,by omega,⟨c,d⟩,f⟩
theorem zj6 {st:P.St}(n:Ad)(a:A (A Ab))(b:Tkd l st):Tkd l (xO l st n a).2:=qt _ (bH a (qt _ (jJ _ _ b)))
theorem cm {l:A α}{x:α}(h:l.Pairwise (·≠·))(a:x ∉ l):(l++[x]).Pairwise (·≠·):=by grind
theorem sZ {l:A Ab}:∀(f:Ad) (st:P.St) (d:A (A Ab×A Ab)),Tkd l st->Tkd l (qk l f st d).2/\(PFine (qk l f st d).2->PFine st/\(Z d<=3->(∀m∈d,VSt m)->(d.map Bq).Pairwise (·≠·)->
  (Z (qk l f st d).1)<=3/\(∀m∈(qk l f st d).1,VSt m)/\((qk l f st d).1.map Bq).Pairwise (·≠·)))
 |0,st,d,ht=>⟨ht,fun h=>⟨h,fun a b c=>⟨a,b,c⟩⟩⟩
 |f+1,st,d,ht=>by
  unfold qk
  by_cases g:qH st xX=true
  ·rw[Az g]
   obtain⟨i,j⟩:=sZ f (xj l st (Z d) (d.map Bq)).2 (d++[(xj l st (Z d) (d.map Bq)).1]) (zlA _ _ ht);refine⟨i,fun h=>?_⟩;obtain⟨k,n⟩:=j h;obtain⟨o,r,p,q⟩:=zlT ht k;exact⟨o,fun d1 d2 d3=>n (by simp;omega) (fun m hm=>by rcases Ea.1 hm with hm|hm;exact d2 m hm;simp at hm;rw[hm];exact p) (by rw[Ef];exact cm d3 q)⟩
  ·rw[Aw g]
   exact⟨ht,fun h=>⟨h,fun a b c=>⟨a,b,c⟩⟩⟩
theorem rQ {l:A Ab}(d:A (A Ab)):∀(g:Ad) (st:P.St) (f:A (A Ab)),Tkd l st->Tkd l (qf l d g st f).2/\(PFine (qf l d g st f).2->PFine st/\(Z f<=3->(∀m∈f,VDp m)->(d++f).Pairwise (·≠·)->
  (Z (qf l d g st f).1)<=3/\(∀m∈(qf l d g st f).1,VDp m)/\(d++(qf l d g st f).1).Pairwise (·≠·)))
 |0,st,f,ht=>⟨ht,fun h=>⟨h,fun a b c=>⟨a,b,c⟩⟩⟩
 |g+1,st,f,ht=>by
  unfold qf
  by_cases i:qH st qy=true
  ·rw[Az i]
   obtain⟨j,k⟩:=rQ d g (xO l st (Z f) (d++f)).2 (f++[(xO l st (Z f) (d++f)).1]) (zj6 _ _ ht);refine⟨j,fun h=>?_⟩;obtain⟨n,o⟩:=k h;obtain⟨p,s,q,r⟩:=zkK ht n;exact⟨p,fun d1 d2 d3=>o (by simp;omega) (fun m hm=>by rcases Ea.1 hm with hm|hm;exact d2 m hm;simp at hm;rw[hm];exact q) (by rw[<-Bl];exact cm d3 r)⟩
  ·rw[Aw i]
   exact⟨ht,fun h=>⟨h,fun a b c=>⟨a,b,c⟩⟩⟩
theorem zlS {st:P.St}{a:A Ak}(m:Tkd l st)(h:PFine (jS l st a).2):PFine st/\(Z a)<6/\0<=(jS l st a).1/\(jS l st a).1<=65535/\(jS l st a).1 ∉ a:=by
 have b:Tkd l (zS l (zy st (Z a) 6) qz):=qt _ (jJ _ _ m);unfold jS xp at h ⊢;obtain⟨c,d⟩:=vU (by decide) h;obtain⟨f,g⟩:=vU (by decide) c;obtain⟨i,j,_⟩:=zbG b f;obtain⟨k,n⟩:=tE (j0 i);exact⟨k,by omega,j,by simpa using g,zjW d⟩
theorem zl9 {st:P.St}(a:A Ak)(b:Tkd l st):Tkd l (jS l st a).2:=jX _ _ _ (jX _ _ _ (zdG (qt _ (jJ _ _ b))))
theorem zlW {st:P.St}(a:Tkd l st):Tkd l (yu l st).2/\(PFine (yu l st).2->PFine st/\((yu l st).1=[]\/(Hp (yu l st).1=true/\(Z (yu l st).1)<=24))):=by grind[yu,qH,qK,za4,zd6,P.St,Tkd,PFine,Hp]
theorem zl3 {st:P.St}(f:A Ak)(F:Tkd l st):Tkd l (xI l st f).2/\(PFine (xI l st f).2->PFine st/\(Z f)<6/\(xI l st f).1.number ∉ f/\VRl (xI l st f).1):=by
 generalize j:jS l st f=a;generalize k:vH l a.2=b;generalize v:qw l (Z l+1) b.2 []=m;generalize g:qS l m.2=t;generalize u:yu l t.2=c;generalize w:qk l (Z l+1) c.2 []=s;generalize E:qf l (s.1.map Bq) (Z l+1) s.2 []=d;have hR:xI l st f=(⟨a.1,b.1,m.1,t.1,c.1,s.1,d.1⟩,zS l d.2 [125]):=by
  unfold xI;rw[j];unfold ui;rw[k,v];unfold uh;rw[g];unfold jy;rw[u,w];unfold wi;rw[E]
 rw[hR];have n:=zl9 f F;have kb:Tkd l (vH l a.2).2:=by rw[j] at n;exact za4 _ (qt _ n)
 have i:=rq (Z l+1) (vH l a.2).2 [] kb;rw[k] at i;have kt:Tkd l (qS l m.2).2:=by rw[v] at i;exact za5 i.1
 have o:=zlW kt;rw[g] at o;have q:=sZ (Z l+1) (yu l t.2).2 [] o.1;rw[u] at q;have p:=rQ (s.1.map Bq) (Z l+1) (qk l (Z l+1) c.2 []).2 [] q.1;rw[w] at p;rw[E] at p;rw[w] at q;rw[u] at o;rw[v] at i;refine⟨qt _ p.1,fun h=>?_⟩;obtain⟨d1,d2⟩:=p.2 (j0 h);obtain⟨s1,s2⟩:=q.2 d1;obtain⟨s3,s4,s5⟩:=s2 (by simp) (by simp) (by simp);obtain⟨d3,d4,d5⟩:=d2 (by simp) (by simp) (by simpa using s5);obtain⟨c1,c2⟩:=o.2 s1;obtain⟨t1,N,Q,t4⟩:=zbH i.1 (by rw[g];exact c1);rw[g] at N Q t4;obtain⟨H,m2⟩:=i.2 t1;obtain⟨m3,m4⟩:=m2 (by simp) (by simp);rw[j] at n;obtain⟨b1,B,C⟩:=zd6 (qt [123] n) (show PFine (xi l (zS l a.2 [123]) jB).2 by rw[<-k] at H;exact H);have r:xi l (zS l a.2 [123]) jB=b:=k;rw[r] at B C;obtain⟨a1,a2,x,y,z⟩:=zlS F (show PFine (jS l st f).2 by rw[j];exact j0 b1);rw[j] at x y z;exact⟨a1,a2,z,⟨⟨x,y⟩,B,C,m3,m4,N,Q,t4,c2,s3,s4,d3,d4,d5⟩⟩
theorem sX {l:A Ab}:∀(f:Ad) (st:P.St) (d:A P.Rl),Tkd l st->Tkd l (xB l f st d).2/\(PFine (xB l f st d).2->PFine st/\(Z d<=6->(∀m∈d,VRl m)->(d.map P.Rl.number).Pairwise (·≠·)->
  (Z (xB l f st d).1)<=6/\(∀m∈(xB l f st d).1,VRl m)/\((xB l f st d).1.map P.Rl.number).Pairwise (·≠·)))
 |0,st,d,ht=>⟨ht,fun h=>⟨h,fun a b c=>⟨a,b,c⟩⟩⟩
 |f+1,st,d,ht=>by
  unfold xB
  by_cases g:qH st qz=true
  ·rw[Az g]
   obtain⟨s,t⟩:=zl3 (d.map P.Rl.number) ht;obtain⟨i,j⟩:=sX f (xI l st (d.map P.Rl.number)).2 (d++[(xI l st (d.map P.Rl.number)).1]) s;refine⟨i,fun h=>?_⟩;obtain⟨k,n⟩:=j h;obtain⟨o,p,q,r⟩:=t k;rw[Bv] at p;exact⟨o,fun d1 d2 d3=>n (by simp;omega) (fun m hm=>by rcases Ea.1 hm with hm|hm;exact d2 m hm;simp at hm;rw[hm];exact r) (by rw[Ef];exact cm d3 q)⟩
  ·rw[Aw g]
   exact⟨ht,fun h=>⟨h,fun a b c=>⟨a,b,c⟩⟩⟩
structure UHst (h:P.Hst):Prop where
 name:Hq h.name false=true
 nl:Z h.name<=24
 rl:Z h.rules<=6
 once:(h.rules.map P.Rl.number).Pairwise (·≠·)
 rules:∀r∈h.rules,VRl r
theorem zk4 {st:P.St}(a:A (A Ab))(b:Tkd l st):Tkd l (xP l st a).2/\(PFine (xP l st a).2->PFine st/\(Z a)<4/\(xP l st a).1.name ∉ a/\UHst (xP l st a).1):=by
 have q:Tkd l (kg l st a).2:=eW a (qt _ (jJ _ _ b));have c:=sX (Z l+1) (zS l (kg l st a).2 [123]) [] (qt _ q);refine⟨qt _ c.1,fun h=>?_⟩;obtain⟨d,f⟩:=c.2 (j0 (show PFine (zS l (xB l (Z l+1) (zS l (kg l st a).2 [123]) []).2 [125]) from h));obtain⟨g,i,j⟩:=f (by simp) (by simp) (by simp);obtain⟨k,m,n,o⟩:=lP (qt Hy (jJ (Z a) 4 b)) (show PFine (kg l st a).2 from j0 d);obtain⟨p,r⟩:=tE (j0 k);exact⟨p,by omega,o,m,n,g,j,i⟩
theorem rY {l:A Ab}:∀(f:Ad) (st:P.St) (d:A P.Hst),Tkd l st->Tkd l (qg l f st d).2/\(PFine (qg l f st d).2->PFine st/\(Z d<=4->(∀m∈d,UHst m)->(d.map P.Hst.name).Pairwise (·≠·)->
  (Z (qg l f st d).1)<=4/\(∀m∈(qg l f st d).1,UHst m)/\((qg l f st d).1.map P.Hst.name).Pairwise (·≠·)))
 |0,st,d,ht=>⟨ht,fun h=>⟨h,fun a b c=>⟨a,b,c⟩⟩⟩
 |f+1,st,d,ht=>by
  unfold qg
  by_cases g:qH st Hy=true
  ·rw[Az g]
   obtain⟨s,t⟩:=zk4 (d.map P.Hst.name) ht;obtain⟨i,j⟩:=rY f (xP l st (d.map P.Hst.name)).2 (d++[(xP l st (d.map P.Hst.name)).1]) s;refine⟨i,fun h=>?_⟩;obtain⟨k,n⟩:=j h;obtain⟨o,p,q,r⟩:=t k;rw[Bv] at p;exact⟨o,fun d1 d2 d3=>n (by simp;omega) (fun m hm=>by rcases Ea.1 hm with hm|hm;exact d2 m hm;simp at hm;rw[hm];exact r) (by rw[Ef];exact cm d3 q)⟩
  ·rw[Aw g]
   exact⟨ht,fun h=>⟨h,fun a b c=>⟨a,b,c⟩⟩⟩
theorem mB (l:A Ab)(a:(zp l).2.broken=false)(b:(zp l).2.err=0) :
  (Z (zp l).1)<=4/\(∀h∈(zp l).1,UHst h)/\((zp l).1.map P.Hst.name).Pairwise (·≠·):=by
 have k:=rY (Z l+1) (kW l) [] ⟨0,rfl⟩;have c:PFine (Go1 l).2:=(mA (show PFine (qR l (Go1 l).2 _) from⟨a,b⟩)).1;exact(k.2 c).2 (by simp) (by simp) (by simp)
def zM (s:A Ab):A Ab:=Cb (Z s)::s
def qc (n:Ak):A Ab:=[Cb (n.toNat % 256),Cb (n.toNat / 256)]
def zR (f:α->A Ab)(l:A α):A Ab:=Cb (Z l)::(l.map f).flatten
def K.mt (m:P.Mt):A Ab:=zM m.name++(if m.ask then 1::zM m.val else [0])
def K.tg (t:A Ab×Ak):A Ab:=zM t.1++qc t.2
def K.st (t:A Ab×A Ab):A Ab:=zM t.1++zM t.2
def f7 (r:A Ab):A Ab:=if r=[] then [0] else 1::zM r
def qN (r:P.Rl):A Ab:=qc r.number++(zM r.path++(zR K.mt r.ms++(zR K.tg r.tg++(f7 r.rep++(zR K.st r.sets++zR zM r.drops)))))
def qX (h:P.Hst):A Ab:=zM h.name++zR qN h.rules
def xM (hs:A P.Hst):A Ab:=[83,89,49]++zR qX hs
def vw (s:Ad):Ad:=if s % 2=1 then (s / 2) ^^^ 3988292384 else s / 2
def mF (s:Ad)(c:Ab):Ad:=vw (vw (vw (vw (vw (vw (vw (vw (s ^^^ c.toNat))))))))
def yg (l:A Ab):Ad:=4294967295-l.foldl mF 4294967295
def xF (n:Ad):A Ab:=[Cb (n % 256),Cb (n / 256 % 256),Cb (n / 65536 % 256),Cb (n / 16777216 % 256)]
def x4 (hs:A P.Hst):A Ab:=xM hs++xF (yg (xM hs))
def vG (n:Ad)(r:A Ab):A Ab×A Ab:=(r.take n++Hs (n-Z r) 0,r.drop n)
def qq (r:A Ab):Ad×A Ab:=((r.headD 0).toNat,r.drop 1)
def zu (r:A Ab):A Ab×A Ab:=vG (qq r).1 (qq r).2
def yo (r:A Ab):Ak×A Ab:=(((qq r).1+(qq (qq r).2).1*256:Ad),(qq (qq r).2).2)
def qW {α:Type}(f:A Ab->α×A Ab):Ad->A Ab->A α×A Ab
 |0,r=>([],r)
 |n+1,r=>((f r).1::(qW f n (f r).2).1,(qW f n (f r).2).2)
def zW (f:A Ab->α×A Ab)(r:A Ab):A α×A Ab:=qW f (qq r).1 (qq r).2
def qn (r:A Ab):(A Ab×Ee)×A Ab:=if (qq r).1=0 then (([],false),(qq r).2) else (((zu (qq r).2).1,true),(zu (qq r).2).2)
def U.mt (r:A Ab):P.Mt×A Ab:=(⟨(zu r).1,(qn (zu r).2).1.2,(qn (zu r).2).1.1⟩,(qn (zu r).2).2)
def U.tg (r:A Ab):(A Ab×Ak)×A Ab:=(((zu r).1,(yo (zu r).2).1),(yo (zu r).2).2)
def wO (r:A Ab):A Ab×A Ab:=((qn r).1.1,(qn r).2)
def U.st (r:A Ab):(A Ab×A Ab)×A Ab:=(((zu r).1,(zu (zu r).2).1),(zu (zu r).2).2)
def yF (r0:A Ab):P.Rl×A Ab:=
 (⟨(yo r0).1,(zu (yo r0).2).1,(zW U.mt (zu (yo r0).2).2).1,(zW U.tg (zW U.mt (zu (yo r0).2).2).2).1,(wO (zW U.tg (zW U.mt (zu (yo r0).2).2).2).2).1,
  (zW U.st (wO (zW U.tg (zW U.mt (zu (yo r0).2).2).2).2).2).1,(zW zu (zW U.st (wO (zW U.tg (zW U.mt (zu (yo r0).2).2).2).2).2).2).1⟩,
  (zW zu (zW U.st (wO (zW U.tg (zW U.mt (zu (yo r0).2).2).2).2).2).2).2)
def yY (r:A Ab):P.Hst×A Ab:=(⟨(zu r).1,(zW yF (zu r).2).1⟩,(zW yF (zu r).2).2)
def jM (b:A Ab):A P.Hst:=(zW yY (b.drop 3)).1
theorem u8n (n:Ad)(h:n<=255:=by omega):(Cb n).toNat=n:=by
 rw[Qc];omega
theorem vj (s r:A Ab)(h:Z s<=255):zu (zM s++r)=(s,r):=by
 have a:qq (zM s++r)=(Z s,s++r):=by
  unfold qq zM;show((Cb (Z s)).toNat,s++r)=_;rw[u8n _]
 unfold zu vG;rw[a];simp
theorem uS (n:Ad)(r:A Ab)(h:n<=255:=by omega):qq (Cb n::r)=(n,r):=by grind[qq,Cb,u8n]
theorem iM (n:Ak)(r:A Ab)(h:0<=n/\n<=65535):yo (qc n++r)=(n,r):=by grind[qq,qc,Cb,uS,yo]
theorem mh {α:Type}(f:A Ab->α×A Ab)(g:α->A Ab):∀(l:A α) (r:A Ab),(∀x∈l,∀r,f (g x++r)=(x,r))->qW f (Z l) ((l.map g).flatten++r)=(l,r)
 |[],r,_=>rfl
 |x::l,r,h=>by
  have e:((x::l).map g).flatten++r=g x++((l.map g).flatten++r):=by simp
  rw[e,Bb];unfold qW;rw[h x (by simp),mh f g l r (fun y hy=>h y (by simp[hy]))]
theorem jz (f:A Ab->α×A Ab)(g:α->A Ab)(l:A α)(r:A Ab)(a:Z l<=255)(h:∀x∈l,∀r,f (g x++r)=(x,r)):zW f (zR g l++r)=(l,r):=by grind[zW,qq,zR,uS,mh]
theorem zjS (m:P.Mt)(f:VMt m)(r:A Ab):U.mt (K.mt m++r)=(m,r):=by
 obtain⟨b,g,a⟩:=m;have h:zu (K.mt ⟨b,g,a⟩++r)=(b,(if g then 1::zM a else [0])++r):=by
  unfold K.mt;rw[Bl];exact vj _ _ (by have d:Z b<=24:=f.nl;show (Z b)<=255;omega)
 unfold U.mt;rw[h]
 cases g with
 |true=>
  have c:qn (1::zM a++r)=((a,true),r):=by
   unfold qn;have:qq (1::zM a++r)=(1,zM a++r):=uS 1 _;rw[this,Aw (by simp),vj _ _ (by have d:Z a<=24:=f.vl;omega)]
  simp only[Gq];rw[c]
 |false=>
  have c:qn ([0]++r)=(([],false),r):=by
   unfold qn;have:qq ([0]++r)=(0,r):=uS 0 _;rw[this,Az rfl]
  have i:a=[]:=f.no rfl;simp only[Ct,Gj];rw[c,i]
theorem zjU (t:A Ab×Ak)(a:VTg t)(r:A Ab):U.tg (K.tg t++r)=(t,r):=by grind[zu,K.tg,qc,List.append_assoc,vj,U.tg,iM,VTg]
theorem zjT (t:A Ab×A Ab)(a:VSt t)(r:A Ab):U.st (K.st t++r)=(t,r):=by grind[zu,K.st,zM,List.append_assoc,vj,U.st,VSt]
theorem zgT (s r:A Ab)(h:Z s<=24):wO (f7 s++r)=(s,r):=by
 unfold wO f7
 by_cases b:s=[]
 ·rw[Az b,b]
  have a:qn ([0]++r)=(([],false),r):=by
   unfold qn;have:qq ([0]++r)=(0,r):=uS 0 _;rw[this,Az rfl]
  rw[a]
 ·rw[Aw b]
  have a:qn (1::zM s++r)=((s,true),r):=by
   unfold qn;have:qq (1::zM s++r)=(1,zM s++r):=uS 1 _;rw[this,Aw (by simp),vj _ _ (by omega)]
  rw[a]
abbrev Go0 (a b c d e f):=zR K.mt a++(zR K.tg b++(f7 c++(zR K.st d++(zR zM e++f))))
theorem zdX (x:P.Rl)(a:VRl x)(r:A Ab):yF (qN x++r)=(x,r):=by
 have b:Z x.rep<=24:=by rcases a.rep with h|h;rw[h];simp;exact h.2
 have e:qN x++r=qc x.number++(zM x.path++(Go0 x.ms x.tg x.rep x.sets x.drops r)):=by
  unfold qN;simp only[Bl]
 unfold yF;rw[e,iM _ _ a.num];simp only;rw[vj _ _ (by have:=a.pl;omega)];simp only;rw[jz U.mt K.mt x.ms _ (by have:=a.ml;omega) (fun m hm r=>zjS m (a.ms m hm) r)];simp only;rw[jz U.tg K.tg x.tg _ (by have:=a.tl;omega) (fun m hm r=>zjU m (a.tg m hm) r)];simp only;rw[zgT _ _ b];simp only;rw[jz U.st K.st x.sets _ (by have:=a.sl;omega) (fun m hm r=>zjT m (a.sets m hm) r)];simp only;rw[jz zu zM x.drops _ (by have:=a.dl;omega) (fun m hm r=>vj m r (by have:=(a.drops m hm).nl;omega))]
theorem zdW (x:P.Hst)(a:VHst x)(r:A Ab):yY (qX x++r)=(x,r):=by grind[zu,qX,zR,qN,List.append_assoc,vj,yY,jz,yF,zdX,P.Hst,VHst]
theorem mf (a:A P.Hst)(b:VHs a):jM (x4 a)=a:=by grind[x4,zR,qX,xF,yg,xM,jM,jz,yY,zdW,P.Hst,VHs]
structure T.St where
 rest:A Ab
 bad:Ee
def xD (s:T.St):Ad×T.St:=match s.rest with|[]=>(0,⟨[],true⟩)|c::r=>(c.toNat,⟨r,s.bad⟩)
def zr (most:Ad)(s:T.St):Ad×T.St:=if most<(xD s).1 then (0,⟨(xD s).2.rest,true⟩) else xD s
def zj (s:T.St):A Ab×T.St:=
 if (Z (zr 24 s).2.rest)<(zr 24 s).1 then ([],⟨(zr 24 s).2.rest,true⟩) else ((zr 24 s).2.rest.take (zr 24 s).1,⟨(zr 24 s).2.rest.drop (zr 24 s).1,(zr 24 s).2.bad⟩)
def xa (s:T.St):Ak×T.St:=(((xD s).1+256*(xD (xD s).2).1:Ad),(xD (xD s).2).2)
def qP (s:T.St)(ok:Ee):T.St:=if ok then s else ⟨s.rest,true⟩
def wH (s:T.St):A Ab×T.St:=((zj s).1,qP (zj s).2 (Ft (zj s).1 false))
def ki (s:T.St):A Ab×T.St:=((zj s).1,qP (zj s).2 (Gz (zj s).1))
def T.mt (s:T.St):R.Mt×T.St:=
 if (zr 1 (wH s).2).1=1 then (⟨(wH s).1,(ki (zr 1 (wH s).2).2).1,true⟩,(ki (zr 1 (wH s).2).2).2)
 else (⟨(wH s).1,[],false⟩,(zr 1 (wH s).2).2)
def qU {α:Type}(f:T.St->α×T.St):Ad->T.St->A α×T.St
 |0,s=>([],s)
 |n+1,s=>((f s).1::(qU f n (f s).2).1,(qU f n (f s).2).2)
def jU (s:T.St):A R.Mt×T.St:=qU T.mt (zr 3 s).1 (zr 3 s).2
def T.tg (s:T.St):(A Ab×Ak)×T.St:=
 (((zj s).1,(xa (zj s).2).1),qP (xa (zj s).2).2 (Hf (zj s).1 && (decide (0<(xa (zj s).2).1) && decide ((xa (zj s).2).1<=1000))))
def jL (s:T.St):A (A Ab×Ak)×T.St:=qU T.tg (zr 4 s).1 (qP (zr 4 s).2 (decide (0<(zr 4 s).1)))
def T.st (s:T.St):(A Ab×A Ab)×T.St:=(((zj s).1,(ki (zj s).2).1),(ki (zj s).2).2)
def vE (s:T.St):A (A Ab×A Ab)×T.St:=qU T.st (zr 3 s).1 (zr 3 s).2
def uQ (s:T.St):A (A Ab)×T.St:=qU zj (zr 3 s).1 (zr 3 s).2
def jf:A (A Ab)->A (A Ab)->T.St->T.St
 |_,[],s=>s
 |am,x::r,s=>jf (am++[x]) r (am.foldl (fun s a=>qP s (decide (x≠a))) (qP s (Ft x false)))
def xE (s:T.St):(A (A Ab×A Ab)×A (A Ab))×T.St:=
 (((vE s).1,(uQ (vE s).2).1),jf [] ((vE s).1.map Bq++(uQ (vE s).2).1) (uQ (vE s).2).2)
def yv (s:T.St):A Ab×T.St:=((zj s).1,qP (zj s).2 (Hp (zj s).1))
def T.to (s:T.St):(Ee×A Ab)×T.St:=
 if (zr 1 s).1=1 then ((true,(yv (zr 1 s).2).1),(yv (zr 1 s).2).2) else ((false,[]),(zr 1 s).2)
def jE (s : T.St) : Gn × T.St :=
  (⟨(xa s).1, (yv (xa s).2).1, (jU (yv (xa s).2).2).1, (jL (jU (yv (xa s).2).2).2).1, (T.to (jL (jU (yv (xa s).2).2).2).2).1.1, (T.to (jL (jU (yv (xa s).2).2).2).2).1.2,
     (xE (T.to (jL (jU (yv (xa s).2).2).2).2).2).1.1, (xE (T.to (jL (jU (yv (xa s).2).2).2).2).2).1.2⟩,
   (xE (T.to (jL (jU (yv (xa s).2).2).2).2).2).2)
def yE:Ad->A Gn->T.St->A Gn×T.St
 |0,acc,s=>(acc,s)
 |n+1,acc,s=>if s.bad then (acc,s) else
  yE n (acc++[(jE s).1]) (qP (jE s).2 (match acc.getLast? with|none=>true|some x=>decide (x.number<(jE s).1.number)))
def yB (s:T.St)(acc:A Fp):A Ab×T.St:=
 ((zj s).1,qP (qP (zj s).2 (Hq (zj s).1 false)) (match acc.getLast? with|none=>true|some x=>qd x.name (zj s).1))
def yj:Ad->A Fp->T.St->A Fp×T.St
 |0,acc,s=>(acc,s)
 |n+1,acc,s=>if s.bad then (acc,s) else
  yj n (acc++[⟨(yB s acc).1,(yE (zr 6 (yB s acc).2).1 [] (zr 6 (yB s acc).2).2).1⟩]) (yE (zr 6 (yB s acc).2).1 [] (zr 6 (yB s acc).2).2).2
def wG (s:T.St):T.St:=
 qP (xD (xD (xD s).2).2).2 (decide ((xD s).1=83) && (decide ((xD (xD s).2).1=89) && decide ((xD (xD (xD s).2).2).1=49)))
def tL (b:A Ab):A Fp×T.St:=yj (zr 4 (wG ⟨b,false⟩)).1 [] (zr 4 (wG ⟨b,false⟩)).2
theorem iI (n:Ad)(r:A Ab)(h:n<=255):xD ⟨Cb n::r,false⟩=(n,⟨r,false⟩):=by grind[xD,u8n]
theorem jo (n m:Ad)(r:A Ab)(h:n<=m:=by omega)(a:m<=255:=by omega):zr m ⟨Cb n::r,false⟩=(n,⟨r,false⟩):=by grind[zr,iI]
theorem vi (s r:A Ab)(h:Z s<=24):zj ⟨zM s++r,false⟩=(s,⟨r,false⟩):=by grind[zr,zM,jo,zj]
theorem iJ (n:Ak)(r:A Ab)(h:0<=n/\n<=65535):xa ⟨qc n++r,false⟩=(n,⟨r,false⟩):=by grind[xD,qc,Cb,iI,xa]
theorem yx (s:T.St)(b:Ee)(h:b=true):qP s b=s:=by rw[h];rfl
theorem wK {α β:Type}(f:T.St->β×T.St)(g:α->A Ab)(c:α->β):∀(l:A α) (r:A Ab),(∀x∈l,∀r,f ⟨g x++r,false⟩=(c x,⟨r,false⟩))->qU f (Z l) ⟨(l.map g).flatten++r,false⟩=(l.map c,⟨r,false⟩)
 |[],r,_=>rfl
 |x::l,r,h=>by
  have e:((x::l).map g).flatten++r=g x++((l.map g).flatten++r):=by simp
  rw[e,Bb];unfold qU;rw[h x (by simp),wK f g c l r (fun y hy=>h y (by simp[hy]))]
  rfl
theorem zjL (m:P.Mt)(b:VMt m)(r:A Ab):T.mt ⟨K.mt m++r,false⟩=(mtOf m,⟨r,false⟩):=by
 obtain⟨d,c,a⟩:=m;have k:=b.name;have g:Gz a=true:=b.val;have h:zj ⟨K.mt ⟨d,c,a⟩++r,false⟩=(d,⟨(if c then 1::zM a else [0])++r,false⟩):=by
  unfold K.mt;rw[Bl];exact vi _ _ b.nl
 have j:wH ⟨K.mt ⟨d,c,a⟩++r,false⟩=(d,⟨(if c then 1::zM a else [0])++r,false⟩):=by
  unfold wH;rw[h,yx _ _ k]
 unfold T.mt;rw[j]
 cases c with
 |true=>
  have f:zr 1 ⟨1::zM a++r,false⟩=(1,⟨zM a++r,false⟩):=jo 1 1 _;have i:ki ⟨zM a++r,false⟩=(a,⟨r,false⟩):=by unfold ki;rw[vi _ _ b.vl,yx _ _ g]
  simp only[Gq];rw[f];simp only[Gq];rw[i];rfl
 |false=>
  have f:zr 1 ⟨[0]++r,false⟩=(0,⟨r,false⟩):=jo 0 1 _;have g:a=[]:=b.no rfl;simp only[Ct,Gj];rw[f,Aw (by simp),g];rfl
theorem zjR (t:A Ab×Ak)(a:VTg t)(r:A Ab):T.tg ⟨K.tg t++r,false⟩=(t,⟨r,false⟩):=by grind[zj,K.tg,qc,List.append_assoc,vi,T.tg,iJ,yx,VTg]
theorem zjQ (t:A Ab×A Ab)(a:VSt t)(r:A Ab):T.st ⟨K.st t++r,false⟩=(t,⟨r,false⟩):=by grind[zj,K.st,zM,List.append_assoc,vi,T.st,ki,yx,VSt]
theorem mW:∀(r c:A (A Ab)) (s:T.St),(∀x∈r,Ft x false=true)->(c++r).Pairwise (·≠·)->jf c r s=s
 |[],c,s,_,_=>rfl
 |x::r,c,s,hh,hp=>by
  have d:∀(l:A (A Ab)),(∀a∈l,x≠a)->l.foldl (fun s a=>qP s (decide (x≠a))) s=s:=fun l=>by
   induction l with
   |nil=>intro _;rfl
   |cons a l ih=>intro h;rw[Nu,yx _ _ (by simpa using h a (by simp))];exact ih (fun b hb=>h b (by simp[hb]))
  unfold jf;rw[yx s _ (hh x (by simp)),d c (fun a ha e=>by rw[Fx] at hp;exact hp.2.2 a ha x (by simp) e.symm)];exact mW r (c++[x]) s (fun y hy=>hh y (by simp[hy])) (by simpa using hp)
theorem zdV (x:P.Rl)(f:VRl x)(r:A Ab):jE ⟨qN x++r,false⟩=(toRl x,⟨r,false⟩):=by
 have e:qN x++r=qc x.number++(zM x.path++(Go0 x.ms x.tg x.rep x.sets x.drops r)):=by
  unfold qN;simp only[Bl]
 have j:xa ⟨qN x++r,false⟩=(x.number,⟨zM x.path++(Go0 x.ms x.tg x.rep x.sets x.drops r),false⟩):=by rw[e];exact iJ _ _ f.num
 have k:∀q,yv ⟨zM x.path++q,false⟩=(x.path,⟨q,false⟩):=fun q=>by unfold yv;rw[vi _ _ f.pl,yx _ _ f.path]
 have l:∀q,jU ⟨zR K.mt x.ms++q,false⟩=(x.ms.map mtOf,⟨q,false⟩):=fun q=>by
  have a:zr 3 ⟨zR K.mt x.ms++q,false⟩=(Z x.ms,⟨(x.ms.map K.mt).flatten++q,false⟩):=jo _ _ _ f.ml;unfold jU;rw[a];exact wK T.mt K.mt mtOf x.ms q (fun m hm r=>zjL m (f.ms m hm) r)
 have n:∀q,jL ⟨zR K.tg x.tg++q,false⟩=(x.tg,⟨q,false⟩):=fun q=>by
  have a:zr 4 ⟨zR K.tg x.tg++q,false⟩=(Z x.tg,⟨(x.tg.map K.tg).flatten++q,false⟩):=jo _ _ _ f.tl;have g:=Ox.2 f.t0;unfold jL;rw[a];simp only;rw[yx _ _ (by simpa using g)];have:=wK T.tg K.tg id x.tg q (fun m hm r=>zjR m (f.tg m hm) r);rw[List.map_id] at this;exact this
 have o:∀q,T.to ⟨f7 x.rep++q,false⟩=((decide (x.rep≠[]),x.rep),⟨q,false⟩):=fun q=>by
  unfold T.to f7
  by_cases h:x.rep=[]
  ·rw[Az h]
   have a:zr 1 ⟨[0]++q,false⟩=(0,⟨q,false⟩):=jo 0 1 _;rw[a,Aw (by simp),h];rfl
  ·rw[Aw h]
   have a:zr 1 ⟨1::zM x.rep++q,false⟩=(1,⟨zM x.rep++q,false⟩):=jo 1 1 _;have i:=f.rep.resolve_left h;rw[a,Az rfl];unfold yv;simp only;rw[vi _ _ i.2];simp only;rw[yx _ _ i.1];simp[h]
 have p:∀q,xE ⟨zR K.st x.sets++(zR zM x.drops++q),false⟩=((x.sets,x.drops),⟨q,false⟩):=fun q=>by
  have a:zr 3 ⟨zR K.st x.sets++(zR zM x.drops++q),false⟩=(Z x.sets,⟨(x.sets.map K.st).flatten++(zR zM x.drops++q),false⟩):=jo _ _ _ f.sl;have b:vE ⟨zR K.st x.sets++(zR zM x.drops++q),false⟩=(x.sets,⟨zR zM x.drops++q,false⟩):=by
   unfold vE;rw[a];have:=wK T.st K.st id x.sets (zR zM x.drops++q) (fun m hm r=>zjQ m (f.sets m hm) r);rw[List.map_id] at this;exact this
  have c:zr 3 ⟨zR zM x.drops++q,false⟩=(Z x.drops,⟨(x.drops.map zM).flatten++q,false⟩):=jo _ _ _ f.dl;have d:uQ ⟨zR zM x.drops++q,false⟩=(x.drops,⟨q,false⟩):=by
   unfold uQ;rw[c];have:=wK zj zM id x.drops q (fun m hm r=>vi m r (f.drops m hm).nl);rw[List.map_id] at this;exact this
  unfold xE;rw[b];simp only;rw[d];simp only;rw[mW _ [] _ (fun y hy=>by
   rcases Ea.1 hy with hy|hy
   ·obtain⟨z,s,rfl⟩:=Hr.1 hy;exact(f.sets z s).name
   ·exact(f.drops y hy).name) (by rw[Hc];exact f.once)]
 unfold jE;rw[j];simp only;rw[k];simp only;rw[l];simp only;rw[n];simp only;rw[o];simp only;rw[p]
 rfl
theorem me:∀(b:A P.Rl) (a:A P.Rl) (r:A Ab),(∀x∈b,VRl x)->((a++b).map P.Rl.number).Pairwise (·<·)->yE (Z b) (a.map toRl) ⟨(b.map qN).flatten++r,false⟩=((a++b).map toRl,⟨r,false⟩)
 |[],a,r,_,_=>by simp[yE]
 |x::b,a,r,hv,hp=>by
  have e:((x::b).map qN).flatten++r=qN x++((b.map qN).flatten++r):=by simp
  rw[e,Bb];unfold yE;rw[Aw (by simp),zdV x (hv x (by simp))];simp only;have d:(match (a.map toRl).getLast? with|none=>true|some y=>decide (y.number<(toRl x).number))=true:=by
   cases hl:(a.map toRl).getLast? with
   |none=>rfl
   |some y=>
    have c:=List.mem_of_getLast? hl;obtain⟨z,f,rfl⟩:=Hr.1 c;rw[Ef,Fx] at hp;have:=hp.2.2 z.number (Hh f) x.number (by simp);show decide (z.number<x.number)=true
    simpa using this
  rw[yx _ _ d];have:=me b (a++[x]) r (fun y c=>hv y (by simp[c])) (by simpa using hp);rw[Ef] at this
  simpa using this
theorem mX:∀(d:A P.Hst) (c:A P.Hst) (r:A Ab),(∀x∈d,VHst x)->((c++d).map P.Hst.name).Pairwise (fun a b=>qd a b=true)->yj (Z d) (c.map toR) ⟨(d.map qX).flatten++r,false⟩=((c++d).map toR,⟨r,false⟩)
 |[],c,r,_,_=>by simp[yj]
 |x::d,c,r,hv,hp=>by
  have f:=hv x (by simp);have e:((x::d).map qX).flatten++r=zM x.name++(zR qN x.rules++((d.map qX).flatten++r)):=by unfold qX;simp
  rw[e,Bb];unfold yj;have k:(match (c.map toR).getLast? with|none=>true|some y=>qd y.name x.name)=true:=by
   cases hl:(c.map toR).getLast? with
   |none=>rfl
   |some y=>
    have g:=List.mem_of_getLast? hl;obtain⟨z,l,rfl⟩:=Hr.1 g;rw[Ef,Fx] at hp;exact hp.2.2 z.name (Hh l) x.name (by simp)
  have i:yB ⟨zM x.name++(zR qN x.rules++((d.map qX).flatten++r)),false⟩ (c.map toR)=(x.name,⟨zR qN x.rules++((d.map qX).flatten++r),false⟩):=by
   unfold yB;rw[vi _ _ f.nl];simp only;rw[yx _ _ f.name,yx _ _ k]
  have j:zr 6 ⟨zR qN x.rules++((d.map qX).flatten++r),false⟩=(Z x.rules,⟨(x.rules.map qN).flatten++((d.map qX).flatten++r),false⟩):=jo _ _ _ f.rl;have h:=me x.rules [] ((d.map qX).flatten++r) f.rules (by rw[Hc];exact f.ord);rw[Fa,Hc] at h;rw[Aw (by simp),i];simp only;rw[j];simp only;rw[h];simp only;have:=mX d (c++[x]) r (fun y g=>hv y (by simp[g])) (by simpa using hp);rw[Ef] at this
  simpa[toR] using this
theorem mV (b:A P.Hst)(d:VHs b):(tL (x4 b)).1=b.map toR/\(tL (x4 b)).2.bad=false:=by
 have h:wG ⟨x4 b,false⟩=⟨zR qX b++xF (yg (xM b)),false⟩:=by
  have e:x4 b=83::89::49::(zR qX b++xF (yg (xM b))):=by unfold x4 xM;simp
  rw[e];unfold wG;have a:∀(c:Ab) q,xD ⟨c::q,false⟩=(c.toNat,⟨q,false⟩):=fun c q=>rfl
  rw[a,a,a];rfl
 have g:zr 4 ⟨zR qX b++xF (yg (xM b)),false⟩=(Z b,⟨(b.map qX).flatten++xF (yg (xM b)),false⟩):=jo _ _ _ d.hl;have f:=mX b [] (xF (yg (xM b))) d.hosts (by rw[Hc];exact d.ord);rw[Fa,Hc] at f;unfold tL;rw[h,g];simp only;rw[f];exact⟨rfl,rfl⟩
theorem zbE {a:A Ab}(c:Iy b a=false)(d:a≠b):qd a b=true:=by grind[yc,pE,qd]
theorem zbD {a:A Ab}(h:qd a b=true):Iy b a=false:=by
 rw[yc] at h;exact Go.Sort.SWO.asymmA Go.Sort.swo_ltStr h
theorem ziE {R b_0:α->α->Prop}{l:A α}(c:l.Pairwise R)(d:l.Pairwise b_0):l.Pairwise (fun a b=>R a b/\b_0 a b):=by
 induction l <;> simp_all
theorem dt {g:A P.Hst}(h:SrtH g c)(w:Z g<=4)(z:∀x∈g,UHst x)(t:(g.map P.Hst.name).Pairwise (·≠·)):VHs c:=by
 obtain⟨p,i,s,l,m⟩:=h;have y:c.map P.Hst.name=p.map P.Hst.name:=by
  apply Xj
  ·simp[l]
  ·intro j o q
   simp only[Ha];exact(m j (by simpa using q) (by simpa using o)).1
 have d:(p.map P.Hst.name).Pairwise (·≠·):=(i.map P.Hst.name).symm.pairwise t (fun e=>fun e'=>e e'.symm);refine⟨by rw[l,i.length_eq];exact w,?_,fun x hx=>?_⟩
 ·rw[y,Ma]
  rw[Ma] at d;exact(ziE s d).imp fun⟨a,b⟩=>zbE a b
 ·obtain⟨j,v,rfl⟩:=List.getElem_of_mem hx
  obtain⟨n,k,B⟩:=m j (by omega) v;have u:=z _ (i.mem_iff.1 (Cr (by omega:j<Z p)));have f:(c[j].rules.map P.Rl.number).Pairwise (·≠·):=(k.map P.Rl.number).symm.pairwise u.once (fun e=>fun e'=>e e'.symm);refine⟨by rw[n];exact u.name,by rw[n];exact u.nl,by rw[k.length_eq];exact u.rl,?_,fun r hr=>u.rules r (k.mem_iff.1 hr)⟩;rw[Ma] at f ⊢;refine(ziE B f).imp fun⟨a,b⟩=>?_
  unfold Mw at a;simp at a;omega
theorem zc7 {a b:A P.Rl}(g:b.Perm a)(i:b.Pairwise (fun x y=>Mw y.number x.number=false))(c:(a.map P.Rl.number).Pairwise (·<·)):b=a:=by
 refine Sd (le:=fun x y=>Mw y.number x.number=false) ?_ i ?_ g
 ·intro x y j k d f
  have e:x.number=y.number:=by unfold Mw at d f;simp at d f;omega
  exact vQ a (c.imp fun h=>by omega) (g.mem_iff.1 j) k e
 ·rw[Ma] at c
  exact c.imp fun h=>by unfold Mw;simp;omega
theorem ziV {d:A P.Hst}(k:VHs d)(h:SrtH d c):c=d:=by
 obtain⟨p,l,n,o,q⟩:=h;have i:p=d:=by
  refine Sd (le:=fun x y=>Iy y.name x.name=false) ?_ n ?_ l
  ·intro x y r s g f
   have e:x.name=y.name:=pE _ _ f g;refine vQ d (k.ord.imp fun {a b} h e=>?_) (l.mem_iff.1 r) s e;subst e;rw[tO] at h;cases h
  ·have:=k.ord
   rw[Ma] at this;exact this.imp fun h=>zbD h
 subst i
 apply Xj
 ·exact o
 ·intro j g f
  obtain⟨m,t,u⟩:=q j f g;have v:=k.hosts p[j] (Cr f);have e:=zc7 t u v.ord;generalize c[j]=a at*;generalize p[j]=b at*;obtain⟨w,z⟩:=a;obtain⟨B,C⟩:=b;simp only at m e;rw[m,e]
theorem iF {s:T.St}(h:(xD s).2.bad=false):s.bad=false/\(xD s).1<=255:=by
 unfold xD at h ⊢
 cases hr:s.rest with
 |nil=>rw[hr] at h;cases h
 |cons c r=>rw[hr] at h;exact⟨h,by have:=c.toNat_lt;simp only;omega⟩
theorem vI {m:Ad}{s:T.St}(h:(zr m s).2.bad=false):s.bad=false/\(zr m s).1<=m:=by grind[zr,iF,T.St]
theorem kI {s:T.St}(h:(zj s).2.bad=false):s.bad=false/\(Z (zj s).1)<=24:=by grind[zj,vI,List.length_take,T.St]
theorem iH {s:T.St}(h:(xa s).2.bad=false):s.bad=false/\0<=(xa s).1/\(xa s).1<=65535:=by grind[iF,xD,T.St,xa]
theorem yy {s:T.St}{b:Ee}(h:(qP s b).bad=false):s.bad=false/\b=true:=by grind[T.St,qP]
theorem wJ {α:Type}(f:T.St->α×T.St)(b_0:α->Prop)(g:∀s,(f s).2.bad=false->s.bad=false/\b_0 (f s).1):∀(n:Ad) (s:T.St),(qU f n s).2.bad=false->s.bad=false/\(Z (qU f n s).1)=n/\∀x∈(qU f n s).1,b_0 x
 |0,s,h=>⟨h,rfl,fun x hx=>by cases hx⟩
 |n+1,s,h=>by
  obtain⟨a,b,c⟩:=wJ f b_0 g n (f s).2 (show(qU f n (f s).2).2.bad=false from h);obtain⟨d,e⟩:=g s a;refine⟨d,by show(Z (_::_))=_;rw[Bb,b],fun x hx=>?_⟩;rcases En.1 hx with rfl|hx
  ·exact e
  ·exact c x hx
theorem iE {s:T.St}(h:(ki s).2.bad=false):s.bad=false/\Gz (ki s).1=true/\(Z (ki s).1)<=24:=by grind[yy,qP,zj,Gz,kI,T.St,ki]
theorem zjM (s:T.St)(h:(T.mt s).2.bad=false):s.bad=false/\∃m,VMt m/\(T.mt s).1=mtOf m:=by
 have g:∀(hh:(wH s).2.bad=false),s.bad=false/\Ft (wH s).1 false=true/\(Z (wH s).1)<=24:=fun hh=>by
  obtain⟨a,b⟩:=yy (show(qP (zj s).2 (Ft (zj s).1 false)).bad=false from hh);obtain⟨c,d⟩:=kI a;exact⟨c,b,d⟩
 unfold T.mt at h ⊢
 by_cases i:(zr 1 (wH s).2).1=1
 ·rw[Az i] at h ⊢
  obtain⟨a,b,c⟩:=iE h;obtain⟨d,e,f⟩:=g (vI a).1;generalize(ki (zr 1 (wH s).2).2).1=vl at*;generalize(wH s).1=nm at*;refine⟨d,⟨nm,true,vl⟩,?_,rfl⟩;exact { name:=e,nl:=f,val:=b,vl:=c,no:=fun h=>by cases h }
 ·rw[Aw i] at h ⊢
  obtain⟨d,e,f⟩:=g (vI h).1;generalize(wH s).1=nm at*;refine⟨d,⟨nm,false,[]⟩,?_,rfl⟩;exact { name:=e,nl:=f,val:=rfl,vl:=Ax _,no:=fun _=>rfl }
theorem sD {α β:Type}(c:α->β)(b_0:α->Prop):∀(l:A β),(∀x∈l,∃a,b_0 a/\x=c a)->∃d:A α,l=d.map c/\∀a∈d,b_0 a
 |[],_=>⟨[],rfl,fun a h=>by cases h⟩
 |x::l,h=>by
  obtain⟨d,e,g⟩:=sD c b_0 l (fun y hy=>h y (by simp[hy]));obtain⟨a,i,f⟩:=h x (by simp);exact⟨a::d,by rw[e,f];rfl,fun b hb=>by rcases En.1 hb with rfl|hb;exact i;exact g b hb⟩
theorem zgR {s:T.St}(h:(jU s).2.bad=false):s.bad=false/\∃f:A P.Mt,(jU s).1=f.map mtOf/\(Z f)<=3/\∀m∈f,VMt m:=by
 obtain⟨a,b,c⟩:=wJ T.mt (fun x=>∃m,VMt m/\x=mtOf m) zjM _ _ h;obtain⟨d,e⟩:=vI a;obtain⟨f,g,j⟩:=sD mtOf VMt _ c;refine⟨d,f,g,?_,j⟩;have i:=congrArg Z g;rw[Bv] at i;rw[<-i,b];exact e
theorem zjO (s:T.St)(h:(T.tg s).2.bad=false):s.bad=false/\VTg (T.tg s).1:=by
 obtain⟨a,b⟩:=yy (show(qP (xa (zj s).2).2 _).bad=false from h);obtain⟨c,_⟩:=iH a;obtain⟨d,e⟩:=kI c;simp only[Ez,Gd] at b;exact⟨d,b.1,e,by have:=b.2.1;show 1<=(xa (zj s).2).1;omega,b.2.2⟩
theorem zgS {s:T.St}(h:(jL s).2.bad=false):s.bad=false/\(jL s).1≠[]/\(Z (jL s).1)<=4/\∀t∈(jL s).1,VTg t:=by
 obtain⟨a,b,c⟩:=wJ T.tg VTg zjO _ _ h;obtain⟨d,e⟩:=yy a;obtain⟨f,g⟩:=vI d;have i:Z (jL s).1=(zr 4 s).1:=b;refine⟨f,fun e2=>?_,by rw[i];exact g,c⟩;rw[e2] at i;simp at e i;omega
theorem zjN (s:T.St)(h:(T.st s).2.bad=false):s.bad=false/\(Z (T.st s).1.1)<=24/\Gz (T.st s).1.2=true/\(Z (T.st s).1.2)<=24:=by grind[iE,ki,zj,kI,T.St,T.st,Gz]
theorem mZ:∀(r b:A (A Ab)) (s:T.St),(jf b r s).bad=false->b.Pairwise (·≠·)->s.bad=false/\(∀x∈r,Ft x false=true)/\(b++r).Pairwise (·≠·)
 |[],b,s,h,hp=>⟨h,(fun x hx=>by cases hx),by rw[Cv];exact hp⟩
 |x::r,b,s,h,hp=>by
  have f:∀(l:A (A Ab)) (s:T.St),(l.foldl (fun s a=>qP s (decide (x≠a))) s).bad=false->s.bad=false/\x ∉ l:=fun l=>by
   induction l with
   |nil=>intro s h;exact⟨h,by simp⟩
   |cons a l ih=>
    intro s h;rw[Nu] at h;obtain⟨g,i⟩:=ih _ h;obtain⟨j,k⟩:=yy g;exact⟨j,by simp only[En,not_or];exact⟨by simpa using k,i⟩⟩
  unfold jf at h;have z:(b.foldl (fun s a=>qP s (decide (x≠a))) (qP s (Ft x false))).bad=false->s.bad=false/\Ft x false=true/\x ∉ b:=fun hh=>by
   obtain⟨m,n⟩:=f b _ hh;obtain⟨o,p⟩:=yy m;exact⟨o,p,n⟩
  have d:∀(r b:A (A Ab)) (s:T.St),(jf b r s).bad=false->s.bad=false:=fun r=>by
   induction r with
   |nil=>intro b s h;exact h
   |cons y r ih=>
    intro b s h;unfold jf at h;have B:=ih _ _ h;have c:∀(l:A (A Ab)) (s:T.St),(l.foldl (fun s a=>qP s (decide (y≠a))) s).bad=false->s.bad=false:=fun l=>by
     induction l with
     |nil=>intro s h;exact h
     |cons a l ih=>intro s h;rw[Nu] at h;exact(yy (ih _ h)).1
    exact(yy (c b _ B)).1
  obtain⟨q,t,u⟩:=z (d r _ _ h);obtain⟨_,v,w⟩:=mZ r (b++[x]) _ h (cm hp u);exact⟨q,fun y hy=>by rcases En.1 hy with rfl|hy;exact t;exact v y hy,by simpa using w⟩
abbrev Go4 (a):=qU zj (zr 3 (vE a).2).1 (zr 3 (vE a).2).2
theorem zaS {s:T.St}(h:(xE s).2.bad=false):s.bad=false/\(Z (xE s).1.1)<=3/\(∀x∈(xE s).1.1,VSt x)/\(Z (xE s).1.2)<=3/\(∀x∈(xE s).1.2,VDp x)/\((xE s).1.1.map Bq++(xE s).1.2).Pairwise (·≠·):=by
 obtain⟨c,a,b⟩:=mZ _ [] _ (show(jf [] ((vE s).1.map Bq++(uQ (vE s).2).1) (uQ (vE s).2).2).bad=false from h) .nil;obtain⟨d,f,g⟩:=wJ zj (fun x=>Z x<=24) (fun s h=>kI h) _ _ (show(Go4 s).2.bad=false from c);obtain⟨i,j⟩:=vI d;obtain⟨k,l,m⟩:=wJ T.st (fun x=>Z x.1<=24/\Gz x.2=true/\(Z x.2)<=24) zjN _ _ (show(qU T.st (zr 3 s).1 (zr 3 s).2).2.bad=false from i);obtain⟨n,o⟩:=vI k;refine⟨n,?_,fun x hx=>?_,?_,fun x hx=>?_,by rw[Hc] at b;exact b⟩
 ·show(Z (qU T.st (zr 3 s).1 (zr 3 s).2).1)<=3;rw[l];exact o
 ·obtain⟨p,q,r⟩:=m x hx
  exact⟨a x.1 (Mo _ (Hh hx)),p,q,r⟩
 ·show(Z (Go4 s).1)<=3;rw[f];exact j
 ·exact⟨a x (Mh _ hx),g x hx⟩
theorem iG {s:T.St}(h:(yv s).2.bad=false):s.bad=false/\Hp (yv s).1=true/\(Z (yv s).1)<=24:=by grind[yy,qP,zj,Hp,kI,T.St,yv]
theorem zkJ (h:Hp s=true):s≠[]:=by
 intro e;subst e;revert h;decide
theorem zjP {s:T.St}(h:(T.to s).2.bad=false):s.bad=false/\(T.to s).1.1=decide ((T.to s).1.2≠[])/\((T.to s).1.2=[]\/(Hp (T.to s).1.2=true/\(Z (T.to s).1.2)<=24)):=by grind[T.to,zr,iG,vI,zkJ,T.St,Hp]
theorem zdU {s:T.St}(h:(jE s).2.bad=false):s.bad=false/\∃x,VRl x/\(jE s).1=toRl x:=by
 have n:=@iH s;unfold jE at h ⊢;generalize xa s=a at*;have o:=@iG a.2;generalize yv a.2=b at*;have p:=@zgR b.2;generalize jU b.2=c at*;have q:=@zgS c.2;generalize jL c.2=d at*;have r:=@zjP d.2;generalize T.to d.2=e at*;have t:=@zaS e.2;generalize xE e.2=f at*;simp only at h;obtain⟨g,i,j,k,l,m⟩:=t h;obtain⟨C,E,F⟩:=r g;obtain⟨t1,t2,t3,t4⟩:=q C;obtain⟨u,ms,v,w,y⟩:=p t1;obtain⟨H,N,Q⟩:=o u;obtain⟨z,B⟩:=n H;refine⟨z,⟨a.1,b.1,ms,d.1,e.1.2,f.1.1,f.1.2⟩,?_,?_⟩
 ·exact { num:=B,path:=N,pl:=Q,ml:=w,ms:=y,t0:=t2,tl:=t3,tg:=t4,rep:=F,sl:=i,sets:=j,dl:=k,drops:=l,once:=m }
 ·unfold toRl rlOf
  simp only;rw[v,E]
theorem bT:∀(n:Ad) (a:A Gn) (s:T.St),(yE n a s).2.bad=false->s.bad=false
 |0,a,s,h=>h
 |n+1,a,s,h=>by
  unfold yE at h
  by_cases b:s.bad=true
  ·rw[Az b] at h;exact h
  ·simpa using b
theorem md:∀(n:Ad) (a:A P.Rl) (s:T.St),(yE n (a.map toRl) s).2.bad=false->(∀x∈a,VRl x)->(a.map P.Rl.number).Pairwise (·<·)->∃b:A P.Rl,(yE n (a.map toRl) s).1=b.map toRl/\(Z b)<=Z a+n/\(∀x∈b,VRl x)/\(b.map P.Rl.number).Pairwise (·<·)
 |0,a,s,_,hv,hp=>⟨a,rfl,by omega,hv,hp⟩
 |n+1,a,s,h,hv,hp=>by
  unfold yE at h ⊢
  by_cases c:s.bad=true
  ·rw[Az c] at h;rw[h] at c;cases c
  ·rw[Aw c] at h ⊢
   obtain⟨i,d⟩:=yy (bT _ _ _ h);obtain⟨_,x,r,g⟩:=zdU i;rw[g] at h ⊢;have e:a.map toRl++[toRl x]=(a++[x]).map toRl:=by simp
   rw[e] at h ⊢;have f:((a++[x]).map P.Rl.number).Pairwise (·<·):=by
    rw[Ef,Fx];refine⟨hp,by simp,fun y hy z hz=>?_⟩;simp only[Er,Fa,Si] at hz;subst hz;rw[g] at d;rcases Xk a with rfl|⟨l,q,rfl⟩
    ·cases hy
    ·rw[Og,Ef,Er,Fa,List.getLast?_concat] at d
     have t:q.number<x.number:=by have p:(toRl q).number<(toRl x).number:=by { simpa using d };exact p
     rw[Og,Ef,Fx] at hp;rw[Og,Ef,Ea] at hy;rcases hy with hy|hy
     ·have:=hp.2.2 y hy q.number (by simp);omega
     ·simp at hy;omega
   obtain⟨b,j,k,m,o⟩:=md n (a++[x]) _ h (fun y hy=>by rcases Ea.1 hy with hy|hy;exact hv y hy;simp at hy;rw[hy];exact r) f;exact⟨b,j,by simp at k;omega,m,o⟩
theorem bS:∀(n:Ad) (a:A Fp) (s:T.St),(yj n a s).2.bad=false->s.bad=false
 |0,a,s,h=>h
 |n+1,a,s,h=>by
  unfold yj at h
  by_cases b:s.bad=true
  ·rw[Az b] at h;exact h
  ·simpa using b
theorem aO {a c:A Ab}(d:qd a b=true)(f:qd b c=true):qd a c=true:=by
 rw[yc] at *;exact Hk.trans _ _ _ d f
theorem tY:∀(n:Ad) (c:A P.Hst) (s:T.St),(yj n (c.map toR) s).2.bad=false->(∀x∈c,VHst x)->(c.map P.Hst.name).Pairwise (fun a b=>qd a b=true)->∃f:A P.Hst,(yj n (c.map toR) s).1=f.map toR/\(Z f)<=Z c+n/\(∀x∈f,VHst x)/\(f.map P.Hst.name).Pairwise (fun a b=>qd a b=true)
 |0,c,s,_,hv,hp=>⟨c,rfl,by omega,hv,hp⟩
 |n+1,c,s,h,hv,hp=>by
  unfold yj at h ⊢
  by_cases g:s.bad=true
  ·rw[Az g] at h;rw[h] at g;cases g
  ·rw[Aw g] at h ⊢
   have o:=bS _ _ _ h;obtain⟨d,E,F,H,N⟩:=md (zr 6 (yB s (c.map toR)).2).1 [] (zr 6 (yB s (c.map toR)).2).2 o (fun x hx=>by cases hx) .nil;obtain⟨Q,f2⟩:=vI (bT _ _ _ o);obtain⟨p,k⟩:=yy (show(qP (qP (zj s).2 (Hq (zj s).1 false)) _).bad=false from Q);obtain⟨r,t⟩:=yy p;obtain⟨_,u⟩:=kI r;have hA:(yB s (c.map toR)).1=(zj s).1:=rfl;have i:(yE (zr 6 (yB s (c.map toR)).2).1 [] (zr 6 (yB s (c.map toR)).2).2).1=d.map toRl:=E;rw[hA,i] at h ⊢;generalize(zj s).1=nm at*;have e:c.map toR++[(⟨nm,d.map toRl⟩:Fp)]=(c++[(⟨nm,d⟩:P.Hst)]).map toR:=by simp[toR]
   rw[e] at h ⊢;have vx:VHst ⟨nm,d⟩:=⟨t,u,by simp at F;show (Z d)<=6;omega,N,H⟩;have j:((c++[(⟨nm,d⟩:P.Hst)]).map P.Hst.name).Pairwise (fun a b=>qd a b=true):=by
    rw[Ef,Fx];refine⟨hp,by simp,fun y hy z hz=>?_⟩;simp only[Er,Fa,Si] at hz;rw[hz];rcases Xk c with rfl|⟨l,q,rfl⟩
    ·cases hy
    ·rw[Og,Ef,Er,Fa,List.getLast?_concat] at k
     have m:=k;rw[Og,Ef,Fx] at hp;rw[Og,Ef,Ea] at hy;rcases hy with hy|hy
     ·exact aO (hp.2.2 y hy q.name (by simp)) m
     ·simp at hy;rw[hy];exact m
   obtain⟨f,v,w,B,C⟩:=tY n (c++[⟨nm,d⟩]) _ h (fun y hy=>by rcases Ea.1 hy with hy|hy;exact hv y hy;simp at hy;rw[hy];exact vx) j;exact⟨f,v,by simp at w;omega,B,C⟩
theorem zgQ (h:(tL b).2.bad=false):∃hs,VHs hs/\(tL b).1=hs.map toR:=by
 obtain⟨g,a,c,d,f⟩:=tY (zr 4 (wG ⟨b,false⟩)).1 [] (zr 4 (wG ⟨b,false⟩)).2 h (fun x hx=>by cases hx) .nil
 grind[tY,zr,wG,vI,bS,tL,VHs,toR]
abbrev Go3 (a):=zp (Ic ((jM a).map toR))
theorem zgH {a:A P.Hst}(d:VHs a)(c:x4 a=b):jM b=a/\(Go3 b).1=a/\(Go3 b).2.broken=false/\(Go3 b).2.err=0/\∀hs',SrtH a hs'->hs'=a:=by grind[jM,mf,zbX,ziV,P.Hst,VHs,x4,zp,Ic,toR,SrtH]
theorem zdP:(prog).cellsOf 5=1:=by kernel_rfl
theorem oL {d:Ad}{op:Ak}(h:WInv w d l op)(m:l≠[]):Am prog 69 #[Al (V ⟨d,0,S⟩)] w fun e w'=>e=Af (I (Aa l))/\Kept d wtags w w':=by
 obtain⟨p,v,o,c⟩:∃p v,w.heap[d]?=V (Ae #[p,v,O Ai op] 143 (0,0))/\w.ownsRow (d+1) 5 1 v (Z l) (Ba l):=by
  rcases h with ⟨v,n,h2⟩|⟨v,n,h2⟩
  ·exact⟨_,v,n,h2⟩
  ·exact⟨_,v,n,h2⟩
 have t:Z l≠0:=by simpa using m
 obtain⟨g,a,b,rfl,N,B,aa,q,Q,i⟩:∃g a b,v=X (V ⟨g,0,S⟩) (Z l) a/\d+1<=g/\w.heap[g]?=V (Ae b 5 (0,0))/\(Z l)<=a/\a<=maxLen/\b.size=a*1/\b.toList.take (Z l*1)=Ba l:=by
  rcases c.2 with ⟨_,hz⟩|⟨g,a,b,hv,r⟩
  ·exact absurd hz t
  ·exact⟨g,a,b,hv,r⟩
 have c1:w.drew.cell? ⟨d,1,S⟩=V (X (V ⟨g,0,S⟩) (Z l) a):=by
  have n:=o;exact zB n
 have F:(Builtin.unsafeSliceData_ #[32] 215 #[X (V ⟨g,0,S⟩) (Z l) a]).run prog w.drew = .ok (Al (V ⟨g,0,S⟩)) w.drew:=
  Lib.run_unsafeSliceData_row _ _ _ _ _ _ (by omega)
 have H:(Builtin.unsafeString_ #[215,3] 9 #[Al (V ⟨g,0,S⟩),O Ai (Z l)]).run prog w.drew = .ok (I ⟨l.toArray⟩) (w.drew.freeze ⟨g,0,S⟩ (Z l)):=by
  refine Lib.run_unsafeString_row w.drew 215 3 9 5 underlying215 zdP g b.size (by have s:w.drew.heap[g]?=V (.cells b 5 (0,0)):=B;simp[World.shape?,s]) l m (by omega) (by unfold maxLen at q;omega) ?_;intro j x hx;have:=c.cells (g:=g) rfl j (O .u8 x.toNat) (by simp[Ba,hx]);exact this
 have E:Y (Kept d wtags w (w.drew.freeze ⟨g,0,S⟩ (Z l))):=by
  have u:∀k,k≠g->(w.drew.freeze ⟨g,0,S⟩ (Z l)).heap[k]?=w.heap[k]?:=by
   intro k C;show((w.drew).freeze ⟨g,0,S⟩ (Z l)).heap[k]?=(w.drew).heap[k]?;generalize w.drew=wd;simp[World.freeze,m,Sy,Ne.symm C]
  have y:w.heap.size<=(w.drew.freeze ⟨g,0,S⟩ (Z l)).heap.size:=by
   show(w.drew).heap.size<=_;generalize w.drew=wd;simp[World.freeze,m]
  have f:(w.drew.freeze ⟨g,0,S⟩ (Z l)).os=w.os/\(w.drew.freeze ⟨g,0,S⟩ (Z l)).tape=w.tape/\(w.drew.freeze ⟨g,0,S⟩ (Z l)).output=w.output:=by
   show _=(w.drew).os/\_=(w.drew).tape/\_=(w.drew).output;generalize w.drew=wd;simp[World.freeze,m]
  refine⟨f.1,f.2.1,f.2.2,y,fun k C ht=>u k (fun e=>?_)⟩;subst e;rcases ht with ht|ht
  ·omega
  ·exact ht _ _ _ B (by decide)
 have z:(prog).follows Departure.mixedOrders=true:=by kernel_rfl
 go_in;go_wp2
 go_region_o
 all_goals (go_wp2;go_ret;exact⟨rfl,E.o⟩)
theorem eG {b:Ad}{p:Value}{op:Ak}(a:w.heap[b]?=V (Ae #[p,X S 0 0,O Ai op] 143 (0,0))):Am prog 69 #[Al (V ⟨b,0,S⟩)] w fun e w'=>e=Af (I (Aa []))/\Kept b wtags w w':=by
 have i:w.drew.cell? ⟨b,1,S⟩=V (X S 0 0):=by
  have f:=a;exact zB f
 have g:(Builtin.unsafeSliceData_ #[32] 215 #[X S 0 0]).run prog w.drew = .ok (Al S) w.drew:=rfl;have h:∀W:Ag,(Builtin.unsafeString_ #[215,3] 9 #[Al S,O Ai 0]).run prog W = .ok (I ⟨#[]⟩) W:=fun W=>by kernel_rfl
 have c:(prog).follows Departure.mixedOrders=true:=by kernel_rfl
 have d:Y (Kept b wtags w w.drew):=xJ (zV _);go_in;go_wp2
 go_region_o
 all_goals (go_wp2;go_ret;exact⟨rfl,d.o⟩)
end Go.Proofs.YtfocdefchbnkpaaGreatDoor
