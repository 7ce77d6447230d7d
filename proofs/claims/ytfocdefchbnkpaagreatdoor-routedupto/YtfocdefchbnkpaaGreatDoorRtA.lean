/- A policy's plain form, read by the program's reader, is that policy: tokens, and the smaller parts. -/
import Derived.Test.YtfocdefchbnkpaaGreatDoorAli
import Derived.Test.YtfocdefchbnkpaaGreatDoorRefS
set_option maxRecDepth 100000
set_option maxHeartbeats 20000000
namespace Go.Proofs.YtfocdefchbnkpaaGreatDoor
open Go.RowKit
theorem dropAdd (l:List UInt8)(a b:Nat):l.drop (a+b)=(l.drop a).drop b:=by rw[List.drop_drop]
theorem tG (p:Int->Bool)(a b:List UInt8)(ha:∀c∈a,p c.toNat=true)(hb:∀c cs,b=c :: cs->p c.toNat=false):R.span p (a++b)=a.length:=by
 induction a with
 | nil=>
  cases b with
  | nil=>rfl
  | cons c cs=>show(if p c.toNat then _ else 0)=0;rw[hb c cs rfl];rfl
 | cons x a ih=>
  show(if p x.toNat then R.span p (a++b)+1 else 0)=_
  rw[ha x (by simp),if_pos rfl,ih (fun c h=>ha c (by simp[h]))];rfl
structure TokAt (t r:List UInt8) (k:Int):Prop where
 ms:zr (t++r)=(t.length,k)
 nb:∀c cs,t++r=c :: cs->qt c.toNat=false
theorem zoB (t r:List UInt8)(h:t≠[])(ha:∀c∈t,R.smallI c.toNat=true)(hr:∀c cs,r=c :: cs->R.smallI c.toNat=false):TokAt t r 1:=by
 match t,h with
 | c :: t,_=>
  have hc:=ha c (by simp)
  refine⟨?_,fun d ds e=>?_⟩
  ·show(if R.smallI c.toNat then (R.span R.smallI ((c :: t)++r),(1:Int)) else _)=_
   rw[if_pos hc,tG _ _ _ ha hr]
  ·cases e
   unfold R.smallI at hc;unfold qt
   simp at hc ⊢;omega
theorem tok_num (t r:List UInt8)(h:t≠[])(h5:t.length<=5)(ha:∀c∈t,R.digitI c.toNat=true)(hr:∀c cs,r=c :: cs->R.digitI c.toNat=false):TokAt t r 2:=by
 match t,h with
 | c :: t,_=>
  have hc:=ha c (by simp)
  have aa:R.smallI c.toNat=false:=by unfold R.digitI at hc;unfold R.smallI;simp at hc ⊢;omega
  refine⟨?_,fun d ds e=>?_⟩
  ·show(if R.smallI c.toNat then _ else if R.digitI c.toNat then xH ((c :: t)++r) else _)=_
   rw[if_neg (by rw[aa];simp),if_pos hc]
   unfold xH
   rw[tG _ _ _ ha hr,if_neg (by omega)]
  ·cases e
   unfold R.digitI at hc;unfold qt
   simp at hc ⊢;omega
theorem zp2 (s r:List UInt8)(x:UInt8)(h:x ∉ s):Lib.index (s++x :: r) [x]=s.length:=by
 induction s with
 | nil=>show Lib.index (x :: r) [x]=0;rw[yL,if_pos rfl]
 | cons c s ih=>
  show Lib.index (c :: (s++x :: r)) [x]=_
  have h1:=ih (fun hh=>h (by simp[hh]))
  rw[yL,if_neg (fun e=>h (by simp[e])),h1,if_neg (by omega)]
  simp
theorem zmH (s:List UInt8)(x:UInt8)(h:x ∉ s):Lib.index s [x] = -1:=by
 induction s with
 | nil=>rfl
 | cons c s ih=>
  rw[yL,if_neg (fun e=>h (by simp[e])),ih (fun hh=>h (by simp[hh])),if_pos rfl]
theorem zpW (s r:List UInt8)(hl:s.length<=24)(ab:(34:UInt8) ∉ s)(aa:(10:UInt8) ∉ s):TokAt (R.q s) r 3:=by
 have hc:Lib.cut (s++34 :: r) [34]=(s,r,true):=by
  unfold Lib.cut
  rw[zp2 s r 34 ab,if_pos (by omega)]
  simp
 refine⟨?_,fun d ds e=>?_⟩
 ·have e:R.q s++r=34 :: (s++34 :: r):=by unfold R.q;simp
  rw[e,zr,if_neg (by decide),if_neg (by decide),if_pos (by decide)]
  unfold xM yZ Lib.contains
  rw[List.drop_succ_cons,List.drop_zero,hc]
  show(if (!true || (decide (24<s.length) || decide (0<=Lib.index s [10])))=true then ((0:Nat),(5:Int)) else _)=_
  rw[zmH s 10 aa,if_neg (by simp;omega)]
  unfold R.q;simp
 ·have e2:R.q s++r=34 :: (s++34 :: r):=by unfold R.q;simp
  rw[e2] at e;cases e;decide
theorem zgN (c:UInt8)(r:List UInt8)(hc:R.signI c.toNat=true):TokAt [c] r 4:=by
 have h1:R.smallI c.toNat=false:=by unfold R.signI at hc;unfold R.smallI;simp at hc ⊢;omega
 have h2:R.digitI c.toNat=false:=by unfold R.signI at hc;unfold R.digitI;simp at hc ⊢;omega
 have h3:¬c.toNat=34:=by unfold R.signI at hc;simp at hc;omega
 refine⟨?_,fun d ds e=>?_⟩
 ·show(if R.smallI c.toNat then _ else if R.digitI c.toNat then _ else if c.toNat=34 then _ else if R.signI c.toNat then ((1:Nat),(4:Int)) else _)=_
  rw[if_neg (by rw[h1];simp),if_neg (by rw[h2];simp),if_neg h3,if_pos hc];rfl
 ·cases e
  unfold R.signI at hc;unfold qt
  simp at hc ⊢;omega
theorem zq6 (t r:List UInt8)(h:t≠[])(ha:(t.all fun c=>R.smallI c.toNat)=true):TokAt t (32 :: r) 1:=
 zoB t _ h (fun c hc=>List.all_eq_true.1 ha c hc) (fun c cs e=>by cases e;decide)
structure At (l rest:List UInt8) (st:P.St):Prop where
 ok:st.broken=false
 err:st.err=0
 pos:∃p b,(∀c∈b,qt c.toNat=true)/\l.drop p=b++rest/\p<=l.length/\st.tok=zU l p
theorem At.blank {l r:List UInt8}{c:UInt8}{st:P.St}(h:At l (c :: r) st)(hc:qt c.toNat=true):At l r st:=by
 obtain⟨p,b,hb,hd,hp,e⟩:=h.pos
 exact⟨h.ok,h.err,p,b++[c],fun x hx=>by rcases List.mem_append.1 hx with hx | hx;exact hb x hx;simp at hx;rw[hx];exact hc,by rw[hd];simp,hp,e⟩
theorem At.blanks {l r:List UInt8}{st:P.St}:∀(b:List UInt8),At l (b++r) st->(b.all fun c=>qt c.toNat)=true->At l r st
 | [],h,_=>h
 | c :: b,h,hb=>by
  simp only[List.all_cons,Bool.and_eq_true] at hb
  exact At.blanks b (At.blank h hb.1) hb.2
theorem At.tok {l t r:List UInt8}{k:Int}{st:P.St}(h:At l (t++r) st)(ht:TokAt t r k) :
  st.tok.raw=t/\st.tok.k=k/\At l r (zy l st true):=by
 obtain⟨p,bl,hb,aa,hp,e⟩:=h.pos
 have hs:R.span qt (l.drop p)=bl.length:=by rw[aa];exact tG _ _ _ hb ht.nb
 have ab:zj l p=p+bl.length:=by unfold zj;rw[hs]
 have hd:l.drop (zj l p)=t++r:=by rw[ab,dropAdd,aa,List.drop_left]
 have ad:st.tok.raw=t:=by
  rw[e];show(l.drop (zj l p)).take (zr (l.drop (zj l p))).1=t
  rw[hd,ht.ms,List.take_left]
 have hk:st.tok.k=k:=by rw[e];show(zr (l.drop (zj l p))).2=k;rw[hd,ht.ms]
 have ae:st.tok.at_=p+bl.length:=by rw[e];exact ab
 refine⟨ad,hk,?_⟩
 unfold zy
 rw[if_pos ⟨rfl,h.ok⟩]
 refine⟨h.ok,h.err,p+bl.length+t.length,[],(fun c hc=>by cases hc),?_,?_,?_⟩
 ·rw[dropAdd,dropAdd,aa,List.drop_left,List.drop_left];rfl
 ·have:=congrArg List.length aa;simp only[List.length_drop,zW] at this;omega
 ·show zU l (st.tok.at_+st.tok.raw.length)=_;rw[ae,ad]
theorem At.take {l t r:List UInt8}{k:Int}{st:P.St}(h:At l (t++r) st)(ht:TokAt t r k):At l r (zH l st t):=by
 obtain⟨h1,_,h3⟩:=h.tok ht
 unfold zH
 rw[h1,show decide (t=t)=true by simp];exact h3
theorem At.sees {l t r:List UInt8}{k:Int}{st:P.St}(h:At l (t++r) st)(ht:TokAt t r k)(x:List UInt8):zu st x=decide (t=x):=by
 obtain⟨h1,_,_⟩:=h.tok ht
 unfold zu
 rw[h1,h.ok];simp
theorem At.word {l r:List UInt8}{st:P.St}(t:List UInt8)(h:At l (t++32 :: r) st)(h0:t≠[])(ha:(t.all fun c=>R.smallI c.toNat)=true):At l r (zH l st t):=
 (h.take (zq6 t r h0 ha)).blank (by decide)
theorem At.sign {l r:List UInt8}{st:P.St}(c:UInt8)(h:At l (c :: r) st)(hc:R.signI c.toNat=true):At l r (zH l st [c]):=At.take (t:=[c]) h (zgN c r hc)
theorem At.str {l s r:List UInt8}{st:P.St}(h:At l (R.q s++r) st)(hl:s.length<=24)(ab:(34:UInt8) ∉ s)(aa:(10:UInt8) ∉ s) :
  (zg l st).1=s/\At l r (zg l st).2:=by
 obtain⟨h1,h2,h3⟩:=h.tok (zpW s r hl ab aa)
 unfold zg
 rw[h2,show((3:Int) == 3)=true from rfl]
 refine⟨?_,h3⟩
 rw[h3.ok,h1]
 unfold R.q;simp
theorem zqA (n:Nat):R.dec n≠[]:=by unfold R.dec;split <;> simp
theorem zh8 (n:Nat):∀c∈R.dec n,R.digitI c.toNat=true:=by
 induction n using Nat.strongRecOn with
 | ind n ih=>
  intro c hc
  have d:∀k,k<10->R.digitI (UInt8.ofNat (48+k)).toNat=true:=by decide
  unfold R.dec at hc
  split at hc
  ·rename_i h;rw[List.mem_singleton] at hc;rw[hc];exact d n h
  ·rcases List.mem_append.1 hc with hc | hc
   ·exact ih (n / 10) (by omega) c hc
   ·rw[List.mem_singleton] at hc;rw[hc];exact d (n % 10) (Nat.mod_lt _ (by decide))
theorem zn2 (l:List UInt8)(c:UInt8):R.num (l++[c])=R.numStep (R.num l) c:=by unfold R.num;rw[List.foldl_append];rfl
theorem zpC (n:Nat)(h:n<=99999):R.num (R.dec n)=n:=by
 induction n using Nat.strongRecOn with
 | ind n ih=>
  have d:∀k,k<10->(UInt8.ofNat (48+k)).toNat=48+k:=by decide
  unfold R.dec
  split
  ·rename_i hn
   show R.numStep 0 (UInt8.ofNat (48+n))=n
   unfold R.numStep;rw[d n hn]
   simp only[wrap64];omega
  ·rw[zn2,ih (n / 10) (by omega) (by omega)]
   unfold R.numStep;rw[d (n % 10) (by omega)]
   simp only[wrap64];omega
theorem At.num {l r:List UInt8}{n:Int}{st:P.St}(h:At l (R.decI n++r) st)(hn:0<=n/\n<=99999)(hr:∀c cs,r=c :: cs->R.digitI c.toNat=false) :
  (qU l st).1=n/\At l r (qU l st).2:=by
 obtain⟨h1,h2,h3⟩:=h.tok (tok_num (R.decI n) r (zqA _) (R.decI_len n hn) (zh8 _) hr)
 unfold qU
 rw[h2,show((2:Int) == 2)=true from rfl]
 refine⟨?_,h3⟩
 rw[h3.ok,h1]
 show R.num (R.dec n.toNat)=n
 rw[zpC n.toNat (by omega)];omega
theorem jE (st:P.St)(a b:Int)(h:a<b):zf st a b=st:=by
 unfold zf zX;rw[if_neg (by simp;omega)]
theorem yC (st:P.St)(b:Bool)(e a:Int)(h:b=false):zX st b e a=st:=by rw[h];rfl
theorem w8 {c:UInt8}(h:R.partI c.toNat false=true):c≠34/\c≠10/\R.partI c.toNat true=true/\R.lowC c=c:=by
 have h':R.smallI c.toNat=true\/R.digitI c.toNat=true\/(c.toNat:Int)=45:=by unfold R.partI at h;simpa[or_assoc] using h
 have hb:(97<=c.toNat/\c.toNat<=122)\/(48<=c.toNat/\c.toNat<=57)\/c.toNat=45:=by
  rcases h' with h | h | h
  ·left;unfold R.smallI at h;simp at h;omega
  ·right;left;unfold R.digitI at h;simp at h;omega
  ·right;right;omega
 refine⟨fun e=>by subst e;revert hb;decide,fun e=>by subst e;revert hb;decide,?_,?_⟩
 ·unfold R.partI at h ⊢;simp at h ⊢;exact Or.inl h
 ·unfold R.lowC R.largeI;rw[if_neg (by simp;omega)]
theorem zjF {s:List UInt8}(h:R.word s false=true):(34:UInt8) ∉ s/\(10:UInt8) ∉ s/\R.word s true=true/\R.lower s=s:=by
 unfold R.word R.allB at h
 simp only[Bool.and_eq_true,List.all_eq_true,decide_eq_true_eq] at h
 refine⟨fun hm=>(w8 (h.1 _ hm)).1 rfl,fun hm=>(w8 (h.1 _ hm)).2.1 rfl,?_,?_⟩
 ·unfold R.word R.allB
  simp only[Bool.and_eq_true,List.all_eq_true,decide_eq_true_eq]
  exact⟨fun c hc=>(w8 (h.1 c hc)).2.2.1,h.2⟩
 ·unfold R.lower
  conv=>rhs;rw[<-List.map_id s]
  exact List.map_congr_left fun c hc=>(w8 (h.1 c hc)).2.2.2
theorem zk4 {s:List UInt8}(h:R.header s false=true):(34:UInt8) ∉ s/\(10:UInt8) ∉ s/\R.header s true=true/\R.lower s=s:=by
 unfold R.header at h ⊢
 rw[Bool.and_eq_true] at h ⊢
 obtain⟨h1,h2,h3,h4⟩:=zjF h.1
 exact⟨h1,h2,⟨h3,h.2⟩,h4⟩
theorem zgQ {s:List UInt8}(h:R.value s=true):(34:UInt8) ∉ s/\(10:UInt8) ∉ s:=by
 unfold R.value R.allB at h
 simp only[Bool.and_eq_true,List.all_eq_true] at h
 refine⟨fun hm=>?_,fun hm=>?_⟩
 ·have:=h.1 _ hm;revert this;decide
 ·have:=h.1 _ hm;revert this;decide
theorem zj3 {s:List UInt8}(h:R.path s=true):(34:UInt8) ∉ s/\(10:UInt8) ∉ s:=by
 unfold R.path R.allB at h
 simp only[Bool.and_eq_true,List.all_eq_true] at h
 refine⟨fun hm=>?_,fun hm=>?_⟩
 ·have:=h.1 _ hm;revert this;decide
 ·have:=h.1 _ hm;revert this;decide
theorem uf {s:List UInt8}(h:R.upstream s=true):(34:UInt8) ∉ s/\(10:UInt8) ∉ s:=by
 unfold R.upstream R.allB at h
 simp only[Bool.and_eq_true,List.all_eq_true] at h
 refine⟨fun hm=>?_,fun hm=>?_⟩
 ·have:=h.1 _ hm;revert this;decide
 ·have:=h.1 _ hm;revert this;decide
theorem kF:∀(s:List UInt8) (n:Nat),R.labelsGo false s n=true->(34:UInt8) ∉ s/\(10:UInt8) ∉ s/\R.labelsGo true s n=true/\R.lower s=s
 | [],n,h=>⟨by simp,by simp,by simpa[R.labelsGo] using h,rfl⟩
 | c :: s,n,h=>by
  unfold R.labelsGo at h ⊢
  by_cases aa:(c.toNat:Int)=46/\0<n
  ·rw[if_pos aa] at h ⊢
   obtain⟨h1,h2,h3,h4⟩:=kF s 0 h
   have hc:c=46:=UInt8.toNat_inj.1 (by have:=aa.1;show c.toNat=46;omega)
   subst hc
   exact⟨by simp[h1],by simp[h2],h3,by show R.lowC 46 :: R.lower s=_;rw[h4];rfl⟩
  ·rw[if_neg aa] at h ⊢
   by_cases hp:R.partI c.toNat false=true
   ·rw[if_pos hp] at h
    obtain⟨h1,h2,h3,h4⟩:=kF s (n+1) h
    obtain⟨p1,p2,p3,p4⟩:=w8 hp
    rw[if_pos p3]
    exact⟨by simp[h1,Ne.symm p1],by simp[h2,Ne.symm p2],h3,by show R.lowC c :: R.lower s=_;rw[h4,p4]⟩
   ·rw[if_neg hp] at h;cases h
theorem zmV {s:List UInt8}(h:R.named s false=true):(34:UInt8) ∉ s/\(10:UInt8) ∉ s/\R.named s true=true/\R.lower s=s:=by
 unfold R.named at h ⊢
 by_cases h1:s=[42]
 ·rw[if_pos h1];subst h1;exact⟨by decide,by decide,rfl,by decide⟩
 ·rw[if_neg h1] at h ⊢
  by_cases h2:s.take 2=[42,46]/\2<s.length
  ·rw[if_pos h2] at h ⊢
   obtain⟨g1,g2,g3,g4⟩:=kF _ 0 h
   have e:s=[42,46]++s.drop 2:=by rw[<-h2.1,List.take_append_drop]
   refine⟨?_,?_,g3,?_⟩
   ·rw[e];simp;exact g1
   ·rw[e];simp;exact g2
   ·rw[e]
    show R.lower ([42,46]++s.drop 2)=_
    unfold R.lower at g4 ⊢
    rw[xy,g4];rfl
  ·rw[if_neg h2] at h ⊢
   obtain⟨g1,g2,g3,g4⟩:=kF _ 0 h
   exact⟨g1,g2,g3,g4⟩
structure VMt (m:P.Mt):Prop where
 name:R.header m.name false=true
 nl:m.name.length<=24
 val:R.value m.val=true
 vl:m.val.length<=24
 no:m.ask=false->m.val=[]
structure VTg (t:List UInt8×Int):Prop where
 up:R.upstream t.1=true
 ul:t.1.length<=24
 lo:1<=t.2
 hi:t.2<=1000
structure VSt (t:List UInt8×List UInt8):Prop where
 name:R.header t.1 false=true
 nl:t.1.length<=24
 val:R.value t.2=true
 vl:t.2.length<=24
structure VDp (t:List UInt8):Prop where
 name:R.header t false=true
 nl:t.length<=24
structure VRl (r:P.Rl):Prop where
 num:0<=r.number/\r.number<=65535
 path:R.path r.path=true
 pl:r.path.length<=24
 ml:r.ms.length<=3
 ms:∀m∈r.ms,VMt m
 t0:r.tg≠[]
 tl:r.tg.length<=4
 tg:∀t∈r.tg,VTg t
 rep:r.rep=[]\/(R.path r.rep=true/\r.rep.length<=24)
 sl:r.sets.length<=3
 sets:∀s∈r.sets,VSt s
 dl:r.drops.length<=3
 drops:∀d∈r.drops,VDp d
 once:(r.sets.map Prod.fst++r.drops).Pairwise (·≠·)
structure VHst (h:P.Hst):Prop where
 name:R.named h.name false=true
 nl:h.name.length<=24
 rl:h.rules.length<=6
 ord:(h.rules.map P.Rl.number).Pairwise (·<·)
 rules:∀r∈h.rules,VRl r
structure VHs (hs:List P.Hst):Prop where
 hl:hs.length<=4
 ord:(hs.map P.Hst.name).Pairwise (fun a b=>xf a b=true)
 hosts:∀h∈hs,VHst h
theorem At.path {l s r:List UInt8}{st:P.St}(w:List UInt8)(h:At l (w++32 :: (R.q s++59 :: r)) st)(h0:w≠[])(ha:(w.all fun c=>R.smallI c.toNat)=true)(hs:R.path s=true)(hl:s.length<=24) :
  (xL l st w).1=s/\At l r (xL l st w).2:=by
 have h1:=h.word w h0 ha
 obtain⟨h2,h3⟩:=h1.str hl (zj3 hs).1 (zj3 hs).2
 unfold xL
 rw[h2]
 refine⟨rfl,?_⟩
 rw[yC _ _ _ _ (by rw[hs];rfl)]
 exact h3.sign 59 (by decide)
theorem At.header {l s r:List UInt8}{st:P.St}(h:At l (R.q s++r) st)(hs:R.header s false=true)(hl:s.length<=24) :
  (qB l st).1=s/\At l r (qB l st).2:=by
 obtain⟨n1,n2,n3,n4⟩:=zk4 hs
 obtain⟨h2,h3⟩:=h.str hl n1 n2
 unfold qB
 rw[h2]
 refine⟨n4,?_⟩
 rw[yC _ _ _ _ (by rw[n3];rfl)]
 exact h3
theorem At.value {l s r:List UInt8}{st:P.St}(h:At l (61 :: 32 :: (R.q s++r)) st)(hs:R.value s=true)(hl:s.length<=24) :
  (qg l st).1=s/\At l r (qg l st).2:=by
 have h1:=(h.sign 61 (by decide)).blank (by decide)
 obtain⟨h2,h3⟩:=h1.str hl (zgQ hs).1 (zgQ hs).2
 unfold qg
 rw[h2]
 refine⟨rfl,?_⟩
 rw[yC _ _ _ _ (by rw[hs];rfl)]
 exact h3
theorem At.seesSign {l r:List UInt8}{st:P.St}{c:UInt8}(h:At l (c :: r) st)(hc:R.signI c.toNat=true)(x:List UInt8):zu st x=decide ([c]=x):=At.sees (t:=[c]) h (zgN c r hc) x
theorem At.seesWord {l r:List UInt8}{st:P.St}(t:List UInt8)(h:At l (t++32 :: r) st)(h0:t≠[])(ha:(t.all fun c=>R.smallI c.toNat)=true)(x:List UInt8):zu st x=decide (t=x):=h.sees (zq6 t r h0 ha) x
theorem At.match_ {l r:List UInt8}{st:P.St}(m:P.Mt)(n:Nat)(h:At l (R.lnMt (mtOf m)++r) st)(hm:VMt m)(hn:n<3) :
  (qT l st n).1=m/\At l r (qT l st n).2:=by
 have e:R.lnMt (mtOf m)++r=[32,32,32,32]++(qA++32 :: (R.q m.name++((if m.ask then [32,61,32]++R.q m.val else [])++59 :: 10 :: r))):=by
  unfold R.lnMt mtOf qA;simp
 rw[e] at h
 have h1:=(h.blanks _ (by decide)).word qA (by decide) (by decide)
 obtain⟨a1,a2⟩:=h1.header hm.name hm.nl
 have ea:xz l st n=qB l (zH l st qA):=by unfold xz;rw[jE _ _ _ (by omega)]
 obtain⟨mn,ma,mv⟩:=m
 simp only at a1 a2 hm
 cases ma with
 | true=>
  have a3:At l (61 :: 32 :: (R.q mv++59 :: 10 :: r)) (qB l (zH l st qA)).2:=by
   refine At.blank (c:=32) ?_ (by decide)
   simpa using a2
  have aa:zu (qB l (zH l st qA)).2 [61]=true:=by rw[a3.seesSign (by decide)];decide
  obtain⟨b1,b2⟩:=a3.value hm.val hm.vl
  unfold qT j2
  rw[ea,aa,if_pos rfl,a1,b1]
  exact⟨rfl,(b2.sign 59 (by decide)).blank (by decide)⟩
 | false=>
  have a3:At l (59 :: 10 :: r) (qB l (zH l st qA)).2:=by simpa using a2
  have aa:zu (qB l (zH l st qA)).2 [61]=false:=by rw[a3.seesSign (by decide)];decide
  have hv:mv=[]:=hm.no rfl
  unfold qT j2
  rw[ea,aa,if_neg (by simp),a1,hv]
  exact⟨rfl,(a3.sign 59 (by decide)).blank (by decide)⟩
theorem At.mtLoop {l r:List UInt8}(ad:∀st,At l r st->zu st qA=false):∀(ms:List P.Mt) (ab:Nat) (st:P.St) (aa:List P.Mt),
  At l ((ms.map fun m=>R.lnMt (mtOf m)).flatten++r) st->(∀m∈ms,VMt m)->aa.length+ms.length<=3->ms.length<ab->(qZ l ab st aa).1=aa++ms/\At l r (qZ l ab st aa).2
 | [],ab+1,st,aa,h,_,_,_=>by
  have h':At l r st:=h
  unfold qZ
  rw[ad st h',if_neg (by simp)]
  exact⟨by simp,h'⟩
 | m :: ms,ab+1,st,aa,h,hv,hl,hf=>by
  have h':At l (R.lnMt (mtOf m)++((ms.map fun m=>R.lnMt (mtOf m)).flatten++r)) st:=by simpa using h
  have hs:zu st qA=true:=by
   have e:R.lnMt (mtOf m)++((ms.map fun m=>R.lnMt (mtOf m)).flatten++r)=[32,32,32,32]++(qA++32 :: (R.q m.name++((if m.ask then [32,61,32]++R.q m.val else [])++59 :: 10 :: ((ms.map fun m=>R.lnMt (mtOf m)).flatten++r)))):=by
    unfold R.lnMt mtOf qA;simp
   rw[e] at h'
   rw[(h'.blanks _ (by decide)).seesWord qA (by decide) (by decide)];simp
  simp only[zm] at hl hf
  obtain⟨a1,a2⟩:=h'.match_ m aa.length (hv m (by simp)) (by omega)
  unfold qZ
  rw[hs,if_pos rfl,a1]
  have:=At.mtLoop ad ms ab _ (aa++[m]) a2 (fun x hx=>hv x (by simp[hx])) (by simp;omega) (by omega)
  exact⟨by rw[this.1];simp,this.2⟩
theorem At.target {l r:List UInt8}{st:P.St}(t:List UInt8×Int)(n:Nat)(c:UInt8)(h:At l (R.lnTg t++c :: r) st)(ht:VTg t)(hn:n<4)(hc:R.digitI c.toNat=false) :
  (zR l st n).1=t/\At l (c :: r) (zR l st n).2:=by
 have e:R.lnTg t++c :: r=R.q t.1++32 :: (R.decI t.2++c :: r):=by unfold R.lnTg;simp
 rw[e] at h
 obtain⟨a1,a2⟩:=h.str ht.ul (uf ht.up).1 (uf ht.up).2
 have hA:qz l st n=(t.1,(zg l st).2):=by
  unfold qz
  rw[jE _ _ _ (by omega),a1,yC _ _ _ _ (by rw[ht.up];rfl)]
 obtain⟨b1,b2⟩:=(a2.blank (by decide)).num ⟨by have:=ht.lo;omega,by have:=ht.hi;omega⟩ (fun d ds e=>by cases e;exact hc)
 unfold zR
 rw[hA]
 simp only
 rw[b1,yC _ _ _ _ (by have:=ht.hi;simp;omega)]
 exact⟨rfl,b2⟩
theorem At.tgLoop {l r:List UInt8}:∀(ts:List (List UInt8×Int)) (ab:Nat) (st:P.St) (aa:List (List UInt8×Int)),
  At l ((ts.map fun u=>[44,32]++R.lnTg u).flatten++59 :: r) st->(∀t∈ts,VTg t)->aa.length+ts.length<=4->ts.length<ab->(qn l ab st aa).1=aa++ts/\At l (59 :: r) (qn l ab st aa).2
 | [],ab+1,st,aa,h,_,_,_=>by
  have h':At l (59 :: r) st:=h
  unfold qn
  rw[h'.seesSign (by decide),if_neg (by decide)]
  exact⟨by simp,h'⟩
 | t :: ts,ab+1,st,aa,h,hv,hl,hf=>by
  have h':At l (44 :: 32 :: (R.lnTg t++((ts.map fun u=>[44,32]++R.lnTg u).flatten++59 :: r))) st:=by simpa using h
  have hs:zu st [44]=true:=by rw[h'.seesSign (by decide)];decide
  have h2:=(h'.sign 44 (by decide)).blank (by decide)
  simp only[zm] at hl hf
  obtain⟨c,r',hc,hd⟩:∃c r',(ts.map fun u=>[44,32]++R.lnTg u).flatten++59 :: r=c :: r'/\R.digitI c.toNat=false:=by
   cases ts with
   | nil=>exact⟨59,r,rfl,by decide⟩
   | cons u us=>exact⟨44,_,rfl,by decide⟩
  rw[hc] at h2
  obtain⟨a1,a2⟩:=h2.target t aa.length c (hv t (by simp)) (by omega) hd
  rw[<-hc] at a2
  unfold qn
  rw[hs,if_pos rfl,a1]
  have:=At.tgLoop ts ab _ (aa++[t]) a2 (fun x hx=>hv x (by simp[hx])) (by simp;omega) (by omega)
  exact⟨by rw[this.1];simp,this.2⟩
theorem At.targets {l r:List UInt8}{st:P.St}(ts:List (List UInt8×Int))(h:At l (jP++32 :: (R.lnTgs ts++59 :: r)) st)(h0:ts≠[])(hv:∀t∈ts,VTg t)(hl:ts.length<=4)(hf:ts.length<=l.length) :
  (zz l st).1=ts/\At l r (zz l st).2:=by
 match ts,h0 with
 | t :: ts,_=>
  have h1:=h.word jP (by decide) (by decide)
  have aa:At l (R.lnTg t++((ts.map fun u=>[44,32]++R.lnTg u).flatten++59 :: r)) (zH l st jP):=by simpa[R.lnTgs] using h1
  obtain⟨c,r',hc,hd⟩:∃c r',(ts.map fun u=>[44,32]++R.lnTg u).flatten++59 :: r=c :: r'/\R.digitI c.toNat=false:=by
   cases ts with
   | nil=>exact⟨59,r,rfl,by decide⟩
   | cons u us=>exact⟨44,_,rfl,by decide⟩
  rw[hc] at aa
  obtain⟨a1,a2⟩:=aa.target t 0 c (hv t (by simp)) (by omega) hd
  rw[<-hc] at a2
  simp only[zm] at hl hf
  obtain⟨b1,b2⟩:=At.tgLoop ts (l.length+1) _ [t] a2 (fun x hx=>hv x (by simp[hx])) (by simp;omega) (by omega)
  have hA:(xF l st).1=t :: ts/\At l (59 :: r) (xF l st).2:=by
   unfold xF
   rw[a1]
   exact⟨b1,b2⟩
  have ab:(t :: ts).filter (fun t=>!(t.2 == 0))=t :: ts:=List.filter_eq_self.2 fun x hx=>by
   have:=(hv x hx).lo
   simp;omega
  unfold zz
  rw[hA.1,ab]
  refine⟨rfl,?_⟩
  rw[yC _ _ _ _ (by rfl)]
  exact hA.2.sign 59 (by decide)
theorem At.edited {l s r:List UInt8}{st:P.St}(am:List (List UInt8))(h:At l (R.q s++r) st)(hs:R.header s false=true)(hl:s.length<=24)(ha:s ∉ am) :
  (qQ l st am).1=s/\At l r (qQ l st am).2:=by
 obtain⟨a1,a2⟩:=h.header hs hl
 unfold qQ
 rw[a1]
 refine⟨rfl,?_⟩
 rw[yC _ _ _ _ (by rw[List.any_eq_false];intro x hx;simp;intro e;subst e;exact ha hx)]
 exact a2
theorem At.set_ {l r:List UInt8}{st:P.St}(t:List UInt8×List UInt8)(n:Nat)(am:List (List UInt8))(h:At l (R.lnSet t++r) st)(ht:VSt t)(hn:n<3)(ha:t.1 ∉ am) :
  (xB l st n am).1=t/\At l r (xB l st n am).2:=by
 have e:R.lnSet t++r=[32,32,32,32]++(qy++32 :: (R.q t.1++32 :: 61 :: 32 :: (R.q t.2++59 :: 10 :: r))):=by
  unfold R.lnSet qy;simp
 rw[e] at h
 have h1:=(h.blanks _ (by decide)).word qy (by decide) (by decide)
 have hA:yR l st n am=qQ l (zH l st qy) am:=by unfold yR;rw[jE _ _ _ (by omega)]
 obtain⟨a1,a2⟩:=h1.edited am ht.name ht.nl ha
 obtain⟨b1,b2⟩:=(a2.blank (by decide)).value ht.val ht.vl
 unfold xB
 rw[hA,a1,b1]
 exact⟨rfl,(b2.sign 59 (by decide)).blank (by decide)⟩
theorem At.drop_ {l r:List UInt8}{st:P.St}(t:List UInt8)(n:Nat)(am:List (List UInt8))(h:At l (R.lnDrop t++r) st)(ht:VDp t)(hn:n<3)(ha:t ∉ am) :
  (qu l st n am).1=t/\At l r (qu l st n am).2:=by
 have e:R.lnDrop t++r=[32,32,32,32]++(qX++32 :: (R.q t++59 :: 10 :: r)):=by
  unfold R.lnDrop qX;simp
 rw[e] at h
 have h1:=(h.blanks _ (by decide)).word qX (by decide) (by decide)
 have hA:yS l st n am=qQ l (zH l st qX) am:=by unfold yS;rw[jE _ _ _ (by omega)]
 obtain⟨a1,a2⟩:=h1.edited am ht.name ht.nl ha
 unfold qu
 rw[hA,a1]
 exact⟨rfl,(a2.sign 59 (by decide)).blank (by decide)⟩
theorem At.stLoop {l r:List UInt8}(ad:∀st,At l r st->zu st qy=false):∀(ts:List (List UInt8×List UInt8)) (ab:Nat) (st:P.St) (aa:List (List UInt8×List UInt8)),
  At l ((ts.map R.lnSet).flatten++r) st->(∀m∈ts,VSt m)->((aa++ts).map Prod.fst).Pairwise (·≠·)->aa.length+ts.length<=3->ts.length<ab->(qP l ab st aa).1=aa++ts/\At l r (qP l ab st aa).2
 | [],ab+1,st,aa,h,_,_,_,_=>by
  have h':At l r st:=h
  unfold qP
  rw[ad st h',if_neg (by simp)]
  exact⟨by simp,h'⟩
 | t :: ts,ab+1,st,aa,h,hv,hp,hl,hf=>by
  have h':At l (R.lnSet t++((ts.map R.lnSet).flatten++r)) st:=by simpa using h
  have hs:zu st qy=true:=by
   have e:R.lnSet t++((ts.map R.lnSet).flatten++r)=[32,32,32,32]++(qy++32 :: (R.q t.1++32 :: 61 :: 32 :: (R.q t.2++59 :: 10 :: ((ts.map R.lnSet).flatten++r)))):=by
    unfold R.lnSet qy;simp
   rw[e] at h'
   rw[(h'.blanks _ (by decide)).seesWord qy (by decide) (by decide)];simp
  simp only[zm] at hl hf
  have ae:t.1 ∉ aa.map Prod.fst:=by
   rw[xy,List.pairwise_append] at hp
   intro hm
   exact hp.2.2 _ hm t.1 (by simp) rfl
  obtain⟨a1,a2⟩:=h'.set_ t aa.length (aa.map Prod.fst) (hv t (by simp)) (by omega) ae
  unfold qP
  rw[hs,if_pos rfl,a1]
  have:=At.stLoop ad ts ab _ (aa++[t]) a2 (fun x hx=>hv x (by simp[hx])) (by simpa using hp) (by simp;omega) (by omega)
  exact⟨by rw[this.1];simp,this.2⟩
theorem At.dpLoop {l r:List UInt8}(ad:List (List UInt8))(ae:∀st,At l r st->zu st qX=false):∀(ts:List (List UInt8)) (ab:Nat) (st:P.St) (aa:List (List UInt8)),
  At l ((ts.map R.lnDrop).flatten++r) st->(∀m∈ts,VDp m)->(ad++aa++ts).Pairwise (·≠·)->aa.length+ts.length<=3->ts.length<ab->(qJ l ad ab st aa).1=aa++ts/\At l r (qJ l ad ab st aa).2
 | [],ab+1,st,aa,h,_,_,_,_=>by
  have h':At l r st:=h
  unfold qJ
  rw[ae st h',if_neg (by simp)]
  exact⟨by simp,h'⟩
 | t :: ts,ab+1,st,aa,h,hv,hp,hl,hf=>by
  have h':At l (R.lnDrop t++((ts.map R.lnDrop).flatten++r)) st:=by simpa using h
  have hs:zu st qX=true:=by
   have e:R.lnDrop t++((ts.map R.lnDrop).flatten++r)=[32,32,32,32]++(qX++32 :: (R.q t++59 :: 10 :: ((ts.map R.lnDrop).flatten++r))):=by
    unfold R.lnDrop qX;simp
   rw[e] at h'
   rw[(h'.blanks _ (by decide)).seesWord qX (by decide) (by decide)];simp
  simp only[zm] at hl hf
  have af:t ∉ ad++aa:=by
   rw[List.pairwise_append] at hp
   intro hm
   exact hp.2.2 _ hm t (by simp) rfl
  obtain⟨a1,a2⟩:=h'.drop_ t aa.length (ad++aa) (hv t (by simp)) (by omega) af
  unfold qJ
  rw[hs,if_pos rfl,a1]
  have:=At.dpLoop ad ae ts ab _ (aa++[t]) a2 (fun x hx=>hv x (by simp[hx])) (by simpa using hp) (by simp;omega) (by omega)
  exact⟨by rw[this.1];simp,this.2⟩
theorem At.len {l r:List UInt8}{st:P.St}(h:At l r st):r.length<=l.length:=by
 obtain⟨p,b,_,hd,_,_⟩:=h.pos
 have:=congrArg List.length hd
 simp only[List.length_drop,zW] at this;omega
theorem zk7 (x:P.Rl):R.lnTo (toRl x)=if x.rep=[] then [] else [32,32,32,32]++(qR++32 :: (R.q x.rep++[59,10])):=by
 unfold R.lnTo toRl rlOf qR
 by_cases h:x.rep=[] <;> simp[h]
theorem fY (x:P.Rl)(r:List UInt8):R.lines (toRl x)++r=[32,32]++(qm++32 :: (R.decI x.number++32 :: 123 :: ([10,32,32,32,32]++(j3++32 :: (R.q x.path++59 :: 10 :: ((x.ms.map fun m=>R.lnMt (mtOf m)).flatten++
  ([32,32,32,32]++(jP++32 :: (R.lnTgs x.tg++59 :: 10 :: (R.lnTo (toRl x)++((x.sets.map R.lnSet).flatten++((x.drops.map R.lnDrop).flatten++32 :: 32 :: 125 :: 10 :: r)))))))))))):=by
 have e:(toRl x).ms.map R.lnMt=x.ms.map fun m=>R.lnMt (mtOf m):=by
  show(x.ms.map mtOf).map R.lnMt=_
  rw[List.map_map];rfl
 unfold R.lines R.lnHead
 rw[e]
 show(([32,32,114,117,108,101,32]++R.decI x.number++_++R.q x.path++_)++_++_++R.lnTgs x.tg++_++_++(x.sets.map R.lnSet).flatten++(x.drops.map R.lnDrop).flatten++_)++r=_
 unfold qm j3 jP
 simp
theorem zaF {l r:List UInt8}(ds:List (List UInt8))(w:List UInt8)(h1:qX≠w)(h2:[125]≠w)(st:P.St)(h:At l ((ds.map R.lnDrop).flatten++32 :: 32 :: 125 :: r) st):zu st w=false:=by
 cases ds with
 | nil=>
  have h':At l ([32,32]++125 :: r) st:=h
  rw[(h'.blanks _ (by decide)).seesSign (by decide)];simpa using h2
 | cons d ds=>
  have e:((d :: ds).map R.lnDrop).flatten++32 :: 32 :: 125 :: r=[32,32,32,32]++(qX++32 :: (R.q d++59 :: 10 :: ((ds.map R.lnDrop).flatten++32 :: 32 :: 125 :: r))):=by
   rw[xi,xP];unfold R.lnDrop qX;simp
  rw[e] at h
  rw[(h.blanks _ (by decide)).seesWord qX (by decide) (by decide)];simpa using h1
theorem zmY {l r:List UInt8}(ss:List (List UInt8×List UInt8))(ds:List (List UInt8))(w:List UInt8)(h0:qy≠w)(h1:qX≠w)(h2:[125]≠w)(st:P.St)(h:At l ((ss.map R.lnSet).flatten++((ds.map R.lnDrop).flatten++32 :: 32 :: 125 :: r)) st):zu st w=false:=by
 cases ss with
 | nil=>exact zaF ds w h1 h2 st h
 | cons d ss=>
  have e:((d :: ss).map R.lnSet).flatten++((ds.map R.lnDrop).flatten++32 :: 32 :: 125 :: r)=[32,32,32,32]++(qy++32 :: (R.q d.1++32 :: 61 :: 32 :: (R.q d.2++59 :: 10 :: ((ss.map R.lnSet).flatten++((ds.map R.lnDrop).flatten++32 :: 32 :: 125 :: r))))):=by
   rw[xi,xP];unfold R.lnSet qy;simp
  rw[e] at h
  rw[(h.blanks _ (by decide)).seesWord qy (by decide) (by decide)];simpa using h0
theorem At.rule {l r:List UInt8}{st:P.St}(x:P.Rl)(aa:List Int)(h:At l (R.lines (toRl x)++r) st)(hv:VRl x)(hn:aa.length<6)(ho:x.number ∉ aa) :
  (qp l st aa).1=x/\At l r (qp l st aa).2:=by
 rw[fY] at h
 have ad:8<=l.length:=by
  have:=h.len
  simp only[zW,zm,qm,qi] at this;omega
 have h1:=(h.blanks _ (by decide)).word qm (by decide) (by decide)
 obtain⟨n1,n2⟩:=h1.num ⟨hv.num.1,by have:=hv.num.2;omega⟩ (fun c cs e=>by cases e;decide)
 have hA:yJ l st aa=(x.number,(qU l (zH l st qm)).2):=by
  unfold yJ xU
  rw[jE _ _ _ (by omega),n1]
  rw[yC _ (decide (65535<x.number)) _ _ (by have:=hv.num.2;simp;omega)]
  rw[yC _ _ _ _ (by rw[List.any_eq_false];intro y hy;simp;intro e;subst e;exact ho hy)]
 have h2:=((n2.blank (by decide)).sign 123 (by decide)).blanks _ (by decide)
 obtain⟨b1,b2⟩:=h2.path j3 (by decide) (by decide) hv.path hv.pl
 have hB:yl l (qU l (zH l st qm)).2=xL l (zH l (qU l (zH l st qm)).2 [123]) j3:=rfl
 rw[<-hB] at b1 b2
 generalize hb:yl l (qU l (zH l st qm)).2=b at b1 b2
 obtain⟨m1,m2⟩:=At.mtLoop (l:=l) (fun s hs=>by rw[(hs.blanks [32,32,32,32] (by decide)).seesWord jP (by decide) (by decide)];decide) x.ms (l.length+1) b.2 [] (b2.blank (by decide)) hv.ms (by have:=hv.ml;simp;omega) (by have:=hv.ml;omega)
 generalize hm:qZ l (l.length+1) b.2 []=m at m1 m2
 obtain⟨t1,t2⟩:=At.targets x.tg (m2.blanks _ (by decide)) hv.t0 hv.tg hv.tl (by have:=hv.tl;omega)
 generalize ht:zz l m.2=t at t1 t2
 have hC:(xq l t.2).1=x.rep/\At l ((x.sets.map R.lnSet).flatten++((x.drops.map R.lnDrop).flatten++32 :: 32 :: 125 :: 10 :: r)) (xq l t.2).2:=by
  have t3:=t2.blank (by decide)
  rw[zk7] at t3
  unfold xq
  by_cases hr:x.rep=[]
  ·rw[if_pos hr] at t3
   have t4:At l ((x.sets.map R.lnSet).flatten++((x.drops.map R.lnDrop).flatten++32 :: 32 :: 125 :: 10 :: r)) t.2:=t3
   rw[zmY _ _ qR (by decide) (by decide) (by decide) _ t4,if_neg (by simp)]
   exact⟨hr.symm,t4⟩
  ·rw[if_neg hr] at t3
   have t4:At l ([32,32,32,32]++(qR++32 :: (R.q x.rep++59 :: (10 :: ((x.sets.map R.lnSet).flatten++((x.drops.map R.lnDrop).flatten++32 :: 32 :: 125 :: 10 :: r)))))) t.2:=by simpa using t3
   have t5:=t4.blanks _ (by decide)
   have hp:=hv.rep.resolve_left hr
   rw[t5.seesWord qR (by decide) (by decide),if_pos (by simp)]
   obtain⟨c1,c2⟩:=t5.path qR (by decide) (by decide) hp.1 hp.2
   exact⟨c1,c2.blank (by decide)⟩
 obtain⟨c1,c2⟩:=hC
 generalize hc:xq l t.2=c at c1 c2
 have ab:=hv.once
 obtain⟨s1,s2⟩:=At.stLoop (l:=l) (fun s hs=>zaF x.drops qy (by decide) (by decide) s hs) x.sets (l.length+1) c.2 [] c2 hv.sets (by rw[List.nil_append];exact(List.pairwise_append.1 ab).1) (by have:=hv.sl;simp;omega) (by have:=hv.sl;omega)
 rw[List.nil_append] at s1
 generalize hs:qP l (l.length+1) c.2 []=s at s1 s2
 obtain⟨d1,d2⟩:=At.dpLoop (l:=l) (s.1.map Prod.fst) (fun q hq=>by rw[(At.blanks [32,32] hq (by decide)).seesSign (by decide)];decide) x.drops (l.length+1) s.2 [] s2 hv.drops (by rw[s1,xn];exact ab) (by have:=hv.dl;simp;omega) (by have:=hv.dl;omega)
 rw[List.nil_append] at d1
 generalize hd:qJ l (s.1.map Prod.fst) (l.length+1) s.2 []=d at d1 d2
 have hR:qp l st aa=(⟨x.number,b.1,m.1,t.1,c.1,s.1,d.1⟩,zH l d.2 [125]):=by
  unfold qp
  rw[hA]
  unfold vI
  simp only
  rw[hb,hm]
  unfold vH
  rw[ht]
  unfold yq
  rw[hc,hs]
  unfold jq
  rw[hd]
 rw[hR]
 refine⟨?_,((d2.blanks [32,32] (by decide)).sign 125 (by decide)).blank (by decide)⟩
 show(⟨x.number,b.1,m.1,t.1,c.1,s.1,d.1⟩:P.Rl)=x
 rw[b1,m1,t1,c1,s1,d1];rfl
theorem At.rlLoop {l r:List UInt8}(ad:∀st,At l r st->zu st qm=false):∀(xs:List P.Rl) (ab:Nat) (st:P.St) (aa:List P.Rl),
  At l ((xs.map fun x=>R.lines (toRl x)).flatten++r) st->(∀m∈xs,VRl m)->((aa++xs).map P.Rl.number).Pairwise (·<·)->aa.length+xs.length<=6->xs.length<ab->(qf l ab st aa).1=aa++xs/\At l r (qf l ab st aa).2
 | [],ab+1,st,aa,h,_,_,_,_=>by
  have h':At l r st:=h
  unfold qf
  rw[ad st h',if_neg (by simp)]
  exact⟨by simp,h'⟩
 | x :: xs,ab+1,st,aa,h,hv,hp,hl,hf=>by
  have h':At l (R.lines (toRl x)++((xs.map fun x=>R.lines (toRl x)).flatten++r)) st:=by simpa using h
  have hs:zu st qm=true:=by
   have h2:=h'
   rw[fY] at h2
   rw[(h2.blanks _ (by decide)).seesWord qm (by decide) (by decide)];simp
  simp only[zm] at hl hf
  have ae:x.number ∉ aa.map P.Rl.number:=by
   rw[xy,List.pairwise_append] at hp
   intro hm
   have:=hp.2.2 _ hm x.number (by simp)
   omega
  obtain⟨a1,a2⟩:=h'.rule x (aa.map P.Rl.number) (hv x (by simp)) (by simp;omega) ae
  unfold qf
  rw[hs,if_pos rfl,a1]
  have:=At.rlLoop ad xs ab _ (aa++[x]) a2 (fun y hy=>hv y (by simp[hy])) (by simpa using hp) (by simp;omega) (by omega)
  exact⟨by rw[this.1];simp,this.2⟩
theorem kM (x:P.Hst)(r:List UInt8):R.hostLines (toR x)++r=R.wHost++32 :: (R.q x.name++32 :: 123 :: 10 :: ((x.rules.map fun x=>R.lines (toRl x)).flatten++125 :: 10 :: r)):=by
 have e:(toR x).rules.map R.lines=x.rules.map fun r=>R.lines (toRl r):=by
  show(x.rules.map toRl).map R.lines=_
  rw[List.map_map];rfl
 unfold R.hostLines R.wHost
 rw[e]
 show([104,111,115,116,32]++R.q x.name++_++_++_)++r=_
 simp
theorem At.host {l r:List UInt8}{st:P.St}(x:P.Hst)(aa:List (List UInt8))(h:At l (R.hostLines (toR x)++r) st)(hv:VHst x)(hn:aa.length<4)(ho:x.name ∉ aa) :
  (qv l st aa).1=x/\At l r (qv l st aa).2:=by
 rw[kM] at h
 have ab:7<=l.length:=by
  have:=h.len
  simp only[zW,zm,R.wHost,qi,R.q_len] at this;omega
 obtain⟨n1,n2,n3,n4⟩:=zmV hv.name
 have h1:=h.word R.wHost (by decide) (by decide)
 obtain⟨a1,a2⟩:=h1.str hv.nl n1 n2
 have hA:jK l st aa=(x.name,(zg l (zH l st R.wHost)).2):=by
  unfold jK qj kl
  rw[jE _ _ _ (by omega),a1,n4]
  rw[yC _ (!R.named x.name true) _ _ (by rw[n3];rfl)]
  rw[yC _ _ _ _ (by rw[List.any_eq_false];intro y hy;simp;intro e;subst e;exact ho hy)]
 have h2:=((a2.blank (by decide)).sign 123 (by decide)).blank (by decide)
 obtain⟨b1,b2⟩:=At.rlLoop (l:=l) (fun s hs=>by rw[hs.seesSign (by decide)];decide) x.rules (l.length+1) _ [] h2 hv.rules (by rw[List.nil_append];exact hv.ord) (by have:=hv.rl;simp;omega) (by have:=hv.rl;omega)
 unfold qv zdD
 rw[hA]
 simp only
 rw[b1]
 exact⟨rfl,(b2.sign 125 (by decide)).blank (by decide)⟩
theorem kN (a:List UInt8):xf a a=false:=by
 unfold xf
 induction a with
 | nil=>rfl
 | cons c a ih=>unfold Op.bytesLess;simp[ih]
theorem At.hsLoop {l:List UInt8}:∀(xs:List P.Hst) (ab:Nat) (st:P.St) (aa:List P.Hst),
  At l (xs.map fun x=>R.hostLines (toR x)).flatten st->(∀m∈xs,VHst m)->((aa++xs).map P.Hst.name).Pairwise (fun a b=>xf a b=true)->aa.length+xs.length<=4->xs.length<ab->(qG l ab st aa).1=aa++xs/\At l [] (qG l ab st aa).2
 | [],ab+1,st,aa,h,_,_,_,_=>by
  have h':At l ([]++[]) st:=h
  have ht:TokAt [] [] 0:=⟨rfl,fun c cs e=>by cases e⟩
  unfold qG
  rw[h'.sees ht,if_neg (by decide)]
  exact⟨by simp,h'⟩
 | x :: xs,ab+1,st,aa,h,hv,hp,hl,hf=>by
  have h':At l (R.hostLines (toR x)++(xs.map fun x=>R.hostLines (toR x)).flatten) st:=by simpa using h
  have hs:zu st R.wHost=true:=by
   have h2:=h'
   rw[kM] at h2
   rw[h2.seesWord R.wHost (by decide) (by decide)];simp
  simp only[zm] at hl hf
  have ad:x.name ∉ aa.map P.Hst.name:=by
   rw[xy,List.pairwise_append] at hp
   intro hm
   have:=hp.2.2 _ hm x.name (by simp)
   rw[kN] at this;cases this
  obtain⟨a1,a2⟩:=h'.host x (aa.map P.Hst.name) (hv x (by simp)) (by simp;omega) ad
  unfold qG
  rw[hs,if_pos rfl,a1]
  have:=At.hsLoop xs ab _ (aa++[x]) a2 (fun y hy=>hv y (by simp[hy])) (by simpa using hp) (by simp;omega) (by omega)
  exact⟨by rw[this.1];simp,this.2⟩
theorem t6 (hs:List P.Hst)(hv:VHs hs):(ze (R.plain (hs.map toR))).1=hs/\(ze (R.plain (hs.map toR))).2.broken=false/\(ze (R.plain (hs.map toR))).2.err=0:=by
 rw[wA]
 generalize hl:(hs.map fun h=>R.hostLines (toR h)).flatten=l
 have h0:At l (hs.map fun h=>R.hostLines (toR h)).flatten (j5 l):=⟨rfl,rfl,0,[],(fun c hc=>by cases hc),by rw[hl];rfl,zl _,rfl⟩
 have hf:hs.length<l.length+1:=by
  have:hs.length<=l.length:=by
   rw[<-hl]
   have:∀xs:List P.Hst,xs.length<=(xs.map fun h=>R.hostLines (toR h)).flatten.length:=fun xs=>by
    induction xs with
    | nil=>simp
    | cons x xs ih=>
     rw[xi,xP,zW,zm]
     have:1<=(R.hostLines (toR x)).length:=by unfold R.hostLines;simp only[zW,zm,qi];omega
     omega
   exact this hs
  omega
 obtain⟨a1,a2⟩:=At.hsLoop hs (l.length+1) (j5 l) [] h0 hv.hosts (by rw[List.nil_append];exact hv.ord) (by have:=hv.hl;simp;omega) hf
 have a3:At l ([]++[]) (qG l (l.length+1) (j5 l) []).2:=a2
 obtain⟨_,k0,a4⟩:=a3.tok (t:=[]) (r:=[]) (k:=0) ⟨rfl,fun c cs e=>by cases e⟩
 have he:yY l (qG l (l.length+1) (j5 l) []).2=zy l (qG l (l.length+1) (j5 l) []).2 true:=by
  unfold yY;rw[k0];rfl
 unfold ze
 exact⟨by rw[a1];rfl,by rw[he];exact a4.ok,by rw[he];exact a4.err⟩
end Go.Proofs.YtfocdefchbnkpaaGreatDoor
