/- Packed policies, in plain Lean: the two readings of bytes agree. -/
import Derived.Test.YtfocdefchbnkpaaGreatDoorAli
import Derived.Test.YtfocdefchbnkpaaGreatDoorRdA
import Derived.Test.YtfocdefchbnkpaaGreatDoorEqD
import Derived.Shelf.RegionOpenPlain
import Derived.Deep.AppendLies
set_option maxRecDepth 100000
set_option maxHeartbeats 20000000
namespace Go.Proofs.YtfocdefchbnkpaaGreatDoor
open Go.RowKit
theorem zkZ {a b:List UInt8}(h1:Go.Sort.ltStr b a=false)(h2:a≠b):qu a b=true:=by
 rw[yl]
 cases h:Go.Sort.ltStr a b with
 | true=>rfl
 | false=>exact absurd (zc2 a b h h1) h2
theorem zlO {a b:List UInt8}(h:qu a b=true):Go.Sort.ltStr b a=false:=by
 rw[yl] at h
 exact Go.Sort.SWO.asymmA Go.Sort.swo_ltStr h
theorem zqN {α:Type}{R S:α->α->Prop}{l:List α}(h1:l.Pairwise R)(h2:l.Pairwise S):l.Pairwise (fun a b=>R a b/\S a b):=by
 induction l with
 | nil=>exact .nil
 | cons x l ih=>
  rw[List.pairwise_cons] at h1 h2 ⊢
  exact⟨fun y hy=>⟨h1.1 y hy,h2.1 y hy⟩,ih h1.2 h2.2⟩
theorem zaO {hs aa:List P.Hst}(h:SrtH hs aa)(hl:hs.length<=4)(hu:∀x∈hs,UHst x)(hd:(hs.map P.Hst.name).Pairwise (·≠·)):VHs aa:=by
 obtain⟨p,h1,h2,h3,h4⟩:=h
 have hn:aa.map P.Hst.name=p.map P.Hst.name:=by
  apply List.ext_getElem
  ·simp[h3]
  ·intro j g1 g2
   simp only[List.getElem_map]
   exact(h4 j (by simpa using g2) (by simpa using g1)).1
 have ab:(p.map P.Hst.name).Pairwise (·≠·):=(h1.map P.Hst.name).symm.pairwise hd (fun e=>fun e'=>e e'.symm)
 refine⟨by rw[h3,h1.length_eq];exact hl,?_,fun x hx=>?_⟩
 ·rw[hn,List.pairwise_map]
  rw[List.pairwise_map] at ab
  exact(zqN h2 ab).imp fun⟨a,b⟩=>zkZ a b
 ·obtain⟨j,hj,rfl⟩:=List.getElem_of_mem hx
  obtain⟨s1,s2,s3⟩:=h4 j (by omega) hj
  have u:=hu _ (h1.mem_iff.1 (List.getElem_mem (by omega:j<p.length)))
  have ad:(aa[j].rules.map P.Rl.number).Pairwise (·≠·):=(s2.map P.Rl.number).symm.pairwise u.once (fun e=>fun e'=>e e'.symm)
  refine⟨by rw[s1];exact u.name,by rw[s1];exact u.nl,by rw[s2.length_eq];exact u.rl,?_,fun r hr=>u.rules r (s2.mem_iff.1 hr)⟩
  rw[List.pairwise_map] at ad ⊢
  refine(zqN s3 ad).imp fun⟨a,b⟩=>?_
  unfold Go.Sort.ltInt at a
  simp at a;omega
theorem zk8 {a b:List P.Rl}(hp:b.Perm a)(hs:b.Pairwise (fun x y=>Go.Sort.ltInt y.number x.number=false))(ho:(a.map P.Rl.number).Pairwise (·<·)):b=a:=by
 refine List.Perm.eq_of_pairwise (le:=fun x y=>Go.Sort.ltInt y.number x.number=false) ?_ hs ?_ hp
 ·intro x y hx hy g1 g2
  have e:x.number=y.number:=by unfold Go.Sort.ltInt at g1 g2;simp at g1 g2;omega
  exact vJ a (ho.imp fun h=>by omega) (hp.mem_iff.1 hx) hy e
 ·rw[List.pairwise_map] at ho
  exact ho.imp fun h=>by unfold Go.Sort.ltInt;simp;omega
theorem zpO {hs aa:List P.Hst}(hv:VHs hs)(h:SrtH hs aa):aa=hs:=by
 obtain⟨p,h1,h2,h3,h4⟩:=h
 have ab:p=hs:=by
  refine List.Perm.eq_of_pairwise (le:=fun x y=>Go.Sort.ltStr y.name x.name=false) ?_ h2 ?_ h1
  ·intro x y hx hy g1 g2
   have e:x.name=y.name:=zc2 _ _ g2 g1
   refine vJ hs (hv.ord.imp fun {a b} h e=>?_) (h1.mem_iff.1 hx) hy e
   subst e;rw[fU] at h;cases h
  ·have:=hv.ord
   rw[List.pairwise_map] at this
   exact this.imp fun h=>zlO h
 subst ab
 apply List.ext_getElem
 ·exact h3
 ·intro j g1 g2
  obtain⟨s1,s2,s3⟩:=h4 j g2 g1
  have v:=hv.hosts p[j] (List.getElem_mem g2)
  have e:=zk8 s2 s3 v.ord
  generalize aa[j]=a at*
  generalize p[j]=b at*
  obtain⟨an,ar⟩:=a
  obtain⟨bn,br⟩:=b
  simp only at s1 e
  rw[s1,e]
theorem zd8 {s:T.St}(h:(qq s).2.bad=false):s.bad=false/\(qq s).1<=255:=by
 unfold qq at h ⊢
 cases hr:s.rest with
 | nil=>rw[hr] at h;cases h
 | cons c r=>rw[hr] at h;exact⟨h,by have:=c.toNat_lt;simp only;omega⟩
theorem ji {m:Nat}{s:T.St}(h:(zy m s).2.bad=false):s.bad=false/\(zy m s).1<=m:=by
 unfold zy at h ⊢
 split
 ·rename_i hc;rw[if_pos hc] at h;cases h
 ·rename_i hc;rw[if_neg hc] at h;exact⟨(zd8 h).1,by omega⟩
theorem vz {s:T.St}(h:(zr s).2.bad=false):s.bad=false/\(zr s).1.length<=24:=by
 unfold zr at h ⊢
 split
 ·rename_i hc;rw[if_pos hc] at h;cases h
 ·rename_i hc
  rw[if_neg hc] at h
  obtain⟨a,b⟩:=ji h
  exact⟨a,by simp only[List.length_take];omega⟩
theorem zhV {s:T.St}(h:(xt s).2.bad=false):s.bad=false/\0<=(xt s).1/\(xt s).1<=65535:=by
 obtain⟨a,b⟩:=zd8 (show(qq (qq s).2).2.bad=false from h)
 obtain⟨c,d⟩:=zd8 a
 refine⟨c,?_⟩
 show 0<=(((qq s).1+256*(qq (qq s).2).1:Nat):Int)/\(((qq s).1+256*(qq (qq s).2).1:Nat):Int)<=65535
 omega
theorem j3 {s:T.St}{b:Bool}(h:(qT s b).bad=false):s.bad=false/\b=true:=by
 cases b with
 | true=>exact⟨h,rfl⟩
 | false=>cases h
theorem kf {α:Type}(f:T.St->α×T.St)(V:α->Prop)(hf:∀s,(f s).2.bad=false->s.bad=false/\V (f s).1):∀(n:Nat) (s:T.St),(qi f n s).2.bad=false->s.bad=false/\(qi f n s).1.length=n/\∀x∈(qi f n s).1,V x
 | 0,s,h=>⟨h,rfl,fun x hx=>by cases hx⟩
 | n+1,s,h=>by
  obtain⟨a,b,c⟩:=kf f V hf n (f s).2 (show(qi f n (f s).2).2.bad=false from h)
  obtain⟨d,e⟩:=hf s a
  refine⟨d,by show(_ :: _).length=_;rw[zoF,b],fun x hx=>?_⟩
  rcases List.mem_cons.1 hx with rfl | hx
  ·exact e
  ·exact c x hx
theorem zgV {s:T.St}(h:(ko s).2.bad=false):s.bad=false/\R.value (ko s).1=true/\(ko s).1.length<=24:=by
 obtain⟨a,b⟩:=j3 (show(qT (zr s).2 (R.value (zr s).1)).bad=false from h)
 obtain⟨c,d⟩:=vz a
 exact⟨c,b,d⟩
theorem zrT (s:T.St)(h:(T.mt s).2.bad=false):s.bad=false/\∃m,VMt m/\(T.mt s).1=mtOf m:=by
 have hA:∀(hh:(kh s).2.bad=false),s.bad=false/\R.header (kh s).1 false=true/\(kh s).1.length<=24:=fun hh=>by
  obtain⟨a,b⟩:=j3 (show(qT (zr s).2 (R.header (zr s).1 false)).bad=false from hh)
  obtain⟨c,d⟩:=vz a
  exact⟨c,b,d⟩
 unfold T.mt at h ⊢
 by_cases hc:(zy 1 (kh s).2).1=1
 ·rw[if_pos hc] at h ⊢
  obtain⟨a,b,c⟩:=zgV h
  obtain⟨d,e,f⟩:=hA (ji a).1
  generalize(ko (zy 1 (kh s).2).2).1=vl at*
  generalize(kh s).1=nm at*
  refine⟨d,⟨nm,true,vl⟩,?_,rfl⟩
  exact { name:=e,nl:=f,val:=b,vl:=c,no:=fun h=>by cases h }
 ·rw[if_neg hc] at h ⊢
  obtain⟨d,e,f⟩:=hA (ji h).1
  generalize(kh s).1=nm at*
  refine⟨d,⟨nm,false,[]⟩,?_,rfl⟩
  exact { name:=e,nl:=f,val:=rfl,vl:=zo _,no:=fun _=>rfl }
theorem zf5 {α β:Type}(c:α->β)(V:α->Prop):∀(l:List β),(∀x∈l,∃a,V a/\x=c a)->∃xs:List α,l=xs.map c/\∀a∈xs,V a
 | [],_=>⟨[],rfl,fun a h=>by cases h⟩
 | x :: l,h=>by
  obtain⟨xs,e,hv⟩:=zf5 c V l (fun y hy=>h y (by simp[hy]))
  obtain⟨a,va,ea⟩:=h x (by simp)
  exact⟨a :: xs,by rw[e,ea];rfl,fun b hb=>by rcases List.mem_cons.1 hb with rfl | hb;exact va;exact hv b hb⟩
theorem zq6 {s:T.St}(h:(jS s).2.bad=false):s.bad=false/\∃ms:List P.Mt,(jS s).1=ms.map mtOf/\ms.length<=3/\∀m∈ms,VMt m:=by
 obtain⟨a,b,c⟩:=kf T.mt (fun x=>∃m,VMt m/\x=mtOf m) zrT _ _ h
 obtain⟨d,e⟩:=ji a
 obtain⟨ms,e2,hv⟩:=zf5 mtOf VMt _ c
 refine⟨d,ms,e2,?_,hv⟩
 have e3:=congrArg List.length e2
 rw[xW] at e3
 rw[<-e3,b];exact e
theorem zsA (s:T.St)(h:(T.tg s).2.bad=false):s.bad=false/\VTg (T.tg s).1:=by
 obtain⟨a,b⟩:=j3 (show(qT (xt (zr s).2).2 _).bad=false from h)
 obtain⟨c,_⟩:=zhV a
 obtain⟨d,e⟩:=vz c
 simp only[Bool.and_eq_true,decide_eq_true_eq] at b
 exact⟨d,b.1,e,by have:=b.2.1;show 1<=(xt (zr s).2).1;omega,b.2.2⟩
theorem zqQ {s:T.St}(h:(jN s).2.bad=false):s.bad=false/\(jN s).1≠[]/\(jN s).1.length<=4/\∀t∈(jN s).1,VTg t:=by
 obtain⟨a,b,c⟩:=kf T.tg VTg zsA _ _ h
 obtain⟨d,e⟩:=j3 a
 obtain⟨f,g⟩:=ji d
 have hb:(jN s).1.length=(zy 4 s).1:=b
 refine⟨f,fun e2=>?_,by rw[hb];exact g,c⟩
 rw[e2] at hb
 simp at e hb;omega
theorem zsC (s:T.St)(h:(T.st s).2.bad=false):s.bad=false/\(T.st s).1.1.length<=24/\R.value (T.st s).1.2=true/\(T.st s).1.2.length<=24:=by
 obtain⟨a,b,c⟩:=zgV (show(ko (zr s).2).2.bad=false from h)
 obtain⟨d,e⟩:=vz a
 exact⟨d,e,b,c⟩
theorem zc0:∀(r am:List (List UInt8)) (s:T.St),(jg am r s).bad=false->am.Pairwise (·≠·)->s.bad=false/\(∀x∈r,R.header x false=true)/\(am++r).Pairwise (·≠·)
 | [],am,s,h,hp=>⟨h,(fun x hx=>by cases hx),by rw[zb3];exact hp⟩
 | x :: r,am,s,h,hp=>by
  have aa:∀(l:List (List UInt8)) (s:T.St),(l.foldl (fun s a=>qT s (decide (x≠a))) s).bad=false->s.bad=false/\x ∉ l:=fun l=>by
   induction l with
   | nil=>intro s h;exact⟨h,by simp⟩
   | cons a l ih=>
    intro s h
    rw[List.foldl_cons] at h
    obtain⟨a1,a2⟩:=ih _ h
    obtain⟨a3,a4⟩:=j3 a1
    exact⟨a3,by simp only[List.mem_cons,not_or];exact⟨by simpa using a4,a2⟩⟩
  unfold jg at h
  have h1:(am.foldl (fun s a=>qT s (decide (x≠a))) (qT s (R.header x false))).bad=false->s.bad=false/\R.header x false=true/\x ∉ am:=fun hh=>by
   obtain⟨b1,b2⟩:=aa am _ hh
   obtain⟨b3,b4⟩:=j3 b1
   exact⟨b3,b4,b2⟩
  have ad:∀(r am:List (List UInt8)) (s:T.St),(jg am r s).bad=false->s.bad=false:=fun r=>by
   induction r with
   | nil=>intro am s h;exact h
   | cons y r ih=>
    intro am s h
    unfold jg at h
    have h2:=ih _ _ h
    have ab:∀(l:List (List UInt8)) (s:T.St),(l.foldl (fun s a=>qT s (decide (y≠a))) s).bad=false->s.bad=false:=fun l=>by
     induction l with
     | nil=>intro s h;exact h
     | cons a l ih=>intro s h;rw[List.foldl_cons] at h;exact(j3 (ih _ h)).1
    exact(j3 (ab am _ h2)).1
  obtain⟨c1,c2,c3⟩:=h1 (ad r _ _ h)
  obtain⟨_,d2,d3⟩:=zc0 r (am++[x]) _ h (t7 hp c3)
  exact⟨c1,fun y hy=>by rcases List.mem_cons.1 hy with rfl | hy;exact c2;exact d2 y hy,by simpa using d3⟩
theorem zkP {s:T.St}(h:(xa s).2.bad=false):s.bad=false/\(xa s).1.1.length<=3/\(∀x∈(xa s).1.1,VSt x)/\(xa s).1.2.length<=3/\(∀x∈(xa s).1.2,VDp x)/\((xa s).1.1.map Prod.fst++(xa s).1.2).Pairwise (·≠·):=by
 obtain⟨a1,a2,a3⟩:=zc0 _ [] _ (show(jg [] ((vB s).1.map Prod.fst++(wg (vB s).2).1) (wg (vB s).2).2).bad=false from h) .nil
 obtain⟨b1,b2,b3⟩:=kf zr (fun x=>x.length<=24) (fun s h=>vz h) _ _ (show(qi zr (zy 3 (vB s).2).1 (zy 3 (vB s).2).2).2.bad=false from a1)
 obtain⟨c1,c2⟩:=ji b1
 obtain⟨d1,d2,d3⟩:=kf T.st (fun x=>x.1.length<=24/\R.value x.2=true/\x.2.length<=24) zsC _ _ (show(qi T.st (zy 3 s).1 (zy 3 s).2).2.bad=false from c1)
 obtain⟨e1,e2⟩:=ji d1
 refine⟨e1,?_,fun x hx=>?_,?_,fun x hx=>?_,by rw[List.nil_append] at a3;exact a3⟩
 ·show(qi T.st (zy 3 s).1 (zy 3 s).2).1.length<=3;rw[d2];exact e2
 ·obtain⟨g1,g2,g3⟩:=d3 x hx
  exact⟨a2 x.1 (List.mem_append_left _ (List.mem_map_of_mem hx)),g1,g2,g3⟩
 ·show(qi zr (zy 3 (vB s).2).1 (zy 3 (vB s).2).2).1.length<=3;rw[b2];exact c2
 ·exact⟨a2 x (List.mem_append_right _ hx),b3 x hx⟩
theorem ziD {s:T.St}(h:(j7 s).2.bad=false):s.bad=false/\R.path (j7 s).1=true/\(j7 s).1.length<=24:=by
 obtain⟨a,b⟩:=j3 (show(qT (zr s).2 (R.path (zr s).1)).bad=false from h)
 obtain⟨c,d⟩:=vz a
 exact⟨c,b,d⟩
theorem zsS {s:List UInt8}(h:R.path s=true):s≠[]:=by
 intro e;subst e;revert h;decide
theorem zrZ {s:T.St}(h:(T.to s).2.bad=false):s.bad=false/\(T.to s).1.1=decide ((T.to s).1.2≠[])/\((T.to s).1.2=[]\/(R.path (T.to s).1.2=true/\(T.to s).1.2.length<=24)):=by
 unfold T.to at h ⊢
 by_cases hc:(zy 1 s).1=1
 ·rw[if_pos hc] at h ⊢
  obtain⟨a,b,c⟩:=ziD h
  exact⟨(ji a).1,by simp only;rw[eq_comm,decide_eq_true_iff];exact zsS b,Or.inr ⟨b,c⟩⟩
 ·rw[if_neg hc] at h ⊢
  exact⟨(ji h).1,rfl,Or.inl rfl⟩
theorem znD {s:T.St}(h:(j1 s).2.bad=false):s.bad=false/\∃x,VRl x/\(j1 s).1=toRl x:=by
 have k1:=@zhV s
 unfold j1 at h ⊢
 generalize xt s=a at*
 have k2:=@ziD a.2
 generalize j7 a.2=b at*
 have k3:=@zq6 b.2
 generalize jS b.2=c at*
 have k4:=@zqQ c.2
 generalize jN c.2=d at*
 have k5:=@zrZ d.2
 generalize T.to d.2=e at*
 have k6:=@zkP e.2
 generalize xa e.2=f at*
 simp only at h
 obtain⟨e1,e2,e3,e4,e5,e6⟩:=k6 h
 obtain⟨o1,o2,o3⟩:=k5 e1
 obtain⟨t1,t2,t3,t4⟩:=k4 o1
 obtain⟨m1,ms,m2,m3,m4⟩:=k3 t1
 obtain⟨p1,p2,p3⟩:=k2 m1
 obtain⟨n1,n2⟩:=k1 p1
 refine⟨n1,⟨a.1,b.1,ms,d.1,e.1.2,f.1.1,f.1.2⟩,?_,?_⟩
 ·exact { num:=n2,path:=p2,pl:=p3,ml:=m3,ms:=m4,t0:=t2,tl:=t3,tg:=t4,rep:=o3,sl:=e2,sets:=e3,dl:=e4,drops:=e5,once:=e6 }
 ·unfold toRl rlOf
  simp only
  rw[m2,o2]
theorem tB:∀(n:Nat) (aa:List R.Rl) (s:T.St),(yM n aa s).2.bad=false->s.bad=false
 | 0,aa,s,h=>h
 | n+1,aa,s,h=>by
  unfold yM at h
  by_cases hb:s.bad=true
  ·rw[if_pos hb] at h;exact h
  ·simpa using hb
theorem zcW:∀(n:Nat) (aa:List P.Rl) (s:T.St),(yM n (aa.map toRl) s).2.bad=false->(∀x∈aa,VRl x)->(aa.map P.Rl.number).Pairwise (·<·)->∃xs:List P.Rl,(yM n (aa.map toRl) s).1=xs.map toRl/\xs.length<=aa.length+n/\(∀x∈xs,VRl x)/\(xs.map P.Rl.number).Pairwise (·<·)
 | 0,aa,s,_,hv,hp=>⟨aa,rfl,by omega,hv,hp⟩
 | n+1,aa,s,h,hv,hp=>by
  unfold yM at h ⊢
  by_cases hb:s.bad=true
  ·rw[if_pos hb] at h;rw[h] at hb;cases hb
  ·rw[if_neg hb] at h ⊢
   obtain⟨a1,a2⟩:=j3 (tB _ _ _ h)
   obtain⟨_,x,vx,ex⟩:=znD a1
   rw[ex] at h ⊢
   have e:aa.map toRl++[toRl x]=(aa++[x]).map toRl:=by simp
   rw[e] at h ⊢
   have ab:((aa++[x]).map P.Rl.number).Pairwise (·<·):=by
    rw[fJ,List.pairwise_append]
    refine⟨hp,by simp,fun y hy z hz=>?_⟩
    simp only[xl,List.map_nil,List.mem_singleton] at hz
    subst hz
    rw[ex] at a2
    rcases List.eq_nil_or_concat aa with rfl | ⟨l,q,rfl⟩
    ·cases hy
    ·rw[List.concat_eq_append,fJ,xl,List.map_nil,List.getLast?_concat] at a2
     have hq:q.number<x.number:=by have h9:(toRl q).number<(toRl x).number:=by { simpa using a2 };exact h9
     rw[List.concat_eq_append,fJ,List.pairwise_append] at hp
     rw[List.concat_eq_append,fJ,List.mem_append] at hy
     rcases hy with hy | hy
     ·have:=hp.2.2 y hy q.number (by simp);omega
     ·simp at hy;omega
   obtain⟨xs,b1,b2,b3,b4⟩:=zcW n (aa++[x]) _ h (fun y hy=>by rcases List.mem_append.1 hy with hy | hy;exact hv y hy;simp at hy;rw[hy];exact vx) ab
   exact⟨xs,b1,by simp at b2;omega,b3,b4⟩
theorem tI:∀(n:Nat) (aa:List R.Hst) (s:T.St),(yt n aa s).2.bad=false->s.bad=false
 | 0,aa,s,h=>h
 | n+1,aa,s,h=>by
  unfold yt at h
  by_cases hb:s.bad=true
  ·rw[if_pos hb] at h;exact h
  ·simpa using hb
theorem zgP {a b c:List UInt8}(h1:qu a b=true)(h2:qu b c=true):qu a c=true:=by
 rw[yl] at *;exact Go.Sort.swo_ltStr.trans _ _ _ h1 h2
theorem zc6:∀(n:Nat) (aa:List P.Hst) (s:T.St),(yt n (aa.map toR) s).2.bad=false->(∀x∈aa,VHst x)->(aa.map P.Hst.name).Pairwise (fun a b=>qu a b=true)->∃xs:List P.Hst,(yt n (aa.map toR) s).1=xs.map toR/\xs.length<=aa.length+n/\(∀x∈xs,VHst x)/\(xs.map P.Hst.name).Pairwise (fun a b=>qu a b=true)
 | 0,aa,s,_,hv,hp=>⟨aa,rfl,by omega,hv,hp⟩
 | n+1,aa,s,h,hv,hp=>by
  unfold yt at h ⊢
  by_cases hb:s.bad=true
  ·rw[if_pos hb] at h;rw[h] at hb;cases hb
  ·rw[if_neg hb] at h ⊢
   have r0:=tI _ _ _ h
   obtain⟨rs,c1,c2,c3,c4⟩:=zcW (zy 6 (yL s (aa.map toR)).2).1 [] (zy 6 (yL s (aa.map toR)).2).2 r0 (fun x hx=>by cases hx) .nil
   obtain⟨f1,f2⟩:=ji (tB _ _ _ r0)
   obtain⟨a1,a2⟩:=j3 (show(qT (qT (zr s).2 (R.named (zr s).1 false)) _).bad=false from f1)
   obtain⟨a3,a4⟩:=j3 a1
   obtain⟨_,a5⟩:=vz a3
   have hA:(yL s (aa.map toR)).1=(zr s).1:=rfl
   have ab:(yM (zy 6 (yL s (aa.map toR)).2).1 [] (zy 6 (yL s (aa.map toR)).2).2).1=rs.map toRl:=c1
   rw[hA,ab] at h ⊢
   generalize(zr s).1=nm at*
   have e:aa.map toR++[(⟨nm,rs.map toRl⟩:R.Hst)]=(aa++[(⟨nm,rs⟩:P.Hst)]).map toR:=by simp[toR]
   rw[e] at h ⊢
   have vx:VHst ⟨nm,rs⟩:=⟨a4,a5,by simp at c2;show rs.length<=6;omega,c4,c3⟩
   have ad:((aa++[(⟨nm,rs⟩:P.Hst)]).map P.Hst.name).Pairwise (fun a b=>qu a b=true):=by
    rw[fJ,List.pairwise_append]
    refine⟨hp,by simp,fun y hy z hz=>?_⟩
    simp only[xl,List.map_nil,List.mem_singleton] at hz
    rw[hz]
    rcases List.eq_nil_or_concat aa with rfl | ⟨l,q,rfl⟩
    ·cases hy
    ·rw[List.concat_eq_append,fJ,xl,List.map_nil,List.getLast?_concat] at a2
     have hq:qu q.name nm=true:=a2
     rw[List.concat_eq_append,fJ,List.pairwise_append] at hp
     rw[List.concat_eq_append,fJ,List.mem_append] at hy
     rcases hy with hy | hy
     ·exact zgP (hp.2.2 y hy q.name (by simp)) hq
     ·simp at hy;rw[hy];exact hq
   obtain⟨xs,b1,b2,b3,b4⟩:=zc6 n (aa++[⟨nm,rs⟩]) _ h (fun y hy=>by rcases List.mem_append.1 hy with hy | hy;exact hv y hy;simp at hy;rw[hy];exact vx) ad
   exact⟨xs,b1,by simp at b2;omega,b3,b4⟩
theorem zq5 {b:List UInt8}(h:(tU b).2.bad=false):∃hs,VHs hs/\(tU b).1=hs.map toR:=by
 obtain⟨xs,b1,b2,b3,b4⟩:=zc6 (zy 4 (wQ ⟨b,false⟩)).1 [] (zy 4 (wQ ⟨b,false⟩)).2 h (fun x hx=>by cases hx) .nil
 obtain⟨_,f2⟩:=ji (tI _ _ _ h)
 exact⟨xs,⟨by simp at b2;omega,b4,b3⟩,b1⟩
theorem zoY {b:List UInt8}{hs:List P.Hst}(hv:VHs hs)(hp:x9 hs=b) :
  jO b=hs/\(qD (R.plain ((jO b).map toR))).1=hs/\(qD (R.plain ((jO b).map toR))).2.broken=false/\(qD (R.plain ((jO b).map toR))).2.err=0/\∀hs',SrtH hs hs'->hs'=hs:=by
 have e:jO b=hs:=by rw[<-hp];exact zd4 hs hv
 rw[e]
 obtain⟨h1,h2,h3⟩:=zk6 hs hv
 exact⟨rfl,h1,h2,h3,fun hs' h=>zpO hv h⟩
theorem zoW:(Tryz.prog).cellsOf 5=1:=by kernel_rfl
theorem zjB {w:World}{wb:Nat}{l:List UInt8}{op:Int}(h:WInv w wb l op)(h0:l≠[]) :
  Calls Tryz.prog 69 #[.pointer (some ⟨wb,0,none⟩)] w fun e w'=>e = .returned (.string (R.str l))/\Kept wb wtags w w':=by
 obtain⟨p,v,af,ae⟩:∃p v,w.heap[wb]?=some (.cells #[p,v,.int .i64 op] 143 (0,0))/\w.ownsRow (wb+1) 5 1 v l.length (Lib.byteCells l):=by
  rcases h with ⟨v,h1,h2⟩ | ⟨v,h1,h2⟩
  ·exact⟨_,v,h1,h2⟩
  ·exact⟨_,v,h1,h2⟩
 have ai:l.length≠0:=by simpa using h0
 obtain⟨g,aa,ab,rfl,ao,hg,aq,ag,ap,al⟩:∃g aa ab,v = .slice (some ⟨g,0,none⟩) l.length aa/\wb+1<=g/\w.heap[g]?=some (.cells ab 5 (0,0))/\l.length<=aa/\aa<=maxLen/\ab.size=aa*1/\ab.toList.take (l.length*1)=Lib.byteCells l:=by
  rcases ae.2 with ⟨_,hz⟩ | ⟨g,aa,ab,hv,r⟩
  ·exact absurd hz ai
  ·exact⟨g,aa,ab,hv,r⟩
 have c1:w.drew.cell? ⟨wb,1,none⟩=some (.slice (some ⟨g,0,none⟩) l.length aa):=by
  have h1:w.drew.heap[wb]?=some (.cells #[p,.slice (some ⟨g,0,none⟩) l.length aa,.int .i64 op] 143 (0,0)):=af
  exact zB h1
 have am:(Builtin.unsafeSliceData_ #[32] 215 #[.slice (some ⟨g,0,none⟩) l.length aa]).run Tryz.prog w.drew = .ok (.pointer (some ⟨g,0,none⟩)) w.drew:=
  Lib.run_unsafeSliceData_row _ _ _ _ _ _ (by omega)
 have an:(Builtin.unsafeString_ #[215,3] 9 #[.pointer (some ⟨g,0,none⟩),.int .i64 l.length]).run Tryz.prog w.drew = .ok (.string ⟨l.toArray⟩) (w.drew.freeze ⟨g,0,none⟩ l.length):=by
  refine Lib.run_unsafeString_row w.drew 215 3 9 5 Tryz.underlying215 zoW g ab.size (by have ah:w.drew.heap[g]?=some (.cells ab 5 (0,0)):=hg;simp[World.shape?,ah]) l h0 (by omega) (by unfold maxLen at ag;omega) ?_
  intro j x hx
  have:=ae.cells (g:=g) rfl j (.int .u8 x.toNat) (by simp[Lib.byteCells,hx])
  exact this
 have HK:Y (Kept wb wtags w (w.drew.freeze ⟨g,0,none⟩ l.length)):=by
  have aj:∀k,k≠g->(w.drew.freeze ⟨g,0,none⟩ l.length).heap[k]?=w.heap[k]?:=by
   intro k hk
   show((w.drew).freeze ⟨g,0,none⟩ l.length).heap[k]?=(w.drew).heap[k]?
   generalize w.drew=wd
   simp[World.freeze,h0,Array.getElem?_modify,Ne.symm hk]
  have ak:w.heap.size<=(w.drew.freeze ⟨g,0,none⟩ l.length).heap.size:=by
   show(w.drew).heap.size<=_
   generalize w.drew=wd
   simp[World.freeze,h0]
  have ad:(w.drew.freeze ⟨g,0,none⟩ l.length).os=w.os/\(w.drew.freeze ⟨g,0,none⟩ l.length).tape=w.tape/\(w.drew.freeze ⟨g,0,none⟩ l.length).output=w.output:=by
   show _=(w.drew).os/\_=(w.drew).tape/\_=(w.drew).output
   generalize w.drew=wd
   simp[World.freeze,h0]
  refine⟨ad.1,ad.2.1,ad.2.2,ak,fun k hk ht=>aj k (fun e=>?_)⟩
  subst e
  rcases ht with ht | ht
  ·omega
  ·exact ht _ _ _ hg (by decide)
 have ar:(Tryz.prog).follows Departure.mixedOrders=true:=by kernel_rfl
 clear h ae al af
 go_enter Tryz.func69,Tryz.ntmps69
 go_wp2
 go_region_o
 all_goals (go_wp2;go_ret;exact⟨rfl,HK.o⟩)
theorem zfP {w:World}{wb:Nat}{p:Value}{op:Int}(aa:w.heap[wb]?=some (.cells #[p,.slice none 0 0,.int .i64 op] 143 (0,0))) :
  Calls Tryz.prog 69 #[.pointer (some ⟨wb,0,none⟩)] w fun e w'=>e = .returned (.string (R.str []))/\Kept wb wtags w w':=by
 have c1:w.drew.cell? ⟨wb,1,none⟩=some (.slice none 0 0):=by
  have h1:w.drew.heap[wb]?=some (.cells #[p,.slice none 0 0,.int .i64 op] 143 (0,0)):=aa
  exact zB h1
 have ab:(Builtin.unsafeSliceData_ #[32] 215 #[.slice none 0 0]).run Tryz.prog w.drew = .ok (.pointer none) w.drew:=rfl
 have ad:∀W:World,(Builtin.unsafeString_ #[215,3] 9 #[.pointer none,.int .i64 0]).run Tryz.prog W = .ok (.string ⟨#[]⟩) W:=fun W=>by kernel_rfl
 have ae:(Tryz.prog).follows Departure.mixedOrders=true:=by kernel_rfl
 have HK:Y (Kept wb wtags w w.drew):=xi (zg _)
 clear aa
 go_enter Tryz.func69,Tryz.ntmps69
 go_wp2
 go_region_o
 all_goals (go_wp2;go_ret;exact⟨rfl,HK.o⟩)
def GT (w:World):Prop:=Lib.TabIs Tryz.prog w "internal/strconv.uint64pow10" .u64 Lib.pow10Tab
theorem GT.block {w:World}(h:GT w):∃g,(Tryz.prog).globalNamed "internal/strconv.uint64pow10" = some g/\g<w.heap.size:=by
 unfold GT Lib.TabIs World.var? at h
 cases hg:(Tryz.prog).globalNamed "internal/strconv.uint64pow10" with
 | none=>rw[hg] at h;cases h
 | some g=>
  refine⟨g,rfl,?_⟩
  rw[hg] at h
  simp only[Option.bind_some] at h
  by_cases aa:g<w.heap.size
  ·exact aa
  ·rw[Array.getElem?_eq_none (by omega)] at h;cases h
theorem GT.same {w w':World}(h:GT w)(hb:∀g,(Tryz.prog).globalNamed "internal/strconv.uint64pow10" = some g->w'.heap[g]?=w.heap[g]?):GT w':=by
 unfold GT Lib.TabIs World.var? at*
 cases hg:(Tryz.prog).globalNamed "internal/strconv.uint64pow10" with
 | none=>rw[hg] at h;cases h
 | some g=>
  rw[hg] at h
  simp only[Option.bind_some] at h ⊢
  rw[hb g hg];exact h
theorem GT.grown {w w':World}(h:GT w)(hg:w.grownBy w' none):GT w':=h.same fun g e=>by
 obtain⟨g',e',hl⟩:=h.block
 obtain rfl:=x5 (e.symm.trans e')
 exact hg.block g hl (by simp)
def GTB (B:Nat):Prop:=∀g,(Tryz.prog).globalNamed "internal/strconv.uint64pow10" = some g->g<B
theorem GT.bound {w:World}(h:GT w):GTB w.heap.size:=fun g e=>by
 obtain⟨g',e',hl⟩:=h.block
 obtain rfl:=x5 (e.symm.trans e')
 exact hl
theorem GT.kept {w w':World}{B:Nat}{l:List TypeId}(h:GT w)(hk:Kept B l w w')(hB:GTB B):GT w':=h.same fun g e=>hk.block g (h.bound g e) (Or.inl (hB g e))
theorem zcC (w:World)(k:Nat)(os:Array Obj):w.grownBy (Sort.grow (w.drewN k) os) none:=by
 refine zD (jR w k) ?_
 generalize w.drewN k=u
 exact⟨rfl,rfl,rfl,by simp[Sort.grow],fun j hj _=>by simp[Sort.grow,Array.getElem?_append_left hj]⟩
theorem zjP {w:World}(hT:GT w)(n:Int)(hn:0<=n/\n<=99999):Calls Tryz.prog 159 #[.int .i64 n] w fun e w'=>e = .returned (.string (R.str (R.decI n)))/\w.grownBy w' none:=by
 refine(Tryz.strconv_Itoa n (by omega) (by omega) w hT).mono ?_
 rintro e w' ⟨rfl,k,os,rfl⟩
 refine⟨?_,zcC w k os⟩
 rw[zr2 n hn.1];rfl
theorem zlY (l:List (List UInt8×Int))(hs:∀t∈l,t.1.length<=3000/\0<=t.2/\t.2<=99999):(R.lnTgs l).length<=l.length*3200:=by
 have ht:∀t∈l,(R.lnTg t).length<=3100:=fun t ht=>by
  have h:=hs t ht
  have h5:=R.decI_len t.2 h.2
  unfold R.lnTg;simp only[zh,R.q_len,zoF,zmU];omega
 cases l with
 | nil=>simp[R.lnTgs]
 | cons t l=>
  have h3:=ht t (by simp)
  have h4:(l.map fun u=>[44,32]++R.lnTg u).flatten.length<=l.length*3200:=R.flat_len _ _ _ (fun u hu=>by
   have:=ht u (by simp[hu]);simp only[zh,zoF,zmU];omega)
  unfold R.lnTgs
  rw[zh,zoF,Nat.succ_mul];omega
theorem zdV (l:List (List UInt8))(x:List UInt8):zf (l++[x])=zf l++[.string (R.str x)]:=by simp[zf]
theorem zl2 (x:List UInt8)(n:Int):R.str (R.q x)++(⟨#[32]⟩:ByteArray)++R.str (R.decI n)=R.str (R.lnTg (x,n)):=by
 apply ByteArray.ext
 simp[R.str,R.lnTg]
theorem zk7 {w:World}(l:List (List UInt8×Int))(v:Value)(ah:w.ownsRow 0 285 2 v l.length (qB l))(hn:l.length<=4000)
  (hs:∀t∈l,t.1.length<=3000/\0<=t.2/\t.2<=99999) (hT:GT w) :
  Calls Tryz.prog 161 #[v] w fun e w'=>e = .returned (.string (R.str (R.lnTgs l)))/\w.grownBy w' none:=by
 obtain⟨i0,hi,ax,ay,az⟩:=info_parts fC
 obtain⟨va,vc,rfl⟩:=zO ah
 have HR:Y (w.ownsRow 0 285 2 (.slice va l.length vc) l.length (qB l)):=ah
 have HS:Y (∀t∈l,t.1.length<=3000/\0<=t.2/\t.2<=99999):=hs
 have HT:Y (GT w):=hT
 have ag:Y (∀W g aa,w.grownBy W none->W.ownsRow w.heap.size 9 1 (.slice (some ⟨g,0,none⟩) l.length aa) l.length (zf (l.map R.lnTg))->Calls Tryz.prog 220 #[.slice (some ⟨g,0,none⟩) l.length aa,.string ⟨#[44,32]⟩] W fun e w'=>e = .returned (.string (R.str (R.lnTgs l)))/\w.grownBy w' none):=fun W g aa hW ho=>by
  have e1:((l.map R.lnTg).map R.str).map (fun b=>b.data.toList)=l.map R.lnTg:=by
   rw[List.map_map]
   have:((fun b:ByteArray=>b.data.toList) ∘ R.str)=id:=by funext x;exact R.str_toList x
   rw[this,List.map_id]
  have hb:=(zx ho g rfl).2
  have hc:l.length<=aa:=by
   rcases ho.2 with ⟨h,_⟩ | ⟨g',cap',cur,h,_,_,h3,_⟩
   ·cases h
   ·cases h;exact h3
  have h:=Tryz.strings_Join g 0 aa ((l.map R.lnTg).map R.str) ⟨#[44,32]⟩ W (fun j x hx=>by
   have hj:j<l.length:=by have:=(List.getElem?_eq_some_iff.1 hx).1;simpa using this
   rw[Nat.zero_add,qR ho j (by omega)]
   unfold zf
   rw[List.getElem?_map] at hx ⊢
   cases hq:(l.map R.lnTg)[j]? with
   | none=>rw[hq] at hx;cases hx
   | some y=>rw[hq] at hx;simp at hx ⊢;exact hx) hb (by simp;omega) (by simpa using hc) (by
    rw[e1];show(Lib.join (l.map R.lnTg) [44,32]).length<=_;rw[zh7];have:=zlY l hs;omega)
  rw[e1,show(⟨#[44,32]⟩:ByteArray).data.toList=[44,32] from rfl,zh7,xW,xW] at h
  exact Calls.mono h fun e w' ⟨h1,h2⟩=>⟨h1,zD hW (qJ h2)⟩
 clear ah hs hT
 go_enter Tryz.func161,Tryz.ntmps161
 go_wp2_with (at_make;refine wpList_make_own _ rfl _ _ 22 rfl w.heap.size 9 i0 (.string ⟨#[]⟩) 1 Tryz.underlying22 hi ax ay _ _ _ l.length rfl rfl (by omega) ?b2 ?b3 (zw _) ?_)
 case b2=>rw[az];omega
 case b3=>unfold maxLen;omega
 intro w0 av aq
 have ak:Y (w0.ownsRow w.heap.size 9 1 (.slice (some ⟨w.heap.size,0,none⟩) 0 l.length) 0 (zf ((l.take 0).map R.lnTg))):=av
 have ai:Y _:=aq
 clear av aq
 go_wp2
 go_loopw [3,11] (fun sv iv wr=>∃k:Nat,k<=l.length/\iv = .int .i64 k/\(∃g aa,sv = .slice (some ⟨g,0,none⟩) k aa/\Y (wr.ownsRow w.heap.size 9 1 (.slice (some ⟨g,0,none⟩) k aa) k (zf ((l.take k).map R.lnTg))))/\Y (w.grownBy wr none)) (fun _ iv _=>l.length - (intOf iv).toNat)
 case atStart=>exact⟨0,zo _,rfl,⟨_,_,rfl,ak⟩,ai⟩
 case round=>
  obtain⟨k,hk,rfl,⟨g,aa,rfl,HO⟩,HG⟩:=hrel
  clear ak ai
  by_cases ad:k<l.length
  ·have aS:(k:Int)<l.length:=by omega
   obtain⟨gt,aM,au,_,aQ⟩:=World.ownsRow.form HR.o (by omega)
   simp only[qQ] at au
   obtain⟨rfl,_,rfl⟩:=au
   have d0:wr.cell? ⟨gt,k*2,none⟩=some (.string (R.str l[k].1)):=qx (fun t:List UInt8×Int=>[.string (R.str t.1),.int .i64 t.2]) 2 (fun _=>rfl) HR.o HG.o k 0 ad (by omega) rfl
   have d1:wr.cell? ⟨gt,k*2+1,none⟩=some (.int .i64 l[k].2):=qx (fun t:List UInt8×Int=>[.string (R.str t.1),.int .i64 t.2]) 2 (fun _=>rfl) HR.o HG.o k 1 ad (by omega) rfl
   have ab:=HS.o l[k] (List.getElem_mem ad)
   have aE:Y (zf ((l.take (k+1)).map R.lnTg)=zf ((l.take k).map R.lnTg)++[.string (R.str (R.lnTg l[k]))]):=by
    show _=_
    rw[uo ad,fJ,List.map_singleton,zdV]
   generalize l[k]=t at*
   obtain⟨x,n⟩:=t
   simp only at d0 d1 ab
   have HN:Y (0<=n/\n<=99999):=ab.2
   have zq:(R.str (R.q x)).size<=3002:=by rw[R.str_size,R.q_len];omega
   have zd:(R.str (R.decI n)).size<=5:=by rw[R.str_size];exact R.decI_len _ ab.2
   have aN:¬(9223372036854775807<(R.str (R.q x)).size+1):=by omega
   have aO:¬(9223372036854775807<(R.str (R.q x)).size+1+(R.str (R.decI n)).size):=by omega
   have HQ:Y (∀W,Calls Tryz.prog 105 #[.string (R.str x)] W fun e w'=>e = .returned (.string (R.str (R.q x)))/\w'=W):=fun W=>ym x W ab.1
   have HI:Y (∀W,w.grownBy W none->Calls Tryz.prog 159 #[.int .i64 n] W fun e w'=>e = .returned (.string (R.str (R.decI n)))/\W.grownBy w' none):=fun W hW=>zjP (HT.o.grown hW) n HN.o
   have ae:Y ((wr.alloc (.cells #[.string (R.str x),.int .i64 n] 285)).heap[wr.heap.size]?=some (.cells #[.string (R.str x),.int .i64 n] 285)):=heap_alloc_new _ _
   have af:Y (wr.grownBy (wr.alloc (.cells #[.string (R.str x),.int .i64 n] 285)) none):=zL _ _ _
   have aU:=HG.o.size
   have aR:g<wr.heap.size:=(zx HO.o g rfl).2
   clear ab HS ag
   have aJ:=J (zV HO.o af.o (fun k hk c=>by cases c))
   have aj:=J (zD HG.o af.o)
   have b0:=zuH ae.o
   have b1:=zuB ae.o
   have bl:=zI ae.o
   have aB:Y (∀u∈([.string (R.str (R.q x)++⟨#[32]⟩++R.str (R.decI n))]:List Value),u.oneCell'=true):=by
    intro u hu
    simp only[List.mem_cons,List.mem_nil_iff,or_false] at hu
    subst hu;rfl
   have aG:Y (k+1<=maxLen):=by show _<=_;unfold maxLen;omega
   have aC:Y (R.str (R.q x)++(⟨#[32]⟩:ByteArray)++R.str (R.decI n)=R.str (R.lnTg (x,n))):=zl2 x n
   go_wp2
   generalize wr.alloc (.cells #[.string (R.str x),.int .i64 n] 285)=wx at*
   clear d0 d1 HO HG HR af
   go_region_law (first | (refine step_append_lies _ rfl (.tmp 15) (.tmp 24) 22 rfl w.heap.size 9 i0 _ 1 16 Tryz.underlying22 hi ax ay az rfl (by decide) _ _ _ (by simp[Act.eval]) (qK am.o _) ⟨wN.heap.size,0,none⟩ 1 1 [.string (R.str (R.q x)++⟨#[32]⟩++R.str (R.decI n))] (by simp[Act.eval]) rfl aH.o aB.o (by decide) aG.o (by omega) aD.o (wN.heap.size+1) aK.o ?_;intro g9 an w9 aw ar aP aT;have ao:∀j,(Value.slice (some ⟨g,0,none⟩) k aa).ownBlock=some j->w.heap.size<=j:=fun j hj=>(zx am.o j hj).1;have C9:Y (w.grownBy w9 none):=qV (zD aA.o (zL _ _ _)) ar ao;have aI:Y (w9.ownsRow w.heap.size 9 1 (.slice (some ⟨g9,0,none⟩) (k+1) an) (k+1) (zf ((l.take (k+1)).map R.lnTg))):=by { show World.ownsRow _ _ _ _ _ _ _;rw[aE.o,<-aC.o];exact aw };clear aw ar ao) | (go_simp;go_at_call 159;refine(HI.o _ (zD aj.o (zg wx))).mono ?_;rintro e wN ⟨rfl,ap⟩;have GN:wx.grownBy wN none:=zD (zg wx) ap;have aA:=J (zD aj.o GN);have am:=J (zV aJ.o GN (fun k hk c=>by cases c));have sN:wx.heap.size<=wN.heap.size:=GN.size;have aH:Y (∀j u,([.string (R.str (R.q x)++⟨#[32]⟩++R.str (R.decI n))]:List Value)[j]?=some u->(wN.alloc (.cells #[.string (R.str (R.q x)++⟨#[32]⟩++R.str (R.decI n))] 9)).cell? ((⟨wN.heap.size,0,none⟩:Addr).add j)=some u):=zu wN #[_] _ _ rfl;have aD:Y (w.heap.size<=(wN.alloc (.cells #[.string (R.str (R.q x)++⟨#[32]⟩++R.str (R.decI n))] 9)).heap.size):=by { show _<=_;rw[show(wN.alloc (.cells #[.string (R.str (R.q x)++⟨#[32]⟩++R.str (R.decI n))] 9)).heap.size=wN.heap.size+1 from by simp];omega };have aK:Y ((wN.alloc (.cells #[.string (R.str (R.q x)++⟨#[32]⟩++R.str (R.decI n))] 9)).heap.size=wN.heap.size+1):=by { show _=_;simp };clear ap GN) | (go_simp;go_at_call 105;refine(HQ.o _).mono ?_;rintro e w' ⟨rfl,rfl⟩))
   all_goals
    go_wp2
    go_roundw
    case rel=>exact⟨k+1,by omega,by go_num,⟨g9,an,rfl,aI⟩,C9⟩
    case measure=>simp[intOf];omega
  ·have aL:k=l.length:=by omega
   subst aL
   have al:Y (wr.ownsRow w.heap.size 9 1 (.slice (some ⟨g,0,none⟩) l.length aa) l.length (zf (l.map R.lnTg))):=by
    have h:=HO.o
    rw[List.take_length] at h
    exact h
   have aF:Y (Calls Tryz.prog 220 #[.slice (some ⟨g,0,none⟩) l.length aa,.string ⟨#[44,32]⟩] wr fun e w'=>e = .returned (.string (R.str (R.lnTgs l)))/\w.grownBy w' none):=ag.o wr g aa HG.o al.o
   clear ag HO al HS HT HR
   go_wp2_with (go_at_call 220;refine aF.o.mono ?_;rintro e w2 ⟨rfl,h2⟩)
   go_ret
   exact⟨rfl,h2⟩
end Go.Proofs.YtfocdefchbnkpaaGreatDoor
