/- What a text without a fault says, by the program's reader: nothing but what may stand in a policy. -/
import Derived.Test.YtfocdefchbnkpaaGreatDoorAli
import Derived.Test.YtfocdefchbnkpaaGreatDoorRtA
import Derived.Test.YtfocdefchbnkpaaGreatDoorRefS
import Derived.Shelf.RegionOpenPlain
set_option maxRecDepth 100000
set_option maxHeartbeats 20000000
namespace Go.Proofs.YtfocdefchbnkpaaGreatDoor
open Go.RowKit
def PFine (st:P.St):Prop:=st.broken=false/\st.err=0
def Tkd (l:List UInt8)(st:P.St):Prop:=∃p,st.tok=zU l p
theorem yt {st:P.St}{b:Bool}{e a:Int}(he:e≠0)(h:PFine (zX st b e a)):PFine st/\b=false:=by
 cases b with
 | false=>exact⟨h,rfl⟩
 | true=>
  exfalso
  unfold zX ql at h
  rw[if_pos rfl] at h
  split at h
  ·exact he h.2
  ·rename_i hn
   exact hn (Or.inl h.2)
theorem yN {l:List UInt8}{st:P.St}(b:Bool)(e a:Int)(h:Tkd l st):Tkd l (zX st b e a):=by
 obtain⟨p,hp⟩:=h
 refine⟨p,?_⟩
 unfold zX ql
 split
 ·split <;> exact hp
 ·exact hp
theorem kG {st:P.St}{a b:Int}(h:PFine (zf st a b)):PFine st/\a<b:=by
 unfold zf at h
 obtain⟨h1,h2⟩:=yt (by decide) h
 exact⟨h1,by simpa using h2⟩
theorem yE {l:List UInt8}{st:P.St}(a b:Int)(h:Tkd l st):Tkd l (zf st a b):=yN _ _ _ h
theorem ur {l:List UInt8}{st:P.St}{b:Bool}(h:PFine (zy l st b)):PFine st/\b=true:=by
 unfold zy at h
 split at h
 ·rename_i hc;exact⟨⟨hc.2,h.2⟩,hc.1⟩
 ·exact absurd h.1 (by simp)
theorem tJ {l:List UInt8}{st:P.St}(b:Bool)(h:Tkd l st):Tkd l (zy l st b):=by
 unfold zy
 split
 ·exact⟨_,rfl⟩
 ·exact h
theorem xp {l:List UInt8}{st:P.St}{r:List UInt8}(h:PFine (zH l st r)):PFine st:=(ur h).1
theorem qW {l:List UInt8}{st:P.St}(r:List UInt8)(h:Tkd l st):Tkd l (zH l st r):=tJ _ h
theorem ui (r:List UInt8)(h:(zr r).2=3):(zr r).1<=26:=by
 unfold zr at h ⊢
 match r with
 | []=>simp at h
 | c :: r=>
  simp only at h ⊢
  split
  ·rename_i h1;rw[if_pos h1] at h;simp at h
  ·rename_i h1
   rw[if_neg h1] at h
   split
   ·rename_i h2
    rw[if_pos h2] at h
    unfold xH at h;split at h <;> simp at h
   ·rename_i h2
    rw[if_neg h2] at h
    split
    ·rename_i h3
     unfold xM yZ
     split
     ·simp
     ·rename_i h4
      simp at h4 ⊢;omega
    ·rename_i h3
     rw[if_neg h3] at h
     split at h <;> simp at h
theorem zeX (r:List UInt8)(h:(zr r).2=2):(zr r).1=R.span R.digitI r/\R.span R.digitI r<=5:=by
 unfold zr at h ⊢
 match r with
 | []=>simp at h
 | c :: r=>
  simp only at h ⊢
  split
  ·rename_i h1;rw[if_pos h1] at h;simp at h
  ·rename_i h1
   rw[if_neg h1] at h
   split
   ·rename_i h2
    rw[if_pos h2] at h
    unfold xH at h ⊢
    split
    ·rename_i h5;rw[if_pos h5] at h;simp at h
    ·exact⟨rfl,by omega⟩
   ·rename_i h2
    rw[if_neg h2] at h
    split at h
    ·unfold xM at h;split at h <;> simp at h
    ·split at h <;> simp at h
theorem fe {l:List UInt8}{st:P.St}(ht:Tkd l st)(h:PFine (zg l st).2):PFine st/\(zg l st).1.length<=24:=by
 obtain⟨h1,h2⟩:=ur (show PFine (zy l st (st.tok.k == 3)) from h)
 refine⟨h1,?_⟩
 obtain⟨p,hp⟩:=ht
 have hk:st.tok.k=3:=by simpa using h2
 have hr:st.tok.raw.length<=26:=by
  rw[hp] at hk ⊢
  have:=ui _ hk
  show((l.drop (zj l p)).take (zr (l.drop (zj l p))).1).length<=26
  rw[List.length_take];omega
 unfold zg
 simp only
 split
 ·simp
 ·rw[List.length_take];omega
theorem wm {l:List UInt8}{st:P.St}(ht:Tkd l st):Tkd l (zg l st).2:=tJ _ ht
theorem zn7 {l:List UInt8}{st:P.St}(ht:Tkd l st)(h:PFine (qU l st).2):PFine st/\0<=(qU l st).1/\(qU l st).1<=99999:=by
 obtain⟨h1,h2⟩:=ur (show PFine (zy l st (st.tok.k == 2)) from h)
 refine⟨h1,?_⟩
 obtain⟨p,hp⟩:=ht
 have hk:st.tok.k=2:=by simpa using h2
 have hr:st.tok.raw.length<=5/\∀c∈st.tok.raw,R.digitI c.toNat=true:=by
  rw[hp] at hk ⊢
  obtain⟨m1,m2⟩:=zeX _ hk
  show((l.drop (zj l p)).take (zr (l.drop (zj l p))).1).length<=5/\∀c∈(l.drop (zj l p)).take (zr (l.drop (zj l p))).1,_
  rw[m1]
  exact⟨by rw[List.length_take];omega,R.span_all _ _⟩
 unfold qU
 simp only
 split
 ·omega
 ·exact R.num_le st.tok.raw hr.2 hr.1
theorem zjD {l:List UInt8}{st:P.St}(ht:Tkd l st):Tkd l (qU l st).2:=tJ _ ht
theorem zoE (p:UInt8->Bool)(h:(List.range 256).all (fun n=>p (UInt8.ofNat n))=true)(c:UInt8):p c=true:=by
 have:=List.all_eq_true.1 h c.toNat (List.mem_range.2 c.toNat_lt)
 rwa[UInt8.ofNat_toNat] at this
theorem zeV (c:UInt8):R.partI c.toNat true=true->R.partI (R.lowC c).toNat false=true:=by
 have:=zoE (fun c=>!R.partI c.toNat true || R.partI (R.lowC c).toNat false) (by decide +kernel) c
 simp only[Bool.or_eq_true,Bool.not_eq_true'] at this
 intro h;rcases this with h' | h'
 ·rw[h] at h';cases h'
 ·exact h'
theorem zc6 (c:UInt8):(R.lowC c=46↔c=46)/\(R.lowC c=42↔c=42):=by
 have:=zoE (fun c=>decide ((R.lowC c=46↔c=46)/\(R.lowC c=42↔c=42))) (by decide +kernel) c
 simpa using this
theorem zgR {s:List UInt8}(h:R.word s true=true):R.word (R.lower s) false=true:=by
 unfold R.word R.allB R.lower at*
 simp only[Bool.and_eq_true,List.all_eq_true,decide_eq_true_eq,List.mem_map,qw] at*
 exact⟨fun c ⟨d,hd,e⟩=>by rw[<-e];exact zeV d (h.1 d hd),h.2⟩
theorem zeW (s:List UInt8)(h:R.word s true=true):R.lower (R.lower s)=R.lower s:=(zjF (zgR h)).2.2.2
theorem zhF {s:List UInt8}(h:R.header s true=true):R.header (R.lower s) false=true:=by
 unfold R.header at h ⊢
 rw[Bool.and_eq_true] at h ⊢
 exact⟨zgR h.1,by rw[zeW s h.1];exact h.2⟩
theorem vK:∀(s:List UInt8) (n:Nat),R.labelsGo true s n=true->R.labelsGo false (R.lower s) n=true
 | [],n,h=>by simpa[R.labelsGo,R.lower] using h
 | c :: s,n,h=>by
  show R.labelsGo false (R.lowC c :: R.lower s) n=true
  unfold R.labelsGo at h ⊢
  have aa:((R.lowC c).toNat:Int)=46↔(c.toNat:Int)=46:=by
   have:=(zc6 c).1
   constructor
   ·intro e;have:c=46:=this.1 (UInt8.toNat_inj.1 (by show(R.lowC c).toNat=46;omega));subst this;rfl
   ·intro e;have:R.lowC c=46:=this.2 (UInt8.toNat_inj.1 (by show c.toNat=46;omega));rw[this];rfl
  by_cases hc:(c.toNat:Int)=46/\0<n
  ·rw[if_pos hc] at h
   rw[if_pos ⟨aa.2 hc.1,hc.2⟩]
   exact vK s 0 h
  ·rw[if_neg hc] at h
   rw[if_neg (fun hh=>hc ⟨aa.1 hh.1,hh.2⟩)]
   by_cases hp:R.partI c.toNat true=true
   ·rw[if_pos hp] at h
    rw[if_pos (zeV c hp)]
    exact vK s (n+1) h
   ·rw[if_neg hp] at h;cases h
theorem zk9 {s:List UInt8}(h:R.named s true=true):R.named (R.lower s) false=true:=by
 unfold R.named at h ⊢
 by_cases h1:s=[42]
 ·subst h1;rfl
 ·rw[if_neg h1] at h
  have aa:¬R.lower s=[42]:=by
   intro e
   apply h1
   have ab:s.length=1:=by have:=congrArg List.length e;simpa[R.lower] using this
   obtain⟨c,rfl⟩:=List.length_eq_one_iff.1 ab
   have:R.lowC c=42:=by simpa[R.lower] using e
   rw[(zc6 c).2.1 this]
  rw[if_neg aa]
  have hl:(R.lower s).length=s.length:=by unfold R.lower;simp
  have ht:(R.lower s).take 2=[42,46]↔s.take 2=[42,46]:=by
   unfold R.lower
   rw[<-List.map_take]
   constructor
   ·intro e
    rcases hq:s.take 2 with _ | ⟨a,_ | ⟨b,_ | ⟨c,q⟩⟩⟩
    ·rw[hq] at e;simp at e
    ·rw[hq] at e;simp at e
    ·rw[hq] at e
     simp only[xi,List.map_nil,List.cons.injEq,and_true] at e
     rw[(zc6 a).2.1 e.1,(zc6 b).1.1 e.2]
    ·rw[hq] at e;simp at e
   ·intro e;rw[e];rfl
  by_cases h2:s.take 2=[42,46]/\2<s.length
  ·rw[if_pos h2] at h
   rw[if_pos ⟨ht.2 h2.1,by omega⟩]
   have:(R.lower s).drop 2=R.lower (s.drop 2):=by unfold R.lower;rw[List.map_drop]
   unfold R.labels;rw[this]
   exact vK _ 0 h
  ·rw[if_neg h2] at h
   rw[if_neg (fun hh=>h2 ⟨ht.1 hh.1,by omega⟩)]
   exact vK _ 0 h
theorem zm9 {aa:List (List UInt8)}{x:List UInt8}(h:(aa.any fun n=>decide (n=x))=false):x ∉ aa:=by
 intro hm
 rw[List.any_eq_false] at h
 exact h x hm (by simp)
theorem zoR {aa:List Int}{x:Int}(h:(aa.any fun n=>decide (n=x))=false):x ∉ aa:=by
 intro hm
 rw[List.any_eq_false] at h
 exact h x hm (by simp)
theorem fa {b:Bool}(h:(!b)=false):b=true:=by cases b with | true=>rfl | false=>cases h
theorem zf3 {l:List UInt8}{st:P.St}{aa:List (List UInt8)}(ht:Tkd l st)(h:PFine (qj l st aa).2) :
  PFine st/\R.named (qj l st aa).1 false=true/\(qj l st aa).1.length<=24/\(qj l st aa).1 ∉ aa:=by
 obtain⟨h1,h2⟩:=yt (by decide) (show PFine (zX (zX (zg l st).2 (!kl (zg l st).1) 4 st.tok.at_) (aa.any fun n=>decide (n=R.lower (zg l st).1)) 5 st.tok.at_) from h)
 obtain⟨h3,h4⟩:=yt (by decide) h1
 obtain⟨h5,h6⟩:=fe ht h3
 exact⟨h5,zk9 (fa h4),by show(R.lower _).length<=24;unfold R.lower;rw[qw];exact h6,zm9 h2⟩
theorem zd5 {l:List UInt8}{st:P.St}(aa:List (List UInt8))(ht:Tkd l st):Tkd l (qj l st aa).2:=yN _ _ _ (yN _ _ _ (wm ht))
theorem zj4 {l:List UInt8}{st:P.St}{w:List UInt8}(ht:Tkd l st)(h:PFine (xL l st w).2) :
  PFine st/\R.path (xL l st w).1=true/\(xL l st w).1.length<=24:=by
 have h1:=xp (show PFine (zH l (zX (zg l (zH l st w)).2 (!R.path (zg l (zH l st w)).1) 4 (zH l st w).tok.at_) [59]) from h)
 obtain⟨h3,h4⟩:=yt (by decide) h1
 obtain⟨h5,h6⟩:=fe (qW w ht) h3
 exact⟨xp h5,fa h4,h6⟩
theorem zgL {l:List UInt8}{st:P.St}(w:List UInt8)(ht:Tkd l st):Tkd l (xL l st w).2:=qW _ (yN _ _ _ (wm (qW _ ht)))
theorem zaI {l:List UInt8}{st:P.St}(ht:Tkd l st)(h:PFine (qB l st).2) :
  PFine st/\R.header (qB l st).1 false=true/\(qB l st).1.length<=24:=by
 obtain⟨h3,h4⟩:=yt (by decide) (show PFine (zX (zg l st).2 (!R.header (zg l st).1 true) 4 st.tok.at_) from h)
 obtain⟨h5,h6⟩:=fe ht h3
 exact⟨h5,zhF (fa h4),by show(R.lower _).length<=24;unfold R.lower;rw[qw];exact h6⟩
theorem tI {l:List UInt8}{st:P.St}(ht:Tkd l st):Tkd l (qB l st).2:=yN _ _ _ (wm ht)
theorem zf4 {l:List UInt8}{st:P.St}(ht:Tkd l st)(h:PFine (qg l st).2) :
  PFine st/\R.value (qg l st).1=true/\(qg l st).1.length<=24:=by
 obtain⟨h3,h4⟩:=yt (by decide) (show PFine (zX (zg l (zH l st [61])).2 (!R.value (zg l (zH l st [61])).1) 4 (zH l st [61]).tok.at_) from h)
 obtain⟨h5,h6⟩:=fe (qW _ ht) h3
 exact⟨xp h5,fa h4,h6⟩
theorem zaX {l:List UInt8}{st:P.St}(ht:Tkd l st):Tkd l (qg l st).2:=yN _ _ _ (wm (qW _ ht))
theorem zjC {l:List UInt8}{st:P.St}(n:Nat)(ht:Tkd l st):Tkd l (xz l st n).2:=tI (qW _ (yE _ _ ht))
theorem zpT {l:List UInt8}{st:P.St}(ht:Tkd l st):Tkd l (j2 l st).2:=by
 unfold j2;split
 ·exact zaX ht
 ·exact ht
theorem zn6 {l:List UInt8}{st:P.St}{n:Nat}(ht:Tkd l st)(h:PFine (qT l st n).2):PFine st/\n<3/\VMt (qT l st n).1:=by
 have h1:=xp (show PFine (zH l (j2 l (xz l st n).2).2 [59]) from h)
 have hB:PFine (xz l st n).2/\R.value (j2 l (xz l st n).2).1=true/\(j2 l (xz l st n).2).1.length<=24/\(zu (xz l st n).2 [61]=false->(j2 l (xz l st n).2).1=[]):=by
  unfold j2 at h1 ⊢
  by_cases hs:zu (xz l st n).2 [61]=true
  ·rw[if_pos hs] at h1 ⊢
   obtain⟨a1,a2,a3⟩:=zf4 (zjC n ht) h1
   exact⟨a1,a2,a3,fun h=>by rw[hs] at h;cases h⟩
  ·rw[if_neg hs] at h1 ⊢
   exact⟨h1,rfl,by simp,fun _=>rfl⟩
 obtain⟨b1,b2,b3⟩:=zaI (qW _ (yE _ _ ht)) (show PFine (qB l (zH l (zf st n 3) qA)).2 from hB.1)
 obtain⟨c1,c2⟩:=kG (xp b1)
 exact⟨c1,by omega,b2,b3,hB.2.1,hB.2.2.1,hB.2.2.2⟩
theorem zm2 {l:List UInt8}{st:P.St}(n:Nat)(ht:Tkd l st):Tkd l (qT l st n).2:=qW _ (zpT (zjC n ht))
theorem zaE {l:List UInt8}:∀(ab:Nat) (st:P.St) (aa:List P.Mt),Tkd l st->Tkd l (qZ l ab st aa).2/\(PFine (qZ l ab st aa).2->PFine st/\(aa.length<=3->(∀m∈aa,VMt m)->(qZ l ab st aa).1.length<=3/\∀m∈(qZ l ab st aa).1,VMt m))
 | 0,st,aa,ht=>⟨ht,fun h=>⟨h,fun a b=>⟨a,b⟩⟩⟩
 | ab+1,st,aa,ht=>by
  unfold qZ
  by_cases hs:zu st qA=true
  ·rw[if_pos hs]
   obtain⟨a1,a2⟩:=zaE ab (qT l st aa.length).2 (aa++[(qT l st aa.length).1]) (zm2 _ ht)
   refine⟨a1,fun h=>?_⟩
   obtain⟨b1,b2⟩:=a2 h
   obtain⟨c1,c2,c3⟩:=zn6 ht b1
   exact⟨c1,fun d1 d2=>b2 (by simp;omega) (fun m hm=>by rcases List.mem_append.1 hm with hm | hm;exact d2 m hm;simp at hm;rw[hm];exact c3)⟩
  ·rw[if_neg hs]
   exact⟨ht,fun h=>⟨h,fun a b=>⟨a,b⟩⟩⟩
theorem ue {l:List UInt8}{st:P.St}(n:Nat)(ht:Tkd l st):Tkd l (qz l st n).2:=yN _ _ _ (wm (yE _ _ ht))
theorem zaJ {l:List UInt8}{st:P.St}{n:Nat}(ht:Tkd l st)(h:PFine (zR l st n).2) :
  PFine st/\n<4/\R.upstream (zR l st n).1.1=true/\(zR l st n).1.1.length<=24/\0<=(zR l st n).1.2/\(zR l st n).1.2<=1000:=by
 obtain⟨h1,h2⟩:=yt (by decide) (show PFine (zX (qU l (qz l st n).2).2 (decide (1000<(qU l (qz l st n).2).1)) 4 (qz l st n).2.tok.at_) from h)
 obtain⟨h3,h4,_⟩:=zn7 (ue n ht) h1
 obtain⟨h5,h6⟩:=yt (by decide) (show PFine (zX (zg l (zf st n 4)).2 (!R.upstream (zg l (zf st n 4)).1) 4 (zf st n 4).tok.at_) from h3)
 obtain⟨h7,h8⟩:=fe (yE _ _ ht) h5
 obtain⟨h9,aa⟩:=kG h7
 exact⟨h9,by omega,fa h6,h8,h4,by show(qU l (qz l st n).2).1<=1000;simpa using h2⟩
theorem kh {l:List UInt8}{st:P.St}(n:Nat)(ht:Tkd l st):Tkd l (zR l st n).2:=yN _ _ _ (zjD (ue n ht))
def VT0 (t:List UInt8×Int):Prop:=R.upstream t.1=true/\t.1.length<=24/\0<=t.2/\t.2<=1000
theorem uK {l:List UInt8}:∀(ab:Nat) (st:P.St) (aa:List (List UInt8×Int)),Tkd l st->Tkd l (qn l ab st aa).2/\(PFine (qn l ab st aa).2->PFine st/\(aa.length<=4->(∀m∈aa,VT0 m)->(qn l ab st aa).1.length<=4/\∀m∈(qn l ab st aa).1,VT0 m))
 | 0,st,aa,ht=>⟨ht,fun h=>⟨h,fun a b=>⟨a,b⟩⟩⟩
 | ab+1,st,aa,ht=>by
  unfold qn
  by_cases hs:zu st [44]=true
  ·rw[if_pos hs]
   obtain⟨a1,a2⟩:=uK ab (zR l (zH l st [44]) aa.length).2 (aa++[(zR l (zH l st [44]) aa.length).1]) (kh _ (qW _ ht))
   refine⟨a1,fun h=>?_⟩
   obtain⟨b1,b2⟩:=a2 h
   obtain⟨c1,c2,c3⟩:=zaJ (qW _ ht) b1
   exact⟨xp c1,fun d1 d2=>b2 (by simp;omega) (fun m hm=>by rcases List.mem_append.1 hm with hm | hm;exact d2 m hm;simp at hm;rw[hm];exact c3)⟩
  ·rw[if_neg hs]
   exact⟨ht,fun h=>⟨h,fun a b=>⟨a,b⟩⟩⟩
theorem zm3 {l:List UInt8}{st:P.St}(ht:Tkd l st):Tkd l (xF l st).2:=(uK _ _ _ (kh _ (qW _ ht))).1
theorem zhR {l:List UInt8}{st:P.St}(ht:Tkd l st)(h:PFine (zz l st).2):PFine st/\(zz l st).1≠[]/\(zz l st).1.length<=4/\∀t∈(zz l st).1,VTg t:=by
 obtain⟨h1,h2⟩:=yt (by decide) (show PFine (zX (zH l (xF l st).2 [59]) (((xF l st).1.filter fun t=>!(t.2 == 0)).isEmpty) 4 st.tok.at_) from h)
 have h3:=xp h1
 obtain⟨a1,a2⟩:=(uK (l.length+1) _ [(zR l (zH l st jP) 0).1] (kh _ (qW _ ht))).2 (show PFine (xF l st).2 from h3)
 obtain⟨b1,b2,b3⟩:=zaJ (qW _ ht) a1
 obtain⟨c1,c2⟩:=a2 (by simp) (fun m hm=>by simp at hm;rw[hm];exact b3)
 refine⟨xp b1,?_,?_,fun t htm=>?_⟩
 ·show((xF l st).1.filter fun t=>!(t.2 == 0))≠[]
  intro e;rw[e] at h2;cases h2
 ·show((xF l st).1.filter fun t=>!(t.2 == 0)).length<=4
  exact zp (List.length_filter_le _ _) c1
 ·have aa:t∈(xF l st).1.filter fun t=>!(t.2 == 0):=htm
  rw[List.mem_filter] at aa
  obtain⟨v1,v2,v3,v4⟩:=c2 t aa.1
  have ab:t.2≠0:=by simpa using aa.2
  exact⟨v1,v2,by omega,v4⟩
theorem zgM {l:List UInt8}{st:P.St}(ht:Tkd l st):Tkd l (zz l st).2:=yN _ _ _ (qW _ (zm3 ht))
theorem zaH {l:List UInt8}{st:P.St}{am:List (List UInt8)}(ht:Tkd l st)(h:PFine (qQ l st am).2) :
  PFine st/\R.header (qQ l st am).1 false=true/\(qQ l st am).1.length<=24/\(qQ l st am).1 ∉ am:=by
 obtain⟨h1,h2⟩:=yt (by decide) (show PFine (zX (qB l st).2 (am.any fun n=>decide (n=(qB l st).1)) 5 st.tok.at_) from h)
 obtain⟨h3,h4,h5⟩:=zaI ht h1
 exact⟨h3,h4,h5,zm9 h2⟩
theorem kg {l:List UInt8}{st:P.St}(am:List (List UInt8))(ht:Tkd l st):Tkd l (qQ l st am).2:=yN _ _ _ (tI ht)
theorem zqJ {l:List UInt8}{st:P.St}{n:Nat}{am:List (List UInt8)}(ht:Tkd l st)(h:PFine (xB l st n am).2):PFine st/\n<3/\VSt (xB l st n am).1/\(xB l st n am).1.1 ∉ am:=by
 have h1:=xp (show PFine (zH l (qg l (yR l st n am).2).2 [59]) from h)
 have hA:Tkd l (yR l st n am).2:=kg am (qW _ (yE _ _ ht))
 obtain⟨a1,a2,a3⟩:=zf4 hA h1
 obtain⟨b1,b2,b3,b4⟩:=zaH (qW _ (yE _ _ ht)) (show PFine (qQ l (zH l (zf st n 3) qy) am).2 from a1)
 obtain⟨c1,c2⟩:=kG (xp b1)
 exact⟨c1,by omega,⟨b2,b3,a2,a3⟩,b4⟩
theorem zpV {l:List UInt8}{st:P.St}(n:Nat)(am:List (List UInt8))(ht:Tkd l st):Tkd l (xB l st n am).2:=qW _ (zaX (kg am (qW _ (yE _ _ ht))))
theorem zpD {l:List UInt8}{st:P.St}{n:Nat}{am:List (List UInt8)}(ht:Tkd l st)(h:PFine (qu l st n am).2):PFine st/\n<3/\VDp (qu l st n am).1/\(qu l st n am).1 ∉ am:=by
 have h1:=xp (show PFine (zH l (yS l st n am).2 [59]) from h)
 obtain⟨b1,b2,b3,b4⟩:=zaH (qW _ (yE _ _ ht)) (show PFine (qQ l (zH l (zf st n 3) qX) am).2 from h1)
 obtain⟨c1,c2⟩:=kG (xp b1)
 exact⟨c1,by omega,⟨b2,b3⟩,b4⟩
theorem zo9 {l:List UInt8}{st:P.St}(n:Nat)(am:List (List UInt8))(ht:Tkd l st):Tkd l (qu l st n am).2:=qW _ (kg am (qW _ (yE _ _ ht)))
theorem ut {α:Type}{l:List α}{x:α}(h:l.Pairwise (·≠·))(hx:x ∉ l):(l++[x]).Pairwise (·≠·):=by
 rw[List.pairwise_append]
 exact⟨h,by simp,fun a ha b hb=>by simp at hb;subst hb;intro e;subst e;exact hx ha⟩
theorem zaV {l:List UInt8}:∀(ab:Nat) (st:P.St) (aa:List (List UInt8×List UInt8)),Tkd l st->Tkd l (qP l ab st aa).2/\(PFine (qP l ab st aa).2->PFine st/\(aa.length<=3->(∀m∈aa,VSt m)->(aa.map Prod.fst).Pairwise (·≠·)->
  (qP l ab st aa).1.length<=3/\(∀m∈(qP l ab st aa).1,VSt m)/\((qP l ab st aa).1.map Prod.fst).Pairwise (·≠·)))
 | 0,st,aa,ht=>⟨ht,fun h=>⟨h,fun a b c=>⟨a,b,c⟩⟩⟩
 | ab+1,st,aa,ht=>by
  unfold qP
  by_cases hs:zu st qy=true
  ·rw[if_pos hs]
   obtain⟨a1,a2⟩:=zaV ab (xB l st aa.length (aa.map Prod.fst)).2 (aa++[(xB l st aa.length (aa.map Prod.fst)).1]) (zpV _ _ ht)
   refine⟨a1,fun h=>?_⟩
   obtain⟨b1,b2⟩:=a2 h
   obtain⟨c1,c2,c3,c4⟩:=zqJ ht b1
   exact⟨c1,fun d1 d2 d3=>b2 (by simp;omega) (fun m hm=>by rcases List.mem_append.1 hm with hm | hm;exact d2 m hm;simp at hm;rw[hm];exact c3) (by rw[xy];exact ut d3 c4)⟩
  ·rw[if_neg hs]
   exact⟨ht,fun h=>⟨h,fun a b c=>⟨a,b,c⟩⟩⟩
theorem za5 {l:List UInt8}(ab:List (List UInt8)):∀(ad:Nat) (st:P.St) (aa:List (List UInt8)),Tkd l st->Tkd l (qJ l ab ad st aa).2/\(PFine (qJ l ab ad st aa).2->PFine st/\(aa.length<=3->(∀m∈aa,VDp m)->(ab++aa).Pairwise (·≠·)->
  (qJ l ab ad st aa).1.length<=3/\(∀m∈(qJ l ab ad st aa).1,VDp m)/\(ab++(qJ l ab ad st aa).1).Pairwise (·≠·)))
 | 0,st,aa,ht=>⟨ht,fun h=>⟨h,fun a b c=>⟨a,b,c⟩⟩⟩
 | ad+1,st,aa,ht=>by
  unfold qJ
  by_cases hs:zu st qX=true
  ·rw[if_pos hs]
   obtain⟨a1,a2⟩:=za5 ab ad (qu l st aa.length (ab++aa)).2 (aa++[(qu l st aa.length (ab++aa)).1]) (zo9 _ _ ht)
   refine⟨a1,fun h=>?_⟩
   obtain⟨b1,b2⟩:=a2 h
   obtain⟨c1,c2,c3,c4⟩:=zpD ht b1
   exact⟨c1,fun d1 d2 d3=>b2 (by simp;omega) (fun m hm=>by rcases List.mem_append.1 hm with hm | hm;exact d2 m hm;simp at hm;rw[hm];exact c3) (by rw[<-xY];exact ut d3 c4)⟩
  ·rw[if_neg hs]
   exact⟨ht,fun h=>⟨h,fun a b c=>⟨a,b,c⟩⟩⟩
theorem zqI {l:List UInt8}{st:P.St}{aa:List Int}(ht:Tkd l st)(h:PFine (yJ l st aa).2):PFine st/\aa.length<6/\0<=(yJ l st aa).1/\(yJ l st aa).1<=65535/\(yJ l st aa).1 ∉ aa:=by
 have ab:Tkd l (zH l (zf st aa.length 6) qm):=qW _ (yE _ _ ht)
 unfold yJ xU at h ⊢
 obtain⟨h1,h2⟩:=yt (by decide) h
 obtain⟨h3,h4⟩:=yt (by decide) h1
 obtain⟨h5,h6,_⟩:=zn7 ab h3
 obtain⟨h7,h8⟩:=kG (xp h5)
 exact⟨h7,by omega,h6,by simpa using h4,zoR h2⟩
theorem zpU {l:List UInt8}{st:P.St}(aa:List Int)(ht:Tkd l st):Tkd l (yJ l st aa).2:=yN _ _ _ (yN _ _ _ (zjD (qW _ (yE _ _ ht))))
theorem zqM {l:List UInt8}{st:P.St}(ht:Tkd l st):Tkd l (xq l st).2/\(PFine (xq l st).2->PFine st/\((xq l st).1=[]\/(R.path (xq l st).1=true/\(xq l st).1.length<=24))):=by
 unfold xq
 by_cases hs:zu st qR=true
 ·rw[if_pos hs]
  exact⟨zgL _ ht,fun h=>by obtain⟨a,b,c⟩:=zj4 ht h;exact⟨a,Or.inr ⟨b,c⟩⟩⟩
 ·rw[if_neg hs]
  exact⟨ht,fun h=>⟨h,Or.inl rfl⟩⟩
theorem zpN {l:List UInt8}{st:P.St}(aa:List Int)(ht:Tkd l st):Tkd l (qp l st aa).2/\(PFine (qp l st aa).2->PFine st/\aa.length<6/\(qp l st aa).1.number ∉ aa/\VRl (qp l st aa).1):=by
 generalize ha:yJ l st aa=a
 generalize hb:yl l a.2=b
 generalize hm:qZ l (l.length+1) b.2 []=m
 generalize ab:zz l m.2=t
 generalize hc:xq l t.2=c
 generalize hs:qP l (l.length+1) c.2 []=s
 generalize hd:qJ l (s.1.map Prod.fst) (l.length+1) s.2 []=d
 have hR:qp l st aa=(⟨a.1,b.1,m.1,t.1,c.1,s.1,d.1⟩,zH l d.2 [125]):=by
  unfold qp;rw[ha];unfold vI;rw[hb,hm];unfold vH;rw[ab];unfold yq;rw[hc,hs];unfold jq;rw[hd]
 rw[hR]
 have ka:=zpU aa ht
 have kb:Tkd l (yl l a.2).2:=by rw[ha] at ka;exact zgL _ (qW _ ka)
 have km:=zaE (l.length+1) (yl l a.2).2 [] kb
 rw[hb] at km
 have kt:Tkd l (zz l m.2).2:=by rw[hm] at km;exact zgM km.1
 have kc:=zqM kt
 rw[ab] at kc
 have ks:=zaV (l.length+1) (xq l t.2).2 [] kc.1
 rw[hc] at ks
 have kd:=za5 (s.1.map Prod.fst) (l.length+1) (qP l (l.length+1) c.2 []).2 [] ks.1
 rw[hs] at kd
 rw[hd] at kd;rw[hs] at ks;rw[hc] at kc;rw[hm] at km
 refine⟨qW _ kd.1,fun h=>?_⟩
 obtain⟨d1,d2⟩:=kd.2 (xp h)
 obtain⟨s1,s2⟩:=ks.2 d1
 obtain⟨s3,s4,s5⟩:=s2 (by simp) (by simp) (by simp)
 obtain⟨d3,d4,d5⟩:=d2 (by simp) (by simp) (by simpa using s5)
 obtain⟨c1,c2⟩:=kc.2 s1
 obtain⟨t1,t2,t3,t4⟩:=zhR km.1 (by rw[ab];exact c1)
 rw[ab] at t2 t3 t4
 obtain⟨m1,m2⟩:=km.2 t1
 obtain⟨m3,m4⟩:=m2 (by simp) (by simp)
 rw[ha] at ka
 obtain⟨b1,b2,b3⟩:=zj4 (qW [123] ka) (show PFine (xL l (zH l a.2 [123]) j3).2 by rw[<-hb] at m1;exact m1)
 have ad:xL l (zH l a.2 [123]) j3=b:=hb
 rw[ad] at b2 b3
 obtain⟨a1,a2,a3,a4,a5⟩:=zqI ht (show PFine (yJ l st aa).2 by rw[ha];exact xp b1)
 rw[ha] at a3 a4 a5
 exact⟨a1,a2,a5,⟨⟨a3,a4⟩,b2,b3,m3,m4,t2,t3,t4,c2,s3,s4,d3,d4,d5⟩⟩
theorem zaS {l:List UInt8}:∀(ab:Nat) (st:P.St) (aa:List P.Rl),Tkd l st->Tkd l (qf l ab st aa).2/\(PFine (qf l ab st aa).2->PFine st/\(aa.length<=6->(∀m∈aa,VRl m)->(aa.map P.Rl.number).Pairwise (·≠·)->
  (qf l ab st aa).1.length<=6/\(∀m∈(qf l ab st aa).1,VRl m)/\((qf l ab st aa).1.map P.Rl.number).Pairwise (·≠·)))
 | 0,st,aa,ht=>⟨ht,fun h=>⟨h,fun a b c=>⟨a,b,c⟩⟩⟩
 | ab+1,st,aa,ht=>by
  unfold qf
  by_cases hs:zu st qm=true
  ·rw[if_pos hs]
   obtain⟨k1,k2⟩:=zpN (aa.map P.Rl.number) ht
   obtain⟨a1,a2⟩:=zaS ab (qp l st (aa.map P.Rl.number)).2 (aa++[(qp l st (aa.map P.Rl.number)).1]) k1
   refine⟨a1,fun h=>?_⟩
   obtain⟨b1,b2⟩:=a2 h
   obtain⟨c1,c2,c3,c4⟩:=k2 b1
   rw[qw] at c2
   exact⟨c1,fun d1 d2 d3=>b2 (by simp;omega) (fun m hm=>by rcases List.mem_append.1 hm with hm | hm;exact d2 m hm;simp at hm;rw[hm];exact c4) (by rw[xy];exact ut d3 c3)⟩
  ·rw[if_neg hs]
   exact⟨ht,fun h=>⟨h,fun a b c=>⟨a,b,c⟩⟩⟩
structure UHst (h:P.Hst):Prop where
 name:R.named h.name false=true
 nl:h.name.length<=24
 rl:h.rules.length<=6
 once:(h.rules.map P.Rl.number).Pairwise (·≠·)
 rules:∀r∈h.rules,VRl r
theorem zp0 {l:List UInt8}{st:P.St}(aa:List (List UInt8))(ht:Tkd l st):Tkd l (qv l st aa).2/\(PFine (qv l st aa).2->PFine st/\aa.length<4/\(qv l st aa).1.name ∉ aa/\UHst (qv l st aa).1):=by
 have k1:Tkd l (jK l st aa).2:=zd5 aa (qW _ (yE _ _ ht))
 have k2:=zaS (l.length+1) (zH l (jK l st aa).2 [123]) [] (qW _ k1)
 refine⟨qW _ k2.1,fun h=>?_⟩
 obtain⟨a1,a2⟩:=k2.2 (xp (show PFine (zH l (qf l (l.length+1) (zH l (jK l st aa).2 [123]) []).2 [125]) from h))
 obtain⟨a3,a4,a5⟩:=a2 (by simp) (by simp) (by simp)
 obtain⟨b1,b2,b3,b4⟩:=zf3 (qW R.wHost (yE aa.length 4 ht)) (show PFine (jK l st aa).2 from xp a1)
 obtain⟨c1,c2⟩:=kG (xp b1)
 exact⟨c1,by omega,b4,b2,b3,a3,a5,a4⟩
theorem zaB {l:List UInt8}:∀(ab:Nat) (st:P.St) (aa:List P.Hst),Tkd l st->Tkd l (qG l ab st aa).2/\(PFine (qG l ab st aa).2->PFine st/\(aa.length<=4->(∀m∈aa,UHst m)->(aa.map P.Hst.name).Pairwise (·≠·)->
  (qG l ab st aa).1.length<=4/\(∀m∈(qG l ab st aa).1,UHst m)/\((qG l ab st aa).1.map P.Hst.name).Pairwise (·≠·)))
 | 0,st,aa,ht=>⟨ht,fun h=>⟨h,fun a b c=>⟨a,b,c⟩⟩⟩
 | ab+1,st,aa,ht=>by
  unfold qG
  by_cases hs:zu st R.wHost=true
  ·rw[if_pos hs]
   obtain⟨k1,k2⟩:=zp0 (aa.map P.Hst.name) ht
   obtain⟨a1,a2⟩:=zaB ab (qv l st (aa.map P.Hst.name)).2 (aa++[(qv l st (aa.map P.Hst.name)).1]) k1
   refine⟨a1,fun h=>?_⟩
   obtain⟨b1,b2⟩:=a2 h
   obtain⟨c1,c2,c3,c4⟩:=k2 b1
   rw[qw] at c2
   exact⟨c1,fun d1 d2 d3=>b2 (by simp;omega) (fun m hm=>by rcases List.mem_append.1 hm with hm | hm;exact d2 m hm;simp at hm;rw[hm];exact c4) (by rw[xy];exact ut d3 c3)⟩
  ·rw[if_neg hs]
   exact⟨ht,fun h=>⟨h,fun a b c=>⟨a,b,c⟩⟩⟩
theorem uu (l:List UInt8)(h1:(ze l).2.broken=false)(h2:(ze l).2.err=0) :
  (ze l).1.length<=4/\(∀h∈(ze l).1,UHst h)/\((ze l).1.map P.Hst.name).Pairwise (·≠·):=by
 have k:=zaB (l.length+1) (j5 l) [] ⟨0,rfl⟩
 have h3:PFine (qG l (l.length+1) (j5 l) []).2:=(ur (show PFine (zy l (qG l (l.length+1) (j5 l) []).2 _) from⟨h1,h2⟩)).1
 exact(k.2 h3).2 (by simp) (by simp) (by simp)
def zI (s:List UInt8):List UInt8:=UInt8.ofNat s.length :: s
def qS (n:Int):List UInt8:=[UInt8.ofNat (n.toNat % 256),UInt8.ofNat (n.toNat / 256)]
def zL {α:Type}(f:α->List UInt8)(l:List α):List UInt8:=UInt8.ofNat l.length :: (l.map f).flatten
def K.mt (m:P.Mt):List UInt8:=zI m.name++(if m.ask then 1 :: zI m.val else [0])
def K.tg (t:List UInt8×Int):List UInt8:=zI t.1++qS t.2
def K.st (t:List UInt8×List UInt8):List UInt8:=zI t.1++zI t.2
def kk (r:List UInt8):List UInt8:=if r=[] then [0] else 1 :: zI r
def zt (r:P.Rl):List UInt8:=qS r.number++(zI r.path++(zL K.mt r.ms++(zL K.tg r.tg++(kk r.rep++(zL K.st r.sets++zL zI r.drops)))))
def zx (h:P.Hst):List UInt8:=zI h.name++zL zt h.rules
def qo (hs:List P.Hst):List UInt8:=[83,89,49]++zL zx hs
def jO (s:Nat):Nat:=if s % 2=1 then (s / 2) ^^^ 3988292384 else s / 2
def ux (s:Nat)(c:UInt8):Nat:=jO (jO (jO (jO (jO (jO (jO (jO (s ^^^ c.toNat))))))))
def jf (l:List UInt8):Nat:=4294967295 - l.foldl ux 4294967295
def yW (n:Nat):List UInt8:=[UInt8.ofNat (n % 256),UInt8.ofNat (n / 256 % 256),UInt8.ofNat (n / 65536 % 256),UInt8.ofNat (n / 16777216 % 256)]
def qE (hs:List P.Hst):List UInt8:=qo hs++yW (jf (qo hs))
def xt (n:Nat)(r:List UInt8):List UInt8×List UInt8:=(r.take n++List.replicate (n - r.length) 0,r.drop n)
def zw (r:List UInt8):Nat×List UInt8:=((r.headD 0).toNat,r.drop 1)
def zc (r:List UInt8):List UInt8×List UInt8:=xt (zw r).1 (zw r).2
def xg (r:List UInt8):Int×List UInt8:=(((zw r).1+(zw (zw r).2).1*256:Nat),(zw (zw r).2).2)
def qC {α:Type}(f:List UInt8->α×List UInt8):Nat->List UInt8->List α×List UInt8
 | 0,r=>([],r)
 | n+1,r=>((f r).1 :: (qC f n (f r).2).1,(qC f n (f r).2).2)
def zK {α:Type}(f:List UInt8->α×List UInt8)(r:List UInt8):List α×List UInt8:=qC f (zw r).1 (zw r).2
def qL (r:List UInt8):(List UInt8×Bool)×List UInt8:=if (zw r).1=0 then (([],false),(zw r).2) else (((zc (zw r).2).1,true),(zc (zw r).2).2)
def U.mt (r:List UInt8):P.Mt×List UInt8:=(⟨(zc r).1,(qL (zc r).2).1.2,(qL (zc r).2).1.1⟩,(qL (zc r).2).2)
def U.tg (r:List UInt8):(List UInt8×Int)×List UInt8:=(((zc r).1,(xg (zc r).2).1),(xg (zc r).2).2)
def jR (r:List UInt8):List UInt8×List UInt8:=((qL r).1.1,(qL r).2)
def U.st (r:List UInt8):(List UInt8×List UInt8)×List UInt8:=(((zc r).1,(zc (zc r).2).1),(zc (zc r).2).2)
def xC (r0:List UInt8):P.Rl×List UInt8:=
 (⟨(xg r0).1,(zc (xg r0).2).1,(zK U.mt (zc (xg r0).2).2).1,(zK U.tg (zK U.mt (zc (xg r0).2).2).2).1,(jR (zK U.tg (zK U.mt (zc (xg r0).2).2).2).2).1,
  (zK U.st (jR (zK U.tg (zK U.mt (zc (xg r0).2).2).2).2).2).1,(zK zc (zK U.st (jR (zK U.tg (zK U.mt (zc (xg r0).2).2).2).2).2).2).1⟩,
  (zK zc (zK U.st (jR (zK U.tg (zK U.mt (zc (xg r0).2).2).2).2).2).2).2)
def xQ (r:List UInt8):P.Hst×List UInt8:=(⟨(zc r).1,(zK xC (zc r).2).1⟩,(zK xC (zc r).2).2)
def xr (b:List UInt8):List P.Hst:=(zK xQ (b.drop 3)).1
theorem u8n (n:Nat)(h:n<=255):(UInt8.ofNat n).toNat=n:=by
 rw[UInt8.toNat_ofNat'];omega
theorem yi (s r:List UInt8)(h:s.length<=255):zc (zI s++r)=(s,r):=by
 have h1:zw (zI s++r)=(s.length,s++r):=by
  unfold zw zI
  show((UInt8.ofNat s.length).toNat,s++r)=_
  rw[u8n _ (by omega)]
 unfold zc xt
 rw[h1]
 simp
theorem jj (n:Nat)(r:List UInt8)(h:n<=255):zw (UInt8.ofNat n :: r)=(n,r):=by
 unfold zw
 show((UInt8.ofNat n).toNat,r)=_
 rw[u8n _ (by omega)]
theorem zdP (n:Int)(r:List UInt8)(h:0<=n/\n<=65535):xg (qS n++r)=(n,r):=by
 have h1:zw (qS n++r)=(n.toNat % 256,[UInt8.ofNat (n.toNat / 256)]++r):=jj _ _ (by omega)
 have h2:zw ([UInt8.ofNat (n.toNat / 256)]++r)=(n.toNat / 256,r):=jj _ _ (by omega)
 unfold xg
 rw[h1]
 simp only
 rw[h2]
 simp only[Prod.mk.injEq,and_true]
 omega
theorem fK {α:Type}(f:List UInt8->α×List UInt8)(g:α->List UInt8):∀(l:List α) (r:List UInt8),(∀x∈l,∀r,f (g x++r)=(x,r))->qC f l.length ((l.map g).flatten++r)=(l,r)
 | [],r,_=>rfl
 | x :: l,r,h=>by
  have e:((x :: l).map g).flatten++r=g x++((l.map g).flatten++r):=by simp
  rw[e,zm]
  unfold qC
  rw[h x (by simp),fK f g l r (fun y hy=>h y (by simp[hy]))]
theorem yh {α:Type}(f:List UInt8->α×List UInt8)(g:α->List UInt8)(l:List α)(r:List UInt8)(hl:l.length<=255)(h:∀x∈l,∀r,f (g x++r)=(x,r)):zK f (zL g l++r)=(l,r):=by
 unfold zK
 have:zw (zL g l++r)=(l.length,(l.map g).flatten++r):=jj _ _ hl
 rw[this]
 exact fK f g l r h
theorem zoM (m:P.Mt)(hm:VMt m)(r:List UInt8):U.mt (K.mt m++r)=(m,r):=by
 obtain⟨mn,ma,mv⟩:=m
 have h1:zc (K.mt ⟨mn,ma,mv⟩++r)=(mn,(if ma then 1 :: zI mv else [0])++r):=by
  unfold K.mt;rw[xY];exact yi _ _ (by have aa:mn.length<=24:=hm.nl;show mn.length<=255;omega)
 unfold U.mt
 rw[h1]
 cases ma with
 | true=>
  have h2:qL (1 :: zI mv++r)=((mv,true),r):=by
   unfold qL
   have:zw (1 :: zI mv++r)=(1,zI mv++r):=jj 1 _ (by omega)
   rw[this,if_neg (by simp),yi _ _ (by have aa:mv.length<=24:=hm.vl;omega)]
  simp only[if_true]
  rw[h2]
 | false=>
  have h2:qL ([0]++r)=(([],false),r):=by
   unfold qL
   have:zw ([0]++r)=(0,r):=jj 0 _ (by omega)
   rw[this,if_pos rfl]
  have hv:mv=[]:=hm.no rfl
  simp only[xO,if_false]
  rw[h2,hv]
theorem zoO (t:List UInt8×Int)(ht:VTg t)(r:List UInt8):U.tg (K.tg t++r)=(t,r):=by
 have h1:zc (K.tg t++r)=(t.1,qS t.2++r):=by unfold K.tg;rw[xY];exact yi _ _ (by have:=ht.ul;omega)
 unfold U.tg
 rw[h1]
 simp only
 rw[zdP _ _ ⟨by have:=ht.lo;omega,by have:=ht.hi;omega⟩]
theorem zoN (t:List UInt8×List UInt8)(ht:VSt t)(r:List UInt8):U.st (K.st t++r)=(t,r):=by
 have h1:zc (K.st t++r)=(t.1,zI t.2++r):=by unfold K.st;rw[xY];exact yi _ _ (by have:=ht.nl;omega)
 unfold U.st
 rw[h1]
 simp only
 rw[yi _ _ (by have:=ht.vl;omega)]
theorem zm7 (s r:List UInt8)(h:s.length<=24):jR (kk s++r)=(s,r):=by
 unfold jR kk
 by_cases hs:s=[]
 ·rw[if_pos hs,hs]
  have h2:qL ([0]++r)=(([],false),r):=by
   unfold qL
   have:zw ([0]++r)=(0,r):=jj 0 _ (by omega)
   rw[this,if_pos rfl]
  rw[h2]
 ·rw[if_neg hs]
  have h2:qL (1 :: zI s++r)=((s,true),r):=by
   unfold qL
   have:zw (1 :: zI s++r)=(1,zI s++r):=jj 1 _ (by omega)
   rw[this,if_neg (by simp),yi _ _ (by omega)]
  rw[h2]
theorem zjN (x:P.Rl)(hv:VRl x)(r:List UInt8):xC (zt x++r)=(x,r):=by
 have aa:x.rep.length<=24:=by rcases hv.rep with h | h;rw[h];simp;exact h.2
 have e:zt x++r=qS x.number++(zI x.path++(zL K.mt x.ms++(zL K.tg x.tg++(kk x.rep++(zL K.st x.sets++(zL zI x.drops++r)))))):=by
  unfold zt;simp only[xY]
 unfold xC
 rw[e,zdP _ _ hv.num]
 simp only
 rw[yi _ _ (by have:=hv.pl;omega)]
 simp only
 rw[yh U.mt K.mt x.ms _ (by have:=hv.ml;omega) (fun m hm r=>zoM m (hv.ms m hm) r)]
 simp only
 rw[yh U.tg K.tg x.tg _ (by have:=hv.tl;omega) (fun m hm r=>zoO m (hv.tg m hm) r)]
 simp only
 rw[zm7 _ _ aa]
 simp only
 rw[yh U.st K.st x.sets _ (by have:=hv.sl;omega) (fun m hm r=>zoN m (hv.sets m hm) r)]
 simp only
 rw[yh zc zI x.drops _ (by have:=hv.dl;omega) (fun m hm r=>yi m r (by have:=(hv.drops m hm).nl;omega))]
theorem zjM (x:P.Hst)(hv:VHst x)(r:List UInt8):xQ (zx x++r)=(x,r):=by
 have h1:zc (zx x++r)=(x.name,zL zt x.rules++r):=by unfold zx;rw[xY];exact yi _ _ (by have:=hv.nl;omega)
 unfold xQ
 rw[h1]
 simp only
 rw[yh xC zt x.rules _ (by have:=hv.rl;omega) (fun m hm r=>zjN m (hv.rules m hm) r)]
theorem v8 (hs:List P.Hst)(hv:VHs hs):xr (qE hs)=hs:=by
 have e:(qE hs).drop 3=zL zx hs++yW (jf (qo hs)):=by unfold qE qo;simp
 unfold xr
 rw[e,yh xQ zx hs _ (by have:=hv.hl;omega) (fun m hm r=>zjM m (hv.hosts m hm) r)]
structure T.St where
 rest:List UInt8
 bad:Bool
theorem zhO {a b:List UInt8}(h1:Go.Sort.ltStr b a=false)(h2:a≠b):xf a b=true:=by
 rw[xo]
 cases h:Go.Sort.ltStr a b with
 | true=>rfl
 | false=>exact absurd (wj a b h h1) h2
theorem zhN {a b:List UInt8}(h:xf a b=true):Go.Sort.ltStr b a=false:=by
 rw[xo] at h
 exact Go.Sort.SWO.asymmA Go.Sort.swo_ltStr h
theorem znV {α:Type}{R S:α->α->Prop}{l:List α}(h1:l.Pairwise R)(h2:l.Pairwise S):l.Pairwise (fun a b=>R a b/\S a b):=by
 induction l with
 | nil=>exact .nil
 | cons x l ih=>
  rw[List.pairwise_cons] at h1 h2 ⊢
  exact⟨fun y hy=>⟨h1.1 y hy,h2.1 y hy⟩,ih h1.2 h2.2⟩
theorem uI {hs aa:List P.Hst}(h:SrtH hs aa)(hl:hs.length<=4)(hu:∀x∈hs,UHst x)(hd:(hs.map P.Hst.name).Pairwise (·≠·)):VHs aa:=by
 obtain⟨p,h1,h2,h3,h4⟩:=h
 have hn:aa.map P.Hst.name=p.map P.Hst.name:=by
  apply List.ext_getElem
  ·simp[h3]
  ·intro j g1 g2
   simp only[List.getElem_map]
   exact(h4 j (by simpa using g2) (by simpa using g1)).1
 have ab:(p.map P.Hst.name).Pairwise (·≠·):=(h1.map P.Hst.name).symm.pairwise hd (fun e=>fun e'=>e e'.symm)
 refine⟨by rw[h3,h1.length_eq];exact hl,?_,fun x hx=>?_⟩
 ·rw[hn,List.pairwise_map]
  rw[List.pairwise_map] at ab
  exact(znV h2 ab).imp fun⟨a,b⟩=>zhO a b
 ·obtain⟨j,hj,rfl⟩:=List.getElem_of_mem hx
  obtain⟨s1,s2,s3⟩:=h4 j (by omega) hj
  have u:=hu _ (h1.mem_iff.1 (List.getElem_mem (by omega:j<p.length)))
  have ad:(aa[j].rules.map P.Rl.number).Pairwise (·≠·):=(s2.map P.Rl.number).symm.pairwise u.once (fun e=>fun e'=>e e'.symm)
  refine⟨by rw[s1];exact u.name,by rw[s1];exact u.nl,by rw[s2.length_eq];exact u.rl,?_,fun r hr=>u.rules r (s2.mem_iff.1 hr)⟩
  rw[List.pairwise_map] at ad ⊢
  refine(znV s3 ad).imp fun⟨a,b⟩=>?_
  unfold Go.Sort.ltInt at a
  simp at a;omega
theorem ziG {a b:List P.Rl}(hp:b.Perm a)(hs:b.Pairwise (fun x y=>Go.Sort.ltInt y.number x.number=false))(ho:(a.map P.Rl.number).Pairwise (·<·)):b=a:=by
 refine List.Perm.eq_of_pairwise (le:=fun x y=>Go.Sort.ltInt y.number x.number=false) ?_ hs ?_ hp
 ·intro x y hx hy g1 g2
  have e:x.number=y.number:=by unfold Go.Sort.ltInt at g1 g2;simp at g1 g2;omega
  exact yr a (ho.imp fun h=>by omega) (hp.mem_iff.1 hx) hy e
 ·rw[List.pairwise_map] at ho
  exact ho.imp fun h=>by unfold Go.Sort.ltInt;simp;omega
theorem zgC {hs aa:List P.Hst}(hv:VHs hs)(h:SrtH hs aa):aa=hs:=by
 obtain⟨p,h1,h2,h3,h4⟩:=h
 have ab:p=hs:=by
  refine List.Perm.eq_of_pairwise (le:=fun x y=>Go.Sort.ltStr y.name x.name=false) ?_ h2 ?_ h1
  ·intro x y hx hy g1 g2
   have e:x.name=y.name:=wj _ _ g2 g1
   refine yr hs (hv.ord.imp fun {a b} h e=>?_) (h1.mem_iff.1 hx) hy e
   subst e;rw[kN] at h;cases h
  ·have:=hv.ord
   rw[List.pairwise_map] at this
   exact this.imp fun h=>zhN h
 subst ab
 apply List.ext_getElem
 ·exact h3
 ·intro j g1 g2
  obtain⟨s1,s2,s3⟩:=h4 j g2 g1
  have v:=hv.hosts p[j] (List.getElem_mem g2)
  have e:=ziG s2 s3 v.ord
  generalize aa[j]=a at*
  generalize p[j]=b at*
  obtain⟨an,ar⟩:=a
  obtain⟨bn,br⟩:=b
  simp only at s1 e
  rw[s1,e]
theorem zm4 {b:List UInt8}{hs:List P.Hst}(hv:VHs hs)(hp:qE hs=b) :
  xr b=hs/\(ze (R.plain ((xr b).map toR))).1=hs/\(ze (R.plain ((xr b).map toR))).2.broken=false/\(ze (R.plain ((xr b).map toR))).2.err=0/\∀hs',SrtH hs hs'->hs'=hs:=by
 have e:xr b=hs:=by rw[<-hp];exact v8 hs hv
 rw[e]
 obtain⟨h1,h2,h3⟩:=t6 hs hv
 exact⟨rfl,h1,h2,h3,fun hs' h=>zgC hv h⟩
theorem zjK:(Tryz.prog).cellsOf 5=1:=by kernel_rfl
theorem zg2 {w:World}{wb:Nat}{l:List UInt8}{op:Int}(h:WInv w wb l op)(h0:l≠[]) :
  Calls Tryz.prog 69 #[.pointer (some ⟨wb,0,none⟩)] w fun e w'=>e = .returned (.string (R.str l))/\Kept wb wtags w w':=by
 obtain⟨p,v,af,ae⟩:∃p v,w.heap[wb]?=some (.cells #[p,v,.int .i64 op] 143 (0,0))/\w.ownsRow (wb+1) 5 1 v l.length (Lib.byteCells l):=by
  rcases h with ⟨v,h1,h2⟩ | ⟨v,h1,h2⟩
  ·exact⟨_,v,h1,h2⟩
  ·exact⟨_,v,h1,h2⟩
 have ai:l.length≠0:=by simpa using h0
 obtain⟨g,aa,ab,rfl,ao,hg,aq,ag,ap,al⟩:∃g aa ab,v = .slice (some ⟨g,0,none⟩) l.length aa/\wb+1<=g/\w.heap[g]?=some (.cells ab 5 (0,0))/\l.length<=aa/\aa<=maxLen/\ab.size=aa*1/\ab.toList.take (l.length*1)=Lib.byteCells l:=by
  rcases ae.2 with ⟨_,hz⟩ | ⟨g,aa,ab,hv,r⟩
  ·exact absurd hz ai
  ·exact⟨g,aa,ab,hv,r⟩
 have c1:w.drew.cell? ⟨wb,1,none⟩=some (.slice (some ⟨g,0,none⟩) l.length aa):=by
  have h1:w.drew.heap[wb]?=some (.cells #[p,.slice (some ⟨g,0,none⟩) l.length aa,.int .i64 op] 143 (0,0)):=af
  exact z8 h1
 have am:(Builtin.unsafeSliceData_ #[32] 215 #[.slice (some ⟨g,0,none⟩) l.length aa]).run Tryz.prog w.drew = .ok (.pointer (some ⟨g,0,none⟩)) w.drew:=
  Lib.run_unsafeSliceData_row _ _ _ _ _ _ (by omega)
 have an:(Builtin.unsafeString_ #[215,3] 9 #[.pointer (some ⟨g,0,none⟩),.int .i64 l.length]).run Tryz.prog w.drew = .ok (.string ⟨l.toArray⟩) (w.drew.freeze ⟨g,0,none⟩ l.length):=by
  refine Lib.run_unsafeString_row w.drew 215 3 9 5 Tryz.underlying215 zjK g ab.size (by have ah:w.drew.heap[g]?=some (.cells ab 5 (0,0)):=hg;simp[World.shape?,ah]) l h0 (by omega) (by unfold maxLen at ag;omega) ?_
  intro j x hx
  have:=ae.cells (g:=g) rfl j (.int .u8 x.toNat) (by simp[Lib.byteCells,hx])
  exact this
 have HK:Y (Kept wb wtags w (w.drew.freeze ⟨g,0,none⟩ l.length)):=by
  have aj:∀k,k≠g->(w.drew.freeze ⟨g,0,none⟩ l.length).heap[k]?=w.heap[k]?:=by
   intro k hk
   show((w.drew).freeze ⟨g,0,none⟩ l.length).heap[k]?=(w.drew).heap[k]?
   generalize w.drew=wd
   simp[World.freeze,h0,Array.getElem?_modify,Ne.symm hk]
  have ak:w.heap.size<=(w.drew.freeze ⟨g,0,none⟩ l.length).heap.size:=by
   show(w.drew).heap.size<=_
   generalize w.drew=wd
   simp[World.freeze,h0]
  have ad:(w.drew.freeze ⟨g,0,none⟩ l.length).os=w.os/\(w.drew.freeze ⟨g,0,none⟩ l.length).tape=w.tape/\(w.drew.freeze ⟨g,0,none⟩ l.length).output=w.output:=by
   show _=(w.drew).os/\_=(w.drew).tape/\_=(w.drew).output
   generalize w.drew=wd
   simp[World.freeze,h0]
  refine⟨ad.1,ad.2.1,ad.2.2,ak,fun k hk ht=>aj k (fun e=>?_)⟩
  subst e
  rcases ht with ht | ht
  ·omega
  ·exact ht _ _ _ hg (by decide)
 have ar:(Tryz.prog).follows Departure.mixedOrders=true:=by kernel_rfl
 clear h ae al af
 go_enter Tryz.func69,Tryz.ntmps69
 go_wp2
 go_region_o
 all_goals (go_wp2;go_ret;exact⟨rfl,HK.o⟩)
theorem zcW {w:World}{wb:Nat}{p:Value}{op:Int}(aa:w.heap[wb]?=some (.cells #[p,.slice none 0 0,.int .i64 op] 143 (0,0))) :
  Calls Tryz.prog 69 #[.pointer (some ⟨wb,0,none⟩)] w fun e w'=>e = .returned (.string (R.str []))/\Kept wb wtags w w':=by
 have c1:w.drew.cell? ⟨wb,1,none⟩=some (.slice none 0 0):=by
  have h1:w.drew.heap[wb]?=some (.cells #[p,.slice none 0 0,.int .i64 op] 143 (0,0)):=aa
  exact z8 h1
 have ab:(Builtin.unsafeSliceData_ #[32] 215 #[.slice none 0 0]).run Tryz.prog w.drew = .ok (.pointer none) w.drew:=rfl
 have ad:∀W:World,(Builtin.unsafeString_ #[215,3] 9 #[.pointer none,.int .i64 0]).run Tryz.prog W = .ok (.string ⟨#[]⟩) W:=fun W=>by kernel_rfl
 have ae:(Tryz.prog).follows Departure.mixedOrders=true:=by kernel_rfl
 have HK:Y (Kept wb wtags w w.drew):=qq (zQ _)
 clear aa
 go_enter Tryz.func69,Tryz.ntmps69
 go_wp2
 go_region_o
 all_goals (go_wp2;go_ret;exact⟨rfl,HK.o⟩)
end Go.Proofs.YtfocdefchbnkpaaGreatDoor
