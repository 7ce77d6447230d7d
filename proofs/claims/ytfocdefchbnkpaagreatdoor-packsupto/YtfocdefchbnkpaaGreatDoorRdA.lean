/- What a text without a fault says, by the program's reader: nothing but what may stand in a policy. -/
import Derived.Test.YtfocdefchbnkpaaGreatDoorAli
import Derived.Test.YtfocdefchbnkpaaGreatDoorEqD
set_option maxRecDepth 100000
set_option maxHeartbeats 20000000
namespace Go.Proofs.YtfocdefchbnkpaaGreatDoor
open Go.RowKit
def PFine (st:P.St):Prop:=st.broken=false/\st.err=0
def Tkd (l:List UInt8)(st:P.St):Prop:=∃p,st.tok=zp l p
theorem vK {st:P.St}{b:Bool}{e a:Int}(he:e≠0)(h:PFine (zt st b e a)):PFine st/\b=false:=by
 cases b with
 | false=>exact⟨h,rfl⟩
 | true=>
  exfalso
  unfold zt xZ at h
  rw[if_pos rfl] at h
  split at h
  ·exact he h.2
  ·rename_i hn
   exact hn (Or.inl h.2)
theorem jX {l:List UInt8}{st:P.St}(b:Bool)(e a:Int)(h:Tkd l st):Tkd l (zt st b e a):=by
 obtain⟨p,hp⟩:=h
 refine⟨p,?_⟩
 unfold zt xZ
 split
 ·split <;> exact hp
 ·exact hp
theorem fL {st:P.St}{a b:Int}(h:PFine (qE st a b)):PFine st/\a<b:=by
 unfold qE at h
 obtain⟨h1,h2⟩:=vK (by decide) h
 exact⟨h1,by simpa using h2⟩
theorem jF {l:List UInt8}{st:P.St}(a b:Int)(h:Tkd l st):Tkd l (qE st a b):=jX _ _ _ h
theorem zbY {l:List UInt8}{st:P.St}{b:Bool}(h:PFine (qg l st b)):PFine st/\b=true:=by
 unfold qg at h
 split at h
 ·rename_i hc;exact⟨⟨hc.2,h.2⟩,hc.1⟩
 ·exact absurd h.1 (by simp)
theorem zc8 {l:List UInt8}{st:P.St}(b:Bool)(h:Tkd l st):Tkd l (qg l st b):=by
 unfold qg
 split
 ·exact⟨_,rfl⟩
 ·exact h
theorem yx {l:List UInt8}{st:P.St}{r:List UInt8}(h:PFine (zX l st r)):PFine st:=(zbY h).1
theorem xG {l:List UInt8}{st:P.St}(r:List UInt8)(h:Tkd l st):Tkd l (zX l st r):=zc8 _ h
theorem zbL (r:List UInt8)(h:(qU r).2=3):(qU r).1<=26:=by
 unfold qU at h ⊢
 match r with
 | []=>simp at h
 | c :: r=>
  simp only at h ⊢
  split
  ·rename_i h1;rw[if_pos h1] at h;simp at h
  ·rename_i h1
   rw[if_neg h1] at h
   split
   ·rename_i h2
    rw[if_pos h2] at h
    unfold yD at h;split at h <;> simp at h
   ·rename_i h2
    rw[if_neg h2] at h
    split
    ·rename_i h3
     unfold yO jh
     split
     ·simp
     ·rename_i h4
      simp at h4 ⊢;omega
    ·rename_i h3
     rw[if_neg h3] at h
     split at h <;> simp at h
theorem ziA (r:List UInt8)(h:(qU r).2=2):(qU r).1=R.span R.digitI r/\R.span R.digitI r<=5:=by
 unfold qU at h ⊢
 match r with
 | []=>simp at h
 | c :: r=>
  simp only at h ⊢
  split
  ·rename_i h1;rw[if_pos h1] at h;simp at h
  ·rename_i h1
   rw[if_neg h1] at h
   split
   ·rename_i h2
    rw[if_pos h2] at h
    unfold yD at h ⊢
    split
    ·rename_i h5;rw[if_pos h5] at h;simp at h
    ·exact⟨rfl,by omega⟩
   ·rename_i h2
    rw[if_neg h2] at h
    split at h
    ·unfold yO at h;split at h <;> simp at h
    ·split at h <;> simp at h
theorem zdP {l:List UInt8}{st:P.St}(ht:Tkd l st)(h:PFine (qG l st).2):PFine st/\(qG l st).1.length<=24:=by
 obtain⟨h1,h2⟩:=zbY (show PFine (qg l st (st.tok.k == 3)) from h)
 refine⟨h1,?_⟩
 obtain⟨p,hp⟩:=ht
 have hk:st.tok.k=3:=by simpa using h2
 have hr:st.tok.raw.length<=26:=by
  rw[hp] at hk ⊢
  have:=zbL _ hk
  show((l.drop (qI l p)).take (qU (l.drop (qI l p))).1).length<=26
  rw[List.length_take];omega
 unfold qG
 simp only
 split
 ·simp
 ·rw[List.length_take];omega
theorem tS {l:List UInt8}{st:P.St}(ht:Tkd l st):Tkd l (qG l st).2:=zc8 _ ht
theorem zqP {l:List UInt8}{st:P.St}(ht:Tkd l st)(h:PFine (xB l st).2):PFine st/\0<=(xB l st).1/\(xB l st).1<=99999:=by
 obtain⟨h1,h2⟩:=zbY (show PFine (qg l st (st.tok.k == 2)) from h)
 refine⟨h1,?_⟩
 obtain⟨p,hp⟩:=ht
 have hk:st.tok.k=2:=by simpa using h2
 have hr:st.tok.raw.length<=5/\∀c∈st.tok.raw,R.digitI c.toNat=true:=by
  rw[hp] at hk ⊢
  obtain⟨m1,m2⟩:=ziA _ hk
  show((l.drop (qI l p)).take (qU (l.drop (qI l p))).1).length<=5/\∀c∈(l.drop (qI l p)).take (qU (l.drop (qI l p))).1,_
  rw[m1]
  exact⟨by rw[List.length_take];omega,R.span_all _ _⟩
 unfold xB
 simp only
 split
 ·omega
 ·exact R.num_le st.tok.raw hr.2 hr.1
theorem zmD {l:List UInt8}{st:P.St}(ht:Tkd l st):Tkd l (xB l st).2:=zc8 _ ht
theorem zpN (p:UInt8->Bool)(h:(List.range 256).all (fun n=>p (UInt8.ofNat n))=true)(c:UInt8):p c=true:=by
 have:=List.all_eq_true.1 h c.toNat (List.mem_range.2 c.toNat_lt)
 rwa[UInt8.ofNat_toNat] at this
theorem zh4 (c:UInt8):R.partI c.toNat true=true->R.partI (R.lowC c).toNat false=true:=by
 have:=zpN (fun c=>!R.partI c.toNat true || R.partI (R.lowC c).toNat false) (by decide +kernel) c
 simp only[Bool.or_eq_true,Bool.not_eq_true'] at this
 intro h;rcases this with h' | h'
 ·rw[h] at h';cases h'
 ·exact h'
theorem zfL (c:UInt8):(R.lowC c=46↔c=46)/\(R.lowC c=42↔c=42):=by
 have:=zpN (fun c=>decide ((R.lowC c=46↔c=46)/\(R.lowC c=42↔c=42))) (by decide +kernel) c
 simpa using this
theorem ziI {s:List UInt8}(h:R.word s true=true):R.word (R.lower s) false=true:=by
 unfold R.word R.allB R.lower at*
 simp only[Bool.and_eq_true,List.all_eq_true,decide_eq_true_eq,List.mem_map,xW] at*
 exact⟨fun c ⟨d,hd,e⟩=>by rw[<-e];exact zh4 d (h.1 d hd),h.2⟩
theorem zjF (s:List UInt8)(h:R.word s true=true):R.lower (R.lower s)=R.lower s:=(zmF (ziI h)).2.2.2
theorem zlV {s:List UInt8}(h:R.header s true=true):R.header (R.lower s) false=true:=by
 unfold R.header at h ⊢
 rw[Bool.and_eq_true] at h ⊢
 exact⟨ziI h.1,by rw[zjF s h.1];exact h.2⟩
theorem uQ:∀(s:List UInt8) (n:Nat),R.labelsGo true s n=true->R.labelsGo false (R.lower s) n=true
 | [],n,h=>by simpa[R.labelsGo,R.lower] using h
 | c :: s,n,h=>by
  show R.labelsGo false (R.lowC c :: R.lower s) n=true
  unfold R.labelsGo at h ⊢
  have aa:((R.lowC c).toNat:Int)=46↔(c.toNat:Int)=46:=by
   have:=(zfL c).1
   constructor
   ·intro e;have:c=46:=this.1 (UInt8.toNat_inj.1 (by show(R.lowC c).toNat=46;omega));subst this;rfl
   ·intro e;have:R.lowC c=46:=this.2 (UInt8.toNat_inj.1 (by show c.toNat=46;omega));rw[this];rfl
  by_cases hc:(c.toNat:Int)=46/\0<n
  ·rw[if_pos hc] at h
   rw[if_pos ⟨aa.2 hc.1,hc.2⟩]
   exact uQ s 0 h
  ·rw[if_neg hc] at h
   rw[if_neg (fun hh=>hc ⟨aa.1 hh.1,hh.2⟩)]
   by_cases hp:R.partI c.toNat true=true
   ·rw[if_pos hp] at h
    rw[if_pos (zh4 c hp)]
    exact uQ s (n+1) h
   ·rw[if_neg hp] at h;cases h
theorem zmN {s:List UInt8}(h:R.named s true=true):R.named (R.lower s) false=true:=by
 unfold R.named at h ⊢
 by_cases h1:s=[42]
 ·subst h1;rfl
 ·rw[if_neg h1] at h
  have aa:¬R.lower s=[42]:=by
   intro e
   apply h1
   have ab:s.length=1:=by have:=congrArg List.length e;simpa[R.lower] using this
   obtain⟨c,rfl⟩:=List.length_eq_one_iff.1 ab
   have:R.lowC c=42:=by simpa[R.lower] using e
   rw[(zfL c).2.1 this]
  rw[if_neg aa]
  have hl:(R.lower s).length=s.length:=by unfold R.lower;simp
  have ht:(R.lower s).take 2=[42,46]↔s.take 2=[42,46]:=by
   unfold R.lower
   rw[<-List.map_take]
   constructor
   ·intro e
    rcases hq:s.take 2 with _ | ⟨a,_ | ⟨b,_ | ⟨c,q⟩⟩⟩
    ·rw[hq] at e;simp at e
    ·rw[hq] at e;simp at e
    ·rw[hq] at e
     simp only[xl,List.map_nil,List.cons.injEq,and_true] at e
     rw[(zfL a).2.1 e.1,(zfL b).1.1 e.2]
    ·rw[hq] at e;simp at e
   ·intro e;rw[e];rfl
  by_cases h2:s.take 2=[42,46]/\2<s.length
  ·rw[if_pos h2] at h
   rw[if_pos ⟨ht.2 h2.1,by omega⟩]
   have:(R.lower s).drop 2=R.lower (s.drop 2):=by unfold R.lower;rw[List.map_drop]
   unfold R.labels;rw[this]
   exact uQ _ 0 h
  ·rw[if_neg h2] at h
   rw[if_neg (fun hh=>h2 ⟨ht.1 hh.1,by omega⟩)]
   exact uQ _ 0 h
theorem zqW {aa:List (List UInt8)}{x:List UInt8}(h:(aa.any fun n=>decide (n=x))=false):x ∉ aa:=by
 intro hm
 rw[List.any_eq_false] at h
 exact h x hm (by simp)
theorem zsD {aa:List Int}{x:Int}(h:(aa.any fun n=>decide (n=x))=false):x ∉ aa:=by
 intro hm
 rw[List.any_eq_false] at h
 exact h x hm (by simp)
theorem zdR {b:Bool}(h:(!b)=false):b=true:=by cases b with | true=>rfl | false=>cases h
theorem zj3 {l:List UInt8}{st:P.St}{aa:List (List UInt8)}(ht:Tkd l st)(h:PFine (xX l st aa).2) :
  PFine st/\R.named (xX l st aa).1 false=true/\(xX l st aa).1.length<=24/\(xX l st aa).1 ∉ aa:=by
 obtain⟨h1,h2⟩:=vK (by decide) (show PFine (zt (zt (qG l st).2 (!tD (qG l st).1) 4 st.tok.at_) (aa.any fun n=>decide (n=R.lower (qG l st).1)) 5 st.tok.at_) from h)
 obtain⟨h3,h4⟩:=vK (by decide) h1
 obtain⟨h5,h6⟩:=zdP ht h3
 exact⟨h5,zmN (zdR h4),by show(R.lower _).length<=24;unfold R.lower;rw[xW];exact h6,zqW h2⟩
theorem zfY {l:List UInt8}{st:P.St}(aa:List (List UInt8))(ht:Tkd l st):Tkd l (xX l st aa).2:=jX _ _ _ (jX _ _ _ (tS ht))
theorem zmJ {l:List UInt8}{st:P.St}{w:List UInt8}(ht:Tkd l st)(h:PFine (yJ l st w).2) :
  PFine st/\R.path (yJ l st w).1=true/\(yJ l st w).1.length<=24:=by
 have h1:=yx (show PFine (zX l (zt (qG l (zX l st w)).2 (!R.path (qG l (zX l st w)).1) 4 (zX l st w).tok.at_) [59]) from h)
 obtain⟨h3,h4⟩:=vK (by decide) h1
 obtain⟨h5,h6⟩:=zdP (xG w ht) h3
 exact⟨yx h5,zdR h4,h6⟩
theorem zhY {l:List UInt8}{st:P.St}(w:List UInt8)(ht:Tkd l st):Tkd l (yJ l st w).2:=xG _ (jX _ _ _ (tS (xG _ ht)))
theorem zf2 {l:List UInt8}{st:P.St}(ht:Tkd l st)(h:PFine (qj l st).2) :
  PFine st/\R.header (qj l st).1 false=true/\(qj l st).1.length<=24:=by
 obtain⟨h3,h4⟩:=vK (by decide) (show PFine (zt (qG l st).2 (!R.header (qG l st).1 true) 4 st.tok.at_) from h)
 obtain⟨h5,h6⟩:=zdP ht h3
 exact⟨h5,zlV (zdR h4),by show(R.lower _).length<=24;unfold R.lower;rw[xW];exact h6⟩
theorem zcU {l:List UInt8}{st:P.St}(ht:Tkd l st):Tkd l (qj l st).2:=jX _ _ _ (tS ht)
theorem ziO {l:List UInt8}{st:P.St}(ht:Tkd l st)(h:PFine (xQ l st).2) :
  PFine st/\R.value (xQ l st).1=true/\(xQ l st).1.length<=24:=by
 obtain⟨h3,h4⟩:=vK (by decide) (show PFine (zt (qG l (zX l st [61])).2 (!R.value (qG l (zX l st [61])).1) 4 (zX l st [61]).tok.at_) from h)
 obtain⟨h5,h6⟩:=zdP (xG _ ht) h3
 exact⟨yx h5,zdR h4,h6⟩
theorem zfE {l:List UInt8}{st:P.St}(ht:Tkd l st):Tkd l (xQ l st).2:=jX _ _ _ (tS (xG _ ht))
theorem zm9 {l:List UInt8}{st:P.St}(n:Nat)(ht:Tkd l st):Tkd l (jH l st n).2:=zcU (xG _ (jF _ _ ht))
theorem zrL {l:List UInt8}{st:P.St}(ht:Tkd l st):Tkd l (vo l st).2:=by
 unfold vo;split
 ·exact zfE ht
 ·exact ht
theorem zp2 {l:List UInt8}{st:P.St}{n:Nat}(ht:Tkd l st)(h:PFine (x8 l st n).2):PFine st/\n<3/\VMt (x8 l st n).1:=by
 have h1:=yx (show PFine (zX l (vo l (jH l st n).2).2 [59]) from h)
 have hB:PFine (jH l st n).2/\R.value (vo l (jH l st n).2).1=true/\(vo l (jH l st n).2).1.length<=24/\(qX (jH l st n).2 [61]=false->(vo l (jH l st n).2).1=[]):=by
  unfold vo at h1 ⊢
  by_cases hs:qX (jH l st n).2 [61]=true
  ·rw[if_pos hs] at h1 ⊢
   obtain⟨a1,a2,a3⟩:=ziO (zm9 n ht) h1
   exact⟨a1,a2,a3,fun h=>by rw[hs] at h;cases h⟩
  ·rw[if_neg hs] at h1 ⊢
   exact⟨h1,rfl,by simp,fun _=>rfl⟩
 obtain⟨b1,b2,b3⟩:=zf2 (xG _ (jF _ _ ht)) (show PFine (qj l (zX l (qE st n 3) qd)).2 from hB.1)
 obtain⟨c1,c2⟩:=fL (yx b1)
 exact⟨c1,by omega,b2,b3,hB.2.1,hB.2.2.1,hB.2.2.2⟩
theorem znA {l:List UInt8}{st:P.St}(n:Nat)(ht:Tkd l st):Tkd l (x8 l st n).2:=xG _ (zrL (zm9 n ht))
theorem zeR {l:List UInt8}:∀(ab:Nat) (st:P.St) (aa:List P.Mt),Tkd l st->Tkd l (xL l ab st aa).2/\(PFine (xL l ab st aa).2->PFine st/\(aa.length<=3->(∀m∈aa,VMt m)->(xL l ab st aa).1.length<=3/\∀m∈(xL l ab st aa).1,VMt m))
 | 0,st,aa,ht=>⟨ht,fun h=>⟨h,fun a b=>⟨a,b⟩⟩⟩
 | ab+1,st,aa,ht=>by
  unfold xL
  by_cases hs:qX st qd=true
  ·rw[if_pos hs]
   obtain⟨a1,a2⟩:=zeR ab (x8 l st aa.length).2 (aa++[(x8 l st aa.length).1]) (znA _ ht)
   refine⟨a1,fun h=>?_⟩
   obtain⟨b1,b2⟩:=a2 h
   obtain⟨c1,c2,c3⟩:=zp2 ht b1
   exact⟨c1,fun d1 d2=>b2 (by simp;omega) (fun m hm=>by rcases List.mem_append.1 hm with hm | hm;exact d2 m hm;simp at hm;rw[hm];exact c3)⟩
  ·rw[if_neg hs]
   exact⟨ht,fun h=>⟨h,fun a b=>⟨a,b⟩⟩⟩
theorem zb7 {l:List UInt8}{st:P.St}(n:Nat)(ht:Tkd l st):Tkd l (xq l st n).2:=jX _ _ _ (tS (jF _ _ ht))
theorem zfB {l:List UInt8}{st:P.St}{n:Nat}(ht:Tkd l st)(h:PFine (zk l st n).2) :
  PFine st/\n<4/\R.upstream (zk l st n).1.1=true/\(zk l st n).1.1.length<=24/\0<=(zk l st n).1.2/\(zk l st n).1.2<=1000:=by
 obtain⟨h1,h2⟩:=vK (by decide) (show PFine (zt (xB l (xq l st n).2).2 (decide (1000<(xB l (xq l st n).2).1)) 4 (xq l st n).2.tok.at_) from h)
 obtain⟨h3,h4,_⟩:=zqP (zb7 n ht) h1
 obtain⟨h5,h6⟩:=vK (by decide) (show PFine (zt (qG l (qE st n 4)).2 (!R.upstream (qG l (qE st n 4)).1) 4 (qE st n 4).tok.at_) from h3)
 obtain⟨h7,h8⟩:=zdP (jF _ _ ht) h5
 obtain⟨h9,aa⟩:=fL h7
 exact⟨h9,by omega,zdR h6,h8,h4,by show(xB l (xq l st n).2).1<=1000;simpa using h2⟩
theorem fl {l:List UInt8}{st:P.St}(n:Nat)(ht:Tkd l st):Tkd l (zk l st n).2:=jX _ _ _ (zmD (zb7 n ht))
def VT0 (t:List UInt8×Int):Prop:=R.upstream t.1=true/\t.1.length<=24/\0<=t.2/\t.2<=1000
theorem zaL {l:List UInt8}:∀(ab:Nat) (st:P.St) (aa:List (List UInt8×Int)),Tkd l st->Tkd l (xc l ab st aa).2/\(PFine (xc l ab st aa).2->PFine st/\(aa.length<=4->(∀m∈aa,VT0 m)->(xc l ab st aa).1.length<=4/\∀m∈(xc l ab st aa).1,VT0 m))
 | 0,st,aa,ht=>⟨ht,fun h=>⟨h,fun a b=>⟨a,b⟩⟩⟩
 | ab+1,st,aa,ht=>by
  unfold xc
  by_cases hs:qX st [44]=true
  ·rw[if_pos hs]
   obtain⟨a1,a2⟩:=zaL ab (zk l (zX l st [44]) aa.length).2 (aa++[(zk l (zX l st [44]) aa.length).1]) (fl _ (xG _ ht))
   refine⟨a1,fun h=>?_⟩
   obtain⟨b1,b2⟩:=a2 h
   obtain⟨c1,c2,c3⟩:=zfB (xG _ ht) b1
   exact⟨yx c1,fun d1 d2=>b2 (by simp;omega) (fun m hm=>by rcases List.mem_append.1 hm with hm | hm;exact d2 m hm;simp at hm;rw[hm];exact c3)⟩
  ·rw[if_neg hs]
   exact⟨ht,fun h=>⟨h,fun a b=>⟨a,b⟩⟩⟩
theorem znU {l:List UInt8}{st:P.St}(ht:Tkd l st):Tkd l (yA l st).2:=(zaL _ _ _ (fl _ (xG _ ht))).1
theorem zlF {l:List UInt8}{st:P.St}(ht:Tkd l st)(h:PFine (qh l st).2):PFine st/\(qh l st).1≠[]/\(qh l st).1.length<=4/\∀t∈(qh l st).1,VTg t:=by
 obtain⟨h1,h2⟩:=vK (by decide) (show PFine (zt (zX l (yA l st).2 [59]) (((yA l st).1.filter fun t=>!(t.2 == 0)).isEmpty) 4 st.tok.at_) from h)
 have h3:=yx h1
 obtain⟨a1,a2⟩:=(zaL (l.length+1) _ [(zk l (zX l st kL) 0).1] (fl _ (xG _ ht))).2 (show PFine (yA l st).2 from h3)
 obtain⟨b1,b2,b3⟩:=zfB (xG _ ht) a1
 obtain⟨c1,c2⟩:=a2 (by simp) (fun m hm=>by simp at hm;rw[hm];exact b3)
 refine⟨yx b1,?_,?_,fun t htm=>?_⟩
 ·show((yA l st).1.filter fun t=>!(t.2 == 0))≠[]
  intro e;rw[e] at h2;cases h2
 ·show((yA l st).1.filter fun t=>!(t.2 == 0)).length<=4
  exact qf (List.length_filter_le _ _) c1
 ·have aa:t∈(yA l st).1.filter fun t=>!(t.2 == 0):=htm
  rw[List.mem_filter] at aa
  obtain⟨v1,v2,v3,v4⟩:=c2 t aa.1
  have ab:t.2≠0:=by simpa using aa.2
  exact⟨v1,v2,by omega,v4⟩
theorem zjA {l:List UInt8}{st:P.St}(ht:Tkd l st):Tkd l (qh l st).2:=jX _ _ _ (xG _ (znU ht))
theorem zeV {l:List UInt8}{st:P.St}{am:List (List UInt8)}(ht:Tkd l st)(h:PFine (x3 l st am).2) :
  PFine st/\R.header (x3 l st am).1 false=true/\(x3 l st am).1.length<=24/\(x3 l st am).1 ∉ am:=by
 obtain⟨h1,h2⟩:=vK (by decide) (show PFine (zt (qj l st).2 (am.any fun n=>decide (n=(qj l st).1)) 5 st.tok.at_) from h)
 obtain⟨h3,h4,h5⟩:=zf2 ht h1
 exact⟨h3,h4,h5,zqW h2⟩
theorem fb {l:List UInt8}{st:P.St}(am:List (List UInt8))(ht:Tkd l st):Tkd l (x3 l st am).2:=jX _ _ _ (zcU ht)
theorem zt8 {l:List UInt8}{st:P.St}{n:Nat}{am:List (List UInt8)}(ht:Tkd l st)(h:PFine (xy l st n am).2):PFine st/\n<3/\VSt (xy l st n am).1/\(xy l st n am).1.1 ∉ am:=by
 have h1:=yx (show PFine (zX l (xQ l (jd l st n am).2).2 [59]) from h)
 have hA:Tkd l (jd l st n am).2:=fb am (xG _ (jF _ _ ht))
 obtain⟨a1,a2,a3⟩:=ziO hA h1
 obtain⟨b1,b2,b3,b4⟩:=zeV (xG _ (jF _ _ ht)) (show PFine (x3 l (zX l (qE st n 3) xf) am).2 from a1)
 obtain⟨c1,c2⟩:=fL (yx b1)
 exact⟨c1,by omega,⟨b2,b3,a2,a3⟩,b4⟩
theorem zsW {l:List UInt8}{st:P.St}(n:Nat)(am:List (List UInt8))(ht:Tkd l st):Tkd l (xy l st n am).2:=xG _ (zfE (fb am (xG _ (jF _ _ ht))))
theorem zrX {l:List UInt8}{st:P.St}{n:Nat}{am:List (List UInt8)}(ht:Tkd l st)(h:PFine (xm l st n am).2):PFine st/\n<3/\VDp (xm l st n am).1/\(xm l st n am).1 ∉ am:=by
 have h1:=yx (show PFine (zX l (je l st n am).2 [59]) from h)
 obtain⟨b1,b2,b3,b4⟩:=zeV (xG _ (jF _ _ ht)) (show PFine (x3 l (zX l (qE st n 3) x7) am).2 from h1)
 obtain⟨c1,c2⟩:=fL (yx b1)
 exact⟨c1,by omega,⟨b2,b3⟩,b4⟩
theorem zp6 {l:List UInt8}{st:P.St}(n:Nat)(am:List (List UInt8))(ht:Tkd l st):Tkd l (xm l st n am).2:=xG _ (fb am (xG _ (jF _ _ ht)))
theorem t7 {α:Type}{l:List α}{x:α}(h:l.Pairwise (·≠·))(hx:x ∉ l):(l++[x]).Pairwise (·≠·):=by
 rw[List.pairwise_append]
 exact⟨h,by simp,fun a ha b hb=>by simp at hb;subst hb;intro e;subst e;exact hx ha⟩
theorem zeF {l:List UInt8}:∀(ab:Nat) (st:P.St) (aa:List (List UInt8×List UInt8)),Tkd l st->Tkd l (qy l ab st aa).2/\(PFine (qy l ab st aa).2->PFine st/\(aa.length<=3->(∀m∈aa,VSt m)->(aa.map Prod.fst).Pairwise (·≠·)->
  (qy l ab st aa).1.length<=3/\(∀m∈(qy l ab st aa).1,VSt m)/\((qy l ab st aa).1.map Prod.fst).Pairwise (·≠·)))
 | 0,st,aa,ht=>⟨ht,fun h=>⟨h,fun a b c=>⟨a,b,c⟩⟩⟩
 | ab+1,st,aa,ht=>by
  unfold qy
  by_cases hs:qX st xf=true
  ·rw[if_pos hs]
   obtain⟨a1,a2⟩:=zeF ab (xy l st aa.length (aa.map Prod.fst)).2 (aa++[(xy l st aa.length (aa.map Prod.fst)).1]) (zsW _ _ ht)
   refine⟨a1,fun h=>?_⟩
   obtain⟨b1,b2⟩:=a2 h
   obtain⟨c1,c2,c3,c4⟩:=zt8 ht b1
   exact⟨c1,fun d1 d2 d3=>b2 (by simp;omega) (fun m hm=>by rcases List.mem_append.1 hm with hm | hm;exact d2 m hm;simp at hm;rw[hm];exact c3) (by rw[fJ];exact t7 d3 c4)⟩
  ·rw[if_neg hs]
   exact⟨ht,fun h=>⟨h,fun a b c=>⟨a,b,c⟩⟩⟩
theorem zeX {l:List UInt8}(ab:List (List UInt8)):∀(ad:Nat) (st:P.St) (aa:List (List UInt8)),Tkd l st->Tkd l (qp l ab ad st aa).2/\(PFine (qp l ab ad st aa).2->PFine st/\(aa.length<=3->(∀m∈aa,VDp m)->(ab++aa).Pairwise (·≠·)->
  (qp l ab ad st aa).1.length<=3/\(∀m∈(qp l ab ad st aa).1,VDp m)/\(ab++(qp l ab ad st aa).1).Pairwise (·≠·)))
 | 0,st,aa,ht=>⟨ht,fun h=>⟨h,fun a b c=>⟨a,b,c⟩⟩⟩
 | ad+1,st,aa,ht=>by
  unfold qp
  by_cases hs:qX st x7=true
  ·rw[if_pos hs]
   obtain⟨a1,a2⟩:=zeX ab ad (xm l st aa.length (ab++aa)).2 (aa++[(xm l st aa.length (ab++aa)).1]) (zp6 _ _ ht)
   refine⟨a1,fun h=>?_⟩
   obtain⟨b1,b2⟩:=a2 h
   obtain⟨c1,c2,c3,c4⟩:=zrX ht b1
   exact⟨c1,fun d1 d2 d3=>b2 (by simp;omega) (fun m hm=>by rcases List.mem_append.1 hm with hm | hm;exact d2 m hm;simp at hm;rw[hm];exact c3) (by rw[<-x4];exact t7 d3 c4)⟩
  ·rw[if_neg hs]
   exact⟨ht,fun h=>⟨h,fun a b c=>⟨a,b,c⟩⟩⟩
theorem zt4 {l:List UInt8}{st:P.St}{aa:List Int}(ht:Tkd l st)(h:PFine (jT l st aa).2):PFine st/\aa.length<6/\0<=(jT l st aa).1/\(jT l st aa).1<=65535/\(jT l st aa).1 ∉ aa:=by
 have ab:Tkd l (zX l (qE st aa.length 6) xH):=xG _ (jF _ _ ht)
 unfold jT yX at h ⊢
 obtain⟨h1,h2⟩:=vK (by decide) h
 obtain⟨h3,h4⟩:=vK (by decide) h1
 obtain⟨h5,h6,_⟩:=zqP ab h3
 obtain⟨h7,h8⟩:=fL (yx h5)
 exact⟨h7,by omega,h6,by simpa using h4,zsD h2⟩
theorem zsP {l:List UInt8}{st:P.St}(aa:List Int)(ht:Tkd l st):Tkd l (jT l st aa).2:=jX _ _ _ (jX _ _ _ (zmD (xG _ (jF _ _ ht))))
theorem ztI {l:List UInt8}{st:P.St}(ht:Tkd l st):Tkd l (j0 l st).2/\(PFine (j0 l st).2->PFine st/\((j0 l st).1=[]\/(R.path (j0 l st).1=true/\(j0 l st).1.length<=24))):=by
 unfold j0
 by_cases hs:qX st qW=true
 ·rw[if_pos hs]
  exact⟨zhY _ ht,fun h=>by obtain⟨a,b,c⟩:=zmJ ht h;exact⟨a,Or.inr ⟨b,c⟩⟩⟩
 ·rw[if_neg hs]
  exact⟨ht,fun h=>⟨h,Or.inl rfl⟩⟩
theorem zrV {l:List UInt8}{st:P.St}(aa:List Int)(ht:Tkd l st):Tkd l (xg l st aa).2/\(PFine (xg l st aa).2->PFine st/\aa.length<6/\(xg l st aa).1.number ∉ aa/\VRl (xg l st aa).1):=by
 generalize ha:jT l st aa=a
 generalize hb:vH l a.2=b
 generalize hm:xL l (l.length+1) b.2 []=m
 generalize ab:qh l m.2=t
 generalize hc:j0 l t.2=c
 generalize hs:qy l (l.length+1) c.2 []=s
 generalize hd:qp l (s.1.map Prod.fst) (l.length+1) s.2 []=d
 have hR:xg l st aa=(⟨a.1,b.1,m.1,t.1,c.1,s.1,d.1⟩,zX l d.2 [125]):=by
  unfold xg;rw[ha];unfold uC;rw[hb,hm];unfold uE;rw[ab];unfold vN;rw[hc,hs];unfold wH;rw[hd]
 rw[hR]
 have ka:=zsP aa ht
 have kb:Tkd l (vH l a.2).2:=by rw[ha] at ka;exact zhY _ (xG _ ka)
 have km:=zeR (l.length+1) (vH l a.2).2 [] kb
 rw[hb] at km
 have kt:Tkd l (qh l m.2).2:=by rw[hm] at km;exact zjA km.1
 have kc:=ztI kt
 rw[ab] at kc
 have ks:=zeF (l.length+1) (j0 l t.2).2 [] kc.1
 rw[hc] at ks
 have kd:=zeX (s.1.map Prod.fst) (l.length+1) (qy l (l.length+1) c.2 []).2 [] ks.1
 rw[hs] at kd
 rw[hd] at kd;rw[hs] at ks;rw[hc] at kc;rw[hm] at km
 refine⟨xG _ kd.1,fun h=>?_⟩
 obtain⟨d1,d2⟩:=kd.2 (yx h)
 obtain⟨s1,s2⟩:=ks.2 d1
 obtain⟨s3,s4,s5⟩:=s2 (by simp) (by simp) (by simp)
 obtain⟨d3,d4,d5⟩:=d2 (by simp) (by simp) (by simpa using s5)
 obtain⟨c1,c2⟩:=kc.2 s1
 obtain⟨t1,t2,t3,t4⟩:=zlF km.1 (by rw[ab];exact c1)
 rw[ab] at t2 t3 t4
 obtain⟨m1,m2⟩:=km.2 t1
 obtain⟨m3,m4⟩:=m2 (by simp) (by simp)
 rw[ha] at ka
 obtain⟨b1,b2,b3⟩:=zmJ (xG [123] ka) (show PFine (yJ l (zX l a.2 [123]) jC).2 by rw[<-hb] at m1;exact m1)
 have ad:yJ l (zX l a.2 [123]) jC=b:=hb
 rw[ad] at b2 b3
 obtain⟨a1,a2,a3,a4,a5⟩:=zt4 ht (show PFine (jT l st aa).2 by rw[ha];exact yx b1)
 rw[ha] at a3 a4 a5
 exact⟨a1,a2,a5,⟨⟨a3,a4⟩,b2,b3,m3,m4,t2,t3,t4,c2,s3,s4,d3,d4,d5⟩⟩
theorem zeJ {l:List UInt8}:∀(ab:Nat) (st:P.St) (aa:List P.Rl),Tkd l st->Tkd l (xR l ab st aa).2/\(PFine (xR l ab st aa).2->PFine st/\(aa.length<=6->(∀m∈aa,VRl m)->(aa.map P.Rl.number).Pairwise (·≠·)->
  (xR l ab st aa).1.length<=6/\(∀m∈(xR l ab st aa).1,VRl m)/\((xR l ab st aa).1.map P.Rl.number).Pairwise (·≠·)))
 | 0,st,aa,ht=>⟨ht,fun h=>⟨h,fun a b c=>⟨a,b,c⟩⟩⟩
 | ab+1,st,aa,ht=>by
  unfold xR
  by_cases hs:qX st xH=true
  ·rw[if_pos hs]
   obtain⟨k1,k2⟩:=zrV (aa.map P.Rl.number) ht
   obtain⟨a1,a2⟩:=zeJ ab (xg l st (aa.map P.Rl.number)).2 (aa++[(xg l st (aa.map P.Rl.number)).1]) k1
   refine⟨a1,fun h=>?_⟩
   obtain⟨b1,b2⟩:=a2 h
   obtain⟨c1,c2,c3,c4⟩:=k2 b1
   rw[xW] at c2
   exact⟨c1,fun d1 d2 d3=>b2 (by simp;omega) (fun m hm=>by rcases List.mem_append.1 hm with hm | hm;exact d2 m hm;simp at hm;rw[hm];exact c4) (by rw[fJ];exact t7 d3 c3)⟩
  ·rw[if_neg hs]
   exact⟨ht,fun h=>⟨h,fun a b c=>⟨a,b,c⟩⟩⟩
structure UHst (h:P.Hst):Prop where
 name:R.named h.name false=true
 nl:h.name.length<=24
 rl:h.rules.length<=6
 once:(h.rules.map P.Rl.number).Pairwise (·≠·)
 rules:∀r∈h.rules,VRl r
theorem zsL {l:List UInt8}{st:P.St}(aa:List (List UInt8))(ht:Tkd l st):Tkd l (xj l st aa).2/\(PFine (xj l st aa).2->PFine st/\aa.length<4/\(xj l st aa).1.name ∉ aa/\UHst (xj l st aa).1):=by
 have k1:Tkd l (kI l st aa).2:=zfY aa (xG _ (jF _ _ ht))
 have k2:=zeJ (l.length+1) (zX l (kI l st aa).2 [123]) [] (xG _ k1)
 refine⟨xG _ k2.1,fun h=>?_⟩
 obtain⟨a1,a2⟩:=k2.2 (yx (show PFine (zX l (xR l (l.length+1) (zX l (kI l st aa).2 [123]) []).2 [125]) from h))
 obtain⟨a3,a4,a5⟩:=a2 (by simp) (by simp) (by simp)
 obtain⟨b1,b2,b3,b4⟩:=zj3 (xG R.wHost (jF aa.length 4 ht)) (show PFine (kI l st aa).2 from yx a1)
 obtain⟨c1,c2⟩:=fL (yx b1)
 exact⟨c1,by omega,b4,b2,b3,a3,a5,a4⟩
theorem zf3 {l:List UInt8}:∀(ab:Nat) (st:P.St) (aa:List P.Hst),Tkd l st->Tkd l (qn l ab st aa).2/\(PFine (qn l ab st aa).2->PFine st/\(aa.length<=4->(∀m∈aa,UHst m)->(aa.map P.Hst.name).Pairwise (·≠·)->
  (qn l ab st aa).1.length<=4/\(∀m∈(qn l ab st aa).1,UHst m)/\((qn l ab st aa).1.map P.Hst.name).Pairwise (·≠·)))
 | 0,st,aa,ht=>⟨ht,fun h=>⟨h,fun a b c=>⟨a,b,c⟩⟩⟩
 | ab+1,st,aa,ht=>by
  unfold qn
  by_cases hs:qX st R.wHost=true
  ·rw[if_pos hs]
   obtain⟨k1,k2⟩:=zsL (aa.map P.Hst.name) ht
   obtain⟨a1,a2⟩:=zf3 ab (xj l st (aa.map P.Hst.name)).2 (aa++[(xj l st (aa.map P.Hst.name)).1]) k1
   refine⟨a1,fun h=>?_⟩
   obtain⟨b1,b2⟩:=a2 h
   obtain⟨c1,c2,c3,c4⟩:=k2 b1
   rw[xW] at c2
   exact⟨c1,fun d1 d2 d3=>b2 (by simp;omega) (fun m hm=>by rcases List.mem_append.1 hm with hm | hm;exact d2 m hm;simp at hm;rw[hm];exact c4) (by rw[fJ];exact t7 d3 c3)⟩
  ·rw[if_neg hs]
   exact⟨ht,fun h=>⟨h,fun a b c=>⟨a,b,c⟩⟩⟩
theorem zbZ (l:List UInt8)(h1:(qD l).2.broken=false)(h2:(qD l).2.err=0) :
  (qD l).1.length<=4/\(∀h∈(qD l).1,UHst h)/\((qD l).1.map P.Hst.name).Pairwise (·≠·):=by
 have k:=zf3 (l.length+1) (vr l) [] ⟨0,rfl⟩
 have h3:PFine (qn l (l.length+1) (vr l) []).2:=(zbY (show PFine (qg l (qn l (l.length+1) (vr l) []).2 _) from⟨h1,h2⟩)).1
 exact(k.2 h3).2 (by simp) (by simp) (by simp)
def zJ (s:List UInt8):List UInt8:=UInt8.ofNat s.length :: s
def qe (n:Int):List UInt8:=[UInt8.ofNat (n.toNat % 256),UInt8.ofNat (n.toNat / 256)]
def zQ {α:Type}(f:α->List UInt8)(l:List α):List UInt8:=UInt8.ofNat l.length :: (l.map f).flatten
def K.mt (m:P.Mt):List UInt8:=zJ m.name++(if m.ask then 1 :: zJ m.val else [0])
def K.tg (t:List UInt8×Int):List UInt8:=zJ t.1++qe t.2
def K.st (t:List UInt8×List UInt8):List UInt8:=zJ t.1++zJ t.2
def wm (r:List UInt8):List UInt8:=if r=[] then [0] else 1 :: zJ r
def qL (r:P.Rl):List UInt8:=qe r.number++(zJ r.path++(zQ K.mt r.ms++(zQ K.tg r.tg++(wm r.rep++(zQ K.st r.sets++zQ zJ r.drops)))))
def qO (h:P.Hst):List UInt8:=zJ h.name++zQ qL h.rules
def xE (hs:List P.Hst):List UInt8:=[83,89,49]++zQ qO hs
def vp (s:Nat):Nat:=if s % 2=1 then (s / 2) ^^^ 3988292384 else s / 2
def zcX (s:Nat)(c:UInt8):Nat:=vp (vp (vp (vp (vp (vp (vp (vp (s ^^^ c.toNat))))))))
def yS (l:List UInt8):Nat:=4294967295 - l.foldl zcX 4294967295
def xM (n:Nat):List UInt8:=[UInt8.ofNat (n % 256),UInt8.ofNat (n / 256 % 256),UInt8.ofNat (n / 65536 % 256),UInt8.ofNat (n / 16777216 % 256)]
def x9 (hs:List P.Hst):List UInt8:=xE hs++xM (yS (xE hs))
def j2 (n:Nat)(r:List UInt8):List UInt8×List UInt8:=(r.take n++List.replicate (n - r.length) 0,r.drop n)
def qZ (r:List UInt8):Nat×List UInt8:=((r.headD 0).toNat,r.drop 1)
def qC (r:List UInt8):List UInt8×List UInt8:=j2 (qZ r).1 (qZ r).2
def yn (r:List UInt8):Int×List UInt8:=(((qZ r).1+(qZ (qZ r).2).1*256:Nat),(qZ (qZ r).2).2)
def ql {α:Type}(f:List UInt8->α×List UInt8):Nat->List UInt8->List α×List UInt8
 | 0,r=>([],r)
 | n+1,r=>((f r).1 :: (ql f n (f r).2).1,(ql f n (f r).2).2)
def za {α:Type}(f:List UInt8->α×List UInt8)(r:List UInt8):List α×List UInt8:=ql f (qZ r).1 (qZ r).2
def qv (r:List UInt8):(List UInt8×Bool)×List UInt8:=if (qZ r).1=0 then (([],false),(qZ r).2) else (((qC (qZ r).2).1,true),(qC (qZ r).2).2)
def U.mt (r:List UInt8):P.Mt×List UInt8:=(⟨(qC r).1,(qv (qC r).2).1.2,(qv (qC r).2).1.1⟩,(qv (qC r).2).2)
def U.tg (r:List UInt8):(List UInt8×Int)×List UInt8:=(((qC r).1,(yn (qC r).2).1),(yn (qC r).2).2)
def kM (r:List UInt8):List UInt8×List UInt8:=((qv r).1.1,(qv r).2)
def U.st (r:List UInt8):(List UInt8×List UInt8)×List UInt8:=(((qC r).1,(qC (qC r).2).1),(qC (qC r).2).2)
def y8 (r0:List UInt8):P.Rl×List UInt8:=
 (⟨(yn r0).1,(qC (yn r0).2).1,(za U.mt (qC (yn r0).2).2).1,(za U.tg (za U.mt (qC (yn r0).2).2).2).1,(kM (za U.tg (za U.mt (qC (yn r0).2).2).2).2).1,
  (za U.st (kM (za U.tg (za U.mt (qC (yn r0).2).2).2).2).2).1,(za qC (za U.st (kM (za U.tg (za U.mt (qC (yn r0).2).2).2).2).2).2).1⟩,
  (za qC (za U.st (kM (za U.tg (za U.mt (qC (yn r0).2).2).2).2).2).2).2)
def yP (r:List UInt8):P.Hst×List UInt8:=(⟨(qC r).1,(za y8 (qC r).2).1⟩,(za y8 (qC r).2).2)
def jO (b:List UInt8):List P.Hst:=(za yP (b.drop 3)).1
theorem u8n (n:Nat)(h:n<=255):(UInt8.ofNat n).toNat=n:=by
 rw[UInt8.toNat_ofNat'];omega
theorem jq (s r:List UInt8)(h:s.length<=255):qC (zJ s++r)=(s,r):=by
 have h1:qZ (zJ s++r)=(s.length,s++r):=by
  unfold qZ zJ
  show((UInt8.ofNat s.length).toNat,s++r)=_
  rw[u8n _ (by omega)]
 unfold qC j2
 rw[h1]
 simp
theorem kr (n:Nat)(r:List UInt8)(h:n<=255):qZ (UInt8.ofNat n :: r)=(n,r):=by
 unfold qZ
 show((UInt8.ofNat n).toNat,r)=_
 rw[u8n _ (by omega)]
theorem zj0 (n:Int)(r:List UInt8)(h:0<=n/\n<=65535):yn (qe n++r)=(n,r):=by
 have h1:qZ (qe n++r)=(n.toNat % 256,[UInt8.ofNat (n.toNat / 256)]++r):=kr _ _ (by omega)
 have h2:qZ ([UInt8.ofNat (n.toNat / 256)]++r)=(n.toNat / 256,r):=kr _ _ (by omega)
 unfold yn
 rw[h1]
 simp only
 rw[h2]
 simp only[Prod.mk.injEq,and_true]
 omega
theorem zcZ {α:Type}(f:List UInt8->α×List UInt8)(g:α->List UInt8):∀(l:List α) (r:List UInt8),(∀x∈l,∀r,f (g x++r)=(x,r))->ql f l.length ((l.map g).flatten++r)=(l,r)
 | [],r,_=>rfl
 | x :: l,r,h=>by
  have e:((x :: l).map g).flatten++r=g x++((l.map g).flatten++r):=by simp
  rw[e,zoF]
  unfold ql
  rw[h x (by simp),zcZ f g l r (fun y hy=>h y (by simp[hy]))]
theorem jt {α:Type}(f:List UInt8->α×List UInt8)(g:α->List UInt8)(l:List α)(r:List UInt8)(hl:l.length<=255)(h:∀x∈l,∀r,f (g x++r)=(x,r)):za f (zQ g l++r)=(l,r):=by
 unfold za
 have:qZ (zQ g l++r)=(l.length,(l.map g).flatten++r):=kr _ _ hl
 rw[this]
 exact zcZ f g l r h
theorem zsJ (m:P.Mt)(hm:VMt m)(r:List UInt8):U.mt (K.mt m++r)=(m,r):=by
 obtain⟨mn,ma,mv⟩:=m
 have h1:qC (K.mt ⟨mn,ma,mv⟩++r)=(mn,(if ma then 1 :: zJ mv else [0])++r):=by
  unfold K.mt;rw[x4];exact jq _ _ (by have aa:mn.length<=24:=hm.nl;show mn.length<=255;omega)
 unfold U.mt
 rw[h1]
 cases ma with
 | true=>
  have h2:qv (1 :: zJ mv++r)=((mv,true),r):=by
   unfold qv
   have:qZ (1 :: zJ mv++r)=(1,zJ mv++r):=kr 1 _ (by omega)
   rw[this,if_neg (by simp),jq _ _ (by have aa:mv.length<=24:=hm.vl;omega)]
  simp only[if_true]
  rw[h2]
 | false=>
  have h2:qv ([0]++r)=(([],false),r):=by
   unfold qv
   have:qZ ([0]++r)=(0,r):=kr 0 _ (by omega)
   rw[this,if_pos rfl]
  have hv:mv=[]:=hm.no rfl
  simp only[zb2,if_false]
  rw[h2,hv]
theorem zrU (t:List UInt8×Int)(ht:VTg t)(r:List UInt8):U.tg (K.tg t++r)=(t,r):=by
 have h1:qC (K.tg t++r)=(t.1,qe t.2++r):=by unfold K.tg;rw[x4];exact jq _ _ (by have:=ht.ul;omega)
 unfold U.tg
 rw[h1]
 simp only
 rw[zj0 _ _ ⟨by have:=ht.lo;omega,by have:=ht.hi;omega⟩]
theorem zsO (t:List UInt8×List UInt8)(ht:VSt t)(r:List UInt8):U.st (K.st t++r)=(t,r):=by
 have h1:qC (K.st t++r)=(t.1,zJ t.2++r):=by unfold K.st;rw[x4];exact jq _ _ (by have:=ht.nl;omega)
 unfold U.st
 rw[h1]
 simp only
 rw[jq _ _ (by have:=ht.vl;omega)]
theorem zq7 (s r:List UInt8)(h:s.length<=24):kM (wm s++r)=(s,r):=by
 unfold kM wm
 by_cases hs:s=[]
 ·rw[if_pos hs,hs]
  have h2:qv ([0]++r)=(([],false),r):=by
   unfold qv
   have:qZ ([0]++r)=(0,r):=kr 0 _ (by omega)
   rw[this,if_pos rfl]
  rw[h2]
 ·rw[if_neg hs]
  have h2:qv (1 :: zJ s++r)=((s,true),r):=by
   unfold qv
   have:qZ (1 :: zJ s++r)=(1,zJ s++r):=kr 1 _ (by omega)
   rw[this,if_neg (by simp),jq _ _ (by omega)]
  rw[h2]
theorem zoI (x:P.Rl)(hv:VRl x)(r:List UInt8):y8 (qL x++r)=(x,r):=by
 have aa:x.rep.length<=24:=by rcases hv.rep with h | h;rw[h];simp;exact h.2
 have e:qL x++r=qe x.number++(zJ x.path++(zQ K.mt x.ms++(zQ K.tg x.tg++(wm x.rep++(zQ K.st x.sets++(zQ zJ x.drops++r)))))):=by
  unfold qL;simp only[x4]
 unfold y8
 rw[e,zj0 _ _ hv.num]
 simp only
 rw[jq _ _ (by have:=hv.pl;omega)]
 simp only
 rw[jt U.mt K.mt x.ms _ (by have:=hv.ml;omega) (fun m hm r=>zsJ m (hv.ms m hm) r)]
 simp only
 rw[jt U.tg K.tg x.tg _ (by have:=hv.tl;omega) (fun m hm r=>zrU m (hv.tg m hm) r)]
 simp only
 rw[zq7 _ _ aa]
 simp only
 rw[jt U.st K.st x.sets _ (by have:=hv.sl;omega) (fun m hm r=>zsO m (hv.sets m hm) r)]
 simp only
 rw[jt qC zJ x.drops _ (by have:=hv.dl;omega) (fun m hm r=>jq m r (by have:=(hv.drops m hm).nl;omega))]
theorem zn0 (x:P.Hst)(hv:VHst x)(r:List UInt8):yP (qO x++r)=(x,r):=by
 have h1:qC (qO x++r)=(x.name,zQ qL x.rules++r):=by unfold qO;rw[x4];exact jq _ _ (by have:=hv.nl;omega)
 unfold yP
 rw[h1]
 simp only
 rw[jt y8 qL x.rules _ (by have:=hv.rl;omega) (fun m hm r=>zoI m (hv.rules m hm) r)]
theorem zd4 (hs:List P.Hst)(hv:VHs hs):jO (x9 hs)=hs:=by
 have e:(x9 hs).drop 3=zQ qO hs++xM (yS (xE hs)):=by unfold x9 xE;simp
 unfold jO
 rw[e,jt yP qO hs _ (by have:=hv.hl;omega) (fun m hm r=>zn0 m (hv.hosts m hm) r)]
structure T.St where
 rest:List UInt8
 bad:Bool
def qq (s:T.St):Nat×T.St:=match s.rest with | []=>(0,⟨[],true⟩) | c :: r=>(c.toNat,⟨r,s.bad⟩)
def zy (most:Nat)(s:T.St):Nat×T.St:=if most<(qq s).1 then (0,⟨(qq s).2.rest,true⟩) else qq s
def zr (s:T.St):List UInt8×T.St:=
 if (zy 24 s).2.rest.length<(zy 24 s).1 then ([],⟨(zy 24 s).2.rest,true⟩) else ((zy 24 s).2.rest.take (zy 24 s).1,⟨(zy 24 s).2.rest.drop (zy 24 s).1,(zy 24 s).2.bad⟩)
def xt (s:T.St):Int×T.St:=(((qq s).1+256*(qq (qq s).2).1:Nat),(qq (qq s).2).2)
def qT (s:T.St)(ok:Bool):T.St:=if ok then s else ⟨s.rest,true⟩
def kh (s:T.St):List UInt8×T.St:=((zr s).1,qT (zr s).2 (R.header (zr s).1 false))
def ko (s:T.St):List UInt8×T.St:=((zr s).1,qT (zr s).2 (R.value (zr s).1))
def T.mt (s:T.St):R.Mt×T.St:=
 if (zy 1 (kh s).2).1=1 then (⟨(kh s).1,(ko (zy 1 (kh s).2).2).1,true⟩,(ko (zy 1 (kh s).2).2).2)
 else (⟨(kh s).1,[],false⟩,(zy 1 (kh s).2).2)
def qi {α:Type}(f:T.St->α×T.St):Nat->T.St->List α×T.St
 | 0,s=>([],s)
 | n+1,s=>((f s).1 :: (qi f n (f s).2).1,(qi f n (f s).2).2)
def jS (s:T.St):List R.Mt×T.St:=qi T.mt (zy 3 s).1 (zy 3 s).2
def T.tg (s:T.St):(List UInt8×Int)×T.St:=
 (((zr s).1,(xt (zr s).2).1),qT (xt (zr s).2).2 (R.upstream (zr s).1 && (decide (0<(xt (zr s).2).1) && decide ((xt (zr s).2).1<=1000))))
def jN (s:T.St):List (List UInt8×Int)×T.St:=qi T.tg (zy 4 s).1 (qT (zy 4 s).2 (decide (0<(zy 4 s).1)))
def T.st (s:T.St):(List UInt8×List UInt8)×T.St:=(((zr s).1,(ko (zr s).2).1),(ko (zr s).2).2)
def vB (s:T.St):List (List UInt8×List UInt8)×T.St:=qi T.st (zy 3 s).1 (zy 3 s).2
def wg (s:T.St):List (List UInt8)×T.St:=qi zr (zy 3 s).1 (zy 3 s).2
def jg:List (List UInt8)->List (List UInt8)->T.St->T.St
 | _,[],s=>s
 | am,x :: r,s=>jg (am++[x]) r (am.foldl (fun s a=>qT s (decide (x≠a))) (qT s (R.header x false)))
def xa (s:T.St):(List (List UInt8×List UInt8)×List (List UInt8))×T.St:=
 (((vB s).1,(wg (vB s).2).1),jg [] ((vB s).1.map Prod.fst++(wg (vB s).2).1) (wg (vB s).2).2)
def j7 (s:T.St):List UInt8×T.St:=((zr s).1,qT (zr s).2 (R.path (zr s).1))
def T.to (s:T.St):(Bool×List UInt8)×T.St:=
 if (zy 1 s).1=1 then ((true,(j7 (zy 1 s).2).1),(j7 (zy 1 s).2).2) else ((false,[]),(zy 1 s).2)
def j1 (s : T.St) : R.Rl × T.St :=
  (⟨(xt s).1, (j7 (xt s).2).1, (jS (j7 (xt s).2).2).1, (jN (jS (j7 (xt s).2).2).2).1, (T.to (jN (jS (j7 (xt s).2).2).2).2).1.1, (T.to (jN (jS (j7 (xt s).2).2).2).2).1.2,
     (xa (T.to (jN (jS (j7 (xt s).2).2).2).2).2).1.1, (xa (T.to (jN (jS (j7 (xt s).2).2).2).2).2).1.2⟩,
   (xa (T.to (jN (jS (j7 (xt s).2).2).2).2).2).2)
def yM:Nat->List R.Rl->T.St->List R.Rl×T.St
 | 0,acc,s=>(acc,s)
 | n+1,acc,s=>if s.bad then (acc,s) else
  yM n (acc++[(j1 s).1]) (qT (j1 s).2 (match acc.getLast? with | none=>true | some x=>decide (x.number<(j1 s).1.number)))
def yL (s:T.St)(acc:List R.Hst):List UInt8×T.St:=
 ((zr s).1,qT (qT (zr s).2 (R.named (zr s).1 false)) (match acc.getLast? with | none=>true | some x=>qu x.name (zr s).1))
def yt:Nat->List R.Hst->T.St->List R.Hst×T.St
 | 0,acc,s=>(acc,s)
 | n+1,acc,s=>if s.bad then (acc,s) else
  yt n (acc++[⟨(yL s acc).1,(yM (zy 6 (yL s acc).2).1 [] (zy 6 (yL s acc).2).2).1⟩]) (yM (zy 6 (yL s acc).2).1 [] (zy 6 (yL s acc).2).2).2
def wQ (s:T.St):T.St:=
 qT (qq (qq (qq s).2).2).2 (decide ((qq s).1=83) && (decide ((qq (qq s).2).1=89) && decide ((qq (qq (qq s).2).2).1=49)))
def tU (b:List UInt8):List R.Hst×T.St:=yt (zy 4 (wQ ⟨b,false⟩)).1 [] (zy 4 (wQ ⟨b,false⟩)).2
theorem zdH (n:Nat)(r:List UInt8)(h:n<=255):qq ⟨UInt8.ofNat n :: r,false⟩=(n,⟨r,false⟩):=by
 unfold qq;simp only;rw[u8n _ (by omega)]
theorem jo (n m:Nat)(r:List UInt8)(h:n<=m)(hm:m<=255):zy m ⟨UInt8.ofNat n :: r,false⟩=(n,⟨r,false⟩):=by
 unfold zy;rw[zdH n r (by omega),if_neg (by simp only;omega)]
theorem jp (s r:List UInt8)(h:s.length<=24):zr ⟨zJ s++r,false⟩=(s,⟨r,false⟩):=by
 have h1:zy 24 ⟨zJ s++r,false⟩=(s.length,⟨s++r,false⟩):=jo _ _ _ h (by omega)
 unfold zr
 rw[h1,if_neg (by simp)]
 simp
theorem zjQ (n:Int)(r:List UInt8)(h:0<=n/\n<=65535):xt ⟨qe n++r,false⟩=(n,⟨r,false⟩):=by
 have h1:qq ⟨qe n++r,false⟩=(n.toNat % 256,⟨[UInt8.ofNat (n.toNat / 256)]++r,false⟩):=zdH _ _ (by omega)
 have h2:qq ⟨[UInt8.ofNat (n.toNat / 256)]++r,false⟩=(n.toNat / 256,⟨r,false⟩):=zdH _ _ (by omega)
 unfold xt
 rw[h1]
 simp only
 rw[h2]
 simp only[Prod.mk.injEq,and_true]
 omega
theorem j4 (s:T.St)(b:Bool)(h:b=true):qT s b=s:=by rw[h];rfl
theorem kl {α β:Type}(f:T.St->β×T.St)(g:α->List UInt8)(c:α->β):∀(l:List α) (r:List UInt8),(∀x∈l,∀r,f ⟨g x++r,false⟩=(c x,⟨r,false⟩))->qi f l.length ⟨(l.map g).flatten++r,false⟩=(l.map c,⟨r,false⟩)
 | [],r,_=>rfl
 | x :: l,r,h=>by
  have e:((x :: l).map g).flatten++r=g x++((l.map g).flatten++r):=by simp
  rw[e,zoF]
  unfold qi
  rw[h x (by simp),kl f g c l r (fun y hy=>h y (by simp[hy]))]
  rfl
theorem zsU (m:P.Mt)(hm:VMt m)(r:List UInt8):T.mt ⟨K.mt m++r,false⟩=(mtOf m,⟨r,false⟩):=by
 obtain⟨mn,ma,mv⟩:=m
 have hn:R.header mn false=true:=hm.name
 have hv:R.value mv=true:=hm.val
 have h1:zr ⟨K.mt ⟨mn,ma,mv⟩++r,false⟩=(mn,⟨(if ma then 1 :: zJ mv else [0])++r,false⟩):=by
  unfold K.mt;rw[x4];exact jp _ _ hm.nl
 have hA:kh ⟨K.mt ⟨mn,ma,mv⟩++r,false⟩=(mn,⟨(if ma then 1 :: zJ mv else [0])++r,false⟩):=by
  unfold kh;rw[h1,j4 _ _ hn]
 unfold T.mt
 rw[hA]
 cases ma with
 | true=>
  have h2:zy 1 ⟨1 :: zJ mv++r,false⟩=(1,⟨zJ mv++r,false⟩):=jo 1 1 _ (by omega) (by omega)
  have h3:ko ⟨zJ mv++r,false⟩=(mv,⟨r,false⟩):=by unfold ko;rw[jp _ _ hm.vl,j4 _ _ hv]
  simp only[if_true]
  rw[h2]
  simp only[if_true]
  rw[h3];rfl
 | false=>
  have h2:zy 1 ⟨[0]++r,false⟩=(0,⟨r,false⟩):=jo 0 1 _ (by omega) (by omega)
  have hv:mv=[]:=hm.no rfl
  simp only[zb2,if_false]
  rw[h2,if_neg (by simp),hv];rfl
theorem zsH (t:List UInt8×Int)(ht:VTg t)(r:List UInt8):T.tg ⟨K.tg t++r,false⟩=(t,⟨r,false⟩):=by
 have h1:zr ⟨K.tg t++r,false⟩=(t.1,⟨qe t.2++r,false⟩):=by unfold K.tg;rw[x4];exact jp _ _ ht.ul
 have lo:=ht.lo
 have hi:=ht.hi
 unfold T.tg
 rw[h1]
 simp only
 rw[zjQ _ _ ⟨by omega,by omega⟩]
 simp only
 rw[j4 _ _ (by rw[ht.up];simp;omega)]
theorem zrP (t:List UInt8×List UInt8)(ht:VSt t)(r:List UInt8):T.st ⟨K.st t++r,false⟩=(t,⟨r,false⟩):=by
 have h1:zr ⟨K.st t++r,false⟩=(t.1,⟨zJ t.2++r,false⟩):=by unfold K.st;rw[x4];exact jp _ _ ht.nl
 unfold T.st ko
 rw[h1]
 simp only
 rw[jp _ _ ht.vl]
 simp only
 rw[j4 _ _ ht.val]
theorem zdQ:∀(r am:List (List UInt8)) (s:T.St),(∀x∈r,R.header x false=true)->(am++r).Pairwise (·≠·)->jg am r s=s
 | [],am,s,_,_=>rfl
 | x :: r,am,s,hh,hp=>by
  have h1:∀(l:List (List UInt8)),(∀a∈l,x≠a)->l.foldl (fun s a=>qT s (decide (x≠a))) s=s:=fun l=>by
   induction l with
   | nil=>intro _;rfl
   | cons a l ih=>intro h;rw[List.foldl_cons,j4 _ _ (by simpa using h a (by simp))];exact ih (fun b hb=>h b (by simp[hb]))
  unfold jg
  rw[j4 s _ (hh x (by simp)),h1 am (fun a ha e=>by rw[List.pairwise_append] at hp;exact hp.2.2 a ha x (by simp) e.symm)]
  exact zdQ r (am++[x]) s (fun y hy=>hh y (by simp[hy])) (by simpa using hp)
theorem zn6 (x:P.Rl)(hv:VRl x)(r:List UInt8):j1 ⟨qL x++r,false⟩=(toRl x,⟨r,false⟩):=by
 have e:qL x++r=qe x.number++(zJ x.path++(zQ K.mt x.ms++(zQ K.tg x.tg++(wm x.rep++(zQ K.st x.sets++(zQ zJ x.drops++r)))))):=by
  unfold qL;simp only[x4]
 have h1:xt ⟨qL x++r,false⟩=(x.number,⟨zJ x.path++(zQ K.mt x.ms++(zQ K.tg x.tg++(wm x.rep++(zQ K.st x.sets++(zQ zJ x.drops++r))))),false⟩):=by rw[e];exact zjQ _ _ hv.num
 have h2:∀q,j7 ⟨zJ x.path++q,false⟩=(x.path,⟨q,false⟩):=fun q=>by unfold j7;rw[jp _ _ hv.pl,j4 _ _ hv.path]
 have h3:∀q,jS ⟨zQ K.mt x.ms++q,false⟩=(x.ms.map mtOf,⟨q,false⟩):=fun q=>by
  have a:zy 3 ⟨zQ K.mt x.ms++q,false⟩=(x.ms.length,⟨(x.ms.map K.mt).flatten++q,false⟩):=jo _ _ _ hv.ml (by omega)
  unfold jS;rw[a]
  exact kl T.mt K.mt mtOf x.ms q (fun m hm r=>zsU m (hv.ms m hm) r)
 have h4:∀q,jN ⟨zQ K.tg x.tg++q,false⟩=(x.tg,⟨q,false⟩):=fun q=>by
  have a:zy 4 ⟨zQ K.tg x.tg++q,false⟩=(x.tg.length,⟨(x.tg.map K.tg).flatten++q,false⟩):=jo _ _ _ hv.tl (by omega)
  have aa:0<x.tg.length:=List.length_pos_iff.2 hv.t0
  unfold jN;rw[a]
  simp only
  rw[j4 _ _ (by simpa using aa)]
  have:=kl T.tg K.tg id x.tg q (fun m hm r=>zsH m (hv.tg m hm) r)
  rw[List.map_id] at this;exact this
 have h5:∀q,T.to ⟨wm x.rep++q,false⟩=((decide (x.rep≠[]),x.rep),⟨q,false⟩):=fun q=>by
  unfold T.to wm
  by_cases hr:x.rep=[]
  ·rw[if_pos hr]
   have a:zy 1 ⟨[0]++q,false⟩=(0,⟨q,false⟩):=jo 0 1 _ (by omega) (by omega)
   rw[a,if_neg (by simp),hr];rfl
  ·rw[if_neg hr]
   have a:zy 1 ⟨1 :: zJ x.rep++q,false⟩=(1,⟨zJ x.rep++q,false⟩):=jo 1 1 _ (by omega) (by omega)
   have hp:=hv.rep.resolve_left hr
   rw[a,if_pos rfl]
   unfold j7
   simp only
   rw[jp _ _ hp.2]
   simp only
   rw[j4 _ _ hp.1]
   simp[hr]
 have h6:∀q,xa ⟨zQ K.st x.sets++(zQ zJ x.drops++q),false⟩=((x.sets,x.drops),⟨q,false⟩):=fun q=>by
  have a:zy 3 ⟨zQ K.st x.sets++(zQ zJ x.drops++q),false⟩=(x.sets.length,⟨(x.sets.map K.st).flatten++(zQ zJ x.drops++q),false⟩):=jo _ _ _ hv.sl (by omega)
  have b:vB ⟨zQ K.st x.sets++(zQ zJ x.drops++q),false⟩=(x.sets,⟨zQ zJ x.drops++q,false⟩):=by
   unfold vB;rw[a]
   have:=kl T.st K.st id x.sets (zQ zJ x.drops++q) (fun m hm r=>zrP m (hv.sets m hm) r)
   rw[List.map_id] at this;exact this
  have c:zy 3 ⟨zQ zJ x.drops++q,false⟩=(x.drops.length,⟨(x.drops.map zJ).flatten++q,false⟩):=jo _ _ _ hv.dl (by omega)
  have d:wg ⟨zQ zJ x.drops++q,false⟩=(x.drops,⟨q,false⟩):=by
   unfold wg;rw[c]
   have:=kl zr zJ id x.drops q (fun m hm r=>jp m r (hv.drops m hm).nl)
   rw[List.map_id] at this;exact this
  unfold xa
  rw[b]
  simp only
  rw[d]
  simp only
  rw[zdQ _ [] _ (fun y hy=>by
   rcases List.mem_append.1 hy with hy | hy
   ·obtain⟨z,hz,rfl⟩:=List.mem_map.1 hy;exact(hv.sets z hz).name
   ·exact(hv.drops y hy).name) (by rw[List.nil_append];exact hv.once)]
 unfold j1
 rw[h1]
 simp only
 rw[h2]
 simp only
 rw[h3]
 simp only
 rw[h4]
 simp only
 rw[h5]
 simp only
 rw[h6]
 rfl
theorem zc3:∀(xs:List P.Rl) (aa:List P.Rl) (r:List UInt8),(∀x∈xs,VRl x)->((aa++xs).map P.Rl.number).Pairwise (·<·)->yM xs.length (aa.map toRl) ⟨(xs.map qL).flatten++r,false⟩=((aa++xs).map toRl,⟨r,false⟩)
 | [],aa,r,_,_=>by simp[yM]
 | x :: xs,aa,r,hv,hp=>by
  have e:((x :: xs).map qL).flatten++r=qL x++((xs.map qL).flatten++r):=by simp
  rw[e,zoF]
  unfold yM
  rw[if_neg (by simp),zn6 x (hv x (by simp))]
  simp only
  have hm:(match (aa.map toRl).getLast? with | none=>true | some y=>decide (y.number<(toRl x).number))=true:=by
   cases hl:(aa.map toRl).getLast? with
   | none=>rfl
   | some y=>
    have hy:y∈aa.map toRl:=List.mem_of_getLast? hl
    obtain⟨z,hz,rfl⟩:=List.mem_map.1 hy
    rw[fJ,List.pairwise_append] at hp
    have:=hp.2.2 z.number (List.mem_map_of_mem hz) x.number (by simp)
    show decide (z.number<x.number)=true
    simpa using this
  rw[j4 _ _ hm]
  have:=zc3 xs (aa++[x]) r (fun y hy=>hv y (by simp[hy])) (by simpa using hp)
  rw[fJ] at this
  simpa using this
theorem zd6:∀(xs:List P.Hst) (aa:List P.Hst) (r:List UInt8),(∀x∈xs,VHst x)->((aa++xs).map P.Hst.name).Pairwise (fun a b=>qu a b=true)->yt xs.length (aa.map toR) ⟨(xs.map qO).flatten++r,false⟩=((aa++xs).map toR,⟨r,false⟩)
 | [],aa,r,_,_=>by simp[yt]
 | x :: xs,aa,r,hv,hp=>by
  have vx:=hv x (by simp)
  have e:((x :: xs).map qO).flatten++r=zJ x.name++(zQ qL x.rules++((xs.map qO).flatten++r)):=by unfold qO;simp
  rw[e,zoF]
  unfold yt
  have hm:(match (aa.map toR).getLast? with | none=>true | some y=>qu y.name x.name)=true:=by
   cases hl:(aa.map toR).getLast? with
   | none=>rfl
   | some y=>
    have hy:y∈aa.map toR:=List.mem_of_getLast? hl
    obtain⟨z,hz,rfl⟩:=List.mem_map.1 hy
    rw[fJ,List.pairwise_append] at hp
    exact hp.2.2 z.name (List.mem_map_of_mem hz) x.name (by simp)
  have hA:yL ⟨zJ x.name++(zQ qL x.rules++((xs.map qO).flatten++r)),false⟩ (aa.map toR)=(x.name,⟨zQ qL x.rules++((xs.map qO).flatten++r),false⟩):=by
   unfold yL
   rw[jp _ _ vx.nl]
   simp only
   rw[j4 _ _ vx.name,j4 _ _ hm]
  have hF:zy 6 ⟨zQ qL x.rules++((xs.map qO).flatten++r),false⟩=(x.rules.length,⟨(x.rules.map qL).flatten++((xs.map qO).flatten++r),false⟩):=jo _ _ _ vx.rl (by omega)
  have hR:=zc3 x.rules [] ((xs.map qO).flatten++r) vx.rules (by rw[List.nil_append];exact vx.ord)
  rw[List.map_nil,List.nil_append] at hR
  rw[if_neg (by simp),hA]
  simp only
  rw[hF]
  simp only
  rw[hR]
  simp only
  have:=zd6 xs (aa++[x]) r (fun y hy=>hv y (by simp[hy])) (by simpa using hp)
  rw[fJ] at this
  simpa[toR] using this
theorem zcQ (hs:List P.Hst)(hv:VHs hs):(tU (x9 hs)).1=hs.map toR/\(tU (x9 hs)).2.bad=false:=by
 have hH:wQ ⟨x9 hs,false⟩=⟨zQ qO hs++xM (yS (xE hs)),false⟩:=by
  have e:x9 hs=83 :: 89 :: 49 :: (zQ qO hs++xM (yS (xE hs))):=by unfold x9 xE;simp
  rw[e]
  unfold wQ
  have a:∀(c:UInt8) q,qq ⟨c :: q,false⟩=(c.toNat,⟨q,false⟩):=fun c q=>rfl
  rw[a,a,a];rfl
 have hF:zy 4 ⟨zQ qO hs++xM (yS (xE hs)),false⟩=(hs.length,⟨(hs.map qO).flatten++xM (yS (xE hs)),false⟩):=jo _ _ _ hv.hl (by omega)
 have hR:=zd6 hs [] (xM (yS (xE hs))) hv.hosts (by rw[List.nil_append];exact hv.ord)
 rw[List.map_nil,List.nil_append] at hR
 unfold tU
 rw[hH,hF]
 simp only
 rw[hR]
 exact⟨rfl,rfl⟩
end Go.Proofs.YtfocdefchbnkpaaGreatDoor
