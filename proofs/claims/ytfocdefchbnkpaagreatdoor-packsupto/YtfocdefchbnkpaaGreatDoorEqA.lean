/- The tokens that the program finds are those that the document's own function lists. -/
import Derived.Test.YtfocdefchbnkpaaGreatDoorAli
import Derived.Test.YtfocdefchbnkpaaGreatDoorRefJ
import Derived.Test.YtfocdefchbnkpaaGreatDoorRefM
set_option maxRecDepth 100000
set_option maxHeartbeats 20000000
namespace Go.Proofs.YtfocdefchbnkpaaGreatDoor
open Go.RowKit
theorem zsF (x:UInt8):Lib.index [] [x] = -1:=rfl
theorem toNat34 (c:UInt8):((c.toNat:Int)=34↔c=34):=by
 constructor
 ·intro h;apply UInt8.toNat_inj.1;show c.toNat=34;omega
 ·intro h;subst h;rfl
theorem toNat10 (c:UInt8):((c.toNat:Int)=10↔c=10):=by
 constructor
 ·intro h;apply UInt8.toNat_inj.1;show c.toNat=10;omega
 ·intro h;subst h;rfl
theorem zlL (t:List UInt8) :
  (R.at0 t (R.span R.insideI t)=34/\R.span R.insideI t<t.length/\Lib.index t [34]=R.span R.insideI t/\Lib.index (t.take (R.span R.insideI t)) [10] = -1)\/
  ((R.span R.insideI t=t.length\/R.at0 t (R.span R.insideI t)=10)/\(Lib.index t [34] = -1\/(0<=Lib.index t [34]/\0<=Lib.index (t.take (Lib.index t [34]).toNat) [10]))):=by
 induction t with
 | nil=>right;exact⟨Or.inl rfl,Or.inl rfl⟩
 | cons c r ih=>
  rw[R.span]
  by_cases aa:c=34
  ·left
   have hp:R.insideI c.toNat=false:=by subst aa;rfl
   rw[if_neg (by rw[hp];simp)]
   refine⟨by subst aa;rfl,by simp,by rw[jW,if_pos aa];rfl,by simp[zsF]⟩
  ·by_cases ab:c=10
   ·right
    have hp:R.insideI c.toNat=false:=by subst ab;rfl
    rw[if_neg (by rw[hp];simp)]
    refine⟨Or.inr (by subst ab;rfl),?_⟩
    rw[jW,if_neg aa]
    by_cases h2:Lib.index r [34] = -1
    ·left;rw[if_pos h2]
    ·right
     rw[if_neg h2]
     have hg:=Lib.index_ge r [34]
     refine⟨by omega,?_⟩
     obtain⟨n,hn⟩:∃n,(Lib.index r [34]+1).toNat=n+1:=⟨(Lib.index r [34]).toNat,by omega⟩
     rw[hn,List.take_succ_cons,jW,if_pos ab];exact Int.le_refl 0
   ·have hp:R.insideI c.toNat=true:=by
     unfold R.insideI;apply decide_eq_true
     exact⟨fun e=>aa ((toNat34 c).1 e),fun e=>ab ((toNat10 c).1 e)⟩
    rw[if_pos hp]
    have ad:∀n,R.at0 (c :: r) (n+1)=R.at0 r n:=fun n=>rfl
    rw[ad]
    rcases ih with ⟨h1,h2,h3,h4⟩ | ⟨h1,h2⟩
    ·left
     refine⟨h1,by simp;omega,?_,?_⟩
     ·rw[jW,if_neg aa,if_neg (by omega),h3];rfl
     ·rw[List.take_succ_cons,jW,if_neg ab,if_pos h4]
    ·right
     refine⟨?_,?_⟩
     ·rcases h1 with h1 | h1
      ·left;simp[h1]
      ·right;exact h1
     ·rw[jW,if_neg aa]
      rcases h2 with h2 | ⟨h2,h3⟩
      ·left;rw[if_pos h2]
      ·right
       rw[if_neg (by omega)]
       refine⟨by omega,?_⟩
       obtain⟨n,hn⟩:∃n:Nat,Lib.index r [34]=(n:Int):=⟨(Lib.index r [34]).toNat,by omega⟩
       rw[hn] at h3 ⊢
       rw[show((n:Int)+1).toNat=n+1 by omega,List.take_succ_cons,jW,if_neg ab]
       rw[show((n:Int)).toNat=n by omega] at h3
       rw[if_neg (by omega)];omega
inductive TokSim (t:R.Tok) (p:P.Tk):Prop
 | fin (h:p.at_=t.at_) (k:t.k=0) (j:p.k=0) (r:p.raw=[])
 | word (h:p.at_=t.at_) (k:t.k=119) (j:p.k=1) (r:p.raw=t.s) (c:UInt8) (cs:List UInt8) (e:t.s=c :: cs) (hc:R.smallI c.toNat=true)
 | num (h:p.at_=t.at_) (k:t.k=49) (j:p.k=2) (r:p.raw=t.s) (c:UInt8) (cs:List UInt8) (e:t.s=c :: cs) (hc:R.digitI c.toNat=true)
 | str (h:p.at_=t.at_) (k:t.k=34) (j:p.k=3) (r:p.raw=34 :: t.s++[34])
 | sign (h:p.at_=t.at_) (k:t.k=115) (j:p.k=4) (r:p.raw=t.s) (c:UInt8) (e:t.s=[c]) (hc:R.signI c.toNat=true)
 | wrong (h:p.at_=t.at_) (k:t.k=120) (j:p.k=5) (r:p.raw=[])
theorem TokSim.place {t:R.Tok}{p:P.Tk}(h:TokSim t p):p.at_=t.at_:=by cases h <;> assumption
theorem zfT {l:List UInt8}{i:Nat}(h:i<l.length)(hb:R.at0 l i=32\/R.at0 l i=10):zp l i=zp l (i+1):=by
 have e:qI l i=qI l (i+1):=by
  unfold qI
  rw[List.drop_eq_getElem_cons h,R.span,if_pos]
  ·omega
  ·unfold R.at0 at hb
   rw[List.getD_eq_getElem?_getD,xo h] at hb
   simp only[Option.getD_some] at hb
   unfold xn
   rcases hb with hb | hb <;> rw[hb] <;> rfl
 unfold zp;rw[e]
theorem tA {l:List UInt8}{i:Nat}(h:i<l.length)(hb:¬(R.at0 l i=32\/R.at0 l i=10)):qI l i=i:=by
 unfold qI
 rw[List.drop_eq_getElem_cons h,R.span,if_neg]
 ·rfl
 ·unfold R.at0 at hb
  rw[List.getD_eq_getElem?_getD,xo h] at hb
  simp only[Option.getD_some] at hb
  unfold xn
  simp only[Bool.or_eq_true,beq_iff_eq]
  exact hb
theorem zd0 {l:List UInt8}{i:Nat}(h:i<l.length):∃c,l.drop i=c :: l.drop (i+1)/\R.at0 l i=c.toNat:=by
 refine⟨l[i],List.drop_eq_getElem_cons h,?_⟩
 unfold R.at0;rw[List.getD_eq_getElem?_getD,xo h];rfl
theorem zlN (l:List UInt8)(i n:Nat):R.at0 (l.drop i) n=R.at0 l (i+n):=by
 unfold R.at0;rw[List.getD_eq_getElem?_getD,List.getD_eq_getElem?_getD,List.getElem?_drop]
theorem zjM (t:List UInt8) :
  (R.at0 t (R.span R.insideI t)=34/\R.span R.insideI t<t.length/\jh t=decide (24<R.span R.insideI t)/\(Lib.cut t [34]).1.length=R.span R.insideI t)\/
  ((R.span R.insideI t=t.length\/R.at0 t (R.span R.insideI t)=10)/\jh t=true):=by
 rcases zlL t with ⟨h1,h2,h3,h4⟩ | ⟨h1,h2⟩
 ·left
  have hc:Lib.cut t [34]=(t.take (R.span R.insideI t),t.drop (R.span R.insideI t+1),true):=by
   unfold Lib.cut;rw[if_pos (by omega),h3];rfl
  have hl:(t.take (R.span R.insideI t)).length=R.span R.insideI t:=by rw[List.length_take];omega
  refine⟨h1,h2,?_,by rw[hc];exact hl⟩
  unfold jh Lib.contains
  rw[hc];simp only
  rw[hl,h4];simp
 ·right
  refine⟨h1,?_⟩
  unfold jh Lib.contains
  rcases h2 with h2 | ⟨h2,h3⟩
  ·have hc:Lib.cut t [34]=(t,[],false):=by unfold Lib.cut;rw[if_neg (by omega)]
   rw[hc];rfl
  ·have hc:Lib.cut t [34]=(t.take (Lib.index t [34]).toNat,t.drop ((Lib.index t [34]).toNat+1),true):=by unfold Lib.cut;rw[if_pos h2];rfl
   rw[hc];simp only;rw[decide_eq_true h3];simp
theorem zqK {l:List UInt8}{i:Nat}(h:i<l.length)(hb:¬(R.at0 l i=32\/R.at0 l i=10)):TokSim (R.tok l i) (zp l i)/\((R.tend l i).2≠120->(R.tend l i).1=i+(zp l i).raw.length):=by
 obtain⟨c,hd,ha⟩:=zd0 h
 have ag:R.span R.smallI (l.drop (i+1))<=l.length - (i+1):=by have:=R.span_le R.smallI (l.drop (i+1));rwa[List.length_drop] at this
 have ae:R.span R.digitI (l.drop (i+1))<=l.length - (i+1):=by have:=R.span_le R.digitI (l.drop (i+1));rwa[List.length_drop] at this
 unfold zp
 rw[tA h hb]
 unfold R.tok R.tend qU
 rw[hd,ha]
 simp only
 by_cases h1:R.smallI c.toNat=true
 ·rw[if_pos h1,if_pos h1]
  simp only
  rw[R.span,if_pos h1]
  refine⟨.word rfl rfl rfl ?_ c ((l.drop (i+1)).take (R.span R.smallI (l.drop (i+1)))) ?_ h1,fun _=>?_⟩
  ·rw[if_neg (by decide),show i+1+R.span R.smallI (l.drop (i+1)) - i=R.span R.smallI (l.drop (i+1))+1 by omega]
  ·rw[if_neg (by decide),show i+1+R.span R.smallI (l.drop (i+1)) - i=R.span R.smallI (l.drop (i+1))+1 by omega,List.take_succ_cons]
  ·rw[List.take_succ_cons,zoF,List.length_take,List.length_drop];omega
 ·rw[if_neg h1,if_neg h1]
  by_cases h2:R.digitI c.toNat=true
  ·rw[if_pos h2,if_pos h2]
   unfold yD
   rw[R.span,if_pos h2]
   by_cases h5:5<R.span R.digitI (l.drop (i+1))+1
   ·rw[if_pos h5,if_pos (by omega)]
    exact⟨.wrong rfl rfl rfl rfl,fun h=>absurd rfl h⟩
   ·rw[if_neg h5,if_neg (by omega)]
    simp only
    refine⟨.num rfl rfl rfl ?_ c ((l.drop (i+1)).take (R.span R.digitI (l.drop (i+1)))) ?_ h2,fun _=>?_⟩
    ·rw[if_neg (by decide),show i+1+R.span R.digitI (l.drop (i+1)) - i=R.span R.digitI (l.drop (i+1))+1 by omega]
    ·rw[if_neg (by decide),show i+1+R.span R.digitI (l.drop (i+1)) - i=R.span R.digitI (l.drop (i+1))+1 by omega,List.take_succ_cons]
    ·rw[List.take_succ_cons,zoF,List.length_take,List.length_drop];omega
  ·rw[if_neg h2,if_neg h2]
   by_cases h3:(c.toNat:Int)=34
   ·have aa:c.toNat=34:=by omega
    rw[if_pos h3,if_pos aa]
    unfold yO
    rw[List.drop_succ_cons,List.drop_zero]
    have hc:=zjM (l.drop (i+1))
    rw[zlN,List.length_drop] at hc
    have af:R.span R.insideI (l.drop (i+1))<=l.length - (i+1):=by have:=R.span_le R.insideI (l.drop (i+1));rwa[List.length_drop] at this
    rcases hc with ⟨g1,g2,g3,g4⟩ | ⟨g1,g2⟩
    ·rw[g3,g4]
     by_cases ab:24<R.span R.insideI (l.drop (i+1))
     ·rw[if_pos (decide_eq_true ab),if_pos (Or.inr (Or.inr (by omega)))]
      exact⟨.wrong rfl rfl rfl rfl,fun h=>absurd rfl h⟩
     ·have q1:¬(i+1+R.span R.insideI (l.drop (i+1))=l.length\/R.at0 l (i+1+R.span R.insideI (l.drop (i+1)))=10\/24<i+1+R.span R.insideI (l.drop (i+1)) - i - 1):=by rw[g1];omega
      have q2:¬(decide (24<R.span R.insideI (l.drop (i+1)))=true):=by simpa using ab
      rw[if_neg q1,if_neg q2]
      simp only
      refine⟨.str rfl rfl rfl ?_,fun _=>?_⟩
      ·simp only[if_true]
       rw[show i+1+R.span R.insideI (l.drop (i+1))+1 - 1 - (i+1)=R.span R.insideI (l.drop (i+1)) by omega]
       rw[List.take_succ_cons,show c=34 from(toNat34 c).1 h3]
       rw[uo (by rw[List.length_drop];omega)]
       show 34 :: _=34 :: _
       congr 2
       obtain⟨d,e1,e2⟩:=zd0 (l:=l) (i:=i+1+R.span R.insideI (l.drop (i+1))) (by omega)
       rw[g1] at e2
       have ad:d=34:=(toNat34 d).1 e2.symm
       rw[List.getElem_drop]
       have e3:=List.drop_eq_getElem_cons (l:=l) (i:=i+1+R.span R.insideI (l.drop (i+1))) (by omega)
       rw[e3] at e1
       rw[(List.cons.inj e1).1,ad]
      ·rw[List.take_succ_cons,zoF,List.length_take,List.length_drop];omega
    ·rw[if_pos g2,if_pos (by rcases g1 with g1 | g1;exact Or.inl (by omega);exact Or.inr (Or.inl g1))]
     exact⟨.wrong rfl rfl rfl rfl,fun h=>absurd rfl h⟩
   ·have aa:¬c.toNat=34:=by omega
    rw[if_neg h3,if_neg aa]
    by_cases h4:R.signI c.toNat=true
    ·rw[if_pos h4,if_pos h4]
     simp only
     refine⟨.sign rfl rfl rfl ?_ c ?_ h4,fun _=>?_⟩
     ·rw[if_neg (by decide),show i+1 - i=1 by omega]
     ·rw[if_neg (by decide),show i+1 - i=1 by omega];rfl
     ·rfl
    ·rw[if_neg h4,if_neg h4]
     exact⟨.wrong rfl rfl rfl rfl,fun h=>absurd rfl h⟩
theorem zm6 {l:List UInt8}:∀(n i:Nat),l.length+1 - i<=n->i<=l.length->∃t r,R.toksGo n l i=t :: r/\TokSim t (zp l i)/\
  ((t.k=0\/t.k=120)/\r=[]\/(t.k≠0/\t.k≠120)/\∃m,l.length+1 - (t.at_+(zp l i).raw.length)<=m/\t.at_+(zp l i).raw.length<=l.length/\r=R.toksGo m l (t.at_+(zp l i).raw.length)):=by
 intro n
 induction n with
 | zero=>intro i h1 h2;omega
 | succ n ih=>
  intro i h1 h2
  rw[R.toksGo]
  by_cases hi:i<l.length
  ·rw[if_pos hi]
   by_cases hb:R.at0 l i=32\/R.at0 l i=10
   ·rw[if_pos hb,zfT hi hb]
    exact ih (i+1) (by omega) (by omega)
   ·rw[if_neg hb]
    obtain⟨h3,h4⟩:=zqK hi hb
    have hk:(R.tok l i).k=(R.tend l i).2:=rfl
    have ha:(R.tok l i).at_=i:=rfl
    by_cases aa:(R.tend l i).2=120
    ·rw[if_pos aa]
     exact⟨_,_,rfl,h3,Or.inl ⟨Or.inr (by rw[hk,aa]),rfl⟩⟩
    ·rw[if_neg aa]
     have h5:=h4 aa
     have h6:(zp l i).raw.length<=l.length - i:=by
      unfold zp;rw[tA hi hb];simp only[List.length_take,List.length_drop];omega
     have h0:(R.tok l i).k≠0:=by
      intro e;rw[hk] at e;clear h3 h4 h5 aa h1 ih
      unfold R.tend at e
      repeat' (split at e)
      all_goals simp at e
     have hr:1<=(zp l i).raw.length:=by
      cases h3 with
      | fin h k=>exact absurd k h0
      | word h k j r c cs e=>rw[r,e];simp
      | num h k j r c cs e=>rw[r,e];simp
      | str h k j r=>rw[r];simp
      | sign h k j r c e=>rw[r,e];simp
      | wrong h k=>exact absurd k aa
     refine⟨_,_,rfl,h3,Or.inr ⟨⟨h0,aa⟩,n,?_,?_,?_⟩⟩
     ·rw[ha];omega
     ·rw[ha];omega
     ·rw[ha,h5]
  ·rw[if_neg hi]
   have e:i=l.length:=by omega
   subst e
   refine⟨_,_,rfl,.fin ?_ rfl ?_ ?_,Or.inl ⟨Or.inl rfl,rfl⟩⟩ <;> simp[zp,qI,R.span,qU]
end Go.Proofs.YtfocdefchbnkpaaGreatDoor
