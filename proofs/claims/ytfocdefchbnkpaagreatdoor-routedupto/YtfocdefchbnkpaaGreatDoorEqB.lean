/- The two readers agree, part EqB. -/
import Derived.Test.YtfocdefchbnkpaaGreatDoorAli
import Derived.Test.YtfocdefchbnkpaaGreatDoorShelfC
import Derived.Test.YtfocdefchbnkpaaGreatDoorProR
import Derived.Test.YtfocdefchbnkpaaGreatDoorRefN
import Derived.Test.YtfocdefchbnkpaaGreatDoorProP
set_option maxRecDepth 100000
set_option maxHeartbeats 20000000
namespace Go.Proofs.YtfocdefchbnkpaaGreatDoor
open Go.RowKit
structure Sim (l:List UInt8) (ts:List R.Tok) (st:R.St) (p:P.St):Prop where
 nb:st.bad<0
 nk:p.broken=false
 link:∃m q,l.length+1 - q<=m/\q<=l.length/\ts.drop st.K=R.toksGo m l q/\p.tok=zU l q
 err:p.err=st.E
 fat:st.E≠0->p.fat=st.at_
 past:st.E≠0->st.at_<p.tok.at_
structure Dead (st:R.St) (p:P.St):Prop where
 bad:0<=st.bad
 broken:p.broken=true
 place:(p.tok.at_:Int)=st.bad
def Res (l:List UInt8)(ts:List R.Tok)(Q:Prop)(st:R.St)(p:P.St):Prop:=(Sim l ts st p/\Q)\/Dead st p
theorem Res.bind {l:List UInt8}{ts:List R.Tok}{Q Q':Prop}{st aa:R.St}{p p':P.St}(h:Res l ts Q st p)(hd:0<=st.bad->aa=st)(hp:p.broken=true->p'.broken=true/\p'.tok=p.tok)
  (hs:Sim l ts st p->Q->Res l ts Q' aa p'):Res l ts Q' aa p':=by
 rcases h with ⟨h,q⟩ | h
 ·exact hs h q
 ·right
  obtain⟨h1,h2⟩:=hp h.broken
  rw[hd h.bad]
  exact⟨h.bad,h1,by rw[h2];exact h.place⟩
theorem Res.mono {l:List UInt8}{ts:List R.Tok}{Q Q':Prop}{st:R.St}{p:P.St}(h:Res l ts Q st p)(hq:Q->Q'):Res l ts Q' st p:=by
 rcases h with ⟨h,q⟩ | h
 ·exact Or.inl ⟨h,hq q⟩
 ·exact Or.inr h
theorem jb (t:R.Tok)(st:R.St)(b:Bool):(R.overS t st b).E=st.E:=by unfold R.overS;split;rfl;split <;> rfl
theorem j8 (t:R.Tok)(st:R.St)(b:Bool):(R.overS t st b).at_=st.at_:=by unfold R.overS;split;rfl;split <;> rfl
theorem Sim.tok {l:List UInt8}{ts:List R.Tok}{st:R.St}{p:P.St}(h:Sim l ts st p):TokSim (R.cur ts st) p.tok/\st.K<ts.length:=by
 obtain⟨m,q,h1,h2,h3,h4⟩:=h.link
 obtain⟨t,r,h5,h6,_⟩:=zjE m q h1 h2
 rw[h5] at h3
 have hK:st.K<ts.length:=by
  apply Classical.byContradiction;intro hn
  rw[List.drop_of_length_le (by omega)] at h3;cases h3
 have hc:R.cur ts st=t:=by
  unfold R.cur
  rw[List.getD_eq_getElem?_getD,qN hK]
  rw[List.drop_eq_getElem_cons hK] at h3
  exact(List.cons.inj h3).1
 rw[hc,h4];exact⟨h6,hK⟩
theorem fc {l:List UInt8}{ts:List R.Tok}{st:R.St}{p:P.St}(h:Sim l ts st p)(b:Bool)(hk:b=true->(R.cur ts st).k≠0/\(R.cur ts st).k≠120) :
  (b=true/\Sim l ts (R.overS (R.cur ts st) st b) (zy l p b)/\p.tok.at_<(zy l p b).tok.at_/\p.tok.at_+p.tok.raw.length<=(zy l p b).tok.at_)\/(b=false/\Dead (R.overS (R.cur ts st) st b) (zy l p b)):=by
 have ht:=h.tok
 obtain⟨m,q,h1,h2,h3,h4⟩:=h.link
 obtain⟨t,r,h5,h6,h7⟩:=zjE m q h1 h2
 have hc:R.cur ts st=t:=by
  unfold R.cur
  rw[List.getD_eq_getElem?_getD,qN ht.2]
  rw[h5,List.drop_eq_getElem_cons ht.2] at h3
  exact(List.cons.inj h3).1
 unfold R.overS zy
 rw[if_neg (by have:=h.nb;omega)]
 cases b
 ·right
  rw[if_neg (by simp),if_neg (by simp)]
  have:=h6.place
  exact⟨rfl,⟨by rw[hc];exact Int.natCast_nonneg _,rfl,by rw[hc,h4,this]⟩⟩
 ·left
  rw[if_pos rfl,if_pos ⟨rfl,h.nk⟩]
  have aa:=hk rfl
  rw[hc] at aa
  rcases h7 with ⟨h7,_⟩ | ⟨_,m',h8,h9,h10⟩
  ·exact absurd h7 (by intro h;rcases h with h | h;exact aa.1 h;exact aa.2 h)
  have ab:p.tok.at_+p.tok.raw.length=t.at_+(zU l q).raw.length:=by rw[h4,h6.place]
  have af:1<=(zU l q).raw.length:=by
   cases h6 with
   | fin h k=>exact absurd k aa.1
   | word h k j r c cs e=>rw[r,e];simp
   | num h k j r c cs e=>rw[r,e];simp
   | str h k j r=>rw[r];simp
   | sign h k j r c e=>rw[r,e];simp
   | wrong h k=>exact absurd k aa.2
  have ad:p.tok.at_+p.tok.raw.length<=(zU l (p.tok.at_+p.tok.raw.length)).at_:=by
   unfold zU zj;simp only;omega
  have ae:p.tok.at_<(zU l (p.tok.at_+p.tok.raw.length)).at_:=by
   have:1<=p.tok.raw.length:=by rw[h4];exact af
   omega
  refine⟨rfl,⟨h.nb,h.nk,⟨m',p.tok.at_+p.tok.raw.length,by rw[ab];exact h8,by rw[ab];exact h9,?_,rfl⟩,h.err,h.fat,?_⟩,ae,ad⟩
  ·rw[ab,<-h10]
   rw[h5,List.drop_eq_getElem_cons ht.2] at h3
   exact(List.cons.inj h3).2
  ·intro hE
   have ag:=h.past hE
   have:(vG l p (p.tok.at_+p.tok.raw.length)).tok.at_=(zU l (p.tok.at_+p.tok.raw.length)).at_:=rfl
   rw[this]
   show st.at_<_
   omega
def headOk (r:List UInt8):Prop:=∃c cs,r=c :: cs/\R.digitI c.toNat=false/\c≠34
theorem jI {l:List UInt8}{ts:List R.Tok}{st:R.St}{p:P.St}(h:Sim l ts st p){r:List UInt8}(hr:headOk r):R.isB st (R.cur ts st) r=decide (p.tok.raw=r)/\zu p r=R.isB st (R.cur ts st) r/\(R.isB st (R.cur ts st) r=true->(R.cur ts st).k≠0/\(R.cur ts st).k≠120):=by
 have e:R.isB st (R.cur ts st) r=decide (p.tok.raw=r):=by
  obtain⟨c,cs,rfl,hd,aa⟩:=hr
  unfold R.isB
  rw[decide_eq_true h.nb]
  cases h.tok.1 with
  | fin _ k j r=>rw[k,r];simp
  | word _ k j r=>rw[k,r];simp
  | num _ k j r c' cs' e hc=>
   rw[k,r,e]
   have:¬(c' :: cs'=c :: cs):=by intro h;rw[(List.cons.inj h).1,hd] at hc;cases hc
   rw[decide_eq_false this];rfl
  | str _ k j r=>
   rw[k,r]
   have:¬(34 :: (R.cur ts st).s++[34]=c :: cs):=by intro h;exact aa (List.cons.inj h).1.symm
   rw[decide_eq_false this];rfl
  | sign _ k j r=>rw[k,r];simp
  | wrong _ k j r=>rw[k,r];simp
 refine⟨e,?_,?_⟩
 ·rw[e];unfold zu;rw[h.nk];simp
 ·intro hi
  unfold R.isB at hi
  simp only[Bool.and_eq_true,Bool.or_eq_true,beq_iff_eq] at hi
  omega
theorem xj {l:List UInt8}{ts:List R.Tok}{st:R.St}{p:P.St}(h:Sim l ts st p){r:List UInt8}(hr:headOk r) :
  Res l ts (p.tok.at_<(zH l p r).tok.at_/\R.isB st (R.cur ts st) r=true) (R.needS ts st r) (zH l p r):=by
 obtain⟨h1,h2,h3⟩:=jI h hr
 unfold R.needS zH
 rw[<-h1]
 rcases fc h (R.isB st (R.cur ts st) r) h3 with ⟨e,s,lt,_⟩ | ⟨_,d⟩
 ·exact Or.inl ⟨s,lt,e⟩
 ·exact Or.inr d
def Still (p p':P.St):Prop:=p.broken=true->p'.broken=true/\p'.tok=p.tok
theorem Still.trans {a b c:P.St}(h:Still a b)(k:Still b c):Still a c:=fun x=>⟨(k (h x).1).1,(k (h x).1).2.trans (h x).2⟩
theorem ziL (p:P.St):Still p p:=fun h=>⟨h,rfl⟩
theorem vP (l:List UInt8)(p:P.St)(b:Bool):Still p (zy l p b):=fun h=>by unfold zy;rw[if_neg (by rw[h];simp)];exact⟨rfl,rfl⟩
theorem qV (l:List UInt8)(p:P.St)(r:List UInt8):Still p (zH l p r):=vP _ _ _
theorem jF (l:List UInt8)(p:P.St):Still p (zg l p).2:=vP _ _ _
theorem uJ (l:List UInt8)(p:P.St):Still p (qU l p).2:=vP _ _ _
theorem zhP (p:P.St)(e a:Int):(ql p e a).tok=p.tok/\(ql p e a).broken=p.broken:=by unfold ql;split <;> exact⟨rfl,rfl⟩
theorem qD (p:P.St)(b:Bool)(e a:Int):(zX p b e a).tok=p.tok/\(zX p b e a).broken=p.broken:=by
 unfold zX;split
 ·exact zhP _ _ _
 ·exact⟨rfl,rfl⟩
theorem yI (p:P.St)(b:Bool)(e a:Int):(zX p b e a).tok=p.tok:=(qD p b e a).1
theorem xI (p:P.St)(b:Bool)(e a:Int):Still p (zX p b e a):=fun h=>⟨by rw[(qD p b e a).2];exact h,(qD p b e a).1⟩
theorem zlV (p:P.St)(a b:Int):Still p (zf p a b):=xI _ _ _ _
theorem yG {p:P.St}{r:List UInt8}(h:p.broken=true):zu p r=false:=by unfold zu;rw[h];rfl
theorem uD (l:List UInt8)(p:P.St)(b c:Bool)(e a:Int):zy l (zX p c e a) b=zX (zy l p b) c e a:=by
 unfold zy
 rw[(qD p c e a).1,(qD p c e a).2]
 unfold zX
 cases c
 ·rfl
 ·simp only[if_true]
  by_cases h:b=true/\p.broken=false
  ·rw[if_pos h,if_pos h]
   unfold ql vG
   simp only
   split <;> rfl
  ·rw[if_neg h,if_neg h]
   unfold ql
   simp only
   split <;> rfl
theorem zm1 (l:List UInt8)(p:P.St)(r:List UInt8)(c:Bool)(e a:Int):zH l (zX p c e a) r=zX (zH l p r) c e a:=by
 unfold zH;rw[(qD p c e a).1,uD]
theorem zo6 (l:List UInt8)(p:P.St)(c:Bool)(e a:Int):zg l (zX p c e a)=((zg l p).1,zX (zg l p).2 c e a):=by
 unfold zg;rw[(qD p c e a).1,uD,(qD _ c e a).2]
def Noted (st:R.St)(a e:Int):Prop:=st.E≠0->st.at_<a\/(st.at_=a/\st.E<=e)
theorem zn0 {l:List UInt8}{ts:List R.Tok}{st:R.St}{p:P.St}(h:Sim l ts st p)(ok:Bool)(e a:Int)(hn:Noted st a e)(ha:a<p.tok.at_) :
  Sim l ts (R.notS st ok e a) (zX p (!ok) e a)/\∀e',e<=e'->Noted (R.notS st ok e a) a e':=by
 unfold R.notS zX
 cases ok
 ·simp only[Bool.not_false,if_true]
  unfold ql
  rw[h.err]
  by_cases hE:st.E=0
  ·rw[if_pos ⟨trivial,hE,h.nb⟩,if_pos (Or.inl hE)]
   exact⟨⟨h.nb,h.nk,h.link,rfl,fun _=>rfl,fun _=>ha⟩,fun e' he' _=>Or.inr ⟨rfl,he'⟩⟩
  ·rw[if_neg (fun c=>hE c.2.1),h.fat hE,if_neg (by rcases hn hE with c | c <;> (intro d;rcases d with d | d | d <;> omega))]
   exact⟨h,fun e' he' hE'=>by rcases hn hE' with c | c;exact Or.inl c;exact Or.inr ⟨c.1,by omega⟩⟩
 ·simp only[Bool.not_true,if_false,xO]
  rw[if_neg (by simp)]
  exact⟨h,fun e' he' hE'=>by rcases hn hE' with c | c;exact Or.inl c;exact Or.inr ⟨c.1,by omega⟩⟩
theorem yc {st:R.St}{a e:Int}(h:Noted st a e)(t:R.Tok)(b:Bool):Noted (R.overS t st b) a e:=by
 unfold Noted;rw[jb,j8];exact h
theorem yu {l:List UInt8}{ts:List R.Tok}{st:R.St}{p:P.St}(h:Sim l ts st p)(e:Int):Noted st (R.cur ts st).at_ e:=by
 intro hE;left;have:=h.past hE;rw[h.tok.1.place] at this;exact this
theorem wk {l:List UInt8}{ts:List R.Tok}{st:R.St}{p:P.St}(h:Sim l ts st p) :
  Res l ts ((zg l p).1=(R.cur ts st).s/\p.tok.at_<(zg l p).2.tok.at_) (R.kindS ts st 34) (zg l p).2:=by
 have ht:=h.tok.1
 have hb:(p.tok.k == 3)=((R.cur ts st).k == 34):=by
  cases ht with
  | fin _ k j=>rw[k,j];rfl
  | word _ k j=>rw[k,j];rfl
  | num _ k j=>rw[k,j];rfl
  | str _ k j=>rw[k,j];rfl
  | sign _ k j=>rw[k,j];rfl
  | wrong _ k j=>rw[k,j];rfl
 unfold zg R.kindS
 rw[hb]
 rcases fc h ((R.cur ts st).k == 34) (fun e=>by rw[beq_iff_eq] at e;omega) with ⟨e,s,lt,_⟩ | ⟨_,d⟩
 ·left
  refine⟨s,?_,lt⟩
  rw[if_neg (by rw[s.nk];simp)]
  rw[beq_iff_eq] at e
  cases ht with
  | fin _ k j=>omega
  | word _ k j=>omega
  | num _ k j=>omega
  | sign _ k j=>omega
  | wrong _ k j=>omega
  | str _ k j r=>rw[r];simp
 ·exact Or.inr d
theorem zj2 {l:List UInt8}{ts:List R.Tok}{st:R.St}{p:P.St}(h:Sim l ts st p) :
  Res l ts ((qU l p).1=R.num (R.cur ts st).s/\p.tok.at_<(qU l p).2.tok.at_/\(R.cur ts st).k=49) (R.kindS ts st 49) (qU l p).2:=by
 have ht:=h.tok.1
 have hb:(p.tok.k == 2)=((R.cur ts st).k == 49):=by
  cases ht with
  | fin _ k j=>rw[k,j];rfl
  | word _ k j=>rw[k,j];rfl
  | num _ k j=>rw[k,j];rfl
  | str _ k j=>rw[k,j];rfl
  | sign _ k j=>rw[k,j];rfl
  | wrong _ k j=>rw[k,j];rfl
 unfold qU R.kindS
 rw[hb]
 rcases fc h ((R.cur ts st).k == 49) (fun e=>by rw[beq_iff_eq] at e;omega) with ⟨e,s,lt,_⟩ | ⟨_,d⟩
 ·left
  rw[beq_iff_eq] at e
  refine⟨s,?_,lt,e⟩
  rw[if_neg (by rw[s.nk];simp)]
  cases ht with
  | fin _ k j=>omega
  | word _ k j=>omega
  | str _ k j=>omega
  | sign _ k j=>omega
  | wrong _ k j=>omega
  | num _ k j r=>rw[r]
 ·exact Or.inr d
theorem xJ {st:R.St}{p:P.St}(h:Dead st p)(b:Bool)(e a:Int):Dead st (zX p b e a):=
 ⟨h.bad,by rw[(qD p b e a).2];exact h.broken,by rw[(qD p b e a).1];exact h.place⟩
theorem Res.note {l:List UInt8}{ts:List R.Tok}{Q:Prop}{st:R.St}{p:P.St}(h:Res l ts Q st p)(ok:Bool)(e:Int)(a:Int)(hn:Sim l ts st p->Q->Noted st a e/\a<p.tok.at_) :
  Res l ts (Q/\∀e',e<=e'->Noted (R.notS st ok e a) a e') (R.notS st ok e a) (zX p (!ok) e a):=by
 rcases h with ⟨h,q⟩ | h
 ·obtain⟨h1,h2⟩:=hn h q
  obtain⟨h3,h4⟩:=zn0 h ok e a h1 h2
  exact Or.inl ⟨h3,q,h4⟩
 ·right;rw[R.notS_bad h.bad];exact xJ h _ _ _
theorem zkB {l:List UInt8}{ts:List R.Tok}{st:R.St}{p:P.St}(h:Sim l ts st p) :
  Res l ts ((zg l p).1=(R.pathS ts st).1/\p.tok.at_<(zg l p).2.tok.at_) (R.pathS ts st).2 (zX (zg l p).2 (!R.path (zg l p).1) 4 p.tok.at_):=by
 have h1:=wk h
 unfold R.pathS
 simp only
 rcases h1 with ⟨h1,q1,q2⟩ | d
 ·rw[q1,h.tok.1.place]
  rw[h.tok.1.place] at q2
  have:=Res.note (Or.inl ⟨h1,trivial⟩:Res l ts True _ _) (R.path (R.cur ts st).s) 4 (R.cur ts st).at_ (fun _ _=>⟨yc (yu h 4) _ _,by omega⟩)
  exact this.mono (fun _=>⟨rfl,by omega⟩)
 ·right;rw[R.notS_bad d.bad];exact xJ d _ _ _
theorem yH {c:UInt8}{cs:List UInt8}(h1:R.digitI c.toNat=false)(h2:c≠34):headOk (c :: cs):=⟨c,cs,rfl,h1,h2⟩
theorem zf1 {l:List UInt8}{ts:List R.Tok}{st:R.St}{p:P.St}(h:Sim l ts st p)(w:List UInt8)(hw:headOk w) :
  Res l ts ((xL l p w).1=(R.pathS ts (R.needS ts st w)).1/\p.tok.at_<(xL l p w).2.tok.at_) (R.needS ts (R.pathS ts (R.needS ts st w)).2 [59]) (xL l p w).2:=by
 have h1:=xj h hw
 unfold xL
 simp only
 refine Res.bind h1 (fun hb=>by rw[R.pathS_bad hb,R.needS_bad hb]) (((jF _ _).trans (xI _ _ _ _)).trans (qV _ _ _)) (fun s1 q1=>?_)
 refine Res.bind (zkB s1) (fun hb=>R.needS_bad hb) (qV _ _ _) (fun s2 q2=>?_)
 refine(xj s2 (yH rfl (by decide))).mono (fun q3=>⟨q2.1,?_⟩)
 have e:=(qD (zg l (zH l p w)).2 (!R.path (zg l (zH l p w)).1) 4 (zH l p w).tok.at_).1
 have a:=q3.1
 rw[e] at a
 omega
theorem kf (l:List UInt8)(p:P.St)(w:List UInt8):Still p (xL l p w).2:=
 (((qV _ _ _).trans (jF _ _)).trans (xI _ _ _ _)).trans (qV _ _ _)
theorem zaY {l:List UInt8}{ts:List R.Tok}{st:R.St}{p:P.St}(h:Sim l ts st p) :
  Res l ts ((qg l p).1=(R.valueS ts st).1/\p.tok.at_<(qg l p).2.tok.at_) (R.valueS ts st).2 (qg l p).2:=by
 unfold qg R.valueS
 simp only
 refine Res.bind (xj h (r:=[61]) (yH rfl (by decide))) (fun hb=>by rw[R.kindS_bad hb,R.notS_bad hb]) ((jF _ _).trans (xI _ _ _ _)) (fun s1 q1=>?_)
 rcases wk s1 with ⟨h1,q2,q3⟩ | d
 ·rw[q2,s1.tok.1.place]
  rw[s1.tok.1.place] at q3
  have:=Res.note (Or.inl ⟨h1,trivial⟩:Res l ts True _ _) (R.value (R.cur ts (R.needS ts st [61])).s) 4 (R.cur ts (R.needS ts st [61])).at_ (fun _ _=>⟨yc (yu s1 4) _ _,by omega⟩)
  refine this.mono (fun _=>⟨rfl,?_⟩)
  rw[(qD _ _ _ _).1]
  have:=q1.1;rw[s1.tok.1.place] at this;omega
 ·right;rw[R.notS_bad d.bad];exact xJ d _ _ _
theorem zgF (l:List UInt8)(p:P.St):Still p (qg l p).2:=((qV _ _ _).trans (jF _ _)).trans (xI _ _ _ _)
theorem ze4 {l:List (List UInt8)}{s:List UInt8}{a:Int}:∀{st:R.St},R.among l s a st=R.notS st (!l.any fun n=>decide (n=s)) 5 a:=by
 unfold R.among
 induction l with
 | nil=>intro st;simp[R.notS]
 | cons x l ih=>
  intro st
  rw[List.foldl_cons,ih,List.any_cons]
  by_cases h:x=s
  ·subst h
   rw[show decide (x≠x)=false by simp,show decide (x=x)=true by simp,Bool.true_or,Bool.not_true]
   by_cases h1:st.E=0/\st.bad<0
   ·have h2:R.notS st false 5 a={ st with E:=5,at_:=a }:=by unfold R.notS;rw[if_pos ⟨rfl,h1.1,h1.2⟩]
    rw[h2];unfold R.notS;rw[if_neg (fun c=>absurd c.2.1 (by simp))]
   ·have h2:R.notS st false 5 a=st:=by unfold R.notS;rw[if_neg (fun c=>h1 c.2)]
    rw[h2];unfold R.notS;rw[if_neg (fun c=>h1 c.2)]
  ·rw[show decide (x≠s)=true by simpa using h,show decide (x=s)=false by simpa using h,Bool.false_or]
   have:R.notS st true 5 a=st:=by unfold R.notS;rw[if_neg (by simp)]
   rw[this]
theorem zjQ {l:List Int}{s:Int}{a:Int}:∀{st:R.St},R.amongN l s a st=R.notS st (!l.any fun n=>decide (n=s)) 5 a:=by
 unfold R.amongN
 induction l with
 | nil=>intro st;simp[R.notS]
 | cons x l ih=>
  intro st
  rw[List.foldl_cons,ih,List.any_cons]
  by_cases h:x=s
  ·subst h
   rw[show decide (x=x)=true by simp,Bool.true_or,Bool.not_true]
   by_cases h1:st.E=0/\st.bad<0
   ·have h2:R.notS st false 5 a={ st with E:=5,at_:=a }:=by unfold R.notS;rw[if_pos ⟨rfl,h1.1,h1.2⟩]
    rw[h2];unfold R.notS;rw[if_neg (fun c=>absurd c.2.1 (by simp))]
   ·have h2:R.notS st false 5 a=st:=by unfold R.notS;rw[if_neg (fun c=>h1 c.2)]
    rw[h2];unfold R.notS;rw[if_neg (fun c=>h1 c.2)]
  ·rw[show decide (x=s)=false by simpa using h,Bool.false_or,Bool.not_false]
   have:R.notS st true 5 a=st:=by unfold R.notS;rw[if_neg (by simp)]
   rw[this]
theorem kU {l:List UInt8}{ts:List R.Tok}{st:R.St}{p:P.St}(h:Sim l ts st p)(am:List (List UInt8)) :
  Res l ts ((qQ l p am).1=(R.headerS ts st am).1/\p.tok.at_<(qQ l p am).2.tok.at_) (R.headerS ts st am).2 (qQ l p am).2:=by
 unfold qQ qB R.headerS
 simp only
 rw[ze4]
 rcases wk h with ⟨h1,q2,q3⟩ | d
 ·rw[q2,h.tok.1.place]
  rw[h.tok.1.place] at q3
  have r1:=Res.note (Or.inl ⟨h1,trivial⟩:Res l ts True _ _) (R.header (R.cur ts st).s true) 4 (R.cur ts st).at_ (fun _ _=>⟨yc (yu h 4) _ _,by omega⟩)
  have r2:=Res.note r1 (!am.any fun n=>decide (n=R.lower (R.cur ts st).s)) 5 (R.cur ts st).at_ (fun _ q=>⟨q.2 5 (by decide),by rw[(qD _ _ _ _).1];omega⟩)
  rw[Bool.not_not] at r2
  refine r2.mono (fun _=>⟨rfl,?_⟩)
  rw[(qD _ _ _ _).1,(qD _ _ _ _).1];omega
 ·right;rw[R.notS_bad (by rw[R.notS_bad d.bad];exact d.bad),R.notS_bad d.bad];exact xJ (xJ d _ _ _) _ _ _
theorem wg (l:List UInt8)(p:P.St):Still p (qB l p).2:=(jF _ _).trans (xI _ _ _ _)
theorem we (l:List UInt8)(p:P.St)(am:List (List UInt8)):Still p (qQ l p am).2:=(wg _ _).trans (xI _ _ _ _)
theorem zhB (l:List UInt8)(p:P.St):qQ l p []=qB l p:=by unfold qQ;simp[zX]
theorem vw {l:List UInt8}{ts:List R.Tok}{st:R.St}{p:P.St}(h:Sim l ts st p)(r:List UInt8)(hr:headOk r)(n:Nat)(m:Int) :
  Res l ts (p.tok.at_<(zH l (zf p n m) r).tok.at_/\R.isB st (R.cur ts st) r=true) (R.notS (R.needS ts st r) (decide ((n:Int)<m)) 3 (R.cur ts st).at_) (zH l (zf p n m) r):=by
 unfold zf
 rw[zm1]
 have hd:decide (m<=(n:Int))=!decide ((n:Int)<m):=by
  rw[Bool.eq_iff_iff];simp
 rw[hd,h.tok.1.place]
 have r1:=xj h hr
 rw[h.tok.1.place] at r1
 have r2:=Res.note r1 (decide ((n:Int)<m)) 3 (R.cur ts st).at_ (fun _ q=>⟨yc (yu h 3) _ _,by omega⟩)
 refine r2.mono (fun q=>⟨?_,q.1.2⟩)
 rw[(qD _ _ _ _).1];exact q.1.1
theorem hd59:headOk [59]:=yH rfl (by decide)
theorem hd61:headOk [61]:=yH rfl (by decide)
theorem hd44:headOk [44]:=yH rfl (by decide)
theorem hd123:headOk [123]:=yH rfl (by decide)
theorem hd125:headOk [125]:=yH rfl (by decide)
theorem hdHeader:headOk qA:=yH rfl (by decide)
theorem hdSet:headOk qy:=yH rfl (by decide)
theorem hdDrop:headOk qX:=yH rfl (by decide)
theorem hdRule:headOk qm:=yH rfl (by decide)
theorem hdPath:headOk j3:=yH rfl (by decide)
theorem hdReplace:headOk qR:=yH rfl (by decide)
theorem hdHost:headOk R.wHost:=yH rfl (by decide)
theorem hdTo:headOk jP:=yH rfl (by decide)
def mtOf (m:P.Mt):R.Mt:=⟨m.name,m.val,m.ask⟩
theorem zk8 {l:List UInt8}{ts:List R.Tok}{st:R.St}{p:P.St}(h:Sim l ts st p)(aa:List R.Mt)(n:Nat)(hn:aa.length=n) :
  Res l ts ((y8 ts st aa).2=aa++[mtOf (qT l p n).1]/\p.tok.at_<(qT l p n).2.tok.at_) (y8 ts st aa).1 (qT l p n).2:=by
 subst hn
 unfold qT y8
 simp only
 have r0:Res l ts ((xz l p aa.length).1=(jQ ts st aa.length).1/\p.tok.at_<(xz l p aa.length).2.tok.at_) (jQ ts st aa.length).2 (xz l p aa.length).2:=by
  unfold xz jQ
  have r1:=vw h qA hdHeader aa.length 3
  refine Res.bind r1 (fun hb=>R.headerS_bad hb) (wg _ _) (fun s1 q1=>?_)
  have r2:=kU s1 []
  rw[zhB] at r2
  exact r2.mono (fun q=>⟨q.1,by have:=q1.1;have:=q.2;omega⟩)
 refine Res.bind r0 (fun hb=>by unfold kK;rw[R.isB_bad hb,if_neg (by simp),R.needS_bad hb]) ?_ (fun s1 q1=>?_)
 ·refine Still.trans ?_ (qV _ _ _)
  intro hb;unfold j2;rw[yG hb];exact⟨hb,rfl⟩
 obtain⟨_,e2,_⟩:=jI s1 hd61
 unfold j2 kK mtOf
 rw[e2,q1.1]
 cases hask:R.isB (jQ ts st aa.length).2 (R.cur ts (jQ ts st aa.length).2) [61]
 ·simp only[xO,if_false]
  exact(xj s1 hd59).mono (fun q=>⟨trivial,by have:=q1.2;have:=q.1;omega⟩)
 ·simp only[if_true]
  refine Res.bind (zaY s1) (fun hb=>R.needS_bad hb) (qV _ _ _) (fun s2 q2=>?_)
  exact(xj s2 hd59).mono (fun q=>⟨by rw[q2.1],by have:=q1.2;have:=q2.2;have:=q.1;omega⟩)
theorem Sim.atLe {l:List UInt8}{ts:List R.Tok}{st:R.St}{p:P.St}(h:Sim l ts st p):p.tok.at_<=l.length:=by
 obtain⟨m,q,h1,h2,h3,h4⟩:=h.link
 rw[h4];have:=fE l q h2;omega
theorem zhM {l:List UInt8}{ts:List R.Tok}:∀(n m:Nat) {st:R.St} {p:P.St} (ab:List R.Mt) (aa:List P.Mt),Sim l ts st p->ab=aa.map mtOf->ts.length<n+st.K->l.length<m+p.tok.at_->
  Res l ts ((R.mtLoop ts n st ab).1=(qZ l m p aa).1.map mtOf/\p.tok.at_<=(qZ l m p aa).2.tok.at_) (R.mtLoop ts n st ab).2 (qZ l m p aa).2:=by
 intro n
 induction n with
 | zero=>intro m st p ab aa h _ hn _;have:=h.tok.2;omega
 | succ n ih=>
  intro m st p ab aa h ha hn hm
  match m,hm with
  | 0,hm=>have:=h.atLe;omega
  | m+1,hm=>
   obtain⟨_,e2,_⟩:=jI h hdHeader
   rw[R.mtLoop,qZ,e2]
   cases hgo:R.isB st (R.cur ts st) qA
   ·simp only[xO,if_false]
    exact Or.inl ⟨h,ha,zZ _⟩
   ·simp only[if_true]
    have hK:=uP ts st ab hgo
    have r1:=zk8 h ab aa.length (by rw[ha,qw])
    rcases r1 with ⟨s1,q1,q2⟩ | d
    ·have:=ih m (ab++[mtOf (qT l p aa.length).1]) (aa++[(qT l p aa.length).1]) s1 (by rw[ha];simp) (by omega) (by omega)
     rw[q1]
     exact this.mono (fun q=>⟨q.1,by have:=q.2;omega⟩)
    ·right
     rw[R.mtLoop_bad d.bad]
     have:∀k ad,qZ l k (qT l p aa.length).2 ad=(ad,(qT l p aa.length).2):=by
      intro k ad;cases k
      ·rfl
      ·rw[qZ,yG d.broken];rfl
     rw[this];exact d
theorem wi (l:List UInt8)(n:Nat)(p:P.St)(aa:List P.Mt):Still p (qZ l n p aa).2:=by
 intro hb
 cases n
 ·exact⟨hb,rfl⟩
 ·rw[qZ,yG hb];exact⟨hb,rfl⟩
theorem zeY (l:List UInt8)(p:P.St)(c:Bool)(e a:Int):qU l (zX p c e a)=((qU l p).1,zX (qU l p).2 c e a):=by
 unfold qU;rw[(qD p c e a).1,uD,(qD _ c e a).2]
theorem fH (st:R.St)(ok:Bool)(e a:Int)(h:st.E≠0):R.notS st ok e a=st:=by unfold R.notS;rw[if_neg (fun c=>h c.2.1)]
theorem uO {ts:List R.Tok}{st:R.St}{k:Int}(hb:st.bad<0)(h:(R.cur ts st).k=k):R.kindS ts st k={ st with K:=st.K+1 }:=by
 unfold R.kindS R.overS;rw[if_neg (by omega),if_pos (by rw[h];simp)]
def wsum (l:List (List UInt8×Int)):Int:=(l.map Prod.snd).sum
theorem zaZ (l:List (List UInt8×Int))(t:List UInt8×Int):wsum (l++[t])=wsum l+t.2:=by simp[wsum]
theorem ziQ {l:List UInt8}{ts:List R.Tok}{st:R.St}{p:P.St}(an:R.Ok ts)(h:Sim l ts st p)(i:Nat)(aa:List (List UInt8×Int)) :
  Res l ts ((zo ts st i aa).2=aa++([(zR l p i).1].filter fun t=>!(t.2 == 0))/\0<=(zR l p i).1.2/\p.tok.at_<(zR l p i).2.tok.at_/\(zo ts st i aa).1.K=st.K+2/\
   (st.E=0->(zo ts st i aa).1.E≠0->p.tok.at_<=(zo ts st i aa).1.at_)/\(st.E≠0->(zo ts st i aa).1.E=st.E/\(zo ts st i aa).1.at_=st.at_)/\
   yB (ts.drop st.K)=(zR l p i).1.2+yB (ts.drop (st.K+3))) (zo ts st i aa).1 (zR l p i).2:=by
 unfold zR qz zf
 simp only
 rw[zo6]
 simp only
 rw[zeY,zeY]
 simp only
 simp only[yI]
 unfold zo
 simp only
 rcases wk h with ⟨h1,q1,q2⟩ | d
 ·have ah:(R.cur ts st).k=34:=by
   apply Classical.byContradiction;intro hc
   have:=h1.nb
   unfold R.kindS R.overS at this
   rw[if_neg (by have:=h.nb;omega),if_neg (by simpa using hc)] at this
   have:(0:Int)<=(R.cur ts st).at_:=Int.natCast_nonneg _
   simp only at *;omega
  have ad:R.kindS ts st 34={ st with K:=st.K+1 }:=uO h.nb ah
  rcases zj2 h1 with ⟨h2,g1,g2,g3⟩ | d
  ·have ae:R.kindS ts (R.kindS ts st 34) 49={ st with K:=st.K+2 }:=by rw[uO h1.nb g3,ad]
   have ai:=h.tok.1.place
   have af:=h1.tok.1.place
   rw[q1,g1,ai,af]
   have ab:=h1.tok.2
   have am:=an.nums _ _ (show ts[(R.kindS ts st 34).K]?=some (R.cur ts (R.kindS ts st 34)) by unfold R.cur;rw[List.getD_eq_getElem?_getD,qN ab];rfl) g3
   have ak:decide ((4:Int)<=i)=!decide ((i:Int)<4):=by rw[Bool.eq_iff_iff];simp
   have al:decide (1000<R.num (R.cur ts (R.kindS ts st 34)).s)=!decide (R.num (R.cur ts (R.kindS ts st 34)).s<=1000):=by rw[Bool.eq_iff_iff];simp
   rw[ak,al]
   have ao:Noted (R.kindS ts (R.kindS ts st 34) 49) (R.cur ts st).at_ 3:=yc (yc (yu h 3) _ _) _ _
   have e1:((R.cur ts st).at_:Int)<(R.cur ts (R.kindS ts st 34)).at_:=by rw[ai,af] at q2;omega
   have e2:((R.cur ts (R.kindS ts st 34)).at_:Int)<(qU l (zg l p).2).2.tok.at_:=by rw[af] at g2;omega
   have r1:=Res.note (Or.inl ⟨h2,trivial⟩:Res l ts True _ _) (decide ((i:Int)<4)) 3 (R.cur ts st).at_ (fun _ _=>⟨ao,by omega⟩)
   have r2:=Res.note r1 (R.upstream (R.cur ts st).s) 4 (R.cur ts st).at_ (fun _ q=>⟨q.2 4 (by decide),by rw[(qD _ _ _ _).1];omega⟩)
   have r3:=Res.note r2 (decide (R.num (R.cur ts (R.kindS ts st 34)).s<=1000)) 4 (R.cur ts (R.kindS ts st 34)).at_ (fun _ q=>⟨fun hE=>by
     rcases q.2 4 (by decide) hE with c | c
     ·left;omega
     ·left;omega,by rw[(qD _ _ _ _).1,(qD _ _ _ _).1];exact e2⟩)
   refine r3.mono (fun _=>⟨?_,am.1,?_,?_,?_,?_,?_⟩)
   ·by_cases h0:0<R.num (R.cur ts (R.kindS ts st 34)).s
    ·rw[if_pos h0,List.filter_cons,if_pos (by simp;omega)];rfl
    ·rw[if_neg h0,List.filter_cons,if_neg (by simp;omega)];simp
   ·omega
   ·rw[R.notS_K,R.notS_K,R.notS_K,ae]
   ·intro hE
    rw[ae]
    unfold R.notS
    simp only
    repeat' split
    all_goals simp_all
    all_goals omega
   ·intro hE
    have q:∀ok e a,R.notS { st with K:=st.K+2 } ok e a={ st with K:=st.K+2 }:=fun ok e a=>fH _ _ _ _ hE
    rw[ae,q,q,q]
    exact⟨rfl,rfl⟩
   ·have aj:=h.tok.2
    have c0:ts[st.K]=R.cur ts st:=by unfold R.cur;rw[List.getD_eq_getElem?_getD,qN aj];rfl
    have ag:st.K+1<ts.length:=by rw[ad] at ab;exact ab
    have c1:ts[st.K+1]=R.cur ts (R.kindS ts st 34):=by rw[ad];unfold R.cur;simp only;rw[List.getD_eq_getElem?_getD,qN ag];rfl
    rw[zdK ts st.K ag (by rw[c0];exact ah) (by rw[c1];exact g3),c1]
  ·right
   rw[R.notS_bad (by rw[R.notS_bad (by rw[R.notS_bad d.bad];exact d.bad),R.notS_bad d.bad];exact d.bad),R.notS_bad (by rw[R.notS_bad d.bad];exact d.bad),R.notS_bad d.bad]
   exact xJ (xJ (xJ d _ _ _) _ _ _) _ _ _
 ·right
  have hb:R.kindS ts (R.kindS ts st 34) 49=R.kindS ts st 34:=R.kindS_bad d.bad
  rw[hb]
  rw[R.notS_bad (by rw[R.notS_bad (by rw[R.notS_bad d.bad];exact d.bad),R.notS_bad d.bad];exact d.bad),R.notS_bad (by rw[R.notS_bad d.bad];exact d.bad),R.notS_bad d.bad]
  have:=uJ l (zg l p).2 d.broken
  exact xJ (xJ (xJ ⟨d.bad,this.1,by rw[this.2];exact d.place⟩ _ _ _) _ _ _) _ _ _
theorem vV (l:List UInt8)(p:P.St)(n:Nat):Still p (zR l p n).2:=
 ((((zlV _ _ _).trans (jF _ _)).trans (xI _ _ _ _)).trans (uJ _ _)).trans (xI _ _ _ _)
theorem jY (l:List UInt8)(n:Nat)(p:P.St)(aa:List (List UInt8×Int)):Still p (qn l n p aa).2:=by
 intro hb
 cases n
 ·exact⟨hb,rfl⟩
 ·rw[qn,yG hb];exact⟨hb,rfl⟩
theorem ziR {l:List UInt8}{ts:List R.Tok}(aj:R.Ok ts):∀(n m:Nat) {st:R.St} {p:P.St} (i:Nat) (ab aa:List (List UInt8×Int)),Sim l ts st p->aa.length=i->ab=nz aa->(∀t∈aa,0<=t.2)->ts.length<n+st.K->l.length<m+p.tok.at_->
  Res l ts ((R.tgLoop ts n st i ab).1=nz (qn l m (zR l p i).2 (aa++[(zR l p i).1])).1/\(∀t∈(qn l m (zR l p i).2 (aa++[(zR l p i).1])).1,0<=t.2)/\
   p.tok.at_<(qn l m (zR l p i).2 (aa++[(zR l p i).1])).2.tok.at_/\
   (st.E=0->(R.tgLoop ts n st i ab).2.E≠0->p.tok.at_<=(R.tgLoop ts n st i ab).2.at_)/\(st.E≠0->(R.tgLoop ts n st i ab).2.E=st.E/\(R.tgLoop ts n st i ab).2.at_=st.at_)/\
   wsum aa+yB (ts.drop st.K)=wsum (qn l m (zR l p i).2 (aa++[(zR l p i).1])).1+yB (ts.drop ((R.tgLoop ts n st i ab).2.K+1))) (R.tgLoop ts n st i ab).2 (qn l m (zR l p i).2 (aa++[(zR l p i).1])).2:=by
 intro n
 induction n with
 | zero=>intro m st p i ab aa h _ _ _ hn _;have:=h.tok.2;omega
 | succ n ih=>
  intro m st p i ab aa h hi ha ak hn hm
  match m,hm with
  | 0,hm=>have:=h.atLe;omega
  | m+1,hm=>
   rw[R.tgLoop,if_pos h.nb]
   rcases ziQ aj h i ab with ⟨s1,q1,q2,q3,q4,q5,q6,q7⟩ | d
   ·obtain⟨_,e2,_⟩:=jI s1 hd44
    rw[qn,e2]
    have ag:∀t∈aa++[(zR l p i).1],0<=t.2:=by
     intro t ht
     rcases List.mem_append.1 ht with ht | ht
     ·exact ak t ht
     ·simp at ht;rw[ht];exact q2
    have af:(zo ts st i ab).2=nz (aa++[(zR l p i).1]):=by
     rw[q1,ha];unfold nz;rw[List.filter_append]
    cases hgo:R.isB (zo ts st i ab).1 (R.cur ts (zo ts st i ab).1) [44]
    ·simp only[xO,if_false]
     left
     refine⟨s1,af,ag,q3,q5,q6,?_⟩
     rw[zaZ,q7,q4]
     show wsum aa+((zR l p i).1.2+yB (ts.drop (st.K+3)))=wsum aa+(zR l p i).1.2+yB (ts.drop (st.K+2+1))
     rw[show st.K+2+1=st.K+3 from rfl];omega
    ·simp only[if_true]
     have ad:=R.needS_yes hgo
     rcases xj s1 hd44 with ⟨s2,g1,_⟩ | d
     ·have al:=ih m (i+1) (zo ts st i ab).2 (aa++[(zR l p i).1]) s2 (by simp[hi]) af ag (by rw[ad];simp only;omega) (by omega)
      have ai:(aa++[(zR l p i).1]).length=i+1:=by simp[hi]
      rw[ai]
      refine al.mono (fun q=>⟨q.1,q.2.1,by have:=q.2.2.1;omega,?_,?_,?_⟩)
      ·intro hE ah
       by_cases ae:(zo ts st i ab).1.E=0
       ·have:=q.2.2.2.1 (by rw[ad];exact ae) ah
        have:=q3
        omega
       ·have q9:=q.2.2.2.2.1 (by rw[ad];exact ae)
        have:=q5 hE ae
        rw[q9.2,ad];exact this
      ·intro hE
       have q8:=q6 hE
       have q9:=q.2.2.2.2.1 (by rw[ad];show(zo ts st i ab).1.E≠0;rw[q8.1];exact hE)
       rw[q9.1,q9.2,ad];exact q8
      ·have:=q.2.2.2.2.2
       rw[zaZ] at this
       rw[<-this,q7,ad]
       simp only
       rw[q4]
       show wsum aa+((zR l p i).1.2+yB (ts.drop (st.K+3)))=wsum aa+(zR l p i).1.2+yB (ts.drop (st.K+2+1))
       rw[show st.K+2+1=st.K+3 from rfl];omega
     ·right
      rw[R.tgLoop_bad d.bad]
      have hs:=((vV l (zH l (zR l p i).2 [44]) (aa++[(zR l p i).1]).length).trans (jY l m _ (aa++[(zR l p i).1]++[(zR l (zH l (zR l p i).2 [44]) (aa++[(zR l p i).1]).length).1]))) d.broken
      exact⟨d.bad,hs.1,by rw[hs.2];exact d.place⟩
   ·right
    rw[R.isB_bad d.bad]
    simp only[xO,if_false]
    have hs:=jY l (m+1) (zR l p i).2 (aa++[(zR l p i).1]) d.broken
    exact⟨d.bad,hs.1,by rw[hs.2];exact d.place⟩
def SameT (a b:R.St):Prop:=a.K=b.K/\a.bad=b.bad
theorem zaU {a b:R.St}(h:SameT a b)(t:R.Tok)(k:Bool):SameT (R.overS t a k) (R.overS t b k):=by
 unfold R.overS;rw[h.2];split
 ·exact h
 ·split
  ·exact⟨by show a.K+1=b.K+1;rw[h.1],rfl⟩
  ·exact⟨h.1,rfl⟩
theorem vE {a b:R.St}(h:SameT a b)(ts:List R.Tok):R.cur ts a=R.cur ts b:=by unfold R.cur;rw[h.1]
theorem zg8 {a b:R.St}(h:SameT a b)(t:R.Tok)(r:List UInt8):R.isB a t r=R.isB b t r:=by unfold R.isB;rw[h.2]
theorem zaT {a b:R.St}(h:SameT a b)(ts:List R.Tok)(k:Int):SameT (R.kindS ts a k) (R.kindS ts b k):=by unfold R.kindS;rw[vE h];exact zaU h _ _
theorem kH {a b:R.St}(h:SameT a b)(ts:List R.Tok)(r:List UInt8):SameT (R.needS ts a r) (R.needS ts b r):=by unfold R.needS;rw[vE h,zg8 h];exact zaU h _ _
theorem jn (st:R.St)(ok:Bool)(e a:Int):SameT (R.notS st ok e a) st:=by unfold R.notS;split <;> exact⟨rfl,rfl⟩
theorem SameT.trans {a b c:R.St}(h:SameT a b)(k:SameT b c):SameT a c:=⟨h.1.trans k.1,h.2.trans k.2⟩
theorem SameT.symm {a b:R.St}(h:SameT a b):SameT b a:=⟨h.1.symm,h.2.symm⟩
theorem ziI {a b:R.St}(h:SameT a b)(ts:List R.Tok)(i:Nat)(aa:List (List UInt8×Int)):(zo ts a i aa).2=(zo ts b i aa).2/\SameT (zo ts a i aa).1 (zo ts b i aa).1:=by
 unfold zo
 simp only
 have h1:=zaT h ts 34
 have h2:=zaT h1 ts 49
 rw[vE h,vE h1]
 exact⟨rfl,(((jn _ _ _ _).trans (jn _ _ _ _)).trans (jn _ _ _ _)).trans (h2.trans (((jn _ _ _ _).trans (jn _ _ _ _)).trans (jn _ _ _ _)).symm)⟩
theorem zg9 (ts:List R.Tok):∀(n:Nat) {a b:R.St} (_:SameT a b) (i:Nat) (aa:List (List UInt8×Int)),(R.tgLoop ts n a i aa).1=(R.tgLoop ts n b i aa).1/\SameT (R.tgLoop ts n a i aa).2 (R.tgLoop ts n b i aa).2:=by
 intro n
 induction n with
 | zero=>intro a b h i aa;exact⟨rfl,h⟩
 | succ n ih=>
  intro a b h i aa
  rw[R.tgLoop,R.tgLoop,h.2]
  obtain⟨e1,e2⟩:=ziI h ts i aa
  split
  ·rw[vE e2,zg8 e2,e1]
   split
   ·exact ih (kH e2 ts [44]) _ _
   ·exact⟨rfl,e2⟩
  ·exact⟨rfl,h⟩
theorem zo7 (ts:List R.Tok):∀(n:Nat) {st:R.St} (_:st.E≠0) (i:Nat) (aa:List (List UInt8×Int)),(R.tgLoop ts n st i aa).2.E=st.E/\(R.tgLoop ts n st i aa).2.at_=st.at_:=by
 intro n
 induction n with
 | zero=>intro st h i aa;exact⟨rfl,rfl⟩
 | succ n ih=>
  intro st h i aa
  rw[R.tgLoop]
  have e0:(R.kindS ts (R.kindS ts st 34) 49).E=st.E:=by unfold R.kindS;rw[jb,jb]
  have e1:(R.kindS ts (R.kindS ts st 34) 49).at_=st.at_:=by unfold R.kindS;rw[j8,j8]
  have er:(zo ts st i aa).1=R.kindS ts (R.kindS ts st 34) 49:=by
   unfold zo;simp only
   have q:∀ok e a,R.notS (R.kindS ts (R.kindS ts st 34) 49) ok e a=R.kindS ts (R.kindS ts st 34) 49:=fun ok e a=>fH _ _ _ _ (by rw[e0];exact h)
   rw[q,q,q]
  split
  ·split
   ·have hE:(R.needS ts (zo ts st i aa).1 [44]).E=st.E:=by unfold R.needS;rw[jb,er,e0]
    have hA:(R.needS ts (zo ts st i aa).1 [44]).at_=st.at_:=by unfold R.needS;rw[j8,er,e1]
    have:=ih (st:=R.needS ts (zo ts st i aa).1 [44]) (by rw[hE];exact h) (i+1) (zo ts st i aa).2
    rw[hE,hA] at this;exact this
   ·simp only;rw[er];exact⟨e0,e1⟩
  ·exact⟨rfl,rfl⟩
def Lost (l:List UInt8)(ts:List R.Tok)(st:R.St)(p:P.St):Prop:=Sim l ts { st with E:=p.err,at_:=p.fat } p/\(R.cur ts st).k=34
theorem zqH {l:List (List UInt8×Int)}(h:∀t∈l,0<=t.2):0<=wsum l/\((nz l).isEmpty=!decide (0<wsum l)):=by
 induction l with
 | nil=>exact⟨by simp[wsum],by simp[wsum,nz]⟩
 | cons t l ih=>
  obtain⟨h1,h2⟩:=ih (fun u hu=>h u (by simp[hu]))
  have h0:=h t (by simp)
  have hw:wsum (t :: l)=t.2+wsum l:=by simp[wsum]
  refine⟨by omega,?_⟩
  rw[hw]
  unfold nz at h2 ⊢
  rw[List.filter_cons]
  by_cases ht:t.2=0
  ·rw[if_neg (by simp[ht]),h2,ht];simp
  ·rw[if_pos (by simpa using ht)]
   have:0<t.2+wsum l:=by omega
   simp[this]
theorem uA {a b:R.St}{p:P.St}(h:Dead a p)(hs:SameT a b):Dead b p:=⟨by rw[<-hs.2];exact h.bad,h.broken,by rw[<-hs.2];exact h.place⟩
theorem zgK {l:List UInt8}{ts:List R.Tok}{st:R.St}{p:P.St}(az:R.Ok ts)(h:Sim l ts st p) :
  Res l ts ((zz l p).1=(R.targetsS ts st).1/\p.tok.at_<(zz l p).2.tok.at_) (R.targetsS ts st).2 (zz l p).2\/Lost l ts (R.targetsS ts st).2 (zz l p).2:=by
 have pl:=h.tok.1.place
 unfold zz R.targetsS
 simp only
 have an:=xj h hdTo
 rw[show jP=[116,111] from rfl] at an
 generalize hb:yB (ts.drop (R.needS ts st [116,111]).K)=sm
 rcases an with ⟨s1,q1,_⟩ | d
 ·have ap:(R.needS ts st [116,111]).E=st.E:=by unfold R.needS;rw[jb]
  have ao:(R.needS ts st [116,111]).at_=st.at_:=by unfold R.needS;rw[j8]
  have aD:st.E≠0->st.at_<(R.cur ts st).at_:=fun hE=>by have:=h.past hE;rwa[pl] at this
  generalize aA:zH l p [116,111]=p1 at*
  generalize R.needS ts st [116,111]=st1 at*
  have ar:xF l p=qn l (l.length+1) (zR l p1 0).2 ([]++[(zR l p1 0).1]):=by
   unfold xF;rw[show jP=[116,111] from rfl,aA];rfl
  have ah:=ziR az (ts.length+1) (l.length+1) 0 [] [] s1 rfl rfl (by simp) (by omega) (by omega)
  rw[<-ar,show wsum []=0 from rfl,hb] at ah
  have ad:=zg9 ts (ts.length+1) (jn st1 (decide (0<sm)) 4 (R.cur ts st).at_) 0 []
  have ag:=zo7 ts (ts.length+1) (st:=R.notS st1 (decide (0<sm)) 4 (R.cur ts st).at_)
  generalize xF l p=pa at*
  obtain⟨aa,p2⟩:=pa
  simp only at ah ⊢
  rcases ah with ⟨s2,a1,a2,a3,a4,a5,a6⟩ | d
  · -- the run without the note of 'to'
   rcases xj s2 hd59 with ⟨s3,b1,b2⟩ | d
   ·have aj:=R.needS_yes b2
    obtain⟨z1,z2⟩:=zqH a2
    have ay:(aa.filter fun t=>!(t.2 == 0))=nz aa:=rfl
    rw[ay,z2,ad.1,a1]
    have aq:(R.needS ts (R.tgLoop ts (ts.length+1) st1 0 []).2 [59]).K=(R.tgLoop ts (ts.length+1) st1 0 []).2.K+1:=by rw[aj]
    have ab:=kH ad.2 ts [59]
    have af:(R.needS ts (R.tgLoop ts (ts.length+1) st1 0 []).2 [59]).E=(R.tgLoop ts (ts.length+1) st1 0 []).2.E:=by rw[aj]
    have al:(R.needS ts (R.tgLoop ts (ts.length+1) st1 0 []).2 [59]).at_=(R.tgLoop ts (ts.length+1) st1 0 []).2.at_:=by rw[aj]
    by_cases hl:yB (ts.drop ((R.tgLoop ts (ts.length+1) st1 0 []).2.K+1))=0
    ·left
     rw[hl] at a6
     have aB:sm=wsum aa:=by omega
     rw[<-aB]
     by_cases ak:0<sm
     ·rw[decide_eq_true ak]
      have e1:R.notS st1 true 4 (R.cur ts st).at_=st1:=by unfold R.notS;rw[if_neg (by simp)]
      rw[e1]
      left
      refine⟨?_,(by first | rfl | trivial),?_⟩
      ·simpa[zX] using s3
      ·rw[yI];omega
     ·rw[decide_eq_false ak]
      rw[decide_eq_false ak] at ad ag ab
      simp only[Bool.not_false]
      by_cases hE:st1.E=0
      ·have e1:R.notS st1 false 4 (R.cur ts st).at_={ st1 with E:=4,at_:=(R.cur ts st).at_ }:=by unfold R.notS;rw[if_pos ⟨rfl,hE,s1.nb⟩]
       rw[e1] at ag ab ⊢
       obtain⟨f1,f2⟩:=ag (by show(4:Int)≠0;decide) 0 []
       simp only at f1 f2
       have g1:(R.needS ts (R.tgLoop ts (ts.length+1) { st1 with E:=4,at_:=(R.cur ts st).at_ } 0 []).2 [59]).E=4:=by unfold R.needS;rw[jb,f1]
       have g2:(R.needS ts (R.tgLoop ts (ts.length+1) { st1 with E:=4,at_:=(R.cur ts st).at_ } 0 []).2 [59]).at_=(R.cur ts st).at_:=by unfold R.needS;rw[j8,f2]
       have ai:zX (zH l p2 [59]) true 4 p.tok.at_={ zH l p2 [59] with err:=4,fat:=p.tok.at_ }:=by
        unfold zX ql
        rw[if_pos rfl,if_pos]
        by_cases hz:(zH l p2 [59]).err=0
        ·exact Or.inl hz
        ·right;left
         have e3:(R.tgLoop ts (ts.length+1) st1 0 []).2.E≠0:=by rw[<-af,<-s3.err];exact hz
         have e4:=a4 hE e3
         rw[s3.fat (by rw[af];exact e3),al]
         omega
       rw[ai]
       left
       refine⟨⟨by rw[ab.2];exact s3.nb,s3.nk,?_,by rw[g1],fun _=>by rw[g2,<-pl],fun _=>?_⟩,(by first | rfl | trivial),?_⟩
       ·obtain⟨m,q,k1,k2,k3,k4⟩:=s3.link
        exact⟨m,q,k1,k2,by rw[ab.1];exact k3,k4⟩
       ·rw[g2,<-pl]
        show(p.tok.at_:Int)<(zH l p2 [59]).tok.at_
        omega
       ·show p.tok.at_<(zH l p2 [59]).tok.at_
        omega
      ·have e1:R.notS st1 false 4 (R.cur ts st).at_=st1:=fH _ _ _ _ hE
       rw[e1]
       obtain⟨f1,f2⟩:=a5 hE
       have aw:(zH l p2 [59]).fat=st1.at_:=by rw[s3.fat (by rw[af,f1];exact hE),al,f2]
       have av:(zH l p2 [59]).err=st1.E:=by rw[s3.err,af,f1]
       have aC:st1.at_<p.tok.at_:=by rw[ao];exact h.past (by rw[<-ap];exact hE)
       have ai:zX (zH l p2 [59]) true 4 p.tok.at_=zH l p2 [59]:=by
        unfold zX ql
        rw[if_pos rfl,av,aw,if_neg]
        intro c;rcases c with c | c | c
        ·exact hE c
        ·omega
        ·omega
       rw[ai]
       exact Or.inl ⟨s3,(by first | rfl | trivial),by omega⟩
    ·right
     have ax:(R.cur ts (R.needS ts (R.tgLoop ts (ts.length+1) st1 0 []).2 [59])).k=34:=by
      apply Classical.byContradiction;intro hc
      apply hl
      rw[<-aq]
      apply zdL
      rintro⟨hx,h1,_⟩
      apply hc
      unfold R.cur;rw[List.getD_eq_getElem?_getD,qN (by omega)];exact h1
     refine⟨?_,by rw[vE ab];exact ax⟩
     have am:=yI (zH l p2 [59]) (!decide (0<wsum aa)) 4 p.tok.at_
     have au:=(qD (zH l p2 [59]) (!decide (0<wsum aa)) 4 p.tok.at_).2
     obtain⟨m,q,k1,k2,k3,k4⟩:=s3.link
     refine⟨by show _<_;rw[ab.2];exact s3.nb,by rw[au];exact s3.nk,⟨m,q,k1,k2,by show ts.drop _=_;rw[ab.1];exact k3,by rw[am];exact k4⟩,rfl,fun _=>rfl,?_⟩
     intro hE
     rw[am]
     show(zX (zH l p2 [59]) (!decide (0<wsum aa)) 4 p.tok.at_).fat<_
     have ae:(zX (zH l p2 [59]) (!decide (0<wsum aa)) 4 p.tok.at_).err≠0:=hE
     unfold zX ql at ae ⊢
     split
     ·split
      ·show(p.tok.at_:Int)<_;omega
      ·rename_i _ hc
       have hz:(zH l p2 [59]).err≠0:=fun e=>hc (Or.inl e)
       rw[s3.fat (by rw[<-s3.err];exact hz)]
       exact s3.past (by rw[<-s3.err];exact hz)
     ·rename_i hc
      rw[if_neg hc] at ae
      rw[s3.fat (by rw[<-s3.err];exact ae)]
      exact s3.past (by rw[<-s3.err];exact ae)
   ·left;right
    exact xJ (uA d (kH ad.2.symm ts [59])) _ _ _
  ·left;right
   have d1:=uA d ad.2.symm
   rw[R.needS_bad d1.bad]
   have hs:=qV l p2 [59] d1.broken
   exact xJ ⟨d1.bad,hs.1,by rw[hs.2];exact d1.place⟩ _ _ _
 ·left;right
  have e1:R.notS (R.needS ts st [116,111]) (decide (0<sm)) 4 (R.cur ts st).at_=R.needS ts st [116,111]:=R.notS_bad d.bad
  rw[e1,R.tgLoop_bad d.bad]
  rw[R.needS_bad d.bad]
  have hs:Still (zH l p [116,111]) (zX (zH l (xF l p).2 [59]) ((xF l p).1.filter fun t=>!(t.2 == 0)).isEmpty 4 p.tok.at_):=by
   refine Still.trans ?_ (xI _ _ _ _)
   refine Still.trans ?_ (qV _ _ _)
   exact(vV _ _ _).trans (jY _ _ _ _)
  have hs:=hs d.broken
  exact⟨d.bad,hs.1,by rw[hs.2];exact d.place⟩
theorem zpQ {l:List UInt8}{ts:List R.Tok}{st:R.St}{p:P.St}(h:Sim l ts st p)(aa:List (List UInt8×List UInt8)) :
  Res l ts ((yA ts st aa).2=aa++[(xB l p aa.length (aa.map Prod.fst)).1]/\p.tok.at_<(xB l p aa.length (aa.map Prod.fst)).2.tok.at_) (yA ts st aa).1 (xB l p aa.length (aa.map Prod.fst)).2:=by
 unfold xB yA
 simp only
 have r0:Res l ts ((yR l p aa.length (aa.map Prod.fst)).1=(kq ts st aa.length (aa.map Prod.fst)).1/\p.tok.at_<(yR l p aa.length (aa.map Prod.fst)).2.tok.at_) (kq ts st aa.length (aa.map Prod.fst)).2 (yR l p aa.length (aa.map Prod.fst)).2:=by
  unfold yR kq
  refine Res.bind (vw h qy hdSet aa.length 3) (fun hb=>R.headerS_bad hb) (we _ _ _) (fun s1 q1=>?_)
  exact(kU s1 (aa.map Prod.fst)).mono (fun q=>⟨q.1,by have:=q1.1;have:=q.2;omega⟩)
 refine Res.bind r0 (fun hb=>by rw[R.valueS_bad hb,R.needS_bad hb]) ((zgF _ _).trans (qV _ _ _)) (fun s1 q1=>?_)
 refine Res.bind (zaY s1) (fun hb=>R.needS_bad hb) (qV _ _ _) (fun s2 q2=>?_)
 exact(xj s2 hd59).mono (fun q=>⟨by rw[q1.1,q2.1],by have:=q1.2;have:=q2.2;have:=q.1;omega⟩)
theorem zmD {l:List UInt8}{ts:List R.Tok}{st:R.St}{p:P.St}(h:Sim l ts st p)(ab aa:List (List UInt8)) :
  Res l ts ((y7 ts st ab aa).2=aa++[(qu l p aa.length (ab++aa)).1]/\p.tok.at_<(qu l p aa.length (ab++aa)).2.tok.at_) (y7 ts st ab aa).1 (qu l p aa.length (ab++aa)).2:=by
 unfold qu y7
 simp only
 have r0:Res l ts ((yS l p aa.length (ab++aa)).1=(fG ts st aa.length (ab++aa)).1/\p.tok.at_<(yS l p aa.length (ab++aa)).2.tok.at_) (fG ts st aa.length (ab++aa)).2 (yS l p aa.length (ab++aa)).2:=by
  unfold yS fG
  refine Res.bind (vw h qX hdDrop aa.length 3) (fun hb=>R.headerS_bad hb) (we _ _ _) (fun s1 q1=>?_)
  exact(kU s1 (ab++aa)).mono (fun q=>⟨q.1,by have:=q1.1;have:=q.2;omega⟩)
 refine Res.bind r0 (fun hb=>R.needS_bad hb) (qV _ _ _) (fun s1 q1=>?_)
 exact(xj s1 hd59).mono (fun q=>⟨by rw[q1.1],by have:=q1.2;have:=q.1;omega⟩)
theorem vU (l:List UInt8)(n:Nat)(p:P.St)(aa:List (List UInt8×List UInt8)):Still p (qP l n p aa).2:=by
 intro hb
 cases n
 ·exact⟨hb,rfl⟩
 ·rw[qP,yG hb];exact⟨hb,rfl⟩
theorem jX (l:List UInt8)(ab:List (List UInt8))(n:Nat)(p:P.St)(aa:List (List UInt8)):Still p (qJ l ab n p aa).2:=by
 intro hb
 cases n
 ·exact⟨hb,rfl⟩
 ·rw[qJ,yG hb];exact⟨hb,rfl⟩
theorem ziK {l:List UInt8}{ts:List R.Tok}:∀(n m:Nat) {st:R.St} {p:P.St} (aa:List (List UInt8×List UInt8)),Sim l ts st p->ts.length<n+st.K->l.length<m+p.tok.at_->
  Res l ts ((R.stLoop ts n st aa).1=(qP l m p aa).1/\p.tok.at_<=(qP l m p aa).2.tok.at_) (R.stLoop ts n st aa).2 (qP l m p aa).2:=by
 intro n
 induction n with
 | zero=>intro m st p aa h hn _;have:=h.tok.2;omega
 | succ n ih=>
  intro m st p aa h hn hm
  match m,hm with
  | 0,hm=>have:=h.atLe;omega
  | m+1,hm=>
   obtain⟨_,e2,_⟩:=jI h hdSet
   rw[R.stLoop,qP,e2]
   cases hgo:R.isB st (R.cur ts st) qy
   ·simp only[xO,if_false]
    exact Or.inl ⟨h,(by first | rfl | trivial),zZ _⟩
   ·simp only[if_true]
    have hK:=uQ ts st aa hgo
    rcases zpQ h aa with ⟨s1,q1,q2⟩ | d
    ·rw[q1]
     exact(ih m _ s1 (by omega) (by omega)).mono (fun q=>⟨q.1,by have:=q.2;omega⟩)
    ·right
     rw[R.stLoop_bad d.bad]
     have hs:=vU l m _ (aa++[(xB l p aa.length (aa.map Prod.fst)).1]) d.broken
     exact⟨d.bad,hs.1,by rw[hs.2];exact d.place⟩
theorem zhA {l:List UInt8}{ts:List R.Tok}(ab:List (List UInt8)):∀(n m:Nat) {st:R.St} {p:P.St} (aa:List (List UInt8)),Sim l ts st p->ts.length<n+st.K->l.length<m+p.tok.at_->
  Res l ts ((R.dpLoop ts ab n st aa).1=(qJ l ab m p aa).1/\p.tok.at_<=(qJ l ab m p aa).2.tok.at_) (R.dpLoop ts ab n st aa).2 (qJ l ab m p aa).2:=by
 intro n
 induction n with
 | zero=>intro m st p aa h hn _;have:=h.tok.2;omega
 | succ n ih=>
  intro m st p aa h hn hm
  match m,hm with
  | 0,hm=>have:=h.atLe;omega
  | m+1,hm=>
   obtain⟨_,e2,_⟩:=jI h hdDrop
   rw[R.dpLoop,qJ,e2]
   cases hgo:R.isB st (R.cur ts st) qX
   ·simp only[xO,if_false]
    exact Or.inl ⟨h,(by first | rfl | trivial),zZ _⟩
   ·simp only[if_true]
    have hK:=uN ts st ab aa hgo
    rcases zmD h ab aa with ⟨s1,q1,q2⟩ | d
    ·rw[q1]
     exact(ih m _ s1 (by omega) (by omega)).mono (fun q=>⟨q.1,by have:=q.2;omega⟩)
    ·right
     rw[R.dpLoop_bad d.bad]
     have hs:=jX l ab m _ (aa++[(qu l p aa.length (ab++aa)).1]) d.broken
     exact⟨d.bad,hs.1,by rw[hs.2];exact d.place⟩
def rlOf (r:P.Rl)(ch:Bool):R.Rl:=⟨r.number,r.path,r.ms.map mtOf,r.tg,ch,r.rep,r.sets,r.drops⟩
def RlSim (a:R.Rl)(b:P.Rl):Prop:=a=rlOf b a.change/\(a.change=false->b.rep=[])
theorem ziF {l:List UInt8}{ts:List R.Tok}{st:R.St}{p:P.St}(h:Sim l ts st p)(aa:List Int) :
  Res l ts ((xU l p aa).1=(R.rlA2 ts st aa).1/\p.tok.at_<(xU l p aa).2.tok.at_) (R.rlA2 ts st aa).2 (xU l p aa).2:=by
 unfold xU R.rlA2
 simp only
 rw[zjQ]
 rcases zj2 h with ⟨h1,q2,q3,_⟩ | d
 ·rw[q2,h.tok.1.place]
  rw[h.tok.1.place] at q3
  have hd:decide (65535<R.num (R.cur ts st).s)=!decide (R.num (R.cur ts st).s<=65535):=by rw[Bool.eq_iff_iff];simp
  rw[hd]
  have r1:=Res.note (Or.inl ⟨h1,trivial⟩:Res l ts True _ _) (decide (R.num (R.cur ts st).s<=65535)) 4 (R.cur ts st).at_ (fun _ _=>⟨yc (yu h 4) _ _,by omega⟩)
  have r2:=Res.note r1 (!aa.any fun n=>decide (n=R.num (R.cur ts st).s)) 5 (R.cur ts st).at_ (fun _ q=>⟨q.2 5 (by decide),by rw[yI];omega⟩)
  rw[Bool.not_not] at r2
  refine r2.mono (fun _=>⟨rfl,?_⟩)
  rw[yI,yI];omega
 ·right;rw[R.notS_bad (by rw[R.notS_bad d.bad];exact d.bad),R.notS_bad d.bad];exact xJ (xJ d _ _ _) _ _ _
theorem zd1 (l:List UInt8)(p:P.St)(o:List Int):Still p (xU l p o).2:=((uJ _ _).trans (xI _ _ _ _)).trans (xI _ _ _ _)
theorem zlW (l:List UInt8)(p:P.St):Still p (yl l p).2:=(qV _ _ _).trans (kf _ _ _)
theorem zlX (l:List UInt8)(p:P.St):Still p (xq l p).2:=by
 unfold xq;split
 ·exact kf _ _ _
 ·exact ziL _
theorem jy (l:List UInt8)(p:P.St):Still p (zz l p).2:=by
 unfold zz
 refine Still.trans ?_ (xI _ _ _ _)
 refine Still.trans ?_ (qV _ _ _)
 exact((qV _ _ _).trans (vV _ _ _)).trans (jY _ _ _ _)
theorem zgD (l:List UInt8)(n:Int)(a:List UInt8)(m:List P.Mt)(t:List (List UInt8×Int))(c:List UInt8×P.St)(s:List (List UInt8×List UInt8)×P.St):Still s.2 (jq l n a m t c s).2:=
 (jX _ _ _ _ _).trans (qV _ _ _)
theorem jw (l:List UInt8)(n:Int)(a:List UInt8)(m:List P.Mt)(t:List (List UInt8×Int)×P.St):Still t.2 (yq l n a m t).2:=
 ((zlX _ _).trans (vU _ _ _ _)).trans (zgD _ _ _ _ _ _ _)
theorem zgE (l:List UInt8)(a:Int×P.St):Still a.2 (vI l a).2:=
 (((zlW _ _).trans (wi _ _ _ _)).trans (jy _ _)).trans (jw _ _ _ _ _)
theorem zpM {l:List UInt8}{ts:List R.Tok}{st:R.St}{p:P.St}(h:Sim l ts st p)(aa:List Int) :
  Res l ts ((yJ l p aa).1=(R.rlA ts st aa.length aa).1/\p.tok.at_<(yJ l p aa).2.tok.at_) (R.rlA ts st aa.length aa).2 (yJ l p aa).2:=by
 unfold yJ R.rlA
 refine Res.bind (vw h qm hdRule aa.length 6) (fun hb=>by unfold R.rlA2;simp only;rw[R.kindS_bad hb,R.notS_bad hb,R.amongN_bad hb]) (zd1 _ _ _) (fun s1 q1=>?_)
 exact(ziF s1 aa).mono (fun q=>⟨q.1,by have:=q1.1;have:=q.2;omega⟩)
theorem zlR {l:List UInt8}{ts:List R.Tok}{tR:List (List UInt8×Int)×R.St}{tP:List (List UInt8×Int)×P.St}(h:Sim l ts tR.2 tP.2)(n:Int)(a:List UInt8)(mR:List R.Mt)(mP:List P.Mt)(hm:mR=mP.map mtOf)(ht:tR.1=tP.1) :
  Res l ts (RlSim (R.ruleE ts n a mR tR).1 (yq l n a mP tP).1/\tP.2.tok.at_<(yq l n a mP tP).2.tok.at_) (R.ruleE ts n a mR tR).2 (yq l n a mP tP).2:=by
 unfold R.ruleE yq jq R.editsS
 simp only
 obtain⟨_,e2,_⟩:=jI h hdReplace
 have rC:Res l ts ((xq l tP.2).1=(R.rlC ts tR.2).1/\(R.isB tR.2 (R.cur ts tR.2) qR=false->(xq l tP.2).1=[])/\tP.2.tok.at_<=(xq l tP.2).2.tok.at_) (R.rlC ts tR.2).2 (xq l tP.2).2:=by
  unfold xq R.rlC
  rw[e2]
  cases hb:R.isB tR.2 (R.cur ts tR.2) qR
  ·simp only[xO,if_false]
   exact Or.inl ⟨h,(by first | rfl | trivial),(by first | trivial | exact fun _=>rfl),zZ _⟩
  ·simp only[if_true]
   exact(zf1 h qR hdReplace).mono (fun q=>⟨q.1,fun c=>absurd c (by simp),by have:=q.2;omega⟩)
 refine Res.bind rC (fun hb=>by rw[R.stLoop_bad hb,R.dpLoop_bad hb,R.needS_bad hb]) (((vU _ _ _ _).trans (jX _ _ _ _ _)).trans (qV _ _ _)) (fun s1 q1=>?_)
 refine Res.bind (ziK (ts.length+1) (l.length+1) [] s1 (by omega) (by omega)) (fun hb=>by rw[R.dpLoop_bad hb,R.needS_bad hb]) ((jX _ _ _ _ _).trans (qV _ _ _)) (fun s2 q2=>?_)
 rw[q2.1]
 refine Res.bind (zhA ((qP l (l.length+1) (xq l tP.2).2 []).1.map Prod.fst) (ts.length+1) (l.length+1) [] s2 (by omega) (by omega)) (fun hb=>R.needS_bad hb) (qV _ _ _) (fun s3 q3=>?_)
 refine(xj s3 hd125).mono (fun q=>⟨⟨?_,?_⟩,by have:=q1.2.2;have:=q2.2;have:=q3.2;have:=q.1;omega⟩)
 ·unfold rlOf
  simp only
  rw[hm,ht,q1.1,q3.1]
 ·exact q1.2.1
theorem ze8 (ts:List R.Tok)(st:R.St)(e a:Int):R.cur ts { st with E:=e,at_:=a }=R.cur ts st:=rfl
theorem zeR (st:R.St)(t:R.Tok)(r:List UInt8)(e a:Int):R.isB { st with E:=e,at_:=a } t r=R.isB st t r:=rfl
theorem ziE {l:List UInt8}{ts:List R.Tok}{tR:List (List UInt8×Int)×R.St}{tP:List (List UInt8×Int)×P.St}(h:Lost l ts tR.2 tP.2)(n:Int)(a:List UInt8)(mR:List R.Mt)(mP:List P.Mt) :
  Dead (R.ruleE ts n a mR tR).2 (yq l n a mP tP).2:=by
 obtain⟨h,hk⟩:=h
 have aa:∀r,R.isB tR.2 (R.cur ts tR.2) r=false:=by
  intro r;unfold R.isB;rw[hk];simp
 have ab:∀r,headOk r->zu tP.2 r=false:=by
  intro r hr;rw[(jI h hr).2.1,ze8,zeR,aa]
 unfold R.ruleE yq jq R.editsS
 simp only
 have c1:R.rlC ts tR.2=([],tR.2):=by unfold R.rlC;rw[aa];rfl
 have c2:xq l tP.2=([],tP.2):=by unfold xq;rw[ab _ hdReplace];rfl
 rw[c1,c2]
 simp only
 have c3:∀n,R.stLoop ts n tR.2 []=([],tR.2):=by intro n;cases n;rfl;rw[R.stLoop,aa];rfl
 have c4:∀n,qP l n tP.2 []=([],tP.2):=by intro n;cases n;rfl;rw[qP,ab _ hdSet];rfl
 rw[c3,c4]
 simp only
 have c5:∀s n,R.dpLoop ts s n tR.2 []=([],tR.2):=by intro s n;cases n;rfl;rw[R.dpLoop,aa];rfl
 have c6:∀s n,qJ l s n tP.2 []=([],tP.2):=by intro s n;cases n;rfl;rw[qJ,ab _ hdDrop];rfl
 rw[c5,c6]
 simp only
 rcases xj h hd125 with ⟨_,_,c⟩ | d
 ·rw[ze8,zeR,aa] at c;cases c
 ·refine uA d ?_
  exact kH (a:={ tR.2 with E:=tP.2.err,at_:=tP.2.fat }) (b:=tR.2) ⟨rfl,rfl⟩ ts [125]
theorem znZ {l:List UInt8}{ts:List R.Tok}{st:R.St}{p:P.St}(ad:R.Ok ts)(h:Sim l ts st p)(aa:List Int) :
  Res l ts (RlSim (R.ruleS ts st aa.length aa).1 (qp l p aa).1/\p.tok.at_<(qp l p aa).2.tok.at_) (R.ruleS ts st aa.length aa).2 (qp l p aa).2:=by
 unfold R.ruleS qp
 have eT:∀a,R.ruleT ts a=R.ruleE ts a.1 (R.rlB ts a.2).1 (R.matchesS ts (R.rlB ts a.2).2).1 (R.targetsS ts (R.matchesS ts (R.rlB ts a.2).2).2):=fun a=>rfl
 refine Res.bind (zpM h aa) (fun hb=>by
  have:=R.ruleS_bad (ts:=ts) (st:=(R.rlA ts st aa.length aa).2) (i:=0) (l:=[]) hb
  rw[eT]
  have b1:(R.rlB ts (R.rlA ts st aa.length aa).2).2=(R.rlA ts st aa.length aa).2:=R.rlB_bad hb
  have b2:R.matchesS ts (R.rlA ts st aa.length aa).2=([],(R.rlA ts st aa.length aa).2):=R.mtLoop_bad hb
  rw[b1,b2]
  have b3:(R.targetsS ts (R.rlA ts st aa.length aa).2).2=(R.rlA ts st aa.length aa).2:=R.targetsS_bad hb
  unfold R.ruleE
  simp only
  rw[b3,R.rlC_bad hb,R.editsS_bad hb,R.needS_bad hb]) (zgE _ _) (fun s0 q0=>?_)
 rw[eT]
 unfold vI vH
 rw[q0.1]
 generalize(R.rlA ts st aa.length aa).2=sA at*
 generalize(R.rlA ts st aa.length aa).1=num at*
 have hA:=q0.2
 generalize(yJ l p aa).2=pA at*
 have rB:Res l ts ((yl l pA).1=(R.rlB ts sA).1/\pA.tok.at_<(yl l pA).2.tok.at_) (R.rlB ts sA).2 (yl l pA).2:=by
  unfold yl R.rlB
  simp only
  refine Res.bind (xj s0 hd123) (fun hb=>by rw[R.needS_bad hb,R.pathS_bad hb,R.needS_bad hb]) (kf _ _ _) (fun s1 q1=>?_)
  exact(zf1 s1 j3 hdPath).mono (fun q=>⟨q.1,by have:=q1.1;have:=q.2;omega⟩)
 have ab:∀(t:List (List UInt8×Int)×R.St) n a m,0<=t.2.bad->(R.ruleE ts n a m t).2=t.2:=by
  intro t n a m hb
  unfold R.ruleE;simp only
  rw[R.rlC_bad hb,R.editsS_bad hb,R.needS_bad hb]
 refine Res.bind rB (fun hb=>by
  have b2:R.matchesS ts (R.rlB ts sA).2=([],(R.rlB ts sA).2):=R.mtLoop_bad hb
  rw[b2]
  have b3:(R.targetsS ts (R.rlB ts sA).2).2=(R.rlB ts sA).2:=R.targetsS_bad hb
  exact(ab (R.targetsS ts (R.rlB ts sA).2) num (R.rlB ts sA).1 [] (by rw[b3];exact hb)).trans b3) (((wi _ _ _ _).trans (jy _ _)).trans (jw _ _ _ _ _)) (fun s1 q1=>?_)
 rw[q1.1]
 have hB:=q1.2
 generalize(R.rlB ts sA).2=sB at*
 generalize(R.rlB ts sA).1=pth at*
 generalize(yl l pA).2=pB at*
 have rM:=zhM (ts.length+1) (l.length+1) [] [] s1 rfl (by omega) (by omega)
 rw[show R.mtLoop ts (ts.length+1) sB []=R.matchesS ts sB from rfl] at rM
 generalize R.matchesS ts sB=mR at*
 generalize qZ l (l.length+1) pB []=mP at*
 refine Res.bind rM (fun hb=>by
  have b3:(R.targetsS ts mR.2).2=mR.2:=R.targetsS_bad hb
  exact(ab (R.targetsS ts mR.2) num pth mR.1 (by rw[b3];exact hb)).trans b3) ((jy _ _).trans (jw _ _ _ _ _)) (fun s2 q2=>?_)
 rcases zgK ad s2 with hr | hl
 ·generalize R.targetsS ts mR.2=tR at*
  generalize zz l mP.2=tP at*
  refine Res.bind hr (fun hb=>ab tR num pth mR.1 hb) (jw _ _ _ _ _) (fun s3 q3=>?_)
  exact(zlR s3 num pth mR.1 mP.1 q2.1 q3.1.symm).mono (fun q=>⟨q.1,by have:=q2.2;have:=q3.2;have:=q.2;omega⟩)
 ·exact Or.inr (ziE hl num pth mR.1 mP.1)
theorem zc5 {l:List UInt8}{ts:List R.Tok}{st:R.St}{p:P.St}(h:Sim l ts st p)(aa:List (List UInt8)) :
  Res l ts ((qj l p aa).1=(R.hsA2 ts st aa).1/\p.tok.at_<(qj l p aa).2.tok.at_) (R.hsA2 ts st aa).2 (qj l p aa).2:=by
 unfold qj R.hsA2 kl
 simp only
 rw[ze4]
 rcases wk h with ⟨h1,q2,q3⟩ | d
 ·rw[q2,h.tok.1.place]
  rw[h.tok.1.place] at q3
  have r1:=Res.note (Or.inl ⟨h1,trivial⟩:Res l ts True _ _) (R.named (R.cur ts st).s true) 4 (R.cur ts st).at_ (fun _ _=>⟨yc (yu h 4) _ _,by omega⟩)
  have r2:=Res.note r1 (!aa.any fun n=>decide (n=R.lower (R.cur ts st).s)) 5 (R.cur ts st).at_ (fun _ q=>⟨q.2 5 (by decide),by rw[yI];omega⟩)
  rw[Bool.not_not] at r2
  refine r2.mono (fun _=>⟨rfl,?_⟩)
  rw[yI,yI];omega
 ·right;rw[R.notS_bad (by rw[R.notS_bad d.bad];exact d.bad),R.notS_bad d.bad];exact xJ (xJ d _ _ _) _ _ _
theorem tH (l:List UInt8)(p:P.St)(o:List (List UInt8)):Still p (qj l p o).2:=((jF _ _).trans (xI _ _ _ _)).trans (xI _ _ _ _)
theorem t8 {a:List R.Rl}{b:List P.Rl}(h:All2 RlSim a b):a.map R.Rl.number=b.map P.Rl.number:=by
 induction h with
 | nil=>rfl
 | cons h _ ih=>rw[xi,xi,ih,h.1];rfl
theorem vQ (l:List UInt8)(n:Nat)(p:P.St)(aa:List P.Rl):Still p (qf l n p aa).2:=by
 intro hb
 cases n
 ·exact⟨hb,rfl⟩
 ·rw[qf,yG hb];exact⟨hb,rfl⟩
theorem ziD {l:List UInt8}{ts:List R.Tok}(ad:R.Ok ts):∀(n m:Nat) {st:R.St} {p:P.St} (ab:List R.Rl) (aa:List P.Rl),Sim l ts st p->All2 RlSim ab aa->ts.length<n+st.K->l.length<m+p.tok.at_->
  Res l ts (All2 RlSim (R.rlLoop ts n st ab).1 (qf l m p aa).1/\p.tok.at_<=(qf l m p aa).2.tok.at_) (R.rlLoop ts n st ab).2 (qf l m p aa).2:=by
 intro n
 induction n with
 | zero=>intro m st p ab aa h _ hn _;have:=h.tok.2;omega
 | succ n ih=>
  intro m st p ab aa h ha hn hm
  match m,hm with
  | 0,hm=>have:=h.atLe;omega
  | m+1,hm=>
   obtain⟨_,e2,_⟩:=jI h hdRule
   rw[R.rlLoop,qf,e2]
   cases hgo:R.isB st (R.cur ts st) qm
   ·simp only[xO,if_false]
    exact Or.inl ⟨h,ha,zZ _⟩
   ·simp only[if_true]
    have hK:=R.ruleS_K ts st ab.length (ab.map R.Rl.number) hgo
    have hr:=znZ ad h (aa.map P.Rl.number)
    rw[qw,<-ha.len,<-t8 ha] at hr
    rw[<-t8 ha]
    rcases hr with ⟨s1,q1,q2⟩ | d
    ·exact(ih m _ _ s1 (ha.snoc q1) (by omega) (by omega)).mono (fun q=>⟨q.1,by have:=q.2;omega⟩)
    ·right
     rw[R.rlLoop_bad d.bad]
     have hs:=vQ l m _ (aa++[(qp l p (ab.map R.Rl.number)).1]) d.broken
     exact⟨d.bad,hs.1,by rw[hs.2];exact d.place⟩
def HstSim (a:R.Hst)(b:P.Hst):Prop:=a.name=b.name/\All2 RlSim a.rules b.rules
theorem zk6 {a:List R.Hst}{b:List P.Hst}(h:All2 HstSim a b):a.map R.Hst.name=b.map P.Hst.name:=by
 induction h with
 | nil=>rfl
 | cons h _ ih=>rw[xi,xi,ih,h.1]
theorem zmG {l:List UInt8}{ts:List R.Tok}{st:R.St}{p:P.St}(ab:R.Ok ts)(h:Sim l ts st p)(aa:List (List UInt8)) :
  Res l ts (HstSim (R.hostS ts st aa).1 (qv l p aa).1/\p.tok.at_<(qv l p aa).2.tok.at_) (R.hostS ts st aa).2 (qv l p aa).2:=by
 unfold R.hostS qv
 have rA:Res l ts ((jK l p aa).1=(R.hsA ts st aa).1/\p.tok.at_<(jK l p aa).2.tok.at_) (R.hsA ts st aa).2 (jK l p aa).2:=by
  unfold jK R.hsA
  refine Res.bind (vw h R.wHost hdHost aa.length 4) (fun hb=>by unfold R.hsA2;simp only;rw[R.kindS_bad hb,R.notS_bad hb,R.among_bad hb]) (tH _ _ _) (fun s1 q1=>?_)
  exact(zc5 s1 aa).mono (fun q=>⟨q.1,by have:=q1.1;have:=q.2;omega⟩)
 refine Res.bind rA (fun hb=>R.hsB_bad hb) (((qV _ _ _).trans (vQ _ _ _ _)).trans (qV _ _ _)) (fun s1 q1=>?_)
 unfold R.hsB zdD
 simp only
 refine Res.bind (xj s1 hd123) (fun hb=>by rw[R.rlLoop_bad hb,R.needS_bad hb]) ((vQ _ _ _ _).trans (qV _ _ _)) (fun s2 q2=>?_)
 refine Res.bind (ziD ab (ts.length+1) (l.length+1) [] [] s2 .nil (by omega) (by omega)) (fun hb=>R.needS_bad hb) (qV _ _ _) (fun s3 q3=>?_)
 exact(xj s3 hd125).mono (fun q=>⟨⟨q1.1.symm,q3.1⟩,by have:=q1.2;have:=q2.1;have:=q3.2;have:=q.1;omega⟩)
theorem zqC {l:List UInt8}{ts:List R.Tok}(ai:R.Ok ts):∀(n m:Nat) {st:R.St} {p:P.St} (aa:List R.Hst) (ab:List P.Hst),Sim l ts st p->All2 HstSim aa ab->ts.length+1<n+st.K->l.length<m+p.tok.at_->
  ((R.hsLoop ts n st aa).2.bad<0/\(yY l (qG l m p ab).2).broken=false/\(yY l (qG l m p ab).2).err=(R.hsLoop ts n st aa).2.E/\((R.hsLoop ts n st aa).2.E≠0->(yY l (qG l m p ab).2).fat=(R.hsLoop ts n st aa).2.at_)/\All2 HstSim (R.hsLoop ts n st aa).1 (qG l m p ab).1)\/
  Dead (R.hsLoop ts n st aa).2 (yY l (qG l m p ab).2):=by
 intro n
 induction n with
 | zero=>intro m st p aa ab h _ hn _;have:=h.tok.2;omega
 | succ n ih=>
  intro m st p aa ab h ha hn hm
  match m,hm with
  | 0,hm=>have:=h.atLe;omega
  | m+1,hm=>
   obtain⟨_,e2,_⟩:=jI h hdHost
   rw[qG,e2,R.hsLoop]
   by_cases h0:(R.cur ts st).k=0
   · -- the end
    rw[if_neg (fun c=>c.2 h0)]
    have hb:R.isB st (R.cur ts st) R.wHost=false:=by unfold R.isB;rw[h0];simp
    rw[hb]
    simp only[xO,if_false]
    left
    have hk:p.tok.k=0:=by
     cases h.tok.1 with
     | fin _ k j=>exact j
     | word _ k j=>omega
     | num _ k j=>omega
     | str _ k j=>omega
     | sign _ k j=>omega
     | wrong _ k j=>omega
    have he:yY l p=vG l p (p.tok.at_+p.tok.raw.length):=by
     unfold yY zy;rw[hk,if_pos ⟨rfl,h.nk⟩]
    rw[he]
    exact⟨h.nb,h.nk,h.err,h.fat,ha⟩
   ·rw[if_pos ⟨h.nb,h0⟩]
    cases hgo:R.isB st (R.cur ts st) R.wHost
    · -- no host
     simp only[xO,if_false]
     right
     have ag:(R.needS ts st R.wHost).bad=(R.cur ts st).at_:=R.needS_no h.nb hgo
     have ae:0<=(R.needS ts st R.wHost).bad:=by rw[ag];exact Int.natCast_nonneg _
     have hh:(R.hostS ts st (aa.map R.Hst.name)).2=R.needS ts st R.wHost:=by
      unfold R.hostS
      have:=R.hsA_bad (ts:=ts) (st:=st) (l:=aa.map R.Hst.name) ae
      rw[R.hsB_bad (by rw[this];exact ae),this]
     have af:∀k ad,(R.hsLoop ts k (R.needS ts st R.wHost) ad).2=R.needS ts st R.wHost:=by
      intro k ad;cases k
      ·rfl
      ·rw[R.hsLoop,if_neg (fun c=>by have:=c.1;omega)]
     rw[hh,af]
     have hk:¬p.tok.k=0:=by
      cases h.tok.1 with
      | fin _ k j=>exact absurd k h0
      | word _ k j=>omega
      | num _ k j=>omega
      | str _ k j=>omega
      | sign _ k j=>omega
      | wrong _ k j=>omega
     have he:yY l p={ p with broken:=true }:=by
      unfold yY zy;rw[if_neg (fun c=>hk (by simpa using c.1))]
     rw[he]
     exact⟨ae,rfl,by rw[ag];show(p.tok.at_:Int)=_;rw[h.tok.1.place]⟩
    ·simp only[if_true]
     have hr:=zmG ai h (ab.map P.Hst.name)
     rw[<-zk6 ha] at hr ⊢
     rcases hr with ⟨s1,q1,q2⟩ | d
     ·have hg:=R.hostS_go ts st (aa.map R.Hst.name) h.nb s1.nb
      exact ih m _ _ s1 (ha.snoc q1) (by omega) (by omega)
     ·right
      have af:∀k ad,(R.hsLoop ts k (R.hostS ts st (aa.map R.Hst.name)).2 ad).2=(R.hostS ts st (aa.map R.Hst.name)).2:=by
       intro k ad;cases k
       ·rfl
       ·rw[R.hsLoop,if_neg (fun c=>by have:=c.1;have:=d.bad;omega)]
      have ah:∀k ad,(qG l k (qv l p (aa.map R.Hst.name)).2 ad).2=(qv l p (aa.map R.Hst.name)).2:=by
       intro k ad;cases k
       ·rfl
       ·rw[qG,yG d.broken];rfl
      rw[af,ah]
      have hs:=vP l (qv l p (aa.map R.Hst.name)).2 ((qv l p (aa.map R.Hst.name)).2.tok.k == 0) d.broken
      exact⟨d.bad,hs.1,by rw[show(yY l (qv l p (aa.map R.Hst.name)).2).tok=(qv l p (aa.map R.Hst.name)).2.tok from hs.2];exact d.place⟩
theorem zg6 (l:List UInt8)(hl:l.length<=3000) :
  ((R.readS l).2.bad<0/\(ze l).2.broken=false/\(ze l).2.err=(R.readS l).2.E/\((R.readS l).2.E≠0->(ze l).2.fat=(R.readS l).2.at_)/\All2 HstSim (R.readS l).1 (ze l).1)\/Dead (R.readS l).2 (ze l).2:=by
 obtain⟨aa,ab⟩:=R.toks_ok l hl
 unfold R.readS ze
 simp only
 refine zqC aa ((R.toks l).length+2) (l.length+1) [] [] ⟨by show(-1:Int)<0;decide,rfl,⟨l.length+1,0,by omega,by omega,rfl,rfl⟩,rfl,fun h=>absurd rfl h,fun h=>absurd rfl h⟩ .nil (by omega) (by omega)
end Go.Proofs.YtfocdefchbnkpaaGreatDoor
