/- The two readers agree, part EqB. -/
import Derived.Test.YtfocdefchbnkpaaGreatDoorAli
import Derived.Test.YtfocdefchbnkpaaGreatDoorEqA
import Derived.Test.YtfocdefchbnkpaaGreatDoorRefM
import Derived.Test.YtfocdefchbnkpaaGreatDoorRefN
import Derived.Test.YtfocdefchbnkpaaGreatDoorProR
import Derived.Test.YtfocdefchbnkpaaGreatDoorProP
set_option maxRecDepth 100000
set_option maxHeartbeats 20000000
namespace Go.Proofs.YtfocdefchbnkpaaGreatDoor
open Go.RowKit
structure Sim (l:List UInt8) (ts:List R.Tok) (st:R.St) (p:P.St):Prop where
 nb:st.bad<0
 nk:p.broken=false
 link:∃m q,l.length+1 - q<=m/\q<=l.length/\ts.drop st.K=R.toksGo m l q/\p.tok=zp l q
 err:p.err=st.E
 fat:st.E≠0->p.fat=st.at_
 past:st.E≠0->st.at_<p.tok.at_
structure Dead (st:R.St) (p:P.St):Prop where
 bad:0<=st.bad
 broken:p.broken=true
 place:(p.tok.at_:Int)=st.bad
def Res (l:List UInt8)(ts:List R.Tok)(Q:Prop)(st:R.St)(p:P.St):Prop:=(Sim l ts st p/\Q)\/Dead st p
theorem Res.bind {l:List UInt8}{ts:List R.Tok}{Q Q':Prop}{st aa:R.St}{p p':P.St}(h:Res l ts Q st p)(hd:0<=st.bad->aa=st)(hp:p.broken=true->p'.broken=true/\p'.tok=p.tok)
  (hs:Sim l ts st p->Q->Res l ts Q' aa p'):Res l ts Q' aa p':=by
 rcases h with ⟨h,q⟩ | h
 ·exact hs h q
 ·right
  obtain⟨h1,h2⟩:=hp h.broken
  rw[hd h.bad]
  exact⟨h.bad,h1,by rw[h2];exact h.place⟩
theorem Res.mono {l:List UInt8}{ts:List R.Tok}{Q Q':Prop}{st:R.St}{p:P.St}(h:Res l ts Q st p)(hq:Q->Q'):Res l ts Q' st p:=by
 rcases h with ⟨h,q⟩ | h
 ·exact Or.inl ⟨h,hq q⟩
 ·exact Or.inr h
theorem kY (t:R.Tok)(st:R.St)(b:Bool):(R.overS t st b).E=st.E:=by unfold R.overS;split;rfl;split <;> rfl
theorem k8 (t:R.Tok)(st:R.St)(b:Bool):(R.overS t st b).at_=st.at_:=by unfold R.overS;split;rfl;split <;> rfl
theorem Sim.tok {l:List UInt8}{ts:List R.Tok}{st:R.St}{p:P.St}(h:Sim l ts st p):TokSim (R.cur ts st) p.tok/\st.K<ts.length:=by
 obtain⟨m,q,h1,h2,h3,h4⟩:=h.link
 obtain⟨t,r,h5,h6,_⟩:=zm6 m q h1 h2
 rw[h5] at h3
 have hK:st.K<ts.length:=by
  apply Classical.byContradiction;intro hn
  rw[List.drop_of_length_le (by omega)] at h3;cases h3
 have hc:R.cur ts st=t:=by
  unfold R.cur
  rw[List.getD_eq_getElem?_getD,xo hK]
  rw[List.drop_eq_getElem_cons hK] at h3
  exact(List.cons.inj h3).1
 rw[hc,h4];exact⟨h6,hK⟩
theorem zc5 {l:List UInt8}{ts:List R.Tok}{st:R.St}{p:P.St}(h:Sim l ts st p)(b:Bool)(hk:b=true->(R.cur ts st).k≠0/\(R.cur ts st).k≠120) :
  (b=true/\Sim l ts (R.overS (R.cur ts st) st b) (qg l p b)/\p.tok.at_<(qg l p b).tok.at_/\p.tok.at_+p.tok.raw.length<=(qg l p b).tok.at_)\/(b=false/\Dead (R.overS (R.cur ts st) st b) (qg l p b)):=by
 have ht:=h.tok
 obtain⟨m,q,h1,h2,h3,h4⟩:=h.link
 obtain⟨t,r,h5,h6,h7⟩:=zm6 m q h1 h2
 have hc:R.cur ts st=t:=by
  unfold R.cur
  rw[List.getD_eq_getElem?_getD,xo ht.2]
  rw[h5,List.drop_eq_getElem_cons ht.2] at h3
  exact(List.cons.inj h3).1
 unfold R.overS qg
 rw[if_neg (by have:=h.nb;omega)]
 cases b
 ·right
  rw[if_neg (by simp),if_neg (by simp)]
  have:=h6.place
  exact⟨rfl,⟨by rw[hc];exact Int.natCast_nonneg _,rfl,by rw[hc,h4,this]⟩⟩
 ·left
  rw[if_pos rfl,if_pos ⟨rfl,h.nk⟩]
  have aa:=hk rfl
  rw[hc] at aa
  rcases h7 with ⟨h7,_⟩ | ⟨_,m',h8,h9,h10⟩
  ·exact absurd h7 (by intro h;rcases h with h | h;exact aa.1 h;exact aa.2 h)
  have ab:p.tok.at_+p.tok.raw.length=t.at_+(zp l q).raw.length:=by rw[h4,h6.place]
  have af:1<=(zp l q).raw.length:=by
   cases h6 with
   | fin h k=>exact absurd k aa.1
   | word h k j r c cs e=>rw[r,e];simp
   | num h k j r c cs e=>rw[r,e];simp
   | str h k j r=>rw[r];simp
   | sign h k j r c e=>rw[r,e];simp
   | wrong h k=>exact absurd k aa.2
  have ad:p.tok.at_+p.tok.raw.length<=(zp l (p.tok.at_+p.tok.raw.length)).at_:=by
   unfold zp qI;simp only;omega
  have ae:p.tok.at_<(zp l (p.tok.at_+p.tok.raw.length)).at_:=by
   have:1<=p.tok.raw.length:=by rw[h4];exact af
   omega
  refine⟨rfl,⟨h.nb,h.nk,⟨m',p.tok.at_+p.tok.raw.length,by rw[ab];exact h8,by rw[ab];exact h9,?_,rfl⟩,h.err,h.fat,?_⟩,ae,ad⟩
  ·rw[ab,<-h10]
   rw[h5,List.drop_eq_getElem_cons ht.2] at h3
   exact(List.cons.inj h3).2
  ·intro hE
   have ag:=h.past hE
   have:(uO l p (p.tok.at_+p.tok.raw.length)).tok.at_=(zp l (p.tok.at_+p.tok.raw.length)).at_:=rfl
   rw[this]
   show st.at_<_
   omega
def headOk (r:List UInt8):Prop:=∃c cs,r=c :: cs/\R.digitI c.toNat=false/\c≠34
theorem kE {l:List UInt8}{ts:List R.Tok}{st:R.St}{p:P.St}(h:Sim l ts st p){r:List UInt8}(hr:headOk r):R.isB st (R.cur ts st) r=decide (p.tok.raw=r)/\qX p r=R.isB st (R.cur ts st) r/\(R.isB st (R.cur ts st) r=true->(R.cur ts st).k≠0/\(R.cur ts st).k≠120):=by
 have e:R.isB st (R.cur ts st) r=decide (p.tok.raw=r):=by
  obtain⟨c,cs,rfl,hd,aa⟩:=hr
  unfold R.isB
  rw[decide_eq_true h.nb]
  cases h.tok.1 with
  | fin _ k j r=>rw[k,r];simp
  | word _ k j r=>rw[k,r];simp
  | num _ k j r c' cs' e hc=>
   rw[k,r,e]
   have:¬(c' :: cs'=c :: cs):=by intro h;rw[(List.cons.inj h).1,hd] at hc;cases hc
   rw[decide_eq_false this];rfl
  | str _ k j r=>
   rw[k,r]
   have:¬(34 :: (R.cur ts st).s++[34]=c :: cs):=by intro h;exact aa (List.cons.inj h).1.symm
   rw[decide_eq_false this];rfl
  | sign _ k j r=>rw[k,r];simp
  | wrong _ k j r=>rw[k,r];simp
 refine⟨e,?_,?_⟩
 ·rw[e];unfold qX;rw[h.nk];simp
 ·intro hi
  unfold R.isB at hi
  simp only[Bool.and_eq_true,Bool.or_eq_true,beq_iff_eq] at hi
  omega
theorem yo {l:List UInt8}{ts:List R.Tok}{st:R.St}{p:P.St}(h:Sim l ts st p){r:List UInt8}(hr:headOk r) :
  Res l ts (p.tok.at_<(zX l p r).tok.at_/\R.isB st (R.cur ts st) r=true) (R.needS ts st r) (zX l p r):=by
 obtain⟨h1,h2,h3⟩:=kE h hr
 unfold R.needS zX
 rw[<-h1]
 rcases zc5 h (R.isB st (R.cur ts st) r) h3 with ⟨e,s,lt,_⟩ | ⟨_,d⟩
 ·exact Or.inl ⟨s,lt,e⟩
 ·exact Or.inr d
def Still (p p':P.St):Prop:=p.broken=true->p'.broken=true/\p'.tok=p.tok
theorem Still.trans {a b c:P.St}(h:Still a b)(k:Still b c):Still a c:=fun x=>⟨(k (h x).1).1,(k (h x).1).2.trans (h x).2⟩
theorem zkO (p:P.St):Still p p:=fun h=>⟨h,rfl⟩
theorem uI (l:List UInt8)(p:P.St)(b:Bool):Still p (qg l p b):=fun h=>by unfold qg;rw[if_neg (by rw[h];simp)];exact⟨rfl,rfl⟩
theorem xD (l:List UInt8)(p:P.St)(r:List UInt8):Still p (zX l p r):=uI _ _ _
theorem kC (l:List UInt8)(p:P.St):Still p (qG l p).2:=uI _ _ _
theorem zaT (l:List UInt8)(p:P.St):Still p (xB l p).2:=uI _ _ _
theorem zjS (p:P.St)(e a:Int):(xZ p e a).tok=p.tok/\(xZ p e a).broken=p.broken:=by unfold xZ;split <;> exact⟨rfl,rfl⟩
theorem qk (p:P.St)(b:Bool)(e a:Int):(zt p b e a).tok=p.tok/\(zt p b e a).broken=p.broken:=by
 unfold zt;split
 ·exact zjS _ _ _
 ·exact⟨rfl,rfl⟩
theorem jP (p:P.St)(b:Bool)(e a:Int):(zt p b e a).tok=p.tok:=(qk p b e a).1
theorem yC (p:P.St)(b:Bool)(e a:Int):Still p (zt p b e a):=fun h=>⟨by rw[(qk p b e a).2];exact h,(qk p b e a).1⟩
theorem zoA (p:P.St)(a b:Int):Still p (qE p a b):=yC _ _ _ _
theorem jI {p:P.St}{r:List UInt8}(h:p.broken=true):qX p r=false:=by unfold qX;rw[h];rfl
theorem th (l:List UInt8)(p:P.St)(b c:Bool)(e a:Int):qg l (zt p c e a) b=zt (qg l p b) c e a:=by
 unfold qg
 rw[(qk p c e a).1,(qk p c e a).2]
 unfold zt
 cases c
 ·rfl
 ·simp only[if_true]
  by_cases h:b=true/\p.broken=false
  ·rw[if_pos h,if_pos h]
   unfold xZ uO
   simp only
   split <;> rfl
  ·rw[if_neg h,if_neg h]
   unfold xZ
   simp only
   split <;> rfl
theorem zmY (l:List UInt8)(p:P.St)(r:List UInt8)(c:Bool)(e a:Int):zX l (zt p c e a) r=zt (zX l p r) c e a:=by
 unfold zX;rw[(qk p c e a).1,th]
theorem zq8 (l:List UInt8)(p:P.St)(c:Bool)(e a:Int):qG l (zt p c e a)=((qG l p).1,zt (qG l p).2 c e a):=by
 unfold qG;rw[(qk p c e a).1,th,(qk _ c e a).2]
def Noted (st:R.St)(a e:Int):Prop:=st.E≠0->st.at_<a\/(st.at_=a/\st.E<=e)
theorem zpD {l:List UInt8}{ts:List R.Tok}{st:R.St}{p:P.St}(h:Sim l ts st p)(ok:Bool)(e a:Int)(hn:Noted st a e)(ha:a<p.tok.at_) :
  Sim l ts (R.notS st ok e a) (zt p (!ok) e a)/\∀e',e<=e'->Noted (R.notS st ok e a) a e':=by
 unfold R.notS zt
 cases ok
 ·simp only[Bool.not_false,if_true]
  unfold xZ
  rw[h.err]
  by_cases hE:st.E=0
  ·rw[if_pos ⟨trivial,hE,h.nb⟩,if_pos (Or.inl hE)]
   exact⟨⟨h.nb,h.nk,h.link,rfl,fun _=>rfl,fun _=>ha⟩,fun e' he' _=>Or.inr ⟨rfl,he'⟩⟩
  ·rw[if_neg (fun c=>hE c.2.1),h.fat hE,if_neg (by rcases hn hE with c | c <;> (intro d;rcases d with d | d | d <;> omega))]
   exact⟨h,fun e' he' hE'=>by rcases hn hE' with c | c;exact Or.inl c;exact Or.inr ⟨c.1,by omega⟩⟩
 ·simp only[Bool.not_true,if_false,zb2]
  rw[if_neg (by simp)]
  exact⟨h,fun e' he' hE'=>by rcases hn hE' with c | c;exact Or.inl c;exact Or.inr ⟨c.1,by omega⟩⟩
theorem jn {st:R.St}{a e:Int}(h:Noted st a e)(t:R.Tok)(b:Bool):Noted (R.overS t st b) a e:=by
 unfold Noted;rw[kY,k8];exact h
theorem vP {l:List UInt8}{ts:List R.Tok}{st:R.St}{p:P.St}(h:Sim l ts st p)(e:Int):Noted st (R.cur ts st).at_ e:=by
 intro hE;left;have:=h.past hE;rw[h.tok.1.place] at this;exact this
theorem tL {l:List UInt8}{ts:List R.Tok}{st:R.St}{p:P.St}(h:Sim l ts st p) :
  Res l ts ((qG l p).1=(R.cur ts st).s/\p.tok.at_<(qG l p).2.tok.at_) (R.kindS ts st 34) (qG l p).2:=by
 have ht:=h.tok.1
 have hb:(p.tok.k == 3)=((R.cur ts st).k == 34):=by
  cases ht with
  | fin _ k j=>rw[k,j];rfl
  | word _ k j=>rw[k,j];rfl
  | num _ k j=>rw[k,j];rfl
  | str _ k j=>rw[k,j];rfl
  | sign _ k j=>rw[k,j];rfl
  | wrong _ k j=>rw[k,j];rfl
 unfold qG R.kindS
 rw[hb]
 rcases zc5 h ((R.cur ts st).k == 34) (fun e=>by rw[beq_iff_eq] at e;omega) with ⟨e,s,lt,_⟩ | ⟨_,d⟩
 ·left
  refine⟨s,?_,lt⟩
  rw[if_neg (by rw[s.nk];simp)]
  rw[beq_iff_eq] at e
  cases ht with
  | fin _ k j=>omega
  | word _ k j=>omega
  | num _ k j=>omega
  | sign _ k j=>omega
  | wrong _ k j=>omega
  | str _ k j r=>rw[r];simp
 ·exact Or.inr d
theorem zmB {l:List UInt8}{ts:List R.Tok}{st:R.St}{p:P.St}(h:Sim l ts st p) :
  Res l ts ((xB l p).1=R.num (R.cur ts st).s/\p.tok.at_<(xB l p).2.tok.at_/\(R.cur ts st).k=49) (R.kindS ts st 49) (xB l p).2:=by
 have ht:=h.tok.1
 have hb:(p.tok.k == 2)=((R.cur ts st).k == 49):=by
  cases ht with
  | fin _ k j=>rw[k,j];rfl
  | word _ k j=>rw[k,j];rfl
  | num _ k j=>rw[k,j];rfl
  | str _ k j=>rw[k,j];rfl
  | sign _ k j=>rw[k,j];rfl
  | wrong _ k j=>rw[k,j];rfl
 unfold xB R.kindS
 rw[hb]
 rcases zc5 h ((R.cur ts st).k == 49) (fun e=>by rw[beq_iff_eq] at e;omega) with ⟨e,s,lt,_⟩ | ⟨_,d⟩
 ·left
  rw[beq_iff_eq] at e
  refine⟨s,?_,lt,e⟩
  rw[if_neg (by rw[s.nk];simp)]
  cases ht with
  | fin _ k j=>omega
  | word _ k j=>omega
  | str _ k j=>omega
  | sign _ k j=>omega
  | wrong _ k j=>omega
  | num _ k j r=>rw[r]
 ·exact Or.inr d
theorem yI {st:R.St}{p:P.St}(h:Dead st p)(b:Bool)(e a:Int):Dead st (zt p b e a):=
 ⟨h.bad,by rw[(qk p b e a).2];exact h.broken,by rw[(qk p b e a).1];exact h.place⟩
theorem Res.note {l:List UInt8}{ts:List R.Tok}{Q:Prop}{st:R.St}{p:P.St}(h:Res l ts Q st p)(ok:Bool)(e:Int)(a:Int)(hn:Sim l ts st p->Q->Noted st a e/\a<p.tok.at_) :
  Res l ts (Q/\∀e',e<=e'->Noted (R.notS st ok e a) a e') (R.notS st ok e a) (zt p (!ok) e a):=by
 rcases h with ⟨h,q⟩ | h
 ·obtain⟨h1,h2⟩:=hn h q
  obtain⟨h3,h4⟩:=zpD h ok e a h1 h2
  exact Or.inl ⟨h3,q,h4⟩
 ·right;rw[R.notS_bad h.bad];exact yI h _ _ _
theorem zoV {l:List UInt8}{ts:List R.Tok}{st:R.St}{p:P.St}(h:Sim l ts st p) :
  Res l ts ((qG l p).1=(R.pathS ts st).1/\p.tok.at_<(qG l p).2.tok.at_) (R.pathS ts st).2 (zt (qG l p).2 (!R.path (qG l p).1) 4 p.tok.at_):=by
 have h1:=tL h
 unfold R.pathS
 simp only
 rcases h1 with ⟨h1,q1,q2⟩ | d
 ·rw[q1,h.tok.1.place]
  rw[h.tok.1.place] at q2
  have:=Res.note (Or.inl ⟨h1,trivial⟩:Res l ts True _ _) (R.path (R.cur ts st).s) 4 (R.cur ts st).at_ (fun _ _=>⟨jn (vP h 4) _ _,by omega⟩)
  exact this.mono (fun _=>⟨rfl,by omega⟩)
 ·right;rw[R.notS_bad d.bad];exact yI d _ _ _
theorem jQ {c:UInt8}{cs:List UInt8}(h1:R.digitI c.toNat=false)(h2:c≠34):headOk (c :: cs):=⟨c,cs,rfl,h1,h2⟩
theorem ziT {l:List UInt8}{ts:List R.Tok}{st:R.St}{p:P.St}(h:Sim l ts st p)(w:List UInt8)(hw:headOk w) :
  Res l ts ((yJ l p w).1=(R.pathS ts (R.needS ts st w)).1/\p.tok.at_<(yJ l p w).2.tok.at_) (R.needS ts (R.pathS ts (R.needS ts st w)).2 [59]) (yJ l p w).2:=by
 have h1:=yo h hw
 unfold yJ
 simp only
 refine Res.bind h1 (fun hb=>by rw[R.pathS_bad hb,R.needS_bad hb]) (((kC _ _).trans (yC _ _ _ _)).trans (xD _ _ _)) (fun s1 q1=>?_)
 refine Res.bind (zoV s1) (fun hb=>R.needS_bad hb) (xD _ _ _) (fun s2 q2=>?_)
 refine(yo s2 (jQ rfl (by decide))).mono (fun q3=>⟨q2.1,?_⟩)
 have e:=(qk (qG l (zX l p w)).2 (!R.path (qG l (zX l p w)).1) 4 (zX l p w).tok.at_).1
 have a:=q3.1
 rw[e] at a
 omega
theorem fc (l:List UInt8)(p:P.St)(w:List UInt8):Still p (yJ l p w).2:=
 (((xD _ _ _).trans (kC _ _)).trans (yC _ _ _ _)).trans (xD _ _ _)
theorem zeT {l:List UInt8}{ts:List R.Tok}{st:R.St}{p:P.St}(h:Sim l ts st p) :
  Res l ts ((xQ l p).1=(R.valueS ts st).1/\p.tok.at_<(xQ l p).2.tok.at_) (R.valueS ts st).2 (xQ l p).2:=by
 unfold xQ R.valueS
 simp only
 refine Res.bind (yo h (r:=[61]) (jQ rfl (by decide))) (fun hb=>by rw[R.kindS_bad hb,R.notS_bad hb]) ((kC _ _).trans (yC _ _ _ _)) (fun s1 q1=>?_)
 rcases tL s1 with ⟨h1,q2,q3⟩ | d
 ·rw[q2,s1.tok.1.place]
  rw[s1.tok.1.place] at q3
  have:=Res.note (Or.inl ⟨h1,trivial⟩:Res l ts True _ _) (R.value (R.cur ts (R.needS ts st [61])).s) 4 (R.cur ts (R.needS ts st [61])).at_ (fun _ _=>⟨jn (vP s1 4) _ _,by omega⟩)
  refine this.mono (fun _=>⟨rfl,?_⟩)
  rw[(qk _ _ _ _).1]
  have:=q1.1;rw[s1.tok.1.place] at this;omega
 ·right;rw[R.notS_bad d.bad];exact yI d _ _ _
theorem zhF (l:List UInt8)(p:P.St):Still p (xQ l p).2:=((xD _ _ _).trans (kC _ _)).trans (yC _ _ _ _)
theorem ziX {l:List (List UInt8)}{s:List UInt8}{a:Int}:∀{st:R.St},R.among l s a st=R.notS st (!l.any fun n=>decide (n=s)) 5 a:=by
 unfold R.among
 induction l with
 | nil=>intro st;simp[R.notS]
 | cons x l ih=>
  intro st
  rw[List.foldl_cons,ih,List.any_cons]
  by_cases h:x=s
  ·subst h
   rw[show decide (x≠x)=false by simp,show decide (x=x)=true by simp,Bool.true_or,Bool.not_true]
   by_cases h1:st.E=0/\st.bad<0
   ·have h2:R.notS st false 5 a={ st with E:=5,at_:=a }:=by unfold R.notS;rw[if_pos ⟨rfl,h1.1,h1.2⟩]
    rw[h2];unfold R.notS;rw[if_neg (fun c=>absurd c.2.1 (by simp))]
   ·have h2:R.notS st false 5 a=st:=by unfold R.notS;rw[if_neg (fun c=>h1 c.2)]
    rw[h2];unfold R.notS;rw[if_neg (fun c=>h1 c.2)]
  ·rw[show decide (x≠s)=true by simpa using h,show decide (x=s)=false by simpa using h,Bool.false_or]
   have:R.notS st true 5 a=st:=by unfold R.notS;rw[if_neg (by simp)]
   rw[this]
theorem znW {l:List Int}{s:Int}{a:Int}:∀{st:R.St},R.amongN l s a st=R.notS st (!l.any fun n=>decide (n=s)) 5 a:=by
 unfold R.amongN
 induction l with
 | nil=>intro st;simp[R.notS]
 | cons x l ih=>
  intro st
  rw[List.foldl_cons,ih,List.any_cons]
  by_cases h:x=s
  ·subst h
   rw[show decide (x=x)=true by simp,Bool.true_or,Bool.not_true]
   by_cases h1:st.E=0/\st.bad<0
   ·have h2:R.notS st false 5 a={ st with E:=5,at_:=a }:=by unfold R.notS;rw[if_pos ⟨rfl,h1.1,h1.2⟩]
    rw[h2];unfold R.notS;rw[if_neg (fun c=>absurd c.2.1 (by simp))]
   ·have h2:R.notS st false 5 a=st:=by unfold R.notS;rw[if_neg (fun c=>h1 c.2)]
    rw[h2];unfold R.notS;rw[if_neg (fun c=>h1 c.2)]
  ·rw[show decide (x=s)=false by simpa using h,Bool.false_or,Bool.not_false]
   have:R.notS st true 5 a=st:=by unfold R.notS;rw[if_neg (by simp)]
   rw[this]
theorem fY {l:List UInt8}{ts:List R.Tok}{st:R.St}{p:P.St}(h:Sim l ts st p)(am:List (List UInt8)) :
  Res l ts ((x3 l p am).1=(R.headerS ts st am).1/\p.tok.at_<(x3 l p am).2.tok.at_) (R.headerS ts st am).2 (x3 l p am).2:=by
 unfold x3 qj R.headerS
 simp only
 rw[ziX]
 rcases tL h with ⟨h1,q2,q3⟩ | d
 ·rw[q2,h.tok.1.place]
  rw[h.tok.1.place] at q3
  have r1:=Res.note (Or.inl ⟨h1,trivial⟩:Res l ts True _ _) (R.header (R.cur ts st).s true) 4 (R.cur ts st).at_ (fun _ _=>⟨jn (vP h 4) _ _,by omega⟩)
  have r2:=Res.note r1 (!am.any fun n=>decide (n=R.lower (R.cur ts st).s)) 5 (R.cur ts st).at_ (fun _ q=>⟨q.2 5 (by decide),by rw[(qk _ _ _ _).1];omega⟩)
  rw[Bool.not_not] at r2
  refine r2.mono (fun _=>⟨rfl,?_⟩)
  rw[(qk _ _ _ _).1,(qk _ _ _ _).1];omega
 ·right;rw[R.notS_bad (by rw[R.notS_bad d.bad];exact d.bad),R.notS_bad d.bad];exact yI (yI d _ _ _) _ _ _
theorem tJ (l:List UInt8)(p:P.St):Still p (qj l p).2:=(kC _ _).trans (yC _ _ _ _)
theorem tG (l:List UInt8)(p:P.St)(am:List (List UInt8)):Still p (x3 l p am).2:=(tJ _ _).trans (yC _ _ _ _)
theorem zkN (l:List UInt8)(p:P.St):x3 l p []=qj l p:=by unfold x3;simp[zt]
theorem uh {l:List UInt8}{ts:List R.Tok}{st:R.St}{p:P.St}(h:Sim l ts st p)(r:List UInt8)(hr:headOk r)(n:Nat)(m:Int) :
  Res l ts (p.tok.at_<(zX l (qE p n m) r).tok.at_/\R.isB st (R.cur ts st) r=true) (R.notS (R.needS ts st r) (decide ((n:Int)<m)) 3 (R.cur ts st).at_) (zX l (qE p n m) r):=by
 unfold qE
 rw[zmY]
 have hd:decide (m<=(n:Int))=!decide ((n:Int)<m):=by
  rw[Bool.eq_iff_iff];simp
 rw[hd,h.tok.1.place]
 have r1:=yo h hr
 rw[h.tok.1.place] at r1
 have r2:=Res.note r1 (decide ((n:Int)<m)) 3 (R.cur ts st).at_ (fun _ q=>⟨jn (vP h 3) _ _,by omega⟩)
 refine r2.mono (fun q=>⟨?_,q.1.2⟩)
 rw[(qk _ _ _ _).1];exact q.1.1
theorem hd59:headOk [59]:=jQ rfl (by decide)
theorem hd61:headOk [61]:=jQ rfl (by decide)
theorem hd44:headOk [44]:=jQ rfl (by decide)
theorem hd123:headOk [123]:=jQ rfl (by decide)
theorem hd125:headOk [125]:=jQ rfl (by decide)
theorem hdHeader:headOk qd:=jQ rfl (by decide)
theorem hdSet:headOk xf:=jQ rfl (by decide)
theorem hdDrop:headOk x7:=jQ rfl (by decide)
theorem hdRule:headOk xH:=jQ rfl (by decide)
theorem hdPath:headOk jC:=jQ rfl (by decide)
theorem hdReplace:headOk qW:=jQ rfl (by decide)
theorem hdHost:headOk R.wHost:=jQ rfl (by decide)
theorem hdTo:headOk kL:=jQ rfl (by decide)
def mtOf (m:P.Mt):R.Mt:=⟨m.name,m.val,m.ask⟩
theorem zoN {l:List UInt8}{ts:List R.Tok}{st:R.St}{p:P.St}(h:Sim l ts st p)(aa:List R.Mt)(n:Nat)(hn:aa.length=n) :
  Res l ts ((ya ts st aa).2=aa++[mtOf (x8 l p n).1]/\p.tok.at_<(x8 l p n).2.tok.at_) (ya ts st aa).1 (x8 l p n).2:=by
 subst hn
 unfold x8 ya
 simp only
 have r0:Res l ts ((jH l p aa.length).1=(jK ts st aa.length).1/\p.tok.at_<(jH l p aa.length).2.tok.at_) (jK ts st aa.length).2 (jH l p aa.length).2:=by
  unfold jH jK
  have r1:=uh h qd hdHeader aa.length 3
  refine Res.bind r1 (fun hb=>R.headerS_bad hb) (tJ _ _) (fun s1 q1=>?_)
  have r2:=fY s1 []
  rw[zkN] at r2
  exact r2.mono (fun q=>⟨q.1,by have:=q1.1;have:=q.2;omega⟩)
 refine Res.bind r0 (fun hb=>by unfold wK;rw[R.isB_bad hb,if_neg (by simp),R.needS_bad hb]) ?_ (fun s1 q1=>?_)
 ·refine Still.trans ?_ (xD _ _ _)
  intro hb;unfold vo;rw[jI hb];exact⟨hb,rfl⟩
 obtain⟨_,e2,_⟩:=kE s1 hd61
 unfold vo wK mtOf
 rw[e2,q1.1]
 cases hask:R.isB (jK ts st aa.length).2 (R.cur ts (jK ts st aa.length).2) [61]
 ·simp only[zb2,if_false]
  exact(yo s1 hd59).mono (fun q=>⟨trivial,by have:=q1.2;have:=q.1;omega⟩)
 ·simp only[if_true]
  refine Res.bind (zeT s1) (fun hb=>R.needS_bad hb) (xD _ _ _) (fun s2 q2=>?_)
  exact(yo s2 hd59).mono (fun q=>⟨by rw[q2.1],by have:=q1.2;have:=q2.2;have:=q.1;omega⟩)
theorem Sim.atLe {l:List UInt8}{ts:List R.Tok}{st:R.St}{p:P.St}(h:Sim l ts st p):p.tok.at_<=l.length:=by
 obtain⟨m,q,h1,h2,h3,h4⟩:=h.link
 rw[h4];have:=zc7 l q h2;omega
theorem zkG {l:List UInt8}{ts:List R.Tok}:∀(n m:Nat) {st:R.St} {p:P.St} (ab:List R.Mt) (aa:List P.Mt),Sim l ts st p->ab=aa.map mtOf->ts.length<n+st.K->l.length<m+p.tok.at_->
  Res l ts ((R.mtLoop ts n st ab).1=(xL l m p aa).1.map mtOf/\p.tok.at_<=(xL l m p aa).2.tok.at_) (R.mtLoop ts n st ab).2 (xL l m p aa).2:=by
 intro n
 induction n with
 | zero=>intro m st p ab aa h _ hn _;have:=h.tok.2;omega
 | succ n ih=>
  intro m st p ab aa h ha hn hm
  match m,hm with
  | 0,hm=>have:=h.atLe;omega
  | m+1,hm=>
   obtain⟨_,e2,_⟩:=kE h hdHeader
   rw[R.mtLoop,xL,e2]
   cases hgo:R.isB st (R.cur ts st) qd
   ·simp only[zb2,if_false]
    exact Or.inl ⟨h,ha,zw _⟩
   ·simp only[if_true]
    have hK:=uq ts st ab hgo
    have r1:=zoN h ab aa.length (by rw[ha,xW])
    rcases r1 with ⟨s1,q1,q2⟩ | d
    ·have:=ih m (ab++[mtOf (x8 l p aa.length).1]) (aa++[(x8 l p aa.length).1]) s1 (by rw[ha];simp) (by omega) (by omega)
     rw[q1]
     exact this.mono (fun q=>⟨q.1,by have:=q.2;omega⟩)
    ·right
     rw[R.mtLoop_bad d.bad]
     have:∀k ad,xL l k (x8 l p aa.length).2 ad=(ad,(x8 l p aa.length).2):=by
      intro k ad;cases k
      ·rfl
      ·rw[xL,jI d.broken];rfl
     rw[this];exact d
theorem tN (l:List UInt8)(n:Nat)(p:P.St)(aa:List P.Mt):Still p (xL l n p aa).2:=by
 intro hb
 cases n
 ·exact⟨hb,rfl⟩
 ·rw[xL,jI hb];exact⟨hb,rfl⟩
theorem zi8 (l:List UInt8)(p:P.St)(c:Bool)(e a:Int):xB l (zt p c e a)=((xB l p).1,zt (xB l p).2 c e a):=by
 unfold xB;rw[(qk p c e a).1,th,(qk _ c e a).2]
theorem zdS (st:R.St)(ok:Bool)(e a:Int)(h:st.E≠0):R.notS st ok e a=st:=by unfold R.notS;rw[if_neg (fun c=>h c.2.1)]
theorem zb6 {ts:List R.Tok}{st:R.St}{k:Int}(hb:st.bad<0)(h:(R.cur ts st).k=k):R.kindS ts st k={ st with K:=st.K+1 }:=by
 unfold R.kindS R.overS;rw[if_neg (by omega),if_pos (by rw[h];simp)]
def wsum (l:List (List UInt8×Int)):Int:=(l.map Prod.snd).sum
theorem zeW (l:List (List UInt8×Int))(t:List UInt8×Int):wsum (l++[t])=wsum l+t.2:=by simp[wsum]
theorem zlM {l:List UInt8}{ts:List R.Tok}{st:R.St}{p:P.St}(an:R.Ok ts)(h:Sim l ts st p)(i:Nat)(aa:List (List UInt8×Int)) :
  Res l ts ((qP ts st i aa).2=aa++([(zk l p i).1].filter fun t=>!(t.2 == 0))/\0<=(zk l p i).1.2/\p.tok.at_<(zk l p i).2.tok.at_/\(qP ts st i aa).1.K=st.K+2/\
   (st.E=0->(qP ts st i aa).1.E≠0->p.tok.at_<=(qP ts st i aa).1.at_)/\(st.E≠0->(qP ts st i aa).1.E=st.E/\(qP ts st i aa).1.at_=st.at_)/\
   yN (ts.drop st.K)=(zk l p i).1.2+yN (ts.drop (st.K+3))) (qP ts st i aa).1 (zk l p i).2:=by
 unfold zk xq qE
 simp only
 rw[zq8]
 simp only
 rw[zi8,zi8]
 simp only
 simp only[jP]
 unfold qP
 simp only
 rcases tL h with ⟨h1,q1,q2⟩ | d
 ·have ah:(R.cur ts st).k=34:=by
   apply Classical.byContradiction;intro hc
   have:=h1.nb
   unfold R.kindS R.overS at this
   rw[if_neg (by have:=h.nb;omega),if_neg (by simpa using hc)] at this
   have:(0:Int)<=(R.cur ts st).at_:=Int.natCast_nonneg _
   simp only at *;omega
  have ad:R.kindS ts st 34={ st with K:=st.K+1 }:=zb6 h.nb ah
  rcases zmB h1 with ⟨h2,g1,g2,g3⟩ | d
  ·have ae:R.kindS ts (R.kindS ts st 34) 49={ st with K:=st.K+2 }:=by rw[zb6 h1.nb g3,ad]
   have ai:=h.tok.1.place
   have af:=h1.tok.1.place
   rw[q1,g1,ai,af]
   have ab:=h1.tok.2
   have am:=an.nums _ _ (show ts[(R.kindS ts st 34).K]?=some (R.cur ts (R.kindS ts st 34)) by unfold R.cur;rw[List.getD_eq_getElem?_getD,xo ab];rfl) g3
   have ak:decide ((4:Int)<=i)=!decide ((i:Int)<4):=by rw[Bool.eq_iff_iff];simp
   have al:decide (1000<R.num (R.cur ts (R.kindS ts st 34)).s)=!decide (R.num (R.cur ts (R.kindS ts st 34)).s<=1000):=by rw[Bool.eq_iff_iff];simp
   rw[ak,al]
   have ao:Noted (R.kindS ts (R.kindS ts st 34) 49) (R.cur ts st).at_ 3:=jn (jn (vP h 3) _ _) _ _
   have e1:((R.cur ts st).at_:Int)<(R.cur ts (R.kindS ts st 34)).at_:=by rw[ai,af] at q2;omega
   have e2:((R.cur ts (R.kindS ts st 34)).at_:Int)<(xB l (qG l p).2).2.tok.at_:=by rw[af] at g2;omega
   have r1:=Res.note (Or.inl ⟨h2,trivial⟩:Res l ts True _ _) (decide ((i:Int)<4)) 3 (R.cur ts st).at_ (fun _ _=>⟨ao,by omega⟩)
   have r2:=Res.note r1 (R.upstream (R.cur ts st).s) 4 (R.cur ts st).at_ (fun _ q=>⟨q.2 4 (by decide),by rw[(qk _ _ _ _).1];omega⟩)
   have r3:=Res.note r2 (decide (R.num (R.cur ts (R.kindS ts st 34)).s<=1000)) 4 (R.cur ts (R.kindS ts st 34)).at_ (fun _ q=>⟨fun hE=>by
     rcases q.2 4 (by decide) hE with c | c
     ·left;omega
     ·left;omega,by rw[(qk _ _ _ _).1,(qk _ _ _ _).1];exact e2⟩)
   refine r3.mono (fun _=>⟨?_,am.1,?_,?_,?_,?_,?_⟩)
   ·by_cases h0:0<R.num (R.cur ts (R.kindS ts st 34)).s
    ·rw[if_pos h0,List.filter_cons,if_pos (by simp;omega)];rfl
    ·rw[if_neg h0,List.filter_cons,if_neg (by simp;omega)];simp
   ·omega
   ·rw[R.notS_K,R.notS_K,R.notS_K,ae]
   ·intro hE
    rw[ae]
    unfold R.notS
    simp only
    repeat' split
    all_goals simp_all
    all_goals omega
   ·intro hE
    have q:∀ok e a,R.notS { st with K:=st.K+2 } ok e a={ st with K:=st.K+2 }:=fun ok e a=>zdS _ _ _ _ hE
    rw[ae,q,q,q]
    exact⟨rfl,rfl⟩
   ·have aj:=h.tok.2
    have c0:ts[st.K]=R.cur ts st:=by unfold R.cur;rw[List.getD_eq_getElem?_getD,xo aj];rfl
    have ag:st.K+1<ts.length:=by rw[ad] at ab;exact ab
    have c1:ts[st.K+1]=R.cur ts (R.kindS ts st 34):=by rw[ad];unfold R.cur;simp only;rw[List.getD_eq_getElem?_getD,xo ag];rfl
    rw[zb8 ts st.K ag (by rw[c0];exact ah) (by rw[c1];exact g3),c1]
  ·right
   rw[R.notS_bad (by rw[R.notS_bad (by rw[R.notS_bad d.bad];exact d.bad),R.notS_bad d.bad];exact d.bad),R.notS_bad (by rw[R.notS_bad d.bad];exact d.bad),R.notS_bad d.bad]
   exact yI (yI (yI d _ _ _) _ _ _) _ _ _
 ·right
  have hb:R.kindS ts (R.kindS ts st 34) 49=R.kindS ts st 34:=R.kindS_bad d.bad
  rw[hb]
  rw[R.notS_bad (by rw[R.notS_bad (by rw[R.notS_bad d.bad];exact d.bad),R.notS_bad d.bad];exact d.bad),R.notS_bad (by rw[R.notS_bad d.bad];exact d.bad),R.notS_bad d.bad]
  have:=zaT l (qG l p).2 d.broken
  exact yI (yI (yI ⟨d.bad,this.1,by rw[this.2];exact d.place⟩ _ _ _) _ _ _) _ _ _
theorem uA (l:List UInt8)(p:P.St)(n:Nat):Still p (zk l p n).2:=
 ((((zoA _ _ _).trans (kC _ _)).trans (yC _ _ _ _)).trans (zaT _ _)).trans (yC _ _ _ _)
theorem kO (l:List UInt8)(n:Nat)(p:P.St)(aa:List (List UInt8×Int)):Still p (xc l n p aa).2:=by
 intro hb
 cases n
 ·exact⟨hb,rfl⟩
 ·rw[xc,jI hb];exact⟨hb,rfl⟩
theorem zl3 {l:List UInt8}{ts:List R.Tok}(aj:R.Ok ts):∀(n m:Nat) {st:R.St} {p:P.St} (i:Nat) (ab aa:List (List UInt8×Int)),Sim l ts st p->aa.length=i->ab=nz aa->(∀t∈aa,0<=t.2)->ts.length<n+st.K->l.length<m+p.tok.at_->
  Res l ts ((R.tgLoop ts n st i ab).1=nz (xc l m (zk l p i).2 (aa++[(zk l p i).1])).1/\(∀t∈(xc l m (zk l p i).2 (aa++[(zk l p i).1])).1,0<=t.2)/\
   p.tok.at_<(xc l m (zk l p i).2 (aa++[(zk l p i).1])).2.tok.at_/\
   (st.E=0->(R.tgLoop ts n st i ab).2.E≠0->p.tok.at_<=(R.tgLoop ts n st i ab).2.at_)/\(st.E≠0->(R.tgLoop ts n st i ab).2.E=st.E/\(R.tgLoop ts n st i ab).2.at_=st.at_)/\
   wsum aa+yN (ts.drop st.K)=wsum (xc l m (zk l p i).2 (aa++[(zk l p i).1])).1+yN (ts.drop ((R.tgLoop ts n st i ab).2.K+1))) (R.tgLoop ts n st i ab).2 (xc l m (zk l p i).2 (aa++[(zk l p i).1])).2:=by
 intro n
 induction n with
 | zero=>intro m st p i ab aa h _ _ _ hn _;have:=h.tok.2;omega
 | succ n ih=>
  intro m st p i ab aa h hi ha ak hn hm
  match m,hm with
  | 0,hm=>have:=h.atLe;omega
  | m+1,hm=>
   rw[R.tgLoop,if_pos h.nb]
   rcases zlM aj h i ab with ⟨s1,q1,q2,q3,q4,q5,q6,q7⟩ | d
   ·obtain⟨_,e2,_⟩:=kE s1 hd44
    rw[xc,e2]
    have ag:∀t∈aa++[(zk l p i).1],0<=t.2:=by
     intro t ht
     rcases List.mem_append.1 ht with ht | ht
     ·exact ak t ht
     ·simp at ht;rw[ht];exact q2
    have af:(qP ts st i ab).2=nz (aa++[(zk l p i).1]):=by
     rw[q1,ha];unfold nz;rw[List.filter_append]
    cases hgo:R.isB (qP ts st i ab).1 (R.cur ts (qP ts st i ab).1) [44]
    ·simp only[zb2,if_false]
     left
     refine⟨s1,af,ag,q3,q5,q6,?_⟩
     rw[zeW,q7,q4]
     show wsum aa+((zk l p i).1.2+yN (ts.drop (st.K+3)))=wsum aa+(zk l p i).1.2+yN (ts.drop (st.K+2+1))
     rw[show st.K+2+1=st.K+3 from rfl];omega
    ·simp only[if_true]
     have ad:=R.needS_yes hgo
     rcases yo s1 hd44 with ⟨s2,g1,_⟩ | d
     ·have al:=ih m (i+1) (qP ts st i ab).2 (aa++[(zk l p i).1]) s2 (by simp[hi]) af ag (by rw[ad];simp only;omega) (by omega)
      have ai:(aa++[(zk l p i).1]).length=i+1:=by simp[hi]
      rw[ai]
      refine al.mono (fun q=>⟨q.1,q.2.1,by have:=q.2.2.1;omega,?_,?_,?_⟩)
      ·intro hE ah
       by_cases ae:(qP ts st i ab).1.E=0
       ·have:=q.2.2.2.1 (by rw[ad];exact ae) ah
        have:=q3
        omega
       ·have q9:=q.2.2.2.2.1 (by rw[ad];exact ae)
        have:=q5 hE ae
        rw[q9.2,ad];exact this
      ·intro hE
       have q8:=q6 hE
       have q9:=q.2.2.2.2.1 (by rw[ad];show(qP ts st i ab).1.E≠0;rw[q8.1];exact hE)
       rw[q9.1,q9.2,ad];exact q8
      ·have:=q.2.2.2.2.2
       rw[zeW] at this
       rw[<-this,q7,ad]
       simp only
       rw[q4]
       show wsum aa+((zk l p i).1.2+yN (ts.drop (st.K+3)))=wsum aa+(zk l p i).1.2+yN (ts.drop (st.K+2+1))
       rw[show st.K+2+1=st.K+3 from rfl];omega
     ·right
      rw[R.tgLoop_bad d.bad]
      have hs:=((uA l (zX l (zk l p i).2 [44]) (aa++[(zk l p i).1]).length).trans (kO l m _ (aa++[(zk l p i).1]++[(zk l (zX l (zk l p i).2 [44]) (aa++[(zk l p i).1]).length).1]))) d.broken
      exact⟨d.bad,hs.1,by rw[hs.2];exact d.place⟩
   ·right
    rw[R.isB_bad d.bad]
    simp only[zb2,if_false]
    have hs:=kO l (m+1) (zk l p i).2 (aa++[(zk l p i).1]) d.broken
    exact⟨d.bad,hs.1,by rw[hs.2];exact d.place⟩
def SameT (a b:R.St):Prop:=a.K=b.K/\a.bad=b.bad
theorem zeY {a b:R.St}(h:SameT a b)(t:R.Tok)(k:Bool):SameT (R.overS t a k) (R.overS t b k):=by
 unfold R.overS;rw[h.2];split
 ·exact h
 ·split
  ·exact⟨by show a.K+1=b.K+1;rw[h.1],rfl⟩
  ·exact⟨h.1,rfl⟩
theorem wj {a b:R.St}(h:SameT a b)(ts:List R.Tok):R.cur ts a=R.cur ts b:=by unfold R.cur;rw[h.1]
theorem zh2 {a b:R.St}(h:SameT a b)(t:R.Tok)(r:List UInt8):R.isB a t r=R.isB b t r:=by unfold R.isB;rw[h.2]
theorem zfG {a b:R.St}(h:SameT a b)(ts:List R.Tok)(k:Int):SameT (R.kindS ts a k) (R.kindS ts b k):=by unfold R.kindS;rw[wj h];exact zeY h _ _
theorem fQ {a b:R.St}(h:SameT a b)(ts:List R.Tok)(r:List UInt8):SameT (R.needS ts a r) (R.needS ts b r):=by unfold R.needS;rw[wj h,zh2 h];exact zeY h _ _
theorem kg (st:R.St)(ok:Bool)(e a:Int):SameT (R.notS st ok e a) st:=by unfold R.notS;split <;> exact⟨rfl,rfl⟩
theorem SameT.trans {a b c:R.St}(h:SameT a b)(k:SameT b c):SameT a c:=⟨h.1.trans k.1,h.2.trans k.2⟩
theorem SameT.symm {a b:R.St}(h:SameT a b):SameT b a:=⟨h.1.symm,h.2.symm⟩
theorem zjU {a b:R.St}(h:SameT a b)(ts:List R.Tok)(i:Nat)(aa:List (List UInt8×Int)):(qP ts a i aa).2=(qP ts b i aa).2/\SameT (qP ts a i aa).1 (qP ts b i aa).1:=by
 unfold qP
 simp only
 have h1:=zfG h ts 34
 have h2:=zfG h1 ts 49
 rw[wj h,wj h1]
 exact⟨rfl,(((kg _ _ _ _).trans (kg _ _ _ _)).trans (kg _ _ _ _)).trans (h2.trans (((kg _ _ _ _).trans (kg _ _ _ _)).trans (kg _ _ _ _)).symm)⟩
theorem zi4 (ts:List R.Tok):∀(n:Nat) {a b:R.St} (_:SameT a b) (i:Nat) (aa:List (List UInt8×Int)),(R.tgLoop ts n a i aa).1=(R.tgLoop ts n b i aa).1/\SameT (R.tgLoop ts n a i aa).2 (R.tgLoop ts n b i aa).2:=by
 intro n
 induction n with
 | zero=>intro a b h i aa;exact⟨rfl,h⟩
 | succ n ih=>
  intro a b h i aa
  rw[R.tgLoop,R.tgLoop,h.2]
  obtain⟨e1,e2⟩:=zjU h ts i aa
  split
  ·rw[wj e2,zh2 e2,e1]
   split
   ·exact ih (fQ e2 ts [44]) _ _
   ·exact⟨rfl,e2⟩
  ·exact⟨rfl,h⟩
theorem zpY (ts:List R.Tok):∀(n:Nat) {st:R.St} (_:st.E≠0) (i:Nat) (aa:List (List UInt8×Int)),(R.tgLoop ts n st i aa).2.E=st.E/\(R.tgLoop ts n st i aa).2.at_=st.at_:=by
 intro n
 induction n with
 | zero=>intro st h i aa;exact⟨rfl,rfl⟩
 | succ n ih=>
  intro st h i aa
  rw[R.tgLoop]
  have e0:(R.kindS ts (R.kindS ts st 34) 49).E=st.E:=by unfold R.kindS;rw[kY,kY]
  have e1:(R.kindS ts (R.kindS ts st 34) 49).at_=st.at_:=by unfold R.kindS;rw[k8,k8]
  have er:(qP ts st i aa).1=R.kindS ts (R.kindS ts st 34) 49:=by
   unfold qP;simp only
   have q:∀ok e a,R.notS (R.kindS ts (R.kindS ts st 34) 49) ok e a=R.kindS ts (R.kindS ts st 34) 49:=fun ok e a=>zdS _ _ _ _ (by rw[e0];exact h)
   rw[q,q,q]
  split
  ·split
   ·have hE:(R.needS ts (qP ts st i aa).1 [44]).E=st.E:=by unfold R.needS;rw[kY,er,e0]
    have hA:(R.needS ts (qP ts st i aa).1 [44]).at_=st.at_:=by unfold R.needS;rw[k8,er,e1]
    have:=ih (st:=R.needS ts (qP ts st i aa).1 [44]) (by rw[hE];exact h) (i+1) (qP ts st i aa).2
    rw[hE,hA] at this;exact this
   ·simp only;rw[er];exact⟨e0,e1⟩
  ·exact⟨rfl,rfl⟩
def Lost (l:List UInt8)(ts:List R.Tok)(st:R.St)(p:P.St):Prop:=Sim l ts { st with E:=p.err,at_:=p.fat } p/\(R.cur ts st).k=34
theorem ztC {l:List (List UInt8×Int)}(h:∀t∈l,0<=t.2):0<=wsum l/\((nz l).isEmpty=!decide (0<wsum l)):=by
 induction l with
 | nil=>exact⟨by simp[wsum],by simp[wsum,nz]⟩
 | cons t l ih=>
  obtain⟨h1,h2⟩:=ih (fun u hu=>h u (by simp[hu]))
  have h0:=h t (by simp)
  have hw:wsum (t :: l)=t.2+wsum l:=by simp[wsum]
  refine⟨by omega,?_⟩
  rw[hw]
  unfold nz at h2 ⊢
  rw[List.filter_cons]
  by_cases ht:t.2=0
  ·rw[if_neg (by simp[ht]),h2,ht];simp
  ·rw[if_pos (by simpa using ht)]
   have:0<t.2+wsum l:=by omega
   simp[this]
theorem tv {a b:R.St}{p:P.St}(h:Dead a p)(hs:SameT a b):Dead b p:=⟨by rw[<-hs.2];exact h.bad,h.broken,by rw[<-hs.2];exact h.place⟩
theorem ziJ {l:List UInt8}{ts:List R.Tok}{st:R.St}{p:P.St}(az:R.Ok ts)(h:Sim l ts st p) :
  Res l ts ((qh l p).1=(R.targetsS ts st).1/\p.tok.at_<(qh l p).2.tok.at_) (R.targetsS ts st).2 (qh l p).2\/Lost l ts (R.targetsS ts st).2 (qh l p).2:=by
 have pl:=h.tok.1.place
 unfold qh R.targetsS
 simp only
 have an:=yo h hdTo
 rw[show kL=[116,111] from rfl] at an
 generalize hb:yN (ts.drop (R.needS ts st [116,111]).K)=sm
 rcases an with ⟨s1,q1,_⟩ | d
 ·have ap:(R.needS ts st [116,111]).E=st.E:=by unfold R.needS;rw[kY]
  have ao:(R.needS ts st [116,111]).at_=st.at_:=by unfold R.needS;rw[k8]
  have aD:st.E≠0->st.at_<(R.cur ts st).at_:=fun hE=>by have:=h.past hE;rwa[pl] at this
  generalize aA:zX l p [116,111]=p1 at*
  generalize R.needS ts st [116,111]=st1 at*
  have ar:yA l p=xc l (l.length+1) (zk l p1 0).2 ([]++[(zk l p1 0).1]):=by
   unfold yA;rw[show kL=[116,111] from rfl,aA];rfl
  have ah:=zl3 az (ts.length+1) (l.length+1) 0 [] [] s1 rfl rfl (by simp) (by omega) (by omega)
  rw[<-ar,show wsum []=0 from rfl,hb] at ah
  have ad:=zi4 ts (ts.length+1) (kg st1 (decide (0<sm)) 4 (R.cur ts st).at_) 0 []
  have ag:=zpY ts (ts.length+1) (st:=R.notS st1 (decide (0<sm)) 4 (R.cur ts st).at_)
  generalize yA l p=pa at*
  obtain⟨aa,p2⟩:=pa
  simp only at ah ⊢
  rcases ah with ⟨s2,a1,a2,a3,a4,a5,a6⟩ | d
  · -- the run without the note of 'to'
   rcases yo s2 hd59 with ⟨s3,b1,b2⟩ | d
   ·have aj:=R.needS_yes b2
    obtain⟨z1,z2⟩:=ztC a2
    have ay:(aa.filter fun t=>!(t.2 == 0))=nz aa:=rfl
    rw[ay,z2,ad.1,a1]
    have aq:(R.needS ts (R.tgLoop ts (ts.length+1) st1 0 []).2 [59]).K=(R.tgLoop ts (ts.length+1) st1 0 []).2.K+1:=by rw[aj]
    have ab:=fQ ad.2 ts [59]
    have af:(R.needS ts (R.tgLoop ts (ts.length+1) st1 0 []).2 [59]).E=(R.tgLoop ts (ts.length+1) st1 0 []).2.E:=by rw[aj]
    have al:(R.needS ts (R.tgLoop ts (ts.length+1) st1 0 []).2 [59]).at_=(R.tgLoop ts (ts.length+1) st1 0 []).2.at_:=by rw[aj]
    by_cases hl:yN (ts.drop ((R.tgLoop ts (ts.length+1) st1 0 []).2.K+1))=0
    ·left
     rw[hl] at a6
     have aB:sm=wsum aa:=by omega
     rw[<-aB]
     by_cases ak:0<sm
     ·rw[decide_eq_true ak]
      have e1:R.notS st1 true 4 (R.cur ts st).at_=st1:=by unfold R.notS;rw[if_neg (by simp)]
      rw[e1]
      left
      refine⟨?_,(by first | rfl | trivial),?_⟩
      ·simpa[zt] using s3
      ·rw[jP];omega
     ·rw[decide_eq_false ak]
      rw[decide_eq_false ak] at ad ag ab
      simp only[Bool.not_false]
      by_cases hE:st1.E=0
      ·have e1:R.notS st1 false 4 (R.cur ts st).at_={ st1 with E:=4,at_:=(R.cur ts st).at_ }:=by unfold R.notS;rw[if_pos ⟨rfl,hE,s1.nb⟩]
       rw[e1] at ag ab ⊢
       obtain⟨f1,f2⟩:=ag (by show(4:Int)≠0;decide) 0 []
       simp only at f1 f2
       have g1:(R.needS ts (R.tgLoop ts (ts.length+1) { st1 with E:=4,at_:=(R.cur ts st).at_ } 0 []).2 [59]).E=4:=by unfold R.needS;rw[kY,f1]
       have g2:(R.needS ts (R.tgLoop ts (ts.length+1) { st1 with E:=4,at_:=(R.cur ts st).at_ } 0 []).2 [59]).at_=(R.cur ts st).at_:=by unfold R.needS;rw[k8,f2]
       have ai:zt (zX l p2 [59]) true 4 p.tok.at_={ zX l p2 [59] with err:=4,fat:=p.tok.at_ }:=by
        unfold zt xZ
        rw[if_pos rfl,if_pos]
        by_cases hz:(zX l p2 [59]).err=0
        ·exact Or.inl hz
        ·right;left
         have e3:(R.tgLoop ts (ts.length+1) st1 0 []).2.E≠0:=by rw[<-af,<-s3.err];exact hz
         have e4:=a4 hE e3
         rw[s3.fat (by rw[af];exact e3),al]
         omega
       rw[ai]
       left
       refine⟨⟨by rw[ab.2];exact s3.nb,s3.nk,?_,by rw[g1],fun _=>by rw[g2,<-pl],fun _=>?_⟩,(by first | rfl | trivial),?_⟩
       ·obtain⟨m,q,k1,k2,k3,k4⟩:=s3.link
        exact⟨m,q,k1,k2,by rw[ab.1];exact k3,k4⟩
       ·rw[g2,<-pl]
        show(p.tok.at_:Int)<(zX l p2 [59]).tok.at_
        omega
       ·show p.tok.at_<(zX l p2 [59]).tok.at_
        omega
      ·have e1:R.notS st1 false 4 (R.cur ts st).at_=st1:=zdS _ _ _ _ hE
       rw[e1]
       obtain⟨f1,f2⟩:=a5 hE
       have aw:(zX l p2 [59]).fat=st1.at_:=by rw[s3.fat (by rw[af,f1];exact hE),al,f2]
       have av:(zX l p2 [59]).err=st1.E:=by rw[s3.err,af,f1]
       have aC:st1.at_<p.tok.at_:=by rw[ao];exact h.past (by rw[<-ap];exact hE)
       have ai:zt (zX l p2 [59]) true 4 p.tok.at_=zX l p2 [59]:=by
        unfold zt xZ
        rw[if_pos rfl,av,aw,if_neg]
        intro c;rcases c with c | c | c
        ·exact hE c
        ·omega
        ·omega
       rw[ai]
       exact Or.inl ⟨s3,(by first | rfl | trivial),by omega⟩
    ·right
     have ax:(R.cur ts (R.needS ts (R.tgLoop ts (ts.length+1) st1 0 []).2 [59])).k=34:=by
      apply Classical.byContradiction;intro hc
      apply hl
      rw[<-aq]
      apply um
      rintro⟨hx,h1,_⟩
      apply hc
      unfold R.cur;rw[List.getD_eq_getElem?_getD,xo (by omega)];exact h1
     refine⟨?_,by rw[wj ab];exact ax⟩
     have am:=jP (zX l p2 [59]) (!decide (0<wsum aa)) 4 p.tok.at_
     have au:=(qk (zX l p2 [59]) (!decide (0<wsum aa)) 4 p.tok.at_).2
     obtain⟨m,q,k1,k2,k3,k4⟩:=s3.link
     refine⟨by show _<_;rw[ab.2];exact s3.nb,by rw[au];exact s3.nk,⟨m,q,k1,k2,by show ts.drop _=_;rw[ab.1];exact k3,by rw[am];exact k4⟩,rfl,fun _=>rfl,?_⟩
     intro hE
     rw[am]
     show(zt (zX l p2 [59]) (!decide (0<wsum aa)) 4 p.tok.at_).fat<_
     have ae:(zt (zX l p2 [59]) (!decide (0<wsum aa)) 4 p.tok.at_).err≠0:=hE
     unfold zt xZ at ae ⊢
     split
     ·split
      ·show(p.tok.at_:Int)<_;omega
      ·rename_i _ hc
       have hz:(zX l p2 [59]).err≠0:=fun e=>hc (Or.inl e)
       rw[s3.fat (by rw[<-s3.err];exact hz)]
       exact s3.past (by rw[<-s3.err];exact hz)
     ·rename_i hc
      rw[if_neg hc] at ae
      rw[s3.fat (by rw[<-s3.err];exact ae)]
      exact s3.past (by rw[<-s3.err];exact ae)
   ·left;right
    exact yI (tv d (fQ ad.2.symm ts [59])) _ _ _
  ·left;right
   have d1:=tv d ad.2.symm
   rw[R.needS_bad d1.bad]
   have hs:=xD l p2 [59] d1.broken
   exact yI ⟨d1.bad,hs.1,by rw[hs.2];exact d1.place⟩ _ _ _
 ·left;right
  have e1:R.notS (R.needS ts st [116,111]) (decide (0<sm)) 4 (R.cur ts st).at_=R.needS ts st [116,111]:=R.notS_bad d.bad
  rw[e1,R.tgLoop_bad d.bad]
  rw[R.needS_bad d.bad]
  have hs:Still (zX l p [116,111]) (zt (zX l (yA l p).2 [59]) ((yA l p).1.filter fun t=>!(t.2 == 0)).isEmpty 4 p.tok.at_):=by
   refine Still.trans ?_ (yC _ _ _ _)
   refine Still.trans ?_ (xD _ _ _)
   exact(uA _ _ _).trans (kO _ _ _ _)
  have hs:=hs d.broken
  exact⟨d.bad,hs.1,by rw[hs.2];exact d.place⟩
theorem zs5 {l:List UInt8}{ts:List R.Tok}{st:R.St}{p:P.St}(h:Sim l ts st p)(aa:List (List UInt8×List UInt8)) :
  Res l ts ((yb ts st aa).2=aa++[(xy l p aa.length (aa.map Prod.fst)).1]/\p.tok.at_<(xy l p aa.length (aa.map Prod.fst)).2.tok.at_) (yb ts st aa).1 (xy l p aa.length (aa.map Prod.fst)).2:=by
 unfold xy yb
 simp only
 have r0:Res l ts ((jd l p aa.length (aa.map Prod.fst)).1=(kx ts st aa.length (aa.map Prod.fst)).1/\p.tok.at_<(jd l p aa.length (aa.map Prod.fst)).2.tok.at_) (kx ts st aa.length (aa.map Prod.fst)).2 (jd l p aa.length (aa.map Prod.fst)).2:=by
  unfold jd kx
  refine Res.bind (uh h xf hdSet aa.length 3) (fun hb=>R.headerS_bad hb) (tG _ _ _) (fun s1 q1=>?_)
  exact(fY s1 (aa.map Prod.fst)).mono (fun q=>⟨q.1,by have:=q1.1;have:=q.2;omega⟩)
 refine Res.bind r0 (fun hb=>by rw[R.valueS_bad hb,R.needS_bad hb]) ((zhF _ _).trans (xD _ _ _)) (fun s1 q1=>?_)
 refine Res.bind (zeT s1) (fun hb=>R.needS_bad hb) (xD _ _ _) (fun s2 q2=>?_)
 exact(yo s2 hd59).mono (fun q=>⟨by rw[q1.1,q2.1],by have:=q1.2;have:=q2.2;have:=q.1;omega⟩)
theorem zqH {l:List UInt8}{ts:List R.Tok}{st:R.St}{p:P.St}(h:Sim l ts st p)(ab aa:List (List UInt8)) :
  Res l ts ((yY ts st ab aa).2=aa++[(xm l p aa.length (ab++aa)).1]/\p.tok.at_<(xm l p aa.length (ab++aa)).2.tok.at_) (yY ts st ab aa).1 (xm l p aa.length (ab++aa)).2:=by
 unfold xm yY
 simp only
 have r0:Res l ts ((je l p aa.length (ab++aa)).1=(uS ts st aa.length (ab++aa)).1/\p.tok.at_<(je l p aa.length (ab++aa)).2.tok.at_) (uS ts st aa.length (ab++aa)).2 (je l p aa.length (ab++aa)).2:=by
  unfold je uS
  refine Res.bind (uh h x7 hdDrop aa.length 3) (fun hb=>R.headerS_bad hb) (tG _ _ _) (fun s1 q1=>?_)
  exact(fY s1 (ab++aa)).mono (fun q=>⟨q.1,by have:=q1.1;have:=q.2;omega⟩)
 refine Res.bind r0 (fun hb=>R.needS_bad hb) (xD _ _ _) (fun s1 q1=>?_)
 exact(yo s1 hd59).mono (fun q=>⟨by rw[q1.1],by have:=q1.2;have:=q.1;omega⟩)
theorem uP (l:List UInt8)(n:Nat)(p:P.St)(aa:List (List UInt8×List UInt8)):Still p (qy l n p aa).2:=by
 intro hb
 cases n
 ·exact⟨hb,rfl⟩
 ·rw[qy,jI hb];exact⟨hb,rfl⟩
theorem kQ (l:List UInt8)(ab:List (List UInt8))(n:Nat)(p:P.St)(aa:List (List UInt8)):Still p (qp l ab n p aa).2:=by
 intro hb
 cases n
 ·exact⟨hb,rfl⟩
 ·rw[qp,jI hb];exact⟨hb,rfl⟩
theorem zlJ {l:List UInt8}{ts:List R.Tok}:∀(n m:Nat) {st:R.St} {p:P.St} (aa:List (List UInt8×List UInt8)),Sim l ts st p->ts.length<n+st.K->l.length<m+p.tok.at_->
  Res l ts ((R.stLoop ts n st aa).1=(qy l m p aa).1/\p.tok.at_<=(qy l m p aa).2.tok.at_) (R.stLoop ts n st aa).2 (qy l m p aa).2:=by
 intro n
 induction n with
 | zero=>intro m st p aa h hn _;have:=h.tok.2;omega
 | succ n ih=>
  intro m st p aa h hn hm
  match m,hm with
  | 0,hm=>have:=h.atLe;omega
  | m+1,hm=>
   obtain⟨_,e2,_⟩:=kE h hdSet
   rw[R.stLoop,qy,e2]
   cases hgo:R.isB st (R.cur ts st) xf
   ·simp only[zb2,if_false]
    exact Or.inl ⟨h,(by first | rfl | trivial),zw _⟩
   ·simp only[if_true]
    have hK:=uk ts st aa hgo
    rcases zs5 h aa with ⟨s1,q1,q2⟩ | d
    ·rw[q1]
     exact(ih m _ s1 (by omega) (by omega)).mono (fun q=>⟨q.1,by have:=q.2;omega⟩)
    ·right
     rw[R.stLoop_bad d.bad]
     have hs:=uP l m _ (aa++[(xy l p aa.length (aa.map Prod.fst)).1]) d.broken
     exact⟨d.bad,hs.1,by rw[hs.2];exact d.place⟩
theorem zlI {l:List UInt8}{ts:List R.Tok}(ab:List (List UInt8)):∀(n m:Nat) {st:R.St} {p:P.St} (aa:List (List UInt8)),Sim l ts st p->ts.length<n+st.K->l.length<m+p.tok.at_->
  Res l ts ((R.dpLoop ts ab n st aa).1=(qp l ab m p aa).1/\p.tok.at_<=(qp l ab m p aa).2.tok.at_) (R.dpLoop ts ab n st aa).2 (qp l ab m p aa).2:=by
 intro n
 induction n with
 | zero=>intro m st p aa h hn _;have:=h.tok.2;omega
 | succ n ih=>
  intro m st p aa h hn hm
  match m,hm with
  | 0,hm=>have:=h.atLe;omega
  | m+1,hm=>
   obtain⟨_,e2,_⟩:=kE h hdDrop
   rw[R.dpLoop,qp,e2]
   cases hgo:R.isB st (R.cur ts st) x7
   ·simp only[zb2,if_false]
    exact Or.inl ⟨h,(by first | rfl | trivial),zw _⟩
   ·simp only[if_true]
    have hK:=uu ts st ab aa hgo
    rcases zqH h ab aa with ⟨s1,q1,q2⟩ | d
    ·rw[q1]
     exact(ih m _ s1 (by omega) (by omega)).mono (fun q=>⟨q.1,by have:=q.2;omega⟩)
    ·right
     rw[R.dpLoop_bad d.bad]
     have hs:=kQ l ab m _ (aa++[(xm l p aa.length (ab++aa)).1]) d.broken
     exact⟨d.bad,hs.1,by rw[hs.2];exact d.place⟩
def rlOf (r:P.Rl)(ch:Bool):R.Rl:=⟨r.number,r.path,r.ms.map mtOf,r.tg,ch,r.rep,r.sets,r.drops⟩
def RlSim (a:R.Rl)(b:P.Rl):Prop:=a=rlOf b a.change/\(a.change=false->b.rep=[])
theorem zlE {l:List UInt8}{ts:List R.Tok}{st:R.St}{p:P.St}(h:Sim l ts st p)(aa:List Int) :
  Res l ts ((yX l p aa).1=(R.rlA2 ts st aa).1/\p.tok.at_<(yX l p aa).2.tok.at_) (R.rlA2 ts st aa).2 (yX l p aa).2:=by
 unfold yX R.rlA2
 simp only
 rw[znW]
 rcases zmB h with ⟨h1,q2,q3,_⟩ | d
 ·rw[q2,h.tok.1.place]
  rw[h.tok.1.place] at q3
  have hd:decide (65535<R.num (R.cur ts st).s)=!decide (R.num (R.cur ts st).s<=65535):=by rw[Bool.eq_iff_iff];simp
  rw[hd]
  have r1:=Res.note (Or.inl ⟨h1,trivial⟩:Res l ts True _ _) (decide (R.num (R.cur ts st).s<=65535)) 4 (R.cur ts st).at_ (fun _ _=>⟨jn (vP h 4) _ _,by omega⟩)
  have r2:=Res.note r1 (!aa.any fun n=>decide (n=R.num (R.cur ts st).s)) 5 (R.cur ts st).at_ (fun _ q=>⟨q.2 5 (by decide),by rw[jP];omega⟩)
  rw[Bool.not_not] at r2
  refine r2.mono (fun _=>⟨rfl,?_⟩)
  rw[jP,jP];omega
 ·right;rw[R.notS_bad (by rw[R.notS_bad d.bad];exact d.bad),R.notS_bad d.bad];exact yI (yI d _ _ _) _ _ _
theorem zgM (l:List UInt8)(p:P.St)(o:List Int):Still p (yX l p o).2:=((zaT _ _).trans (yC _ _ _ _)).trans (yC _ _ _ _)
theorem zmT (l:List UInt8)(p:P.St):Still p (vH l p).2:=(xD _ _ _).trans (fc _ _ _)
theorem zmP (l:List UInt8)(p:P.St):Still p (j0 l p).2:=by
 unfold j0;split
 ·exact fc _ _ _
 ·exact zkO _
theorem wY (l:List UInt8)(p:P.St):Still p (qh l p).2:=by
 unfold qh
 refine Still.trans ?_ (yC _ _ _ _)
 refine Still.trans ?_ (xD _ _ _)
 exact((xD _ _ _).trans (uA _ _ _)).trans (kO _ _ _ _)
theorem zi2 (l:List UInt8)(n:Int)(a:List UInt8)(m:List P.Mt)(t:List (List UInt8×Int))(c:List UInt8×P.St)(s:List (List UInt8×List UInt8)×P.St):Still s.2 (wH l n a m t c s).2:=
 (kQ _ _ _ _ _).trans (xD _ _ _)
theorem wO (l:List UInt8)(n:Int)(a:List UInt8)(m:List P.Mt)(t:List (List UInt8×Int)×P.St):Still t.2 (vN l n a m t).2:=
 ((zmP _ _).trans (uP _ _ _ _)).trans (zi2 _ _ _ _ _ _ _)
theorem zgS (l:List UInt8)(a:Int×P.St):Still a.2 (uC l a).2:=
 (((zmT _ _).trans (tN _ _ _ _)).trans (wY _ _)).trans (wO _ _ _ _ _)
theorem zrK {l:List UInt8}{ts:List R.Tok}{st:R.St}{p:P.St}(h:Sim l ts st p)(aa:List Int) :
  Res l ts ((jT l p aa).1=(R.rlA ts st aa.length aa).1/\p.tok.at_<(jT l p aa).2.tok.at_) (R.rlA ts st aa.length aa).2 (jT l p aa).2:=by
 unfold jT R.rlA
 refine Res.bind (uh h xH hdRule aa.length 6) (fun hb=>by unfold R.rlA2;simp only;rw[R.kindS_bad hb,R.notS_bad hb,R.amongN_bad hb]) (zgM _ _ _) (fun s1 q1=>?_)
 exact(zlE s1 aa).mono (fun q=>⟨q.1,by have:=q1.1;have:=q.2;omega⟩)
theorem znL {l:List UInt8}{ts:List R.Tok}{tR:List (List UInt8×Int)×R.St}{tP:List (List UInt8×Int)×P.St}(h:Sim l ts tR.2 tP.2)(n:Int)(a:List UInt8)(mR:List R.Mt)(mP:List P.Mt)(hm:mR=mP.map mtOf)(ht:tR.1=tP.1) :
  Res l ts (RlSim (R.ruleE ts n a mR tR).1 (vN l n a mP tP).1/\tP.2.tok.at_<(vN l n a mP tP).2.tok.at_) (R.ruleE ts n a mR tR).2 (vN l n a mP tP).2:=by
 unfold R.ruleE vN wH R.editsS
 simp only
 obtain⟨_,e2,_⟩:=kE h hdReplace
 have rC:Res l ts ((j0 l tP.2).1=(R.rlC ts tR.2).1/\(R.isB tR.2 (R.cur ts tR.2) qW=false->(j0 l tP.2).1=[])/\tP.2.tok.at_<=(j0 l tP.2).2.tok.at_) (R.rlC ts tR.2).2 (j0 l tP.2).2:=by
  unfold j0 R.rlC
  rw[e2]
  cases hb:R.isB tR.2 (R.cur ts tR.2) qW
  ·simp only[zb2,if_false]
   exact Or.inl ⟨h,(by first | rfl | trivial),(by first | trivial | exact fun _=>rfl),zw _⟩
  ·simp only[if_true]
   exact(ziT h qW hdReplace).mono (fun q=>⟨q.1,fun c=>absurd c (by simp),by have:=q.2;omega⟩)
 refine Res.bind rC (fun hb=>by rw[R.stLoop_bad hb,R.dpLoop_bad hb,R.needS_bad hb]) (((uP _ _ _ _).trans (kQ _ _ _ _ _)).trans (xD _ _ _)) (fun s1 q1=>?_)
 refine Res.bind (zlJ (ts.length+1) (l.length+1) [] s1 (by omega) (by omega)) (fun hb=>by rw[R.dpLoop_bad hb,R.needS_bad hb]) ((kQ _ _ _ _ _).trans (xD _ _ _)) (fun s2 q2=>?_)
 rw[q2.1]
 refine Res.bind (zlI ((qy l (l.length+1) (j0 l tP.2).2 []).1.map Prod.fst) (ts.length+1) (l.length+1) [] s2 (by omega) (by omega)) (fun hb=>R.needS_bad hb) (xD _ _ _) (fun s3 q3=>?_)
 refine(yo s3 hd125).mono (fun q=>⟨⟨?_,?_⟩,by have:=q1.2.2;have:=q2.2;have:=q3.2;have:=q.1;omega⟩)
 ·unfold rlOf
  simp only
  rw[hm,ht,q1.1,q3.1]
 ·exact q1.2.1
theorem ziM (ts:List R.Tok)(st:R.St)(e a:Int):R.cur ts { st with E:=e,at_:=a }=R.cur ts st:=rfl
theorem zh9 (st:R.St)(t:R.Tok)(r:List UInt8)(e a:Int):R.isB { st with E:=e,at_:=a } t r=R.isB st t r:=rfl
theorem zjZ {l:List UInt8}{ts:List R.Tok}{tR:List (List UInt8×Int)×R.St}{tP:List (List UInt8×Int)×P.St}(h:Lost l ts tR.2 tP.2)(n:Int)(a:List UInt8)(mR:List R.Mt)(mP:List P.Mt) :
  Dead (R.ruleE ts n a mR tR).2 (vN l n a mP tP).2:=by
 obtain⟨h,hk⟩:=h
 have aa:∀r,R.isB tR.2 (R.cur ts tR.2) r=false:=by
  intro r;unfold R.isB;rw[hk];simp
 have ab:∀r,headOk r->qX tP.2 r=false:=by
  intro r hr;rw[(kE h hr).2.1,ziM,zh9,aa]
 unfold R.ruleE vN wH R.editsS
 simp only
 have c1:R.rlC ts tR.2=([],tR.2):=by unfold R.rlC;rw[aa];rfl
 have c2:j0 l tP.2=([],tP.2):=by unfold j0;rw[ab _ hdReplace];rfl
 rw[c1,c2]
 simp only
 have c3:∀n,R.stLoop ts n tR.2 []=([],tR.2):=by intro n;cases n;rfl;rw[R.stLoop,aa];rfl
 have c4:∀n,qy l n tP.2 []=([],tP.2):=by intro n;cases n;rfl;rw[qy,ab _ hdSet];rfl
 rw[c3,c4]
 simp only
 have c5:∀s n,R.dpLoop ts s n tR.2 []=([],tR.2):=by intro s n;cases n;rfl;rw[R.dpLoop,aa];rfl
 have c6:∀s n,qp l s n tP.2 []=([],tP.2):=by intro s n;cases n;rfl;rw[qp,ab _ hdDrop];rfl
 rw[c5,c6]
 simp only
 rcases yo h hd125 with ⟨_,_,c⟩ | d
 ·rw[ziM,zh9,aa] at c;cases c
 ·refine tv d ?_
  exact fQ (a:={ tR.2 with E:=tP.2.err,at_:=tP.2.fat }) (b:=tR.2) ⟨rfl,rfl⟩ ts [125]
theorem zr9 {l:List UInt8}{ts:List R.Tok}{st:R.St}{p:P.St}(ad:R.Ok ts)(h:Sim l ts st p)(aa:List Int) :
  Res l ts (RlSim (R.ruleS ts st aa.length aa).1 (xg l p aa).1/\p.tok.at_<(xg l p aa).2.tok.at_) (R.ruleS ts st aa.length aa).2 (xg l p aa).2:=by
 unfold R.ruleS xg
 have eT:∀a,R.ruleT ts a=R.ruleE ts a.1 (R.rlB ts a.2).1 (R.matchesS ts (R.rlB ts a.2).2).1 (R.targetsS ts (R.matchesS ts (R.rlB ts a.2).2).2):=fun a=>rfl
 refine Res.bind (zrK h aa) (fun hb=>by
  have:=R.ruleS_bad (ts:=ts) (st:=(R.rlA ts st aa.length aa).2) (i:=0) (l:=[]) hb
  rw[eT]
  have b1:(R.rlB ts (R.rlA ts st aa.length aa).2).2=(R.rlA ts st aa.length aa).2:=R.rlB_bad hb
  have b2:R.matchesS ts (R.rlA ts st aa.length aa).2=([],(R.rlA ts st aa.length aa).2):=R.mtLoop_bad hb
  rw[b1,b2]
  have b3:(R.targetsS ts (R.rlA ts st aa.length aa).2).2=(R.rlA ts st aa.length aa).2:=R.targetsS_bad hb
  unfold R.ruleE
  simp only
  rw[b3,R.rlC_bad hb,R.editsS_bad hb,R.needS_bad hb]) (zgS _ _) (fun s0 q0=>?_)
 rw[eT]
 unfold uC uE
 rw[q0.1]
 generalize(R.rlA ts st aa.length aa).2=sA at*
 generalize(R.rlA ts st aa.length aa).1=num at*
 have hA:=q0.2
 generalize(jT l p aa).2=pA at*
 have rB:Res l ts ((vH l pA).1=(R.rlB ts sA).1/\pA.tok.at_<(vH l pA).2.tok.at_) (R.rlB ts sA).2 (vH l pA).2:=by
  unfold vH R.rlB
  simp only
  refine Res.bind (yo s0 hd123) (fun hb=>by rw[R.needS_bad hb,R.pathS_bad hb,R.needS_bad hb]) (fc _ _ _) (fun s1 q1=>?_)
  exact(ziT s1 jC hdPath).mono (fun q=>⟨q.1,by have:=q1.1;have:=q.2;omega⟩)
 have ab:∀(t:List (List UInt8×Int)×R.St) n a m,0<=t.2.bad->(R.ruleE ts n a m t).2=t.2:=by
  intro t n a m hb
  unfold R.ruleE;simp only
  rw[R.rlC_bad hb,R.editsS_bad hb,R.needS_bad hb]
 refine Res.bind rB (fun hb=>by
  have b2:R.matchesS ts (R.rlB ts sA).2=([],(R.rlB ts sA).2):=R.mtLoop_bad hb
  rw[b2]
  have b3:(R.targetsS ts (R.rlB ts sA).2).2=(R.rlB ts sA).2:=R.targetsS_bad hb
  exact(ab (R.targetsS ts (R.rlB ts sA).2) num (R.rlB ts sA).1 [] (by rw[b3];exact hb)).trans b3) (((tN _ _ _ _).trans (wY _ _)).trans (wO _ _ _ _ _)) (fun s1 q1=>?_)
 rw[q1.1]
 have hB:=q1.2
 generalize(R.rlB ts sA).2=sB at*
 generalize(R.rlB ts sA).1=pth at*
 generalize(vH l pA).2=pB at*
 have rM:=zkG (ts.length+1) (l.length+1) [] [] s1 rfl (by omega) (by omega)
 rw[show R.mtLoop ts (ts.length+1) sB []=R.matchesS ts sB from rfl] at rM
 generalize R.matchesS ts sB=mR at*
 generalize xL l (l.length+1) pB []=mP at*
 refine Res.bind rM (fun hb=>by
  have b3:(R.targetsS ts mR.2).2=mR.2:=R.targetsS_bad hb
  exact(ab (R.targetsS ts mR.2) num pth mR.1 (by rw[b3];exact hb)).trans b3) ((wY _ _).trans (wO _ _ _ _ _)) (fun s2 q2=>?_)
 rcases ziJ ad s2 with hr | hl
 ·generalize R.targetsS ts mR.2=tR at*
  generalize qh l mP.2=tP at*
  refine Res.bind hr (fun hb=>ab tR num pth mR.1 hb) (wO _ _ _ _ _) (fun s3 q3=>?_)
  exact(znL s3 num pth mR.1 mP.1 q2.1 q3.1.symm).mono (fun q=>⟨q.1,by have:=q2.2;have:=q3.2;have:=q.2;omega⟩)
 ·exact Or.inr (zjZ hl num pth mR.1 mP.1)
theorem zfX {l:List UInt8}{ts:List R.Tok}{st:R.St}{p:P.St}(h:Sim l ts st p)(aa:List (List UInt8)) :
  Res l ts ((xX l p aa).1=(R.hsA2 ts st aa).1/\p.tok.at_<(xX l p aa).2.tok.at_) (R.hsA2 ts st aa).2 (xX l p aa).2:=by
 unfold xX R.hsA2 tD
 simp only
 rw[ziX]
 rcases tL h with ⟨h1,q2,q3⟩ | d
 ·rw[q2,h.tok.1.place]
  rw[h.tok.1.place] at q3
  have r1:=Res.note (Or.inl ⟨h1,trivial⟩:Res l ts True _ _) (R.named (R.cur ts st).s true) 4 (R.cur ts st).at_ (fun _ _=>⟨jn (vP h 4) _ _,by omega⟩)
  have r2:=Res.note r1 (!aa.any fun n=>decide (n=R.lower (R.cur ts st).s)) 5 (R.cur ts st).at_ (fun _ q=>⟨q.2 5 (by decide),by rw[jP];omega⟩)
  rw[Bool.not_not] at r2
  refine r2.mono (fun _=>⟨rfl,?_⟩)
  rw[jP,jP];omega
 ·right;rw[R.notS_bad (by rw[R.notS_bad d.bad];exact d.bad),R.notS_bad d.bad];exact yI (yI d _ _ _) _ _ _
theorem zcD (l:List UInt8)(p:P.St)(o:List (List UInt8)):Still p (xX l p o).2:=((kC _ _).trans (yC _ _ _ _)).trans (yC _ _ _ _)
theorem zdC {a:List R.Rl}{b:List P.Rl}(h:All2 RlSim a b):a.map R.Rl.number=b.map P.Rl.number:=by
 induction h with
 | nil=>rfl
 | cons h _ ih=>rw[xl,xl,ih,h.1];rfl
theorem uF (l:List UInt8)(n:Nat)(p:P.St)(aa:List P.Rl):Still p (xR l n p aa).2:=by
 intro hb
 cases n
 ·exact⟨hb,rfl⟩
 ·rw[xR,jI hb];exact⟨hb,rfl⟩
theorem zkC {l:List UInt8}{ts:List R.Tok}(ad:R.Ok ts):∀(n m:Nat) {st:R.St} {p:P.St} (ab:List R.Rl) (aa:List P.Rl),Sim l ts st p->All2 RlSim ab aa->ts.length<n+st.K->l.length<m+p.tok.at_->
  Res l ts (All2 RlSim (R.rlLoop ts n st ab).1 (xR l m p aa).1/\p.tok.at_<=(xR l m p aa).2.tok.at_) (R.rlLoop ts n st ab).2 (xR l m p aa).2:=by
 intro n
 induction n with
 | zero=>intro m st p ab aa h _ hn _;have:=h.tok.2;omega
 | succ n ih=>
  intro m st p ab aa h ha hn hm
  match m,hm with
  | 0,hm=>have:=h.atLe;omega
  | m+1,hm=>
   obtain⟨_,e2,_⟩:=kE h hdRule
   rw[R.rlLoop,xR,e2]
   cases hgo:R.isB st (R.cur ts st) xH
   ·simp only[zb2,if_false]
    exact Or.inl ⟨h,ha,zw _⟩
   ·simp only[if_true]
    have hK:=R.ruleS_K ts st ab.length (ab.map R.Rl.number) hgo
    have hr:=zr9 ad h (aa.map P.Rl.number)
    rw[xW,<-ha.len,<-zdC ha] at hr
    rw[<-zdC ha]
    rcases hr with ⟨s1,q1,q2⟩ | d
    ·exact(ih m _ _ s1 (ha.snoc q1) (by omega) (by omega)).mono (fun q=>⟨q.1,by have:=q.2;omega⟩)
    ·right
     rw[R.rlLoop_bad d.bad]
     have hs:=uF l m _ (aa++[(xg l p (ab.map R.Rl.number)).1]) d.broken
     exact⟨d.bad,hs.1,by rw[hs.2];exact d.place⟩
def HstSim (a:R.Hst)(b:P.Hst):Prop:=a.name=b.name/\All2 RlSim a.rules b.rules
theorem zoK {a:List R.Hst}{b:List P.Hst}(h:All2 HstSim a b):a.map R.Hst.name=b.map P.Hst.name:=by
 induction h with
 | nil=>rfl
 | cons h _ ih=>rw[xl,xl,ih,h.1]
theorem zpC {l:List UInt8}{ts:List R.Tok}{st:R.St}{p:P.St}(ab:R.Ok ts)(h:Sim l ts st p)(aa:List (List UInt8)) :
  Res l ts (HstSim (R.hostS ts st aa).1 (xj l p aa).1/\p.tok.at_<(xj l p aa).2.tok.at_) (R.hostS ts st aa).2 (xj l p aa).2:=by
 unfold R.hostS xj
 have rA:Res l ts ((kI l p aa).1=(R.hsA ts st aa).1/\p.tok.at_<(kI l p aa).2.tok.at_) (R.hsA ts st aa).2 (kI l p aa).2:=by
  unfold kI R.hsA
  refine Res.bind (uh h R.wHost hdHost aa.length 4) (fun hb=>by unfold R.hsA2;simp only;rw[R.kindS_bad hb,R.notS_bad hb,R.among_bad hb]) (zcD _ _ _) (fun s1 q1=>?_)
  exact(zfX s1 aa).mono (fun q=>⟨q.1,by have:=q1.1;have:=q.2;omega⟩)
 refine Res.bind rA (fun hb=>R.hsB_bad hb) (((xD _ _ _).trans (uF _ _ _ _)).trans (xD _ _ _)) (fun s1 q1=>?_)
 unfold R.hsB ziB
 simp only
 refine Res.bind (yo s1 hd123) (fun hb=>by rw[R.rlLoop_bad hb,R.needS_bad hb]) ((uF _ _ _ _).trans (xD _ _ _)) (fun s2 q2=>?_)
 refine Res.bind (zkC ab (ts.length+1) (l.length+1) [] [] s2 .nil (by omega) (by omega)) (fun hb=>R.needS_bad hb) (xD _ _ _) (fun s3 q3=>?_)
 exact(yo s3 hd125).mono (fun q=>⟨⟨q1.1.symm,q3.1⟩,by have:=q1.2;have:=q2.1;have:=q3.2;have:=q.1;omega⟩)
theorem ztH {l:List UInt8}{ts:List R.Tok}(ai:R.Ok ts):∀(n m:Nat) {st:R.St} {p:P.St} (aa:List R.Hst) (ab:List P.Hst),Sim l ts st p->All2 HstSim aa ab->ts.length+1<n+st.K->l.length<m+p.tok.at_->
  ((R.hsLoop ts n st aa).2.bad<0/\(jm l (qn l m p ab).2).broken=false/\(jm l (qn l m p ab).2).err=(R.hsLoop ts n st aa).2.E/\((R.hsLoop ts n st aa).2.E≠0->(jm l (qn l m p ab).2).fat=(R.hsLoop ts n st aa).2.at_)/\All2 HstSim (R.hsLoop ts n st aa).1 (qn l m p ab).1)\/
  Dead (R.hsLoop ts n st aa).2 (jm l (qn l m p ab).2):=by
 intro n
 induction n with
 | zero=>intro m st p aa ab h _ hn _;have:=h.tok.2;omega
 | succ n ih=>
  intro m st p aa ab h ha hn hm
  match m,hm with
  | 0,hm=>have:=h.atLe;omega
  | m+1,hm=>
   obtain⟨_,e2,_⟩:=kE h hdHost
   rw[qn,e2,R.hsLoop]
   by_cases h0:(R.cur ts st).k=0
   · -- the end
    rw[if_neg (fun c=>c.2 h0)]
    have hb:R.isB st (R.cur ts st) R.wHost=false:=by unfold R.isB;rw[h0];simp
    rw[hb]
    simp only[zb2,if_false]
    left
    have hk:p.tok.k=0:=by
     cases h.tok.1 with
     | fin _ k j=>exact j
     | word _ k j=>omega
     | num _ k j=>omega
     | str _ k j=>omega
     | sign _ k j=>omega
     | wrong _ k j=>omega
    have he:jm l p=uO l p (p.tok.at_+p.tok.raw.length):=by
     unfold jm qg;rw[hk,if_pos ⟨rfl,h.nk⟩]
    rw[he]
    exact⟨h.nb,h.nk,h.err,h.fat,ha⟩
   ·rw[if_pos ⟨h.nb,h0⟩]
    cases hgo:R.isB st (R.cur ts st) R.wHost
    · -- no host
     simp only[zb2,if_false]
     right
     have ag:(R.needS ts st R.wHost).bad=(R.cur ts st).at_:=R.needS_no h.nb hgo
     have ae:0<=(R.needS ts st R.wHost).bad:=by rw[ag];exact Int.natCast_nonneg _
     have hh:(R.hostS ts st (aa.map R.Hst.name)).2=R.needS ts st R.wHost:=by
      unfold R.hostS
      have:=R.hsA_bad (ts:=ts) (st:=st) (l:=aa.map R.Hst.name) ae
      rw[R.hsB_bad (by rw[this];exact ae),this]
     have af:∀k ad,(R.hsLoop ts k (R.needS ts st R.wHost) ad).2=R.needS ts st R.wHost:=by
      intro k ad;cases k
      ·rfl
      ·rw[R.hsLoop,if_neg (fun c=>by have:=c.1;omega)]
     rw[hh,af]
     have hk:¬p.tok.k=0:=by
      cases h.tok.1 with
      | fin _ k j=>exact absurd k h0
      | word _ k j=>omega
      | num _ k j=>omega
      | str _ k j=>omega
      | sign _ k j=>omega
      | wrong _ k j=>omega
     have he:jm l p={ p with broken:=true }:=by
      unfold jm qg;rw[if_neg (fun c=>hk (by simpa using c.1))]
     rw[he]
     exact⟨ae,rfl,by rw[ag];show(p.tok.at_:Int)=_;rw[h.tok.1.place]⟩
    ·simp only[if_true]
     have hr:=zpC ai h (ab.map P.Hst.name)
     rw[<-zoK ha] at hr ⊢
     rcases hr with ⟨s1,q1,q2⟩ | d
     ·have hg:=R.hostS_go ts st (aa.map R.Hst.name) h.nb s1.nb
      exact ih m _ _ s1 (ha.snoc q1) (by omega) (by omega)
     ·right
      have af:∀k ad,(R.hsLoop ts k (R.hostS ts st (aa.map R.Hst.name)).2 ad).2=(R.hostS ts st (aa.map R.Hst.name)).2:=by
       intro k ad;cases k
       ·rfl
       ·rw[R.hsLoop,if_neg (fun c=>by have:=c.1;have:=d.bad;omega)]
      have ah:∀k ad,(qn l k (xj l p (aa.map R.Hst.name)).2 ad).2=(xj l p (aa.map R.Hst.name)).2:=by
       intro k ad;cases k
       ·rfl
       ·rw[qn,jI d.broken];rfl
      rw[af,ah]
      have hs:=uI l (xj l p (aa.map R.Hst.name)).2 ((xj l p (aa.map R.Hst.name)).2.tok.k == 0) d.broken
      exact⟨d.bad,hs.1,by rw[show(jm l (xj l p (aa.map R.Hst.name)).2).tok=(xj l p (aa.map R.Hst.name)).2.tok from hs.2];exact d.place⟩
theorem zh6 (l:List UInt8)(hl:l.length<=3000) :
  ((R.readS l).2.bad<0/\(qD l).2.broken=false/\(qD l).2.err=(R.readS l).2.E/\((R.readS l).2.E≠0->(qD l).2.fat=(R.readS l).2.at_)/\All2 HstSim (R.readS l).1 (qD l).1)\/Dead (R.readS l).2 (qD l).2:=by
 obtain⟨aa,ab⟩:=R.toks_ok l hl
 unfold R.readS qD
 simp only
 refine ztH aa ((R.toks l).length+2) (l.length+1) [] [] ⟨by show(-1:Int)<0;decide,rfl,⟨l.length+1,0,by omega,by omega,rfl,rfl⟩,rfl,fun h=>absurd rfl h,fun h=>absurd rfl h⟩ .nil (by omega) (by omega)
end Go.Proofs.YtfocdefchbnkpaaGreatDoor
