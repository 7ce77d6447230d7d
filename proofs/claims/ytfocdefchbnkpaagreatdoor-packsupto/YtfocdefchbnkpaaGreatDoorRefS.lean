/- What a text without a fault says: few hosts and rules, names and numbers that differ, short strings. -/
import Derived.Test.YtfocdefchbnkpaaGreatDoorAli
import Derived.Test.YtfocdefchbnkpaaGreatDoorRefR
import Derived.Test.YtfocdefchbnkpaaGreatDoorRefN
import Derived.Test.YtfocdefchbnkpaaGreatDoorProW
import Derived.ArgAppend
import Derived.OwnWalk
import Derived.Laws.OwnMore
import Derived.Deep.QuietTactic
import Derived.BigQuiet
import Derived.Shelf.Strings.Repeat
import Derived.Shelf.Strings.OnBuilder
import Derived.Shelf.Strconv.Itoa3
import Derived.Ground.NamesProg
import Derived.Test.YtfocdefchbnkpaaGreatDoorProg
set_option maxRecDepth 100000
set_option maxHeartbeats 20000000
namespace Go.Proofs.YtfocdefchbnkpaaGreatDoor
open Go.RowKit
def Fine (st:R.St):Prop:=st.bad<0/\st.E=0
theorem zf1 {t:R.Tok}{st:R.St}{ok:Bool}(h:Fine (R.overS t st ok)):Fine st/\ok=true:=by
 unfold R.overS at h
 split at h
 ·exact absurd h.1 (by omega)
 ·split at h
  ·rename_i ho;exact⟨h,ho⟩
  ·have:=h.1;simp only at this;omega
theorem yq {st:R.St}{ok:Bool}{e a:Int}(he:e≠0)(h:Fine (R.notS st ok e a)):Fine st/\ok=true:=by
 unfold R.notS at h
 split at h
 ·exact absurd h.2 he
 ·rename_i hn
  refine⟨h,?_⟩
  cases ok with
  | true=>rfl
  | false=>exact absurd ⟨rfl,h.2,h.1⟩ hn
theorem xp {ts:List R.Tok}{st:R.St}{s:List UInt8}(h:Fine (R.needS ts st s)):Fine st:=(zf1 h).1
theorem vw {ts:List R.Tok}{st:R.St}{k:Int}(h:Fine (R.kindS ts st k)):Fine st/\(R.cur ts st).k=k:=by
 obtain⟨h1,h2⟩:=zf1 h
 exact⟨h1,by simpa using h2⟩
theorem zcT {s:List UInt8}{p:Int}:∀(l:List (List UInt8)){st:R.St},Fine (R.among l s p st)->Fine st/\s ∉ l:=by
 intro l
 induction l with
 | nil=>intro st h;exact⟨h,by simp⟩
 | cons a l ih=>
  intro st h
  obtain⟨h1,h2⟩:=ih (st:=R.notS st (decide (a≠s)) 5 p) h
  obtain⟨h3,h4⟩:=yq (by decide) h1
  refine⟨h3,fun hm=>?_⟩
  rcases List.mem_cons.1 hm with rfl | hm
  ·simp at h4
  ·exact h2 hm
theorem ziY {s:Int}{p:Int}:∀(l:List Int){st:R.St},Fine (R.amongN l s p st)->Fine st/\s ∉ l:=by
 intro l
 induction l with
 | nil=>intro st h;exact⟨h,by simp⟩
 | cons a l ih=>
  intro st h
  obtain⟨h1,h2⟩:=ih (st:=R.notS st (!decide (a=s)) 5 p) h
  obtain⟨h3,h4⟩:=yq (by decide) h1
  refine⟨h3,fun hm=>?_⟩
  rcases List.mem_cons.1 hm with rfl | hm
  ·simp at h4
  ·exact h2 hm
theorem kW {ts:List R.Tok}(aa:R.Ok ts)(st:R.St):(R.cur ts st).s.length<=3000:=by
 unfold R.cur
 rw[List.getD_eq_getElem?_getD]
 cases h:ts[st.K]? with
 | none=>simp
 | some t=>exact aa.strs _ _ h
theorem zmG {ts:List R.Tok}(aa:R.Ok ts)(st:R.St)(hk:(R.cur ts st).k=49):0<=R.num (R.cur ts st).s/\R.num (R.cur ts st).s<=99999:=by
 unfold R.cur at hk ⊢
 rw[List.getD_eq_getElem?_getD] at hk ⊢
 cases h:ts[st.K]? with
 | none=>rw[h] at hk;simp at hk
 | some t=>rw[h] at hk;exact aa.nums _ _ h hk
theorem zf4 {ts:List R.Tok}{st:R.St}(h:Fine (R.pathS ts st).2):Fine st/\R.path (R.pathS ts st).1=true:=by
 obtain⟨h1,h2⟩:=yq (by decide) h
 exact⟨(vw h1).1,h2⟩
theorem zdA {ts:List R.Tok}{st:R.St}(h:Fine (R.valueS ts st).2):Fine st:=xp (vw (yq (by decide) h).1).1
theorem f9 {ts:List R.Tok}{st:R.St}{l:List (List UInt8)}(h:Fine (R.headerS ts st l).2):Fine st:=
 (vw (yq (by decide) (zcT l h).1).1).1
theorem zoB {l:List UInt8}(h:R.path l=true):l≠[]:=by
 intro e;subst e;simp[R.path] at h
def FewM (l:List R.Mt):Prop:=l.length<=3/\∀m∈l,m.name.length<=3000/\m.val.length<=3000
theorem zhI {ts:List R.Tok}(ab:R.Ok ts)(n:Nat):∀(st:R.St) (aa:List R.Mt),Fine (R.mtLoop ts n st aa).2->Fine st/\(FewM aa->FewM (R.mtLoop ts n st aa).1):=by
 induction n with
 | zero=>intro st aa h;exact⟨h,id⟩
 | succ n ih=>
  intro st aa h
  unfold R.mtLoop at h ⊢
  split at h
  ·rename_i hb
   rw[if_pos hb]
   obtain⟨h1,h2⟩:=ih _ _ h
   have h3:=xp h1
   have h4:Fine (jK ts st aa.length).2:=by
    unfold wK at h3;split at h3
    ·exact zdA h3
    ·exact h3
   obtain⟨h5,h6⟩:=yq (by decide) (f9 h4)
   refine⟨xp h5,fun ha=>h2 ⟨?_,?_⟩⟩
   ·have:aa.length<3:=by have:=of_decide_eq_true h6;omega
    unfold ya;simp;omega
   ·intro m hm
    unfold ya at hm
    rcases List.mem_append.1 hm with hm | hm
    ·exact ha.2 m hm
    ·simp at hm;subst hm
     refine⟨by show(R.lower _).length<=3000;rw[vW];exact kW ab _,?_⟩
     show(wK ts (jK ts st aa.length).2).1.length<=3000
     unfold wK;split
     ·exact kW ab _
     ·simp
  ·rename_i hb;rw[if_neg hb];exact⟨h,id⟩
def FewT (i:Nat)(l:List (List UInt8×Int)):Prop:=i<=4/\l.length<=i/\∀t∈l,t.1.length<=3000/\0<=t.2/\t.2<=99999
theorem zhT {ts:List R.Tok}(ab:R.Ok ts)(n:Nat):∀(st:R.St) (i:Nat) (aa:List (List UInt8×Int)),Fine (R.tgLoop ts n st i aa).2->Fine st/\(FewT i aa->∃j,FewT j (R.tgLoop ts n st i aa).1):=by
 induction n with
 | zero=>intro st i aa h;exact⟨h,fun h=>⟨i,h⟩⟩
 | succ n ih=>
  intro st i aa h
  unfold R.tgLoop at h ⊢
  split at h
  ·rename_i hb
   rw[if_pos hb]
   have hR:∀(hf:Fine (qP ts st i aa).1),Fine st/\(FewT i aa->FewT (i+1) (qP ts st i aa).2):=by
    intro hf
    obtain⟨g1,g2⟩:=yq (by decide) hf
    obtain⟨g3,g4⟩:=yq (by decide) g1
    obtain⟨g5,g6⟩:=yq (by decide) g3
    obtain⟨g7,g8⟩:=vw g5
    obtain⟨g9,_⟩:=vw g7
    have hi:i<4:=by have:=of_decide_eq_true g6;omega
    refine⟨g9,fun ha=>⟨by omega,?_,?_⟩⟩
    ·have:=ha.2.1
     unfold qP;simp only;split
     ·simp;omega
     ·omega
    ·intro t ht
     unfold qP at ht;simp only at ht
     split at ht
     ·rcases List.mem_append.1 ht with ht | ht
      ·exact ha.2.2 t ht
      ·simp at ht;subst ht
       exact⟨kW ab _,zmG ab _ g8⟩
     ·exact ha.2.2 t ht
   split at h
   ·rename_i hc
    rw[if_pos hc]
    obtain⟨h1,h2⟩:=ih _ _ _ h
    obtain⟨h3,h4⟩:=hR (xp h1)
    exact⟨h3,fun ha=>h2 (h4 ha)⟩
   ·rename_i hc
    rw[if_neg hc]
    obtain⟨h3,h4⟩:=hR h
    exact⟨h3,fun ha=>⟨_,h4 ha⟩⟩
  ·rename_i hb;rw[if_neg hb];exact⟨h,fun h=>⟨i,h⟩⟩
def FewS (l:List (List UInt8×List UInt8)):Prop:=l.length<=3/\∀m∈l,m.1.length<=3000/\m.2.length<=3000
theorem zi6 {ts:List R.Tok}(ab:R.Ok ts)(n:Nat):∀(st:R.St) (aa:List (List UInt8×List UInt8)),Fine (R.stLoop ts n st aa).2->Fine st/\(FewS aa->FewS (R.stLoop ts n st aa).1):=by
 induction n with
 | zero=>intro st aa h;exact⟨h,id⟩
 | succ n ih=>
  intro st aa h
  unfold R.stLoop at h ⊢
  split at h
  ·rename_i hb
   rw[if_pos hb]
   obtain⟨h1,h2⟩:=ih _ _ h
   obtain⟨h5,h6⟩:=yq (by decide) (f9 (zdA (xp h1)))
   refine⟨xp h5,fun ha=>h2 ⟨?_,?_⟩⟩
   ·have:aa.length<3:=by have:=of_decide_eq_true h6;omega
    unfold yb;simp;omega
   ·intro m hm
    unfold yb at hm
    rcases List.mem_append.1 hm with hm | hm
    ·exact ha.2 m hm
    ·simp at hm;subst hm
     exact⟨by show(R.lower _).length<=3000;rw[vW];exact kW ab _,kW ab _⟩
  ·rename_i hb;rw[if_neg hb];exact⟨h,id⟩
def FewD (l:List (List UInt8)):Prop:=l.length<=3/\∀m∈l,m.length<=3000
theorem zhG {ts:List R.Tok}(ad:R.Ok ts)(ab:List (List UInt8))(n:Nat):∀(st:R.St) (aa:List (List UInt8)),Fine (R.dpLoop ts ab n st aa).2->Fine st/\(FewD aa->FewD (R.dpLoop ts ab n st aa).1):=by
 induction n with
 | zero=>intro st aa h;exact⟨h,id⟩
 | succ n ih=>
  intro st aa h
  unfold R.dpLoop at h ⊢
  split at h
  ·rename_i hb
   rw[if_pos hb]
   obtain⟨h1,h2⟩:=ih _ _ h
   obtain⟨h5,h6⟩:=yq (by decide) (f9 (xp h1))
   refine⟨xp h5,fun ha=>h2 ⟨?_,?_⟩⟩
   ·have:aa.length<3:=by have:=of_decide_eq_true h6;omega
    unfold yY;simp;omega
   ·intro m hm
    unfold yY at hm
    rcases List.mem_append.1 hm with hm | hm
    ·exact ha.2 m hm
    ·simp at hm;subst hm
     show(R.lower _).length<=3000;rw[vW];exact kW ad _
  ·rename_i hb;rw[if_neg hb];exact⟨h,id⟩
def GoodRl (r:R.Rl):Prop:=R.Small r/\(r.change=true->r.to≠[])
theorem znF {ts:List R.Tok}(aa:R.Ok ts)(st:R.St)(i:Nat)(ab:List Int)(h:Fine (R.ruleS ts st i ab).2):Fine st/\i<6/\(R.ruleS ts st i ab).1.number ∉ ab/\GoodRl (R.ruleS ts st i ab).1:=by
 unfold R.ruleS R.ruleT R.ruleE at h ⊢
 simp only at h ⊢
 generalize hA:R.rlA ts st i ab=A at*
 generalize hB:R.rlB ts A.2=B at*
 generalize hM:R.matchesS ts B.2=M at*
 generalize hT:R.targetsS ts M.2=T at*
 generalize hC:R.rlC ts T.2=C at*
 have h1:=xp h
 unfold R.editsS at h1
 simp only at h1
 obtain⟨h2,d2⟩:=zhG aa _ _ _ _ h1
 obtain⟨h3,d3⟩:=zi6 aa _ _ _ h2
 have hc:Fine T.2/\C.1.length<=3000/\(R.isB T.2 (R.cur ts T.2) qW=true->C.1≠[]):=by
  rw[<-hC] at h3 ⊢
  unfold R.rlC at h3 ⊢
  split at h3
  ·rename_i hb
   rw[if_pos hb]
   obtain⟨g1,g2⟩:=zf4 (xp h3)
   exact⟨xp g1,kW aa _,fun _=>zoB g2⟩
  ·rename_i hb
   rw[if_neg hb]
   exact⟨h3,by simp,fun e=>absurd e hb⟩
 obtain⟨ag,an,ao⟩:=hc
 have ht:Fine M.2/\∃j,FewT j T.1:=by
  rw[<-hT] at ag ⊢
  unfold R.targetsS at ag ⊢
  obtain⟨g1,g2⟩:=zhT aa _ _ _ _ (xp ag)
  exact⟨xp (yq (by decide) g1).1,g2 ⟨by decide,by simp,fun t ht=>by simp at ht⟩⟩
 obtain⟨af,j,hj⟩:=ht
 have hm:Fine B.2/\FewM M.1:=by
  rw[<-hM] at af ⊢
  unfold R.matchesS at af ⊢
  obtain⟨g1,g2⟩:=zhI aa _ _ _ af
  exact⟨g1,g2 ⟨by simp,fun t ht=>by simp at ht⟩⟩
 obtain⟨ae,ah⟩:=hm
 have hb:Fine A.2/\B.1.length<=3000:=by
  rw[<-hB] at ae ⊢
  unfold R.rlB at ae ⊢
  exact⟨xp (xp (zf4 (xp ae)).1),kW aa _⟩
 obtain⟨ad,am⟩:=hb
 have ha:Fine st/\i<6/\A.1 ∉ ab/\0<=A.1/\A.1<=99999:=by
  rw[<-hA] at ad ⊢
  unfold R.rlA R.rlA2 at ad ⊢
  obtain⟨g1,g2⟩:=ziY _ ad
  obtain⟨g3,g4⟩:=yq (by decide) g1
  obtain⟨g5,g6⟩:=vw g3
  obtain⟨g7,g8⟩:=yq (by decide) g5
  exact⟨xp g7,by have:=of_decide_eq_true g8;omega,g2,zmG aa _ g6⟩
 obtain⟨ai,aj,ak,al⟩:=ha
 have e3:=d3 ⟨by simp,fun t ht=>by simp at ht⟩
 have e2:=d2 ⟨by simp,fun t ht=>by simp at ht⟩
 refine⟨ai,aj,ak,⟨al,am,⟨by have:=ah.1;simp only;omega,ah.2⟩,⟨by have:=hj.1;have:=hj.2.1;simp only;omega,hj.2.2⟩,an,⟨by have:=e3.1;unfold R.editsS;simp only;omega,e3.2⟩,⟨by have:=e2.1;unfold R.editsS;simp only;omega,e2.2⟩⟩,ao⟩
def GoodRs (l:List R.Rl):Prop:=l.length<=6/\(l.map R.Rl.number).Pairwise (·≠·)/\∀r∈l,GoodRl r
theorem zjJ {ts:List R.Tok}(ab:R.Ok ts)(n:Nat):∀(st:R.St) (aa:List R.Rl),Fine (R.rlLoop ts n st aa).2->Fine st/\(GoodRs aa->GoodRs (R.rlLoop ts n st aa).1):=by
 induction n with
 | zero=>intro st aa h;exact⟨h,id⟩
 | succ n ih=>
  intro st aa h
  unfold R.rlLoop at h ⊢
  split at h
  ·rename_i hb
   rw[if_pos hb]
   obtain⟨h1,h2⟩:=ih _ _ h
   obtain⟨h3,h4,h5,h6⟩:=znF ab _ _ _ h1
   refine⟨h3,fun ha=>h2 ⟨by rw[zh];simp;omega,?_,?_⟩⟩
   ·rw[fJ,List.pairwise_append]
    refine⟨ha.2.1,by simp,fun a hm b hb2=>?_⟩
    simp at hb2;subst hb2
    exact fun e=>h5 (e ▸ hm)
   ·intro r hr
    rcases List.mem_append.1 hr with hr | hr
    ·exact ha.2.2 r hr
    ·simp at hr;subst hr;exact h6
  ·rename_i hb;rw[if_neg hb];exact⟨h,id⟩
def GoodHst (h:R.Hst):Prop:=h.name.length<=3000/\GoodRs h.rules
theorem zoJ {ts:List R.Tok}(ab:R.Ok ts)(st:R.St)(aa:List (List UInt8))(h:Fine (R.hostS ts st aa).2):Fine st/\aa.length<4/\(R.hostS ts st aa).1.name ∉ aa/\GoodHst (R.hostS ts st aa).1:=by
 unfold R.hostS R.hsB at h ⊢
 simp only at h ⊢
 obtain⟨h1,h2⟩:=zjJ ab _ _ _ (xp h)
 have h3:=xp h1
 have h4:=h2 ⟨by simp,.nil,fun r hr=>by simp at hr⟩
 unfold R.hsA R.hsA2 at h3
 obtain⟨g1,g2⟩:=zcT _ h3
 obtain⟨g5,_⟩:=vw (yq (by decide) g1).1
 obtain⟨g7,g8⟩:=yq (by decide) g5
 refine⟨xp g7,by have:=of_decide_eq_true g8;omega,g2,?_,h4⟩
 show(R.lower _).length<=3000
 rw[vW];exact kW ab _
def GoodHs (l:List R.Hst):Prop:=l.length<=4/\(l.map R.Hst.name).Pairwise (·≠·)/\∀r∈l,GoodHst r
theorem zjE {ts:List R.Tok}(ab:R.Ok ts)(n:Nat):∀(st:R.St) (aa:List R.Hst),Fine (R.hsLoop ts n st aa).2->Fine st/\(GoodHs aa->GoodHs (R.hsLoop ts n st aa).1):=by
 induction n with
 | zero=>intro st aa h;exact⟨h,id⟩
 | succ n ih=>
  intro st aa h
  unfold R.hsLoop at h ⊢
  split at h
  ·rename_i hb
   rw[if_pos hb]
   obtain⟨h1,h2⟩:=ih _ _ h
   obtain⟨h3,h4,h5,h6⟩:=zoJ ab _ _ h1
   refine⟨h3,fun ha=>h2 ⟨by rw[zh];simp at h4 ⊢;omega,?_,?_⟩⟩
   ·rw[fJ,List.pairwise_append]
    refine⟨ha.2.1,by simp,fun a hm b hb2=>?_⟩
    simp at hb2;subst hb2
    exact fun e=>h5 (e ▸ hm)
   ·intro r hr
    rcases List.mem_append.1 hr with hr | hr
    ·exact ha.2.2 r hr
    ·simp at hr;subst hr;exact h6
  ·rename_i hb;rw[if_neg hb];exact⟨h,id⟩
theorem zmX (l:List UInt8)(hl:l.length<=3000)(h:Fine (R.readS l).2):GoodHs (R.readS l).1:=by
 obtain⟨aa,_⟩:=R.toks_ok l hl
 exact(zjE aa _ _ _ h).2 ⟨by simp,.nil,fun r hr=>by simp at hr⟩
def L.sg (k n m:Nat):List Value:=(List.range m).map fun i=>Value.int .u8 (xe k (n+i):Nat)
theorem wh (k n m:Nat):(L.sg k n m).length=m:=by simp[L.sg]
theorem zaZ (k n m p:Nat)(h:p<=m):(L.sg k n m).take p=L.sg k n p:=by
 unfold L.sg;rw[<-List.map_take,List.take_range,Nat.min_eq_left h]
theorem zcH (k n m:Nat):L.sg k 0 n++L.sg k n m=L.sg k 0 (n+m):=by
 unfold L.sg
 rw[List.range_add,fJ,List.map_map]
 congr 1
 simp
theorem zj5 (k n m:Nat):∀u∈L.sg k n m,u.oneCell'=true:=by
 intro u hu;unfold L.sg at hu;obtain⟨i,_,rfl⟩:=List.mem_map.1 hu;rfl
theorem fh {w:World}{B:Nat}{e:TypeId}{a:Option Addr}{n m c:Nat}{xs:List Value}(h:w.ownsRow B e 1 (.slice a n c) n xs)(hm:m<=n):w.ownsRow B e 1 (.slice a m c) m (xs.take m):=by
 obtain⟨h1,h2⟩:=h
 refine⟨by rw[List.length_take];omega,?_⟩
 rcases h2 with ⟨h2,h3⟩ | ⟨g,cap,cur,h2,hB,hb,hle,hmx,hsz,htk⟩
 ·simp only[qQ] at h2
  exact Or.inl ⟨by rw[h2.1,h2.2.2];congr 1;omega,by omega⟩
 ·simp only[qQ,true_and] at h2
  refine Or.inr ⟨g,cap,cur,by rw[h2.1,h2.2],hB,hb,by omega,hmx,hsz,?_⟩
  rw[<-htk,List.take_take,Nat.min_eq_left (by omega),Nat.mul_one]
def L.Out (w:World)(B:Nat)(a:Option Addr)(c k n p m:Nat)(v:Value):Prop:=
 (v = .slice a (n+m) c/\m<=p/\a≠none)\/(w.ownsRow B 5 1 v (n+m) (L.sg k 0 (n+m))/\∀g,v.ownBlock=some g->(Value.slice a n c).ownBlock≠some g)
theorem L.Out.row {w:World}{B:Nat}{a:Option Addr}{c k n p m:Nat}{v:Value}(h:L.Out w B a c k n p m v)(hr:w.ownsRow B 5 1 (.slice a (n+p) c) (n+p) (L.sg k 0 (n+p))):w.ownsRow B 5 1 v (n+m) (L.sg k 0 (n+m)):=by
 rcases h with ⟨rfl,hm,_⟩ | ⟨h,_⟩
 ·have:=fh hr (m:=n+m) (by omega)
  rwa[zaZ _ _ _ _ (by omega)] at this
 ·exact h
theorem L.Out.step {w w':World}{B:Nat}{a:Option Addr}{c k n p p' m:Nat}{v:Value}(h:L.Out w B a c k n p m v)(hg:w.grownBy w' (Value.slice a n c).ownBlock)(hp:p<=p'):L.Out w' B a c k n p' m v:=by
 rcases h with ⟨e,hm,hn⟩ | ⟨h,h2⟩
 ·exact Or.inl ⟨e,by omega,hn⟩
 ·exact Or.inr ⟨zV h hg (fun g hk=>h2 g hk),h2⟩
theorem vq {w:World}{ah:Array Oper}{rest:List Oper}{o:Oper}{ac:Act}{Q:Exit->Act->World->Prop}(ae:o.guard=none)(s x:Operand)
  (ho:o.op = .call { callee:=.builtin .append,args:=#[s,x],argTypes:=#[32,32] })
  {B:Nat}{i0:TypeInfo}(hi:Tryz.prog.info? 5=some i0) (ai:i0.zero=some (.int .u8 0)) (ag:i0.size=1) (aj:i0.bytes=1)
  (a:Option Addr) (c k n p m:Nat) (hs:ac.eval s = .slice a n c) (hr:w.ownsRow B 5 1 (.slice a (n+p) c) (n+p) (L.sg k 0 (n+p)))
  (ad:Addr) (hx:ac.eval x = .slice (some ad) m m) (hc:∀j u,(L.sg k n m)[j]?=some u->w.cell? (ad.add j)=some u) (af:p<=m) (hm:0<m) (hb:n+m<=100000000000) (hB:B<=w.heap.size)
  (hK:∀v' w' p',Y (p<=p'/\p'<=m/\w'.ownsRow B 5 1 (.slice a (n+p') c) (n+p') (L.sg k 0 (n+p'))/\L.Out w' B a c k n p' m v'/\w.grownBy w' (Value.slice a n c).ownBlock)->wpList Tryz.prog ah Q rest (ac.put o.dst v') w') :
  wpList Tryz.prog ah Q (o :: rest) ac w:=by
 have aa:w.ownsRow B 5 1 (.slice a n c) n (L.sg k 0 n):=by
  have:=fh hr (m:=n) (by omega)
  rwa[zaZ _ _ _ _ (by omega)] at this
 by_cases ab:n+m<=c/\a≠none
 ·rcases aa.2 with ⟨h,_⟩ | ⟨g,cap,cur,h,hBg,_⟩
  ·simp only[qQ] at h;exact absurd h.1 ab.2
  ·simp only[qQ,true_and] at h
   obtain⟨rfl,rfl⟩:=h
   refine wpList_append_fits w ae s x 32 ho B 5 i0 1 Tryz.underlying32 hi ag g n c (L.sg k 0 n) hs aa ad m m (L.sg k n m) hx (by rw[wh];omega) hc (zj5 _ _ _) ab.1 ?_
   intro w' h1 h2
   rw[zcH] at h1
   exact hK _ w' m ⟨af,zw _,h1,Or.inl ⟨rfl,zw _,by simp⟩,h2⟩
 ·refine wpList_append_grows w ae s x 32 ho 5 i0 _ 1 1 Tryz.underlying32 hi ai ag aj rfl (by decide) a n c (L.sg k 0 n) hs ?_ (by rw[wh];omega) ?_ ad m m (L.sg k n m) hx (by rw[wh];omega) hc (zj5 _ _ _) ?_ (by unfold maxLen;omega) (by omega) ?_
  ·intro e
   rcases aa.2 with ⟨h,h0⟩ | ⟨g,cap,cur,h,_⟩
   ·simp only[qQ] at h;exact⟨h0,h.2.2⟩
   ·simp only[qQ] at h;rw[e] at h;cases h.1
  ·intro b e j u hu
   rcases aa.2 with ⟨h,h0⟩ | ⟨g,cap,cur,h,hBg,hb2,hle,hmx,hsz,htk⟩
   ·simp only[qQ] at h;rw[e] at h;cases h.1
   ·simp only[qQ,true_and] at h
    rw[e] at h
    obtain⟨h,rfl⟩:=h
    obtain rfl:=x5 h
    subst e
    have hj:j<n:=by have:=(List.getElem?_eq_some_iff.1 hu).1;rwa[wh] at this
    have:=qR aa j (by omega)
    unfold Addr.add
    split
    ·rename_i h0;subst h0;rw[this];exact hu
    ·simp only[Nat.zero_add];rw[this];exact hu
  ·by_cases ha:a=none
   ·rcases aa.2 with ⟨h,h0⟩ | ⟨g,cap,cur,h,_⟩
    ·simp only[qQ] at h;omega
    ·simp only[qQ] at h;rw[ha] at h;cases h.1
   ·have:¬n+m<=c:=fun h=>ab ⟨h,ha⟩
    omega
  ·intro v' w' h1 h2
   rw[zcH] at h1
   refine hK v' w' p ⟨zw _,af,zV hr h2 (fun _ _ c=>by cases c),Or.inr ⟨qF h1 hB,fun g hg hc=>?_⟩,zb h2 _⟩
   have l1:=(zx h1 g hg).1
   have l2:=(zx aa g hc).2
   omega
structure Turn (w w':World) (F:Nat->Prop):Prop where
 os:w'.os=w.os
 tape:w'.tape=w.tape
 output:w'.output=w.output
 size:w.heap.size<=w'.heap.size
 block:∀k,k<w.heap.size->¬F k->w'.heap[k]?=w.heap[k]?
theorem Turn.refl (w:World)(F:Nat->Prop):Turn w w F:=⟨rfl,rfl,rfl,zw _,fun _ _ _=>rfl⟩
theorem Turn.step {w x y:World}{F:Nat->Prop}{aa:Option Nat}(h:Turn w x F)(g:x.grownBy y aa)(hr:∀k,aa=some k->F k\/w.heap.size<=k):Turn w y F:=
 ⟨g.os.trans h.os,g.tape.trans h.tape,g.output.trans h.output,qf h.size g.size,fun k hk hn=>(g.block k (vQ hk h.size) (fun e=>by rcases hr k e.symm with h1 | h1;exact hn h1;omega)).trans (h.block k hk hn)⟩
theorem Turn.grown {w0 w w':World}{F:Nat->Prop}{aa:Option Nat}(h:Turn w w' F)(g:w0.grownBy w aa)(hF:∀k,F k->w0.heap.size<=k):w0.grownBy w' aa:=
 ⟨h.os.trans g.os,h.tape.trans g.tape,h.output.trans g.output,qf g.size h.size,fun k hk hn=>(h.block k (vQ hk g.size) (fun c=>by have:=hF k c;omega)).trans (g.block k hk hn)⟩
theorem Turn.trans {w x y:World}{F G H:Nat->Prop}(h:Turn w x F)(g:Turn x y G)(hF:∀k,F k->H k)(hG:∀k,G k->H k):Turn w y H:=
 ⟨g.os.trans h.os,g.tape.trans h.tape,g.output.trans h.output,qf h.size g.size,fun k hk hn=>(g.block k (vQ hk h.size) (fun c=>hn (hG k c))).trans (h.block k hk (fun c=>hn (hF k c)))⟩
theorem Turn.keep {w w':World}{F:Nat->Prop}{k:Nat}{o:Obj}(h:Turn w w' F)(hk:w.heap[k]?=some o)(hn:¬F k):w'.heap[k]?=some o:=by
 rw[h.block k (zI hk) hn];exact hk
theorem Turn.row {w w':World}{F:Nat->Prop}{B:Nat}{e:TypeId}{s:Nat}{v:Value}{n:Nat}{xs:List Value}(h:w.ownsRow B e s v n xs)(ht:Turn w w' F)(hn:∀k,v.ownBlock=some k->¬F k):w'.ownsRow B e s v n xs:=by
 refine⟨h.1,?_⟩
 rcases h.2 with h | ⟨g,cap,cur,rfl,hB,hb,r⟩
 ·exact Or.inl h
 ·exact Or.inr ⟨g,cap,cur,rfl,hB,ht.keep hb (hn g rfl),r⟩
structure L.Inv (w:World) (wb B:Nat) (vl ve vm:Value) (es:List (Value×Nat×Nat)):Prop where
 ex:∃vb vk,w.heap[wb]?=some (.cells #[vl,vb,vk,ve,vm] 77 (0,0))/\w.ownsRow B 32 1 vb es.length (es.map (·.1))/\w.ownsRow B 3 1 vk es.length (es.map fun e=>.int .i64 (e.2.1:Nat))
 all:∀e∈es,w.ownsRow B 5 1 e.1 e.2.2 (L.sg e.2.1 0 e.2.2)
 low:B<=wb
 bd:∀e∈es,e.2.1<1000000000000/\e.2.2<1000000000000
def L.F (wb:Nat)(vb vk va:Value)(k:Nat):Prop:=k=wb\/vb.ownBlock=some k\/vk.ownBlock=some k\/va.ownBlock=some k
theorem zrS (k n i:Nat)(xs:List Value)(hx:xs.length=n)(hi:i<n):(L.sg k 0 i++xs.drop i).set i (.int .u8 (xe k i:Nat))=L.sg k 0 (i+1)++xs.drop (i+1):=by
 have e:(L.sg k 0 i).length=i:=wh _ _ _
 rw[List.set_append_right _ _ (by rw[e];exact zw _),e,Nat.sub_self,List.drop_eq_getElem_cons (i:=i) (by omega),List.set_cons_zero,<-zcH k i 1]
 simp[L.sg]
theorem zsK (k n i:Nat)(xs:List Value)(hx:xs.length=n)(hi:i<=n):(L.sg k 0 i++xs.drop i).length=n:=by rw[zh,wh,List.length_drop];omega
theorem zsM:(Tryz.prog.info? 32).map (fun i=>(i.zero,i.size,i.bytes))=some (some (.slice none 0 0),1,24):=by kernel_rfl
theorem zq4:(Tryz.prog.info? 3).map (fun i=>(i.zero,i.size,i.bytes))=some (some (.int .i64 0),1,8):=by kernel_rfl
theorem zoO {w:World}{wb B:Nat}{vl ve vm:Value}{es:List (Value×Nat×Nat)}(h:L.Inv w wb B vl ve vm es)(sa:Option Addr)(n sc Bp:Nat)(xs:List Value)(hr:w.ownsRow Bp 5 1 (.slice sa n sc) n xs)
  (aB:B<=Bp) (aC:Bp<=w.heap.size) (bp:∀e∈es,∀g,e.1.ownBlock=some g->g<Bp) (b7:es.length<=100000000) (hn:n<=1000000000) :
  Calls Tryz.prog 93 #[.pointer (some ⟨wb,0,none⟩),.slice sa n sc] w fun e w'=>e = .returned (.tuple #[])/\∃es' vb vk,es'.length=4/\w.heap[wb]?=some (.cells #[vl,vb,vk,ve,vm] 77 (0,0))/\L.Inv w' wb B vl ve vm (es++es')/\Turn w w' (L.F wb vb vk (.slice sa n sc)):=by
 obtain⟨i0,hi,aZ,a0,a4⟩:=info_parts js
 obtain⟨i1,hj,bO,bP,bQ⟩:=info_parts zsM
 obtain⟨i2,hk,bR,bS,bT⟩:=info_parts zq4
 obtain⟨vb,vk,aS,aX,aY⟩:=h.ex
 obtain⟨b1,b2,rfl⟩:=zO aX
 obtain⟨k1,k2,rfl⟩:=zO aY
 have ar:Y (w.heap[wb]?=some (.cells #[vl,.slice b1 es.length b2,.slice k1 es.length k2,ve,vm] 77 (0,0))):=aS
 have q1:w.cell? ⟨wb,1,none⟩=some (.slice b1 es.length b2):=zB aS
 have aJ:Y (w.ownsRow B 32 1 (.slice b1 es.length b2) es.length (es.map (·.1))):=aX
 have aN:Y (w.ownsRow B 3 1 (.slice k1 es.length k2) es.length (es.map fun e=>.int .i64 (e.2.1:Nat))):=aY
 have bC:Y (∀e∈es,w.ownsRow B 5 1 e.1 e.2.2 (L.sg e.2.1 0 e.2.2)):=h.all
 have HR:Y (w.ownsRow Bp 5 1 (.slice sa n sc) n xs):=hr
 have bD:Y (∀e∈es,∀g,e.1.ownBlock=some g->g<Bp):=bp
 have bV:=h.low
 have bF:Y (∀e∈es,e.2.1<1000000000000/\e.2.2<1000000000000):=h.bd
 obtain⟨K,hK⟩:∃K,K=es.length / 4+1:=⟨_,rfl⟩
 have bG:Y ((es.length:Int) / 4+1=(K:Int)):=by show _=_;omega
 have b6:K<=30000000:=by omega
 have b5:Y (K=es.length / 4+1):=hK
 clear h aS aX aY hr bp hK
 go_enter Tryz.func93,Tryz.ntmps93
 go_wp2_with fail
 rw[bG.o]
 have bB:xs.length=n:=by have:=HR.o.1;omega
 have al:Y (Turn w w (fun k=>(Value.slice sa n sc).ownBlock=some k)):=Turn.refl _ _
 have aj:Y (w.ownsRow Bp 5 1 (.slice sa n sc) n (L.sg K 0 0++xs.drop 0)):=HR
 go_loopw [6] (fun iv wr=>∃i:Nat,i<=n/\iv = .int .i64 i/\Y (wr.ownsRow Bp 5 1 (.slice sa n sc) n (L.sg K 0 i++xs.drop i))/\Y (Turn w wr (fun k=>(Value.slice sa n sc).ownBlock=some k))) (fun iv _=>n - (intOf iv).toNat)
 case atStart=>exact⟨0,zo _,rfl,aj,al⟩
 case round=>
  obtain⟨i,bN,rfl,ad,ao⟩:=hrel
  clear aj al
  by_cases bW:i<n
  ·have b8:(i:Int)<n:=by omega
   obtain⟨g,gc,e1,_,_⟩:=World.ownsRow.form ad.o (by omega)
   simp only[qQ,true_and] at e1
   obtain⟨rfl,rfl⟩:=e1
   have bn:Y (Calls Tryz.prog 65 #[.int .i64 K,.int .i64 i] wr fun e w'=>e = .returned (.int .u8 (xe K i:Nat))/\w'=wr):=ue K i wr (by omega) (by omega)
   have bU:=zsK K n i xs bB bN
   obtain⟨u0,bA⟩:∃u0,(L.sg K 0 i++xs.drop i)[i]?=some u0:=⟨_,xo (by omega)⟩
   have ci:wr.cell? ⟨g,i,none⟩=some u0:=by rw[qR ad.o i (by omega)];exact bA
   have fi:wr.frozen? ⟨g,i,none⟩=false:=World.ownsRow.frozenAt ad.o i
   obtain⟨aW,br⟩:=World.ownsRow.stored ad.o i (.int .u8 (xe K i:Nat))
   rw[zrS K n i xs bB bW] at aW
   have aw:Y ((wr.setCell ⟨g,i,none⟩ (.int .u8 (xe K i:Nat))).ownsRow Bp 5 1 (.slice (some ⟨g,0,none⟩) n sc) n (L.sg K 0 (i+1)++xs.drop (i+1))):=aW
   have am:Y (Turn w (wr.setCell ⟨g,i,none⟩ (.int .u8 (xe K i:Nat))) (fun k=>(Value.slice (some ⟨g,0,none⟩) n sc).ownBlock=some k)):=ao.o.step br (fun k hk=>Or.inl (by rw[<-hk];rfl))
   clear aW br bA bU ad ao
   go_wp2_with fail
   refine bn.o.mono ?_
   rintro e wX ⟨rfl,aa⟩
   rw[aa]
   clear aa wX bn
   go_wp2_with fail
   go_roundw
   case rel=>exact⟨i+1,by omega,by go_num,aw,am⟩
   case measure=>simp[intOf];omega
  ·have bM:n=i:=by omega
   subst bM
   have aj:Y (wr.ownsRow Bp 5 1 (.slice sa (n+0) sc) (n+0) (L.sg K 0 (n+0))):=by
    have h:=ad.o
    rw[List.drop_of_length_le (by omega),zb3] at h
    exact h
   have al:Y (Turn w wr (fun k=>(Value.slice sa n sc).ownBlock=some k)):=ao
   have cc:Bp<=wr.heap.size:=qf aC ao.o.size
   have ax:Y (∀W,Calls Tryz.prog 65 #[.int .i64 K,.int .i64 n] W fun e w'=>e = .returned (.int .u8 (xe K n:Nat))/\w'=W):=fun W=>ue K n W (by omega) (by omega)
   have aH:Y (∀W,Calls Tryz.prog 65 #[.int .i64 K,.int .i64 ((n:Int)+1)] W fun e w'=>e = .returned (.int .u8 (xe K (n+1):Nat))/\w'=W):=fun W=>ue K (n+1) W (by omega) (by omega)
   have bm:Y (∀W,Calls Tryz.prog 65 #[.int .i64 K,.int .i64 ((n:Int)+2)] W fun e w'=>e = .returned (.int .u8 (xe K (n+2):Nat))/\w'=W):=fun W=>ue K (n+2) W (by omega) (by omega)
   have bJ:n+1<=100000000000:=by omega
   have bK:n+2<=100000000000:=by omega
   have bL:n+3<=100000000000:=by omega
   clear ad ao
   go_wp2_with fail
   refine(ax.o _).mono ?_
   rintro e wX ⟨rfl,aa⟩
   rw[aa]
   clear aa wX
   have a5:Y ((wr.alloc (.cells #[.int .u8 (xe K (n):Nat)] 5)).ownsRow Bp 5 1 (.slice sa (n+0) sc) (n+0) (L.sg K 0 (n+0))):=qK aj.o _
   have bb:Y (∀j u,(L.sg K n 1)[j]?=some u->(wr.alloc (.cells #[.int .u8 (xe K (n):Nat)] 5)).cell? ((⟨wr.heap.size,0,none⟩:Addr).add j)=some u):=zu wr #[_] _ _ rfl
   have a8:Y (Bp<=(wr.alloc (.cells #[.int .u8 (xe K (n):Nat)] 5)).heap.size):=by show _<=_;simp;omega
   have bY:0<=1:=by omega
   go_wp2_with (at_builtin;refine @vq _ _ _ _ _ _ rfl (.tmp 30) (.tmp 34) rfl Bp i0 hi aZ a0 a4 sa sc K n 0 1 rfl a5.o ⟨wr.heap.size,0,none⟩ rfl bb.o bY (Nat.succ_pos _) bJ a8.o ?_)
   intro v1 w1 p1 hh
   obtain⟨b9,bw,bs,bq⟩:=hh.o
   clear hh
   have bo:wr.grownBy (wr.alloc (.cells #[.int .u8 (xe K (n):Nat)] 5)) (Value.slice sa n sc).ownBlock:=zL _ _ _
   have bl:Y (w1.ownsRow Bp 5 1 (.slice sa (n+p1) sc) (n+p1) (L.sg K 0 (n+p1))):=bw
   have bf:Y (L.Out w1 Bp sa sc K n p1 1 v1):=bs
   have aI:Y (Turn w w1 (fun k=>(Value.slice sa n sc).ownBlock=some k)):=(al.o.step bo (fun k hk=>Or.inl hk)).step bq (fun k hk=>Or.inl hk)
   have cd:Bp<=w1.heap.size:=qf aC aI.o.size
   clear bw bs bq bo a5 bb a8 aj al
   go_wp2_with fail
   refine(ax.o _).mono ?_
   rintro e wX ⟨rfl,aa⟩
   rw[aa]
   clear aa wX
   go_wp2_with fail
   refine(aH.o _).mono ?_
   rintro e wX ⟨rfl,aa⟩
   rw[aa]
   clear aa wX
   have a6:Y ((w1.alloc (.cells #[.int .u8 (xe K (n):Nat),.int .u8 (xe K (n+1):Nat)] 5)).ownsRow Bp 5 1 (.slice sa (n+p1) sc) (n+p1) (L.sg K 0 (n+p1))):=qK bl.o _
   have bc:Y (∀j u,(L.sg K n 2)[j]?=some u->(w1.alloc (.cells #[.int .u8 (xe K (n):Nat),.int .u8 (xe K (n+1):Nat)] 5)).cell? ((⟨w1.heap.size,0,none⟩:Addr).add j)=some u):=zu w1 #[_,_] _ _ rfl
   have a9:Y (Bp<=(w1.alloc (.cells #[.int .u8 (xe K (n):Nat),.int .u8 (xe K (n+1):Nat)] 5)).heap.size):=by show _<=_;simp;omega
   have bZ:p1<=2:=by omega
   go_wp2_with (at_builtin;refine @vq _ _ _ _ _ _ rfl (.tmp 36) (.tmp 44) rfl Bp i0 hi aZ a0 a4 sa sc K n p1 2 rfl a6.o ⟨w1.heap.size,0,none⟩ rfl bc.o bZ (Nat.succ_pos _) bK a9.o ?_)
   intro v2 w2 p2 hh
   obtain⟨bX,ca,bx,bt,aT⟩:=hh.o
   clear hh
   have aR:w1.grownBy (w1.alloc (.cells #[.int .u8 (xe K (n):Nat),.int .u8 (xe K (n+1):Nat)] 5)) (Value.slice sa n sc).ownBlock:=zL _ _ _
   have aw:Y (w2.ownsRow Bp 5 1 (.slice sa (n+p2) sc) (n+p2) (L.sg K 0 (n+p2))):=bx
   have bi:Y (L.Out w2 Bp sa sc K n p2 2 v2):=bt
   have bg:Y (L.Out w2 Bp sa sc K n p2 1 v1):=(bf.o.step aR (zw _)).step aT bX
   have am:Y (Turn w w2 (fun k=>(Value.slice sa n sc).ownBlock=some k)):=(aI.o.step aR (fun k hk=>Or.inl hk)).step aT (fun k hk=>Or.inl hk)
   have ce:Bp<=w2.heap.size:=qf aC am.o.size
   clear bx bt aT aR a6 bc a9 bl aI bf
   go_wp2_with fail
   refine(ax.o _).mono ?_
   rintro e wX ⟨rfl,aa⟩
   rw[aa]
   clear aa wX
   go_wp2_with fail
   refine(aH.o _).mono ?_
   rintro e wX ⟨rfl,aa⟩
   rw[aa]
   clear aa wX
   go_wp2_with fail
   refine(bm.o _).mono ?_
   rintro e wX ⟨rfl,aa⟩
   rw[aa]
   clear aa wX
   have a7:Y ((w2.alloc (.cells #[.int .u8 (xe K (n):Nat),.int .u8 (xe K (n+1):Nat),.int .u8 (xe K (n+2):Nat)] 5)).ownsRow Bp 5 1 (.slice sa (n+p2) sc) (n+p2) (L.sg K 0 (n+p2))):=qK aw.o _
   have be:Y (∀j u,(L.sg K n 3)[j]?=some u->(w2.alloc (.cells #[.int .u8 (xe K (n):Nat),.int .u8 (xe K (n+1):Nat),.int .u8 (xe K (n+2):Nat)] 5)).cell? ((⟨w2.heap.size,0,none⟩:Addr).add j)=some u):=zu w2 #[_,_,_] _ _ rfl
   have ba:Y (Bp<=(w2.alloc (.cells #[.int .u8 (xe K (n):Nat),.int .u8 (xe K (n+1):Nat),.int .u8 (xe K (n+2):Nat)] 5)).heap.size):=by show _<=_;simp;omega
   have b0:p2<=3:=by omega
   go_wp2_with (at_builtin;refine @vq _ _ _ _ _ _ rfl (.tmp 46) (.tmp 58) rfl Bp i0 hi aZ a0 a4 sa sc K n p2 3 rfl a7.o ⟨w2.heap.size,0,none⟩ rfl be.o b0 (Nat.succ_pos _) bL ba.o ?_)
   intro v3 w3 p3 hh
   obtain⟨bv,cb,bz,bu,aE⟩:=hh.o
   clear hh
   have aA:w2.grownBy (w2.alloc (.cells #[.int .u8 (xe K (n):Nat),.int .u8 (xe K (n+1):Nat),.int .u8 (xe K (n+2):Nat)] 5)) (Value.slice sa n sc).ownBlock:=zL _ _ _
   have ak:Y (w3.ownsRow Bp 5 1 (.slice sa (n+p3) sc) (n+p3) (L.sg K 0 (n+p3))):=bz
   have bk:Y (L.Out w3 Bp sa sc K n p3 3 v3):=bu
   have bh:Y (L.Out w3 Bp sa sc K n p3 1 v1):=(bg.o.step aA (zw _)).step aE bv
   have bj:Y (L.Out w3 Bp sa sc K n p3 2 v2):=(bi.o.step aA (zw _)).step aE bv
   have an:Y (Turn w w3 (fun k=>(Value.slice sa n sc).ownBlock=some k)):=(am.o.step aA (fun k hk=>Or.inl hk)).step aE (fun k hk=>Or.inl hk)
   have cf:Bp<=w3.heap.size:=qf aC an.o.size
   clear bz bu aE aA a7 be ba aw am bg bi
   have e1:=bh.o.row ak.o
   have e2:=bj.o.row ak.o
   have e3:=bk.o.row ak.o
   have e0:w3.ownsRow Bp 5 1 (.slice sa n sc) n (L.sg K 0 n):=by
    have h:=fh ak.o (m:=n) (by omega)
    rwa[zaZ _ _ _ _ (by omega)] at h
   obtain⟨a1,c1,rfl⟩:=zO e1
   obtain⟨a2,c2,rfl⟩:=zO e2
   obtain⟨a3,c3,rfl⟩:=zO e3
   have E0:=J (qF e0 aB)
   have E1:=J (qF e1 aB)
   have E2:=J (qF e2 aB)
   have E3:=J (qF e3 aB)
   have au:Y (w3.heap[wb]?=some (.cells #[vl,.slice b1 es.length b2,.slice k1 es.length k2,ve,vm] 77 (0,0))):=an.o.keep ar.o (fun hF=>zW ar.o HR.o (by decide) wb hF rfl)
   have ay:Y (w3.ownsRow B 32 1 (.slice b1 es.length b2) es.length (es.map (·.1))):=Turn.row aJ.o an.o (fun k hk hF=>xF HR.o aJ.o (by decide) k hk hF)
   have aO:Y (w3.ownsRow B 3 1 (.slice k1 es.length k2) es.length (es.map fun e=>.int .i64 (e.2.1:Nat))):=Turn.row aN.o an.o (fun k hk hF=>xF HR.o aN.o (by decide) k hk hF)
   clear e0 e1 e2 e3 bh bj bk ak ax aH bm
   have r1:=zu4 au.o
   have b3:B<=w3.heap.size:=by omega
   have ah:Y (∀j u,([.slice sa n sc,.slice a1 (n+1) c1,.slice a2 (n+2) c2,.slice a3 (n+3) c3]:List Value)[j]?=some u->(w3.alloc (.cells #[.slice sa n sc,.slice a1 (n+1) c1,.slice a2 (n+2) c2,.slice a3 (n+3) c3] 32)).cell? ((⟨w3.heap.size,0,none⟩:Addr).add j)=some u):=zu w3 #[_,_,_,_] _ _ rfl
   have ai:Y (∀u∈([.slice sa n sc,.slice a1 (n+1) c1,.slice a2 (n+2) c2,.slice a3 (n+3) c3]:List Value),u.oneCell'=true):=by intro u hu;simp only[List.mem_cons,List.mem_nil_iff,or_false] at hu;rcases hu with rfl | rfl | rfl | rfl <;> rfl
   have ag:Y (es.length+4<=maxLen):=by show _<=_;unfold maxLen;omega
   have ap:Y ((es.length+4)*24<=140737488355328):=by show _<=_;omega
   have aq:Y (B<=(w3.alloc (.cells #[.slice sa n sc,.slice a1 (n+1) c1,.slice a2 (n+2) c2,.slice a3 (n+3) c3] 32)).heap.size):=by show _<=_;simp;omega
   go_wp2_with (at_builtin;refine wpList_append_own _ rfl (.tmp 64) (.tmp 69) 74 rfl B 32 i1 _ 1 24 Tryz.underlying74 hj bO bP bQ rfl (by decide) _ _ _ rfl (qK ay.o _) ⟨w3.heap.size,0,none⟩ 4 4 [.slice sa n sc,.slice a1 (n+1) c1,.slice a2 (n+2) c2,.slice a3 (n+3) c3] rfl rfl ah.o ai.o ag.o ap.o aq.o ?_)
   intro cg w4 aU aF _
   obtain⟨b4,c4,rfl⟩:=zO aU
   have gB:w3.grownBy (w3.alloc (.cells #[.slice sa n sc,.slice a1 (n+1) c1,.slice a2 (n+2) c2,.slice a3 (n+3) c3] 32)) none:=zL _ _ none
   have T4:Y (Turn w3 w4 (fun k=>k=wb\/(Value.slice b1 es.length b2).ownBlock=some k\/(Value.slice k1 es.length k2).ownBlock=some k)):=((Turn.refl w3 _).step gB (fun k hk=>by cases hk)).step aF (fun k hk=>Or.inl (Or.inr (Or.inl hk)))
   have ae:Y (w4.heap[wb]?=some (.cells #[vl,.slice b1 es.length b2,.slice k1 es.length k2,ve,vm] 77 (0,0))):=xJ (zF au.o gB (by simp)) aF (zW (zF au.o gB (by simp)) (qK ay.o _) (by decide))
   have aK:Y (w4.ownsRow B 32 1 (.slice b4 (es.length+4) c4) (es.length+4) (es.map (·.1)++[.slice sa n sc,.slice a1 (n+1) c1,.slice a2 (n+2) c2,.slice a3 (n+3) c3])):=aU
   have aP:Y (w4.ownsRow B 3 1 (.slice k1 es.length k2) es.length (es.map fun e=>.int .i64 (e.2.1:Nat))):=zV (qK aO.o _) aF (fun k hk c=>xF (qK ay.o (.cells #[.slice sa n sc,.slice a1 (n+1) c1,.slice a2 (n+2) c2,.slice a3 (n+3) c3] 32)) (qK aO.o (.cells #[.slice sa n sc,.slice a1 (n+1) c1,.slice a2 (n+2) c2,.slice a3 (n+3) c3] 32)) (by decide) k hk c)
   have r4:=zu4 ae.o
   have f4:=zuG 1 ae.o
   have gS:=zG w4 wb 1 (.slice b4 (es.length+4) c4)
   have T5:Y (Turn w3 (w4.setCell ⟨wb,1,none⟩ (.slice b4 (es.length+4) c4)) (fun k=>k=wb\/(Value.slice b1 es.length b2).ownBlock=some k\/(Value.slice k1 es.length k2).ownBlock=some k)):=T4.o.step gS (fun k hk=>Or.inl (Or.inl (x5 hk).symm))
   have av:Y ((w4.setCell ⟨wb,1,none⟩ (.slice b4 (es.length+4) c4)).heap[wb]?=some (.cells #[vl,.slice b4 (es.length+4) c4,.slice k1 es.length k2,ve,vm] 77 (0,0))):=zR ae.o _
   have aL:=J (zY aK.o gS (zW ae.o aK.o (by decide)))
   have az:=J (zY aP.o gS (zW ae.o aP.o (by decide)))
   clear aU aF gB gS ah ai ag ap aq r1 T4 aK aP
   go_upto_region 10 with fail
   generalize(w4.setCell ⟨wb,1,none⟩ (.slice b4 (es.length+4) c4))=w5 at*
   have cj:B<=w5.heap.size:=qf b3 T5.o.size
   have r5:=zuK av.o
   have ah:Y (∀j u,([.int .i64 K,.int .i64 K,.int .i64 K,.int .i64 K]:List Value)[j]?=some u->(w5.alloc (.cells #[.int .i64 K,.int .i64 K,.int .i64 K,.int .i64 K] 3)).cell? ((⟨w5.heap.size,0,none⟩:Addr).add j)=some u):=zu w5 #[_,_,_,_] _ _ rfl
   have ai:Y (∀u∈([.int .i64 K,.int .i64 K,.int .i64 K,.int .i64 K]:List Value),u.oneCell'=true):=by intro u hu;simp only[List.mem_cons,List.mem_nil_iff,or_false] at hu;rcases hu with rfl | rfl | rfl | rfl <;> rfl
   have ag:Y (es.length+4<=maxLen):=by show _<=_;unfold maxLen;omega
   have ap:Y ((es.length+4)*8<=140737488355328):=by show _<=_;omega
   have aq:Y (B<=(w5.alloc (.cells #[.int .i64 K,.int .i64 K,.int .i64 K,.int .i64 K] 3)).heap.size):=by show _<=_;simp;omega
   go_wp2_with (at_builtin;refine wpList_append_own _ rfl (.tmp 77) (.tmp 82) 55 rfl B 3 i2 _ 1 8 Tryz.underlying55 hk bR bS bT rfl (by decide) _ _ _ rfl (qK az.o _) ⟨w5.heap.size,0,none⟩ 4 4 [.int .i64 K,.int .i64 K,.int .i64 K,.int .i64 K] rfl rfl ah.o ai.o ag.o ap.o aq.o ?_)
   intro ch w6 aV aG _
   obtain⟨k6,c6,rfl⟩:=zO aV
   have gB:w5.grownBy (w5.alloc (.cells #[.int .i64 K,.int .i64 K,.int .i64 K,.int .i64 K] 3)) none:=zL _ _ none
   have T6:Y (Turn w3 w6 (fun k=>k=wb\/(Value.slice b1 es.length b2).ownBlock=some k\/(Value.slice k1 es.length k2).ownBlock=some k)):=(T5.o.step gB (fun k hk=>by cases hk)).step aG (fun k hk=>Or.inl (Or.inr (Or.inr hk)))
   have af:Y (w6.heap[wb]?=some (.cells #[vl,.slice b4 (es.length+4) c4,.slice k1 es.length k2,ve,vm] 77 (0,0))):=xJ (zF av.o gB (by simp)) aG (zW (zF av.o gB (by simp)) (qK az.o _) (by decide))
   have aQ:Y (w6.ownsRow B 3 1 (.slice k6 (es.length+4) c6) (es.length+4) ((es.map fun e=>.int .i64 (e.2.1:Nat))++[.int .i64 K,.int .i64 K,.int .i64 K,.int .i64 K])):=aV
   have aM:Y (w6.ownsRow B 32 1 (.slice b4 (es.length+4) c4) (es.length+4) (es.map (·.1)++[.slice sa n sc,.slice a1 (n+1) c1,.slice a2 (n+2) c2,.slice a3 (n+3) c3])):=zV (qK aL.o _) aG (fun k hk c=>xF (qK az.o (.cells #[.int .i64 K,.int .i64 K,.int .i64 K,.int .i64 K] 3)) (qK aL.o (.cells #[.int .i64 K,.int .i64 K,.int .i64 K,.int .i64 K] 3)) (by decide) k hk c)
   have r6:=zuK af.o
   have f6:=zuG 2 af.o
   have gS:=zG w6 wb 2 (.slice k6 (es.length+4) c6)
   have T7:Y (Turn w3 (w6.setCell ⟨wb,2,none⟩ (.slice k6 (es.length+4) c6)) (fun k=>k=wb\/(Value.slice b1 es.length b2).ownBlock=some k\/(Value.slice k1 es.length k2).ownBlock=some k)):=T6.o.step gS (fun k hk=>Or.inl (Or.inl (x5 hk).symm))
   have bE:Y ((w6.setCell ⟨wb,2,none⟩ (.slice k6 (es.length+4) c6)).heap[wb]?=some (.cells #[vl,.slice b4 (es.length+4) c4,.slice k6 (es.length+4) c6,ve,vm] 77 (0,0))):=zR af.o _
   have bH:=J (zY aM.o gS (zW af.o aM.o (by decide)))
   have bI:=J (zY aQ.o gS (zW af.o aQ.o (by decide)))
   clear aV aG gB gS ah ai ag ap aq r5 av aL az T5 T6 aM aQ
   go_wp2
   go_end0
   have aD:∀{v:Value}{m:Nat}{ys:List Value},w3.ownsRow B 5 1 v m ys->∀k,v.ownBlock=some k->¬(k=wb\/(Value.slice b1 es.length b2).ownBlock=some k\/(Value.slice k1 es.length k2).ownBlock=some k):=fun ab k hk hF=>by
    rcases hF with q | q | q
    ·exact zW au.o ab (by decide) k hk q
    ·exact xF ab ay.o (by decide) k q hk
    ·exact xF ab aO.o (by decide) k q hk
   have TF:Turn w (w6.setCell ⟨wb,2,none⟩ (.slice k6 (es.length+4) c6)) (L.F wb (.slice b1 es.length b2) (.slice k1 es.length k2) (.slice sa n sc)):=an.o.trans T7.o (fun k hk=>Or.inr (Or.inr (Or.inr hk))) (fun k hk=>by
    rcases hk with q | q | q
    ·exact Or.inl q
    ·exact Or.inr (Or.inl q)
    ·exact Or.inr (Or.inr (Or.inl q)))
   refine⟨rfl,[(.slice sa n sc,K,n),(.slice a1 (n+1) c1,K,n+1),(.slice a2 (n+2) c2,K,n+2),(.slice a3 (n+3) c3,K,n+3)],_,_,rfl,ar.o,⟨⟨_,_,bE.o,?_,?_⟩,?_,bV,?_⟩,TF⟩
   ·have h:=bH.o
    rw[zh,fJ];exact h
   ·have h:=bI.o
    rw[zh,fJ];exact h
   ·intro e he
    rcases List.mem_append.1 he with he | he
    ·have ab:=bC.o e he
     refine Turn.row ab TF (fun k hk hF=>?_)
     rcases hF with q | q | q | q
     ·exact zW ar.o ab (by decide) k hk q
     ·exact xF ab aJ.o (by decide) k q hk
     ·exact xF ab aN.o (by decide) k q hk
     ·have l1:=bD.o e he k hk
      have l2:=(zx HR.o k q).1
      omega
    ·simp only[List.mem_cons,List.mem_nil_iff,or_false] at he
     rcases he with rfl | rfl | rfl | rfl
     ·exact Turn.row E0.o T7.o (aD E0.o)
     ·exact Turn.row E1.o T7.o (aD E1.o)
     ·exact Turn.row E2.o T7.o (aD E2.o)
     ·exact Turn.row E3.o T7.o (aD E3.o)
   ·intro e he
    rcases List.mem_append.1 he with he | he
    ·exact bF.o e he
    ·simp only[List.mem_cons,List.mem_nil_iff,or_false] at he
     rcases he with rfl | rfl | rfl | rfl <;> exact⟨by dsimp only;omega,by dsimp only;omega⟩
theorem L.Inv.keep {w w':World}{wb B:Nat}{vl ve vm:Value}{es:List (Value×Nat×Nat)}(h:L.Inv w wb B vl ve vm es)(hg:w.grownBy w' none):L.Inv w' wb B vl ve vm es:=by
 obtain⟨vb,vk,h1,h2,h3⟩:=h.ex
 exact⟨⟨vb,vk,zF h1 hg (by simp),zV h2 hg (fun _ _ c=>by cases c),zV h3 hg (fun _ _ c=>by cases c)⟩,fun e he=>zV (h.all e he) hg (fun _ _ c=>by cases c),h.low,h.bd⟩
theorem zeL {w:World}{wb B:Nat}{vl vm:Value}{es:List (Value×Nat×Nat)}(h:L.Inv w wb B vl (.slice none 0 0) vm es)(ax:es.length<=1000000000) :
  Calls Tryz.prog 39 #[.pointer (some ⟨wb,0,none⟩)] w fun e w'=>e = .returned (.bool true)/\w.grownBy w' none:=by
 have H0:Y (L.Inv w wb B vl (.slice none 0 0) vm es):=h
 have HK:Y (∀e∈es,e.2.1<1000000000000/\e.2.2<1000000000000):=h.bd
 clear h
 go_enter Tryz.func39,Tryz.ntmps39
 go_wp2_with fail
 go_loopw [3] (fun iv wr=>∃i:Nat,i<=es.length/\iv = .int .i64 i/\Y (w.grownBy wr none)) (fun iv _=>es.length - (intOf iv).toNat)
 case atStart=>exact⟨0,zo _,rfl,ze _ _⟩
 case round=>
  obtain⟨i,ay,rfl,HG⟩:=hrel
  obtain⟨vb,vk,ab,af,ag⟩:=(H0.o.keep HG.o).ex
  obtain⟨b1,b2,rfl⟩:=zO af
  obtain⟨k1,k2,rfl⟩:=zO ag
  have q1:wr.cell? ⟨wb,1,none⟩=some (.slice b1 es.length b2):=zB ab
  have q3:wr.cell? ⟨wb,3,none⟩=some (.slice none 0 0):=zB ab
  have ak:Y (wr.heap[wb]?=some (.cells #[vl,.slice b1 es.length b2,.slice k1 es.length k2,.slice none 0 0,vm] 77 (0,0))):=ab
  have ai:Y _:=af
  have aj:Y _:=ag
  clear ab af ag
  by_cases ad:i<es.length
  ·have an:(i:Int)<es.length:=by omega
   obtain⟨gb,au,e1,_,_⟩:=World.ownsRow.form ai.o (by omega)
   simp only[qQ,true_and] at e1
   obtain⟨rfl,rfl⟩:=e1
   obtain⟨gk,av,e2,_,_⟩:=World.ownsRow.form aj.o (by omega)
   simp only[qQ,true_and] at e2
   obtain⟨rfl,rfl⟩:=e2
   have cb:wr.cell? ⟨gb,i,none⟩=some es[i].1:=by
    have h:=qR ai.o i (by omega)
    rw[h];simp[ad]
   have ck:wr.cell? ⟨gk,i,none⟩=some (.int .i64 (es[i].2.1:Nat)):=by
    have h:=qR aj.o i (by omega)
    rw[h];simp[ad]
   have ae:=H0.o.all es[i] (List.getElem_mem ad)
   have ap:=HK.o es[i] (List.getElem_mem ad)
   generalize es[i]=en at*
   obtain⟨v,kk,n⟩:=en
   simp only at cb ck ae ap
   obtain⟨va,vc,rfl⟩:=zO ae
   have ah:Y (w.ownsRow B 5 1 (.slice va n vc) n (L.sg kk 0 n)):=ae
   clear ae
   generalize wr=wo at*
   go_wp2_with fail
   go_loopw [4] (fun kv wz=>∃k:Nat,k<=n/\kv = .int .i64 k/\Y (wo.grownBy wz none)) (fun kv _=>n - (intOf kv).toNat)
   case atStart=>exact⟨0,zo _,rfl,ze _ _⟩
   case round=>
    obtain⟨k,az,rfl,aa⟩:=hrel
    have z1:wr.cell? ⟨wb,1,none⟩=some (.slice (some ⟨gb,0,none⟩) es.length b2):=aa.o.cell q1 (by simp)
    have z2:wr.cell? ⟨wb,2,none⟩=some (.slice (some ⟨gk,0,none⟩) es.length k2):=aa.o.cell (zB ak.o) (by simp)
    have z3:wr.cell? ⟨gb,i,none⟩=some (.slice va n vc):=aa.o.cell cb (by simp)
    have z4:wr.cell? ⟨gk,i,none⟩=some (.int .i64 kk):=aa.o.cell ck (by simp)
    by_cases aq:k<n
    ·have ao:(k:Int)<n:=by omega
     obtain⟨gv,aw,e3,_,_⟩:=World.ownsRow.form ah.o (by omega)
     simp only[qQ,true_and] at e3
     obtain⟨rfl,rfl⟩:=e3
     have z5:wr.cell? ⟨gv,k,none⟩=some (.int .u8 (xe kk k:Nat)):=by
      have h:=qR (zV (zV ah.o HG.o (fun _ _ c=>by cases c)) aa.o (fun _ _ c=>by cases c)) k (by omega)
      rw[h];unfold L.sg;simp[aq]
     have am:Y (∀W,Calls Tryz.prog 65 #[.int .i64 kk,.int .i64 k] W fun e w'=>e = .returned (.int .u8 (xe kk k:Nat))/\w'=W):=fun W=>ue kk k W (by omega) (by omega)
     clear q1 q3 cb ck
     go_wp2_with fail
     go_quiet ((go_at_call 65;exact Calls.quiet_of_same (am.o _)))
     go_wp2_with fail
     exact⟨⟨k+1,by omega,by go_num,zD aa.o (yG _ _)⟩,by simp[intOf];omega⟩
    ·have ao:¬(k:Int)<n:=by omega
     have al:=J (zD HG.o aa.o)
     clear q1 q3 cb ck
     go_wp2_with fail
     go_roundw
     case rel=>exact⟨i+1,by omega,by go_num,al⟩
     case measure=>simp[intOf];omega
  ·have an:¬(i:Int)<es.length:=by omega
   go_wp2_with fail
   go_loopw [5] (fun jv wz=>jv = .int .i64 0/\Y (wz=wr)) (fun _ _=>0)
   case atStart=>exact⟨rfl,rfl⟩
   case round=>
    obtain⟨rfl,ar⟩:=hrel
    obtain rfl:=ar.o
    go_wp2
    go_ret
    exact⟨rfl,HG.o⟩
end Go.Proofs.YtfocdefchbnkpaaGreatDoor
namespace Go.Proofs
open Go.Shelf Go.RowKit Go.Lib Go.Sort
def Tryz.lays105_ren : Go.Shelf.Ren := ⟨fun | 105 => 157 | 212 => 215 | 99 => 216 | 165 => 217 | 166 => 156 | 170 => 218 | 169 => 69 | 263 => 295 | 264 => 296 | 206 => 230 | 240 => 214 | 241 => 297 | 276 => 294 | 277 => 345 | n => n, fun | 9 => 9 | 3 => 3 | 4 => 4 | 20 => 20 | 0 => 0 | 46 => 220 | 109 => 327 | 5 => 5 | 72 => 141 | 76 => 271 | 51 => 152 | 146 => 388 | 53 => 60 | 148 => 390 | 70 => 139 | 37 => 32 | 75 => 270 | 127 => 215 | 164 => 386 | 80 => 58 | n => n, fun | n => n⟩
theorem Tryz.lays105 : Go.Proofs.Lays.n105 Tryz.prog Tryz.lays105_ren := {
  mixed := by kernel_rfl
  f99 := Tryz.func216.trans (congrArg some (by kernel_rfl))
  f105 := Tryz.func157.trans (congrArg some (by kernel_rfl))
  f165 := Tryz.func217.trans (congrArg some (by kernel_rfl))
  f166 := Tryz.func156.trans (congrArg some (by kernel_rfl))
  f169 := Tryz.func69.trans (congrArg some (by kernel_rfl))
  f170 := Tryz.func218.trans (congrArg some (by kernel_rfl))
  f206 := Tryz.func230.trans (congrArg some (by kernel_rfl))
  f212 := Tryz.func215.trans (congrArg some (by kernel_rfl))
  f240 := Tryz.func214.trans (congrArg some (by kernel_rfl))
  f241 := Tryz.func297.trans (congrArg some (by kernel_rfl))
  f263 := Tryz.func295.trans (congrArg some (by kernel_rfl))
  f264 := Tryz.func296.trans (congrArg some (by kernel_rfl))
  f276 := Tryz.func294.trans (congrArg some (by kernel_rfl))
  f277 := Tryz.func345.trans (congrArg some (by kernel_rfl))
  t0 := Tryz.underlying0
  a0 := Tryz.isAgg0
  z0 := Tryz.sizeOf0
  v0 := Tryz.zeroValue0
  t3 := Tryz.underlying3
  a3 := Tryz.isAgg3
  z3 := Tryz.sizeOf3
  v3 := Tryz.zeroValue3
  t4 := Tryz.underlying4
  a4 := Tryz.isAgg4
  z4 := Tryz.sizeOf4
  v4 := Tryz.zeroValue4
  t5 := Tryz.underlying5
  a5 := Tryz.isAgg5
  z5 := Tryz.sizeOf5
  v5 := Tryz.zeroValue5
  t9 := Tryz.underlying9
  a9 := Tryz.isAgg9
  z9 := Tryz.sizeOf9
  v9 := Tryz.zeroValue9
  t20 := Tryz.underlying20
  a20 := Tryz.isAgg20
  z20 := Tryz.sizeOf20
  v20 := Tryz.zeroValue20
  t37 := Tryz.underlying32
  a37 := Tryz.isAgg32
  z37 := Tryz.sizeOf32
  v37 := Tryz.zeroValue32
  t46 := Tryz.underlying220
  a46 := Tryz.isAgg220
  z46 := Tryz.sizeOf220
  v46 := Tryz.zeroValue220
  t51 := Tryz.underlying152
  a51 := Tryz.isAgg152
  z51 := Tryz.sizeOf152
  v51 := Tryz.zeroValue152
  t53 := Tryz.underlying60
  a53 := Tryz.isAgg60
  z53 := Tryz.sizeOf60
  v53 := Tryz.zeroValue60
  t70 := Tryz.underlying139
  a70 := Tryz.isAgg139
  z70 := Tryz.sizeOf139
  v70 := Tryz.zeroValue139
  t72 := Tryz.underlying141
  a72 := Tryz.isAgg141
  z72 := Tryz.sizeOf141
  v72 := Tryz.zeroValue141
  t75 := Tryz.underlying270
  a75 := Tryz.isAgg270
  z75 := Tryz.sizeOf270
  v75 := Tryz.zeroValue270
  t76 := Tryz.underlying271
  a76 := Tryz.isAgg271
  z76 := Tryz.sizeOf271
  v76 := Tryz.zeroValue271
  t109 := Tryz.underlying327
  a109 := Tryz.isAgg327
  z109 := Tryz.sizeOf327
  v109 := Tryz.zeroValue327
  t127 := Tryz.underlying215
  a127 := Tryz.isAgg215
  z127 := Tryz.sizeOf215
  v127 := Tryz.zeroValue215
  t146 := Tryz.underlying388
  a146 := Tryz.isAgg388
  z146 := Tryz.sizeOf388
  v146 := Tryz.zeroValue388
  t148 := Tryz.underlying390
  a148 := Tryz.isAgg390
  z148 := Tryz.sizeOf390
  v148 := Tryz.zeroValue390
  t164 := Tryz.underlying386
  a164 := Tryz.isAgg386
  z164 := Tryz.sizeOf386
  v164 := Tryz.zeroValue386 }
def Tryz.lays156_ren : Go.Shelf.Ren := ⟨fun | 156 => 220 | 165 => 217 | 166 => 156 | 169 => 69 | 240 => 214 | 241 => 297 | 276 => 294 | 277 => 345 | n => n, fun | 31 => 22 | 9 => 9 | 3 => 3 | 4 => 4 | 0 => 0 | 20 => 20 | 72 => 141 | 76 => 271 | 70 => 139 | 37 => 32 | 75 => 270 | 127 => 215 | 164 => 386 | 5 => 5 | 80 => 58 | n => n, fun | n => n⟩
theorem Tryz.lays156 : Go.Proofs.Lays.n156 Tryz.prog Tryz.lays156_ren := {
  mixed := by kernel_rfl
  f156 := Tryz.func220.trans (congrArg some (by kernel_rfl))
  f165 := Tryz.func217.trans (congrArg some (by kernel_rfl))
  f166 := Tryz.func156.trans (congrArg some (by kernel_rfl))
  f169 := Tryz.func69.trans (congrArg some (by kernel_rfl))
  f240 := Tryz.func214.trans (congrArg some (by kernel_rfl))
  f241 := Tryz.func297.trans (congrArg some (by kernel_rfl))
  f276 := Tryz.func294.trans (congrArg some (by kernel_rfl))
  f277 := Tryz.func345.trans (congrArg some (by kernel_rfl))
  t0 := Tryz.underlying0
  a0 := Tryz.isAgg0
  z0 := Tryz.sizeOf0
  v0 := Tryz.zeroValue0
  t3 := Tryz.underlying3
  a3 := Tryz.isAgg3
  z3 := Tryz.sizeOf3
  v3 := Tryz.zeroValue3
  t4 := Tryz.underlying4
  a4 := Tryz.isAgg4
  z4 := Tryz.sizeOf4
  v4 := Tryz.zeroValue4
  t9 := Tryz.underlying9
  a9 := Tryz.isAgg9
  z9 := Tryz.sizeOf9
  v9 := Tryz.zeroValue9
  t20 := Tryz.underlying20
  a20 := Tryz.isAgg20
  z20 := Tryz.sizeOf20
  v20 := Tryz.zeroValue20
  t31 := Tryz.underlying22
  a31 := Tryz.isAgg22
  z31 := Tryz.sizeOf22
  v31 := Tryz.zeroValue22
  t37 := Tryz.underlying32
  a37 := Tryz.isAgg32
  z37 := Tryz.sizeOf32
  v37 := Tryz.zeroValue32
  t70 := Tryz.underlying139
  a70 := Tryz.isAgg139
  z70 := Tryz.sizeOf139
  v70 := Tryz.zeroValue139
  t72 := Tryz.underlying141
  a72 := Tryz.isAgg141
  z72 := Tryz.sizeOf141
  v72 := Tryz.zeroValue141
  t75 := Tryz.underlying270
  a75 := Tryz.isAgg270
  z75 := Tryz.sizeOf270
  v75 := Tryz.zeroValue270
  t76 := Tryz.underlying271
  a76 := Tryz.isAgg271
  z76 := Tryz.sizeOf271
  v76 := Tryz.zeroValue271
  t127 := Tryz.underlying215
  a127 := Tryz.isAgg215
  z127 := Tryz.sizeOf215
  v127 := Tryz.zeroValue215
  t164 := Tryz.underlying386
  a164 := Tryz.isAgg386
  z164 := Tryz.sizeOf386
  v164 := Tryz.zeroValue386 }
def Tryz.laysM171_ren : Go.Shelf.Ren := ⟨fun | 171 => 159 | 243 => 219 | 246 => 298 | 283 => 346 | 284 => 347 | 285 => 348 | 286 => 349 | 129 => 285 | 317 => 387 | 318 => 388 | 319 => 389 | 320 => 390 | 337 => 415 | 338 => 416 | n => n, fun | 3 => 3 | 9 => 9 | 2 => 2 | 4 => 4 | 171 => 415 | 0 => 0 | 53 => 60 | 37 => 32 | 5 => 5 | 173 => 417 | 212 => 441 | 51 => 152 | 20 => 20 | 213 => 442 | 46 => 220 | 232 => 469 | 233 => 470 | n => n, fun | 17 => 1 | 18 => 4 | 19 => 5 | n => n⟩
theorem Tryz.laysM171 : Go.Proofs.LaysM.n171 Tryz.prog Tryz.laysM171_ren := {
  mixed := by kernel_rfl
  f129 := Tryz.func285.trans (congrArg some (by kernel_rfl))
  f171 := Tryz.func159.trans (congrArg some (by kernel_rfl))
  f243 := Tryz.func219.trans (congrArg some (by kernel_rfl))
  f246 := Tryz.func298.trans (congrArg some (by kernel_rfl))
  f283 := Tryz.func346.trans (congrArg some (by kernel_rfl))
  f284 := Tryz.func347.trans (congrArg some (by kernel_rfl))
  f285 := Tryz.func348.trans (congrArg some (by kernel_rfl))
  f286 := Tryz.func349.trans (congrArg some (by kernel_rfl))
  f317 := Tryz.func387.trans (congrArg some (by kernel_rfl))
  f318 := Tryz.func388.trans (congrArg some (by kernel_rfl))
  f319 := Tryz.func389.trans (congrArg some (by kernel_rfl))
  f320 := Tryz.func390.trans (congrArg some (by kernel_rfl))
  f337 := Tryz.func415.trans (congrArg some (by kernel_rfl))
  f338 := Tryz.func416.trans (congrArg some (by kernel_rfl))
  t0 := Tryz.underlying0
  a0 := Tryz.isAgg0
  z0 := Tryz.sizeOf0
  v0 := Tryz.zeroValue0
  t2 := Tryz.underlying2
  a2 := Tryz.isAgg2
  z2 := Tryz.sizeOf2
  v2 := Tryz.zeroValue2
  t3 := Tryz.underlying3
  a3 := Tryz.isAgg3
  z3 := Tryz.sizeOf3
  v3 := Tryz.zeroValue3
  t4 := Tryz.underlying4
  a4 := Tryz.isAgg4
  z4 := Tryz.sizeOf4
  v4 := Tryz.zeroValue4
  t5 := Tryz.underlying5
  a5 := Tryz.isAgg5
  z5 := Tryz.sizeOf5
  v5 := Tryz.zeroValue5
  t9 := Tryz.underlying9
  a9 := Tryz.isAgg9
  z9 := Tryz.sizeOf9
  v9 := Tryz.zeroValue9
  t20 := Tryz.underlying20
  a20 := Tryz.isAgg20
  z20 := Tryz.sizeOf20
  v20 := Tryz.zeroValue20
  t37 := Tryz.underlying32
  a37 := Tryz.isAgg32
  z37 := Tryz.sizeOf32
  v37 := Tryz.zeroValue32
  t46 := Tryz.underlying220
  a46 := Tryz.isAgg220
  z46 := Tryz.sizeOf220
  v46 := Tryz.zeroValue220
  t51 := Tryz.underlying152
  a51 := Tryz.isAgg152
  z51 := Tryz.sizeOf152
  v51 := Tryz.zeroValue152
  t53 := Tryz.underlying60
  a53 := Tryz.isAgg60
  z53 := Tryz.sizeOf60
  v53 := Tryz.zeroValue60
  t171 := Tryz.underlying415
  a171 := Tryz.isAgg415
  z171 := Tryz.sizeOf415
  v171 := Tryz.zeroValue415
  t173 := Tryz.underlying417
  a173 := Tryz.isAgg417
  z173 := Tryz.sizeOf417
  v173 := Tryz.zeroValue417
  t212 := Tryz.underlying441
  a212 := Tryz.isAgg441
  z212 := Tryz.sizeOf441
  v212 := Tryz.zeroValue441
  t213 := Tryz.underlying442
  a213 := Tryz.isAgg442
  z213 := Tryz.sizeOf442
  t232 := Tryz.underlying469
  a232 := Tryz.isAgg469
  z232 := Tryz.sizeOf469
  v232 := Tryz.zeroValue469
  t233 := Tryz.underlying470
  a233 := Tryz.isAgg470
  z233 := Tryz.sizeOf470
  v233 := Tryz.zeroValue470
  g17 := by kernel_rfl
  g18 := by kernel_rfl
  g19 := by kernel_rfl
  i0 := by kernel_rfl
  i2 := by kernel_rfl
  i3 := by kernel_rfl
  i4 := by kernel_rfl
  i5 := by kernel_rfl
  i9 := by kernel_rfl
  i20 := by kernel_rfl
  i37 := by kernel_rfl
  i46 := by kernel_rfl
  i51 := by kernel_rfl
  i53 := by kernel_rfl
  i171 := by kernel_rfl
  i173 := by kernel_rfl
  i212 := by kernel_rfl
  i232 := by kernel_rfl
  i233 := by kernel_rfl
  m17 := by kernel_rfl
  m18 := by kernel_rfl
  m19 := by kernel_rfl }
theorem Tryz.extra105 : Builder.Extra Tryz.prog Tryz.lays105_ren := {
  sizeBuilder := by kernel_rfl
  liesBuilder := by kernel_rfl
  t5 := Tryz.underlying5
  a5 := Tryz.isAgg5
  z5 := Tryz.sizeOf5
  v5 := Tryz.zeroValue5
  infoByte := by kernel_rfl
  cellsByte := by kernel_rfl
  sizeByte := by kernel_rfl
  neB5 := by decide }
theorem Tryz.extra156 : Builder.Extra Tryz.prog Tryz.lays156_ren := {
  sizeBuilder := by kernel_rfl
  liesBuilder := by kernel_rfl
  t5 := Tryz.underlying5
  a5 := Tryz.isAgg5
  z5 := Tryz.sizeOf5
  v5 := Tryz.zeroValue5
  infoByte := by kernel_rfl
  cellsByte := by kernel_rfl
  sizeByte := by kernel_rfl
  neB5 := by decide }
theorem Tryz.strings_Repeat (s : ByteArray) (c : Nat) (w : World) (hc : c ≤ 9223372036854775807) (hlen : s.size * c ≤ 140737488355328) :
    Calls Tryz.prog 157 #[.string s, .int .i64 c] w fun e w' => e = .returned (.string ⟨(Lib.repeatL s.data.toList c).toArray⟩) ∧ Below w.heap.size w w' := Any.strings_Repeat Tryz.lays105 Tryz.extra105 s c w hc hlen
theorem Tryz.strings_Join (bk o c : Nat) (xs : List ByteArray) (sep : ByteArray) (w : World)
    (hcells : ∀ (j : Nat) x, xs[j]? = some x → w.cell? ⟨bk, o + j, none⟩ = some (.string x))
    (hbk : bk < w.heap.size) (hN : xs.length ≤ 140737488355328) (hcap : xs.length ≤ c)
    (hlen : (Lib.join (xs.map (·.data.toList)) sep.data.toList).length ≤ 140737488355328) :
    Calls Tryz.prog 220 #[.slice (some ⟨bk, o, none⟩) xs.length c, .string sep] w fun e w' => e = .returned (.string ⟨(Lib.join (xs.map (·.data.toList)) sep.data.toList).toArray⟩) ∧ Below w.heap.size w w' := Any.strings_Join Tryz.lays156 Tryz.extra156 bk o c xs sep w hcells hbk hN hcap hlen
theorem Tryz.strconv_Itoa (n : Int) (h0 : -9223372036854775808 ≤ n) (h1 : n ≤ 9223372036854775807) (w : World) (htab : Lib.TabIs Tryz.prog w "internal/strconv.uint64pow10" .u64 Lib.pow10Tab) :
    Calls Tryz.prog 159 #[.int .i64 n] w fun e w' => e = .returned (.string ⟨(Lib.itoa n).toArray⟩) ∧ ∃ k os, w' = Sort.grow (w.drewN k) os := Any.strconv_Itoa Tryz.laysM171 n h0 h1 w htab
end Go.Proofs
