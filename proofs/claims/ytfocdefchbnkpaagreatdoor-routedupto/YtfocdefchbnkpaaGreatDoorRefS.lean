/- What a text without a fault says: few hosts and rules, names and numbers that differ, short strings. -/
import Derived.Test.YtfocdefchbnkpaaGreatDoorAli
import Derived.Test.YtfocdefchbnkpaaGreatDoorRefQ
import Derived.Test.YtfocdefchbnkpaaGreatDoorRefN
import Derived.Test.YtfocdefchbnkpaaGreatDoorEqB
import Derived.Test.YtfocdefchbnkpaaGreatDoorProW
import Derived.Test.YtfocdefchbnkpaaGreatDoorShelfC
import Derived.Deep.RegionHeld3
set_option maxRecDepth 100000
set_option maxHeartbeats 20000000
namespace Go.Proofs.YtfocdefchbnkpaaGreatDoor
open Go.RowKit
def Fine (st:R.St):Prop:=st.bad<0/\st.E=0
theorem za7 {t:R.Tok}{st:R.St}{ok:Bool}(h:Fine (R.overS t st ok)):Fine st/\ok=true:=by
 unfold R.overS at h
 split at h
 ·exact absurd h.1 (by omega)
 ·split at h
  ·rename_i ho;exact⟨h,ho⟩
  ·have:=h.1;simp only at this;omega
theorem xh {st:R.St}{ok:Bool}{e a:Int}(he:e≠0)(h:Fine (R.notS st ok e a)):Fine st/\ok=true:=by
 unfold R.notS at h
 split at h
 ·exact absurd h.2 he
 ·rename_i hn
  refine⟨h,?_⟩
  cases ok with
  | true=>rfl
  | false=>exact absurd ⟨rfl,h.2,h.1⟩ hn
theorem x7 {ts:List R.Tok}{st:R.St}{s:List UInt8}(h:Fine (R.needS ts st s)):Fine st:=(za7 h).1
theorem jC {ts:List R.Tok}{st:R.St}{k:Int}(h:Fine (R.kindS ts st k)):Fine st/\(R.cur ts st).k=k:=by
 obtain⟨h1,h2⟩:=za7 h
 exact⟨h1,by simpa using h2⟩
theorem fR {s:List UInt8}{p:Int}:∀(l:List (List UInt8)) {st:R.St},Fine (R.among l s p st)->Fine st/\s ∉ l:=by
 intro l
 induction l with
 | nil=>intro st h;exact⟨h,by simp⟩
 | cons a l ih=>
  intro st h
  obtain⟨h1,h2⟩:=ih (st:=R.notS st (decide (a≠s)) 5 p) h
  obtain⟨h3,h4⟩:=xh (by decide) h1
  refine⟨h3,fun hm=>?_⟩
  rcases List.mem_cons.1 hm with rfl | hm
  ·simp at h4
  ·exact h2 hm
theorem zeC {s:Int}{p:Int}:∀(l:List Int) {st:R.St},Fine (R.amongN l s p st)->Fine st/\s ∉ l:=by
 intro l
 induction l with
 | nil=>intro st h;exact⟨h,by simp⟩
 | cons a l ih=>
  intro st h
  obtain⟨h1,h2⟩:=ih (st:=R.notS st (!decide (a=s)) 5 p) h
  obtain⟨h3,h4⟩:=xh (by decide) h1
  refine⟨h3,fun hm=>?_⟩
  rcases List.mem_cons.1 hm with rfl | hm
  ·simp at h4
  ·exact h2 hm
theorem jV {ts:List R.Tok}(aa:R.Ok ts)(st:R.St):(R.cur ts st).s.length<=3000:=by
 unfold R.cur
 rw[List.getD_eq_getElem?_getD]
 cases h:ts[st.K]? with
 | none=>simp
 | some t=>exact aa.strs _ _ h
theorem ziW {ts:List R.Tok}(aa:R.Ok ts)(st:R.St)(hk:(R.cur ts st).k=49):0<=R.num (R.cur ts st).s/\R.num (R.cur ts st).s<=99999:=by
 unfold R.cur at hk ⊢
 rw[List.getD_eq_getElem?_getD] at hk ⊢
 cases h:ts[st.K]? with
 | none=>rw[h] at hk;simp at hk
 | some t=>rw[h] at hk;exact aa.nums _ _ h hk
theorem za8 {ts:List R.Tok}{st:R.St}(h:Fine (R.pathS ts st).2):Fine st/\R.path (R.pathS ts st).1=true:=by
 obtain⟨h1,h2⟩:=xh (by decide) h
 exact⟨(jC h1).1,h2⟩
theorem fS {ts:List R.Tok}{st:R.St}(h:Fine (R.valueS ts st).2):Fine st:=x7 (jC (xh (by decide) h).1).1
theorem vt {ts:List R.Tok}{st:R.St}{l:List (List UInt8)}(h:Fine (R.headerS ts st l).2):Fine st:=
 (jC (xh (by decide) (fR l h).1).1).1
theorem zkC {l:List UInt8}(h:R.path l=true):l≠[]:=by
 intro e;subst e;simp[R.path] at h
def FewM (l:List R.Mt):Prop:=l.length<=3/\∀m∈l,m.name.length<=3000/\m.val.length<=3000
theorem zeF {ts:List R.Tok}(ab:R.Ok ts)(n:Nat):∀(st:R.St) (aa:List R.Mt),Fine (R.mtLoop ts n st aa).2->Fine st/\(FewM aa->FewM (R.mtLoop ts n st aa).1):=by
 induction n with
 | zero=>intro st aa h;exact⟨h,id⟩
 | succ n ih=>
  intro st aa h
  unfold R.mtLoop at h ⊢
  split at h
  ·rename_i hb
   rw[if_pos hb]
   obtain⟨h1,h2⟩:=ih _ _ h
   have h3:=x7 h1
   have h4:Fine (jQ ts st aa.length).2:=by
    unfold kK at h3;split at h3
    ·exact fS h3
    ·exact h3
   obtain⟨h5,h6⟩:=xh (by decide) (vt h4)
   refine⟨x7 h5,fun ha=>h2 ⟨?_,?_⟩⟩
   ·have:aa.length<3:=by have:=of_decide_eq_true h6;omega
    unfold y8;simp;omega
   ·intro m hm
    unfold y8 at hm
    rcases List.mem_append.1 hm with hm | hm
    ·exact ha.2 m hm
    ·simp at hm;subst hm
     refine⟨by show(R.lower _).length<=3000;rw[vB];exact jV ab _,?_⟩
     show(kK ts (jQ ts st aa.length).2).1.length<=3000
     unfold kK;split
     ·exact jV ab _
     ·simp
  ·rename_i hb;rw[if_neg hb];exact⟨h,id⟩
def FewT (i:Nat)(l:List (List UInt8×Int)):Prop:=i<=4/\l.length<=i/\∀t∈l,t.1.length<=3000/\0<=t.2/\t.2<=99999
theorem zeI {ts:List R.Tok}(ab:R.Ok ts)(n:Nat):∀(st:R.St) (i:Nat) (aa:List (List UInt8×Int)),Fine (R.tgLoop ts n st i aa).2->Fine st/\(FewT i aa->∃j,FewT j (R.tgLoop ts n st i aa).1):=by
 induction n with
 | zero=>intro st i aa h;exact⟨h,fun h=>⟨i,h⟩⟩
 | succ n ih=>
  intro st i aa h
  unfold R.tgLoop at h ⊢
  split at h
  ·rename_i hb
   rw[if_pos hb]
   have hR:∀(hf:Fine (zo ts st i aa).1),Fine st/\(FewT i aa->FewT (i+1) (zo ts st i aa).2):=by
    intro hf
    obtain⟨g1,g2⟩:=xh (by decide) hf
    obtain⟨g3,g4⟩:=xh (by decide) g1
    obtain⟨g5,g6⟩:=xh (by decide) g3
    obtain⟨g7,g8⟩:=jC g5
    obtain⟨g9,_⟩:=jC g7
    have hi:i<4:=by have:=of_decide_eq_true g6;omega
    refine⟨g9,fun ha=>⟨by omega,?_,?_⟩⟩
    ·have:=ha.2.1
     unfold zo;simp only;split
     ·simp;omega
     ·omega
    ·intro t ht
     unfold zo at ht;simp only at ht
     split at ht
     ·rcases List.mem_append.1 ht with ht | ht
      ·exact ha.2.2 t ht
      ·simp at ht;subst ht
       exact⟨jV ab _,ziW ab _ g8⟩
     ·exact ha.2.2 t ht
   split at h
   ·rename_i hc
    rw[if_pos hc]
    obtain⟨h1,h2⟩:=ih _ _ _ h
    obtain⟨h3,h4⟩:=hR (x7 h1)
    exact⟨h3,fun ha=>h2 (h4 ha)⟩
   ·rename_i hc
    rw[if_neg hc]
    obtain⟨h3,h4⟩:=hR h
    exact⟨h3,fun ha=>⟨_,h4 ha⟩⟩
  ·rename_i hb;rw[if_neg hb];exact⟨h,fun h=>⟨i,h⟩⟩
def FewS (l:List (List UInt8×List UInt8)):Prop:=l.length<=3/\∀m∈l,m.1.length<=3000/\m.2.length<=3000
theorem zeH {ts:List R.Tok}(ab:R.Ok ts)(n:Nat):∀(st:R.St) (aa:List (List UInt8×List UInt8)),Fine (R.stLoop ts n st aa).2->Fine st/\(FewS aa->FewS (R.stLoop ts n st aa).1):=by
 induction n with
 | zero=>intro st aa h;exact⟨h,id⟩
 | succ n ih=>
  intro st aa h
  unfold R.stLoop at h ⊢
  split at h
  ·rename_i hb
   rw[if_pos hb]
   obtain⟨h1,h2⟩:=ih _ _ h
   obtain⟨h5,h6⟩:=xh (by decide) (vt (fS (x7 h1)))
   refine⟨x7 h5,fun ha=>h2 ⟨?_,?_⟩⟩
   ·have:aa.length<3:=by have:=of_decide_eq_true h6;omega
    unfold yA;simp;omega
   ·intro m hm
    unfold yA at hm
    rcases List.mem_append.1 hm with hm | hm
    ·exact ha.2 m hm
    ·simp at hm;subst hm
     exact⟨by show(R.lower _).length<=3000;rw[vB];exact jV ab _,jV ab _⟩
  ·rename_i hb;rw[if_neg hb];exact⟨h,id⟩
def FewD (l:List (List UInt8)):Prop:=l.length<=3/\∀m∈l,m.length<=3000
theorem zeD {ts:List R.Tok}(ad:R.Ok ts)(ab:List (List UInt8))(n:Nat):∀(st:R.St) (aa:List (List UInt8)),Fine (R.dpLoop ts ab n st aa).2->Fine st/\(FewD aa->FewD (R.dpLoop ts ab n st aa).1):=by
 induction n with
 | zero=>intro st aa h;exact⟨h,id⟩
 | succ n ih=>
  intro st aa h
  unfold R.dpLoop at h ⊢
  split at h
  ·rename_i hb
   rw[if_pos hb]
   obtain⟨h1,h2⟩:=ih _ _ h
   obtain⟨h5,h6⟩:=xh (by decide) (vt (x7 h1))
   refine⟨x7 h5,fun ha=>h2 ⟨?_,?_⟩⟩
   ·have:aa.length<3:=by have:=of_decide_eq_true h6;omega
    unfold y7;simp;omega
   ·intro m hm
    unfold y7 at hm
    rcases List.mem_append.1 hm with hm | hm
    ·exact ha.2 m hm
    ·simp at hm;subst hm
     show(R.lower _).length<=3000;rw[vB];exact jV ad _
  ·rename_i hb;rw[if_neg hb];exact⟨h,id⟩
def GoodRl (r:R.Rl):Prop:=R.Small r/\(r.change=true->r.to≠[])
theorem zk1 {ts:List R.Tok}(aa:R.Ok ts)(st:R.St)(i:Nat)(ab:List Int)(h:Fine (R.ruleS ts st i ab).2):Fine st/\i<6/\(R.ruleS ts st i ab).1.number ∉ ab/\GoodRl (R.ruleS ts st i ab).1:=by
 unfold R.ruleS R.ruleT R.ruleE at h ⊢
 simp only at h ⊢
 generalize hA:R.rlA ts st i ab=A at*
 generalize hB:R.rlB ts A.2=B at*
 generalize hM:R.matchesS ts B.2=M at*
 generalize hT:R.targetsS ts M.2=T at*
 generalize hC:R.rlC ts T.2=C at*
 have h1:=x7 h
 unfold R.editsS at h1
 simp only at h1
 obtain⟨h2,d2⟩:=zeD aa _ _ _ _ h1
 obtain⟨h3,d3⟩:=zeH aa _ _ _ h2
 have hc:Fine T.2/\C.1.length<=3000/\(R.isB T.2 (R.cur ts T.2) qR=true->C.1≠[]):=by
  rw[<-hC] at h3 ⊢
  unfold R.rlC at h3 ⊢
  split at h3
  ·rename_i hb
   rw[if_pos hb]
   obtain⟨g1,g2⟩:=za8 (x7 h3)
   exact⟨x7 g1,jV aa _,fun _=>zkC g2⟩
  ·rename_i hb
   rw[if_neg hb]
   exact⟨h3,by simp,fun e=>absurd e hb⟩
 obtain⟨ag,an,ao⟩:=hc
 have ht:Fine M.2/\∃j,FewT j T.1:=by
  rw[<-hT] at ag ⊢
  unfold R.targetsS at ag ⊢
  obtain⟨g1,g2⟩:=zeI aa _ _ _ _ (x7 ag)
  exact⟨x7 (xh (by decide) g1).1,g2 ⟨by decide,by simp,fun t ht=>by simp at ht⟩⟩
 obtain⟨af,j,hj⟩:=ht
 have hm:Fine B.2/\FewM M.1:=by
  rw[<-hM] at af ⊢
  unfold R.matchesS at af ⊢
  obtain⟨g1,g2⟩:=zeF aa _ _ _ af
  exact⟨g1,g2 ⟨by simp,fun t ht=>by simp at ht⟩⟩
 obtain⟨ae,ah⟩:=hm
 have hb:Fine A.2/\B.1.length<=3000:=by
  rw[<-hB] at ae ⊢
  unfold R.rlB at ae ⊢
  exact⟨x7 (x7 (za8 (x7 ae)).1),jV aa _⟩
 obtain⟨ad,am⟩:=hb
 have ha:Fine st/\i<6/\A.1 ∉ ab/\0<=A.1/\A.1<=99999:=by
  rw[<-hA] at ad ⊢
  unfold R.rlA R.rlA2 at ad ⊢
  obtain⟨g1,g2⟩:=zeC _ ad
  obtain⟨g3,g4⟩:=xh (by decide) g1
  obtain⟨g5,g6⟩:=jC g3
  obtain⟨g7,g8⟩:=xh (by decide) g5
  exact⟨x7 g7,by have:=of_decide_eq_true g8;omega,g2,ziW aa _ g6⟩
 obtain⟨ai,aj,ak,al⟩:=ha
 have e3:=d3 ⟨by simp,fun t ht=>by simp at ht⟩
 have e2:=d2 ⟨by simp,fun t ht=>by simp at ht⟩
 refine⟨ai,aj,ak,⟨al,am,⟨by have:=ah.1;simp only;omega,ah.2⟩,⟨by have:=hj.1;have:=hj.2.1;simp only;omega,hj.2.2⟩,an,⟨by have:=e3.1;unfold R.editsS;simp only;omega,e3.2⟩,⟨by have:=e2.1;unfold R.editsS;simp only;omega,e2.2⟩⟩,ao⟩
def GoodRs (l:List R.Rl):Prop:=l.length<=6/\(l.map R.Rl.number).Pairwise (·≠·)/\∀r∈l,GoodRl r
theorem zeG {ts:List R.Tok}(ab:R.Ok ts)(n:Nat):∀(st:R.St) (aa:List R.Rl),Fine (R.rlLoop ts n st aa).2->Fine st/\(GoodRs aa->GoodRs (R.rlLoop ts n st aa).1):=by
 induction n with
 | zero=>intro st aa h;exact⟨h,id⟩
 | succ n ih=>
  intro st aa h
  unfold R.rlLoop at h ⊢
  split at h
  ·rename_i hb
   rw[if_pos hb]
   obtain⟨h1,h2⟩:=ih _ _ h
   obtain⟨h3,h4,h5,h6⟩:=zk1 ab _ _ _ h1
   refine⟨h3,fun ha=>h2 ⟨by rw[zW];simp;omega,?_,?_⟩⟩
   ·rw[xy,List.pairwise_append]
    refine⟨ha.2.1,by simp,fun a hm b hb2=>?_⟩
    simp at hb2;subst hb2
    exact fun e=>h5 (e ▸ hm)
   ·intro r hr
    rcases List.mem_append.1 hr with hr | hr
    ·exact ha.2.2 r hr
    ·simp at hr;subst hr;exact h6
  ·rename_i hb;rw[if_neg hb];exact⟨h,id⟩
def GoodHst (h:R.Hst):Prop:=h.name.length<=3000/\GoodRs h.rules
theorem zk0 {ts:List R.Tok}(ab:R.Ok ts)(st:R.St)(aa:List (List UInt8))(h:Fine (R.hostS ts st aa).2):Fine st/\aa.length<4/\(R.hostS ts st aa).1.name ∉ aa/\GoodHst (R.hostS ts st aa).1:=by
 unfold R.hostS R.hsB at h ⊢
 simp only at h ⊢
 obtain⟨h1,h2⟩:=zeG ab _ _ _ (x7 h)
 have h3:=x7 h1
 have h4:=h2 ⟨by simp,.nil,fun r hr=>by simp at hr⟩
 unfold R.hsA R.hsA2 at h3
 obtain⟨g1,g2⟩:=fR _ h3
 obtain⟨g5,_⟩:=jC (xh (by decide) g1).1
 obtain⟨g7,g8⟩:=xh (by decide) g5
 refine⟨x7 g7,by have:=of_decide_eq_true g8;omega,g2,?_,h4⟩
 show(R.lower _).length<=3000
 rw[vB];exact jV ab _
def GoodHs (l:List R.Hst):Prop:=l.length<=4/\(l.map R.Hst.name).Pairwise (·≠·)/\∀r∈l,GoodHst r
theorem zeE {ts:List R.Tok}(ab:R.Ok ts)(n:Nat):∀(st:R.St) (aa:List R.Hst),Fine (R.hsLoop ts n st aa).2->Fine st/\(GoodHs aa->GoodHs (R.hsLoop ts n st aa).1):=by
 induction n with
 | zero=>intro st aa h;exact⟨h,id⟩
 | succ n ih=>
  intro st aa h
  unfold R.hsLoop at h ⊢
  split at h
  ·rename_i hb
   rw[if_pos hb]
   obtain⟨h1,h2⟩:=ih _ _ h
   obtain⟨h3,h4,h5,h6⟩:=zk0 ab _ _ h1
   refine⟨h3,fun ha=>h2 ⟨by rw[zW];simp at h4 ⊢;omega,?_,?_⟩⟩
   ·rw[xy,List.pairwise_append]
    refine⟨ha.2.1,by simp,fun a hm b hb2=>?_⟩
    simp at hb2;subst hb2
    exact fun e=>h5 (e ▸ hm)
   ·intro r hr
    rcases List.mem_append.1 hr with hr | hr
    ·exact ha.2.2 r hr
    ·simp at hr;subst hr;exact h6
  ·rename_i hb;rw[if_neg hb];exact⟨h,id⟩
theorem zlQ (l:List UInt8)(hl:l.length<=3000)(h:Fine (R.readS l).2):GoodHs (R.readS l).1:=by
 obtain⟨aa,_⟩:=R.toks_ok l hl
 exact(zeE aa _ _ _ h).2 ⟨by simp,.nil,fun r hr=>by simp at hr⟩
theorem yw (l:List UInt8):qd l=xm l:=by
 unfold qd xm
 by_cases hl:3000<l.length
 ·rw[if_pos hl,if_pos hl]
 ·rw[if_neg hl,if_neg hl]
  rcases zg6 l (by omega) with ⟨h1,h2,h3,h4,_⟩ | d
  ·rw[if_neg (by omega)]
   unfold xT
   rw[if_neg (by rw[h2];simp),h3]
   by_cases hE:(R.readS l).2.E=0
   ·rw[if_neg (by simpa using hE),if_pos hE,hE]
   ·rw[if_pos hE,if_neg hE,h4 hE]
  ·rw[if_pos d.bad]
   unfold xT
   rw[if_pos d.broken,d.place]
def toRl (r:P.Rl):R.Rl:=rlOf r (decide (r.rep≠[]))
def toR (h:P.Hst):R.Hst:=⟨h.name,h.rules.map toRl⟩
theorem zqS {a:R.Rl}{b:P.Rl}(h:RlSim a b)(hg:GoodRl a):a=toRl b:=by
 obtain⟨h1,h2⟩:=h
 have e:a.change=decide (b.rep≠[]):=by
  cases hc:a.change with
  | false=>rw[h2 hc];simp
  | true=>
   have h3:=hg.2 hc
   rw[h1] at h3
   exact(decide_eq_true h3).symm
 rw[h1,e];rfl
theorem zqN {a:List R.Rl}{b:List P.Rl}(h:All2 RlSim a b)(hg:∀r∈a,GoodRl r):a=b.map toRl:=by
 induction h with
 | nil=>rfl
 | cons h _ ih=>rw[xi,<-ih (fun r hr=>hg r (by simp[hr])),<-zqS h (hg _ (by simp))]
theorem zqD {a:R.Hst}{b:P.Hst}(h:HstSim a b)(hg:GoodHst a):a=toR b:=by
 obtain⟨h1,h2⟩:=h
 cases a
 simp only at h1 h2
 rw[h1,zqN h2 hg.2.2.2];rfl
theorem zp1 {a:List R.Hst}{b:List P.Hst}(h:All2 HstSim a b)(hg:∀r∈a,GoodHst r):a=b.map toR:=by
 induction h with
 | nil=>rfl
 | cons h _ ih=>rw[xi,<-ih (fun r hr=>hg r (by simp[hr])),<-zqD h (hg _ (by simp))]
theorem zcY (l:List UInt8)(hl:l.length<=3000)(hb:(ze l).2.broken=false)(he:(ze l).2.err=0):GoodHs (R.readS l).1/\(R.readS l).1=(ze l).1.map toR:=by
 rcases zg6 l hl with ⟨h1,h2,h3,h4,h5⟩ | d
 ·have hg:=zlQ l hl ⟨h1,by rw[<-h3];exact he⟩
  exact⟨hg,zp1 h5 hg.2.2⟩
 ·rw[d.broken] at hb;cases hb
theorem zg5 (l:List UInt8)(hl:l.length<=3000)(hb:(ze l).2.broken=false)(he:(ze l).2.err=0):(ze l).1.length<=12/\∀h∈(ze l).1,h.rules.length<=12:=by
 obtain⟨hg,e⟩:=zcY l hl hb he
 rw[e] at hg
 refine⟨by have:=hg.1;simp at this;omega,fun h hh=>?_⟩
 have:=(hg.2.2 (toR h) (List.mem_map_of_mem hh)).2.1
 simp[toR] at this;omega
section
variable {α:Type} (lt:α->α->Bool)
def gIns (out:List α)(x:α):List α:=out.take (out.takeWhile fun o=>lt o x).length++[x]++out.drop (out.takeWhile fun o=>lt o x).length
def gSort (l:List α):List α:=l.foldl (gIns lt) []
theorem zk3 (aa:List α)(x:α):(gIns lt aa x).Perm (x :: aa):=by
 unfold gIns
 rw[xY,List.singleton_append]
 refine List.perm_middle.trans ?_
 rw[List.take_append_drop]
theorem zpS (p:α->Bool)(l:List α):l.take (l.takeWhile p).length=l.takeWhile p:=by
 induction l with
 | nil=>rfl
 | cons a l ih=>
  rw[List.takeWhile_cons];split
  ·rw[zm,List.take_succ_cons,ih]
  ·rfl
theorem zoV (p:α->Bool)(l:List α):l.drop (l.takeWhile p).length=l.dropWhile p:=by
 induction l with
 | nil=>rfl
 | cons a l ih=>
  rw[List.takeWhile_cons,List.dropWhile_cons];split
  ·rw[zm,List.drop_succ_cons,ih]
  ·rfl
theorem zqG (p:α->Bool)(l:List α):∀a∈l.takeWhile p,p a=true:=by
 induction l with
 | nil=>intro a ha;simp at ha
 | cons b l ih=>
  intro a ha
  rw[List.takeWhile_cons] at ha
  split at ha
  ·rename_i hb
   rcases List.mem_cons.1 ha with rfl | ha
   ·exact hb
   ·exact ih a ha
  ·simp at ha
theorem zqF (hS:Go.Sort.SWO lt)(x:α)(l:List α)(hl:l.Pairwise (fun a b=>lt b a=false)):∀a∈l.dropWhile (fun o=>lt o x),lt a x=false:=by
 induction l with
 | nil=>intro a ha;simp at ha
 | cons b l ih=>
  intro a ha
  rw[List.pairwise_cons] at hl
  rw[List.dropWhile_cons] at ha
  split at ha
  ·exact ih hl.2 a ha
  ·rename_i hb
   have aa:lt b x=false:=by simpa using hb
   rcases List.mem_cons.1 ha with rfl | ha
   ·exact aa
   ·exact hS.ntrans a b x (hl.1 a ha) aa
theorem zeK (hS:Go.Sort.SWO lt)(aa:List α)(x:α)(h:aa.Pairwise (fun a b=>lt b a=false)):(gIns lt aa x).Pairwise (fun a b=>lt b a=false):=by
 unfold gIns
 rw[zpS,zoV]
 have h0:=h
 rw[<-List.takeWhile_append_dropWhile (p:=fun o=>lt o x) (l:=aa),List.pairwise_append] at h0
 obtain⟨h1,h2,h3⟩:=h0
 rw[xY,List.singleton_append,List.pairwise_append,List.pairwise_cons]
 refine⟨h1,⟨fun b hb=>zqF lt hS x aa h b hb,h2⟩,fun a ha b hb=>?_⟩
 rcases List.mem_cons.1 hb with rfl | hb
 ·have:=zqG _ _ a ha
  exact Go.Sort.SWO.asymmA hS this
 ·exact h3 a ha b hb
theorem gFold (hS:Go.Sort.SWO lt)(l:List α):∀aa:List α,aa.Pairwise (fun a b=>lt b a=false)->(l.foldl (gIns lt) aa).Perm (l++aa)/\(l.foldl (gIns lt) aa).Pairwise (fun a b=>lt b a=false):=by
 induction l with
 | nil=>intro aa h;exact⟨List.Perm.refl _,h⟩
 | cons x l ih=>
  intro aa h
  obtain⟨h1,h2⟩:=ih (gIns lt aa x) (zeK lt hS aa x h)
  refine⟨h1.trans ?_,h2⟩
  refine((zk3 lt aa x).append_left l).trans ?_
  exact List.perm_middle
end
def rlLt (a b:R.Rl):Bool:=decide (a.number<b.number)
def hsLt (a b:R.Hst):Bool:=xf a.name b.name
theorem zgH:Go.Sort.SWO rlLt:=⟨fun x=>by simp[rlLt],fun x y z h1 h2=>by simp[rlLt] at *;omega,fun x y z h1 h2=>by simp[rlLt] at *;omega⟩
theorem xo (a b:List UInt8):xf a b=Go.Sort.ltStr a b:=by unfold xf Go.Sort.ltStr;rw[bytesLess_eq]
theorem zgG:Go.Sort.SWO hsLt:=⟨fun x=>by unfold hsLt;rw[xo];exact Go.Sort.swo_ltStr.irrefl _,fun x y z=>by unfold hsLt;rw[xo,xo,xo];exact Go.Sort.swo_ltStr.trans _ _ _,fun x y z=>by unfold hsLt;rw[xo,xo,xo];exact Go.Sort.swo_ltStr.ntrans _ _ _⟩
theorem wj (a b:List UInt8)(h1:Go.Sort.ltStr a b=false)(h2:Go.Sort.ltStr b a=false):a=b:=by
 unfold Go.Sort.ltStr at h1 h2
 simp at h1 h2
 exact List.le_antisymm h2 h1
theorem zd0 (l:List R.Rl):ym l=gSort rlLt l:=rfl
theorem uZ (l:List R.Hst):jH l=gSort hsLt (l.map fun h=>⟨h.name,ym h.rules⟩):=by
 unfold jH gSort
 rw[List.foldl_map];rfl
theorem yr {α β:Type}{f:α->β}(l:List α)(h:(l.map f).Pairwise (·≠·)){a b:α}(ha:a∈l)(hb:b∈l)(e:f a=f b):a=b:=by
 induction l with
 | nil=>simp at ha
 | cons x l ih=>
  rw[xi,List.pairwise_cons] at h
  rcases List.mem_cons.1 ha with ea | ha1
  ·rcases List.mem_cons.1 hb with eb | hb1
   ·rw[ea,eb]
   ·exact absurd (ea ▸ e) (h.1 _ (List.mem_map_of_mem hb1))
  ·rcases List.mem_cons.1 hb with eb | hb1
   ·exact absurd (eb ▸ e).symm (h.1 _ (List.mem_map_of_mem ha1))
   ·exact ih h.2 ha1 hb1
theorem ziH (l m:List R.Rl)(hp:m.Perm l)(hs:m.Pairwise (fun a b=>rlLt b a=false))(hd:(l.map R.Rl.number).Pairwise (·≠·)):m=ym l:=by
 obtain⟨h1,h2⟩:=gFold rlLt zgH l [] .nil
 rw[xn] at h1
 rw[zd0]
 refine List.Perm.eq_of_pairwise (le:=fun a b=>rlLt b a=false) ?_ hs h2 (hp.trans h1.symm)
 intro a b ha hb g1 g2
 have e:a.number=b.number:=by simp[rlLt] at g1 g2;omega
 have aa:=hp.mem_iff.1 ha
 have ab:=h1.mem_iff.1 hb
 exact yr l hd aa ab e
def srtH (h:R.Hst):R.Hst:=⟨h.name,ym h.rules⟩
theorem zhG (l m:List R.Hst)(hp:m.Perm (l.map srtH))(hs:m.Pairwise (fun a b=>hsLt b a=false))(hd:(l.map R.Hst.name).Pairwise (·≠·)):m=jH l:=by
 obtain⟨h1,h2⟩:=gFold hsLt zgG (l.map srtH) [] .nil
 rw[xn] at h1
 rw[uZ]
 refine List.Perm.eq_of_pairwise (le:=fun a b=>hsLt b a=false) ?_ hs h2 (hp.trans h1.symm)
 intro a b ha hb g1 g2
 unfold hsLt at g1 g2
 rw[xo] at g1 g2
 have e:a.name=b.name:=wj _ _ g2 g1
 have aa:((l.map srtH).map R.Hst.name).Pairwise (·≠·):=by rw[List.map_map];exact hd
 exact yr _ aa (hp.mem_iff.1 ha) (h1.mem_iff.1 hb) e
theorem zlU {a b:P.Hst}(h:SrtR a b)(hd:((toR a).rules.map R.Rl.number).Pairwise (·≠·)):toR b=srtH (toR a):=by
 obtain⟨h1,h2,h3⟩:=h
 have e:b.rules.map toRl=ym (a.rules.map toRl):=by
  refine ziH _ _ (h2.map toRl) ?_ hd
  rw[List.pairwise_map]
  exact h3
 unfold toR srtH
 simp only
 rw[h1,e]
theorem zo1 {ps aa:List P.Hst}(h:SrtH ps aa)(hg:GoodHs (ps.map toR)):aa.map toR=jH (ps.map toR):=by
 obtain⟨p,h1,h2,h3,h4⟩:=h
 have e:aa.map toR=(p.map toR).map srtH:=by
  apply List.ext_getElem
  ·simp[h3]
  ·intro j g1 g2
   simp only[List.getElem_map]
   have k1:j<p.length:=by simpa using g2
   have k2:j<aa.length:=by simpa using g1
   refine zlU (h4 j k1 k2) ?_
   exact(hg.2.2 (toR p[j]) (List.mem_map_of_mem (h1.mem_iff.1 (List.getElem_mem k1)))).2.2.1
 refine zhG _ _ ?_ ?_ hg.2.1
 ·rw[e];exact((h1.map toR).map srtH)
 ·rw[e,List.pairwise_map,List.pairwise_map]
  refine h2.imp ?_
  intro a b ab
  show xf b.name a.name=false
  rw[xo];exact ab
theorem zgB {l:List R.Hst}(hg:GoodHs l):(jH l).length<=4/\∀h∈jH l,R.SmallH h:=by
 refine⟨by rw[zlT];exact hg.1,fun h hh=>?_⟩
 obtain⟨h1,_⟩:=gFold hsLt zgG (l.map srtH) [] .nil
 rw[xn] at h1
 rw[uZ] at hh
 obtain⟨x,hx,rfl⟩:=List.mem_map.1 (h1.mem_iff.1 hh)
 obtain⟨g1,g2,_,g3⟩:=hg.2.2 x hx
 refine⟨g1,?_,fun r hr=>?_⟩
 ·show(ym x.rules).length<=4000
  rw[ziJ];omega
 ·obtain⟨h2,_⟩:=gFold rlLt zgH x.rules [] .nil
  rw[xn] at h2
  exact(g3 r (h2.mem_iff.1 hr)).1
theorem zo3 (l:List UInt8):(⟨#[34]⟩:ByteArray)++R.str l++⟨#[34]⟩=R.str (R.q l):=by
 apply ByteArray.ext
 simp[R.str,R.q]
theorem xe (l:List UInt8)(w:World)(hl:l.length<=3000):Calls Tryz.prog 105 #[.string (R.str l)] w fun e w'=>e = .returned (.string (R.str (R.q l)))/\w'=w:=by
 have hz:(R.str l).size<=3000:=by rw[R.str_size];exact hl
 have e:=zo3 l
 go_enter Tryz.func105,Tryz.ntmps105
 go_wp2
 go_ret
 exact⟨rfl,rfl⟩
theorem Kept.cell {B:Nat}{l:List TypeId}{w w':World}(h:Kept B l w w'){b:Nat}{c:Array Value}{t:TypeId}{f:Nat×Nat}(hb:w.heap[b]?=some (.cells c t f))(ht:t ∉ l):w'.heap[b]?=some (.cells c t f):=by
 rw[h.block b (zE hb) (Or.inr fun c' t' f' hb'=>by rw[hb] at hb';cases hb';exact ht)];exact hb
theorem WInv.grown {w w':World}{wb:Nat}{l:List UInt8}{op:Int}(h:WInv w wb l op)(hg:w.grownBy w' none):WInv w' wb l op:=by
 rcases h with ⟨v,hb,ho⟩ | ⟨v,hb,ho⟩
 ·exact Or.inl ⟨v,zB hb hg (by simp),zO ho hg (fun k hk c=>by cases c)⟩
 ·exact Or.inr ⟨v,zB hb hg (by simp),zO ho hg (fun k hk c=>by cases c)⟩
theorem WInv.op {w:World}{wb:Nat}{l:List UInt8}{op:Int}(h:WInv w wb l op):w.cell? ⟨wb,2,none⟩=some (.int .i64 op):=by
 rcases h with ⟨v,hb,ho⟩ | ⟨v,hb,ho⟩
 ·exact z8 hb
 ·exact z8 hb
def lnS (op:Nat)(ps:List (List UInt8)):List UInt8:=List.replicate (2*op) 32++ps.flatten++[10]
theorem zpL (op:Nat):Lib.repeatL (⟨#[32,32]⟩:ByteArray).data.toList op=List.replicate (2*op) 32:=by
 have h:=Lib.repeatL_replicate 32 2 op
 rw[Nat.mul_comm];exact h
theorem zfM {w:World}{wb:Nat}{l:List UInt8}{op:Nat}(h:WInv w wb l op)(g c:Nat)(ps:List (List UInt8))(hp:w.heap[g]?=some (.cells (zh ps).toArray 9 (0,0)))(ak:op<=3)
  (hl:l.length+6+ps.flatten.length+1<=140737488355328) (hn:ps.length<=1000) :
  Calls Tryz.prog 104 #[.pointer (some ⟨wb,0,none⟩),.slice (some ⟨g,0,none⟩) ps.length c] w fun e w'=>e = .returned (.tuple #[])/\WInv w' wb (l++lnS op ps) op/\Kept wb wtags w w':=by
 have c2:=h.op
 have H0:Y (WInv w wb l op):=h
 have HP:Y _:=hp
 clear h hp
 have HR:Y (∀W,w.grownBy W none->Calls Tryz.prog 157 #[.string ⟨#[32,32]⟩,.int .i64 op] W fun e w'=>e = .returned (.string (R.str (List.replicate (2*op) 32)))/\w.grownBy w' none/\w'.cell? ⟨wb,2,none⟩=some (.int .i64 op)):=fun W hW=>
  (Tryz.strings_Repeat ⟨#[32,32]⟩ op W (by omega) (by show 2*op<=_;omega)).mono fun e w' ⟨h1,h2⟩=>⟨by rw[h1,zpL];rfl,zA hW (xD h2),(H0.o.grown (zA hW (xD h2))).op⟩
 have HW:Y (∀W,w.grownBy W none->Calls Tryz.prog 156 #[.pointer (some ⟨wb,0,none⟩),.string (R.str (List.replicate (2*op) 32))] W fun e w'=>∃n:Int,e = .returned (.tuple #[.int .i64 n,.nilIface])/\WInv w' wb (l++List.replicate (2*op) 32) op/\Kept wb wtags w w'/\w'.cell? ⟨wb,2,none⟩=some (.int .i64 op)):=fun W hW=>
  (zg4 (H0.o.grown hW) (R.str (List.replicate (2*op) 32)) (by rw[R.str_size,List.length_replicate];omega)).mono fun e w' ⟨h1,h2,h3⟩=>⟨_,h1,by rw[R.str_toList] at h2;exact h2,(qq hW).trans h3,h2.op⟩
 go_enter Tryz.func104,Tryz.ntmps104
 go_wp2_with fail
 go_region_held3 (fun W=>W.cell? ⟨wb,2,none⟩=some (.int .i64 op)) (go_keep) (first
  | (go_at_call 157;show Calls _ _ _ (World.drew w) _;refine(HR.o _ (zQ w)).mono ?_;rintro e wR ⟨rfl,ad,ag⟩;have ab:Y (w.grownBy wR none):=ad;clear ad)
  | (go_at_call 156;refine(HW.o _ ab.o).mono ?_;rintro e wT ⟨nT,rfl,hI,hK,ah⟩;have HI:Y (WInv wT wb (l++List.replicate (2*op) 32) op):=hI;have HK:Y (Kept wb wtags w wT):=hK;clear hI hK))
 all_goals
  clear HR HW ab
  go_wp2_with fail
  go_loopw [17] (fun iv wr=>∃i:Nat,i<=ps.length/\iv = .int .i64 i/\Y (WInv wr wb (l++List.replicate (2*op) 32++(ps.take i).flatten) op)/\Y (Kept wb wtags w wr)) (fun iv _=>ps.length - (intOf iv).toNat)
  case atStart=>exact⟨0,zl _,rfl,by rw[List.take_zero,List.flatten_nil,xn];exact HI,HK⟩
  case round=>
   obtain⟨i,aj,rfl,IR,KR⟩:=hrel
   by_cases aa:i<ps.length
   ·have ai:(i:Int)<ps.length:=by omega
    have d0:wr.cell? ⟨g,i,none⟩=some (.string (R.str ps[i])):=by
     rw[Lib.cell_of_heap (KR.o.cell HP.o (by decide))]
     simp[zh,aa]
    have af:(ps.take i).flatten.length+ps[i].length<=ps.flatten.length:=by
     have e:ps=ps.take i++ps[i] :: ps.drop (i+1):=by rw[<-List.drop_eq_getElem_cons aa,List.take_append_drop]
     have:=congrArg (fun z=>(List.flatten z).length) e
     simp only[jt,xP,zW] at this
     omega
    have HW:Y (Calls Tryz.prog 156 #[.pointer (some ⟨wb,0,none⟩),.string (R.str ps[i])] wr fun e w'=>∃n:Int,e = .returned (.tuple #[.int .i64 n,.nilIface])/\WInv w' wb (l++List.replicate (2*op) 32++(ps.take (i+1)).flatten) op/\Kept wb wtags w w'):=
     (zg4 IR.o (R.str ps[i]) (by rw[R.str_size];simp only[zW,List.length_replicate];omega)).mono fun e w' ⟨h1,h2,h3⟩=>⟨_,h1,by
      rw[R.str_toList,xY,<-List.flatten_concat,<-j6 aa] at h2;exact h2,KR.o.trans h3⟩
    clear af
    generalize ps[i]=pi at*
    go_wp2_with (go_at_call 156;refine HW.o.mono ?_;rintro e w2 ⟨n2,rfl,h2,h3⟩)
    go_roundw
    case rel=>exact⟨i+1,by omega,by go_num,h2,h3⟩
    case measure=>simp[intOf];omega
   ·have ae:Y (Calls Tryz.prog 158 #[.pointer (some ⟨wb,0,none⟩),.int .u8 10] wr fun e w'=>e = .returned .nilIface/\WInv w' wb (l++lnS op ps) op/\Kept wb wtags w w'):=
     (zlL IR.o 10 (by rw[show i=ps.length by omega,jS (zZ _)];simp only[zW,List.length_replicate];omega)).mono fun e w' ⟨h1,h2,h3⟩=>⟨h1,by
      rw[show i=ps.length by omega,jS (zZ _)] at h2
      unfold lnS;rw[<-xY,<-xY];exact h2,KR.o.trans h3⟩
    go_wp2_with (go_at_call 158;refine ae.o.mono ?_;rintro e w2 ⟨rfl,h2,h3⟩)
    go_end0
    exact⟨rfl,h2,h3⟩
theorem ziB {w:World}{wb:Nat}{l:List UInt8}(h:WInv w wb l (2:Nat))(m:P.Mt)(h1:m.name.length<=3000)(h2:m.val.length<=3000)(hl:l.length<=100000000000000) :
  Calls Tryz.prog 160 #[.pointer (some ⟨wb,0,none⟩),.agg #[.string (R.str m.name),.bool m.ask,.string (R.str m.val)]] w fun e w'=>e = .returned (.tuple #[])/\WInv w' wb (l++R.lnMt (mtOf m)) (2:Nat)/\Kept wb wtags w w':=by
 have ab:Y ((w.alloc (.cells #[.string (R.str m.name),.bool m.ask,.string (R.str m.val)] 276)).heap[w.heap.size]?=some (.cells #[.string (R.str m.name),.bool m.ask,.string (R.str m.val)] 276)):=heap_alloc_new _ _
 have b0:=zqY ab.o
 have b2:=zr0 ab.o
 have aa:Y (w.grownBy (w.alloc (.cells #[.string (R.str m.name),.bool m.ask,.string (R.str m.val)] 276)) none):=zJ _ _ _
 have HL:Y (∀W (ps:List (List UInt8)),w.grownBy W none->ps.length<=10->ps.flatten.length<=10000->Calls Tryz.prog 104 #[.pointer (some ⟨wb,0,none⟩),.slice (some ⟨W.heap.size,0,none⟩) ps.length ps.length] (W.alloc (.cells (zh ps).toArray 9)) fun e w'=>e = .returned (.tuple #[])/\WInv w' wb (l++lnS 2 ps) (2:Nat)/\Kept wb wtags w w'/\Kept wb wtags W w'):=fun W ps hW hp1 hp2=>
  (zfM (op:=2) (h.grown (zA hW (zJ _ _ _))) W.heap.size ps.length ps (heap_alloc_new _ _) (by omega) (by omega) (by omega)).mono fun e w' ⟨g1,g2,g3⟩=>⟨g1,g2,(qq (zA hW (zJ _ _ none))).trans g3,(qq (zJ _ _ none)).trans g3⟩
 have HT:Y (R.lnMt (mtOf m)=lnS 2 (if m.ask then [[104,101,97,100,101,114,32],R.q m.name,[32,61,32],R.q m.val,[59]] else [[104,101,97,100,101,114,32],R.q m.name,[59]])):=by
  show R.lnMt (mtOf m)=_
  unfold R.lnMt mtOf lnS
  cases m.ask <;> simp
 have ad:Y (∀W,Calls Tryz.prog 105 #[.string (R.str m.name)] W fun e w'=>e = .returned (.string (R.str (R.q m.name)))/\w'=W):=fun W=>xe m.name W h1
 have ae:Y (∀W,Calls Tryz.prog 105 #[.string (R.str m.val)] W fun e w'=>e = .returned (.string (R.str (R.q m.val)))/\w'=W):=fun W=>xe m.val W h2
 rw[HT.o]
 clear h HT
 cases hask:m.ask with
 | false=>
  rw[hask] at b0 b2 aa
  have af:Y (Calls Tryz.prog 104 #[.pointer (some ⟨wb,0,none⟩),.slice (some ⟨w.heap.size+1,0,none⟩) 3 3] ((w.alloc (.cells #[.string (R.str m.name),.bool false,.string (R.str m.val)] 276)).alloc (.cells #[.string ⟨#[104,101,97,100,101,114,32]⟩,.string (R.str (R.q m.name)),.string ⟨#[59]⟩] 9)) fun e w'=>e = .returned (.tuple #[])/\WInv w' wb (l++lnS 2 [[104,101,97,100,101,114,32],R.q m.name,[59]]) (2:Nat)/\Kept wb wtags w w'):=by
   have h:=HL.o _ [[104,101,97,100,101,114,32],R.q m.name,[59]] aa.o (by simp) (by simp[R.q_len];omega)
   rw[show(w.alloc (.cells #[.string (R.str m.name),.bool false,.string (R.str m.val)] 276)).heap.size=w.heap.size+1 by simp] at h
   exact Calls.mono h fun e w' ⟨k1,k2,k3,_⟩=>⟨k1,k2,k3⟩
  simp only[xO,if_false]
  clear HL aa ae
  generalize l++lnS 2 [[104,101,97,100,101,114,32],R.q m.name,[59]]=lo at*
  go_enter Tryz.func160,Tryz.ntmps160
  go_wp2_with (go_at_call 105;refine(ad.o _).mono ?_;rintro e w' ⟨rfl,rfl⟩)
  refine af.o.mono ?_
  rintro e w3 ⟨rfl,g2,g3⟩
  go_wp2
  go_end0
  exact⟨rfl,g2,g3⟩
 | true=>
  rw[hask] at b0 b2 aa
  have ag:Y (Calls Tryz.prog 104 #[.pointer (some ⟨wb,0,none⟩),.slice (some ⟨w.heap.size+1,0,none⟩) 5 5] (((w.alloc (.cells #[.string (R.str m.name),.bool true,.string (R.str m.val)] 276)).drew).alloc (.cells #[.string ⟨#[104,101,97,100,101,114,32]⟩,.string (R.str (R.q m.name)),.string ⟨#[32,61,32]⟩,.string (R.str (R.q m.val)),.string ⟨#[59]⟩] 9)) fun e w'=>e = .returned (.tuple #[])/\WInv w' wb (l++lnS 2 [[104,101,97,100,101,114,32],R.q m.name,[32,61,32],R.q m.val,[59]]) (2:Nat)/\Kept wb wtags w w'/\w'.cell? ⟨w.heap.size,0,none⟩=some (.string (R.str m.name))/\w'.cell? ⟨w.heap.size,2,none⟩=some (.string (R.str m.val))):=by
   have h:=HL.o _ [[104,101,97,100,101,114,32],R.q m.name,[32,61,32],R.q m.val,[59]] (zA aa.o (zQ _)) (by simp) (by simp[R.q_len];omega)
   rw[show((w.alloc (.cells #[.string (R.str m.name),.bool true,.string (R.str m.val)] 276)).drew).heap.size=w.heap.size+1 by simp[World.drew]] at h
   rw[hask] at ab
   exact Calls.mono h fun e w' ⟨k1,k2,k3,k4⟩=>⟨k1,k2,k3,z8 (k4.cell (c:=#[.string (R.str m.name),.bool true,.string (R.str m.val)]) ab.o (by decide)),z8 (k4.cell (c:=#[.string (R.str m.name),.bool true,.string (R.str m.val)]) ab.o (by decide))⟩
  simp only[if_true]
  clear HL aa
  generalize l++lnS 2 [[104,101,97,100,101,114,32],R.q m.name,[32,61,32],R.q m.val,[59]]=lo at*
  go_enter Tryz.func160,Tryz.ntmps160
  go_wp2_with fail
  go_region_held3 (fun W=>W.cell? ⟨w.heap.size,0,none⟩=some (.string (R.str m.name))/\W.cell? ⟨w.heap.size,2,none⟩=some (.string (R.str m.val))) (go_keep) (first
   | (go_at_call 105;refine(ad.o _).mono ?_;rintro e w' ⟨rfl,rfl⟩)
   | (go_at_call 105;refine(ae.o _).mono ?_;rintro e w' ⟨rfl,rfl⟩)
   | (go_at_call 104;refine ag.o.mono ?_;rintro e w3 ⟨rfl,g2,g3,g4,g5⟩))
  all_goals
   go_wp2
   refine bodyPost_ret (results_none rfl _ _ _) rfl ?_
   exact⟨rfl,g2,g3⟩
theorem zh9 (n:Nat):Lib.decDigits n=R.dec n:=by
 induction n using Nat.strongRecOn with
 | _ n ih=>
  rw[Lib.decDigits,R.dec]
  by_cases h:n<10
  ·rw[dif_pos h,if_pos h]
  ·rw[dif_neg h,if_neg h,ih (n / 10) (by omega)]
theorem zmL (n:Int)(h:0<=n):Lib.itoa n=R.decI n:=by
 unfold Lib.itoa R.decI
 rw[if_neg (by omega),zh9]
theorem zeT (l:List (List UInt8×Int)):Lib.join (l.map R.lnTg) [44,32]=R.lnTgs l:=by
 cases l with
 | nil=>rfl
 | cons a l=>
  rw[xi,Lib.join_cons]
  unfold R.lnTgs Lib.joinTail
  rw[List.map_map];rfl
def jx (r:P.Rl):List UInt8:=if r.rep=[] then [] else lnS 2 [[114,101,112,108,97,99,101,32],R.q r.rep,[59]]
def yg (r:P.Rl):List UInt8:=lnS 1 [[114,117,108,101,32],R.decI r.number,[32,123]]
def jT (r:P.Rl):List UInt8:=lnS 2 [[112,97,116,104,32],R.q r.path,[59]]
def jh (r:P.Rl):List UInt8:=lnS 2 [[116,111,32],R.lnTgs r.tg,[59]]
theorem zo0 (t:List UInt8×List UInt8):lnS 2 [[115,101,116,32],R.q t.1,[32,61,32],R.q t.2,[59]]=R.lnSet t:=by
 unfold lnS R.lnSet;simp
theorem ziX (t:List UInt8):lnS 2 [[100,114,111,112,32],R.q t,[59]]=R.lnDrop t:=by
 unfold lnS R.lnDrop;simp
theorem zqK (r:P.Rl):jx r=R.lnTo (toRl r):=by
 unfold jx R.lnTo toRl rlOf lnS
 by_cases h:r.rep=[] <;> simp[h]
theorem zoY (r:P.Rl):yg r++jT r=R.lnHead (toRl r):=by
 unfold yg jT R.lnHead toRl rlOf lnS;simp
theorem zmP (r:P.Rl):yg r++jT r++(r.ms.map fun m=>R.lnMt (mtOf m)).flatten++jh r++jx r++(r.sets.map R.lnSet).flatten++(r.drops.map R.lnDrop).flatten++lnS 1 [[125]]=R.lines (toRl r):=by
 have e:(toRl r).ms.map R.lnMt=r.ms.map fun m=>R.lnMt (mtOf m):=by
  show(r.ms.map mtOf).map R.lnMt=_
  rw[List.map_map];rfl
 rw[zqK,zoY]
 unfold R.lines jh lnS
 rw[e]
 show _=R.lnHead (toRl r)++_++_++R.lnTgs r.tg++_++_++(r.sets.map R.lnSet).flatten++(r.drops.map R.lnDrop).flatten++_
 simp
theorem zoZ (h:P.Hst):lnS 0 [[104,111,115,116,32],R.q h.name,[32,123]]++(h.rules.map fun r=>R.lines (toRl r)).flatten++lnS 0 [[125]]=R.hostLines (toR h):=by
 have e:(toR h).rules.map R.lines=h.rules.map fun r=>R.lines (toRl r):=by
  show(h.rules.map toRl).map R.lines=_
  rw[List.map_map];rfl
 unfold R.hostLines lnS
 rw[e]
 show _=_++R.q h.name++_++_++_
 simp
theorem wA (hs:List P.Hst):R.plain (hs.map toR)=(hs.map fun h=>R.hostLines (toR h)).flatten:=by
 unfold R.plain;rw[List.map_map];rfl
end Go.Proofs.YtfocdefchbnkpaaGreatDoor
