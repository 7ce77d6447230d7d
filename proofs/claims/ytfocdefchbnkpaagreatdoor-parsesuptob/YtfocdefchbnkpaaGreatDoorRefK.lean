import Derived.Test.YtfocdefchbnkpaaGreatDoorRefG
import Derived.Lib.SlBytesRow
set_option maxRecDepth 100000
set_option maxHeartbeats 20000000
open Go renaming World->Ag,TypeId->Cs,Value->Aj,Calls->Am,maxLen->Bh,bodyPost_ret->Et,results->Hm,heap_alloc_new->Bn
open Go.ByteArray renaming toList_eq->El
open Go.Ending renaming returned->Af
open Go.IntKind renaming i64->Ai
open Go.Lib renaming splitK->Io,count->Sa,trimPrefix->Mz,hasPrefix->Mx,trimB->Iq,bytesWorld->Na,splitB->Qy,countB->Oe
open Go.Obj renaming cells->Ae
open Go.Proofs.YtfocdefchbnkpaaGreatDoor.R renaming Rl->Gn,str->Aa,Tok->Bx,St->Bw,cur->Bj,ruleS->Nw,lower->Cj,named->Hq,needS->Cg,notS_K->Om,needS_K->Qf,targetsS->Hg,allB->Ec,partI->Ih,word->Gx,labelsGo->Ht,largeI->Ql,labels->Iv,lowC->Mi,size_eq->Cp,str_size->Bz,span->By,upI->Ob,upstream->Hf,value->Gz,str_toList->Be,header->Ft,contentLength->Oo,transferEncoding->Nm
open Go.Value renaming int->O,string->I,slice->X,bool->Av,pointer->Al,agg->Fe
open Go.World renaming grownBy_alloc->Ac,setCell->Bs,block_lt_of_cell?->Mk,alloc->Eo
open Go.World.ownsRow renaming form->Bm,cellAt->Ap,alloc->Ao
open List renaming length->Z
open Option renaming some->V,none->S
open Prod renaming fst->Bq
open _root_ renaming Option->Br,Nat->Ad,List->A,UInt8->Ab,Int->Ak,Bool->Ee,ByteArray->As
namespace Go.Proofs.YtfocdefchbnkpaaGreatDoor
open Go.RowKit Tryz
def Safe (w:Ag)(row:Br Ad)(l:A Cs):Prop:=∀k c t f,row=V k->w.heap[k]?=V (Ae c t f)->t ∉ l
theorem za (w:Ag)(l:A Cs):Safe w S l:=by intro k c t f h;cases h
variable {w w':Ag}{b B n rb:Ad}{l:A Cs}
theorem xQ {c:Array Aj}{t:Cs}{f:Ad×Ad}(h:w.heap[b]?=V (Ae c t f))(a:t ∉ l:=by decide):Safe w (V b) l:=by grind[Safe]
variable {e:Cs}{v:Aj}{a:A Aj}
theorem xk {s:Ad}(h:w.ownsRow B e s v n a)(b:e ∉ l:=by decide):Safe w v.ownBlock l:=by grind[qT,Option.some.injEq,Safe]
theorem x7 {s:Ad}{row:Br Ad}(h:w.ownsRow B e s v n a)(c:w.grownBy w' row)(d:Safe w row l)(b:e∈l:=by first|decide|simp):w'.ownsRow B e s v n a:=by grind[zK,qT,Safe]
def leaves:A Cs:=[181,183,185,9]
theorem RuleVal.keep {r:Gn}{row:Br Ad}(h:RuleVal w a r)(g:w.grownBy w' row)(i:Safe w row leaves):RuleVal w' a r:=by
 obtain⟨k,m,l,j,e,b,c,d,f⟩:=h
 grind[x7,Gn,RuleVal,Safe,leaves]
theorem All2.map {α β:Type}{P Q:α->β->Prop}{l:A α}{m:A β}(h:All2 P l m)(c:∀a b,P a b->Q a b):All2 Q l m:=by
 induction h <;> grind[All2]
theorem All2.snoc {α β:Type}{P:α->β->Prop}{l:A α}{m:A β}(h:All2 P l m){a:α}{b:β}(c:P a b):All2 P (l++[a]) (m++[b]):=by
 induction h <;> grind[All2]
def RulesRowB (w:Ag)(B:Ad)(v:Aj)(rs:A Gn):Prop:=
 ∃css:A (A Aj),w.ownsRow B 126 8 v (Z rs) css.flatten/\All2 (RuleVal w) css rs
def rtags:A Cs:=126::leaves
theorem RulesRowB.keep {f:A Gn}{row:Br Ad}(h:RulesRowB w B v f)(d:w.grownBy w' row)(j:Safe w row rtags):RulesRowB w' B v f:=by
 obtain⟨c,g,i⟩:=h;refine⟨c,x7 g d j,i.map fun a b hab=>hab.keep d ?_⟩
 grind[x7,List.mem_cons_of_mem,Gn,RulesRowB,Safe,rtags]
theorem RulesRowB.zero {b:A Gn}(h:RulesRowB w B v b):RulesRow w v b:=by
 obtain⟨a,c,d⟩:=h;exact⟨a,zo c (Ax _),d⟩
structure R.Hst where
 name:A Ab
 rules:A Gn
def HostVal (w:Ag)(cells:A Aj)(h:R.Hst):Prop:=∃vR,cells=[I (Aa h.name),vR]/\RulesRow w vR h.rules
def HostsRow (w:Ag)(B:Ad)(v:Aj)(hs:A R.Hst):Prop:=
 ∃css:A (A Aj),w.ownsRow B 119 2 v (Z hs) css.flatten/\All2 (HostVal w) css hs
def htags:A Cs:=119::rtags
theorem RulesRow.keep {a:A Gn}{row:Br Ad}(h:RulesRow w v a)(b:w.grownBy w' row)(c:Safe w row rtags):RulesRow w' v a:=
 (RulesRowB.keep (B:=0) h b c)
theorem HostVal.keep {h:R.Hst}{row:Br Ad}(f:HostVal w a h)(c:w.grownBy w' row)(d:Safe w row rtags):HostVal w' a h:=by
 obtain⟨g,e,b⟩:=f;exact⟨g,e,b.keep c d⟩
theorem HostsRow.keep {g:A R.Hst}{row:Br Ad}(h:HostsRow w B v g)(f:w.grownBy w' row)(d:Safe w row htags):HostsRow w' B v g:=by
 obtain⟨c,i,j⟩:=h;refine⟨c,x7 i f d,j.map fun a b hab=>hab.keep f ?_⟩
 grind[x7,List.mem_cons_of_mem,R.Hst,HostsRow,Safe,htags]
theorem wV {a:A (A Aj)}{b:A R.Hst}(h:All2 (HostVal w) a b)(k:Ad)(d:k<Z b):a.flatten[k*2]?=V (I (Aa b[k].name)):=by
 induction h generalizing k with
 |nil=>simp at d
 | @cons c r cs rs hc _ ih=>
  obtain⟨f,rfl,_⟩:=hc
  match k with
  |0=>rfl
  |k+1=>
   rw[Ci,Cl (by simp;omega)];have:=ih k (by simpa using d);simp only[Bb,Bu];rw[show(k+1)*2-(0+1+1)=k*2 by omega];exact this
def R.rlLoop (ts:A Bx):Ad->Bw->A Gn->A Gn×Bw
 |0,st,acc=>(acc,st)
 |n+1,st,acc=>if R.isB st (Bj ts st) qz then R.rlLoop ts n (Nw ts st (Z acc) (acc.map R.Rl.number)).2 (acc++[(Nw ts st (Z acc) (acc.map R.Rl.number)).1]) else (acc,st)
def R.wHost:A Ab:=[104,111,115,116]
def R.hsA2 (ts:A Bx)(s2:Bw)(names:A (A Ab)):A Ab×Bw:=
 (Cj (Bj ts s2).s,R.among names (Cj (Bj ts s2).s) (Bj ts s2).at_ (R.notS (R.kindS ts s2 34) (Hq (Bj ts s2).s true) 4 (Bj ts s2).at_))
def R.hsA (ts:A Bx)(st:Bw)(names:A (A Ab)):A Ab×Bw:=
 R.hsA2 ts (R.notS (Cg ts st R.wHost) (decide ((Z names:Ak)<4)) 3 (Bj ts st).at_) names
def R.hsB (ts:A Bx)(a:A Ab×Bw):R.Hst×Bw:=
 (⟨a.1,(R.rlLoop ts (Z ts+1) (Cg ts a.2 [123]) []).1⟩,Cg ts (R.rlLoop ts (Z ts+1) (Cg ts a.2 [123]) []).2 [125])
def R.hostS (ts:A Bx)(st:Bw)(names:A (A Ab)):R.Hst×Bw:=R.hsB ts (R.hsA ts st names)
theorem rI (ts:A Bx)(st:Bw):st.K<=(R.pathS ts st).2.K:=by grind[R.pathS,Om,R.kindS_K,Bx,Bw]
theorem zjJ (ts:A Bx)(st:Bw):st.K<=(R.rlB ts st).2.K:=by grind[R.rlB,Nat.le_trans,Qf,rI,Bx,Bw]
theorem zjK (ts:A Bx)(st:Bw):st.K<=(R.rlC ts st).2.K:=by
 unfold R.rlC;split
 ·exact Bi (Bi (Qf _ _ _) (rI _ _)) (Qf _ _ _)
 ·exact Aq _
theorem zaJ (ts:A Bx)(n:Ad):∀(st:Bw) (a:A R.Mt),st.K<=(R.mtLoop ts n st a).2.K:=by
 induction n with
 |zero=>intro st a;exact Aq _
 |succ n ih=>
  intro st a;unfold R.mtLoop;split
  ·rename_i h;have:=fM ts st a h;have:=ih (yK ts st a).1 (yK ts st a).2;omega
  ·exact Aq _
theorem zaM (ts:A Bx)(n:Ad):∀(st:Bw) (i:Ad) (a:A (A Ab×Ak)),st.K<=(R.tgLoop ts n st i a).2.K:=by
 induction n with
 |zero=>intro st i a;exact Aq _
 |succ n ih=>
  intro st i a;unfold R.tgLoop;split
  ·split
   ·have b:=fP ts st i a
    have c:=Qf ts (qJ ts st i a).1 [44];have:=ih (Cg ts (qJ ts st i a).1 [44]) (i+1) (qJ ts st i a).2
    omega
   ·exact fP ts st i a
  ·exact Aq _
theorem a8 (ts:A Bx)(st:Bw):st.K<=(Hg ts st).2.K:=by grind[Hg,Qf,Nat.le_trans,zaM,Om,Bx,Bw]
theorem zaL (ts:A Bx)(n:Ad):∀(st:Bw) (a:A (A Ab×A Ab)),st.K<=(R.stLoop ts n st a).2.K:=by
 induction n with
 |zero=>intro st a;exact Aq _
 |succ n ih=>
  intro st a;unfold R.stLoop;split
  ·rename_i h;have:=fN ts st a h;have:=ih (yL ts st a).1 (yL ts st a).2;omega
  ·exact Aq _
theorem zaH (ts:A Bx)(a:A (A Ab))(n:Ad):∀(st:Bw) (b:A (A Ab)),st.K<=(R.dpLoop ts a n st b).2.K:=by
 induction n with
 |zero=>intro st b;exact Aq _
 |succ n ih=>
  intro st b;unfold R.dpLoop;split
  ·rename_i h;have:=fJ ts st a b h;have:=ih (yJ ts st a b).1 (yJ ts st a b).2;omega
  ·exact Aq _
theorem zaI (ts:A Bx)(st:Bw):st.K<=(R.editsS ts st).2.K:=by grind[R.editsS,Nat.le_trans,zaL,zaH,Bx,Bw]
theorem zaF (l:A Ak)(n p:Ak)(st:Bw):(R.amongN l n p st).K=st.K:=by
 unfold R.amongN
 induction l generalizing st <;> grind[R.amongN,Om,Bw]
theorem R.ruleS_K (ts:A Bx)(st:Bw)(i:Ad)(l:A Ak)(h:R.isB st (Bj ts st) qz=true):st.K+1<=(Nw ts st i l).2.K:=by grind[Cg,qz,R.needS_yes,R.rlA,R.rlA2,zaF,Om,R.kindS_K,R.notS,Bj,zjJ,zaJ,R.rlB,a8,R.matchesS,zjK,Hg,zaI,R.rlC,Qf,R.editsS,Nw,R.ruleT,R.ruleE,Bx,Bw,R.isB]
def bK (s:A Ab):Ee:=Hq s true
def x8 (l : A Ab) (st : P.St) (names : A (A Ab)) : A Ab × P.St :=
  (Cj (qA l st).1,
   zh (zh (qA l st).2 (!bK (qA l st).1) 4 st.tok.at_) (names.any fun n => decide (n=Cj (qA l st).1)) 5 st.tok.at_)
def xi (l:A Ab)(st:P.St)(word:A Ab):A Ab×P.St:=
 ((qA l (zS l st word)).1,zS l (zh (qA l (zS l st word)).2 (!R.path (qA l (zS l st word)).1) 4 (zS l st word).tok.at_) [59])
def qV (l:A Ab)(st:P.St):A Ab×P.St:=
 (Cj (qA l st).1,zh (qA l st).2 (!R.header (qA l st).1 true) 4 st.tok.at_)
def x6 (l:A Ab)(st:P.St):A Ab×P.St:=
 ((qA l (zS l st [61])).1,zh (qA l (zS l st [61])).2 (!R.value (qA l (zS l st [61])).1) 4 (zS l st [61]).tok.at_)
structure P.Mt where
 name:A Ab
 ask:Ee
 val:A Ab
def jC (l:A Ab)(st:P.St)(n:Ad):A Ab×P.St:=qV l (zS l (zy st n 3) qO)
def vz (l:A Ab)(st:P.St):A Ab×P.St:=if qH st [61] then x6 l st else ([],st)
def qo (l:A Ab)(st:P.St)(n:Ad):P.Mt×P.St:=
 (⟨(jC l st n).1,qH (jC l st n).2 [61],(vz l (jC l st n).2).1⟩,zS l (vz l (jC l st n).2).2 [59])
def xT (l:A Ab)(st:P.St)(n:Ad):A Ab×P.St:=
 ((qA l (zy st n 4)).1,zh (qA l (zy st n 4)).2 (!R.upstream (qA l (zy st n 4)).1) 4 (zy st n 4).tok.at_)
def zb (l : A Ab) (st : P.St) (n : Ad) : (A Ab × Ak) × P.St :=
  (((xT l st n).1, (qp l (xT l st n).2).1),
   zh (qp l (xT l st n).2).2 (decide (1000<(qp l (xT l st n).2).1)) 4 (xT l st n).2.tok.at_)
def xG (l:A Ab):Ad->P.St->A (A Ab×Ak)->A (A Ab×Ak)×P.St
 |0,st,acc=>(acc,st)
 |n+1,st,acc=>if qH st [44] then xG l n (zb l (zS l st [44]) (Z acc)).2 (acc++[(zb l (zS l st [44]) (Z acc)).1]) else (acc,st)
def kh:A Ab:=[116,111]
def yA (l:A Ab)(st:P.St):A (A Ab×Ak)×P.St:=
 xG l (Z l+1) (zb l (zS l st kh) 0).2 [(zb l (zS l st kh) 0).1]
def qS (l : A Ab) (st : P.St) : A (A Ab × Ak) × P.St :=
  ((yA l st).1.filter fun t => !(t.2 == 0),
   zh (zS l (yA l st).2 [59]) (((yA l st).1.filter fun t => !(t.2 == 0)).isEmpty) 4 st.tok.at_)
structure P.Rl where
 number:Ak
 path:A Ab
 ms:A P.Mt
 tg:A (A Ab×Ak)
 rep:A Ab
 sets:A (A Ab×A Ab)
 drops:A (A Ab)
structure P.Hst where
 name:A Ab
 rules:A P.Rl
def qi (l:A Ab)(st:P.St)(am:A (A Ab)):A Ab×P.St:=
 ((qV l st).1,zh (qV l st).2 (am.any fun n=>decide (n=(qV l st).1)) 5 st.tok.at_)
def jl (l:A Ab)(st:P.St)(n:Ad)(am:A (A Ab)):A Ab×P.St:=qi l (zS l (zy st n 3) xX) am
def xj (l:A Ab)(st:P.St)(n:Ad)(am:A (A Ab)):(A Ab×A Ab)×P.St:=
 (((jl l st n am).1,(x6 l (jl l st n am).2).1),zS l (x6 l (jl l st n am).2).2 [59])
def je (l:A Ab)(st:P.St)(n:Ad)(am:A (A Ab)):A Ab×P.St:=qi l (zS l (zy st n 3) qy) am
def xO (l:A Ab)(st:P.St)(n:Ad)(am:A (A Ab)):A Ab×P.St:=((je l st n am).1,zS l (je l st n am).2 [59])
def qw (l:A Ab):Ad->P.St->A P.Mt->A P.Mt×P.St
 |0,st,acc=>(acc,st)
 |n+1,st,acc=>if qH st qO then qw l n (qo l st (Z acc)).2 (acc++[(qo l st (Z acc)).1]) else (acc,st)
def qk (l:A Ab):Ad->P.St->A (A Ab×A Ab)->A (A Ab×A Ab)×P.St
 |0,st,acc=>(acc,st)
 |n+1,st,acc=>if qH st xX then qk l n (xj l st (Z acc) (acc.map Bq)).2 (acc++[(xj l st (Z acc) (acc.map Bq)).1]) else (acc,st)
def qf (l:A Ab)(sets:A (A Ab)):Ad->P.St->A (A Ab)->A (A Ab)×P.St
 |0,st,acc=>(acc,st)
 |n+1,st,acc=>if qH st qy then qf l sets n (xO l st (Z acc) (sets++acc)).2 (acc++[(xO l st (Z acc) (sets++acc)).1]) else (acc,st)
def xp (l:A Ab)(st:P.St)(others:A Ak):Ak×P.St:=
 ((qp l st).1,zh (zh (qp l st).2 (decide (65535<(qp l st).1)) 4 st.tok.at_) (others.any fun n=>decide (n=(qp l st).1)) 5 st.tok.at_)
def jS (l:A Ab)(st:P.St)(others:A Ak):Ak×P.St:=xp l (zS l (zy st (Z others) 6) qz) others
def vH (l:A Ab)(st:P.St):A Ab×P.St:=xi l (zS l st [123]) jB
def yu (l:A Ab)(st:P.St):A Ab×P.St:=if qH st qK then xi l st qK else ([],st)
def wi (l:A Ab)(n:Ak)(p:A Ab)(m:A P.Mt)(t:A (A Ab×Ak))(c:A Ab×P.St)(s:A (A Ab×A Ab)×P.St):P.Rl×P.St:=
 (⟨n,p,m,t,c.1,s.1,(qf l (s.1.map Bq) (Z l+1) s.2 []).1⟩,zS l (qf l (s.1.map Bq) (Z l+1) s.2 []).2 [125])
def jy (l:A Ab)(n:Ak)(p:A Ab)(m:A P.Mt)(t:A (A Ab×Ak)×P.St):P.Rl×P.St:=
 wi l n p m t.1 (yu l t.2) (qk l (Z l+1) (yu l t.2).2 [])
def uh (l:A Ab)(n:Ak)(p:A Ab)(m:A P.Mt×P.St):P.Rl×P.St:=jy l n p m.1 (qS l m.2)
def ui (l:A Ab)(a:Ak×P.St):P.Rl×P.St:=uh l a.1 (vH l a.2).1 (qw l (Z l+1) (vH l a.2).2 [])
def xI (l:A Ab)(st:P.St)(others:A Ak):P.Rl×P.St:=ui l (jS l st others)
def xB (l:A Ab):Ad->P.St->A P.Rl->A P.Rl×P.St
 |0,st,acc=>(acc,st)
 |n+1,st,acc=>if qH st qz then xB l n (xI l st (acc.map P.Rl.number)).2 (acc++[(xI l st (acc.map P.Rl.number)).1]) else (acc,st)
def kg (l:A Ab)(st:P.St)(names:A (A Ab)):A Ab×P.St:=x8 l (zS l (zy st (Z names) 4) R.wHost) names
def eu (l:A Ab)(a:A Ab×P.St):P.Hst×P.St:=
 (⟨a.1,(xB l (Z l+1) (zS l a.2 [123]) []).1⟩,zS l (xB l (Z l+1) (zS l a.2 [123]) []).2 [125])
def xP (l:A Ab)(st:P.St)(names:A (A Ab)):P.Hst×P.St:=eu l (kg l st names)
def qg (l:A Ab):Ad->P.St->A P.Hst->A P.Hst×P.St
 |0,st,acc=>(acc,st)
 |n+1,st,acc=>if qH st R.wHost then qg l n (xP l st (acc.map P.Hst.name)).2 (acc++[(xP l st (acc.map P.Hst.name)).1]) else (acc,st)
def kW (l:A Ab):P.St:=⟨zg l 0,false,0,0⟩
def zp (l:A Ab):A P.Hst×P.St:=((qg l (Z l+1) (kW l) []).1,jk l (qg l (Z l+1) (kW l) []).2)
theorem rF (l:A Ab)(p:Ad):p<=(zg l p).at_:=by unfold zg qE;simp
theorem dH (l:A Ab)(st:P.St)(b:Ee):st.tok.at_<=(qR l st b).tok.at_:=by
 unfold qR;split
 ·have:=rF l (st.tok.at_+Z st.tok.raw)
  show st.tok.at_<=(zg l (st.tok.at_+Z st.tok.raw)).at_
  omega
 ·exact Aq _
theorem yw (l:A Ab)(st:P.St)(r:A Ab):st.tok.at_<=(zS l st r).tok.at_:=dH _ _ _
theorem kF (l:A Ab)(st:P.St)(r:A Ab)(h:qH st r=true)(a:1<=Z r:=by decide):st.tok.at_+1<=(zS l st r).tok.at_:=by
 unfold qH at h;simp only[Ez,Xg,Gd] at h;unfold zS qR;rw[Az ⟨Cf h.2,h.1⟩];have:=rF l (st.tok.at_+Z st.tok.raw);show st.tok.at_+1<=(zg l (st.tok.at_+Z st.tok.raw)).at_;rw[h.2] at this ⊢
 omega
theorem j5 (st:P.St)(b:Ee)(e a:Ak):(zh st b e a).tok=st.tok:=by grind[zh,xH,P.St]
theorem kG (st:P.St)(a b:Ak):(zy st a b).tok=st.tok:=j5 _ _ _ _
theorem fF (l:A Ab)(st:P.St):st.tok.at_<=(qA l st).2.tok.at_:=dH _ _ _
theorem mJ (l:A Ab)(st:P.St):st.tok.at_<=(qp l st).2.tok.at_:=dH _ _ _
theorem gC (l:A Ab)(st:P.St):st.tok.at_<=(qV l st).2.tok.at_:=by grind[qV,j5,fF,P.St]
theorem mL (l:A Ab)(st:P.St):st.tok.at_<=(x6 l st).2.tok.at_:=by grind[x6,j5,Nat.le_trans,yw,fF,P.St]
theorem dI (l:A Ab)(st:P.St)(w:A Ab):(zS l st w).tok.at_<=(xi l st w).2.tok.at_:=by grind[xi,Nat.le_trans,yw,j5,fF,P.St,zS]
theorem dz (l:A Ab)(st:P.St)(a:A (A Ab)):st.tok.at_<=(qi l st a).2.tok.at_:=by grind[qi,j5,gC,P.St]
theorem fG (l:A Ab)(st:P.St)(n:Ad):st.tok.at_<=(zb l st n).2.tok.at_:=by grind[zb,j5,Nat.le_trans,mJ,xT,fF,zy,kG,P.St]
variable {st:P.St}
theorem kH {r:A Ab}{a b:Ak}(h:qH st r=true):qH (zy st a b) r=true:=by grind[zy,zh,xH,qH,P.St]
theorem mI (l:A Ab)(st:P.St)(n:Ad)(h:qH st qO=true):st.tok.at_+1<=(qo l st n).2.tok.at_:=by
 unfold qo;simp only;refine Bi ?_ (yw _ _ _);have a:=kF l (zy st n 3) qO (kH h);rw[kG] at a;have b:(zS l (zy st n 3) qO).tok.at_<=(jC l st n).2.tok.at_:=gC _ _;have c:(jC l st n).2.tok.at_<=(vz l (jC l st n).2).2.tok.at_:=by
  unfold vz;split
  ·exact mL _ _
  ·exact Aq _
 omega
theorem mK (l:A Ab)(st:P.St)(n:Ad)(a:A (A Ab))(h:qH st xX=true):st.tok.at_+1<=(xj l st n a).2.tok.at_:=by grind[xj,Nat.le_trans,yw,kF,zy,xX,kH,kG,zS,jl,dz,mL,P.St,qH]
theorem dG (l:A Ab)(st:P.St)(n:Ad)(a:A (A Ab))(h:qH st qy=true):st.tok.at_+1<=(xO l st n a).2.tok.at_:=by grind[xO,Nat.le_trans,yw,kF,zy,qy,kH,kG,zS,je,dz,P.St,qH]
theorem em (l : A Ab) (n : Ad) : ∀ (st : P.St) (acc : A P.Mt), st.tok.at_ ≤ (qw l n st acc).2.tok.at_ := by
  induction n with
  | zero => intro st acc; exact Aq _
  | succ n ih => intro st acc; rw [qw]; split
                 · rename_i h; have := mI l st (Z acc) h; have := ih (qo l st (Z acc)).2 (acc ++ [(qo l st (Z acc)).1]); omega
                 · exact Aq _
theorem ep (l : A Ab) (n : Ad) : ∀ (st : P.St) (acc : A (A Ab × A Ab)), st.tok.at_ ≤ (qk l n st acc).2.tok.at_ := by
  induction n with
  | zero => intro st acc; exact Aq _
  | succ n ih => intro st acc; rw [qk]; split
                 · rename_i h; have := mK l st (Z acc) (acc.map Bq) h; have := ih (xj l st (Z acc) (acc.map Bq)).2 (acc ++ [(xj l st (Z acc) (acc.map Bq)).1]); omega
                 · exact Aq _
theorem ei (l : A Ab) (sets : A (A Ab)) (n : Ad) : ∀ (st : P.St) (acc : A (A Ab)), st.tok.at_ ≤ (qf l sets n st acc).2.tok.at_ := by
  induction n with
  | zero => intro st acc; exact Aq _
  | succ n ih => intro st acc; rw [qf]; split
                 · rename_i h; have := dG l st (Z acc) (sets ++ acc) h; have := ih (xO l st (Z acc) (sets ++ acc)).2 (acc ++ [(xO l st (Z acc) (sets ++ acc)).1]); omega
                 · exact Aq _
theorem et (l : A Ab) (n : Ad) : ∀ (st : P.St) (acc : A (A Ab × Ak)), st.tok.at_ ≤ (xG l n st acc).2.tok.at_ := by
  induction n with
  | zero => intro st acc; exact Aq _
  | succ n ih => intro st acc; rw [xG]; split
                 · have := yw l st [44]; have := fG l (zS l st [44]) (Z acc); have := ih (zb l (zS l st [44]) (Z acc)).2 (acc ++ [(zb l (zS l st [44]) (Z acc)).1]); omega
                 · exact Aq _
theorem sr (l:A Ab)(st:P.St):st.tok.at_<=(qS l st).2.tok.at_:=by grind[qS,j5,Nat.le_trans,yw,yA,fG,et,P.St]
theorem zgP (l:A Ab)(st:P.St):st.tok.at_<=(yu l st).2.tok.at_:=by
 unfold yu;split
 ·exact Bi (yw _ _ _) (dI _ _ _)
 ·exact Aq _
theorem rG (l:A Ab)(st:P.St)(o:A Ak)(h:qH st qz=true):st.tok.at_+1<=(xI l st o).2.tok.at_:=by
 have a:=kF l (zy st (Z o) 6) qz (kH h);rw[kG] at a;have b:(zS l (zy st (Z o) 6) qz).tok.at_<=(jS l st o).2.tok.at_:=by
  unfold jS xp;simp only[j5];exact mJ _ _
 have c:(jS l st o).2.tok.at_<=(vH l (jS l st o).2).2.tok.at_:=by
  unfold vH;exact Bi (Bi (yw _ _ _) (yw _ _ _)) (dI _ _ _)
 grind[kF,zy,qz,kH,kG,zS,jS,xp,j5,mJ,vH,Nat.le_trans,yw,dI,em,xI,ui,uh,jy,wi,ei,ep,zgP,sr,P.St,qH]
theorem eo (l : A Ab) (n : Ad) : ∀ (st : P.St) (acc : A P.Rl), st.tok.at_ ≤ (xB l n st acc).2.tok.at_ := by
  induction n with
  | zero => intro st acc; exact Aq _
  | succ n ih => intro st acc; rw [xB]; split
                 · rename_i h; have := rG l st (acc.map P.Rl.number) h; have := ih (xI l st (acc.map P.Rl.number)).2 (acc ++ [(xI l st (acc.map P.Rl.number)).1]); omega
                 · exact Aq _
theorem zdL (l:A Ab)(st:P.St)(o:A (A Ab))(h:qH st R.wHost=true):st.tok.at_+1<=(xP l st o).2.tok.at_:=by grind[kF,zy,R.wHost,kH,kG,zS,kg,x8,j5,fF,xP,eu,Nat.le_trans,yw,eo,P.St,qH]
def uf (n:Ad)(pcs:A (A Ab)):Ee:=
 match pcs with
 |[]=>false
 |p::ps=>Ec (fun c=>Ih c true) p && (decide (0<n+Z p) && ps.all fun x=>Gx x true)
theorem bL (a r:A Ab)(n:Ad)(h:∀c∈a,c≠46):Ht true (a++r) n=(Ec (fun c=>Ih c true) a && Ht true r (n+Z a)):=by
 induction a generalizing n with
 |nil=>simp[Ec]
 |cons c a ih=>
  have g:=h c (by simp);have b:¬(c.toNat:Ak)=46:=by
   intro e;apply g;apply Hb.1;show c.toNat=46;omega
  rw[Of,Ht,Aw (fun x=>b x.1),ih (n+1) (fun d hd=>h d (by simp[hd]))];have f:Ec (fun c=>Ih c true) (c::a)=(Ih c.toNat true && Ec (fun c=>Ih c true) a):=by simp[Ec]
  rw[f,Bb,show n+1+Z a=n+(Z a+1) by omega]
  cases Ih (↑c.toNat) true <;> simp
theorem ew (l:A Ab)(x:Ab):(Lib.index l [x] = -1/\∀c∈l,c≠x)\/∃i:Ad,Lib.index l [x]=i/\i<Z l/\l=l.take i++x::l.drop (i+1)/\∀c∈l.take i,c≠x:=by
 induction l with
 |nil=>left;exact⟨rfl,by simp⟩
 |cons c r ih=>
  rw[jq]
  by_cases h:c=x
  ·right;exact⟨0,by rw[Az h];rfl,by simp,by simp[h],by simp⟩
  ·rw[Aw h]
   rcases ih with ⟨h1,h2⟩|⟨i,h1,h2,h3,h4⟩
   ·left;refine⟨by rw[Az h1],?_⟩
    intro d a;rcases En.1 a with rfl|a
    ·exact h
    ·exact h2 d a
   ·right
    refine⟨i+1,by rw[Aw (by omega),h1];rfl,by simp;omega,?_,?_⟩
    ·rw[Fk,In,Of,<-h3]
    ·intro d a
     rw[Fk] at a;rcases En.1 a with rfl|a
     ·exact h
     ·exact h4 d a
theorem mO:∀(m:Ad) (l:A Ab) (n:Ad),Z l<=m->uf n (Io [46] 0 (Sa l [46]) l)=Ht true l n:=by
 intro m
 induction m with
 |zero=>
  intro l n h;have:l=[]:=Ep.1 (by omega);subst this;rw[show Sa [] [46]=0 from rfl];simp[Io,uf,Ht,Ec]
 |succ m ih=>
  intro l n h;rcases ew l 46 with ⟨h1,h2⟩|⟨i,h1,h2,h3,h4⟩
  ·have d:=Lib.count_miss h1
   rw[d];have:=bL l [] n h2;rw[Cv] at this;rw[this];simp[Io,uf,Ht]
  ·have d:=Lib.count_hit (by simp) h1
   rw[d,Nat.add_comm,Io,Aw (by rw[h1];simp)];have f:=ih (l.drop (i+1)) 0 (by rw[Cy];omega);have a:=bL (l.take i) (46::l.drop (i+1)) n h4;rw[<-h3] at a;rw[a,Ht];have g:Z (l.take i)=i:=by rw[Cq];omega
   rw[g,h1];simp only[Xe,Xq,Bb,Bu];rw[uf];rw[g];have b:((Io [46] 0 (Sa (l.drop (i+1)) [46]) (l.drop (i+1))).all fun x=>Gx x true)=uf 0 (Io [46] 0 (Sa (l.drop (i+1)) [46]) (l.drop (i+1))):=by
    generalize j:Io [46] 0 (Sa (l.drop (i+1)) [46]) (l.drop (i+1))=sp
    cases sp with
    |nil=>exfalso;revert j;cases Sa (l.drop (i+1)) [46] with
     |zero=>simp[Io]
     |succ k=>rw[Io];split <;> simp
    |cons p ps=>rw[Xi,uf];unfold Gx;simp[Bool.and_assoc]
   rw[b,f]
   by_cases c:0<n+i
   ·rw[Cf c,Bool.true_and,Az ⟨by decide,c⟩]
   ·rw[Ce c,Aw (fun x=>c x.2)];simp[Ih,R.smallI,R.digitI,Ql]
def sw (l:A Ab):Ee:=(Io [46] 0 (Sa l [46]) l).all fun x=>Gx x true
theorem dK (l:A Ab):sw l=Iv l true:=by
 unfold sw Iv;rw[<-mO (Z l) l 0 (Aq _)];generalize a:Io [46] 0 (Sa l [46]) l=sp
 cases sp with
 |nil=>exfalso;revert a;cases Sa l [46] with
  |zero=>simp[Io]
  |succ k=>rw[Io];split <;> simp
 |cons p ps=>rw[Xi,uf];unfold Gx;simp[Bool.and_assoc]
theorem zdN (l:A Ab):(decide (l=[42]) || sw (Mz l [42,46]))=Hq l true:=by
 rw[dK];unfold Hq Mz Mx
 by_cases b:l=[42]
 ·rw[Az b,Cf b];rfl
 ·rw[Aw b,Ce b,Qq]
  by_cases a:([42,46]:A Ab).isPrefixOf l=true
  ·rw[Az a]
   rw[List.isPrefixOf_iff_prefix] at a;obtain⟨r,rfl⟩:=a
   by_cases d:0<Z r
   ·rw[Az (by constructor;rfl;simp;omega)];rfl
   ·have:r=[]:=Ep.1 (by omega)
    subst this;rw[Aw (by simp)]
    decide
  ·rw[Aw a,Aw]
   intro⟨c,_⟩
   apply a
   rw[List.isPrefixOf_iff_prefix];exact⟨l.drop 2,by rw[<-c,He]⟩
theorem zdO (l:A Ab):decide (Iq l 32=l)=(decide (Z l=0) || (decide (l.head?≠V 32) && decide (l.getLast?≠V 32))):=by
 unfold Iq Lib.trimLeftB Lib.trimRightB;have g:∀(m:A Ab),Z (m.dropWhile (· == 32))<=Z m:=fun m=>List.IsSuffix.length_le (Ss _)
 have d:∀(m:A Ab),m.dropWhile (· == 32)=m↔m.head?≠V 32:=by
  intro m
  cases m with
  |nil=>simp
  |cons c m=>
   rw[List.dropWhile_cons]
   by_cases i:c=32
   ·subst i
    rw[Az (by simp)]
    constructor
    ·intro e;have:=g m;rw[e,Bb] at this;omega
    ·intro e;simp at e
   ·rw[Aw (by simpa using i)];simpa using i
 rw[Eb];simp only[Gd,Sn,Ez]
 constructor
 ·intro h
  by_cases j:Z l=0
  ·exact Or.inl j
  ·right
   have n:Z (l.reverse.dropWhile (· == 32)).reverse<=Z l:=by rw[Nv];have:=g l.reverse;rwa[Nv] at this
   have k:=g (l.reverse.dropWhile (· == 32)).reverse;rw[h] at k;have f:l.reverse.dropWhile (· == 32)=l.reverse:=by
    apply List.IsSuffix.eq_of_length (Ss _)
    rw[Nv] at *;omega
   rw[f,Xr] at h;have a:=(d l).1 h;have b:=(d l.reverse).1 f;rw[List.head?_reverse] at b;exact⟨a,b⟩
 ·intro h
  rcases h with h|⟨a,b⟩
  ·have:l=[]:=Ep.1 h
   subst this;rfl
  ·have f:l.reverse.dropWhile (· == 32)=l.reverse:=(d l.reverse).2 (by rw[List.head?_reverse];exact b)
   rw[f,Xr];exact(d l).2 a
def BytesAt (w:Ag)(b:Ad)(l:A Ab):Prop:=
 ∃(cur:Array Aj) (lo hi:Ad),w.heap[b]?=V (Ae cur 5 (lo,hi))/\(Z l)<=lo/\(Z l)<=cur.size/\∀(j:Ad) (c:Ab),l[j]?=V c->cur[j]?=V (O .u8 c.toNat)
theorem BytesAt.cell {l:A Ab}(h:BytesAt w b l){j:Ad}{c:Ab}(a:l[j]?=V c):w.cell? ⟨b,j,S⟩=V (O .u8 c.toNat):=by grind[zB,BytesAt]
theorem BytesAt.free {l:A Ab}(h:BytesAt w b l){j:Ad}(g:j<Z l):w.frozen? ⟨b,j,S⟩=false:=by
 obtain⟨a,i,f,c,d,_,_⟩:=h;unfold World.frozen?
 grind[BytesAt]
theorem BytesAt.set {l:A Ab}(h:BytesAt w b l)(j:Ad)(n:j<Z l)(c:Ab):BytesAt (w.setCell ⟨b,j,S⟩ (O .u8 c.toNat)) b (l.set j c):=by
 obtain⟨a,k,i,d,f,g,m⟩:=h;refine⟨a.setIfInBounds j (O .u8 c.toNat),k,i,zH d _,by rw[Gv];exact f,by rw[Gv,Ff];exact g,?_⟩
 grind[zH,List.length_set,Array.size_setIfInBounds,BytesAt]
theorem BytesAt.new (w:Ag)(s:As):BytesAt (Na w 5 s) w.heap.size s.data.toList:=by
 refine⟨_,_,_,Lib.bytesWorld_at_new w _ s,?_,?_,?_⟩
 ·unfold Lib.bytesCells;simp
 ·unfold Lib.bytesCells;simp
 ·intro j c a
  unfold Lib.bytesCells;have b:j<s.data.size:=by
   have:=(Bo.1 a).1;simpa using this
  rw[Qr (by simpa using b),Array.getElem?_map];have:s.data[j]?=V c:=by rw[<-Nh];exact a
  rw[this];rfl
theorem zm0 (l:A Ab)(i:Ad)(h:i<(Aa l).size):l[i]?=V (Aa l)[i]:=by
 have a:=h;rw[Bd a];rfl
theorem zjB (c:Ab):((c.toNat:Ak)-65+97) % 256=(c+32).toNat:=by
 rw[UInt8.toNat_add];simp;omega
def uL (k:Ad)(l:A Ab):A Ab:=(l.take k).map Mi++l.drop k
theorem dJ (k:Ad)(l:A Ab):Z (uL k l)=Z l:=by grind[uL]
theorem ey (k:Ad)(l:A Ab)(h:k<Z l):(uL k l)[k]?=V l[k]:=by grind[uL]
theorem zaC (k:Ad)(l:A Ab)(h:k<Z l):uL (k+1) l=(uL k l).set k (Mi l[k]):=by
 unfold uL;rw[Co h,Ef,Ed (i:=k) h];have e:Z ((l.take k).map Mi)=k:=by simp;omega
 rw[Mg _ _ (by rw[e];exact Aq _),e,Gp,Vp,Bl]
 rfl
theorem tF (s:As)(w:Ag)(F:s.size<=1000000000000):Am prog 239 #[I s] w fun e w'=>e=Af (I (Aa (Cj s.data.toList)))/\w.grownBy w' S:=by
 have d:∀w,(convert 9 32 (I s)).run prog w = .ok (X (V ⟨w.heap.size,0,S⟩) s.size (grownCap w s.size 0 5)) (Na w 5 s):=fun w=>Lib.run_convert_string_bytes (u:=.string) w _ _ _ s (by kernel_rfl) (by kernel_rfl) (by kernel_rfl)
 have m:Y _:=BytesAt.new w s;have p:Y _:=ww w 5 s;go_in;go_wp2;generalize Na w 5 s=wB at*;generalize grownCap w s.size 0 5=cap at*
 go_loopw [10] (fun iv wr=>∃k:Ad,k<=s.size/\iv=O Ai k/\Y (BytesAt wr w.heap.size (uL k s.data.toList))/\Y (w.grownBy wr S)) (fun iv _=>s.size-(intOf iv).toNat)
 ·exact⟨0,Ax _,rfl,m,p⟩
 ·
  obtain⟨k,E,rfl,f,o⟩:=hrel
  by_cases t:k<s.size
  ·have g:k<Z s.data.toList:=by rw[Cp];exact t
   have B:=f.o.cell (ey k s.data.toList g);have C:=f.o.free (j:=k) (by rw[dJ];exact g);have x:Y _:=zaC k s.data.toList g;have y:Y _:=f.o.set k (by rw[dJ];exact g) (Mi s.data.toList[k]);have a:Y (Mi s.data.toList[k]=if Ql s.data.toList[k].toNat then s.data.toList[k]+32 else s.data.toList[k]):=rfl;have q:Y (Ql s.data.toList[k].toNat=false->BytesAt wr w.heap.size (uL (k+1) s.data.toList)):=fun h=>by
    have e:Mi s.data.toList[k]=s.data.toList[k]:=by unfold Mi;rw[h];rfl
    rw[x.o,e];have:(uL k s.data.toList).set k s.data.toList[k]=uL k s.data.toList:=by
     apply Qt
     intro i;rw[Xc]
     by_cases l:k=i
     ·subst l;rw[Az rfl,Az (by rw[dJ];exact g),ey k _ g]
     ·rw[Aw l]
    rw[this];exact f.o
   generalize s.data.toList[k]=c at*
   cases hL:Ql c.toNat
   ·have n:Y _:=q.o hL
    go_wp2_with (go_at_call 309;refine(fb _ _).mono ?_;rintro e w' ⟨rfl,rfl⟩);exact⟨⟨k+1,by omega,by go_num,n,o⟩,by simp[intOf];omega⟩
   ·rw[hL] at a
    simp only[Gq] at a;go_wp2_with (go_at_call 309;refine(fb _ _).mono ?_;rintro e w' ⟨rfl,rfl⟩);refine⟨⟨k+1,by omega,by go_num,?_,?_⟩,by simp[intOf];omega⟩
    ·show BytesAt _ _ _
     rw[x.o,show((c.toNat:Ak)-65+97) % 256=(Mi c).toNat by rw[a.o];exact zjB c];exact y.o
    ·exact ze o.o (zF _ _ _ _) (Aq _)
  ·have r:k=s.size:=by omega
   subst r;have b:uL s.size s.data.toList=Cj s.data.toList:=by
    unfold uL Cj;rw[Cc (by rw[Cp];exact Aq _),Ga (by rw[Cp];exact Aq _),Cv]
   rw[b] at f;have z:(convert 32 9 (X (V ⟨w.heap.size,0,S⟩) s.size cap)).run prog wr = .ok (I (Aa (Cj s.data.toList))) wr:=by
    have v:(Aa (Cj s.data.toList)).size=s.size:=by rw[Bz,kx,Cp]
    have:=Lib.run_convert_whole (P:=prog) wr 32 5 9 (by kernel_rfl) (by kernel_rfl) (by kernel_rfl) w.heap.size 0 (Aa (Cj s.data.toList)) (fun i l=>by
     rw[Gr]
     apply f.o.cell
     exact zm0 _ i l) cap
    rw[v] at this;exact this
   go_wp2;go_ret;exact⟨rfl,o.o⟩
def vF (c:Ak):Ee:=Ih c true
theorem sI (c:Ak)(w:Ag):Am prog 393 #[O .u8 c] w fun e w'=>e=Af (Av (vF c))/\w'=w:=gy c w
theorem lb (s:As)(w:Ag)(g:s.size<=Bh):Am prog 202 #[I s,.func (.func 393) #[] #[]] w fun e w'=>e=Af (O Ai (By vF s.data.toList:Ad))/\w'=w:=by
 unfold Bh at g;go_in;go_wp2_with fail
 go_loop [8] (fun v=>∃k:Ad,k<=s.size/\v=O Ai k/\Y (By vF s.data.toList=k+By vF (s.data.toList.drop k))) (fun v=>s.size-(intOf v).toNat)
 ·exact⟨0,Ax _,rfl,by show _=_;simp⟩
 ·
  obtain⟨k,h,rfl,b⟩:=hrel
  by_cases d:k<s.size
  ·cases hp:vF s[k].toNat
   ·have c:Y (By vF s.data.toList=k):=by
     have:=b.o;rw[R.span_stop d hp] at this;exact this
    go_wp2_with fail;refine(sI _ _).mono ?_;rintro e f ⟨rfl,a⟩;rw[a,hp];go_wp2;go_ret;exact⟨by rw[c.o];rfl,rfl⟩
   ·have c:Y (By vF s.data.toList=(k+1)+By vF (s.data.toList.drop (k+1))):=by
     have:=b.o;rw[R.span_step d hp] at this;show _=_;omega
    go_wp2_with fail;refine(sI _ _).mono ?_;rintro e f ⟨rfl,a⟩;rw[a,hp];go_wp2;exact⟨⟨k+1,by omega,by go_num,c⟩,by simp[intOf];omega⟩
  ·have c:Y (By vF s.data.toList=s.size):=by
    have:=b.o;rw[R.span_end (k:=k) (by omega)] at this;show _=_;omega
   go_wp2;go_ret;exact⟨by rw[c.o];rfl,rfl⟩
theorem lR (s:As)(w:Ag)(c:s.size<=Bh):Am prog 352 #[I s,.func (.func 393) #[] #[]] w fun e w'=>e=Af (Av (Ec vF s.data.toList))/\w'=w:=by
 have b:Y (Ec vF s.data.toList=((By vF s.data.toList:Ak) == s.size)):=by
  show Ec vF s.data.toList=_;rw[<-Cp,Eb];simp only[Hw];rw[Qk];exact jj vF s.data.toList
 go_in;go_wp2_with fail;refine(lb s _ c).mono ?_;rintro e d ⟨rfl,a⟩;rw[a];go_wp2;go_ret;exact⟨zX (by rw[b.o]),rfl⟩
theorem zbL (s:As)(w:Ag)(g:s.size<=Bh):Am prog 202 #[I s,.func (.func 412) #[] #[]] w fun e w'=>e=Af (O Ai (By Ob s.data.toList:Ad))/\w'=w:=by
 unfold Bh at g;go_in;go_wp2_with fail
 go_loop [8] (fun v=>∃k:Ad,k<=s.size/\v=O Ai k/\Y (By Ob s.data.toList=k+By Ob (s.data.toList.drop k))) (fun v=>s.size-(intOf v).toNat)
 ·exact⟨0,Ax _,rfl,by show _=_;simp⟩
 ·
  obtain⟨k,h,rfl,b⟩:=hrel
  by_cases d:k<s.size
  ·cases hp:Ob s[k].toNat
   ·have c:Y (By Ob s.data.toList=k):=by
     have:=b.o;rw[R.span_stop d hp] at this;exact this
    go_wp2_with fail;refine(wY _ _).mono ?_;rintro e f ⟨rfl,a⟩;rw[a,hp];go_wp2;go_ret;exact⟨by rw[c.o];rfl,rfl⟩
   ·have c:Y (By Ob s.data.toList=(k+1)+By Ob (s.data.toList.drop (k+1))):=by
     have:=b.o;rw[R.span_step d hp] at this;show _=_;omega
    go_wp2_with fail;refine(wY _ _).mono ?_;rintro e f ⟨rfl,a⟩;rw[a,hp];go_wp2;exact⟨⟨k+1,by omega,by go_num,c⟩,by simp[intOf];omega⟩
  ·have c:Y (By Ob s.data.toList=s.size):=by
    have:=b.o;rw[R.span_end (k:=k) (by omega)] at this;show _=_;omega
   go_wp2;go_ret;exact⟨by rw[c.o];rfl,rfl⟩
theorem zbI (s:As)(w:Ag)(c:s.size<=Bh):Am prog 352 #[I s,.func (.func 412) #[] #[]] w fun e w'=>e=Af (Av (Ec Ob s.data.toList))/\w'=w:=by
 have b:Y (Ec Ob s.data.toList=((By Ob s.data.toList:Ak) == s.size)):=by
  show Ec Ob s.data.toList=_;rw[<-Cp,Eb];simp only[Hw];rw[Qk];exact jj Ob s.data.toList
 go_in;go_wp2_with fail;refine(zbL s _ c).mono ?_;rintro e d ⟨rfl,a⟩;rw[a];go_wp2;go_ret;exact⟨zX (by rw[b.o]),rfl⟩
theorem sb (s:As):(s.toList == [])=decide (s.size=0):=by grind[El,Cp]
theorem uB (s:As)(w:Ag)(g:s.size<=Bh):Am prog 354 #[I s] w fun e w'=>e=Af (Av (Gx s.data.toList true))/\w'=w:=by
 have b:Y (Gx s.data.toList true=(Ec vF s.data.toList && decide (0<Z s.data.toList))):=rfl;have f:=sb s;rw[Cp] at b
 by_cases d:s.size=0
 ·rw[Cf d] at f
  have a:Y (Gx s.data.toList true=false):=by show Gx _ _=_;rw[b.o,Ce (by omega)];simp
  go_in;go_wp2;go_ret;exact⟨zX (by rw[a.o]),rfl⟩
 ·rw[Ce d] at f
  have a:Y (Gx s.data.toList true=Ec vF s.data.toList):=by show Gx _ _=_;rw[b.o,Cf (by omega)];simp
  go_in;go_wp2_with fail;refine(lR s _ g).mono ?_;rintro e h ⟨rfl,c⟩;rw[c];go_wp2;go_ret;exact⟨zX (by rw[a.o]),rfl⟩
theorem nO (s:As)(w:Ag)(g:s.size<=Bh):Am prog 380 #[I s] w fun e w'=>e=Af (Av (Hf s.data.toList))/\w'=w:=by
 have b:Y (Hf s.data.toList=(Ec Ob s.data.toList && decide (0<Z s.data.toList))):=rfl;have f:=sb s;rw[Cp] at b
 by_cases d:s.size=0
 ·rw[Cf d] at f
  have a:Y (Hf s.data.toList=false):=by show Hf _=_;rw[b.o,Ce (by omega)];simp
  go_in;go_wp2;go_ret;exact⟨zX (by rw[a.o]),rfl⟩
 ·rw[Ce d] at f
  have a:Y (Hf s.data.toList=Ec Ob s.data.toList):=by show Hf _=_;rw[b.o,Cf (by omega)];simp
  go_in;go_wp2_with fail;refine(zbI s _ g).mono ?_;rintro e h ⟨rfl,c⟩;rw[c];go_wp2;go_ret;exact⟨zX (by rw[a.o]),rfl⟩
theorem zbK (s:As)(w:Ag)(h:s.size<=Bh):Am prog 330 #[I s] w fun e w'=>e=Af (Av (R.path s.data.toList))/\w'=w:=by
 have g:Y (R.path s.data.toList=(Mx s.data.toList [47] && Ec R.pathI s.data.toList)):=by
  show R.path _=_;unfold R.path Mx
  cases s.data.toList with
  |nil=>rfl
  |cons c l=>
   rw[Bool.and_comm]
   congr 1
   simp only[Bb,List.head?_cons,List.isPrefixOf];rw[Eb];simp;exact eq_comm
 have f:Y (∀w,Am prog 216 #[I s,I ⟨#[47]⟩] w fun e w'=>e=Af (Av (Mx s.data.toList [47]))/\w'=w):=fun w=>Tryz.strings_HasPrefix s ⟨#[47]⟩ w
 generalize Mx s.data.toList [47]=b at*
 cases b
 ·go_in
  go_wp2_with fail;refine(f.o _).mono ?_;rintro e d ⟨rfl,a⟩;rw[a];go_wp2;go_ret;exact⟨zX (by rw[g.o];rfl),rfl⟩
 ·go_in
  go_wp2_with fail;refine(f.o _).mono ?_;rintro e d ⟨rfl,a⟩;rw[a];go_wp2_with fail;refine(aY s _ h).mono ?_;rintro e d ⟨rfl,a⟩;rw[a];go_wp2;go_ret;exact⟨zX (by rw[g.o];rfl),rfl⟩
theorem lY (s:As)(w:Ag)(f:s.size<=Bh):Am prog 379 #[I s] w fun e w'=>e=Af (Av (Gz s.data.toList))/\w.grownBy w' S:=by
 have d:Y (Gz s.data.toList=(Ec R.valueI s.data.toList && decide (Iq s.data.toList 32=s.data.toList))):=by
  show Gz _=_;unfold Gz;rw[zdO]
 have h:Y (∀w,Am prog 356 #[I s,I ⟨#[32]⟩] w fun e w'=>e=Af (I (Aa (Iq s.data.toList 32)))/\(w'=w\/w'=w.drew)):=fun w=>Tryz.strings_Trim_one s 32 (by decide) w (by unfold Bh at f;omega)
 have k:((Aa (Iq s.data.toList 32)).toList == s.toList)=decide (Iq s.data.toList 32=s.data.toList):=by rw[El,El,Be,Eb];simp
 generalize Iq s.data.toList 32=tb at*;have c:Y _:=fun w=>pT s w f
 generalize Ec R.valueI s.data.toList=av at*;generalize decide (tb=s.data.toList)=bq at*
 cases av
 ·go_in
  go_wp2_with fail;refine(c.o _).mono ?_;rintro e b ⟨rfl,a⟩;rw[a];go_wp2;go_ret;exact⟨zX (by rw[d.o];rfl),zP _ _⟩
 ·go_in
  go_wp2_with fail;refine(c.o _).mono ?_;rintro e b ⟨rfl,a⟩;rw[a];go_wp2_with fail;refine(h.o _).mono ?_;rintro e j ⟨rfl,g⟩;have i:w.grownBy j S:=by rcases g with rfl|rfl;exact zP _ _;exact zV _
  go_wp2;go_ret;exact⟨zX (by rw[d.o];rfl),i⟩
theorem ae (s:As)(w:Ag)(i:s.size<=1000000000000):Am prog 378 #[I s] w fun e w'=>e=Af (Av (Ft s.data.toList true))/\w.grownBy w' S:=by
 have b:s.size<=Bh:=by unfold Bh;omega
 have c:Y (Ft s.data.toList true=(Gx s.data.toList true && (!decide (Cj s.data.toList=R.host) && (!decide (Cj s.data.toList=Oo) && !decide (Cj s.data.toList=Nm))))):=by
  show Ft s.data.toList true=_;unfold Ft;rw[Qu,Qu,Qu]
 have d:=toLs (Cj s.data.toList) R.host;have f:=toLs (Cj s.data.toList) Oo;have g:=toLs (Cj s.data.toList) Nm;generalize decide (Cj s.data.toList=R.host)=b1 at*;generalize decide (Cj s.data.toList=Oo)=b2 at*;generalize decide (Cj s.data.toList=Nm)=b3 at*;unfold R.host at d;unfold Oo at f;unfold Nm at g;have a:Y _:=fun w=>tF s w i
 generalize j:Aa (Cj s.data.toList)=o at*
 cases b1 <;> cases b2 <;> cases b3
 all_goals
  go_in;go_wp2_with (first
   |(go_at_call 239;refine(a.o _).mono ?_;rintro e k ⟨rfl,h⟩)
   |(go_at_call 354;refine(uB _ _ b).mono ?_;rintro e w' ⟨rfl,rfl⟩))
  go_ret;exact⟨zX (by rw[c.o];simp),h⟩
theorem gf (w:Ag)(l:A As)(k:Ad)(h:k<Z l):(w.alloc (Ae (l.map I).toArray 9)).cell? ⟨w.heap.size,k,S⟩=V (I l[k]):=by
 rw[World.cell?_alloc_new];simp[h]
theorem nN (s:As)(w:Ag)(m:Ak)(E:w.cell? ⟨0,0,S⟩=V (O Ai m))(Q:s.size<=3000):Am prog 325 #[I s] w fun e w'=>e=Af (Av (Iv s.data.toList true))/\w.grownBy w' S:=by
 have z:Y (Iv s.data.toList true=((Qy ⟨#[46]⟩ 0 (Oe s ⟨#[46]⟩) s).map (·.data.toList)).all fun x=>Gx x true):=by
  show Iv _ _=_;rw[Lib.splitB_data,<-dK];rfl
 have r:Y _:=fun(_:Unit)=>Tryz.strings_Split s ⟨#[46]⟩ m w (by omega) E
 have C:Z (Qy ⟨#[46]⟩ 0 (Oe s ⟨#[46]⟩) s)=Oe s ⟨#[46]⟩+1:=Lib.splitB_all _ (by decide) 0 _ s rfl;have B:Oe s ⟨#[46]⟩<=s.size:=Lib.countB_le _ (by decide) s.size s (Aq _);have g:∀p∈Qy ⟨#[46]⟩ 0 (Oe s ⟨#[46]⟩) s,p.size<=Bh:=by
  have f:∀(k:Ad) (t:As),t.size<=3000->∀p∈Qy ⟨#[46]⟩ 0 k t,p.size<=Bh:=by
   intro k
   induction k with
   |zero=>intro t ht p a;rw[Lib.splitB_zero] at a;simp at a;subst a;unfold Bh;omega
   |succ k ih=>
    intro t ht p a;rw[Qy] at a
    split at a
    ·simp at a;subst a;unfold Bh;omega
    ·rcases En.1 a with rfl|a
     ·rw[<-Cp,wQ,Cq,Cy,Cp];unfold Bh;omega
     ·exact ih _ (by rw[<-Cp,wQ,Cq,Cy,Cp];omega) p a
  exact f _ s Q
 have q:=J g;clear g E;generalize Oe s ⟨#[46]⟩=n at*;generalize Qy ⟨#[46]⟩ 0 n s=sp at*;have y:Y _:=gf w sp;have o:Y _:=Ac w (Ae (sp.map I).toArray 9) S;go_in;go_wp2_with fail;refine(r.o ()).mono ?_;rintro e w1 ⟨rfl,i⟩;rw[<-i] at y o;clear i;go_wp2_with fail
 go_loop [8] (fun iv=>∃k:Ad,k<=n+1/\iv=O Ai k/\Y (((sp.take k).map (·.data.toList)).all (fun x=>Gx x true)=true)) (fun iv=>n+1-(intOf iv).toNat)
 ·exact⟨0,Ax _,rfl,rfl⟩
 ·
  obtain⟨k,hk,rfl,j⟩:=hrel
  by_cases N:k<n+1
  ·have c:k<Z sp:=by omega
   have c1:=y.o k c;have d:Y _:=q.o sp[k] (Cr c);have H:Y (((sp.take (k+1)).map (·.data.toList)).all (fun x=>Gx x true)=(((sp.take k).map (·.data.toList)).all (fun x=>Gx x true) && Gx sp[k].data.toList true)):=by
    show _=_;rw[Co c,Ef,List.all_append];simp
   have F:Y (Gx sp[k].data.toList true=false->(sp.map (·.data.toList)).all (fun x=>Gx x true)=false):=fun h=>by
    rw[List.all_eq_false];exact⟨sp[k].data.toList,Hr.2 ⟨sp[k],Cr c,rfl⟩,by rw[h];simp⟩
   generalize sp[k]=p at*
   cases hw:Gx p.data.toList true
   ·have l:Y _:=F.o hw
    go_wp2_with fail;refine(uB _ _ d.o).mono ?_;rintro e v ⟨rfl,b⟩;rw[b,hw];clear b v;go_wp2;go_ret;exact⟨zX (by rw[z.o,l.o]),o.o⟩
   ·go_wp2_with fail
    refine(uB _ _ d.o).mono ?_;rintro e v ⟨rfl,b⟩;rw[b,hw];clear b v;go_wp2;exact⟨⟨k+1,by omega,by go_num,by show _=_;rw[H.o,j.o,hw];rfl⟩,by simp[intOf];omega⟩
  ·have u:k=n+1:=by omega
   subst u;rw[Cc (by omega)] at j;go_wp2;go_ret;exact⟨zX (by rw[z.o,j.o]),o.o⟩
abbrev Fk3 (a):=Aa (Mz a [42,46])
theorem zbJ (s:As)(w:Ag)(m:Ak)(g:w.cell? ⟨0,0,S⟩=V (O Ai m))(l:s.size<=3000):Am prog 268 #[I s] w fun e w'=>e=Af (Av (Hq s.data.toList true))/\w.grownBy w' S:=by
 have f:Y (Hq s.data.toList true=(decide (s.data.toList=[42]) || Iv (Mz s.data.toList [42,46]) true)):=by
  show Hq _ _=_;rw[<-zdN,dK]
 have o:(s.toList == [42])=decide (s.data.toList=[42]):=by rw[El,Eb];simp
 have j:Y (∀w,Am prog 244 #[I s,I ⟨#[42,46]⟩] w fun e w'=>e=Af (I (Fk3 s.data.toList))/\w'=w):=fun w=>Tryz.strings_TrimPrefix s ⟨#[42,46]⟩ w
 have a:(Fk3 s.data.toList).size<=3000:=by
  rw[Bz];unfold Mz;split
  ·rw[Cy,Cp];omega
  ·rw[Cp];exact l
 have d:Y (∀w,w.cell? ⟨0,0,S⟩=V (O Ai m)->Am prog 325 #[I (Fk3 s.data.toList)] w fun e w'=>e=Af (Av (Iv (Mz s.data.toList [42,46]) true))/\w.grownBy w' S):=fun w h=>by
  have:=nN (Fk3 s.data.toList) w m h a;rw[Be] at this;exact this
 have i:=J g;generalize decide (s.data.toList=[42])=b at*;generalize Mz s.data.toList [42,46]=tp at*
 cases b
 ·go_in
  go_wp2_with fail;refine(j.o _).mono ?_;rintro e n ⟨rfl,c⟩;rw[c];go_wp2_with fail;refine(d.o _ i.o).mono ?_;rintro e p ⟨rfl,k⟩;go_wp2;go_ret;exact⟨zX (by rw[f.o];rfl),k⟩
 ·go_in
  go_wp2;go_ret;exact⟨zX (by rw[f.o];rfl),zP _ _⟩
theorem su (l:A Ab)(h:(qD l).2=3):(qD l).1<=26:=by
 unfold qD at h ⊢
 grind[qD,xm,yD,jm]
theorem zaD {l:A Ab}(a:∃p,st.tok=zg l p):Z (qA l st).1<=24:=by grind[qA,qR,zg,su,List.length_take,List.length_drop,P.St]
variable {s:As}
theorem PInv.slen (h:PInv w rb s st):(Aa (qA s.data.toList st).1).size<=24:=by grind[Bz,zaD,P.St,PInv,Aa,qA]
def Glob (w:Ag):Prop:=∃m,w.cell? ⟨0,0,S⟩=V (O Ai m)
theorem Glob.keep {row:Br Ad}(h:Glob w)(a:w.grownBy w' row)(b:row≠V 0):Glob w':=by
 obtain⟨m,h⟩:=h;exact⟨m,a.cell h (by simpa using fun e=>b e.symm)⟩
theorem nQ (h:PInv w rb s st):Am prog 331 #[Al (V ⟨rb,0,S⟩)] w fun e w'=>e=Af (.tuple #[I (Aa (qV s.data.toList st).1),O Ai st.tok.at_])/\PInv w' rb s (qV s.data.toList st).2/\w.grownBy w' (V rb):=by
 have j:Y (qV s.data.toList st=(Cj (qA s.data.toList st).1,zh (qA s.data.toList st).2 (!R.header (qA s.data.toList st).1 true) 4 st.tok.at_)):=rfl;have z:=J h;have i:Y ((Aa (qA s.data.toList st).1).size<=1000000000000):=by have:=h.slen;show _<=_;omega
 go_in;have n:Y (w.grownBy w (V rb)):=zP _ _;go_wp2_with fail;refine(js z.o).mono ?_;rintro e N ⟨rfl,k,c⟩;have m:=J k;have u:=J (c);have o:=J (zD n.o u.o);generalize qA s.data.toList st=q at*;obtain⟨H,F⟩:=q;simp only at m j i ⊢;go_wp2_with fail;refine(ae _ _ i.o).mono ?_;rintro e Q ⟨rfl,a⟩;have d:=zT a (V rb);have B:Y _:=(m.o).keep a;have v:=J (d);have p:=J (zD o.o v.o);rw[Be];go_wp2_with fail;refine(yO B.o _ _ _).mono ?_;rintro e w3 ⟨rfl,l,f⟩;have C:=J l;have x:=J (f);have r:=J (zD p.o x.o);go_wp2_with fail;refine(tF _ _ i.o).mono ?_;rintro e w4 ⟨rfl,b⟩;have g:=zT b (V rb);have E:Y _:=(C.o).keep b;have y:=J (g);have t:=J (zD r.o y.o);rw[Be];go_wp2
 go_ret2
 exact⟨by rw[j.o];rfl,by rw[j.o];exact E.o,t.o⟩
theorem sK (h:PInv w rb s st):Am prog 332 #[Al (V ⟨rb,0,S⟩)] w fun e w'=>e=Af (I (Aa (x6 s.data.toList st).1))/\PInv w' rb s (x6 s.data.toList st).2/\w.grownBy w' (V rb):=by
 have g:Y (x6 s.data.toList st=((qA s.data.toList (zS s.data.toList st [61])).1,zh (qA s.data.toList (zS s.data.toList st [61])).2 (!R.value (qA s.data.toList (zS s.data.toList st [61])).1) 4 (zS s.data.toList st [61]).tok.at_)):=rfl;have B:=J h;go_in;have o:Y (w.grownBy w (V rb)):=zP _ _;go_wp2_with fail;refine(y8 B.o _).mono ?_;rintro e N ⟨rfl,k,b⟩;have i:=J k;have v:=J (b);have p:=J (zD o.o v.o);rw[show(⟨#[61]⟩:As).data.toList=[61] from rfl] at i;generalize zS s.data.toList st [61]=st0 at*;have j:Y ((Aa (qA s.data.toList st0).1).size<=Bh):=by have:=i.o.slen;show _<=_;unfold Bh;omega
 go_wp2_with fail;refine(js i.o).mono ?_;rintro e Q ⟨rfl,l,c⟩;have n:=J l;have x:=J (c);have r:=J (zD p.o x.o);generalize qA s.data.toList st0=q at*;obtain⟨H,F⟩:=q;simp only at n g j ⊢;go_wp2_with fail;refine(lY _ _ j.o).mono ?_;rintro e w3 ⟨rfl,a⟩;have d:=zT a (V rb);have C:Y _:=(n.o).keep a;have y:=J (d);have t:=J (zD r.o y.o);rw[Be];go_wp2_with fail;refine(yO C.o _ _ _).mono ?_;rintro e w4 ⟨rfl,m,f⟩;have E:=J m;have z:=J (f);have u:=J (zD t.o z.o);go_wp2;go_ret;exact⟨by rw[g.o];rfl,by rw[g.o];exact E.o,u.o⟩
theorem ly (h:PInv w rb s st)(a:As):Am prog 271 #[Al (V ⟨rb,0,S⟩),I a] w fun e w'=>e=Af (I (Aa (xi s.data.toList st a.data.toList).1))/\PInv w' rb s (xi s.data.toList st a.data.toList).2/\w.grownBy w' (V rb):=by
 have i:Y (xi s.data.toList st a.data.toList=((qA s.data.toList (zS s.data.toList st a.data.toList)).1,zS s.data.toList (zh (qA s.data.toList (zS s.data.toList st a.data.toList)).2 (!R.path (qA s.data.toList (zS s.data.toList st a.data.toList)).1) 4 (zS s.data.toList st a.data.toList).tok.at_) [59])):=rfl;have E:=J h;go_in;have r:Y (w.grownBy w (V rb)):=zP _ _;go_wp2_with fail;refine(y8 E.o _).mono ?_;rintro e w1 ⟨rfl,k,b⟩;have o:=J k;have y:=J (b);have t:=J (zD r.o y.o);generalize zS s.data.toList st a.data.toList=st0 at*;have j:Y ((Aa (qA s.data.toList st0).1).size<=Bh):=by have:=o.o.slen;show _<=_;unfold Bh;omega
 go_wp2_with fail;refine(js o.o).mono ?_;rintro e w2 ⟨rfl,l,c⟩;have p:=J l;have z:=J (c);have u:=J (zD t.o z.o);generalize qA s.data.toList st0=q at*;obtain⟨Q,N⟩:=q;simp only at p i j ⊢;go_wp2_with fail;refine(zbK _ _ j.o).mono ?_;rintro e wX ⟨rfl,g⟩;rw[g];rw[Be];go_wp2_with fail;refine(yO p.o _ _ _).mono ?_;rintro e w3 ⟨rfl,m,d⟩;have F:=J m;have B:=J (d);have v:=J (zD u.o B.o);go_wp2_with fail;refine(y8 F.o _).mono ?_;rintro e w4 ⟨rfl,n,f⟩;have H:=J n;have C:=J (f);have x:=J (zD v.o C.o);go_wp2;go_ret;exact⟨by rw[i.o];rfl,by rw[i.o];exact H.o,x.o⟩
theorem nX (h:PInv w rb s st)(n:Ad):Am prog 333 #[Al (V ⟨rb,0,S⟩),O Ai n] w fun e w'=>e=Af (Fe #[I (Aa (zb s.data.toList st n).1.1),O Ai (zb s.data.toList st n).1.2])/\PInv w' rb s (zb s.data.toList st n).2/\w.grownBy w' (V rb)/\0<=(zb s.data.toList st n).1.2/\(zb s.data.toList st n).1.2<=99999:=by
 have b:Y (zb s.data.toList st n=(((xT s.data.toList st n).1,(qp s.data.toList (xT s.data.toList st n).2).1),
 zh (qp s.data.toList (xT s.data.toList st n).2).2 (decide (1000<(qp s.data.toList (xT s.data.toList st n).2).1)) 4 (xT s.data.toList st n).2.tok.at_)):=rfl
 have HA:Y (xT s.data.toList st n=((qA s.data.toList (zy st n 4)).1,zh (qA s.data.toList (zy st n 4)).2 (!R.upstream (qA s.data.toList (zy st n 4)).1) 4 (zy st n 4).tok.at_)):=rfl;have H0:=J h;have aa:=zO h.rd;go_in;have C0:Y (w.grownBy w (V rb)):=zP _ _;go_wp2_with fail;refine(vq (H0.o.keep (Ac _ _ _)) _ _).mono ?_;rintro e w1 ⟨rfl,I1,c⟩;have J1:=J I1;have G1:Y (w.grownBy w1 (V rb)):=(zD (Ac _ _ _) c);have C1:=J (zD C0.o G1.o);have f:Y (w1.heap[w.heap.size]?=V (Ae #[I ⟨#[]⟩,O Ai 0] 285)):=ql c;generalize zy st n 4=st0 at*;have HL:Y ((Aa (qA s.data.toList st0).1).size<=Bh):=by have:=J1.o.slen;show _<=_;unfold Bh;omega
 go_wp2_with fail;refine(js J1.o).mono ?_;rintro e w2 ⟨rfl,I2,k⟩;have J2:=J I2;have F:=J (k);have C2:=J (zD C1.o F.o);have g:=J (zE f.o F.o);generalize qA s.data.toList st0=q at*;obtain⟨d,E⟩:=q;simp only at J2 HA HL ⊢;go_wp2_with fail;refine(nO _ _ HL.o).mono ?_;rintro e wX ⟨rfl,u⟩;rw[u];rw[Be];go_wp2_with fail;refine(yO J2.o _ _ _).mono ?_;rintro e w3 ⟨rfl,I3,l⟩;have J3:=J I3;have H:=J (l);have C3:=J (zD C2.o H.o);have i:=J (zE g.o H.o);rw[HA.o] at b;simp only at b;generalize zh E (!R.upstream d) 4 st0.tok.at_=st2 at*;go_wp2_with fail;refine(fh J3.o).mono ?_;rintro e w4 ⟨rfl,I4,m,p,r⟩;have J4:=J I4;have N:=J (m);have C4:=J (zD C3.o N.o);have j:=J (zE i.o N.o);generalize qp s.data.toList st2=q at*;obtain⟨x,ab⟩:=q;simp only at J4 b p r ⊢;go_wp2_with fail;refine(yO J4.o _ _ _).mono ?_;rintro e w5 ⟨rfl,I5,o⟩;have J5:=J I5;have Q:=J (o);have C5:=J (zD C4.o Q.o);have a:=J (zE j.o Q.o);have y:=cbi 0 a.o;have B:=zm9 0 a.o;have z:=cbi 1 a.o;have C:=zm9 1 a.o;go_wp2;have t:=zD (zF w5 w.heap.size 0 (I (Aa d))) (zF _ w.heap.size 1 (O Ai x));exact Et (v:=.agg #[I (Aa d),O Ai x]) (by simp[Hm,results333,go_sem,y,z]) rfl ⟨by rw[b.o],by rw[b.o];exact J5.o.other t (by omega),ze C5.o t (Aq _),by rw[b.o];exact p,by rw[b.o];exact r⟩
def P.Mt.cells (m:P.Mt):A Aj:=[I (Aa m.name),Av m.ask,I (Aa m.val)]
theorem zfA (h:PInv w rb s st)(n:Ad):Am prog 272 #[Al (V ⟨rb,0,S⟩),O Ai n] w fun e w'=>e=Af (Fe (qo s.data.toList st n).1.cells.toArray)/\PInv w' rb s (qo s.data.toList st n).2/\w.grownBy w' (V rb):=by
 have C:Y (qo s.data.toList st n=(⟨(jC s.data.toList st n).1,qH (jC s.data.toList st n).2 [61],(vz s.data.toList (jC s.data.toList st n).2).1⟩,zS s.data.toList (vz s.data.toList (jC s.data.toList st n).2).2 [59])):=rfl;have HA:Y (jC s.data.toList st n=qV s.data.toList (zS s.data.toList (zy st n 3) qO)):=rfl;have H0:=J h;have aJ:=zO h.rd;go_in;have C0:Y (w.grownBy w (V rb)):=zP _ _;go_wp2_with fail;refine(vq (H0.o.keep (Ac _ _ _)) _ _).mono ?_;rintro e w1 ⟨rfl,I1,o⟩;have J1:=J I1;have s1:w.heap.size+1<=w1.heap.size:=by have h:=o.size;simpa using h
 have G1:Y (w.grownBy w1 (V rb)):=(zD (Ac _ _ _) o);have C1:=J (zD C0.o G1.o);have ay:Y (w1.heap[w.heap.size]?=V (Ae #[I ⟨#[]⟩,Av false,I ⟨#[]⟩] 276)):=ql o;go_wp2_with fail;refine(y8 J1.o _).mono ?_;rintro e w2 ⟨rfl,I2,ab⟩;have J2:=J I2;have s2:w1.heap.size+0<=w2.heap.size:=by have h:=ab.size;simpa using h
 have G2:=J (ab);have C2:=J (zD C1.o G2.o);have z2:=C2.o.size;have az:=J (zE ay.o G2.o);rw[show(⟨#[104,101,97,100,101,114]⟩:As).data.toList=qO from rfl] at J2;go_wp2_with fail;refine(nQ J2.o).mono ?_;rintro e i ⟨rfl,I3,ad⟩;have J3:=J I3;have b3:=zO J3.o.rd;have s3:w2.heap.size+0<=i.heap.size:=by have h:=ad.size;simpa using h
 have G3:=J (ad);have C3:=J (zD C2.o G3.o);have z3:=C3.o.size;have aA:=J (zE az.o G3.o);rw[<-HA.o] at J3;rw[<-HA.o];generalize jC s.data.toList st n=q at*;obtain⟨nm,c⟩:=q;simp only at J3 C ⊢;go_wp2_with fail;refine(vN (J3.o.keep (Ac _ _ _)) _).mono ?_;rintro e w4 ⟨rfl,aa⟩;have ae:=zT aa (V rb);have J4:Y _:=((J3.o.keep (Ac _ _ _))).keep aa;have G4:Y (i.grownBy w4 (V rb)):=(zD (Ac _ _ _) ae);have C4:=J (zD C3.o G4.o);have r:=J (zE aA.o G4.o);have j:Y (w4.heap[i.heap.size]?=V (Ae #[I (Aa nm),Av false,I ⟨#[]⟩] 276)):=ql ae;rw[show(⟨#[61]⟩:As).data.toList=[61] from rfl];have p:Y (vz s.data.toList c=if qH c [61] then x6 s.data.toList c else ([],c)):=rfl;generalize vz s.data.toList c=pb at*;obtain⟨l,am⟩:=pb;simp only at C;have aK:=cbi 1 j.o;have aL:=zm9 1 j.o
 cases hask:qH c [61]
 ·rw[hask] at p
  simp only[Ct,Gj] at p;have HV:Y (l=[]):=(Nn p.o).1;have HS:Y (am=c):=(Nn p.o).2;rw[HV.o,HS.o] at C;go_wp2_with fail;refine(y8 J4.o _).mono ?_;rintro e aH ⟨rfl,ai,t⟩;have au:=J ai;have y:=J (t);have an:=J (zD C4.o y.o);have a:=J (zE r.o y.o);have d:=J (zE j.o y.o);have aB:=cbi 0 d.o;have aC:=cbi 1 d.o;have aD:=cbi 2 d.o;have af:=cbi 0 a.o;have aE:=zm9 0 a.o;have ag:=cbi 1 a.o;have aF:=zm9 1 a.o;have ah:=cbi 2 a.o;have aG:=zm9 2 a.o;go_wp2;have k:=zD (zD (zF aH w.heap.size 0 (I (Aa nm))) (zF _ w.heap.size 1 (Av false))) (zF _ w.heap.size 2 (I ⟨#[]⟩));exact Et (v:=.agg #[I (Aa nm),Av false,I ⟨#[]⟩]) (by simp[Hm,results272,go_sem,af,ag,ah]) rfl ⟨by rw[C.o,hask];rfl,by rw[C.o];exact au.o.other k (by omega),ze an.o k (Aq _)⟩
 ·rw[hask] at p
  simp only[Gq] at p;have HV:Y ((x6 s.data.toList c).1=l):=by rw[<-p.o];rfl
  have HS:Y ((x6 s.data.toList c).2=am):=by rw[<-p.o];rfl
  go_wp2_with fail;have av:Y _:=J4.o.other (zF w4 i.heap.size 1 (Av true)) (by omega);have ao:=J (ze C4.o (zF w4 i.heap.size 1 (Av true)));have H:=J (zE r.o (zF w4 i.heap.size 1 (Av true)));have E:Y ((Bs w4 ⟨i.heap.size,1,S⟩ (Av true)).heap[i.heap.size]?=V (Ae #[I (Aa nm),Av true,I ⟨#[]⟩] 276)):=zH j.o (Av true);generalize(Bs w4 ⟨i.heap.size,1,S⟩ (Av true))=wy1 at*;refine(sK av.o).mono ?_;rintro e m ⟨rfl,aj,u⟩;have al:=J aj;have z:=J (u);have ap:=J (zD ao.o z.o);have N:=J (zE H.o z.o);have f:=J (zE E.o z.o);rw[HS.o] at al;rw[HV.o];have aM:=cbi 2 f.o;have aN:=zm9 2 f.o;go_wp2_with fail;have aw:Y _:=al.o.other (zF m i.heap.size 2 (I (Aa l))) (by omega);have aq:=J (ze ap.o (zF m i.heap.size 2 (I (Aa l))));have Q:=J (zE N.o (zF m i.heap.size 2 (I (Aa l))));have F:Y ((Bs m ⟨i.heap.size,2,S⟩ (I (Aa l))).heap[i.heap.size]?=V (Ae #[I (Aa nm),Av true,I (Aa l)] 276)):=zH f.o (I (Aa l));generalize(Bs m ⟨i.heap.size,2,S⟩ (I (Aa l)))=wy3 at*;refine(y8 aw.o _).mono ?_;rintro e aI ⟨rfl,ak,x⟩;have ax:=J ak;have B:=J (x);have ar:=J (zD aq.o B.o);have b:=J (zE Q.o B.o);have g:=J (zE F.o B.o);have aB:=cbi 0 g.o;have aC:=cbi 1 g.o;have aD:=cbi 2 g.o;have af:=cbi 0 b.o;have aE:=zm9 0 b.o;have ag:=cbi 1 b.o;have aF:=zm9 1 b.o;have ah:=cbi 2 b.o;have aG:=zm9 2 b.o;go_wp2;have k:=zD (zD (zF aI w.heap.size 0 (I (Aa nm))) (zF _ w.heap.size 1 (Av true))) (zF _ w.heap.size 2 (I (Aa l)));exact Et (v:=.agg #[I (Aa nm),Av true,I (Aa l)]) (by simp[Hm,results272,go_sem,af,ag,ah]) rfl ⟨by rw[C.o,hask];rfl,by rw[C.o];exact ax.o.other k (by omega),ze ar.o k (Aq _)⟩
theorem eD (b:Ad)(a:As)(y:Aj)(c:As)(w:Ag)(d:w.cell? ⟨b,0,S⟩=V (I a)):Am prog 382 #[Fe #[I c,y],Al (V ⟨b,0,S⟩)] w fun e w'=>e=Af (Av (c.toList == a.toList))/\w.grownBy w' S:=by
 have f:=Mk w _ d;go_in;go_wp2;go_ret;exact⟨rfl,Ac _ _ _⟩
theorem pg (b:Ad)(a:As)(y:Aj)(c:As)(w:Ag)(d:w.cell? ⟨b,0,S⟩=V (I a)):Am prog 267 #[Fe #[I c,y],Al (V ⟨b,0,S⟩)] w fun e w'=>e=Af (Av (c.toList == a.toList))/\w.grownBy w' S:=by
 have f:=Mk w _ d;go_in;go_wp2;go_ret;exact⟨rfl,Ac _ _ _⟩
theorem ph (b:Ad)(n m:Ak)(y1 c d f g h:Aj)(w:Ag)(a:w.cell? ⟨b,0,S⟩=V (O Ai n)):Am prog 328 #[Fe #[O Ai m,y1,c,d,f,g,h],Al (V ⟨b,0,S⟩)] w fun e w'=>e=Af (Av (m == n))/\w.grownBy w' S:=by
 have i:=Mk w _ a;go_in;go_wp2;go_ret;exact⟨rfl,Ac _ _ _⟩
def firstAt (p:Ad->Ee):Ad->Ad->Ak
 |0,_=>-1
 |n+1,k=>if p k then k else firstAt p n (k+1)
theorem wn (p:Ad->Ee)(l:A Ee):∀(n k:Ad),(∀j,j<n->l[j]?=V (p (k+j)))->Z l=n->decide (0<=firstAt p n k)=l.any id:=by
 induction l with
 |nil=>intro n k _ b;simp at b;subst b;rfl
 |cons a l ih=>
  intro n k h b
  match n,b with
  |n+1,b=>
   have c:=h 0 (by omega);simp at c;rw[firstAt,List.any_cons];subst c
   cases hp:p k
   ·simp only[Ct,Gj,id,Qq]
    exact ih n (k+1) (fun j hj=>by have:=h (j+1) (by omega);rw[Xb] at this;rw[this];congr 2;omega) (by simpa using b)
   ·simp only[Gq,id,Vu];exact Cf (Sj _)
theorem cR (b:Ad)(f:As)(w:Ag)(g n c:Ad)(a:Ad->As)(y1:Ad->Aj)(E:n<=2000000000000)(t:w.cell? ⟨b,0,S⟩=V (I f))
  (s:∀k,k<n->w.cell? ⟨g,k*2,S⟩=V (I (a k))) (r:∀k,k<n->w.cell? ⟨g,k*2+1,S⟩=V (y1 k)):Am prog 413 #[X (V ⟨g,0,S⟩) n c,.func (.func 382) #[] #[Al (V ⟨b,0,S⟩)]] w fun e w'=>e=Af (O Ai (firstAt (fun k=>(a k).toList == f.toList) n 0))/\w.grownBy w' S:=by
 have v:=J s;have u:=J r;have x:=J t;go_in;go_wp2
 go_loopw [8] (fun iv wr=>∃k:Ad,k<=n/\iv=O Ai k/\Y (firstAt (fun k=>(a k).toList == f.toList) n 0=firstAt (fun k=>(a k).toList == f.toList) (n-k) k)/\Y (w.grownBy wr S)) (fun iv _=>n-(intOf iv).toNat)
 ·exact⟨0,Ax _,rfl,rfl,zP _ _⟩
 ·
  obtain⟨k,C,rfl,o,j⟩:=hrel
  by_cases m:k<n
  ·have z:=j.o.cell (v.o k m) (by simp)
   have B:=j.o.cell (u.o k m) (by simp);have d:Y (firstAt (fun k=>(a k).toList == f.toList) n 0=if ((a k).toList == f.toList)=true then (k:Ak) else firstAt (fun k=>(a k).toList == f.toList) (n-(k+1)) (k+1)):=by
    show _=_;rw[o.o,show n-k=(n-(k+1))+1 by omega,firstAt]
   have p:Y _:=fun(w':Ag) (h:wr.grownBy w' S)=>eD b f (y1 k) (a k) w' (h.cell (j.o.cell x.o (by simp)) (by simp))
   cases hb:(a k).toList == f.toList
   ·rw[hb] at d p
    simp only[Ct,Gj] at d;go_wp2_with fail;refine(p.o _ (zP _ _)).mono ?_;rintro e y ⟨rfl,l⟩;have i:Y _:=zD j.o l;go_wp2;exact⟨⟨k+1,by omega,by go_num,d,i⟩,by simp[intOf];omega⟩
   ·rw[hb] at d p
    simp only[Gq] at d;go_wp2_with fail;refine(p.o _ (zP _ _)).mono ?_;rintro e y ⟨rfl,l⟩;have i:Y _:=zD j.o l;go_wp2;go_ret;exact⟨by rw[d.o];rfl,i.o⟩
  ·have q:k=n:=by omega
   subst q;rw[Gp,firstAt] at o;go_wp2;go_ret;exact⟨by rw[o.o];rfl,j.o⟩
theorem fZ (b:Ad)(i:As)(w:Ag)(v:Aj)(l:A (As))(f:A (A Aj))(n:w.ownsRow 0 280 2 v (Z l) f.flatten)(C:Z l<=2000000000000)(s:w.cell? ⟨b,0,S⟩=V (I i))
  (o:∀k (h:k<Z l),∀j,j<2->∃x,f.flatten[k*2+j]?=V x/\(j=0->x=I l[k])):Am prog 383 #[v,.func (.func 382) #[] #[Al (V ⟨b,0,S⟩)]] w fun e w'=>e=Af (Av (l.any fun x=>x.toList == i.toList))/\w.grownBy w' S:=by
 by_cases t:l=[]
 ·subst t
  obtain⟨a,c,rfl⟩:=zL n;go_in;go_wp2
  go_loopw [8] (fun iv wr=>iv=O Ai 0/\wr=w) (fun _ _=>0)
  ·exact⟨rfl,rfl⟩
  ·
   obtain⟨rfl,rfl⟩:=hrel;go_wp2;go_ret;exact⟨rfl,zP _ _⟩
 ·have m:=Ox.2 t
  obtain⟨g,q,rfl,_,_⟩:=Bm n m;have d:∀k (h:k<Z l) j,j<2->w.cell? ⟨g,k*2+j,S⟩=f.flatten[k*2+j]?:=fun k h j hj=>Ap n (k*2+j) (by omega)
  have r:=cR b i w g (Z l) q (fun k=>l[k]?.getD ⟨#[]⟩) (fun k=>f.flatten[k*2+1]?.getD undef) C s
   (fun k h=>by
    obtain⟨x,p,z⟩:=o k h 0 (by omega);have:=d k h 0 (by omega);rw[Xq] at this p;rw[this,p,z rfl,Bd h];rfl)
   (fun k h=>by obtain⟨x,p,_⟩:=o k h 1 (by omega);rw[d k h 1 (by omega),p];rfl)
  have u:Y (decide (0<=firstAt (fun k=>(l[k]?.getD ⟨#[]⟩).toList == i.toList) (Z l) 0)=l.any fun x=>x.toList == i.toList):=by
   show _=_;rw[wn _ (l.map fun x=>x.toList == i.toList) (Z l) 0 (fun j hj=>by rw[Fq,Bd hj,Gr,Bd hj];rfl) (by simp),Oj];rfl
  have y:Y _:=fun(_:Unit)=>r
  generalize firstAt (fun k=>(l[k]?.getD ⟨#[]⟩).toList == i.toList) (Z l) 0=ix at*;go_in;go_wp2_with fail;refine(y.o ()).mono ?_;rintro e E ⟨rfl,B⟩;go_wp2;go_ret;exact⟨zX u.o,B⟩
theorem tj (b:Ad)(f:As)(w:Ag)(g n c:Ad)(a:Ad->As)(y1:Ad->Aj)(E:n<=2000000000000)(t:w.cell? ⟨b,0,S⟩=V (I f))
  (s:∀k,k<n->w.cell? ⟨g,k*2,S⟩=V (I (a k))) (r:∀k,k<n->w.cell? ⟨g,k*2+1,S⟩=V (y1 k)):Am prog 326 #[X (V ⟨g,0,S⟩) n c,.func (.func 267) #[] #[Al (V ⟨b,0,S⟩)]] w fun e w'=>e=Af (O Ai (firstAt (fun k=>(a k).toList == f.toList) n 0))/\w.grownBy w' S:=by
 have v:=J s;have u:=J r;have x:=J t;go_in;go_wp2
 go_loopw [8] (fun iv wr=>∃k:Ad,k<=n/\iv=O Ai k/\Y (firstAt (fun k=>(a k).toList == f.toList) n 0=firstAt (fun k=>(a k).toList == f.toList) (n-k) k)/\Y (w.grownBy wr S)) (fun iv _=>n-(intOf iv).toNat)
 ·exact⟨0,Ax _,rfl,rfl,zP _ _⟩
 ·
  obtain⟨k,C,rfl,o,j⟩:=hrel
  by_cases m:k<n
  ·have z:=j.o.cell (v.o k m) (by simp)
   have B:=j.o.cell (u.o k m) (by simp);have d:Y (firstAt (fun k=>(a k).toList == f.toList) n 0=if ((a k).toList == f.toList)=true then (k:Ak) else firstAt (fun k=>(a k).toList == f.toList) (n-(k+1)) (k+1)):=by
    show _=_;rw[o.o,show n-k=(n-(k+1))+1 by omega,firstAt]
   have p:Y _:=fun(w':Ag) (h:wr.grownBy w' S)=>pg b f (y1 k) (a k) w' (h.cell (j.o.cell x.o (by simp)) (by simp))
   cases hb:(a k).toList == f.toList
   ·rw[hb] at d p
    simp only[Ct,Gj] at d;go_wp2_with fail;refine(p.o _ (zP _ _)).mono ?_;rintro e y ⟨rfl,l⟩;have i:Y _:=zD j.o l;go_wp2;exact⟨⟨k+1,by omega,by go_num,d,i⟩,by simp[intOf];omega⟩
   ·rw[hb] at d p
    simp only[Gq] at d;go_wp2_with fail;refine(p.o _ (zP _ _)).mono ?_;rintro e y ⟨rfl,l⟩;have i:Y _:=zD j.o l;go_wp2;go_ret;exact⟨by rw[d.o];rfl,i.o⟩
  ·have q:k=n:=by omega
   subst q;rw[Gp,firstAt] at o;go_wp2;go_ret;exact⟨by rw[o.o];rfl,j.o⟩
theorem fB (b:Ad)(i:As)(w:Ag)(v:Aj)(l:A (As))(f:A (A Aj))(n:w.ownsRow 0 146 2 v (Z l) f.flatten)(C:Z l<=2000000000000)(s:w.cell? ⟨b,0,S⟩=V (I i))
  (o:∀k (h:k<Z l),∀j,j<2->∃x,f.flatten[k*2+j]?=V x/\(j=0->x=I l[k])):Am prog 269 #[v,.func (.func 267) #[] #[Al (V ⟨b,0,S⟩)]] w fun e w'=>e=Af (Av (l.any fun x=>x.toList == i.toList))/\w.grownBy w' S:=by
 by_cases t:l=[]
 ·subst t
  obtain⟨a,c,rfl⟩:=zL n;go_in;go_wp2
  go_loopw [8] (fun iv wr=>iv=O Ai 0/\wr=w) (fun _ _=>0)
  ·exact⟨rfl,rfl⟩
  ·
   obtain⟨rfl,rfl⟩:=hrel;go_wp2;go_ret;exact⟨rfl,zP _ _⟩
 ·have m:=Ox.2 t
  obtain⟨g,q,rfl,_,_⟩:=Bm n m;have d:∀k (h:k<Z l) j,j<2->w.cell? ⟨g,k*2+j,S⟩=f.flatten[k*2+j]?:=fun k h j hj=>Ap n (k*2+j) (by omega)
  have r:=tj b i w g (Z l) q (fun k=>l[k]?.getD ⟨#[]⟩) (fun k=>f.flatten[k*2+1]?.getD undef) C s
   (fun k h=>by
    obtain⟨x,p,z⟩:=o k h 0 (by omega);have:=d k h 0 (by omega);rw[Xq] at this p;rw[this,p,z rfl,Bd h];rfl)
   (fun k h=>by obtain⟨x,p,_⟩:=o k h 1 (by omega);rw[d k h 1 (by omega),p];rfl)
  have u:Y (decide (0<=firstAt (fun k=>(l[k]?.getD ⟨#[]⟩).toList == i.toList) (Z l) 0)=l.any fun x=>x.toList == i.toList):=by
   show _=_;rw[wn _ (l.map fun x=>x.toList == i.toList) (Z l) 0 (fun j hj=>by rw[Fq,Bd hj,Gr,Bd hj];rfl) (by simp),Oj];rfl
  have y:Y _:=fun(_:Unit)=>r
  generalize firstAt (fun k=>(l[k]?.getD ⟨#[]⟩).toList == i.toList) (Z l) 0=ix at*;go_in;go_wp2_with fail;refine(y.o ()).mono ?_;rintro e E ⟨rfl,B⟩;go_wp2;go_ret;exact⟨zX u.o,B⟩
theorem tn (b:Ad)(j:Ak)(w:Ag)(g n c:Ad)(a:Ad->Ak)(y1 B C E F H:Ad->Aj)(hn:n<=2000000000000)(z:w.cell? ⟨b,0,S⟩=V (O Ai j))
  (y:∀k,k<n->w.cell? ⟨g,k*7,S⟩=V (O Ai (a k))) (r:∀k,k<n->w.cell? ⟨g,k*7+1,S⟩=V (y1 k)) (s:∀k,k<n->w.cell? ⟨g,k*7+2,S⟩=V (B k)) (t:∀k,k<n->w.cell? ⟨g,k*7+3,S⟩=V (C k)) (u:∀k,k<n->w.cell? ⟨g,k*7+4,S⟩=V (E k)) (v:∀k,k<n->w.cell? ⟨g,k*7+5,S⟩=V (F k)) (x:∀k,k<n->w.cell? ⟨g,k*7+6,S⟩=V (H k)):Am prog 376 #[X (V ⟨g,0,S⟩) n c,.func (.func 328) #[] #[Al (V ⟨b,0,S⟩)]] w fun e w'=>e=Af (O Ai (firstAt (fun k=>a k == j) n 0))/\w.grownBy w' S:=by
 have H0:=J y;have N:=J r;have Q:=J s;have G3:=J t;have G4:=J u;have G5:=J v;have G6:=J x;have HC:=J z;go_in;go_wp2
 go_loopw [8] (fun iv wr=>∃k:Ad,k<=n/\iv=O Ai k/\Y (firstAt (fun k=>a k == j) n 0=firstAt (fun k=>a k == j) (n-k) k)/\Y (w.grownBy wr S)) (fun iv _=>n-(intOf iv).toNat)
 ·exact⟨0,Ax _,rfl,rfl,zP _ _⟩
 ·
  obtain⟨k,hk,rfl,o,i⟩:=hrel
  by_cases d:k<n
  ·have c0:=i.o.cell (H0.o k d) (by simp)
   have c1:=i.o.cell (N.o k d) (by simp);have c2:=i.o.cell (Q.o k d) (by simp);have c3:=i.o.cell (G3.o k d) (by simp);have c4:=i.o.cell (G4.o k d) (by simp);have c5:=i.o.cell (G5.o k d) (by simp);have c6:=i.o.cell (G6.o k d) (by simp);have f:Y (firstAt (fun k=>a k == j) n 0=if (a k == j)=true then (k:Ak) else firstAt (fun k=>a k == j) (n-(k+1)) (k+1)):=by
    show _=_;rw[o.o,show n-k=(n-(k+1))+1 by omega,firstAt]
   have p:Y _:=fun(w':Ag) (h:wr.grownBy w' S)=>ph b j (a k) (y1 k) (B k) (C k) (E k) (F k) (H k) w' (h.cell (i.o.cell HC.o (by simp)) (by simp))
   cases hb:a k == j
   ·rw[hb] at f p
    simp only[Ct,Gj] at f;go_wp2_with fail;refine(p.o _ (zP _ _)).mono ?_;rintro e w1 ⟨rfl,m⟩;have l:Y _:=zD i.o m;go_wp2;exact⟨⟨k+1,by omega,by go_num,f,l⟩,by simp[intOf];omega⟩
   ·rw[hb] at f p
    simp only[Gq] at f;go_wp2_with fail;refine(p.o _ (zP _ _)).mono ?_;rintro e w1 ⟨rfl,m⟩;have l:Y _:=zD i.o m;go_wp2;go_ret;exact⟨by rw[f.o];rfl,l.o⟩
  ·have q:k=n:=by omega
   subst q;rw[Gp,firstAt] at o;go_wp2;go_ret;exact⟨by rw[o.o];rfl,i.o⟩
theorem fC (b:Ad)(n:Ak)(w:Ag)(v:Aj)(l:A (Ak))(h:A (A Aj))(p:w.ownsRow 0 213 7 v (Z l) h.flatten)(C:Z l<=2000000000000)(s:w.cell? ⟨b,0,S⟩=V (O Ai n))
  (m:∀k (f:k<Z l),∀j,j<7->∃x,h.flatten[k*7+j]?=V x/\(j=0->x=O Ai l[k])):Am prog 329 #[v,.func (.func 328) #[] #[Al (V ⟨b,0,S⟩)]] w fun e w'=>e=Af (Av (l.any fun x=>x == n))/\w.grownBy w' S:=by
 by_cases t:l=[]
 ·subst t
  obtain⟨a,c,rfl⟩:=zL p;go_in;go_wp2
  go_loopw [8] (fun iv wr=>iv=O Ai 0/\wr=w) (fun _ _=>0)
  ·exact⟨rfl,rfl⟩
  ·
   obtain⟨rfl,rfl⟩:=hrel;go_wp2;go_ret;exact⟨rfl,zP _ _⟩
 ·have o:=Ox.2 t
  obtain⟨g,q,rfl,_,_⟩:=Bm p o;have d:∀k (f:k<Z l) j,j<7->w.cell? ⟨g,k*7+j,S⟩=h.flatten[k*7+j]?:=fun k f j hj=>Ap p (k*7+j) (by omega)
  have r:=tn b n w g (Z l) q (fun k=>l[k]?.getD 0) (fun k=>h.flatten[k*7+1]?.getD undef) (fun k=>h.flatten[k*7+2]?.getD undef) (fun k=>h.flatten[k*7+3]?.getD undef) (fun k=>h.flatten[k*7+4]?.getD undef) (fun k=>h.flatten[k*7+5]?.getD undef) (fun k=>h.flatten[k*7+6]?.getD undef) C s
   (fun k f=>by
    obtain⟨x,i,z⟩:=m k f 0 (by omega);have:=d k f 0 (by omega);rw[Xq] at this i;rw[this,i,z rfl,Bd f];rfl)
   (fun k f=>by obtain⟨x,i,_⟩:=m k f 1 (by omega);rw[d k f 1 (by omega),i];rfl)
   (fun k f=>by obtain⟨x,i,_⟩:=m k f 2 (by omega);rw[d k f 2 (by omega),i];rfl)
   (fun k f=>by obtain⟨x,i,_⟩:=m k f 3 (by omega);rw[d k f 3 (by omega),i];rfl)
   (fun k f=>by obtain⟨x,i,_⟩:=m k f 4 (by omega);rw[d k f 4 (by omega),i];rfl)
   (fun k f=>by obtain⟨x,i,_⟩:=m k f 5 (by omega);rw[d k f 5 (by omega),i];rfl)
   (fun k f=>by obtain⟨x,i,_⟩:=m k f 6 (by omega);rw[d k f 6 (by omega),i];rfl)
  have u:Y (decide (0<=firstAt (fun k=>l[k]?.getD 0 == n) (Z l) 0)=l.any fun x=>x == n):=by
   show _=_;rw[wn _ (l.map fun x=>x == n) (Z l) 0 (fun j hj=>by rw[Fq,Bd hj,Gr,Bd hj];rfl) (by simp),Oj];rfl
  have y:Y _:=fun(_:Unit)=>r
  generalize firstAt (fun k=>l[k]?.getD 0 == n) (Z l) 0=ix at*;go_in;go_wp2_with fail;refine(y.o ()).mono ?_;rintro e E ⟨rfl,B⟩;go_wp2;go_ret;exact⟨zX u.o,B⟩
theorem pV (x:As)(w:Ag)(g n c:Ad)(a:Ad->As)(o:n<=2000000000000)(i:∀k,k<n->w.cell? ⟨g,k,S⟩=V (I (a k))):Am prog 414 #[X (V ⟨g,0,S⟩) n c,I x] w fun e w'=>e=Af (O Ai (firstAt (fun k=>x.toList == (a k).toList) n 0))/\w'=w:=by
 have j:=J i;clear i;go_in;go_wp2
 go_loop [8] (fun iv=>∃k:Ad,k<=n/\iv=O Ai k/\Y (firstAt (fun k=>x.toList == (a k).toList) n 0=firstAt (fun k=>x.toList == (a k).toList) (n-k) k)) (fun iv=>n-(intOf iv).toNat)
 ·exact⟨0,Ax _,rfl,rfl⟩
 ·
  obtain⟨k,m,rfl,d⟩:=hrel
  by_cases h:k<n
  ·have l:=j.o k h
   have b:Y (firstAt (fun k=>x.toList == (a k).toList) n 0=if (x.toList == (a k).toList)=true then (k:Ak) else firstAt (fun k=>x.toList == (a k).toList) (n-(k+1)) (k+1)):=by
    show _=_;rw[d.o,show n-k=(n-(k+1))+1 by omega,firstAt]
   clear d;generalize a k=nk at*
   cases hb:(x.toList == nk.toList)
   ·rw[hb] at b
    simp only[Ct,Gj] at b;go_wp2;exact⟨⟨k+1,by omega,by go_num,b⟩,by simp[intOf];omega⟩
   ·rw[hb] at b
    simp only[Gq] at b;go_wp2;go_ret;exact⟨by rw[b.o];rfl,rfl⟩
  ·have f:k=n:=by omega
   subst f;rw[Gp,firstAt] at d;go_wp2;go_ret;exact⟨by rw[d.o];rfl,rfl⟩
theorem dg (x:A Ab)(w:Ag)(v:Aj)(l:A (A Ab))(f:w.ownsRow 0 9 1 v (Z l) (zY l))(s:Z l<=2000000000000):Am prog 384 #[v,I (Aa x)] w fun e w'=>e=Af (Av (l.any fun n=>decide (n=x)))/\w'=w:=by
 by_cases p:l=[]
 ·subst p
  obtain⟨a,c,rfl⟩:=zL f;go_in;go_wp2
  go_loop [8] (fun iv=>iv=O Ai 0) (fun _=>0)
  ·rfl
  ·
   subst hrel;go_wp2;go_ret;exact⟨rfl,rfl⟩
 ·have d:=Ox.2 p
  obtain⟨g,h,rfl,_,_⟩:=Bm f d;have i:=pV (Aa x) w g (Z l) h (fun k=>Aa (l[k]?.getD [])) s (fun k hk=>by
   rw[Ap f k (by omega)];unfold zY;rw[Fq,Bd hk];rfl)
  have o:∀a b:A Ab,((Aa a).toList == (Aa b).toList)=decide (b=a):=fun a b=>by rw[toLs,El,Be,Eb];simp[eq_comm]
  simp only[o] at i;have q:Y (decide (0<=firstAt (fun k=>decide (l[k]?.getD []=x)) (Z l) 0)=l.any fun n=>decide (n=x)):=by
   show _=_;rw[wn _ (l.map fun n=>decide (n=x)) (Z l) 0 (fun j hj=>by rw[Fq,Bd hj,Gr,Bd hj];rfl) (by simp),Oj];rfl
  have r:Y _:=fun(_:Unit)=>i
  generalize firstAt (fun k=>decide (l[k]?.getD []=x)) (Z l) 0=ix at*;go_in;go_wp2_with fail;refine(r.o ()).mono ?_;rintro e t ⟨rfl,m⟩;rw[m];go_wp2;go_ret;exact⟨zX q.o,rfl⟩
theorem zjI (l:A (A Ab×A Ab))(k:Ad)(a:k<Z l):(zi l)[k*2]?=V (I (Aa l[k].1))/\(zi l)[k*2+1]?=V (I (Aa l[k].2)):=by
 induction l generalizing k <;> grind[zi,Aa,List.getElem?_append_right,List.length_cons,List.length_nil]
theorem zdD (a b:A Ab):((Aa a).toList == (Aa b).toList)=decide (a=b):=by rw[toLs,El,Be]
theorem lq (b:Ad)(d:A Ab)(w:Ag)(v:Aj)(a:A (A Ab×A Ab))(f:w.ownsRow 0 280 2 v (Z a) (zi a))(i:Z a<=2000000000000)(g:w.cell? ⟨b,0,S⟩=V (I (Aa d))):Am prog 383 #[v,.func (.func 382) #[] #[Al (V ⟨b,0,S⟩)]] w fun e w'=>e=Af (Av ((a.map Bq).any fun n=>decide (n=d)))/\w.grownBy w' S:=by
 have h:=fZ b (Aa d) w v (a.map fun t=>Aa t.1) (a.map fun t=>[I (Aa t.1),I (Aa t.2)]) (by rw[Bv];exact f) (by rw[Bv];exact i) g (fun k hk j hj=>by
  rw[Bv] at hk;have c:=zjI a k hk;unfold zi at c
  match j,hj with
  |0,_=>exact⟨_,c.1,fun _=>by rw[Ha]⟩
  |1,_=>exact⟨_,c.2,fun h=>absurd h (by decide)⟩)
 rw[Oj] at h;simp only[Function.comp_def,zdD] at h;rw[Oj];exact h
theorem PInv.row {a:Ad}{b:A Aj}(h:PInv w rb s st)(f:w.ownsRow B e a v n b)(d:w.grownBy w' (V rb))(c:e≠204):w'.ownsRow B e a v n b:=by grind[zJ,zI,P.St,PInv]
theorem nP (h:PInv w rb s st)(c0 c1 c2 c3 c4 vS Q:Aj)(b:A (A Ab×A Ab))(a:A (A Ab))
  (hS:w.ownsRow 0 280 2 vS (Z b) (zi b)) (hD:w.ownsRow 0 9 1 Q (Z a) (zY a)) (hn:Z b<=2000000000000) (hm:Z a<=2000000000000):Am prog 336 #[Al (V ⟨rb,0,S⟩),Fe #[c0,c1,c2,c3,c4,vS,Q]] w fun e w'=>e=Af (I (Aa (qi s.data.toList st (b.map Bq++a)).1))/\PInv w' rb s (qi s.data.toList st (b.map Bq++a)).2/\w.grownBy w' (V rb):=by
 have p:Y (qi s.data.toList st (b.map Bq++a)=((qV s.data.toList st).1,zh (qV s.data.toList st).2 ((b.map Bq++a).any fun n=>decide (n=(qV s.data.toList st).1)) 5 st.tok.at_)):=rfl;have H0:=J h;have ak:=zO h.rd;have ag:=J hS;have ad:=J hD;go_in;have C0:Y (w.grownBy w (V rb)):=zP _ _;have z:=J ag.o;have v:=J ad.o;go_wp2_with fail;refine(nQ (H0.o.keep (Ac _ _ _))).mono ?_;rintro e r ⟨rfl,I1,m⟩;have H:=J I1;have b1:=zO H.o.rd;have G1:Y (w.grownBy r (V rb)):=(zD (Ac _ _ _) m);have C1:=J (zD C0.o G1.o);have B:Y _:=H0.o.row z.o G1.o (by decide);have x:Y _:=H0.o.row v.o G1.o (by decide);have d:Y (r.heap[w.heap.size]?=V (Ae #[c0,c1,c2,c3,c4,vS,Q] 213)):=ql m;generalize qV s.data.toList st=q at*;obtain⟨N,aq⟩:=q;simp only at H p ⊢;rw[List.any_append] at p;have am:=zO d.o;have al:=cbi 5 d.o;have ae:=J (hn);have af:=J (hm);go_wp2_with fail;refine(lq r.heap.size N _ vS b (Ao B.o _) ae.o (zB (Bn r _))).mono ?_;rintro e w2 ⟨rfl,l⟩;have o:=zT l (V rb);have J2:Y _:=((H.o.keep (Ac _ _ _))).keep l;have G2:Y (r.grownBy w2 (V rb)):=(zD (Ac _ _ _) o);have C2:=J (zD C1.o G2.o);have y:Y _:=H.o.row x.o G2.o (by decide);have f:=J (zE d.o G2.o);have c:Y (w2.heap[r.heap.size]?=V (Ae #[I (Aa N)] 9)):=ql o;generalize((b.map Bq).any fun n=>decide (n=N))=b1 at*
 cases b1
 ·have ap:=zO f.o
  have ao:=cbi 6 f.o;have an:=cbi 0 c.o;go_wp2_with fail;refine(dg N _ Q a y.o af.o).mono ?_;rintro e wX ⟨rfl,F⟩;rw[F];go_wp2_with fail;refine(yO J2.o _ _ _).mono ?_;rintro e ar ⟨rfl,C,g⟩;have ah:=J C;have t:=J (g);have aa:=J (zD C2.o t.o);have j:=J (zE c.o t.o);have aj:=cbi 0 j.o;go_wp2;go_ret;exact⟨by rw[p.o];rfl,by rw[p.o,Qq];exact ah.o,aa.o⟩
 ·go_wp2_with fail
  refine(yO J2.o _ _ _).mono ?_;rintro e au ⟨rfl,E,i⟩;have ai:=J E;have u:=J (i);have ab:=J (zD C2.o u.o);have k:=J (zE c.o u.o);have aj:=cbi 0 k.o;go_wp2;go_ret;exact⟨by rw[p.o];rfl,by rw[p.o,Vu];exact ai.o,ab.o⟩
abbrev Fk0:=Ae #[I ⟨#[]⟩,I ⟨#[]⟩] 280
abbrev Fk2 (a b c d e f g h i):=Ae #[b,c,d,e,f,X g a h,i] 213
theorem zd9 (h:PInv w rb s st)(g i j k l vS f:Aj)(a:A (A Ab×A Ab))(b:A (A Ab))
  (hS:w.ownsRow 0 280 2 vS (Z a) (zi a)) (hD:w.ownsRow 0 9 1 f (Z b) (zY b)) (hn:Z a<=2000000000000) (hm:Z b<=2000000000000):Am prog 274 #[Al (V ⟨rb,0,S⟩),Fe #[g,i,j,k,l,vS,f]] w fun e w'=>e=Af (Fe #[I (Aa (xj s.data.toList st (Z a) (a.map Bq++b)).1.1),I (Aa (xj s.data.toList st (Z a) (a.map Bq++b)).1.2)])/\PInv w' rb s (xj s.data.toList st (Z a) (a.map Bq++b)).2/\w.grownBy w' (V rb):=by
 have HP:Y (xj s.data.toList st (Z a) (a.map Bq++b)=(((jl s.data.toList st (Z a) (a.map Bq++b)).1,(x6 s.data.toList (jl s.data.toList st (Z a) (a.map Bq++b)).2).1),zS s.data.toList (x6 s.data.toList (jl s.data.toList st (Z a) (a.map Bq++b)).2).2 [59])):=rfl;have HA:Y (jl s.data.toList st (Z a) (a.map Bq++b)=qi s.data.toList (zS s.data.toList (zy st (Z a) 3) xX) (a.map Bq++b)):=rfl;have H0:=J h;have av:=zO h.rd;have ak:=J hS;have ah:=J hD;obtain⟨m,n,rfl⟩:=zL hS;have ai:=J hn;have aj:=J hm;go_in;have C0:Y (w.grownBy w (V rb)):=zP _ _;have B:=J ak.o;have t:=J ah.o;go_wp2_with fail;have J1:Y _:=H0.o.keep (Ac w (Fk2 (Z a) g i j k l m n f) S);have C1:Y (w.grownBy (Eo w (Fk2 (Z a) g i j k l m n f)) (V rb)):=zD C0.o (Ac w (Fk2 (Z a) g i j k l m n f) _);have C:Y _:=Ao B.o (Fk2 (Z a) g i j k l m n f);have u:Y _:=Ao t.o (Fk2 (Z a) g i j k l m n f);have an:Y ((Eo w (Fk2 (Z a) g i j k l m n f)).heap[w.heap.size]?=V (Fk2 (Z a) g i j k l m n f)):=Bn _ _;have s1:w.heap.size+1<=(Eo w (Fk2 (Z a) g i j k l m n f)).heap.size:=by simp
 have t1:(Eo w (Fk2 (Z a) g i j k l m n f)).heap.size<=w.heap.size+1:=by simp
 generalize(Eo w (Fk2 (Z a) g i j k l m n f))=w1 at*;have J2:Y _:=J1.o.keep (Ac w1 Fk0 S);have C2:Y (w.grownBy (Eo w1 Fk0) (V rb)):=zD C1.o (Ac w1 Fk0 _);have E:Y _:=Ao C.o Fk0;have x:Y _:=Ao u.o Fk0;have ao:=J (zE an.o (Ac w1 Fk0 S));have o:Y ((Eo w1 Fk0).heap[w1.heap.size]?=V Fk0):=Bn _ _;have s2:w1.heap.size+1<=(Eo w1 Fk0).heap.size:=by simp
 have t2:(Eo w1 Fk0).heap.size<=w1.heap.size+1:=by simp
 generalize(Eo w1 Fk0)=w2 at*;have hE:w1.heap.size=w.heap.size+1:=by omega
 rw[hE] at o;refine(vq J2.o _ _).mono ?_;rintro e w3 ⟨rfl,I3,aa⟩;have J3:=J I3;have p:=J (aa);have C3:=J (zD C2.o p.o);have F:Y _:=J2.o.row E.o p.o (by decide);have y:Y _:=J2.o.row x.o p.o (by decide);have ap:=J (zE ao.o p.o);have N:=J (zE o.o p.o);go_wp2_with fail;refine(y8 J3.o _).mono ?_;rintro e w4 ⟨rfl,I4,ab⟩;have J4:=J I4;have r:=J (ab);have C4:=J (zD C3.o r.o);have H:Y _:=J3.o.row F.o r.o (by decide);have z:Y _:=J3.o.row y.o r.o (by decide);have c:=J (zE ap.o r.o);have Q:=J (zE N.o r.o);rw[show(⟨#[115,101,116]⟩:As).data.toList=xX from rfl] at J4;have aw:=cbi 0 c.o;have ax:=cbi 1 c.o;have ay:=cbi 2 c.o;have az:=cbi 3 c.o;have aA:=cbi 4 c.o;have aB:=cbi 5 c.o;have aC:=cbi 6 c.o;go_wp2_with fail;refine(nP J4.o g i j k l (X m (Z a) n) f a b H.o z.o ai.o aj.o).mono ?_;rintro e w5 ⟨rfl,I5,ad⟩;have J5:=J I5;have G5:=J (ad);have C5:=J (zD C4.o G5.o);have al:=J (zE Q.o G5.o);rw[<-HA.o] at J5;rw[<-HA.o];generalize jl s.data.toList st (Z a) (a.map Bq++b)=q at*;obtain⟨nm,au⟩:=q;simp only at J5 HP ⊢;go_wp2_with fail;refine(sK J5.o).mono ?_;rintro e w6 ⟨rfl,I6,ae⟩;have J6:=J I6;have G6:=J (ae);have C6:=J (zD C5.o G6.o);have am:=J (zE al.o G6.o);generalize x6 s.data.toList au=q at*;obtain⟨vl,aF⟩:=q;simp only at J6 HP ⊢;go_wp2_with fail;refine(y8 J6.o _).mono ?_;rintro e w7 ⟨rfl,I7,af⟩;have J7:=J I7;have G7:=J (af);have C7:=J (zD C6.o G7.o);have d:=J (zE am.o G7.o);have aq:=cbi 0 d.o;have aD:=zm9 0 d.o;have ar:=cbi 1 d.o;have aE:=zm9 1 d.o;go_wp2;have ag:=zD (zF w7 (w.heap.size+1) 0 (I (Aa nm))) (zF _ (w.heap.size+1) 1 (I (Aa vl)));exact Et (v:=.agg #[I (Aa nm),I (Aa vl)]) (by simp[Hm,results274,go_sem,aq,ar]) rfl ⟨by rw[HP.o],by rw[HP.o];exact J7.o.other ag (by omega),ze C7.o ag⟩
theorem lp (h:PInv w rb s st)(N Q c2 c3 c4 t vD:Aj)(b:A (A Ab×A Ab))(a:A (A Ab))
  (hS:w.ownsRow 0 280 2 t (Z b) (zi b)) (hD:w.ownsRow 0 9 1 vD (Z a) (zY a)) (hn:Z b<=2000000000000) (hm:Z a<=2000000000000):Am prog 275 #[Al (V ⟨rb,0,S⟩),Fe #[N,Q,c2,c3,c4,t,vD]] w fun e w'=>e=Af (I (Aa (xO s.data.toList st (Z a) (b.map Bq++a)).1))/\PInv w' rb s (xO s.data.toList st (Z a) (b.map Bq++a)).2/\w.grownBy w' (V rb):=by
 have C:Y (xO s.data.toList st (Z a) (b.map Bq++a)=((je s.data.toList st (Z a) (b.map Bq++a)).1,zS s.data.toList (je s.data.toList st (Z a) (b.map Bq++a)).2 [59])):=rfl;have x:Y (je s.data.toList st (Z a) (b.map Bq++a)=qi s.data.toList (zS s.data.toList (zy st (Z a) 3) qy) (b.map Bq++a)):=rfl;have v:=J h;have aa:=zO h.rd;have E:=J hS;have y:=J hD;obtain⟨da,dc,rfl⟩:=zL hD;have z:=J hn;have B:=J hm;go_in;have C0:Y (w.grownBy w (V rb)):=zP _ _;have j:=J E.o;have f:=J y.o;go_wp2_with fail;refine(vq (v.o.keep (Ac _ _ _)) _ _).mono ?_;rintro e w1 ⟨rfl,I1,d⟩;have F:=J I1;have u:Y (w.grownBy w1 (V rb)):=(zD (Ac _ _ _) d);have C1:=J (zD C0.o u.o);have k:Y _:=v.o.row j.o u.o (by decide);have g:Y _:=v.o.row f.o u.o (by decide);have m:Y (w1.heap[w.heap.size]?=V (Ae #[N,Q,c2,c3,c4,t,X da (Z a) dc] 213)):=ql d;go_wp2_with fail;refine(y8 F.o _).mono ?_;rintro e w2 ⟨rfl,I2,n⟩;have J2:=J I2;have r:=J (n);have C2:=J (zD C1.o r.o);have l:Y _:=F.o.row k.o r.o (by decide);have i:Y _:=F.o.row g.o r.o (by decide);have c:=J (zE m.o r.o);rw[show(⟨#[100,114,111,112]⟩:As).data.toList=qy from rfl] at J2;have ab:=cbi 0 c.o;have ad:=cbi 1 c.o;have ae:=cbi 2 c.o;have af:=cbi 3 c.o;have ag:=cbi 4 c.o;have ah:=cbi 5 c.o;have ai:=cbi 6 c.o;go_wp2_with fail;refine(nP J2.o N Q c2 c3 c4 t (X da (Z a) dc) b a l.o i.o z.o B.o).mono ?_;rintro e w3 ⟨rfl,I3,o⟩;have H:=J I3;have G3:=J (o);have C3:=J (zD C2.o G3.o);rw[<-x.o] at H;rw[<-x.o];generalize je s.data.toList st (Z a) (b.map Bq++a)=q at*;obtain⟨nm,aj⟩:=q;simp only at H C ⊢;go_wp2_with fail;refine(y8 H.o _).mono ?_;rintro e w4 ⟨rfl,I4,p⟩;have J4:=J I4;have G4:=J (p);have C4:=J (zD C3.o G4.o);go_wp2;go_ret;exact⟨by rw[C.o];rfl,by rw[C.o];exact J4.o,C4.o⟩
def xe (l:A P.Mt):A Aj:=(l.map P.Mt.cells).flatten
theorem fH (l:A P.Mt)(m:P.Mt):xe (l++[m])=xe l++m.cells:=by simp[xe]
def PRuleVal (w:Ag)(cells:A Aj)(r:P.Rl):Prop:=
 ∃vM vT vS vD,cells=[O Ai r.number,I (Aa r.path),vM,vT,I (Aa r.rep),vS,vD]/\
  w.ownsRow 0 276 3 vM (Z r.ms) (xe r.ms)/\w.ownsRow 0 285 2 vT (Z r.tg) (zx r.tg)/\
  w.ownsRow 0 280 2 vS (Z r.sets) (zi r.sets)/\w.ownsRow 0 9 1 vD (Z r.drops) (zY r.drops)
def PRulesRow (w:Ag)(B:Ad)(v:Aj)(rs:A P.Rl):Prop:=
 ∃css:A (A Aj),w.ownsRow B 213 7 v (Z rs) css.flatten/\All2 (PRuleVal w) css rs
def PHostVal (w:Ag)(cells:A Aj)(h:P.Hst):Prop:=∃vR,cells=[I (Aa h.name),vR]/\PRulesRow w 0 vR h.rules
def PHostsRow (w:Ag)(B:Ad)(v:Aj)(hs:A P.Hst):Prop:=
 ∃css:A (A Aj),w.ownsRow B 146 2 v (Z hs) css.flatten/\All2 (PHostVal w) css hs
def pleaves:A Cs:=[276,285,280,9]
def prtags:A Cs:=213::pleaves
def phtags:A Cs:=146::prtags
theorem jW {row:Br Ad}{a:Cs}(h:Safe w row (a::l)):Safe w row l:=by grind[Safe]
theorem PRuleVal.keep {r:P.Rl}{row:Br Ad}(h:PRuleVal w a r)(g:w.grownBy w' row)(i:Safe w row pleaves):PRuleVal w' a r:=by
 obtain⟨k,m,l,j,e,b,c,d,f⟩:=h
 grind[x7,P.Rl,PRuleVal,Safe,pleaves]
theorem PRulesRow.keep {g:A P.Rl}{row:Br Ad}(h:PRulesRow w B v g)(d:w.grownBy w' row)(f:Safe w row prtags):PRulesRow w' B v g:=by
 obtain⟨c,i,j⟩:=h;exact⟨c,x7 i d f,j.map fun a b hab=>hab.keep d (jW f)⟩
theorem PRulesRow.base {a:Ad}{b:A P.Rl}(h:PRulesRow w B v b)(c:a<=B):PRulesRow w a v b:=by grind[zo,P.Rl,PRulesRow]
theorem PHostVal.keep {h:P.Hst}{row:Br Ad}(f:PHostVal w a h)(c:w.grownBy w' row)(d:Safe w row prtags):PHostVal w' a h:=by
 obtain⟨g,e,b⟩:=f;exact⟨g,e,b.keep c d⟩
theorem PHostsRow.keep {g:A P.Hst}{row:Br Ad}(h:PHostsRow w B v g)(f:w.grownBy w' row)(c:Safe w row phtags):PHostsRow w' B v g:=by
 obtain⟨d,i,j⟩:=h;exact⟨d,x7 i f c,j.map fun a b hab=>hab.keep f (jW c)⟩
theorem PInv.safe (h:PInv w rb s st)(a:204 ∉ l):Safe w (V rb) l:=xQ h.rd a
theorem aE {a:A (A Aj)}{b:A P.Rl}(h:All2 (PRuleVal w) a b)(k:Ad)(f:k<Z b):∃cs,PRuleVal w cs b[k]/\∀j,j<7->a.flatten[k*7+j]?=cs[j]?:=by
 induction h generalizing k with
 |nil=>simp at f
 | @cons c r cs b hc _ ih=>
  have e:Z c=7:=by obtain⟨m,o,n,l,rfl,_⟩:=hc;rfl
  match k with
  |0=>exact⟨c,hc,fun j hj=>by rw[Ci,Cx (by omega)];simp⟩
  |k+1=>
   obtain⟨d,g,i⟩:=ih k (by simpa using f);refine⟨d,g,fun j hj=>?_⟩;rw[Ci,Cl (by omega),e,show(k+1)*7+j-7=k*7+j by omega,i j hj]
theorem mo {a:A (A Aj)}{b:A P.Hst}(h:All2 (PHostVal w) a b)(k:Ad)(f:k<Z b):∃cs,PHostVal w cs b[k]/\∀j,j<2->a.flatten[k*2+j]?=cs[j]?:=by
 induction h generalizing k with
 |nil=>simp at f
 | @cons c r cs rs hc _ ih=>
  have e:Z c=2:=by obtain⟨l,rfl,_⟩:=hc;rfl
  match k with
  |0=>exact⟨c,hc,fun j hj=>by rw[Ci,Cx (by omega)];simp⟩
  |k+1=>
   obtain⟨d,g,i⟩:=ih k (by simpa using f);refine⟨d,g,fun j hj=>?_⟩;rw[Ci,Cl (by omega),e,show(k+1)*2+j-2=k*2+j by omega,i j hj]
theorem al (b:Ad)(n:Ak)(w:Ag)(B:Ad)(v:Aj)(a:A P.Rl)(g:PRulesRow w B v a)(o:Z a<=2000000000000)(l:w.cell? ⟨b,0,S⟩=V (O Ai n)):Am prog 329 #[v,.func (.func 328) #[] #[Al (V ⟨b,0,S⟩)]] w fun e w'=>e=Af (Av ((a.map P.Rl.number).any fun m=>decide (m=n)))/\w.grownBy w' S:=by
 obtain⟨c,d,f⟩:=g;have h:=fC b n w v (a.map P.Rl.number) c (by rw[Bv];exact zo d (Ax _)) (by rw[Bv];exact o) l (fun k hk j hj=>by
  rw[Bv] at hk;obtain⟨p,⟨r,t,s,q,e,_⟩,i⟩:=aE f k hk;subst e;have:=i j hj
  match j,hj with
  |0,_=>exact⟨_,this,fun _=>by rw[Ha]⟩
  |1,_=>exact⟨_,this,fun h=>absurd h (by decide)⟩
  |2,_=>exact⟨_,this,fun h=>absurd h (by decide)⟩
  |3,_=>exact⟨_,this,fun h=>absurd h (by decide)⟩
  |4,_=>exact⟨_,this,fun h=>absurd h (by decide)⟩
  |5,_=>exact⟨_,this,fun h=>absurd h (by decide)⟩
  |6,_=>exact⟨_,this,fun h=>absurd h (by decide)⟩)
 have e:(fun x:Ak=>x == n)=fun m=>decide (m=n):=by funext x;rw[Eb];simp
 rw[e] at h;exact h
theorem ak (b:Ad)(d:A Ab)(w:Ag)(B:Ad)(v:Aj)(a:A P.Hst)(i:PHostsRow w B v a)(o:Z a<=2000000000000)(n:w.cell? ⟨b,0,S⟩=V (I (Aa d))):Am prog 269 #[v,.func (.func 267) #[] #[Al (V ⟨b,0,S⟩)]] w fun e w'=>e=Af (Av ((a.map P.Hst.name).any fun m=>decide (m=d)))/\w.grownBy w' S:=by
 obtain⟨c,f,g⟩:=i;have h:=fB b (Aa d) w v (a.map fun h=>Aa h.name) c (by rw[Bv];exact zo f (Ax _)) (by rw[Bv];exact o) n (fun k hk j hj=>by
  rw[Bv] at hk;obtain⟨p,⟨q,e,_⟩,l⟩:=mo g k hk;subst e;have:=l j hj
  match j,hj with
  |0,_=>exact⟨_,this,fun _=>by rw[Ha]⟩
  |1,_=>exact⟨_,this,fun h=>absurd h (by decide)⟩)
 rw[Oj] at h;simp only[Function.comp_def,zdD] at h;rw[Oj];exact h
theorem nW (h:PInv w rb s st)(B:Ad)(v:Aj)(c:A P.Rl)(Q:PRulesRow w B v c)(hn:Z c<=2000000000000):Am prog 270 #[Al (V ⟨rb,0,S⟩),v] w fun e w'=>e=Af (O Ai (xp s.data.toList st (c.map P.Rl.number)).1)/\PInv w' rb s (xp s.data.toList st (c.map P.Rl.number)).2/\w.grownBy w' (V rb)/\0<=(xp s.data.toList st (c.map P.Rl.number)).1/\(xp s.data.toList st (c.map P.Rl.number)).1<=99999:=by
 have g:Y (xp s.data.toList st (c.map P.Rl.number)=((qp s.data.toList st).1,zh (zh (qp s.data.toList st).2 (decide (65535<(qp s.data.toList st).1)) 4 st.tok.at_) ((c.map P.Rl.number).any fun n=>decide (n=(qp s.data.toList st).1)) 5 st.tok.at_)):=rfl;have E:=J h;have HR:=J (Q);have HN:=J hn;go_in;have C0:Y (w.grownBy w (V rb)):=zP _ _;go_wp2_with fail;refine(fh E.o).mono ?_;rintro e b ⟨rfl,F,l,r,t⟩;have u:=J F;have b1:=zO u.o.rd;have G1:=J (l);have C1:=J (zD C0.o G1.o);generalize qp s.data.toList st=q at*;obtain⟨a,ab⟩:=q;simp only at u g r t ⊢;go_wp2_with fail;have J2:Y _:=u.o.keep (Ac b (Ae #[O Ai a] 3) S);have C2:Y (w.grownBy (Eo b (Ae #[O Ai a] 3)) (V rb)):=zD C1.o (Ac b (Ae #[O Ai a] 3) _);have i:Y ((Eo b (Ae #[O Ai a] 3)).heap[b.heap.size]?=V (Ae #[O Ai a] 3)):=Bn _ _;have s2:b.heap.size+1<=(Eo b (Ae #[O Ai a] 3)).heap.size:=by simp
 have t2:(Eo b (Ae #[O Ai a] 3)).heap.size<=b.heap.size+1:=by simp
 generalize(Eo b (Ae #[O Ai a] 3))=w2 at*;refine(yO J2.o _ _ _).mono ?_;rintro e w3 ⟨rfl,H,m⟩;have J3:=J H;have y:=J (m);have x:=J (zD C2.o y.o);have d:=J (zE i.o y.o);go_wp2_with fail;refine(al b.heap.size a _ B v c (HR.o.keep x.o (E.o.safe (by decide))) HN.o (zB d.o)).mono ?_;rintro e w4 ⟨rfl,f⟩;have o:=zT f (V rb);have J4:Y _:=(J3.o).keep f;have z:=J (o);have C4:=J (zD x.o z.o);have j:=J (zE d.o z.o);go_wp2_with fail;refine(yO J4.o _ _ _).mono ?_;rintro e w5 ⟨rfl,N,p⟩;have J5:=J N;have C:=J (p);have C5:=J (zD C4.o C.o);have k:=J (zE j.o C.o);have aa:=cbi 0 k.o;go_wp2;go_ret;exact⟨by rw[g.o];rfl,by rw[g.o,Oj];exact J5.o,C5.o,by rw[g.o];exact r,by rw[g.o];exact t⟩
abbrev Fk1 (a):=Ae #[I (Aa (Cj a))] 9
theorem aq (h:PInv w rb s st)(B:Ad)(v:Aj)(i:A P.Hst)(hR:PHostsRow w B v i)(hn:Z i<=2000000000000)(hG:Glob w)(N:rb≠0):Am prog 207 #[Al (V ⟨rb,0,S⟩),v] w fun e w'=>e=Af (I (Aa (x8 s.data.toList st (i.map P.Hst.name)).1))/\PInv w' rb s (x8 s.data.toList st (i.map P.Hst.name)).2/\w.grownBy w' (V rb):=by
 have H:Y (x8 s.data.toList st (i.map P.Hst.name)=(Cj (qA s.data.toList st).1,
 zh (zh (qA s.data.toList st).2 (!R.named (qA s.data.toList st).1 true) 4 st.tok.at_) ((i.map P.Hst.name).any fun n=>decide (n=Cj (qA s.data.toList st).1)) 5 st.tok.at_)):=rfl
 have H0:=J h;have HR:=J (hR);have HN:=J hn;have HG:=J (hG);have C:=J (h.slen);go_in;have C0:Y (w.grownBy w (V rb)):=zP _ _;go_wp2_with fail;refine(js H0.o).mono ?_;rintro e w1 ⟨rfl,I1,o⟩;have J1:=J I1;have G1:=J (o);have C1:=J (zD C0.o G1.o);generalize qA s.data.toList st=q at*;obtain⟨a,ab⟩:=q;simp only at J1 H C ⊢;have E:Y ((Aa a).size<=1000000000000):=by have:=C.o;show _<=_;omega
 have F:Y ((Aa a).size<=3000):=by have:=C.o;show _<=_;omega
 go_wp2_with fail;refine(tF _ _ E.o).mono ?_;rintro e b ⟨rfl,d⟩;have p:=zT d (V rb);have J2:Y _:=(J1.o).keep d;have b2:=zO J2.o.rd;have G2:=J (p);have C2:=J (zD C1.o G2.o);rw[Be];go_wp2_with fail;have J3:Y _:=J2.o.keep (Ac b (Fk1 a) S);have Q:Y (w.grownBy (Eo b (Fk1 a)) (V rb)):=zD C2.o (Ac b (Fk1 a) _);have j:Y ((Eo b (Fk1 a)).heap[b.heap.size]?=V (Fk1 a)):=Bn _ _;have s3:b.heap.size+1<=(Eo b (Fk1 a)).heap.size:=by simp
 have t3:(Eo b (Fk1 a)).heap.size<=b.heap.size+1:=by simp
 generalize(Eo b (Fk1 a))=w3 at*;obtain⟨gm,y⟩:=HG.o.keep Q.o (by simpa using N);have z:=J y;refine(zbJ _ _ gm z.o F.o).mono ?_;rintro e w4 ⟨rfl,f⟩;have r:=zT f (V rb);have J4:Y _:=(J3.o).keep f;have G4:=J (r);have C4:=J (zD Q.o G4.o);have k:=J (zE j.o G4.o);rw[Be];go_wp2_with fail;refine(yO J4.o _ _ _).mono ?_;rintro e w5 ⟨rfl,I5,t⟩;have J5:=J I5;have G5:=J (t);have C5:=J (zD C4.o G5.o);have c:=J (zE k.o G5.o);go_wp2_with fail;refine(ak b.heap.size (Cj a) _ B v i (HR.o.keep C5.o (H0.o.safe (by decide))) HN.o (zB c.o)).mono ?_;rintro e w6 ⟨rfl,g⟩;have u:=zT g (V rb);have J6:Y _:=(J5.o).keep g;have G6:=J (u);have C6:=J (zD C5.o G6.o);have l:=J (zE c.o G6.o);go_wp2_with fail;refine(yO J6.o _ _ _).mono ?_;rintro e w7 ⟨rfl,I7,x⟩;have J7:=J I7;have G7:=J (x);have C7:=J (zD C6.o G7.o);have m:=J (zE l.o G7.o);have aa:=cbi 0 m.o;go_wp2;go_ret;exact⟨by rw[H.o];rfl,by rw[H.o,Oj];exact J7.o,C7.o⟩
end Go.Proofs.YtfocdefchbnkpaaGreatDoor
