/- A rule, as the document's own reader reads it. -/
import Derived.Test.YtfocdefchbnkpaaGreatDoorAli
import Derived.Test.YtfocdefchbnkpaaGreatDoorProD0
import Derived.Deep.RegionLaw
import Derived.Test.YtfocdefchbnkpaaGreatDoorShelf
import Derived.Lib.Split
import Derived.Lib.TrimByte
import Derived.Lib.SlBytesRow
set_option maxRecDepth 100000
set_option maxHeartbeats 20000000
namespace Go.Proofs.YtfocdefchbnkpaaGreatDoor
open Go.RowKit
inductive All2 {α β:Type} (R:α->β->Prop):List α->List β->Prop
 | nil:All2 R [] []
 | cons {a:α} {b:β} {l:List α} {m:List β} (h:R a b) (t:All2 R l m):All2 R (a :: l) (b :: m)
structure R.Rl where
 number:Int
 path:List UInt8
 ms:List R.Mt
 tg:List (List UInt8×Int)
 change:Bool
 to:List UInt8
 sets:List (List UInt8×List UInt8)
 drops:List (List UInt8)
def qm:List UInt8:=[114,117,108,101]
def j3:List UInt8:=[112,97,116,104]
def qR:List UInt8:=[114,101,112,108,97,99,101]
def R.amongN (l:List Int)(n:Int)(p:Int)(st:R.St):R.St:=l.foldl (fun st a=>R.notS st (!decide (a=n)) 5 p) st
def R.rlA2 (ts:List R.Tok)(s2:R.St)(others:List Int):Int×R.St:=
 (R.num (R.cur ts s2).s,R.amongN others (R.num (R.cur ts s2).s) (R.cur ts s2).at_ (R.notS (R.kindS ts s2 49) (decide (R.num (R.cur ts s2).s<=65535)) 4 (R.cur ts s2).at_))
def R.rlA (ts:List R.Tok)(st:R.St)(i:Nat)(others:List Int):Int×R.St:=
 R.rlA2 ts (R.notS (R.needS ts st qm) (decide ((i:Int)<6)) 3 (R.cur ts st).at_) others
def R.rlB (ts:List R.Tok)(st:R.St):List UInt8×R.St:=
 ((R.pathS ts (R.needS ts (R.needS ts st [123]) j3)).1,R.needS ts (R.pathS ts (R.needS ts (R.needS ts st [123]) j3)).2 [59])
def R.rlC (ts:List R.Tok)(st:R.St):List UInt8×R.St:=
 if R.isB st (R.cur ts st) qR then ((R.pathS ts (R.needS ts st qR)).1,R.needS ts (R.pathS ts (R.needS ts st qR)).2 [59]) else ([],st)
def R.ruleE (ts:List R.Tok)(n:Int)(p:List UInt8)(m:List R.Mt)(t:List (List UInt8×Int)×R.St):R.Rl×R.St:=
 (⟨n,p,m,t.1,R.isB t.2 (R.cur ts t.2) qR,(R.rlC ts t.2).1,(R.editsS ts (R.rlC ts t.2).2).1.1,(R.editsS ts (R.rlC ts t.2).2).1.2⟩,R.needS ts (R.editsS ts (R.rlC ts t.2).2).2 [125])
def R.ruleT (ts:List R.Tok)(a:Int×R.St):R.Rl×R.St:=
 R.ruleE ts a.1 (R.rlB ts a.2).1 (R.matchesS ts (R.rlB ts a.2).2).1 (R.targetsS ts (R.matchesS ts (R.rlB ts a.2).2).2)
def R.ruleS (ts:List R.Tok)(st:R.St)(i:Nat)(others:List Int):R.Rl×R.St:=R.ruleT ts (R.rlA ts st i others)
def Safe (w:World)(row:Option Nat)(l:List TypeId):Prop:=∀k c t f,row=some k->w.heap[k]?=some (.cells c t f)->t ∉ l
theorem zv (w:World)(l:List TypeId):Safe w none l:=by intro k c t f h;cases h
theorem qx {w:World}{b:Nat}{c:Array Value}{t:TypeId}{f:Nat×Nat}{l:List TypeId}(h:w.heap[b]?=some (.cells c t f))(hn:t ∉ l):Safe w (some b) l:=by
 intro k c' t' f' hk h'
 cases hk
 rw[h] at h'
 simp only[Option.some.injEq,Obj.cells.injEq] at h'
 rw[<-h'.2.1];exact hn
theorem wY {w:World}{B:Nat}{e:TypeId}{s:Nat}{v:Value}{n:Nat}{xs:List Value}{l:List TypeId}(h:w.ownsRow B e s v n xs)(hn:e ∉ l):Safe w v.ownBlock l:=by
 intro k c t f hk h'
 obtain⟨c',h2⟩:=qH h k hk
 rw[h2] at h'
 simp only[Option.some.injEq,Obj.cells.injEq] at h'
 rw[<-h'.2.1];exact hn
theorem xE {w w':World}{B:Nat}{e:TypeId}{s:Nat}{v:Value}{n:Nat}{xs:List Value}{row:Option Nat}{l:List TypeId}(h:w.ownsRow B e s v n xs)(hg:w.grownBy w' row)(hs:Safe w row l)(he:e∈l):w'.ownsRow B e s v n xs:=by
 refine zO h hg ?_
 intro k hk hr
 obtain⟨c,h2⟩:=qH h k hk
 exact hs k c e (0,0) hr h2 he
theorem All2.map {α β:Type}{P Q:α->β->Prop}{l:List α}{m:List β}(h:All2 P l m)(aa:∀a b,P a b->Q a b):All2 Q l m:=by
 induction h with
 | nil=>exact .nil
 | cons h _ ih=>exact .cons (aa _ _ h) ih
theorem All2.snoc {α β:Type}{P:α->β->Prop}{l:List α}{m:List β}(h:All2 P l m){a:α}{b:β}(aa:P a b):All2 P (l++[a]) (m++[b]):=by
 induction h with
 | nil=>exact .cons aa .nil
 | cons h _ ih=>exact .cons h ih
structure R.Hst where
 name:List UInt8
 rules:List R.Rl
def R.rlLoop (ts:List R.Tok):Nat->R.St->List R.Rl->List R.Rl×R.St
 | 0,st,acc=>(acc,st)
 | n+1,st,acc=>if R.isB st (R.cur ts st) qm then R.rlLoop ts n (R.ruleS ts st acc.length (acc.map R.Rl.number)).2 (acc++[(R.ruleS ts st acc.length (acc.map R.Rl.number)).1]) else (acc,st)
def R.wHost:List UInt8:=[104,111,115,116]
def R.hsA2 (ts:List R.Tok)(s2:R.St)(names:List (List UInt8)):List UInt8×R.St:=
 (R.lower (R.cur ts s2).s,R.among names (R.lower (R.cur ts s2).s) (R.cur ts s2).at_ (R.notS (R.kindS ts s2 34) (R.named (R.cur ts s2).s true) 4 (R.cur ts s2).at_))
def R.hsA (ts:List R.Tok)(st:R.St)(names:List (List UInt8)):List UInt8×R.St:=
 R.hsA2 ts (R.notS (R.needS ts st R.wHost) (decide ((names.length:Int)<4)) 3 (R.cur ts st).at_) names
def R.hsB (ts:List R.Tok)(a:List UInt8×R.St):R.Hst×R.St:=
 (⟨a.1,(R.rlLoop ts (ts.length+1) (R.needS ts a.2 [123]) []).1⟩,R.needS ts (R.rlLoop ts (ts.length+1) (R.needS ts a.2 [123]) []).2 [125])
def R.hostS (ts:List R.Tok)(st:R.St)(names:List (List UInt8)):R.Hst×R.St:=R.hsB ts (R.hsA ts st names)
theorem za2 (ts:List R.Tok)(st:R.St):st.K<=(R.pathS ts st).2.K:=by
 unfold R.pathS;simp only[R.notS_K];exact R.kindS_K _ _ _
theorem zoK (ts:List R.Tok)(st:R.St):st.K<=(R.rlB ts st).2.K:=by
 unfold R.rlB;simp only
 exact zp (zp (zp (R.needS_K _ _ _) (R.needS_K _ _ _)) (za2 _ _)) (R.needS_K _ _ _)
theorem zoL (ts:List R.Tok)(st:R.St):st.K<=(R.rlC ts st).2.K:=by
 unfold R.rlC;split
 ·exact zp (zp (R.needS_K _ _ _) (za2 _ _)) (R.needS_K _ _ _)
 ·exact zZ _
theorem zh2 (ts:List R.Tok)(n:Nat):∀(st:R.St) (aa:List R.Mt),st.K<=(R.mtLoop ts n st aa).2.K:=by
 induction n with
 | zero=>intro st aa;exact zZ _
 | succ n ih=>
  intro st aa;unfold R.mtLoop;split
  ·rename_i h;have:=uP ts st aa h;have:=ih (y8 ts st aa).1 (y8 ts st aa).2;omega
  ·exact zZ _
theorem zh4 (ts:List R.Tok)(n:Nat):∀(st:R.St) (i:Nat) (aa:List (List UInt8×Int)),st.K<=(R.tgLoop ts n st i aa).2.K:=by
 induction n with
 | zero=>intro st i aa;exact zZ _
 | succ n ih=>
  intro st i aa;unfold R.tgLoop;split
  ·split
   ·have h1:=uR ts st i aa
    have h2:=R.needS_K ts (zo ts st i aa).1 [44]
    have:=ih (R.needS ts (zo ts st i aa).1 [44]) (i+1) (zo ts st i aa).2
    omega
   ·exact uR ts st i aa
  ·exact zZ _
theorem zb9 (ts:List R.Tok)(st:R.St):st.K<=(R.targetsS ts st).2.K:=by
 unfold R.targetsS;simp only
 have h1:=R.needS_K ts st [116,111]
 refine zp ?_ (R.needS_K _ _ _)
 refine zp ?_ (zh4 _ _ _ _ _)
 rw[R.notS_K];exact h1
theorem zh3 (ts:List R.Tok)(n:Nat):∀(st:R.St) (aa:List (List UInt8×List UInt8)),st.K<=(R.stLoop ts n st aa).2.K:=by
 induction n with
 | zero=>intro st aa;exact zZ _
 | succ n ih=>
  intro st aa;unfold R.stLoop;split
  ·rename_i h;have:=uQ ts st aa h;have:=ih (yA ts st aa).1 (yA ts st aa).2;omega
  ·exact zZ _
theorem zh0 (ts:List R.Tok)(ab:List (List UInt8))(n:Nat):∀(st:R.St) (aa:List (List UInt8)),st.K<=(R.dpLoop ts ab n st aa).2.K:=by
 induction n with
 | zero=>intro st aa;exact zZ _
 | succ n ih=>
  intro st aa;unfold R.dpLoop;split
  ·rename_i h;have:=uN ts st ab aa h;have:=ih (y7 ts st ab aa).1 (y7 ts st ab aa).2;omega
  ·exact zZ _
theorem zh1 (ts:List R.Tok)(st:R.St):st.K<=(R.editsS ts st).2.K:=by
 unfold R.editsS;simp only
 exact zp (zh3 _ _ _ _) (zh0 _ _ _ _ _)
theorem zgY (l:List Int)(n p:Int)(st:R.St):(R.amongN l n p st).K=st.K:=by
 unfold R.amongN
 induction l generalizing st with
 | nil=>rfl
 | cons a l ih=>rw[List.foldl_cons,ih,R.notS_K]
theorem R.ruleS_K (ts:List R.Tok)(st:R.St)(i:Nat)(l:List Int)(h:R.isB st (R.cur ts st) qm=true):st.K+1<=(R.ruleS ts st i l).2.K:=by
 have h1:(R.needS ts st qm).K=st.K+1:=by rw[R.needS_yes h]
 have h2:(R.needS ts st qm).K<=(R.rlA ts st i l).2.K:=by
  unfold R.rlA R.rlA2;simp only[zgY,R.notS_K]
  have:=R.kindS_K ts (R.notS (R.needS ts st qm) (decide ((i:Int)<6)) 3 (R.cur ts st).at_) 49
  rwa[R.notS_K] at this
 have h3:=zoK ts (R.rlA ts st i l).2
 have h4:=zh2 ts (ts.length+1) (R.rlB ts (R.rlA ts st i l).2).2 []
 have h5:=zb9 ts (R.matchesS ts (R.rlB ts (R.rlA ts st i l).2).2).2
 have h6:=zoL ts (R.targetsS ts (R.matchesS ts (R.rlB ts (R.rlA ts st i l).2).2).2).2
 have h7:=zh1 ts (R.rlC ts (R.targetsS ts (R.matchesS ts (R.rlB ts (R.rlA ts st i l).2).2).2).2).2
 have h8:=R.needS_K ts (R.editsS ts (R.rlC ts (R.targetsS ts (R.matchesS ts (R.rlB ts (R.rlA ts st i l).2).2).2).2).2).2 [125]
 unfold R.ruleS R.ruleT R.ruleE
 unfold R.matchesS at*
 simp only
 omega
def kl (s:List UInt8):Bool:=R.named s true
def qj (l : List UInt8) (st : P.St) (names : List (List UInt8)) : List UInt8 × P.St :=
  (R.lower (zg l st).1,
   zX (zX (zg l st).2 (!kl (zg l st).1) 4 st.tok.at_) (names.any fun n => decide (n = R.lower (zg l st).1)) 5 st.tok.at_)
def xL (l:List UInt8)(st:P.St)(word:List UInt8):List UInt8×P.St:=
 ((zg l (zH l st word)).1,zH l (zX (zg l (zH l st word)).2 (!R.path (zg l (zH l st word)).1) 4 (zH l st word).tok.at_) [59])
def qB (l:List UInt8)(st:P.St):List UInt8×P.St:=
 (R.lower (zg l st).1,zX (zg l st).2 (!R.header (zg l st).1 true) 4 st.tok.at_)
def qg (l:List UInt8)(st:P.St):List UInt8×P.St:=
 ((zg l (zH l st [61])).1,zX (zg l (zH l st [61])).2 (!R.value (zg l (zH l st [61])).1) 4 (zH l st [61]).tok.at_)
structure P.Mt where
 name:List UInt8
 ask:Bool
 val:List UInt8
def xz (l:List UInt8)(st:P.St)(n:Nat):List UInt8×P.St:=qB l (zH l (zf st n 3) qA)
def j2 (l:List UInt8)(st:P.St):List UInt8×P.St:=if zu st [61] then qg l st else ([],st)
def qT (l:List UInt8)(st:P.St)(n:Nat):P.Mt×P.St:=
 (⟨(xz l st n).1,zu (xz l st n).2 [61],(j2 l (xz l st n).2).1⟩,zH l (j2 l (xz l st n).2).2 [59])
def qz (l:List UInt8)(st:P.St)(n:Nat):List UInt8×P.St:=
 ((zg l (zf st n 4)).1,zX (zg l (zf st n 4)).2 (!R.upstream (zg l (zf st n 4)).1) 4 (zf st n 4).tok.at_)
def zR (l : List UInt8) (st : P.St) (n : Nat) : (List UInt8 × Int) × P.St :=
  (((qz l st n).1, (qU l (qz l st n).2).1),
   zX (qU l (qz l st n).2).2 (decide (1000 < (qU l (qz l st n).2).1)) 4 (qz l st n).2.tok.at_)
def qn (l:List UInt8):Nat->P.St->List (List UInt8×Int)->List (List UInt8×Int)×P.St
 | 0,st,acc=>(acc,st)
 | n+1,st,acc=>if zu st [44] then qn l n (zR l (zH l st [44]) acc.length).2 (acc++[(zR l (zH l st [44]) acc.length).1]) else (acc,st)
def jP:List UInt8:=[116,111]
def xF (l:List UInt8)(st:P.St):List (List UInt8×Int)×P.St:=
 qn l (l.length+1) (zR l (zH l st jP) 0).2 [(zR l (zH l st jP) 0).1]
def zz (l : List UInt8) (st : P.St) : List (List UInt8 × Int) × P.St :=
  ((xF l st).1.filter fun t => !(t.2 == 0),
   zX (zH l (xF l st).2 [59]) (((xF l st).1.filter fun t => !(t.2 == 0)).isEmpty) 4 st.tok.at_)
structure P.Rl where
 number:Int
 path:List UInt8
 ms:List P.Mt
 tg:List (List UInt8×Int)
 rep:List UInt8
 sets:List (List UInt8×List UInt8)
 drops:List (List UInt8)
structure P.Hst where
 name:List UInt8
 rules:List P.Rl
def qQ (l:List UInt8)(st:P.St)(am:List (List UInt8)):List UInt8×P.St:=
 ((qB l st).1,zX (qB l st).2 (am.any fun n=>decide (n=(qB l st).1)) 5 st.tok.at_)
def yR (l:List UInt8)(st:P.St)(n:Nat)(am:List (List UInt8)):List UInt8×P.St:=qQ l (zH l (zf st n 3) qy) am
def xB (l:List UInt8)(st:P.St)(n:Nat)(am:List (List UInt8)):(List UInt8×List UInt8)×P.St:=
 (((yR l st n am).1,(qg l (yR l st n am).2).1),zH l (qg l (yR l st n am).2).2 [59])
def yS (l:List UInt8)(st:P.St)(n:Nat)(am:List (List UInt8)):List UInt8×P.St:=qQ l (zH l (zf st n 3) qX) am
def qu (l:List UInt8)(st:P.St)(n:Nat)(am:List (List UInt8)):List UInt8×P.St:=((yS l st n am).1,zH l (yS l st n am).2 [59])
def qZ (l:List UInt8):Nat->P.St->List P.Mt->List P.Mt×P.St
 | 0,st,acc=>(acc,st)
 | n+1,st,acc=>if zu st qA then qZ l n (qT l st acc.length).2 (acc++[(qT l st acc.length).1]) else (acc,st)
def qP (l:List UInt8):Nat->P.St->List (List UInt8×List UInt8)->List (List UInt8×List UInt8)×P.St
 | 0,st,acc=>(acc,st)
 | n+1,st,acc=>if zu st qy then qP l n (xB l st acc.length (acc.map Prod.fst)).2 (acc++[(xB l st acc.length (acc.map Prod.fst)).1]) else (acc,st)
def qJ (l:List UInt8)(sets:List (List UInt8)):Nat->P.St->List (List UInt8)->List (List UInt8)×P.St
 | 0,st,acc=>(acc,st)
 | n+1,st,acc=>if zu st qX then qJ l sets n (qu l st acc.length (sets++acc)).2 (acc++[(qu l st acc.length (sets++acc)).1]) else (acc,st)
def xU (l:List UInt8)(st:P.St)(others:List Int):Int×P.St:=
 ((qU l st).1,zX (zX (qU l st).2 (decide (65535<(qU l st).1)) 4 st.tok.at_) (others.any fun n=>decide (n=(qU l st).1)) 5 st.tok.at_)
def yJ (l:List UInt8)(st:P.St)(others:List Int):Int×P.St:=xU l (zH l (zf st others.length 6) qm) others
def yl (l:List UInt8)(st:P.St):List UInt8×P.St:=xL l (zH l st [123]) j3
def xq (l:List UInt8)(st:P.St):List UInt8×P.St:=if zu st qR then xL l st qR else ([],st)
def jq (l:List UInt8)(n:Int)(p:List UInt8)(m:List P.Mt)(t:List (List UInt8×Int))(c:List UInt8×P.St)(s:List (List UInt8×List UInt8)×P.St):P.Rl×P.St:=
 (⟨n,p,m,t,c.1,s.1,(qJ l (s.1.map Prod.fst) (l.length+1) s.2 []).1⟩,zH l (qJ l (s.1.map Prod.fst) (l.length+1) s.2 []).2 [125])
def yq (l:List UInt8)(n:Int)(p:List UInt8)(m:List P.Mt)(t:List (List UInt8×Int)×P.St):P.Rl×P.St:=
 jq l n p m t.1 (xq l t.2) (qP l (l.length+1) (xq l t.2).2 [])
def vH (l:List UInt8)(n:Int)(p:List UInt8)(m:List P.Mt×P.St):P.Rl×P.St:=yq l n p m.1 (zz l m.2)
def vI (l:List UInt8)(a:Int×P.St):P.Rl×P.St:=vH l a.1 (yl l a.2).1 (qZ l (l.length+1) (yl l a.2).2 [])
def qp (l:List UInt8)(st:P.St)(others:List Int):P.Rl×P.St:=vI l (yJ l st others)
def qf (l:List UInt8):Nat->P.St->List P.Rl->List P.Rl×P.St
 | 0,st,acc=>(acc,st)
 | n+1,st,acc=>if zu st qm then qf l n (qp l st (acc.map P.Rl.number)).2 (acc++[(qp l st (acc.map P.Rl.number)).1]) else (acc,st)
def jK (l:List UInt8)(st:P.St)(names:List (List UInt8)):List UInt8×P.St:=qj l (zH l (zf st names.length 4) R.wHost) names
def zdD (l:List UInt8)(a:List UInt8×P.St):P.Hst×P.St:=
 (⟨a.1,(qf l (l.length+1) (zH l a.2 [123]) []).1⟩,zH l (qf l (l.length+1) (zH l a.2 [123]) []).2 [125])
def qv (l:List UInt8)(st:P.St)(names:List (List UInt8)):P.Hst×P.St:=zdD l (jK l st names)
def qG (l:List UInt8):Nat->P.St->List P.Hst->List P.Hst×P.St
 | 0,st,acc=>(acc,st)
 | n+1,st,acc=>if zu st R.wHost then qG l n (qv l st (acc.map P.Hst.name)).2 (acc++[(qv l st (acc.map P.Hst.name)).1]) else (acc,st)
def j5 (l:List UInt8):P.St:=⟨zU l 0,false,0,0⟩
def ze (l:List UInt8):List P.Hst×P.St:=((qG l (l.length+1) (j5 l) []).1,yY l (qG l (l.length+1) (j5 l) []).2)
theorem tr (l:List UInt8)(p:Nat):p<=(zU l p).at_:=by unfold zU zj;simp
theorem wu (l:List UInt8)(st:P.St)(b:Bool):st.tok.at_<=(zy l st b).tok.at_:=by
 unfold zy;split
 ·have:=tr l (st.tok.at_+st.tok.raw.length)
  show st.tok.at_<=(zU l (st.tok.at_+st.tok.raw.length)).at_
  omega
 ·exact zZ _
theorem xb (l:List UInt8)(st:P.St)(r:List UInt8):st.tok.at_<=(zH l st r).tok.at_:=wu _ _ _
theorem jZ (l:List UInt8)(st:P.St)(r:List UInt8)(h:zu st r=true)(hr:1<=r.length):st.tok.at_+1<=(zH l st r).tok.at_:=by
 unfold zu at h
 simp only[Bool.and_eq_true,Bool.not_eq_true',decide_eq_true_eq] at h
 unfold zH zy
 rw[if_pos ⟨decide_eq_true h.2,h.1⟩]
 have:=tr l (st.tok.at_+st.tok.raw.length)
 show st.tok.at_+1<=(zU l (st.tok.at_+st.tok.raw.length)).at_
 rw[h.2] at this ⊢
 omega
theorem xx (st:P.St)(b:Bool)(e a:Int):(zX st b e a).tok=st.tok:=by
 unfold zX ql;split
 ·split <;> rfl
 ·rfl
theorem j7 (st:P.St)(a b:Int):(zf st a b).tok=st.tok:=xx _ _ _ _
theorem vf (l:List UInt8)(st:P.St):st.tok.at_<=(zg l st).2.tok.at_:=wu _ _ _
theorem zd9 (l:List UInt8)(st:P.St):st.tok.at_<=(qU l st).2.tok.at_:=wu _ _ _
theorem uM (l:List UInt8)(st:P.St):st.tok.at_<=(qB l st).2.tok.at_:=by unfold qB;simp only[xx];exact vf _ _
theorem fA (l:List UInt8)(st:P.St):st.tok.at_<=(qg l st).2.tok.at_:=by
 unfold qg;simp only[xx];exact zp (xb _ _ _) (vf _ _)
theorem tt (l:List UInt8)(st:P.St)(w:List UInt8):(zH l st w).tok.at_<=(xL l st w).2.tok.at_:=by
 unfold xL;simp only
 refine zp ?_ (xb _ _ _)
 rw[xx];exact vf _ _
theorem uL (l:List UInt8)(st:P.St)(am:List (List UInt8)):st.tok.at_<=(qQ l st am).2.tok.at_:=by unfold qQ;simp only[xx];exact uM _ _
theorem vg (l:List UInt8)(st:P.St)(n:Nat):st.tok.at_<=(zR l st n).2.tok.at_:=by
 unfold zR;simp only[xx]
 refine zp ?_ (zd9 _ _)
 unfold qz;simp only[xx]
 have:=vf l (zf st n 4)
 rwa[j7] at this
theorem jg {st:P.St}{r:List UInt8}{a b:Int}(h:zu st r=true):zu (zf st a b) r=true:=by
 have hb:(zf st a b).broken=st.broken:=by unfold zf zX ql;split;split <;> rfl;rfl
 unfold zu at h ⊢;rw[j7,hb];exact h
theorem uy (l:List UInt8)(st:P.St)(n:Nat)(h:zu st qA=true):st.tok.at_+1<=(qT l st n).2.tok.at_:=by
 unfold qT;simp only
 refine zp ?_ (xb _ _ _)
 have h1:=jZ l (zf st n 3) qA (jg h) (by decide)
 rw[j7] at h1
 have h2:(zH l (zf st n 3) qA).tok.at_<=(xz l st n).2.tok.at_:=uM _ _
 have h3:(xz l st n).2.tok.at_<=(j2 l (xz l st n).2).2.tok.at_:=by
  unfold j2;split
  ·exact fA _ _
  ·exact zZ _
 omega
theorem uz (l:List UInt8)(st:P.St)(n:Nat)(am:List (List UInt8))(h:zu st qy=true):st.tok.at_+1<=(xB l st n am).2.tok.at_:=by
 unfold xB;simp only
 refine zp ?_ (xb _ _ _)
 have h1:=jZ l (zf st n 3) qy (jg h) (by decide)
 rw[j7] at h1
 have h2:(zH l (zf st n 3) qy).tok.at_<=(yR l st n am).2.tok.at_:=uL _ _ _
 have h3:=fA l (yR l st n am).2
 omega
theorem wn (l:List UInt8)(st:P.St)(n:Nat)(am:List (List UInt8))(h:zu st qX=true):st.tok.at_+1<=(qu l st n am).2.tok.at_:=by
 unfold qu;simp only
 refine zp ?_ (xb _ _ _)
 have h1:=jZ l (zf st n 3) qX (jg h) (by decide)
 rw[j7] at h1
 have h2:(zH l (zf st n 3) qX).tok.at_<=(yS l st n am).2.tok.at_:=uL _ _ _
 omega
theorem zd8 (l : List UInt8) (n : Nat) : ∀ (st : P.St) (acc : List P.Mt), st.tok.at_ ≤ (qZ l n st acc).2.tok.at_ := by
  induction n with
  | zero => intro st acc; exact zZ _
  | succ n ih => intro st acc; rw [qZ]; split
                 · rename_i h; have := uy l st acc.length h; have := ih (qT l st acc.length).2 (acc ++ [(qT l st acc.length).1]); omega
                 · exact zZ _
theorem zdB (l : List UInt8) (n : Nat) : ∀ (st : P.St) (acc : List (List UInt8 × List UInt8)), st.tok.at_ ≤ (qP l n st acc).2.tok.at_ := by
  induction n with
  | zero => intro st acc; exact zZ _
  | succ n ih => intro st acc; rw [qP]; split
                 · rename_i h; have := uz l st acc.length (acc.map Prod.fst) h; have := ih (xB l st acc.length (acc.map Prod.fst)).2 (acc ++ [(xB l st acc.length (acc.map Prod.fst)).1]); omega
                 · exact zZ _
theorem zd7 (l : List UInt8) (sets : List (List UInt8)) (n : Nat) : ∀ (st : P.St) (acc : List (List UInt8)), st.tok.at_ ≤ (qJ l sets n st acc).2.tok.at_ := by
  induction n with
  | zero => intro st acc; exact zZ _
  | succ n ih => intro st acc; rw [qJ]; split
                 · rename_i h; have := wn l st acc.length (sets ++ acc) h; have := ih (qu l st acc.length (sets ++ acc)).2 (acc ++ [(qu l st acc.length (sets ++ acc)).1]); omega
                 · exact zZ _
theorem zdC (l : List UInt8) (n : Nat) : ∀ (st : P.St) (acc : List (List UInt8 × Int)), st.tok.at_ ≤ (qn l n st acc).2.tok.at_ := by
  induction n with
  | zero => intro st acc; exact zZ _
  | succ n ih => intro st acc; rw [qn]; split
                 · have := xb l st [44]; have := vg l (zH l st [44]) acc.length; have := ih (zR l (zH l st [44]) acc.length).2 (acc ++ [(zR l (zH l st [44]) acc.length).1]); omega
                 · exact zZ _
theorem zb3 (l:List UInt8)(st:P.St):st.tok.at_<=(zz l st).2.tok.at_:=by
 unfold zz;simp only[xx]
 refine zp ?_ (xb _ _ _)
 unfold xF
 exact zp (zp (xb _ _ _) (vg _ _ _)) (zdC _ _ _ _)
theorem zm6 (l:List UInt8)(st:P.St):st.tok.at_<=(xq l st).2.tok.at_:=by
 unfold xq;split
 ·exact zp (xb _ _ _) (tt _ _ _)
 ·exact zZ _
theorem tz (l:List UInt8)(st:P.St)(o:List Int)(h:zu st qm=true):st.tok.at_+1<=(qp l st o).2.tok.at_:=by
 have h1:=jZ l (zf st o.length 6) qm (jg h) (by decide)
 rw[j7] at h1
 have h2:(zH l (zf st o.length 6) qm).tok.at_<=(yJ l st o).2.tok.at_:=by
  unfold yJ xU;simp only[xx];exact zd9 _ _
 have h3:(yJ l st o).2.tok.at_<=(yl l (yJ l st o).2).2.tok.at_:=by
  unfold yl;exact zp (zp (xb _ _ _) (xb _ _ _)) (tt _ _ _)
 have h4:=zd8 l (l.length+1) (yl l (yJ l st o).2).2 []
 unfold qp vI vH yq jq
 simp only
 refine zp ?_ (xb _ _ _)
 refine zp ?_ (zd7 _ _ _ _ _)
 refine zp ?_ (zdB _ _ _ _)
 refine zp ?_ (zm6 _ _)
 refine zp ?_ (zb3 _ _)
 omega
theorem zdA (l : List UInt8) (n : Nat) : ∀ (st : P.St) (acc : List P.Rl), st.tok.at_ ≤ (qf l n st acc).2.tok.at_ := by
  induction n with
  | zero => intro st acc; exact zZ _
  | succ n ih => intro st acc; rw [qf]; split
                 · rename_i h; have := tz l st (acc.map P.Rl.number) h; have := ih (qp l st (acc.map P.Rl.number)).2 (acc ++ [(qp l st (acc.map P.Rl.number)).1]); omega
                 · exact zZ _
theorem zjG (l:List UInt8)(st:P.St)(o:List (List UInt8))(h:zu st R.wHost=true):st.tok.at_+1<=(qv l st o).2.tok.at_:=by
 have h1:=jZ l (zf st o.length 4) R.wHost (jg h) (by decide)
 rw[j7] at h1
 have h2:(zH l (zf st o.length 4) R.wHost).tok.at_<=(jK l st o).2.tok.at_:=by
  unfold jK qj;simp only[xx];exact vf _ _
 unfold qv zdD
 simp only
 refine zp ?_ (xb _ _ _)
 refine zp ?_ (zdA _ _ _ _)
 refine zp ?_ (xb _ _ _)
 omega
def vF (n:Nat)(pcs:List (List UInt8)):Bool:=
 match pcs with
 | []=>false
 | p :: ps=>R.allB (fun c=>R.partI c true) p && (decide (0<n+p.length) && ps.all fun x=>R.word x true)
theorem kn (a r:List UInt8)(n:Nat)(h:∀c∈a,c≠46):R.labelsGo true (a++r) n=(R.allB (fun c=>R.partI c true) a && R.labelsGo true r (n+a.length)):=by
 induction a generalizing n with
 | nil=>simp[R.allB]
 | cons c a ih=>
  have hc:=h c (by simp)
  have aa:¬(c.toNat:Int)=46:=by
   intro e;apply hc;apply UInt8.toNat_inj.1;show c.toNat=46;omega
  rw[List.cons_append,R.labelsGo,if_neg (fun x=>aa x.1),ih (n+1) (fun d hd=>h d (by simp[hd]))]
  have ha:R.allB (fun c=>R.partI c true) (c :: a)=(R.partI c.toNat true && R.allB (fun c=>R.partI c true) a):=by simp[R.allB]
  rw[ha,zm,show n+1+a.length=n+(a.length+1) by omega]
  cases R.partI (↑c.toNat) true <;> simp
theorem zdE (l:List UInt8)(x:UInt8):(Lib.index l [x] = -1/\∀c∈l,c≠x)\/∃i:Nat,Lib.index l [x]=i/\i<l.length/\l=l.take i++x :: l.drop (i+1)/\∀c∈l.take i,c≠x:=by
 induction l with
 | nil=>left;exact⟨rfl,by simp⟩
 | cons c r ih=>
  rw[yL]
  by_cases h:c=x
  ·right;exact⟨0,by rw[if_pos h];rfl,by simp,by simp[h],by simp⟩
  ·rw[if_neg h]
   rcases ih with ⟨h1,h2⟩ | ⟨i,h1,h2,h3,h4⟩
   ·left;refine⟨by rw[if_pos h1],?_⟩
    intro d hd
    rcases List.mem_cons.1 hd with rfl | hd
    ·exact h
    ·exact h2 d hd
   ·right
    refine⟨i+1,by rw[if_neg (by omega),h1];rfl,by simp;omega,?_,?_⟩
    ·rw[List.take_succ_cons,List.drop_succ_cons,List.cons_append,<-h3]
    ·intro d hd
     rw[List.take_succ_cons] at hd
     rcases List.mem_cons.1 hd with rfl | hd
     ·exact h
     ·exact h4 d hd
theorem fD:∀(m:Nat) (l:List UInt8) (n:Nat),l.length<=m->vF n (Lib.splitK [46] 0 (Lib.count l [46]) l)=R.labelsGo true l n:=by
 intro m
 induction m with
 | zero=>
  intro l n h
  have:l=[]:=List.length_eq_zero_iff.1 (by omega)
  subst this
  rw[show Lib.count [] [46]=0 from rfl]
  simp[Lib.splitK,vF,R.labelsGo,R.allB]
 | succ m ih=>
  intro l n h
  rcases zdE l 46 with ⟨h1,h2⟩ | ⟨i,h1,h2,h3,h4⟩
  ·have hc:Lib.count l [46]=0:=Lib.count_miss h1
   rw[hc]
   have:=kn l [] n h2
   rw[xn] at this
   rw[this]
   simp[Lib.splitK,vF,R.labelsGo]
  ·have hc:Lib.count l [46]=1+Lib.count (l.drop (i+1)) [46]:=Lib.count_hit (by simp) h1
   rw[hc,Nat.add_comm,Lib.splitK,if_neg (by rw[h1];simp)]
   have ad:=ih (l.drop (i+1)) 0 (by rw[List.length_drop];omega)
   have aa:=kn (l.take i) (46 :: l.drop (i+1)) n h4
   rw[<-h3] at aa
   rw[aa,R.labelsGo]
   have hl:(l.take i).length=i:=by rw[List.length_take];omega
   rw[hl,h1]
   simp only[Int.toNat_natCast,Nat.add_zero,zm,qi]
   rw[vF]
   rw[hl]
   have ab:((Lib.splitK [46] 0 (Lib.count (l.drop (i+1)) [46]) (l.drop (i+1))).all fun x=>R.word x true)=vF 0 (Lib.splitK [46] 0 (Lib.count (l.drop (i+1)) [46]) (l.drop (i+1))):=by
    generalize hs:Lib.splitK [46] 0 (Lib.count (l.drop (i+1)) [46]) (l.drop (i+1))=sp
    cases sp with
    | nil=>exfalso;revert hs;cases Lib.count (l.drop (i+1)) [46] with
     | zero=>simp[Lib.splitK]
     | succ k=>rw[Lib.splitK];split <;> simp
    | cons p ps=>rw[List.all_cons,vF];unfold R.word;simp[Bool.and_assoc]
   rw[ab,ad]
   by_cases h0:0<n+i
   ·rw[decide_eq_true h0,Bool.true_and,if_pos ⟨by decide,h0⟩]
   ·rw[decide_eq_false h0,if_neg (fun x=>h0 x.2)];simp[R.partI,R.smallI,R.digitI,R.largeI]
def zb5 (l:List UInt8):Bool:=(Lib.splitK [46] 0 (Lib.count l [46]) l).all fun x=>R.word x true
theorem wy (l:List UInt8):zb5 l=R.labels l true:=by
 unfold zb5 R.labels
 rw[<-fD l.length l 0 (zZ _)]
 generalize hs:Lib.splitK [46] 0 (Lib.count l [46]) l=sp
 cases sp with
 | nil=>exfalso;revert hs;cases Lib.count l [46] with
  | zero=>simp[Lib.splitK]
  | succ k=>rw[Lib.splitK];split <;> simp
 | cons p ps=>rw[List.all_cons,vF];unfold R.word;simp[Bool.and_assoc]
theorem zjI (l:List UInt8):(decide (l=[42]) || zb5 (Lib.trimPrefix l [42,46]))=R.named l true:=by
 rw[wy]
 unfold R.named Lib.trimPrefix Lib.hasPrefix
 by_cases h1:l=[42]
 ·rw[if_pos h1,decide_eq_true h1];rfl
 ·rw[if_neg h1,decide_eq_false h1,Bool.false_or]
  by_cases hp:([42,46]:List UInt8).isPrefixOf l=true
  ·rw[if_pos hp]
   rw[List.isPrefixOf_iff_prefix] at hp
   obtain⟨r,rfl⟩:=hp
   by_cases hr:0<r.length
   ·rw[if_pos (by constructor;rfl;simp;omega)];rfl
   ·have:r=[]:=List.length_eq_zero_iff.1 (by omega)
    subst this
    rw[if_neg (by simp)]
    decide
  ·rw[if_neg hp,if_neg]
   intro⟨c,_⟩
   apply hp
   rw[List.isPrefixOf_iff_prefix]
   exact⟨l.drop 2,by rw[<-c,List.take_append_drop]⟩
theorem zjJ (l:List UInt8):decide (Lib.trimB l 32=l)=(decide (l.length=0) || (decide (l.head?≠some 32) && decide (l.getLast?≠some 32))):=by
 unfold Lib.trimB Lib.trimLeftB Lib.trimRightB
 have dw:∀(m:List UInt8),(m.dropWhile (· == 32)).length<=m.length:=fun m=>List.IsSuffix.length_le (List.dropWhile_suffix _)
 have aa:∀(m:List UInt8),m.dropWhile (· == 32)=m↔m.head?≠some 32:=by
  intro m
  cases m with
  | nil=>simp
  | cons c m=>
   rw[List.dropWhile_cons]
   by_cases hc:c=32
   ·subst hc
    rw[if_pos (by simp)]
    constructor
    ·intro e;have:=dw m;rw[e,zm] at this;omega
    ·intro e;simp at e
   ·rw[if_neg (by simpa using hc)];simpa using hc
 rw[Bool.eq_iff_iff]
 simp only[decide_eq_true_eq,Bool.or_eq_true,Bool.and_eq_true]
 constructor
 ·intro h
  by_cases h0:l.length=0
  ·exact Or.inl h0
  ·right
   have l1:(l.reverse.dropWhile (· == 32)).reverse.length<=l.length:=by rw[List.length_reverse];have:=dw l.reverse;rwa[List.length_reverse] at this
   have l2:=dw (l.reverse.dropWhile (· == 32)).reverse
   rw[h] at l2
   have e1:l.reverse.dropWhile (· == 32)=l.reverse:=by
    apply List.IsSuffix.eq_of_length (List.dropWhile_suffix _)
    rw[List.length_reverse] at *;omega
   rw[e1,List.reverse_reverse] at h
   have a:=(aa l).1 h
   have b:=(aa l.reverse).1 e1
   rw[List.head?_reverse] at b
   exact⟨a,b⟩
 ·intro h
  rcases h with h | ⟨a,b⟩
  ·have:l=[]:=List.length_eq_zero_iff.1 h
   subst this;rfl
  ·have e1:l.reverse.dropWhile (· == 32)=l.reverse:=(aa l.reverse).2 (by rw[List.head?_reverse];exact b)
   rw[e1,List.reverse_reverse]
   exact(aa l).2 a
def BytesAt (w:World)(b:Nat)(l:List UInt8):Prop:=
 ∃(cur:Array Value) (lo hi:Nat),w.heap[b]?=some (.cells cur 5 (lo,hi))/\l.length<=lo/\l.length<=cur.size/\∀(j:Nat) (c:UInt8),l[j]?=some c->cur[j]?=some (Value.int .u8 c.toNat)
theorem BytesAt.cell {w:World}{b:Nat}{l:List UInt8}(h:BytesAt w b l){j:Nat}{c:UInt8}(hj:l[j]?=some c):w.cell? ⟨b,j,none⟩=some (.int .u8 c.toNat):=by
 obtain⟨aa,lo,hi,h1,_,_,h4⟩:=h
 rw[z8 h1];exact h4 j c hj
theorem BytesAt.free {w:World}{b:Nat}{l:List UInt8}(h:BytesAt w b l){j:Nat}(hj:j<l.length):w.frozen? ⟨b,j,none⟩=false:=by
 obtain⟨aa,lo,hi,h1,h2,_,_⟩:=h
 unfold World.frozen?
 simp only[h1]
 simp;omega
theorem BytesAt.set {w:World}{b:Nat}{l:List UInt8}(h:BytesAt w b l)(j:Nat)(hj:j<l.length)(c:UInt8):BytesAt (w.setCell ⟨b,j,none⟩ (.int .u8 c.toNat)) b (l.set j c):=by
 obtain⟨ab,lo,hi,h1,h2,h3,h4⟩:=h
 refine⟨ab.setIfInBounds j (.int .u8 c.toNat),lo,hi,zF h1 _,by rw[List.length_set];exact h2,by rw[List.length_set,Array.size_setIfInBounds];exact h3,?_⟩
 intro i d hd
 rw[List.getElem?_set] at hd
 rw[Array.getElem?_setIfInBounds]
 by_cases aa:j=i
 ·subst aa
  rw[if_pos rfl,if_pos hj] at hd
  rw[if_pos rfl,if_pos (by omega)]
  cases hd;rfl
 ·rw[if_neg aa] at hd ⊢
  exact h4 i d hd
theorem BytesAt.new (w:World)(s:ByteArray):BytesAt (Lib.bytesWorld w 5 s) w.heap.size s.data.toList:=by
 refine⟨_,_,_,Lib.bytesWorld_at_new w _ s,?_,?_,?_⟩
 ·unfold Lib.bytesCells;simp
 ·unfold Lib.bytesCells;simp
 ·intro j c hc
  unfold Lib.bytesCells
  have hj:j<s.data.size:=by
   have:=(List.getElem?_eq_some_iff.1 hc).1;simpa using this
  rw[Array.getElem?_append_left (by simpa using hj),Array.getElem?_map]
  have:s.data[j]?=some c:=by rw[<-Array.getElem?_toList];exact hc
  rw[this];rfl
theorem zqP (l:List UInt8)(i:Nat)(h:i<(R.str l).size):l[i]?=some (R.str l)[i]:=by
 have h2:i<l.length:=h
 rw[qN h2];rfl
theorem zoD (c:UInt8):((c.toNat:Int) - 65+97) % 256=(c+32).toNat:=by
 rw[UInt8.toNat_add];simp;omega
def jz (k:Nat)(l:List UInt8):List UInt8:=(l.take k).map R.lowC++l.drop k
theorem ww (k:Nat)(l:List UInt8):(jz k l).length=l.length:=by unfold jz;rw[zW,qw,List.length_take,List.length_drop];omega
theorem zdF (k:Nat)(l:List UInt8)(h:k<l.length):(jz k l)[k]?=some l[k]:=by
 unfold jz
 rw[List.getElem?_append_right (by simp;omega)]
 simp[Nat.min_eq_left (Nat.le_of_lt h),qN h]
theorem zgV (k:Nat)(l:List UInt8)(h:k<l.length):jz (k+1) l=(jz k l).set k (R.lowC l[k]):=by
 unfold jz
 rw[j6 h,xy,List.drop_eq_getElem_cons (i:=k) h]
 have e:((l.take k).map R.lowC).length=k:=by simp;omega
 rw[List.set_append_right _ _ (by rw[e];exact zZ _),e,Nat.sub_self,List.set_cons_zero,xY]
 rfl
theorem jc (s:ByteArray)(w:World)(hs:s.size<=1000000000000) :
  Calls Tryz.prog 239 #[.string s] w fun e w'=>e = .returned (.string (R.str (R.lower s.data.toList)))/\w.grownBy w' none:=by
 have ah:∀w,(convert 9 32 (.string s)).run Tryz.prog w = .ok (.slice (some ⟨w.heap.size,0,none⟩) s.size (grownCap w s.size 0 5)) (Lib.bytesWorld w 5 s):=fun w=>Lib.run_convert_string_bytes (u:=.string) w _ _ _ s (by kernel_rfl) (by kernel_rfl) (by kernel_rfl)
 have ad:Y _:=BytesAt.new w s
 have af:Y _:=xk w 5 s
 have hz:w.heap.size<(Lib.bytesWorld w 5 s).heap.size:=by rw[Lib.bytesWorld_size];omega
 go_enter Tryz.func239,Tryz.ntmps239
 go_wp2
 clear ah
 generalize Lib.bytesWorld w 5 s=wB at*
 generalize grownCap w s.size 0 5=cap at*
 go_loopw [10] (fun iv wr=>∃k:Nat,k<=s.size/\iv = .int .i64 k/\Y (BytesAt wr w.heap.size (jz k s.data.toList))/\Y (w.grownBy wr none)) (fun iv _=>s.size - (intOf iv).toNat)
 case atStart=>exact⟨0,zl _,rfl,ad,af⟩
 case round=>
  obtain⟨k,hk,rfl,HB,HG⟩:=hrel
  by_cases aj:k<s.size
  ·have hl:k<s.data.toList.length:=by rw[R.size_eq];exact aj
   have c1:=HB.o.cell (zdF k s.data.toList hl)
   have f1:=HB.o.free (j:=k) (by rw[ww];exact hl)
   have HM:Y _:=zgV k s.data.toList hl
   have HS:Y _:=HB.o.set k (by rw[ww];exact hl) (R.lowC s.data.toList[k])
   have aa:Y (R.lowC s.data.toList[k]=if R.largeI s.data.toList[k].toNat then s.data.toList[k]+32 else s.data.toList[k]):=rfl
   have ag:Y (R.largeI s.data.toList[k].toNat=false->BytesAt wr w.heap.size (jz (k+1) s.data.toList)):=fun h=>by
    have e:R.lowC s.data.toList[k]=s.data.toList[k]:=by unfold R.lowC;rw[h];rfl
    rw[HM.o,e]
    have:(jz k s.data.toList).set k s.data.toList[k]=jz k s.data.toList:=by
     apply List.ext_getElem?
     intro i
     rw[List.getElem?_set]
     by_cases hi:k=i
     ·subst hi;rw[if_pos rfl,if_pos (by rw[ww];exact hl),zdF k _ hl]
     ·rw[if_neg hi]
    rw[this];exact HB.o
   generalize s.data.toList[k]=c at*
   cases hL:R.largeI c.toNat
   ·have ae:Y _:=ag.o hL
    go_wp2_with (go_at_call 309;refine(vy _ _).mono ?_;rintro e w' ⟨rfl,rfl⟩)
    exact⟨⟨k+1,by omega,by go_num,ae,HG⟩,by simp[intOf];omega⟩
   ·rw[hL] at aa
    simp only[if_true] at aa
    go_wp2_with (go_at_call 309;refine(vy _ _).mono ?_;rintro e w' ⟨rfl,rfl⟩)
    refine⟨⟨k+1,by omega,by go_num,?_,?_⟩,by simp[intOf];omega⟩
    ·show BytesAt _ _ _
     rw[HM.o,show((c.toNat:Int) - 65+97) % 256=(R.lowC c).toNat by rw[aa.o];exact zoD c]
     exact HS.o
    ·exact zY HG.o (zD _ _ _ _) (zZ _)
  ·have ai:k=s.size:=by omega
   subst ai
   have ab:jz s.size s.data.toList=R.lower s.data.toList:=by
    unfold jz R.lower;rw[jS (by rw[R.size_eq];exact zZ _),List.drop_of_length_le (by rw[R.size_eq];exact zZ _),xn]
   rw[ab] at HB
   have al:(convert 32 9 (.slice (some ⟨w.heap.size,0,none⟩) s.size cap)).run Tryz.prog wr = .ok (.string (R.str (R.lower s.data.toList))) wr:=by
    have ak:(R.str (R.lower s.data.toList)).size=s.size:=by rw[R.str_size,vB,R.size_eq]
    have:=Lib.run_convert_whole (P:=Tryz.prog) wr 32 5 9 (by kernel_rfl) (by kernel_rfl) (by kernel_rfl) w.heap.size 0 (R.str (R.lower s.data.toList)) (fun i hi=>by
     rw[Nat.zero_add]
     apply HB.o.cell
     exact zqP _ i hi) cap
    rw[ak] at this;exact this
   clear ab
   go_wp2
   go_ret
   exact⟨rfl,HG.o⟩
end Go.Proofs.YtfocdefchbnkpaaGreatDoor
