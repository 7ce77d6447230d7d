/- What is no request is refused: the plain part. -/
import Derived.Test.YtfocdefchbnkpaaGreatDoorAli
import Derived.Test.YtfocdefchbnkpaaGreatDoorYpF
set_option maxRecDepth 100000
set_option maxHeartbeats 20000000
namespace Go.Proofs.YtfocdefchbnkpaaGreatDoor
open Go.RowKit
theorem q39q {y:Yd}{m:Nat}{c:Cn}(h:y.conns[m]?=some (some c)):y.isOpen (m+1:Nat)=true:=by
 have hl:=(List.getElem?_eq_some_iff.1 h).1
 unfold Yd.isOpen
 have e:(((m+1:Nat):Int) - 1).toNat=m:=by omega
 rw[e,h]
 simp only[Bool.and_true]
 rw[decide_eq_true (by omega),decide_eq_true (by omega)];rfl
theorem q110q {y:Yd}{m:Nat}{c:Cn}(h:y.conns[m]?=some (some c)):y.put m c=y:=by
 obtain⟨hl,e⟩:=List.getElem?_eq_some_iff.1 h
 unfold Yd.put
 rw[<-e,List.set_getElem_self]
theorem q57q (y:Yd)(m:Nat)(a b:Cn):(y.put m a).put m b=y.put m b:=by
 unfold Yd.put;simp only[List.set_set]
theorem q4q {y:Yd}{m:Nat}{c:Cn}(a:Cn)(h:y.conns[m]?=some (some c)):(y.put m a).conns[m]?=some (some a):=by
 show(y.conns.set m _)[m]?=_
 rw[List.getElem?_set_self (List.getElem?_eq_some_iff.1 h).1]
theorem q67q {hs:List P.Hst}{y:Yd}{m:Nat}{c:UInt8}{h h':Rq.Head}(hc:y.conns[m]?=some (some (.hd h)))(ht:Rq.take h c=(h',false,[])):y.stepP hs m c=y.put m (.hd h'):=by
 unfold Yd.stepP
 rw[q39q hc,if_pos rfl]
 unfold Yd.takeP
 rw[hc]
 simp only[ht]
 rw[if_neg (by simp)]
 unfold Yd.after
 rw[if_pos rfl]
 unfold Yd.ready
 rw[q4q _ hc]
theorem q102q {h:Rq.Head}{c:UInt8}(hc:c≠10)(hs:h.size+1<=600):Rq.take h c=({ h with size:=h.size+1,line:=h.line++[c] },false,[]):=by
 unfold Rq.take
 rw[if_neg (by omega),if_neg hc]
theorem q58q (hs:List P.Hst)(y:Yd)(m:Nat)(c:UInt8)(l:List UInt8):y.fedP hs m (c :: l)=(y.stepP hs m c).fedP hs m l:=rfl
theorem q74q {hs:List P.Hst}{m:Nat}:∀(l:List UInt8) {y:Yd} {h:Rq.Head},y.conns[m]?=some (some (.hd h))->(∀c∈l,c≠10)->h.size+l.length<=600->y.fedP hs m l=y.put m (.hd { h with size:=h.size+l.length,line:=h.line++l })
 | [],y,h,hc,_,_=>by
  have e:({ h with size:=h.size+([]:List UInt8).length,line:=h.line++[] }:Rq.Head)=h:=by cases h;simp
  rw[e,q110q hc];rfl
 | c :: l,y,h,hc,hn,hl=>by
  have aa:h.size+(l.length+1)<=600:=hl
  have h1:=q67q (hs:=hs) hc (q102q (hn c List.mem_cons_self) (by omega))
  rw[q58q,h1,q74q l (q4q _ hc) (fun x hx=>hn x (List.mem_cons_of_mem _ hx)) (by show h.size+1+l.length<=600;omega),q57q]
  congr 2
  simp only[Rq.Head.mk.injEq,xY,List.cons_append,List.nil_append,zm,and_true]
  omega
theorem q64q {hs:List P.Hst}{m:Nat}(l:List UInt8){y:Yd}{sz:Nat}{ln me ta:List UInt8}{hd:List Hd}(hc:y.conns[m]?=some (some (.hd ⟨sz,ln,me,ta,hd⟩)))(hn:∀c∈l,c≠10)(hl:sz+l.length<=600):y.fedP hs m l=y.put m (.hd ⟨sz+l.length,ln++l,me,ta,hd⟩):=q74q l hc hn hl
theorem q118q (l:List UInt8)(c:UInt8):Rq.unend (l++[c]) c=(l,true):=by
 unfold Rq.unend
 rw[if_pos (by unfold Lib.hasSuffix;simp)]
 simp
def Ed.nm (n:Nat):List UInt8:=[UInt8.ofNat (97+n)]
def Ed.ln (n i:Nat):List UInt8:=Ed.nm n++[58]++R.dec i
def Ed.hds:Nat->List Nat->List Hd
 | _,[]=>[]
 | j,n :: ns=>(Ed.nm n,R.dec j) :: Ed.hds (j+1) ns
def Ed.txt:Nat->List Nat->List UInt8
 | _,[]=>[]
 | j,n :: ns=>Ed.ln n j++[13,10]++Ed.txt (j+1) ns
def Ru.t:List UInt8:=[104,111,115,116,32,34,97,46,98,34,32,123,32,114,117,108,101,32,53,32,123,32,112,97,116,104,32,34,47,120,34,59,32,104,101,97,100,101,114,32,34,120,45,101,110,118,34,32,61,32,34,116,101,115,116,34,59,32,116,111,32,34,116,101,115,116,34,32,49,59,32,125,32,114,117,108,101,32,57,32,123,32,112,97,116,104,32,34,47,120,47,34,59,32,116,111,32,34,100,101,101,112,34,32,49,59,32,125,32,114,117,108,101,32,55,32,123,32,112,97,116,104,32,34,47,120,34,59,32,104,101,97,100,101,114,32,34,120,45,105,100,34,59,32,116,111,32,34,105,100,34,32,49,59,32,125,32,114,117,108,101,32,54,48,32,123,32,112,97,116,104,32,34,47,34,59,32,116,111,32,34,114,101,115,116,34,32,49,59,32,125,32,125,10,104,111,115,116,32,34,42,46,98,34,32,123,32,114,117,108,101,32,49,32,123,32,112,97,116,104,32,34,47,120,34,59,32,116,111,32,34,98,34,32,49,59,32,125,32,125,10,104,111,115,116,32,34,42,46,120,46,98,34,32,123,32,114,117,108,101,32,49,32,123,32,112,97,116,104,32,34,47,120,34,59,32,116,111,32,34,120,98,34,32,49,59,32,125,32,125,10,104,111,115,116,32,34,42,34,32,123,32,114,117,108,101,32,51,32,123,32,112,97,116,104,32,34,47,120,121,34,59,32,116,111,32,34,115,116,97,114,34,32,49,59,32,125,32,125]
def Ru.host:Nat->List UInt8
 | 0=>[97,46,98]
 | 1=>[120,46,98]
 | 2=>[121,46,120,46,98]
 | 3=>[98]
 | 4=>[65,46,66,58,56,49]
 | _=>[99]
def Ru.path:Nat->List UInt8
 | 0=>[47]
 | 1=>[47,120]
 | 2=>[47,120,47,121]
 | 3=>[47,120,121]
 | 4=>[47,121,63,47,120]
 | _=>[47,120,63,113,61,49]
def Ru.env:Nat->List UInt8
 | 0=>[]
 | 1=>[116,101,115,116]
 | 2=>[108,105,118,101]
 | _=>[84,101,115,116]
def Ru.pre:List UInt8:=[80,79,83,84,32]
def Ru.ver:List UInt8:=[32,72,84,84,80,47,49,46,49]
def Ru.hL:List UInt8:=[72,111,115,116,58,32]
def Ru.eL:List UInt8:=[88,45,69,110,118,58,32,32]
def Ru.i1:List UInt8:=[120,45,105,100,58,32,49]
def Ru.i2:List UInt8:=[88,45,73,68,58,32,50]
def Ru.cL:List UInt8:=[99,111,110,116,101,110,116,45,108,101,110,103,116,104,58,32,48]
def Ru.post:List UInt8:=[80,79,83,84]
def Ru.sEnv:List UInt8:=[120,45,101,110,118]
def Ru.sId:List UInt8:=[120,45,105,100]
def Ru.sTest:List UInt8:=[116,101,115,116]
def Ru.sIdT:List UInt8:=[105,100]
def Ru.sDeep:List UInt8:=[100,101,101,112]
def Ru.sRest:List UInt8:=[114,101,115,116]
def Ru.sB:List UInt8:=[98]
def Ru.sXb:List UInt8:=[120,98]
def Ru.sStar:List UInt8:=[115,116,97,114]
structure Ak where
 h:Nat
 p:Nat
 e:Nat
 d:Nat
 n:Nat
structure Ak.Ok (a:Ak):Prop where
 h:a.h<6
 p:a.p<6
 e:a.e<4
 d:a.d<2
 n:a.n<40
def Ru.l0 (p:Nat):List UInt8:=Ru.pre++(Ru.path p++Ru.ver)
def Ru.l1 (h:Nat):List UInt8:=Ru.hL++Ru.host h
def Ru.l2 (e:Nat):List UInt8:=Ru.eL++(Ru.env e++[32])
def Ru.l5 (n:Nat):List UInt8:=Ru.cL++R.dec n
def Ru.c:List UInt8:=[13,10]
def Ru.tx0 (a:Ak):List UInt8:=(Ru.l0 a.p++Ru.c)++(Ru.l1 a.h++Ru.c)
def Ru.tx1 (a:Ak):List UInt8:=if a.e=0 then [] else Ru.l2 a.e++Ru.c
def Ru.tx2 (a:Ak):List UInt8:=if a.d=1 then (Ru.i1++Ru.c)++(Ru.i2++Ru.c) else []
def Ru.tx3 (a:Ak):List UInt8:=if a.n=0 then Ru.c else (Ru.l5 a.n++Ru.c)++(Ru.c++List.replicate a.n 10)
def Ru.txt (a:Ak):List UInt8:=Ru.tx0 a++(Ru.tx1 a++(Ru.tx2 a++Ru.tx3 a))
def Ru.hd (h e d:Nat):List Hd:=[(Rq.sHost,Ru.host h)]++((if e=0 then [] else [(Ru.sEnv,Ru.env e)])++(if d=1 then [(Ru.sId,[49]),(Ru.sId,[50])] else []))
def Ru.cl (n:Nat):List Hd:=if n=0 then [] else [(Rq.sCl,48 :: R.dec n)]
def Ru.isX (p:Nat):Bool:=decide ((Ru.path p).take 2=[47,120])
def Ru.goes (h p e d:Nat):List UInt8:=
 if h=0\/h=4 then
  if Ru.isX p=true/\e=1 then Ru.sTest else if Ru.isX p=true/\d=1 then Ru.sIdT else if p=2 then Ru.sDeep else Ru.sRest
 else if h=1 then (if Ru.isX p=true then Ru.sB else []) else if h=2 then (if Ru.isX p=true then Ru.sXb else []) else (if p=3 then Ru.sStar else [])
def Ru.hs:List P.Hst:=xr (xG Ru.t)
theorem q85q:xm Ru.t=(0,0):=by decide +kernel
def Ru.find (h p e d:Nat):Option P.Rl:=Tr.find Ru.hs ⟨0,[],Ru.post,Ru.path p,Ru.hd h e d⟩
def Ru.good (o:Option P.Rl)(l:List UInt8):Bool:=
 match o with
 | none=>decide (l=[])
 | some r=>decide (l≠[]) && (decide (r.tg=[(l,1)]) && (decide (r.rep=[]) && (decide (r.sets=[]) && decide (r.drops=[]))))
theorem q122q {o:Option P.Rl}{l:List UInt8}(h:Ru.good o l=true):(o=none/\l=[])\/∃r,o=some r/\l≠[]/\r.tg=[(l,1)]/\r.rep=[]/\r.sets=[]/\r.drops=[]:=by
 cases o with
 | none=>exact Or.inl ⟨rfl,of_decide_eq_true h⟩
 | some r=>
  have h2:(decide (l≠[]) && (decide (r.tg=[(l,1)]) && (decide (r.rep=[]) && (decide (r.sets=[]) && decide (r.drops=[])))))=true:=h
  simp only[Bool.and_eq_true,decide_eq_true_eq] at h2
  exact Or.inr ⟨r,rfl,h2⟩
theorem q112q:((List.range 6).all fun h=>(List.range 6).all fun p=>(List.range 4).all fun e=>(List.range 2).all fun d=>Ru.good (Ru.find h p e d) (Ru.goes h p e d))=true:=by decide +kernel
theorem zs5 (h:Nat)(hh:h<6)(p:Nat)(hp:p<6)(e:Nat)(he:e<4)(d:Nat)(hd:d<2):Ru.good (Ru.find h p e d) (Ru.goes h p e d)=true:=by
 have h1:=List.all_eq_true.1 q112q h (List.mem_range.2 hh)
 have h2:=List.all_eq_true.1 h1 p (List.mem_range.2 hp)
 have h3:=List.all_eq_true.1 h2 e (List.mem_range.2 he)
 have h4:=List.all_eq_true.1 h3 d (List.mem_range.2 hd)
 exact h4
theorem q95q (hs:List P.Hst)(sz:Nat)(me ta:List UInt8)(l:List Hd):Tr.find hs ⟨sz,[],me,ta,l⟩=Tr.find hs ⟨0,[],Ru.post,ta,l⟩:=rfl
theorem q90q:Fits Ru.hs:=zoX (by decide +kernel)
def Ru.noCl (hs:List P.Hst):Bool:=hs.all fun h=>h.rules.all fun r=>r.ms.all fun m=>decide (m.name≠Rq.sCl)
theorem zs7:Ru.noCl Ru.hs=true:=by decide +kernel
theorem q60q (nm:List UInt8)(h:nm≠Rq.sCl)(l:List Hd)(v:List UInt8):Rq.named nm (l++[(Rq.sCl,v)])=Rq.named nm l:=by
 unfold Rq.named
 rw[List.filter_append]
 have:([(Rq.sCl,v)]:List Hd).filter (fun x=>decide (x.1=nm))=[]:=by
  rw[List.filter_eq_nil_iff]
  intro x hx
  rcases List.mem_singleton.1 hx with rfl
  simpa using fun e=>h e.symm
 rw[this,xn]
theorem q108q (ms:List P.Mt)(h:∀m∈ms,m.name≠Rq.sCl)(l:List Hd)(v:List UInt8):Rq.meets ms (l++[(Rq.sCl,v)])=Rq.meets ms l:=by
 unfold Rq.meets
 rw[Bool.eq_iff_iff,List.all_eq_true,List.all_eq_true]
 constructor
 ·intro q m hm
  have:=q m hm
  unfold Rq.ask1 at this ⊢
  rw[q60q _ (h m hm)] at this
  exact this
 ·intro q m hm
  have:=q m hm
  unfold Rq.ask1 at this ⊢
  rw[q60q _ (h m hm)]
  exact this
theorem q59q (rs:List P.Rl)(h:∀r∈rs,∀m∈r.ms,m.name≠Rq.sCl)(l:List Hd)(v:List UInt8):∀is:List Nat,Tr.firstRule rs (l++[(Rq.sCl,v)]) is=Tr.firstRule rs l is
 | []=>rfl
 | i :: t=>by
  rw[Tr.firstRule,Tr.firstRule]
  cases e:rs[i]? with
  | none=>exact q59q rs h l v t
  | some r=>
   show(if Rq.meets r.ms (l++[(Rq.sCl,v)])=true then some r else _)=_
   rw[q108q r.ms (h r (List.mem_of_getElem? e)),q59q rs h l v t]
theorem q121q {hs:List P.Hst}(hn:Ru.noCl hs=true)(hm:∀{n x},Tr.hostOf hs n=some x->x∈hs)(sz:Nat)(me ta:List UInt8)(l:List Hd)(v:List UInt8):Tr.find hs ⟨sz,[],me,ta,l++[(Rq.sCl,v)]⟩=Tr.find hs ⟨0,[],Ru.post,ta,l⟩:=by
 have e1:Rq.host ⟨sz,[],me,ta,l++[(Rq.sCl,v)]⟩=Rq.host ⟨0,[],Ru.post,ta,l⟩:=by
  unfold Rq.host Rq.value
  show R.lower (Lib.cut (((Rq.named Rq.sHost (l++[(Rq.sCl,v)])).head?.map (·.2)).getD []) [58]).1=_
  rw[q60q _ (by decide)]
 unfold Tr.find
 rw[e1]
 cases e:Tr.hostOf hs (Rq.host ⟨0,[],Ru.post,ta,l⟩) with
 | none=>rfl
 | some x=>
  show Tr.ruleOf x _ (l++[(Rq.sCl,v)])=Tr.ruleOf x _ l
  unfold Tr.ruleOf
  have hx:=List.all_eq_true.1 hn x (hm e)
  exact q59q x.rules (fun r hr m hm=>of_decide_eq_true (List.all_eq_true.1 (List.all_eq_true.1 hx r hr) m hm)) l v _
theorem q114q (hm:∀{n x},Tr.hostOf Ru.hs n=some x->x∈Ru.hs){a:Ak}(ok:a.Ok)(sz:Nat):Ru.good (Tr.find Ru.hs ⟨sz,[],Ru.post,Ru.path a.p,Ru.hd a.h a.e a.d++Ru.cl a.n⟩) (Ru.goes a.h a.p a.e a.d)=true:=by
 have h:=zs5 a.h ok.h a.p ok.p a.e ok.e a.d ok.d
 unfold Ru.cl
 split
 ·rw[xn,q95q];exact h
 ·rw[q121q zs7 hm];exact h
theorem q94q {hs:List P.Hst}{m:Nat}{y:Yd}{sz:Nat}{me ta:List UInt8}{hd:List Hd}(hc:y.conns[m]?=some (some (.hd ⟨sz,[],me,ta,hd⟩)))(ab:me≠[])(l:List UInt8)(x:Hd)(h1:Rq.readOk l=true)(h2:Rq.readHd l=x)(h3:∀c∈l,c≠10)(h5:l≠[])(hr:Rq.refusal x hd=[])(ad:sz+l.length+2<=600) :
  y.fedP hs m (l++Ru.c)=y.put m (.hd ⟨sz+l.length+2,[],me,ta,hd++[x]⟩):=by
 have e:l++Ru.c=(l++[13])++[10]:=by unfold Ru.c;simp
 have aa:(l++[13]).length=l.length+1:=by simp
 rw[e,zeB,q64q (l++[13]) hc (fun c hc=>by
  rcases List.mem_append.1 hc with q | q
  ·exact h3 c q
  ·simp at q;rw[q];decide) (by rw[aa];omega),q58q]
 have ht:Rq.take (⟨sz+(l++[13]).length,[]++(l++[13]),me,ta,hd⟩:Rq.Head) 10=(⟨sz+l.length+2,[],me,ta,hd++[x]⟩,false,[]):=by
  unfold Rq.take
  rw[if_neg (by rw[aa];show ¬600<sz+(l.length+1)+1;omega),if_pos rfl]
  unfold Rq.look
  have hu:Rq.unend ([]++(l++[13])) 13=(l,true):=by rw[List.nil_append];exact q118q l 13
  simp only[hu]
  rw[if_pos trivial,if_neg ab,if_neg h5]
  unfold Rq.add Rq.addOut
  rw[if_pos h1,if_pos h1,h2]
  show(({ size:=sz+(l++[13]).length+1,line:=[],method:=me,target:=ta,headers:=hd++[x] }:Rq.Head),false,Rq.refusal x hd)=_
  rw[hr,aa]
  congr 2
 rw[q67q (q4q _ hc) ht,q57q]
 rfl
theorem q93q {hs:List P.Hst}{y:Yd}{sz:Nat}{me ta:List UInt8}{hd:List Hd}(hc:y.conns[0]?=some (some (.hd ⟨sz,[],me,ta,hd⟩)))(aa:me≠[])(hh:Rq.has Rq.sHost hd=true)(ab:sz+2<=600) :
  y.fedP hs 0 Ru.c=(⟨Tr.after hs y.draws ⟨sz+2,[],me,ta,hd⟩,y.conns.set 0 (some (.bd (Tr.D hs (y.draws.headD 0) ⟨sz+2,[],me,ta,hd⟩))),y.sent⟩:Yd).ready 0:=by
 have e:Ru.c=[13]++[10]:=rfl
 rw[e,zeB,q64q [13] hc (fun c hc=>by simp at hc;rw[hc];decide) (by show sz+1<=600;omega)]
 have ht:Rq.take (⟨sz+[(13:UInt8)].length,[]++[13],me,ta,hd⟩:Rq.Head) 10=(⟨sz+2,[],me,ta,hd⟩,true,[]):=by
  unfold Rq.take
  rw[if_neg (by show ¬600<sz+1+1;omega),if_pos rfl]
  unfold Rq.look
  have hu:Rq.unend ([]++[13]) 13=([],true):=by decide
  simp only[hu]
  rw[if_pos trivial,if_neg aa,if_pos trivial,hh]
  rfl
 show Yd.stepP hs _ 0 10=_
 unfold Yd.stepP
 rw[q39q (q4q _ hc),if_pos rfl]
 unfold Yd.takeP
 rw[q4q _ hc]
 simp only[ht]
 rw[if_pos trivial]
 unfold Yd.after
 rw[if_pos rfl]
 show Yd.ready ⟨_,(y.conns.set 0 _).set 0 _,_⟩ 0=_
 rw[List.set_set]
 rfl
theorem q66q {hs:List P.Hst}{y:Yd}{p:Pc}(hc:y.conns[0]?=some (some (.bd p)))(c:UInt8):y.stepP hs 0 c=(y.put 0 (.bd (p.take c))).ready 0:=by
 unfold Yd.stepP
 rw[q39q hc,if_pos rfl]
 unfold Yd.takeP
 rw[hc]
 show Yd.after _ 0 []=_
 unfold Yd.after
 rw[if_pos rfl]
theorem q80q {y:Yd}{p:Pc}(hc:y.conns[0]?=some (some (.bd p)))(h:p.left≠0):y.ready 0=y:=by
 unfold Yd.ready
 rw[hc]
 show(if p.left=0 then _ else y)=y
 rw[if_neg h]
theorem q65q {y:Yd}{p:Pc}(hc:y.conns[0]?=some (some (.bd p)))(h:p.left=0):y.ready 0=(y.put 0 (.hd Rq.zero)).send ⟨1,p.dst,p.data⟩:=by
 unfold Yd.ready
 rw[hc]
 show(if p.left=0 then _ else y)=_
 rw[if_pos h]
def Ru.dat (dst data:List UInt8)(n:Nat):List UInt8:=if dst=[] then data else data++List.replicate n 10
theorem q73q {hs:List P.Hst}(aa:List UInt8):∀(n:Nat) {y:Yd} (ab:List UInt8),y.conns[0]?=some (some (.bd ⟨aa,ab,(n+1:Nat)⟩))->y.fedP hs 0 (List.replicate (n+1) 10)=(y.put 0 (.hd Rq.zero)).send ⟨1,aa,Ru.dat aa ab (n+1)⟩
 | 0,y,ab,hc=>by
  show y.stepP hs 0 10=_
  rw[q66q hc,q65q (q4q _ hc) (by show((0+1:Nat):Int) - 1=0;decide),q57q]
  rfl
 | n+1,y,ab,hc=>by
  have hl:((⟨aa,ab,(n+1+1:Nat)⟩:Pc).take 10).left=(n+1:Nat):=by show((n+1+1:Nat):Int) - 1=_;omega
  rw[List.replicate_succ,q58q,q66q hc,q80q (q4q _ hc) (by rw[hl];omega)]
  have hp:(⟨aa,ab,(n+1+1:Nat)⟩:Pc).take 10=⟨aa,if aa=[] then ab else ab++[10],(n+1:Nat)⟩:=by
   show(⟨aa,if aa=[] then ab else ab++[10],((n+1+1:Nat):Int) - 1⟩:Pc)=_
   congr 1
  rw[hp,q73q aa n _ (q4q _ hc),q57q]
  unfold Ru.dat
  by_cases h:aa=[]
  ·rw[if_pos h,if_pos h,if_pos h]
  ·rw[if_neg h,if_neg h,if_neg h,xY]
   rfl
def Ru.lnB (l:List UInt8)(x:Hd):Bool:=Rq.readOk l && (decide ((Rq.readHd l).1=x.1) && (decide ((Rq.readHd l).2=x.2) && (l.all (fun c=>decide (c≠10)) && (decide (l≠[]) && decide (l.length<=30)))))
def Ru.y (se:List Ev)(h:Rq.Head):Yd:=⟨[],[some (.hd h)],se⟩
theorem q38q {hs:List P.Hst}{se:List Ev}{sz:Nat}{ta:List UInt8}{hd:List Hd}{l:List UInt8}{x:Hd}(h:Ru.lnB l x=true)(hr:Rq.refusal x hd=[])(hz:sz<=400):∃sz',sz'<=sz+32/\(Ru.y se ⟨sz,[],Ru.post,ta,hd⟩).fedP hs 0 (l++Ru.c)=Ru.y se ⟨sz',[],Ru.post,ta,hd++[x]⟩:=by
 unfold Ru.lnB at h
 simp only[Bool.and_eq_true,decide_eq_true_eq] at h
 obtain⟨h1,h2,h3,h4,h5,h6⟩:=h
 exact⟨sz+l.length+2,by omega,q94q rfl (by decide) l x h1 (Prod.ext h2 h3) (fun c hc=>of_decide_eq_true (List.all_eq_true.1 h4 c hc)) h5 hr (by omega)⟩
theorem q113q (hs:List P.Hst)(se:List Ev):∀p,p<6->(Ru.y se Rq.zero).fedP hs 0 (Ru.l0 p++Ru.c)=Ru.y se ⟨(Ru.l0 p).length+2,[],Ru.post,Ru.path p,[]⟩
 | 0,_=>by kernel_rfl
 | 1,_=>by kernel_rfl
 | 2,_=>by kernel_rfl
 | 3,_=>by kernel_rfl
 | 4,_=>by kernel_rfl
 | 5,_=>by kernel_rfl
 | p+6,h=>by omega
theorem zt5:∀p,p<6->(Ru.l0 p).length<=30:=by decide +kernel
theorem q91q:∀h,h<6->Ru.lnB (Ru.l1 h) (Rq.sHost,Ru.host h)=true/\Rq.refusal (Rq.sHost,Ru.host h) []=[]:=by decide +kernel
theorem ztH:∀e,e<4->e≠0->Ru.lnB (Ru.l2 e) (Ru.sEnv,Ru.env e)=true:=by decide +kernel
theorem zsP:Ru.lnB Ru.i1 (Ru.sId,[49])=true/\Ru.lnB Ru.i2 (Ru.sId,[50])=true:=by decide +kernel
theorem q111q:∀n,n<40->n≠0->Ru.lnB (Ru.l5 n) (Rq.sCl,48 :: R.dec n)=true/\(Rq.isNumber (48 :: R.dec n)=true/\Rq.num (48 :: R.dec n)=n):=by decide +kernel
theorem q40q {x:Hd}{l:List Hd}(h0:l.length<12)(h1:x.1≠Rq.sTe)(h2:x.1≠Rq.sCl)(h3:x.1≠Rq.sHost):Rq.refusal x l=[]:=by
 unfold Rq.refusal
 rw[if_neg (by omega),if_neg h1,if_neg h2,if_neg h3]
theorem zt1 (h e d:Nat):(Ru.hd h e d).length<=4:=by
 unfold Ru.hd
 simp only[zW]
 split <;> split <;> simp
theorem q86q (h e d:Nat):Rq.named Rq.sCl (Ru.hd h e d)=[]:=by
 unfold Ru.hd Rq.named
 rw[List.filter_append,List.filter_append]
 split <;> split <;> rfl
theorem ztB {n:Nat}(hn:n<40)(h0:n≠0)(h e d:Nat):Rq.refusal (Rq.sCl,48 :: R.dec n) (Ru.hd h e d)=[]:=by
 have h1:=(q111q n hn h0).2
 have h2:=zt1 h e d
 unfold Rq.refusal
 rw[if_neg (by omega),if_neg (by show ¬Rq.sCl=Rq.sTe;decide),if_pos rfl]
 unfold Rq.lengthRefusal Rq.has
 rw[q86q]
 show(if (decide (0<0) || !Rq.isNumber (48 :: R.dec n))=true then Rq.bad else if 300<Rq.num (48 :: R.dec n) then Rq.tooLarge else [])=[]
 rw[h1.1,h1.2,if_neg (by decide),if_neg (by omega)]
def Ru.clp (n:Nat):List UInt8:=if n=0 then [] else Ru.l5 n++Ru.c
theorem zs6 {hs:List P.Hst}{a:Ak}(ok:a.Ok)(se:List Ev):∃sz,sz<=200/\(Ru.y se Rq.zero).fedP hs 0 (Ru.tx0 a++(Ru.tx1 a++(Ru.tx2 a++Ru.clp a.n)))=Ru.y se ⟨sz,[],Ru.post,Ru.path a.p,Ru.hd a.h a.e a.d++Ru.cl a.n⟩:=by
 have hl:=zt5 a.p ok.p
 obtain⟨z1,ae,e1⟩:=q38q (hs:=hs) (se:=se) (sz:=(Ru.l0 a.p).length+2) (ta:=Ru.path a.p) (hd:=[]) (q91q a.h ok.h).1 (q91q a.h ok.h).2 (by omega)
 have f1:(Ru.y se Rq.zero).fedP hs 0 (Ru.tx0 a)=Ru.y se ⟨z1,[],Ru.post,Ru.path a.p,[(Rq.sHost,Ru.host a.h)]⟩:=by
  unfold Ru.tx0
  rw[zeB,q113q hs se a.p ok.p,e1]
  rfl
 obtain⟨z2,af,f2⟩:∃z2,z2<=z1+32/\(Ru.y se ⟨z1,[],Ru.post,Ru.path a.p,[(Rq.sHost,Ru.host a.h)]⟩).fedP hs 0 (Ru.tx1 a)=Ru.y se ⟨z2,[],Ru.post,Ru.path a.p,[(Rq.sHost,Ru.host a.h)]++(if a.e=0 then [] else [(Ru.sEnv,Ru.env a.e)])⟩:=by
  unfold Ru.tx1
  by_cases h:a.e=0
  ·rw[if_pos h,if_pos h];exact⟨z1,by omega,rfl⟩
  ·rw[if_neg h,if_neg h]
   exact q38q (ztH a.e ok.e h) (q40q (by show 1<12;decide) (by show Ru.sEnv≠_;decide) (by show Ru.sEnv≠_;decide) (by show Ru.sEnv≠_;decide)) (by omega)
 have hq:([(Rq.sHost,Ru.host a.h)]++(if a.e=0 then [] else [(Ru.sEnv,Ru.env a.e)]):List Hd).length<=2:=by split <;> simp
 have aa:Ru.hd a.h a.e a.d=([(Rq.sHost,Ru.host a.h)]++(if a.e=0 then [] else [(Ru.sEnv,Ru.env a.e)]))++(if a.d=1 then [(Ru.sId,[49]),(Ru.sId,[50])] else []):=by unfold Ru.hd;rw[xY]
 generalize([(Rq.sHost,Ru.host a.h)]++(if a.e=0 then [] else [(Ru.sEnv,Ru.env a.e)]):List Hd)=q at*
 obtain⟨z3,ag,f3⟩:∃z3,z3<=z2+64/\(Ru.y se ⟨z2,[],Ru.post,Ru.path a.p,q⟩).fedP hs 0 (Ru.tx2 a)=Ru.y se ⟨z3,[],Ru.post,Ru.path a.p,Ru.hd a.h a.e a.d⟩:=by
  rw[aa]
  unfold Ru.tx2
  by_cases h:a.d=1
  ·rw[if_pos h,if_pos h]
   obtain⟨y1,ab,g1⟩:=q38q (hs:=hs) (se:=se) (sz:=z2) (ta:=Ru.path a.p) (hd:=q) zsP.1 (q40q (by omega) (by show Ru.sId≠_;decide) (by show Ru.sId≠_;decide) (by show Ru.sId≠_;decide)) (by omega)
   obtain⟨y2,ad,g2⟩:=q38q (hs:=hs) (se:=se) (sz:=y1) (ta:=Ru.path a.p) (hd:=q++[(Ru.sId,[49])]) zsP.2 (q40q (by rw[zW];show q.length+1<12;omega) (by show Ru.sId≠_;decide) (by show Ru.sId≠_;decide) (by show Ru.sId≠_;decide)) (by omega)
   refine⟨y2,by omega,?_⟩
   rw[zeB,g1,g2,xY]
   rfl
  ·rw[if_neg h,if_neg h,xn];exact⟨z2,by omega,rfl⟩
 obtain⟨z4,ah,f4⟩:∃z4,z4<=z3+32/\(Ru.y se ⟨z3,[],Ru.post,Ru.path a.p,Ru.hd a.h a.e a.d⟩).fedP hs 0 (Ru.clp a.n)=Ru.y se ⟨z4,[],Ru.post,Ru.path a.p,Ru.hd a.h a.e a.d++Ru.cl a.n⟩:=by
  unfold Ru.clp Ru.cl
  by_cases h:a.n=0
  ·rw[if_pos h,if_pos h,xn];exact⟨z3,by omega,rfl⟩
  ·rw[if_neg h,if_neg h]
   exact q38q (q111q a.n ok.n h).1 (ztB ok.n h _ _ _) (by omega)
 exact⟨z4,by omega,by rw[zeB,f1,zeB,f2,zeB,f3,f4]⟩
def Ru.data (a:Ak):List UInt8:=Rq.line [Ru.post,[32],Ru.path a.p,[32],Rq.sVersion]++Rq.lines (Ru.hd a.h a.e a.d++Ru.cl a.n)++[13,10]
def Ru.to (a:Ak):List UInt8:=Ru.goes a.h a.p a.e a.d
def Ru.ev (a:Ak):Ev:=⟨1,Ru.to a,if Ru.to a=[] then Yd.noRoute else Ru.data a++List.replicate a.n 10⟩
theorem zrC (h e d:Nat)(l:List Hd):Rq.has Rq.sHost (Ru.hd h e d++l)=true:=by
 unfold Rq.has Ru.hd Rq.named
 rw[decide_eq_true_eq,xY,List.filter_append,zW]
 have:([(Rq.sHost,Ru.host h)]:List Hd).filter (fun x=>decide (x.1=Rq.sHost))=[(Rq.sHost,Ru.host h)]:=by rfl
 rw[this]
 simp
 omega
theorem q89q {a:Ak}(ok:a.Ok)(sz:Nat)(me ta:List UInt8):Rq.body ⟨sz,[],me,ta,Ru.hd a.h a.e a.d++Ru.cl a.n⟩=a.n:=by
 unfold Rq.body Rq.value
 show Rq.num (((Rq.named Rq.sCl (Ru.hd a.h a.e a.d++Ru.cl a.n)).head?.map (·.2)).getD [])=_
 have e:Rq.named Rq.sCl (Ru.hd a.h a.e a.d++Ru.cl a.n)=Rq.named Rq.sCl (Ru.cl a.n):=by
  have:=q86q a.h a.e a.d
  unfold Rq.named at this ⊢
  rw[List.filter_append,this,List.nil_append]
 rw[e]
 unfold Ru.cl
 by_cases h:a.n=0
 ·rw[if_pos h,h];rfl
 ·rw[if_neg h]
  exact(q111q a.n ok.n h).2.2
theorem q107q {hs:List P.Hst}{n:List UInt8}{x:P.Hst}(h:Tr.hostOf hs n=some x):x∈hs:=by
 unfold Tr.hostOf Tr.or2 at h
 split at h
 ·rename_i y hy
  cases h
  exact Tr.byKey_mem hy
 ·split at h
  ·rename_i y hy
   cases h
   exact Tr.wild_mem _ _ hy
  ·exact Tr.byKey_mem h
theorem ru_D {a:Ak}(ok:a.Ok)(sz:Nat):Tr.D Ru.hs 0 ⟨sz,[],Ru.post,Ru.path a.p,Ru.hd a.h a.e a.d++Ru.cl a.n⟩=⟨Ru.to a,if Ru.to a=[] then Yd.noRoute else Ru.data a,a.n⟩/\Tr.after Ru.hs [] ⟨sz,[],Ru.post,Ru.path a.p,Ru.hd a.h a.e a.d++Ru.cl a.n⟩=[]:=by
 unfold Tr.D Tr.after
 rcases q122q (q114q q107q ok sz) with ⟨h1,h2⟩ | ⟨r,h1,h2,h3,h4,h5,h6⟩
 ·rw[h1,q89q ok]
  have e:Ru.to a=[]:=h2
  rw[e]
  exact⟨rfl,rfl⟩
 ·rw[h1,q89q ok]
  have e:Ru.to a≠[]:=h2
  rw[if_neg e]
  constructor
  ·show(⟨Tr.target 0 r.tg,Rq.sent _ r,_⟩:Pc)=_
   have e2:Tr.target 0 r.tg=Ru.to a:=by rw[h3];rfl
   have e3:Rq.sent ⟨sz,[],Ru.post,Ru.path a.p,Ru.hd a.h a.e a.d++Ru.cl a.n⟩ r=Ru.data a:=by
    unfold Rq.sent Rq.first Rq.replaced Rq.edited
    rw[h4,h5,h6,if_pos rfl]
    rfl
   rw[e2,e3]
  ·show Tr.left [] r.tg=[]
   rw[h3];rfl
theorem ztM (a:Ak):Ru.tx3 a=Ru.clp a.n++(Ru.c++List.replicate a.n 10):=by
 unfold Ru.tx3 Ru.clp
 by_cases h:a.n=0
 ·rw[if_pos h,if_pos h,h];rfl
 ·rw[if_neg h,if_neg h]
theorem ztG {a:Ak}(ok:a.Ok)(se:List Ev):(Ru.y se Rq.zero).fedP Ru.hs 0 (Ru.txt a)=Ru.y (se++[Ru.ev a]) Rq.zero:=by
 obtain⟨sz,hz,e1⟩:=zs6 (hs:=Ru.hs) ok se
 have et:Ru.txt a=(Ru.tx0 a++(Ru.tx1 a++(Ru.tx2 a++Ru.clp a.n)))++(Ru.c++List.replicate a.n 10):=by
  unfold Ru.txt
  rw[ztM]
  simp only[xY]
 obtain⟨d1,d2⟩:=ru_D ok (sz+2)
 rw[et,zeB,e1,zeB,q93q (y:=Ru.y se _) rfl (by decide) (zrC _ _ _ _) (by omega)]
 have e2:(Ru.y se ⟨sz,[],Ru.post,Ru.path a.p,Ru.hd a.h a.e a.d++Ru.cl a.n⟩).draws=[]:=rfl
 rw[e2,d2]
 show Yd.fedP Ru.hs (Yd.ready ⟨[],[some (.bd (Tr.D Ru.hs 0 _))],se⟩ 0) 0 _=_
 rw[d1]
 by_cases h:a.n=0
 ·rw[q65q (p:=⟨Ru.to a,if Ru.to a=[] then Yd.noRoute else Ru.data a,a.n⟩) rfl (by show((a.n:Nat):Int)=0;omega),h]
  unfold Ru.ev
  rw[h]
  show(⟨[],[some (.hd Rq.zero)],se++[⟨1,Ru.to a,_⟩]⟩:Yd)=⟨[],[some (.hd Rq.zero)],se++[⟨1,Ru.to a,_⟩]⟩
  rw[List.replicate_zero,xn]
 ·obtain⟨n,hn⟩:∃n,a.n=n+1:=⟨a.n - 1,by omega⟩
  rw[q80q (p:=⟨Ru.to a,if Ru.to a=[] then Yd.noRoute else Ru.data a,a.n⟩) rfl (by show ¬((a.n:Nat):Int)=0;omega)]
  unfold Ru.ev
  rw[hn,q73q (Ru.to a) n _ rfl]
  unfold Ru.dat
  by_cases h2:Ru.to a=[]
  ·rw[if_pos h2,if_pos h2,if_pos h2];rfl
  ·rw[if_neg h2,if_neg h2,if_neg h2];rfl
def Ru.txts (l:List Ak):List UInt8:=(l.map Ru.txt).flatten
theorem q88q:∀(l:List Ak) (se:List Ev),(∀a∈l,a.Ok)->(Ru.y se Rq.zero).fedP Ru.hs 0 (Ru.txts l)=Ru.y (se++l.map Ru.ev) Rq.zero
 | [],se,_=>by rw[List.map_nil,xn];rfl
 | a :: l,se,h=>by
  show(Ru.y se Rq.zero).fedP Ru.hs 0 (Ru.txt a++Ru.txts l)=_
  rw[zeB,ztG (h a List.mem_cons_self),q88q l _ (fun x hx=>h x (List.mem_cons_of_mem _ hx)),xi,xY]
  rfl
def Yd.plus (y:Yd)(se:List Ev):Yd:=⟨y.draws,y.conns,se++y.sent⟩
theorem q84q (y:Yd)(se:List Ev)(m:Nat):(y.plus se).ready m=(y.ready m).plus se:=by
 unfold Yd.ready
 have e:(y.plus se).conns=y.conns:=rfl
 rw[e]
 cases y.conns[m]? with
 | none=>rfl
 | some o=>
  cases o with
  | none=>rfl
  | some c=>
   cases c with
   | hd q=>rfl
   | bd p=>
    show(if p.left=0 then _ else _)=Yd.plus (if p.left=0 then _ else _) se
    by_cases h:p.left=0
    ·rw[if_pos h,if_pos h]
     unfold Yd.plus Yd.put Yd.send
     simp only[xY]
    ·rw[if_neg h,if_neg h]
theorem q13q (y:Yd)(se:List Ev)(m:Nat)(r:List UInt8):(y.plus se).after m r=(y.after m r).plus se:=by
 unfold Yd.after
 split
 ·exact q84q y se m
 ·unfold Yd.plus Yd.send Yd.ended
  simp only[xY]
theorem q100q (hs:List P.Hst)(y:Yd)(se:List Ev)(m:Nat)(c:UInt8):(y.plus se).stepP hs m c=(y.stepP hs m c).plus se:=by
 unfold Yd.stepP
 have e:(y.plus se).isOpen (m+1:Nat)=y.isOpen (m+1:Nat):=rfl
 rw[e]
 by_cases ho:y.isOpen (m+1:Nat)=true
 ·rw[if_pos ho,if_pos ho]
  unfold Yd.takeP
  have e:(y.plus se).conns=y.conns:=rfl
  rw[e]
  cases y.conns[m]? with
  | none=>rfl
  | some o=>
   cases o with
   | none=>rfl
   | some k=>
    cases k with
    | hd q=>
     show(if (Rq.take q c).2=(true,[]) then _ else _)=Yd.plus (if (Rq.take q c).2=(true,[]) then _ else _) se
     by_cases h:(Rq.take q c).2=(true,[])
     ·rw[if_pos h,if_pos h]
      exact q13q ⟨Tr.after hs y.draws (Rq.take q c).1,y.conns.set m (some (.bd (Tr.D hs (y.draws.headD 0) (Rq.take q c).1))),y.sent⟩ se m []
     ·rw[if_neg h,if_neg h]
      exact q13q (y.put m (.hd (Rq.take q c).1)) se m _
    | bd p=>exact q13q (y.put m (.bd (p.take c))) se m []
 ·rw[if_neg ho,if_neg ho]
theorem q76q (hs:List P.Hst)(se:List Ev)(m:Nat):∀(l:List UInt8) (y:Yd),(y.plus se).fedP hs m l=(y.fedP hs m l).plus se
 | [],_=>rfl
 | c :: l,y=>by
  show Yd.fedP hs ((y.plus se).stepP hs m c) m l=_
  rw[q100q,q76q hs se m l]
  rfl
theorem q119q (hs:List P.Hst)(m:Nat)(y:Yd)(l:List UInt8):y.fedP hs m l=(y.told.fedP hs m l).plus y.sent:=by
 rw[<-q76q]
 congr 1
 unfold Yd.plus Yd.told
 simp
theorem q5q (p:Nat):1<=(Ru.path p).length/\(Ru.path p).length<=6:=by
 unfold Ru.path
 split <;> decide
theorem zs2 (a:Ak):(Ru.data a).length ≥ 20/\(Ru.data a).take (5+(Ru.path a.p).length)=Ru.pre++Ru.path a.p:=by
 have h1:=q5q a.p
 have e:Ru.data a=(Ru.pre++Ru.path a.p)++([32]++Rq.sVersion++[13,10]++Rq.lines (Ru.hd a.h a.e a.d++Ru.cl a.n)++[13,10]):=by
  unfold Ru.data Rq.line Ru.pre Ru.post
  simp
 have l1:(Ru.pre++Ru.path a.p).length=5+(Ru.path a.p).length:=by rw[zW];rfl
 constructor
 ·rw[e,zW,l1]
  simp only[zW]
  have h8:Rq.sVersion.length=8:=rfl
  have h9:4<=(Rq.lines (Ru.hd a.h a.e a.d++Ru.cl a.n)).length:=by
   unfold Ru.hd
   show 4<=(Rq.line [Rq.sHost,[58,32],Rq.sentValue (Rq.sHost,Ru.host a.h)]++Rq.lines _).length
   unfold Rq.line
   rw[zW,zW,xP,zW]
   have:Rq.sHost.length=4:=rfl
   omega
  simp only[zm,qi]
  omega
 ·rw[e,<-l1,List.take_left']
  rfl
structure Stx (w:World) (yb:Nat) (ps:List (Option Nat)) (b:Nat) (s:List UInt8):Prop where
 cell:w.cell? ⟨b,1,none⟩=some (.string (R.str s))
 ap:¬YF w yb ps b
 lt:b<w.heap.size
theorem q2q (a b:List UInt8):R.str a++R.str b=R.str (a++b):=by
 apply zjA
 rw[q71q,R.str_toList,R.str_toList,R.str_toList]
theorem q14q:∀(os:List Obj) (w:World),w.grownBy (os.foldl World.alloc w) none
 | [],_=>zM _ _
 | o :: os,w=>zA (zJ w o none) (q14q os (w.alloc o))
theorem q1q:∀(os:List Obj) (w:World) (i:Nat) (o:Obj),os[i]?=some o->(os.foldl World.alloc w).heap[w.heap.size+i]?=some o
 | [],_,_,_,h=>by simp at h
 | a :: os,w,0,o,h=>by
  have e:a=o:=by simpa using h
  subst e
  have hb:(w.alloc a).heap[w.heap.size]?=some a:=heap_alloc_new w a
  have:=(q14q os (w.alloc a)).block w.heap.size (by simp) (by simp)
  exact this.trans hb
 | a :: os,w,i+1,o,h=>by
  have h1:=q1q os (w.alloc a) i o (by simpa using h)
  have e:(w.alloc a).heap.size+i=w.heap.size+(i+1):=by simp;omega
  rw[e] at h1
  exact h1
end Go.Proofs.YtfocdefchbnkpaaGreatDoor
