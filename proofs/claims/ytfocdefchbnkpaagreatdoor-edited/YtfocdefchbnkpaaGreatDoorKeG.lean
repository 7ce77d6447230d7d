/- What is no request is refused: the plain part. -/
import Derived.Test.YtfocdefchbnkpaaGreatDoorAli
import Derived.Test.YtfocdefchbnkpaaGreatDoorYpF
set_option maxRecDepth 100000
set_option maxHeartbeats 20000000
namespace Go.Proofs.YtfocdefchbnkpaaGreatDoor
open Go.RowKit
theorem q46q {y:Yd}{m:Nat}{c:Cn}(h:y.conns[m]?=some (some c)):y.isOpen (m+1:Nat)=true:=by
 have hl:=(List.getElem?_eq_some_iff.1 h).1
 unfold Yd.isOpen
 have e:(((m+1:Nat):Int) - 1).toNat=m:=by omega
 rw[e,h]
 simp only[Bool.and_true]
 rw[decide_eq_true (by omega),decide_eq_true (by omega)];rfl
theorem q74q {y:Yd}{m:Nat}{c:Cn}(h:y.conns[m]?=some (some c)):y.put m c=y:=by
 obtain⟨hl,e⟩:=List.getElem?_eq_some_iff.1 h
 unfold Yd.put
 rw[<-e,List.set_getElem_self]
theorem q12q (y:Yd)(m:Nat)(a b:Cn):(y.put m a).put m b=y.put m b:=by
 unfold Yd.put;simp only[List.set_set]
theorem q7q {y:Yd}{m:Nat}{c:Cn}(a:Cn)(h:y.conns[m]?=some (some c)):(y.put m a).conns[m]?=some (some a):=by
 show(y.conns.set m _)[m]?=_
 rw[List.getElem?_set_self (List.getElem?_eq_some_iff.1 h).1]
theorem q48q {hs:List P.Hst}{y:Yd}{m:Nat}{c:UInt8}{h h':Rq.Head}(hc:y.conns[m]?=some (some (.hd h)))(ht:Rq.take h c=(h',false,[])):y.stepP hs m c=y.put m (.hd h'):=by
 unfold Yd.stepP
 rw[q46q hc,if_pos rfl]
 unfold Yd.takeP
 rw[hc]
 simp only[ht]
 rw[if_neg (by simp)]
 unfold Yd.after
 rw[if_pos rfl]
 unfold Yd.ready
 rw[q7q _ hc]
theorem q100q {h:Rq.Head}{c:UInt8}(hc:c≠10)(hs:h.size+1<=600):Rq.take h c=({ h with size:=h.size+1,line:=h.line++[c] },false,[]):=by
 unfold Rq.take
 rw[if_neg (by omega),if_neg hc]
theorem q68q (hs:List P.Hst)(y:Yd)(m:Nat)(c:UInt8)(l:List UInt8):y.fedP hs m (c :: l)=(y.stepP hs m c).fedP hs m l:=rfl
theorem q69q {hs:List P.Hst}{m:Nat}:∀(l:List UInt8) {y:Yd} {h:Rq.Head},y.conns[m]?=some (some (.hd h))->(∀c∈l,c≠10)->h.size+l.length<=600->y.fedP hs m l=y.put m (.hd { h with size:=h.size+l.length,line:=h.line++l })
 | [],y,h,hc,_,_=>by
  have e:({ h with size:=h.size+([]:List UInt8).length,line:=h.line++[] }:Rq.Head)=h:=by cases h;simp
  rw[e,q74q hc];rfl
 | c :: l,y,h,hc,hn,hl=>by
  have aa:h.size+(l.length+1)<=600:=hl
  have h1:=q48q (hs:=hs) hc (q100q (hn c List.mem_cons_self) (by omega))
  rw[q68q,h1,q69q l (q7q _ hc) (fun x hx=>hn x (List.mem_cons_of_mem _ hx)) (by show h.size+1+l.length<=600;omega),q12q]
  congr 2
  simp only[Rq.Head.mk.injEq,xY,List.cons_append,List.nil_append,zm,and_true]
  omega
theorem q45q {hs:List P.Hst}{m:Nat}(l:List UInt8){y:Yd}{sz:Nat}{ln me ta:List UInt8}{hd:List Hd}(hc:y.conns[m]?=some (some (.hd ⟨sz,ln,me,ta,hd⟩)))(hn:∀c∈l,c≠10)(hl:sz+l.length<=600):y.fedP hs m l=y.put m (.hd ⟨sz+l.length,ln++l,me,ta,hd⟩):=q69q l hc hn hl
theorem q134q (l:List UInt8)(c:UInt8):Rq.unend (l++[c]) c=(l,true):=by
 unfold Rq.unend
 rw[if_pos (by unfold Lib.hasSuffix;simp)]
 simp
def Ed.nm (n:Nat):List UInt8:=[UInt8.ofNat (97+n)]
def Ed.ln (n i:Nat):List UInt8:=Ed.nm n++[58]++R.dec i
def Ed.hds:Nat->List Nat->List Hd
 | _,[]=>[]
 | j,n :: ns=>(Ed.nm n,R.dec j) :: Ed.hds (j+1) ns
def Ed.txt:Nat->List Nat->List UInt8
 | _,[]=>[]
 | j,n :: ns=>Ed.ln n j++[13,10]++Ed.txt (j+1) ns
def Ed.lnB (n i:Nat):Bool:=Rq.readOk (Ed.ln n i) && (decide ((Rq.readHd (Ed.ln n i)).1=Ed.nm n) && (decide ((Rq.readHd (Ed.ln n i)).2=R.dec i) && ((Ed.ln n i).all (fun c=>decide (c≠10)) && (decide ((Ed.ln n i).length<=4) && (decide (Ed.ln n i≠[]) && (decide (Ed.nm n≠Rq.sTe) && (decide (Ed.nm n≠Rq.sCl) && decide (Ed.nm n≠Rq.sHost))))))))
theorem q113q:∀n,n<3->∀i,i<11->Ed.lnB n i=true:=by decide +kernel
theorem q51q (n:Nat)(hn:n<3)(i:Nat)(hi:i<11):Rq.readOk (Ed.ln n i)=true/\Rq.readHd (Ed.ln n i)=(Ed.nm n,R.dec i)/\(∀c∈Ed.ln n i,c≠10)/\(Ed.ln n i).length<=4/\Ed.ln n i≠[]/\Ed.nm n≠Rq.sTe/\Ed.nm n≠Rq.sCl/\Ed.nm n≠Rq.sHost:=by
 have h:=q113q n hn i hi
 unfold Ed.lnB at h
 simp only[Bool.and_eq_true,decide_eq_true_eq] at h
 obtain⟨h1,h2,h3,h4,h5⟩:=h
 exact⟨h1,Prod.ext h2 h3,fun c hc=>of_decide_eq_true (List.all_eq_true.1 h4 c hc),h5⟩
theorem q128q {hs:List P.Hst}{m:Nat}{y:Yd}{sz:Nat}{me ta:List UInt8}{hd:List Hd}(hc:y.conns[m]?=some (some (.hd ⟨sz,[],me,ta,hd⟩)))(ab:me≠[])(n i:Nat)(hn:n<3)(hi:i<11)(hl:hd.length<12)(ad:sz+6<=600) :
  y.fedP hs m (Ed.ln n i++[13,10])=y.put m (.hd ⟨sz+(Ed.ln n i).length+2,[],me,ta,hd++[(Ed.nm n,R.dec i)]⟩):=by
 obtain⟨h1,h2,h3,h4,h5,h6,h7,h8⟩:=q51q n hn i hi
 generalize Ed.ln n i=l at*
 have e:l++[13,10]=(l++[13])++[10]:=by simp
 have aa:(l++[13]).length=l.length+1:=by simp
 rw[e,zeB,q45q (l++[13]) hc (fun c hc=>by
  rcases List.mem_append.1 hc with q | q
  ·exact h3 c q
  ·simp at q;rw[q];decide) (by rw[aa];omega),q68q]
 have ht:Rq.take (⟨sz+(l++[13]).length,[]++(l++[13]),me,ta,hd⟩:Rq.Head) 10=(⟨sz+l.length+2,[],me,ta,hd++[(Ed.nm n,R.dec i)]⟩,false,[]):=by
  unfold Rq.take
  rw[if_neg (by rw[aa];show ¬600<sz+(l.length+1)+1;omega),if_pos rfl]
  unfold Rq.look
  have hu:Rq.unend ([]++(l++[13])) 13=(l,true):=by rw[List.nil_append];exact q134q l 13
  simp only[hu]
  rw[if_pos trivial,if_neg ab,if_neg h5]
  unfold Rq.add Rq.addOut
  rw[if_pos h1,if_pos h1,h2]
  have hr:Rq.refusal (Ed.nm n,R.dec i) hd=[]:=by
   unfold Rq.refusal
   rw[if_neg (by omega),if_neg h6,if_neg h7,if_neg h8]
  show(({ size:=sz+(l++[13]).length+1,line:=[],method:=me,target:=ta,headers:=hd++[(Ed.nm n,R.dec i)] }:Rq.Head),false,Rq.refusal (Ed.nm n,R.dec i) hd)=_
  rw[hr,aa]
  congr 2
 rw[q48q (q7q _ hc) ht,q12q]
 rfl
theorem q5q {hs:List P.Hst}{m:Nat}{me ta:List UInt8}(ab:me≠[]):∀(ns:List Nat) (j:Nat) {y:Yd} {sz:Nat} {hd:List Hd},y.conns[m]?=some (some (.hd ⟨sz,[],me,ta,hd⟩))->(∀n∈ns,n<3)->j+ns.length<=11->hd.length+ns.length<=12->sz+6*ns.length<=590->∃aa,aa<=sz+6*ns.length/\y.fedP hs m (Ed.txt j ns)=y.put m (.hd ⟨aa,[],me,ta,hd++Ed.hds j ns⟩)
 | [],j,y,sz,hd,hc,_,_,_,_=>⟨sz,by omega,by
  rw[Ed.hds,xn,q74q hc];rfl⟩
 | n :: ns,j,y,sz,hd,hc,hn,hj,hl,hs6=>by
  have ad:j+(ns.length+1)<=11:=hj
  have ae:hd.length+(ns.length+1)<=12:=hl
  have ag:sz+6*(ns.length+1)<=590:=hs6
  have af:=(q51q n (hn n List.mem_cons_self) j (by omega)).2.2.2.1
  have h1:=q128q (hs:=hs) hc ab n j (hn n List.mem_cons_self) (by omega) (by omega) (by omega)
  obtain⟨aa,h2,h3⟩:=q5q (hs:=hs) ab ns (j+1) (q7q (.hd ⟨sz+(Ed.ln n j).length+2,[],me,ta,hd++[(Ed.nm n,R.dec j)]⟩) hc) (fun x hx=>hn x (List.mem_cons_of_mem _ hx)) (by omega) (by rw[zW];show hd.length+1+_<=12;omega) (by omega)
  refine⟨aa,by rw[zm];omega,?_⟩
  rw[Ed.txt,zeB,h1,h3,q12q,Ed.hds,xY]
  rfl
theorem q19q {hs:List P.Hst}{y:Yd}{sz:Nat}{me ta:List UInt8}{hd:List Hd}(hc:y.conns[0]?=some (some (.hd ⟨sz,[],me,ta,hd⟩)))(ab:me≠[])(hh:Rq.has Rq.sHost hd=true)(ad:sz+2<=600)(hb:Rq.value Rq.sCl hd=[]){r:P.Rl}(hf:Tr.find hs ⟨sz+2,[],me,ta,hd⟩=some r) :
  (y.fedP hs 0 [13,10]).sent=y.sent++[⟨1,Tr.target (y.draws.headD 0) r.tg,Rq.sent ⟨sz+2,[],me,ta,hd⟩ r⟩]:=by
 have e:([13,10]:List UInt8)=[13]++[10]:=rfl
 rw[e,zeB,q45q [13] hc (fun c hc=>by simp at hc;rw[hc];decide) (by show sz+1<=600;omega)]
 have ht:Rq.take (⟨sz+[(13:UInt8)].length,[]++[13],me,ta,hd⟩:Rq.Head) 10=(⟨sz+2,[],me,ta,hd⟩,true,[]):=by
  unfold Rq.take
  rw[if_neg (by show ¬600<sz+1+1;omega),if_pos rfl]
  unfold Rq.look
  have hu:Rq.unend ([]++[13]) 13=([],true):=by decide
  simp only[hu]
  rw[if_pos trivial,if_neg ab,if_pos trivial,hh]
  rfl
 have aa:Rq.body ⟨sz+2,[],me,ta,hd⟩=0:=by unfold Rq.body;show Rq.num (Rq.value Rq.sCl hd)=0;rw[hb];rfl
 have hl:=(List.getElem?_eq_some_iff.1 hc).1
 show(Yd.stepP hs _ 0 10).sent=_
 unfold Yd.stepP
 rw[q46q (q7q _ hc),if_pos rfl]
 unfold Yd.takeP
 rw[q7q _ hc]
 simp only[ht]
 rw[if_pos trivial]
 unfold Yd.after
 rw[if_pos rfl]
 unfold Yd.ready
 have hD:Tr.D hs (y.draws.headD 0) ⟨sz+2,[],me,ta,hd⟩=⟨Tr.target (y.draws.headD 0) r.tg,Rq.sent ⟨sz+2,[],me,ta,hd⟩ r,0⟩:=by
  unfold Tr.D;rw[hf,aa]
 have hg:((y.put 0 (.hd ⟨sz+[(13:UInt8)].length,[]++[13],me,ta,hd⟩)).conns.set 0 (some (.bd (Tr.D hs ((y.put 0 (.hd ⟨sz+[(13:UInt8)].length,[]++[13],me,ta,hd⟩)).draws.headD 0) ⟨sz+2,[],me,ta,hd⟩))))[0]?=some (some (.bd ⟨Tr.target (y.draws.headD 0) r.tg,Rq.sent ⟨sz+2,[],me,ta,hd⟩ r,0⟩)):=by
  rw[List.getElem?_set_self (by show 0<(y.conns.set 0 _).length;rw[List.length_set];exact hl)]
  show some (some (Cn.bd (Tr.D hs (y.draws.headD 0) _)))=_
  rw[hD]
 simp only[hg]
 rfl
theorem q3q (nx:Hd):∀(a b:List Hd) (t:Bool),Rq.withK nx (a++b) t=Rq.withK nx a t++Rq.withK nx b (t || Rq.has1 nx a)
 | [],b,t=>by unfold Rq.has1;simp[Rq.withK]
 | x :: a,b,t=>by
  have hh:Rq.has1 nx (x :: a)=(decide (x.1=nx.1) || Rq.has1 nx a):=rfl
  rw[List.cons_append,Rq.withK,Rq.withK,hh]
  by_cases e:x.1=nx.1
  ·rw[if_pos e,if_pos e,decide_eq_true e]
   cases t
   ·rw[if_neg (by decide),if_neg (by decide),q3q nx a b true]
    simp
   ·rw[if_pos rfl,if_pos rfl,q3q nx a b true]
    simp
  ·rw[if_neg e,if_neg e,decide_eq_false e,q3q nx a b t]
   simp
theorem q16q (nx:Hd)(a b:List Hd):Rq.has1 nx (a++b)=(Rq.has1 nx a || Rq.has1 nx b):=by unfold Rq.has1;rw[List.any_append]
theorem q14q (nx:Hd)(nm:List UInt8)(h:nx.1≠nm):∀l:List Hd,Rq.has1 nx (Rq.without nm l)=Rq.has1 nx l
 | []=>rfl
 | x :: l=>by
  have ih:=q14q nx nm h l
  have hh:Rq.has1 nx (x :: l)=(decide (x.1=nx.1) || Rq.has1 nx l):=rfl
  unfold Rq.without at ih ⊢
  rw[List.filter_cons]
  by_cases e:x.1=nm
  ·rw[if_neg (by simp[e]),ih,hh,decide_eq_false (by rw[e];exact fun c=>h c.symm)];rfl
  ·rw[if_pos (by simp[e])]
   show(decide (x.1=nx.1) || Rq.has1 nx _)=_
   rw[ih,hh]
theorem q4q (nx s:Hd)(h:nx.1≠s.1):∀(l:List Hd) (t:Bool),Rq.has1 nx (Rq.withK s l t)=Rq.has1 nx l
 | [],_=>rfl
 | x :: l,t=>by
  have hh:Rq.has1 nx (x :: l)=(decide (x.1=nx.1) || Rq.has1 nx l):=rfl
  rw[Rq.withK]
  by_cases e:x.1=s.1
  ·have hx:decide (x.1=nx.1)=false:=decide_eq_false (by rw[e];exact fun c=>h c.symm)
   rw[if_pos e]
   cases t
   ·rw[if_neg (by decide)]
    show(decide (s.1=nx.1) || Rq.has1 nx _)=_
    rw[q4q nx s h l true,hh,hx,decide_eq_false (fun c=>h c.symm)]
   ·rw[if_pos rfl,q4q nx s h l true,hh,hx];rfl
  ·rw[if_neg e]
   show(decide (x.1=nx.1) || Rq.has1 nx _)=_
   rw[q4q nx s h l t,hh]
theorem q20q (nm:List UInt8)(a b:List Hd):Rq.without nm (a++b)=Rq.without nm a++Rq.without nm b:=List.filter_append _ _
theorem q10q (a b:List Hd):Rq.lines (a++b)=Rq.lines a++Rq.lines b:=by unfold Rq.lines;rw[xy,jt]
theorem q70q (n:Nat):∀(ns:List Nat) (j:Nat),Ed.hds j (ns++[n])=Ed.hds j ns++[(Ed.nm n,R.dec (j+ns.length))]
 | [],j=>rfl
 | a :: ns,j=>by
  rw[List.cons_append,Ed.hds,Ed.hds,q70q n ns (j+1),zm]
  have e:j+1+ns.length=j+(ns.length+1):=by omega
  rw[e];rfl
def Ed.piece (n:Nat)(v:List UInt8):List UInt8:=Ed.nm n++[58,32]++v++[13,10]
def Ed.step (dr:Nat->Bool)(se:Nat->List UInt8)(s:List UInt8×(Nat->Bool)×Nat)(n:Nat):List UInt8×(Nat->Bool)×Nat:=
 if dr n then (s.1,s.2.1,s.2.2+1)
 else if se n=[] then (s.1++Ed.piece n (R.dec s.2.2),s.2.1,s.2.2+1)
 else if s.2.1 n then (s.1,s.2.1,s.2.2+1)
 else (s.1++Ed.piece n (se n),fun x=>if x=n then true else s.2.1 x,s.2.2+1)
def Ed.run (dr:Nat->Bool)(se:Nat->List UInt8)(ns:List Nat):List UInt8×(Nat->Bool)×Nat:=ns.foldl (Ed.step dr se) ([],(fun _=>false),0)
theorem q130q (dr:Nat->Bool)(se:Nat->List UInt8)(ns:List Nat)(n:Nat):Ed.run dr se (ns++[n])=Ed.step dr se (Ed.run dr se ns) n:=by unfold Ed.run;rw[List.foldl_append];rfl
def Ed.F (ss:List Hd)(ds:List (List UInt8))(l:List Hd):List Hd:=ss.foldl (fun l s=>Rq.withK s l false) (Rq.dropK ds l)
structure Ed.Inv (dr:Nat->Bool) (se:Nat->List UInt8) (ss:List Hd) (ds:List (List UInt8)) (pre:List Nat) (s:List UInt8×(Nat->Bool)×Nat):Prop where
 cnt:s.2.2=pre.length
 txt:s.1=Rq.lines (Ed.F ss ds (Ed.hds 0 pre))
 has:∀n,n<3->se n≠[]->s.2.1 n=Rq.has1 (Ed.nm n,se n) (Ed.hds 0 pre)
theorem q89q {dr:Nat->Bool}{se:Nat->List UInt8}{ss:List Hd}{ds:List (List UInt8)}(ab:∀aa s n,n<3->aa.length<11->Ed.Inv dr se ss ds aa s->Ed.Inv dr se ss ds (aa++[n]) (Ed.step dr se s n)):∀(ns aa:List Nat) (s:List UInt8×(Nat->Bool)×Nat),(∀n∈ns,n<3)->aa.length+ns.length<=11->Ed.Inv dr se ss ds aa s->Ed.Inv dr se ss ds (aa++ns) (ns.foldl (Ed.step dr se) s)
 | [],aa,s,_,_,h=>by rw[xn];exact h
 | n :: ns,aa,s,hn,hl,h=>by
  have ad:aa.length+(ns.length+1)<=11:=hl
  have h1:=ab aa s n (hn n List.mem_cons_self) (by omega) h
  have h2:=q89q ab ns (aa++[n]) _ (fun x hx=>hn x (List.mem_cons_of_mem _ hx)) (by rw[zW];show aa.length+1+_<=11;omega) h1
  rw[xY] at h2
  exact h2
theorem zt6:∀n,n<3->∀v:List UInt8,Rq.ln (Ed.nm n,v)=Ed.piece n v
 | 0,_,v=>by unfold Rq.ln Ed.piece;simp[Rq.line,Rq.sentValue,Ed.nm,Rq.sHost,Rq.sCl]
 | 1,_,v=>by unfold Rq.ln Ed.piece;simp[Rq.line,Rq.sentValue,Ed.nm,Rq.sHost,Rq.sCl]
 | 2,_,v=>by unfold Rq.ln Ed.piece;simp[Rq.line,Rq.sentValue,Ed.nm,Rq.sHost,Rq.sCl]
 | n+3,h,_=>by omega
theorem q47q (x:Hd):Rq.lines [x]=Rq.ln x:=by unfold Rq.lines;simp
def Ed.G (ss l:List Hd):List Hd:=ss.foldl (fun l s=>Rq.withK s l false) l
theorem q49q (s x:Hd)(t:Bool)(h:x.1≠s.1):Rq.withK s [x] t=[x]:=by rw[Rq.withK,if_neg h];rfl
theorem q50q:∀(ss l:List Hd) (x:Hd),(∀s∈ss,x.1≠s.1)->Ed.G ss (l++[x])=Ed.G ss l++[x]
 | [],_,_,_=>rfl
 | s :: ss,l,x,h=>by
  show Ed.G ss (Rq.withK s (l++[x]) false)=Ed.G ss (Rq.withK s l false)++[x]
  rw[q3q,q49q s x _ (h s List.mem_cons_self),q50q ss _ x (fun z hz=>h z (List.mem_cons_of_mem _ hz))]
theorem q79q:∀(ss l:List Hd) (x s:Hd),(ss.map Prod.fst).Pairwise (·≠·)->s∈ss->x.1=s.1->Ed.G ss (l++[x])=Ed.G ss l++(if Rq.has1 s l=true then [] else [s])
 | [],_,_,_,_,h,_=>by cases h
 | s0 :: ss,l,x,s,hp,hs,hx=>by
  rw[xi,List.pairwise_cons] at hp
  show Ed.G ss (Rq.withK s0 (l++[x]) false)=Ed.G ss (Rq.withK s0 l false)++_
  rw[q3q,Bool.false_or]
  rcases List.mem_cons.1 hs with e | hs
  ·subst e
   rw[Rq.withK,if_pos hx]
   cases hh:Rq.has1 s l
   ·rw[if_neg (by decide),if_neg (by decide)]
    exact q50q ss _ s (fun z hz=>hp.1 z.1 (List.mem_map.2 ⟨z,hz,rfl⟩))
   ·rw[if_pos rfl,if_pos rfl]
    show Ed.G ss (_++[])=_
    rw[xn,xn]
  ·have aa:s.1≠s0.1:=fun e=>hp.1 s.1 (List.mem_map.2 ⟨s,hs,rfl⟩) e.symm
   rw[q49q s0 x _ (by rw[hx];exact aa),q79q ss _ x s hp.2 hs hx,q4q s s0 aa]
theorem q9q:∀(ds:List (List UInt8)) (l:List Hd) (x:Hd),Rq.dropK ds (l++[x])=Rq.dropK ds l++(if x.1∈ds then [] else [x])
 | [],l,x=>by rw[if_neg (by simp)];rfl
 | d :: ds,l,x=>by
  show Rq.dropK ds (Rq.without d (l++[x]))=Rq.dropK ds (Rq.without d l)++_
  rw[q20q]
  by_cases e:x.1=d
  ·have e1:Rq.without d [x]=[]:=by unfold Rq.without;simp[e]
   rw[e1,xn,if_pos (by rw[e];exact List.mem_cons_self),xn]
  ·have e1:Rq.without d [x]=[x]:=by unfold Rq.without;simp[e]
   rw[e1,q9q ds _ x]
   by_cases e2:x.1∈ds
   ·rw[if_pos e2,if_pos (List.mem_cons_of_mem _ e2)]
   ·rw[if_neg e2,if_neg (by intro h;rcases List.mem_cons.1 h with q | q;exact e q;exact e2 q)]
theorem q13q (s:Hd):∀(ds:List (List UInt8)) (l:List Hd),s.1 ∉ ds->Rq.has1 s (Rq.dropK ds l)=Rq.has1 s l
 | [],_,_=>rfl
 | d :: ds,l,h=>by
  show Rq.has1 s (Rq.dropK ds (Rq.without d l))=_
  rw[q13q s ds _ (fun c=>h (List.mem_cons_of_mem _ c)),q14q s d (fun c=>h (by rw[c];exact List.mem_cons_self))]
theorem F_G (ss:List Hd)(ds:List (List UInt8))(l:List Hd):Ed.F ss ds l=Ed.G ss (Rq.dropK ds l):=rfl
structure Ed.Fit (dr:Nat->Bool) (se:Nat->List UInt8) (ss:List Hd) (ds:List (List UInt8)):Prop where
 hdr:∀n,n<3->(dr n=true↔Ed.nm n∈ds)
 hse:∀n,n<3->dr n=false->se n≠[]->(Ed.nm n,se n)∈ss
 no:∀n,n<3->se n=[]->∀s∈ss,Ed.nm n≠s.1
 pw:(ss.map Prod.fst).Pairwise (·≠·)
 off:∀s∈ss,s.1 ∉ ds
 un:∀n,n<3->dr n=true->se n=[]
theorem ztQ:∀n,n<3->∀m,m<3->Ed.nm n=Ed.nm m->n=m:=by decide
theorem Ed.Fit.step {dr:Nat->Bool}{se:Nat->List UInt8}{ss:List Hd}{ds:List (List UInt8)}(hf:Ed.Fit dr se ss ds)(aa:List Nat)(s:List UInt8×(Nat->Bool)×Nat)(n:Nat)(hn:n<3)(_:aa.length<11)(h:Ed.Inv dr se ss ds aa s):Ed.Inv dr se ss ds (aa++[n]) (Ed.step dr se s n):=by
 have ag:Ed.hds 0 (aa++[n])=Ed.hds 0 aa++[(Ed.nm n,R.dec aa.length)]:=by rw[q70q,Nat.zero_add]
 have af:(aa++[n]).length=aa.length+1:=by simp
 have ae:∀m,m<3->Rq.has1 (Ed.nm m,se m) (Ed.hds 0 (aa++[n]))=(Rq.has1 (Ed.nm m,se m) (Ed.hds 0 aa) || decide (n=m)):=fun m hm=>by
  rw[ag,q16q]
  congr 1
  show(decide (Ed.nm n=Ed.nm m) || false)=_
  rw[Bool.or_false]
  by_cases e:n=m
  ·rw[e];simp
  ·rw[decide_eq_false (fun c=>e (ztQ n hn m hm c)),decide_eq_false e]
 unfold Ed.step
 by_cases hd:dr n=true
 ·rw[if_pos hd]
  refine⟨by rw[af];show s.2.2+1=_;rw[h.cnt],?_,fun m hm hs=>?_⟩
  ·show s.1=_
   rw[h.txt,F_G,F_G,ag,q9q,if_pos ((hf.hdr n hn).1 hd),xn]
  ·rw[ae m hm,decide_eq_false (fun e=>hs (by rw[<-e];exact hf.un n hn hd)),Bool.or_false]
   exact h.has m hm hs
 ·have aj:dr n=false:=by cases e:dr n;rfl;exact absurd e hd
  have ai:¬Ed.nm n∈ds:=fun c=>hd ((hf.hdr n hn).2 c)
  rw[if_neg hd]
  by_cases ab:se n=[]
  ·rw[if_pos ab]
   refine⟨by rw[af];show s.2.2+1=_;rw[h.cnt],?_,fun m hm hs=>?_⟩
   ·show s.1++Ed.piece n (R.dec s.2.2)=_
    rw[h.cnt,h.txt,F_G,F_G,ag,q9q,if_neg ai,q50q _ _ _ (hf.no n hn ab),q10q,q47q,zt6 n hn]
   ·rw[ae m hm,decide_eq_false (fun e=>hs (by rw[<-e];exact ab)),Bool.or_false]
    exact h.has m hm hs
  ·have ah:=hf.hse n hn aj ab
   have hG:Ed.F ss ds (Ed.hds 0 (aa++[n]))=Ed.F ss ds (Ed.hds 0 aa)++(if Rq.has1 (Ed.nm n,se n) (Ed.hds 0 aa)=true then [] else [(Ed.nm n,se n)]):=by
    rw[F_G,F_G,ag,q9q,if_neg ai,q79q ss _ (Ed.nm n,R.dec aa.length) (Ed.nm n,se n) hf.pw ah rfl,q13q _ ds _ (hf.off _ ah)]
   have ad:=h.has n hn ab
   rw[if_neg ab]
   cases hh:s.2.1 n
   ·rw[if_neg (by decide)]
    rw[hh] at ad
    rw[<-ad,if_neg (by decide)] at hG
    refine⟨by rw[af];show s.2.2+1=_;rw[h.cnt],?_,fun m hm hs=>?_⟩
    ·show s.1++Ed.piece n (se n)=_
     rw[h.txt,hG,q10q,q47q,zt6 n hn]
    ·show(if m=n then true else s.2.1 m)=_
     rw[ae m hm]
     by_cases e:m=n
     ·rw[if_pos e,decide_eq_true e.symm,Bool.or_true]
     ·rw[if_neg e,decide_eq_false (fun c=>e c.symm),Bool.or_false]
      exact h.has m hm hs
   ·rw[if_pos rfl]
    rw[hh] at ad
    rw[<-ad,if_pos rfl,xn] at hG
    refine⟨by rw[af];show s.2.2+1=_;rw[h.cnt],?_,fun m hm hs=>?_⟩
    ·show s.1=_
     rw[h.txt,hG]
    ·show s.2.1 m=_
     rw[ae m hm]
     by_cases e:n=m
     ·subst e
      rw[decide_eq_true rfl,Bool.or_true];exact hh
     ·rw[decide_eq_false e,Bool.or_false]
      exact h.has m hm hs
theorem Ed.Fit.run {dr:Nat->Bool}{se:Nat->List UInt8}{ss:List Hd}{ds:List (List UInt8)}(hf:Ed.Fit dr se ss ds)(ns:List Nat)(hn:∀n∈ns,n<3)(hl:ns.length<=11):Ed.Inv dr se ss ds ns (Ed.run dr se ns):=by
 have h0:Ed.Inv dr se ss ds [] ([],(fun _=>false),0):=⟨rfl,by
  have e0:∀ds:List (List UInt8),Rq.dropK ds ([]:List Hd)=[]:=fun ds=>by
   induction ds with
   | nil=>rfl
   | cons d ds ih=>exact ih
  have e:=e0 ds
  have e2:∀ss:List Hd,Ed.G ss []=[]:=fun ss=>by
   induction ss with
   | nil=>rfl
   | cons s ss ih=>exact ih
  show([]:List UInt8)=Rq.lines (Ed.G ss (Rq.dropK ds []))
  rw[e,e2];rfl,fun n _ _=>rfl⟩
 have:=q89q hf.step ns [] _ hn (by simpa using hl) h0
 exact this
theorem q131q:∀(ss l:List Hd),(ss.map Prod.fst).Pairwise (·≠·)->Rq.setK ss l=Ed.G ss l++ss.filter (fun s=>!Rq.has1 s l)
 | [],l,_=>by show l=l++[];rw[xn]
 | s :: ss,l,hp=>by
  rw[xi,List.pairwise_cons] at hp
  show Rq.setK ss (Rq.with s l)=Ed.G ss (Rq.withK s l false)++_
  rw[q131q ss _ hp.2]
  have aa:∀z∈ss,z.1≠s.1:=fun z hz e=>hp.1 z.1 (List.mem_map.2 ⟨z,hz,rfl⟩) e.symm
  have hh:∀z∈ss,Rq.has1 z (Rq.with s l)=Rq.has1 z l:=fun z hz=>by
   unfold Rq.with
   rw[q16q,q4q z s (aa z hz)]
   cases Rq.has1 s l
   ·show(_ || (decide (s.1=z.1) || false))=_
    rw[decide_eq_false (fun c=>aa z hz c.symm)];simp
   ·show(_ || false)=_;simp
  have hf:ss.filter (fun z=>!Rq.has1 z (Rq.with s l))=ss.filter (fun z=>!Rq.has1 z l):=List.filter_congr (fun z hz=>by rw[hh z hz])
  rw[hf,List.filter_cons]
  unfold Rq.with
  cases hs:Rq.has1 s l
  ·rw[if_neg (by decide),q50q ss _ s (fun z hz c=>aa z hz c.symm),if_pos (by simp),xY];rfl
  ·rw[if_pos rfl,xn,if_neg (by simp)]
theorem q78q:∀(ss l:List Hd) (x:Hd),(∀s∈ss,x.1≠s.1)->Ed.G ss (x :: l)=x :: Ed.G ss l
 | [],_,_,_=>rfl
 | s :: ss,l,x,h=>by
  show Ed.G ss (Rq.withK s (x :: l) false)=_
  rw[Rq.withK,if_neg (h s List.mem_cons_self),q78q ss _ x (fun z hz=>h z (List.mem_cons_of_mem _ hz))]
  rfl
theorem q15q:∀(ds:List (List UInt8)) (l:List Hd) (x:Hd),x.1 ∉ ds->Rq.dropK ds (x :: l)=x :: Rq.dropK ds l
 | [],_,_,_=>rfl
 | d :: ds,l,x,h=>by
  show Rq.dropK ds (Rq.without d (x :: l))=x :: Rq.dropK ds (Rq.without d l)
  have e:Rq.without d (x :: l)=x :: Rq.without d l:=by
   unfold Rq.without
   rw[List.filter_cons,if_pos (by simp;exact fun c=>h (by rw[c];exact List.mem_cons_self))]
  rw[e,q15q ds _ x (fun c=>h (List.mem_cons_of_mem _ c))]
theorem Ed.Fit.lines {dr:Nat->Bool}{se:Nat->List UInt8}{ss:List Hd}{ds:List (List UInt8)}(hf:Ed.Fit dr se ss ds)(ns:List Nat)(hn:∀n∈ns,n<3)(hl:ns.length<=11)(x:Hd)(h1:x.1 ∉ ds)(h2:∀s∈ss,x.1≠s.1)(r:P.Rl)(hr:r.sets=ss/\r.drops=ds) :
  Rq.lines (Rq.edited r (x :: Ed.hds 0 ns))=Rq.ln x++(Ed.run dr se ns).1++Rq.lines (ss.filter fun s=>!Rq.has1 s (Ed.hds 0 ns)):=by
 have hi:=hf.run ns hn hl
 unfold Rq.edited
 rw[hr.1,hr.2,q131q ss _ hf.pw,q15q ds _ x h1,q78q ss _ x h2,List.cons_append]
 have e:ss.filter (fun s=>!Rq.has1 s (x :: Rq.dropK ds (Ed.hds 0 ns)))=ss.filter (fun s=>!Rq.has1 s (Ed.hds 0 ns)):=List.filter_congr (fun z hz=>by
  have hh:Rq.has1 z (x :: Rq.dropK ds (Ed.hds 0 ns))=(decide (x.1=z.1) || Rq.has1 z (Rq.dropK ds (Ed.hds 0 ns))):=rfl
  rw[hh,decide_eq_false (h2 z hz),Bool.false_or,q13q z ds _ (hf.off z hz)])
 rw[e]
 show Rq.ln x++Rq.lines (_++_)=_
 rw[q10q,hi.txt,F_G,xY]
theorem q6q (q:List UInt8)(hq:∀n,n<3->Ed.nm n≠q):∀(ns:List Nat) (j:Nat),(∀n∈ns,n<3)->∀x∈Ed.hds j ns,x.1≠q
 | [],_,_,x,hx=>by cases hx
 | n :: ns,j,hn,x,hx=>by
  rw[Ed.hds] at hx
  rcases List.mem_cons.1 hx with e | hx
  ·rw[e];exact hq n (hn n List.mem_cons_self)
  ·exact q6q q hq ns (j+1) (fun z hz=>hn z (List.mem_cons_of_mem _ hz)) x hx
theorem q11q (q:List UInt8)(l:List Hd)(h:∀x∈l,x.1≠q):Rq.named q l=[]:=by
 unfold Rq.named
 rw[List.filter_eq_nil_iff]
 intro x hx
 simpa using h x hx
def Ed.end (se:Nat->List UInt8)(dn:Nat->Bool):Nat->List UInt8
 | 0=>[]
 | n+1=>Ed.end se dn n++(if (decide (se n≠[]) && !dn n)=true then Ed.piece n (se n) else [])
def Ed.inb:List UInt8:=[71,69,84,32,47,111,108,100,47,49,63,47,111,108,100,32,72,84,84,80,47,49,46,49,13,10,104,111,115,116,58,32,104,13,10]
def Ed.y0:Yd:=Yd.new.opened
def Ed.t0:List UInt8:=[104,111,115,116,34,42,34,123,114,117,108,101,32,49,123,112,97,116,104,34,47,111,108,100,34,59,116,111,34,117,34,49,59,115,101,116,34,66,34,61,34,57,34,59,100,114,111,112,34,99,34,59,125,125]
def Ed.r0:P.Rl:=⟨1,[47,111,108,100],[],[([117],1)],[],[([98],[57])],[[99]]⟩
def Ed.h0:List P.Hst:=[⟨[42],[Ed.r0]⟩]
theorem q80q:xm Ed.t0=(0,0):=by decide +kernel
theorem q118q:xG Ed.t0=qE Ed.h0:=by decide +kernel
theorem zrR:xr (xG Ed.t0)=Ed.h0:=by kernel_rfl
theorem q96q:VHs Ed.h0:=by have:=(zkA (l:=Ed.t0) (by rw[q80q])).1;rw[zrR] at this;exact this
theorem q109q:Fits Ed.h0:=zoX (by decide +kernel)
def Ed.dr0:Nat->Bool
 | 0=>false
 | 1=>false
 | 2=>true
 | _=>false
def Ed.se0:Nat->List UInt8
 | 0=>[]
 | 1=>[57]
 | 2=>[]
 | _=>[]
def Ed.ob0:List UInt8:=[71,69,84,32,47,111,108,100,47,49,63,47,111,108,100,32,72,84,84,80,47,49,46,49,13,10,104,111,115,116,58,32,104,13,10]
def Ed.x0:List UInt8:=[]
theorem q84q:Ed.Fit Ed.dr0 Ed.se0 [([98],[57])] [[99]]:=⟨by decide,fun n hn=>(by
 match n,hn with
 | 0,_=>intro h1 h2;first | exact absurd rfl h2 | exact List.Mem.head _
 | 1,_=>intro h1 h2;first | exact absurd rfl h2 | exact List.Mem.head _
 | 2,_=>intro h1 h2;first | exact absurd rfl h2 | exact List.Mem.tail _ (List.Mem.head _)
 | n+3,h=>omega),by decide,by decide,by decide,by decide⟩
theorem q101q:Ed.y0.fedP Ed.h0 0 Ed.inb=Ed.y0.put 0 (.hd ⟨35,[],[71,69,84],[47,111,108,100,47,49,63,47,111,108,100],[([104,111,115,116],[104])]⟩):=by kernel_rfl
theorem q105q (sz:Nat)(l:List Hd):Tr.find Ed.h0 ⟨sz,[],[71,69,84],[47,111,108,100,47,49,63,47,111,108,100],([104,111,115,116],[104]) :: l⟩=some Ed.r0:=by kernel_rfl
theorem q92q (sz : Nat) (l : List Hd) : Rq.first ⟨sz, [], [71, 69, 84], [47, 111, 108, 100, 47, 49, 63, 47, 111, 108, 100], l⟩ Ed.r0 ++ Rq.ln ([104, 111, 115, 116], [104]) = Ed.ob0 := by kernel_rfl
theorem q114q (ns:List Nat)(hn:∀n∈ns,n<3)(hl:ns.length<=11):Rq.lines (([([98],[57])]:List Hd).filter fun s=>!Rq.has1 s (Ed.hds 0 ns))=Ed.end Ed.se0 (Ed.run Ed.dr0 Ed.se0 ns).2.1 3++Ed.x0:=by
 have hi:=(q84q.run ns hn hl).has
 have h1:=hi 1 (by decide) (by decide)
 have e:(Ed.nm 1,Ed.se0 1)=([98],[57]):=rfl
 rw[e] at h1
 unfold Ed.x0
 rw[xn,List.filter_cons]
 show Rq.lines (if _ then _ else _)=[]++[]++(if (true && !(Ed.run Ed.dr0 Ed.se0 ns).2.1 1)=true then Ed.piece 1 [57] else [])++[]
 rw[h1]
 cases Rq.has1 ([98],[57]) (Ed.hds 0 ns)
 ·rfl
 ·rfl
theorem q122q (ns : List Nat) (hn : ∀ n ∈ ns, n < 3) (hl : ns.length ≤ 11) : (Ed.y0.fedP Ed.h0 0 (Ed.inb ++ Ed.txt 0 ns ++ [13, 10])).sent = [⟨1, [117], Ed.ob0 ++ (Ed.run Ed.dr0 Ed.se0 ns).1 ++ Ed.end Ed.se0 (Ed.run Ed.dr0 Ed.se0 ns).2.1 3 ++ Ed.x0 ++ [13, 10]⟩] := by
  rw [zeB, zeB, q101q]
  obtain ⟨sz, h1, h2⟩ := q5q (hs := Ed.h0) (m := 0) (me := [71, 69, 84]) (ta := [47, 111, 108, 100, 47, 49, 63, 47, 111, 108, 100]) (by decide) ns 0 (y := Ed.y0.put 0 (.hd ⟨35, [], [71, 69, 84], [47, 111, 108, 100, 47, 49, 63, 47, 111, 108, 100], [([104, 111, 115, 116], [104])]⟩)) rfl hn (by omega) (by show 1 + ns.length ≤ 12; omega) (by omega)
  rw [h2, q12q]
  have hcl : Rq.value Rq.sCl ([([104, 111, 115, 116], [104])] ++ Ed.hds 0 ns) = [] := by
    unfold Rq.value
    rw [q11q Rq.sCl _ (fun x hx => ?_)]
    · rfl
    · rcases List.mem_append.1 hx with q | q
      · simp at q; rw [q]; decide
      · exact q6q Rq.sCl (by decide) ns 0 hn x q
  have hho : Rq.has Rq.sHost ([([104, 111, 115, 116], [104])] ++ Ed.hds 0 ns) = true := by
    unfold Rq.has Rq.named
    rw [List.singleton_append, List.filter_cons, if_pos (by decide)]
    simp
  rw [q19q (y := Ed.y0.put 0 (.hd ⟨sz, [], [71, 69, 84], [47, 111, 108, 100, 47, 49, 63, 47, 111, 108, 100], [([104, 111, 115, 116], [104])] ++ Ed.hds 0 ns⟩)) rfl (by decide) hho (by omega) hcl (q105q _ _)]
  have hsent : Rq.sent ⟨sz + 2, [], [71, 69, 84], [47, 111, 108, 100, 47, 49, 63, 47, 111, 108, 100], [([104, 111, 115, 116], [104])] ++ Ed.hds 0 ns⟩ Ed.r0 = Ed.ob0 ++ (Ed.run Ed.dr0 Ed.se0 ns).1 ++ Ed.end Ed.se0 (Ed.run Ed.dr0 Ed.se0 ns).2.1 3 ++ Ed.x0 ++ [13, 10] := by
    unfold Rq.sent
    have h3 := q84q.lines ns hn hl ([104, 111, 115, 116], [104]) (by decide) (by decide) Ed.r0 ⟨rfl, rfl⟩
    rw [List.singleton_append, h3, q114q ns hn hl, ← q92q (sz + 2) (([104, 111, 115, 116], [104]) :: Ed.hds 0 ns)]
    simp only [xY]
  rw [hsent]
  rfl
def Ed.t1:List UInt8:=[104,111,115,116,34,42,34,123,114,117,108,101,32,49,123,112,97,116,104,34,47,111,108,100,34,59,116,111,34,117,34,49,59,114,101,112,108,97,99,101,34,47,110,101,119,34,59,115,101,116,34,110,34,61,34,34,59,125,125]
def Ed.r1:P.Rl:=⟨1,[47,111,108,100],[],[([117],1)],[47,110,101,119],[([110],[])],[]⟩
def Ed.h1:List P.Hst:=[⟨[42],[Ed.r1]⟩]
theorem q81q:xm Ed.t1=(0,0):=by decide +kernel
theorem q119q:xG Ed.t1=qE Ed.h1:=by decide +kernel
theorem zrS:xr (xG Ed.t1)=Ed.h1:=by kernel_rfl
theorem q97q:VHs Ed.h1:=by have:=(zkA (l:=Ed.t1) (by rw[q81q])).1;rw[zrS] at this;exact this
theorem q110q:Fits Ed.h1:=zoX (by decide +kernel)
def Ed.dr1:Nat->Bool
 | 0=>false
 | 1=>false
 | 2=>false
 | _=>false
def Ed.se1:Nat->List UInt8
 | 0=>[]
 | 1=>[]
 | 2=>[]
 | _=>[]
def Ed.ob1:List UInt8:=[71,69,84,32,47,110,101,119,47,49,63,47,111,108,100,32,72,84,84,80,47,49,46,49,13,10,104,111,115,116,58,32,104,13,10]
def Ed.x1:List UInt8:=[110,58,32,13,10]
theorem q85q:Ed.Fit Ed.dr1 Ed.se1 [([110],[])] []:=⟨by decide,fun n hn=>(by
 match n,hn with
 | 0,_=>intro h1 h2;first | exact absurd rfl h2 | exact List.Mem.head _
 | 1,_=>intro h1 h2;first | exact absurd rfl h2 | exact List.Mem.head _
 | 2,_=>intro h1 h2;first | exact absurd rfl h2 | exact List.Mem.tail _ (List.Mem.head _)
 | n+3,h=>omega),by decide,by decide,by decide,by decide⟩
theorem q102q:Ed.y0.fedP Ed.h1 0 Ed.inb=Ed.y0.put 0 (.hd ⟨35,[],[71,69,84],[47,111,108,100,47,49,63,47,111,108,100],[([104,111,115,116],[104])]⟩):=by kernel_rfl
theorem q106q (sz:Nat)(l:List Hd):Tr.find Ed.h1 ⟨sz,[],[71,69,84],[47,111,108,100,47,49,63,47,111,108,100],([104,111,115,116],[104]) :: l⟩=some Ed.r1:=by kernel_rfl
theorem q93q (sz : Nat) (l : List Hd) : Rq.first ⟨sz, [], [71, 69, 84], [47, 111, 108, 100, 47, 49, 63, 47, 111, 108, 100], l⟩ Ed.r1 ++ Rq.ln ([104, 111, 115, 116], [104]) = Ed.ob1 := by kernel_rfl
theorem q115q (ns:List Nat)(hn:∀n∈ns,n<3)(hl:ns.length<=11):Rq.lines (([([110],[])]:List Hd).filter fun s=>!Rq.has1 s (Ed.hds 0 ns))=Ed.end Ed.se1 (Ed.run Ed.dr1 Ed.se1 ns).2.1 3++Ed.x1:=by
 have hi:=(q85q.run ns hn hl).has
 clear hi
 have h1:Rq.has1 ([110],[]) (Ed.hds 0 ns)=false:=by
  unfold Rq.has1
  rw[List.any_eq_false]
  intro x hx
  simpa using q6q [110] (by decide) ns 0 hn x hx
 rw[List.filter_cons,h1]
 rfl
theorem q123q (ns : List Nat) (hn : ∀ n ∈ ns, n < 3) (hl : ns.length ≤ 11) : (Ed.y0.fedP Ed.h1 0 (Ed.inb ++ Ed.txt 0 ns ++ [13, 10])).sent = [⟨1, [117], Ed.ob1 ++ (Ed.run Ed.dr1 Ed.se1 ns).1 ++ Ed.end Ed.se1 (Ed.run Ed.dr1 Ed.se1 ns).2.1 3 ++ Ed.x1 ++ [13, 10]⟩] := by
  rw [zeB, zeB, q102q]
  obtain ⟨sz, h1, h2⟩ := q5q (hs := Ed.h1) (m := 0) (me := [71, 69, 84]) (ta := [47, 111, 108, 100, 47, 49, 63, 47, 111, 108, 100]) (by decide) ns 0 (y := Ed.y0.put 0 (.hd ⟨35, [], [71, 69, 84], [47, 111, 108, 100, 47, 49, 63, 47, 111, 108, 100], [([104, 111, 115, 116], [104])]⟩)) rfl hn (by omega) (by show 1 + ns.length ≤ 12; omega) (by omega)
  rw [h2, q12q]
  have hcl : Rq.value Rq.sCl ([([104, 111, 115, 116], [104])] ++ Ed.hds 0 ns) = [] := by
    unfold Rq.value
    rw [q11q Rq.sCl _ (fun x hx => ?_)]
    · rfl
    · rcases List.mem_append.1 hx with q | q
      · simp at q; rw [q]; decide
      · exact q6q Rq.sCl (by decide) ns 0 hn x q
  have hho : Rq.has Rq.sHost ([([104, 111, 115, 116], [104])] ++ Ed.hds 0 ns) = true := by
    unfold Rq.has Rq.named
    rw [List.singleton_append, List.filter_cons, if_pos (by decide)]
    simp
  rw [q19q (y := Ed.y0.put 0 (.hd ⟨sz, [], [71, 69, 84], [47, 111, 108, 100, 47, 49, 63, 47, 111, 108, 100], [([104, 111, 115, 116], [104])] ++ Ed.hds 0 ns⟩)) rfl (by decide) hho (by omega) hcl (q106q _ _)]
  have hsent : Rq.sent ⟨sz + 2, [], [71, 69, 84], [47, 111, 108, 100, 47, 49, 63, 47, 111, 108, 100], [([104, 111, 115, 116], [104])] ++ Ed.hds 0 ns⟩ Ed.r1 = Ed.ob1 ++ (Ed.run Ed.dr1 Ed.se1 ns).1 ++ Ed.end Ed.se1 (Ed.run Ed.dr1 Ed.se1 ns).2.1 3 ++ Ed.x1 ++ [13, 10] := by
    unfold Rq.sent
    have h3 := q85q.lines ns hn hl ([104, 111, 115, 116], [104]) (by decide) (by decide) Ed.r1 ⟨rfl, rfl⟩
    rw [List.singleton_append, h3, q115q ns hn hl, ← q93q (sz + 2) (([104, 111, 115, 116], [104]) :: Ed.hds 0 ns)]
    simp only [xY]
  rw [hsent]
  rfl
def Ed.t2:List UInt8:=[104,111,115,116,34,42,34,123,114,117,108,101,32,49,123,112,97,116,104,34,47,111,108,100,34,59,116,111,34,117,34,49,59,100,114,111,112,34,65,34,59,100,114,111,112,34,98,34,59,125,125]
def Ed.r2:P.Rl:=⟨1,[47,111,108,100],[],[([117],1)],[],[],[[97],[98]]⟩
def Ed.h2:List P.Hst:=[⟨[42],[Ed.r2]⟩]
theorem q82q:xm Ed.t2=(0,0):=by decide +kernel
theorem q120q:xG Ed.t2=qE Ed.h2:=by decide +kernel
theorem zrT:xr (xG Ed.t2)=Ed.h2:=by kernel_rfl
theorem q98q:VHs Ed.h2:=by have:=(zkA (l:=Ed.t2) (by rw[q82q])).1;rw[zrT] at this;exact this
theorem q111q:Fits Ed.h2:=zoX (by decide +kernel)
def Ed.dr2:Nat->Bool
 | 0=>true
 | 1=>true
 | 2=>false
 | _=>false
def Ed.se2:Nat->List UInt8
 | 0=>[]
 | 1=>[]
 | 2=>[]
 | _=>[]
def Ed.ob2:List UInt8:=[71,69,84,32,47,111,108,100,47,49,63,47,111,108,100,32,72,84,84,80,47,49,46,49,13,10,104,111,115,116,58,32,104,13,10]
def Ed.x2:List UInt8:=[]
theorem q86q:Ed.Fit Ed.dr2 Ed.se2 [] [[97],[98]]:=⟨by decide,fun n hn=>(by
 match n,hn with
 | 0,_=>intro h1 h2;first | exact absurd rfl h2 | exact List.Mem.head _
 | 1,_=>intro h1 h2;first | exact absurd rfl h2 | exact List.Mem.head _
 | 2,_=>intro h1 h2;first | exact absurd rfl h2 | exact List.Mem.tail _ (List.Mem.head _)
 | n+3,h=>omega),by decide,by decide,by decide,by decide⟩
theorem q103q:Ed.y0.fedP Ed.h2 0 Ed.inb=Ed.y0.put 0 (.hd ⟨35,[],[71,69,84],[47,111,108,100,47,49,63,47,111,108,100],[([104,111,115,116],[104])]⟩):=by kernel_rfl
theorem q107q (sz:Nat)(l:List Hd):Tr.find Ed.h2 ⟨sz,[],[71,69,84],[47,111,108,100,47,49,63,47,111,108,100],([104,111,115,116],[104]) :: l⟩=some Ed.r2:=by kernel_rfl
theorem q94q (sz : Nat) (l : List Hd) : Rq.first ⟨sz, [], [71, 69, 84], [47, 111, 108, 100, 47, 49, 63, 47, 111, 108, 100], l⟩ Ed.r2 ++ Rq.ln ([104, 111, 115, 116], [104]) = Ed.ob2 := by kernel_rfl
theorem q116q (ns:List Nat)(hn:∀n∈ns,n<3)(hl:ns.length<=11):Rq.lines (([]:List Hd).filter fun s=>!Rq.has1 s (Ed.hds 0 ns))=Ed.end Ed.se2 (Ed.run Ed.dr2 Ed.se2 ns).2.1 3++Ed.x2:=by
 have hi:=(q86q.run ns hn hl).has
 clear hi
 rfl
theorem q124q (ns : List Nat) (hn : ∀ n ∈ ns, n < 3) (hl : ns.length ≤ 11) : (Ed.y0.fedP Ed.h2 0 (Ed.inb ++ Ed.txt 0 ns ++ [13, 10])).sent = [⟨1, [117], Ed.ob2 ++ (Ed.run Ed.dr2 Ed.se2 ns).1 ++ Ed.end Ed.se2 (Ed.run Ed.dr2 Ed.se2 ns).2.1 3 ++ Ed.x2 ++ [13, 10]⟩] := by
  rw [zeB, zeB, q103q]
  obtain ⟨sz, h1, h2⟩ := q5q (hs := Ed.h2) (m := 0) (me := [71, 69, 84]) (ta := [47, 111, 108, 100, 47, 49, 63, 47, 111, 108, 100]) (by decide) ns 0 (y := Ed.y0.put 0 (.hd ⟨35, [], [71, 69, 84], [47, 111, 108, 100, 47, 49, 63, 47, 111, 108, 100], [([104, 111, 115, 116], [104])]⟩)) rfl hn (by omega) (by show 1 + ns.length ≤ 12; omega) (by omega)
  rw [h2, q12q]
  have hcl : Rq.value Rq.sCl ([([104, 111, 115, 116], [104])] ++ Ed.hds 0 ns) = [] := by
    unfold Rq.value
    rw [q11q Rq.sCl _ (fun x hx => ?_)]
    · rfl
    · rcases List.mem_append.1 hx with q | q
      · simp at q; rw [q]; decide
      · exact q6q Rq.sCl (by decide) ns 0 hn x q
  have hho : Rq.has Rq.sHost ([([104, 111, 115, 116], [104])] ++ Ed.hds 0 ns) = true := by
    unfold Rq.has Rq.named
    rw [List.singleton_append, List.filter_cons, if_pos (by decide)]
    simp
  rw [q19q (y := Ed.y0.put 0 (.hd ⟨sz, [], [71, 69, 84], [47, 111, 108, 100, 47, 49, 63, 47, 111, 108, 100], [([104, 111, 115, 116], [104])] ++ Ed.hds 0 ns⟩)) rfl (by decide) hho (by omega) hcl (q107q _ _)]
  have hsent : Rq.sent ⟨sz + 2, [], [71, 69, 84], [47, 111, 108, 100, 47, 49, 63, 47, 111, 108, 100], [([104, 111, 115, 116], [104])] ++ Ed.hds 0 ns⟩ Ed.r2 = Ed.ob2 ++ (Ed.run Ed.dr2 Ed.se2 ns).1 ++ Ed.end Ed.se2 (Ed.run Ed.dr2 Ed.se2 ns).2.1 3 ++ Ed.x2 ++ [13, 10] := by
    unfold Rq.sent
    have h3 := q86q.lines ns hn hl ([104, 111, 115, 116], [104]) (by decide) (by decide) Ed.r2 ⟨rfl, rfl⟩
    rw [List.singleton_append, h3, q116q ns hn hl, ← q94q (sz + 2) (([104, 111, 115, 116], [104]) :: Ed.hds 0 ns)]
    simp only [xY]
  rw [hsent]
  rfl
def Ed.t3:List UInt8:=[104,111,115,116,34,42,34,123,114,117,108,101,32,49,123,112,97,116,104,34,47,111,108,100,34,59,116,111,34,117,34,49,59,114,101,112,108,97,99,101,34,47,34,59,115,101,116,34,97,34,61,34,120,32,121,34,59,115,101,116,34,99,34,61,34,55,34,59,125,125]
def Ed.r3:P.Rl:=⟨1,[47,111,108,100],[],[([117],1)],[47],[([97],[120,32,121]),([99],[55])],[]⟩
def Ed.h3:List P.Hst:=[⟨[42],[Ed.r3]⟩]
theorem q83q:xm Ed.t3=(0,0):=by decide +kernel
theorem q121q:xG Ed.t3=qE Ed.h3:=by decide +kernel
theorem zrU:xr (xG Ed.t3)=Ed.h3:=by kernel_rfl
theorem q99q:VHs Ed.h3:=by have:=(zkA (l:=Ed.t3) (by rw[q83q])).1;rw[zrU] at this;exact this
theorem q112q:Fits Ed.h3:=zoX (by decide +kernel)
def Ed.dr3:Nat->Bool
 | 0=>false
 | 1=>false
 | 2=>false
 | _=>false
def Ed.se3:Nat->List UInt8
 | 0=>[120,32,121]
 | 1=>[]
 | 2=>[55]
 | _=>[]
def Ed.ob3:List UInt8:=[71,69,84,32,47,47,49,63,47,111,108,100,32,72,84,84,80,47,49,46,49,13,10,104,111,115,116,58,32,104,13,10]
def Ed.x3:List UInt8:=[]
theorem q87q:Ed.Fit Ed.dr3 Ed.se3 [([97],[120,32,121]),([99],[55])] []:=⟨by decide,fun n hn=>(by
 match n,hn with
 | 0,_=>intro h1 h2;first | exact absurd rfl h2 | exact List.Mem.head _
 | 1,_=>intro h1 h2;first | exact absurd rfl h2 | exact List.Mem.head _
 | 2,_=>intro h1 h2;first | exact absurd rfl h2 | exact List.Mem.tail _ (List.Mem.head _)
 | n+3,h=>omega),by decide,by decide,by decide,by decide⟩
theorem q104q:Ed.y0.fedP Ed.h3 0 Ed.inb=Ed.y0.put 0 (.hd ⟨35,[],[71,69,84],[47,111,108,100,47,49,63,47,111,108,100],[([104,111,115,116],[104])]⟩):=by kernel_rfl
theorem q108q (sz:Nat)(l:List Hd):Tr.find Ed.h3 ⟨sz,[],[71,69,84],[47,111,108,100,47,49,63,47,111,108,100],([104,111,115,116],[104]) :: l⟩=some Ed.r3:=by kernel_rfl
theorem q95q (sz : Nat) (l : List Hd) : Rq.first ⟨sz, [], [71, 69, 84], [47, 111, 108, 100, 47, 49, 63, 47, 111, 108, 100], l⟩ Ed.r3 ++ Rq.ln ([104, 111, 115, 116], [104]) = Ed.ob3 := by kernel_rfl
theorem q117q (ns:List Nat)(hn:∀n∈ns,n<3)(hl:ns.length<=11):Rq.lines (([([97],[120,32,121]),([99],[55])]:List Hd).filter fun s=>!Rq.has1 s (Ed.hds 0 ns))=Ed.end Ed.se3 (Ed.run Ed.dr3 Ed.se3 ns).2.1 3++Ed.x3:=by
 have hi:=(q87q.run ns hn hl).has
 have h0:=hi 0 (by decide) (by decide)
 have h2:=hi 2 (by decide) (by decide)
 have e0:(Ed.nm 0,Ed.se3 0)=([97],[120,32,121]):=rfl
 have e2:(Ed.nm 2,Ed.se3 2)=([99],[55]):=rfl
 rw[e0] at h0
 rw[e2] at h2
 unfold Ed.x3
 rw[xn,List.filter_cons,List.filter_cons]
 show Rq.lines (if _ then _ else _)=[]++(if (true && !(Ed.run Ed.dr3 Ed.se3 ns).2.1 0)=true then Ed.piece 0 [120,32,121] else [])++[]++(if (true && !(Ed.run Ed.dr3 Ed.se3 ns).2.1 2)=true then Ed.piece 2 [55] else [])
 rw[h0,h2]
 cases Rq.has1 ([97],[120,32,121]) (Ed.hds 0 ns)
 ·cases Rq.has1 ([99],[55]) (Ed.hds 0 ns)
  ·rfl
  ·rfl
 ·cases Rq.has1 ([99],[55]) (Ed.hds 0 ns)
  ·rfl
  ·rfl
theorem q125q (ns : List Nat) (hn : ∀ n ∈ ns, n < 3) (hl : ns.length ≤ 11) : (Ed.y0.fedP Ed.h3 0 (Ed.inb ++ Ed.txt 0 ns ++ [13, 10])).sent = [⟨1, [117], Ed.ob3 ++ (Ed.run Ed.dr3 Ed.se3 ns).1 ++ Ed.end Ed.se3 (Ed.run Ed.dr3 Ed.se3 ns).2.1 3 ++ Ed.x3 ++ [13, 10]⟩] := by
  rw [zeB, zeB, q104q]
  obtain ⟨sz, h1, h2⟩ := q5q (hs := Ed.h3) (m := 0) (me := [71, 69, 84]) (ta := [47, 111, 108, 100, 47, 49, 63, 47, 111, 108, 100]) (by decide) ns 0 (y := Ed.y0.put 0 (.hd ⟨35, [], [71, 69, 84], [47, 111, 108, 100, 47, 49, 63, 47, 111, 108, 100], [([104, 111, 115, 116], [104])]⟩)) rfl hn (by omega) (by show 1 + ns.length ≤ 12; omega) (by omega)
  rw [h2, q12q]
  have hcl : Rq.value Rq.sCl ([([104, 111, 115, 116], [104])] ++ Ed.hds 0 ns) = [] := by
    unfold Rq.value
    rw [q11q Rq.sCl _ (fun x hx => ?_)]
    · rfl
    · rcases List.mem_append.1 hx with q | q
      · simp at q; rw [q]; decide
      · exact q6q Rq.sCl (by decide) ns 0 hn x q
  have hho : Rq.has Rq.sHost ([([104, 111, 115, 116], [104])] ++ Ed.hds 0 ns) = true := by
    unfold Rq.has Rq.named
    rw [List.singleton_append, List.filter_cons, if_pos (by decide)]
    simp
  rw [q19q (y := Ed.y0.put 0 (.hd ⟨sz, [], [71, 69, 84], [47, 111, 108, 100, 47, 49, 63, 47, 111, 108, 100], [([104, 111, 115, 116], [104])] ++ Ed.hds 0 ns⟩)) rfl (by decide) hho (by omega) hcl (q108q _ _)]
  have hsent : Rq.sent ⟨sz + 2, [], [71, 69, 84], [47, 111, 108, 100, 47, 49, 63, 47, 111, 108, 100], [([104, 111, 115, 116], [104])] ++ Ed.hds 0 ns⟩ Ed.r3 = Ed.ob3 ++ (Ed.run Ed.dr3 Ed.se3 ns).1 ++ Ed.end Ed.se3 (Ed.run Ed.dr3 Ed.se3 ns).2.1 3 ++ Ed.x3 ++ [13, 10] := by
    unfold Rq.sent
    have h3 := q87q.lines ns hn hl ([104, 111, 115, 116], [104]) (by decide) (by decide) Ed.r3 ⟨rfl, rfl⟩
    rw [List.singleton_append, h3, q117q ns hn hl, ← q95q (sz + 2) (([104, 111, 115, 116], [104]) :: Ed.hds 0 ns)]
    simp only [xY]
  rw [hsent]
  rfl
structure Stx (w:World) (yb:Nat) (ps:List (Option Nat)) (b:Nat) (s:List UInt8):Prop where
 cell:w.cell? ⟨b,1,none⟩=some (.string (R.str s))
 ap:¬YF w yb ps b
 lt:b<w.heap.size
theorem q2q (a b:List UInt8):R.str a++R.str b=R.str (a++b):=by
 apply zjA
 rw[q65q,R.str_toList,R.str_toList,R.str_toList]
theorem q8q:∀(os:List Obj) (w:World),w.grownBy (os.foldl World.alloc w) none
 | [],_=>zM _ _
 | o :: os,w=>zA (zJ w o none) (q8q os (w.alloc o))
theorem q1q:∀(os:List Obj) (w:World) (i:Nat) (o:Obj),os[i]?=some o->(os.foldl World.alloc w).heap[w.heap.size+i]?=some o
 | [],_,_,_,h=>by simp at h
 | a :: os,w,0,o,h=>by
  have e:a=o:=by simpa using h
  subst e
  have hb:(w.alloc a).heap[w.heap.size]?=some a:=heap_alloc_new w a
  have:=(q8q os (w.alloc a)).block w.heap.size (by simp) (by simp)
  exact this.trans hb
 | a :: os,w,i+1,o,h=>by
  have h1:=q1q os (w.alloc a) i o (by simpa using h)
  have e:(w.alloc a).heap.size+i=w.heap.size+(i+1):=by simp;omega
  rw[e] at h1
  exact h1
end Go.Proofs.YtfocdefchbnkpaaGreatDoor
