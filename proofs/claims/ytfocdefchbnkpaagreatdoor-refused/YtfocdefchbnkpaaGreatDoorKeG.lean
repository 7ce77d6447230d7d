/- What is no request is refused: the plain part. -/
import Derived.Test.YtfocdefchbnkpaaGreatDoorAli
import Derived.Test.YtfocdefchbnkpaaGreatDoorYpF
set_option maxRecDepth 100000
set_option maxHeartbeats 20000000
namespace Go.Proofs.YtfocdefchbnkpaaGreatDoor
open Go.RowKit
theorem q47q {y:Yd}{m:Nat}{c:Cn}(h:y.conns[m]?=some (some c)):y.isOpen (m+1:Nat)=true:=by
 have hl:=(List.getElem?_eq_some_iff.1 h).1
 unfold Yd.isOpen
 have e:(((m+1:Nat):Int) - 1).toNat=m:=by omega
 rw[e,h]
 simp only[Bool.and_true]
 rw[decide_eq_true (by omega),decide_eq_true (by omega)];rfl
theorem q74q {y:Yd}{m:Nat}{c:Cn}(h:y.conns[m]?=some (some c)):y.put m c=y:=by
 obtain⟨hl,e⟩:=List.getElem?_eq_some_iff.1 h
 unfold Yd.put
 rw[<-e,List.set_getElem_self]
theorem q50q (y:Yd)(m:Nat)(a b:Cn):(y.put m a).put m b=y.put m b:=by
 unfold Yd.put;simp only[List.set_set]
theorem q10q {y:Yd}{m:Nat}{c:Cn}(a:Cn)(h:y.conns[m]?=some (some c)):(y.put m a).conns[m]?=some (some a):=by
 show(y.conns.set m _)[m]?=_
 rw[List.getElem?_set_self (List.getElem?_eq_some_iff.1 h).1]
theorem q69q {hs:List P.Hst}{y:Yd}{m:Nat}{c:UInt8}{h h':Rq.Head}(hc:y.conns[m]?=some (some (.hd h)))(ht:Rq.take h c=(h',false,[])):y.stepP hs m c=y.put m (.hd h'):=by
 unfold Yd.stepP
 rw[q47q hc,if_pos rfl]
 unfold Yd.takeP
 rw[hc]
 simp only[ht]
 rw[if_neg (by simp)]
 unfold Yd.after
 rw[if_pos rfl]
 unfold Yd.ready
 rw[q10q _ hc]
theorem q60q {hs:List P.Hst}{y:Yd}{m:Nat}{c:UInt8}{h h':Rq.Head}{r:List UInt8}(hc:y.conns[m]?=some (some (.hd h)))(ht:Rq.take h c=(h',false,r))(hr:r≠[]):y.stepP hs m c=((y.put m (.hd h')).send ⟨m+1,[],r⟩).ended m:=by
 unfold Yd.stepP
 rw[q47q hc,if_pos rfl]
 unfold Yd.takeP
 rw[hc]
 simp only[ht]
 rw[if_neg (by simp)]
 unfold Yd.after
 rw[if_neg hr]
theorem q70q {h:Rq.Head}{c:UInt8}(hc:c≠10)(hs:h.size+1<=600):Rq.take h c=({ h with size:=h.size+1,line:=h.line++[c] },false,[]):=by
 unfold Rq.take
 rw[if_neg (by omega),if_neg hc]
theorem q7q (hs:List P.Hst)(y:Yd)(m:Nat)(c:UInt8)(l:List UInt8):y.fedP hs m (c :: l)=(y.stepP hs m c).fedP hs m l:=rfl
theorem q8q {hs:List P.Hst}{m:Nat}:∀(l:List UInt8) {y:Yd} {h:Rq.Head},y.conns[m]?=some (some (.hd h))->(∀c∈l,c≠10)->h.size+l.length<=600->y.fedP hs m l=y.put m (.hd { h with size:=h.size+l.length,line:=h.line++l })
 | [],y,h,hc,_,_=>by
  have e:({ h with size:=h.size+([]:List UInt8).length,line:=h.line++[] }:Rq.Head)=h:=by cases h;simp
  rw[e,q74q hc];rfl
 | c :: l,y,h,hc,hn,hl=>by
  have aa:h.size+(l.length+1)<=600:=hl
  have h1:=q69q (hs:=hs) hc (q70q (hn c List.mem_cons_self) (by omega))
  rw[q7q,h1,q8q l (q10q _ hc) (fun x hx=>hn x (List.mem_cons_of_mem _ hx)) (by show h.size+1+l.length<=600;omega),q50q]
  congr 2
  simp only[Rq.Head.mk.injEq,xY,List.cons_append,List.nil_append,zm,and_true]
  omega
theorem q65q {hs:List P.Hst}{m:Nat}(l:List UInt8){y:Yd}{sz:Nat}{ln me ta:List UInt8}{hd:List Hd}(hc:y.conns[m]?=some (some (.hd ⟨sz,ln,me,ta,hd⟩)))(hn:∀c∈l,c≠10)(hl:sz+l.length<=600):y.fedP hs m l=y.put m (.hd ⟨sz+l.length,ln++l,me,ta,hd⟩):=q8q l hc hn hl
theorem q55q {hs:List P.Hst}{m:Nat}{y:Yd}{h:Rq.Head}(hc:y.conns[m]?=some (some (.hd h)))(l:List UInt8)(c:UInt8)(r:List UInt8)(hn:∀c∈l,c≠10)(hl:h.size+l.length=600):y.fedP hs m (l++c :: r)=(y.send ⟨m+1,[],Rq.tooMuch⟩).ended m:=by
 rw[zeB,q8q l hc hn (by omega),q7q]
 have ht:Rq.take { h with size:=h.size+l.length,line:=h.line++l } c=({ h with size:=h.size+l.length+1,line:=h.line++l },false,Rq.tooMuch):=by
  unfold Rq.take;rw[if_pos (by show 600<h.size+l.length+1;omega)]
 rw[q60q (q10q _ hc) ht (by decide),q50q]
 have e:(((y.put m (.hd { h with size:=h.size+l.length+1,line:=h.line++l })).send ⟨m+1,[],Rq.tooMuch⟩).ended m)=(y.send ⟨m+1,[],Rq.tooMuch⟩).ended m:=by
  unfold Yd.put Yd.send Yd.ended;simp only[List.set_set]
 rw[e]
 refine zjX _ _ _ _ ?_
 unfold Yd.isOpen
 have hl:=(List.getElem?_eq_some_iff.1 hc).1
 have e2:(((m+1:Nat):Int) - 1).toNat=m:=by omega
 have e3:((y.send ⟨m+1,[],Rq.tooMuch⟩).ended m).conns[m]?=some none:=by
  show(y.conns.set m none)[m]?=_
  rw[List.getElem?_set_self hl]
 rw[e2,e3]
 simp
def Rf.t:List UInt8:=[104,111,115,116,34,42,34,123,114,117,108,101,32,49,123,112,97,116,104,34,47,34,59,116,111,34,117,112,34,49,59,125,125]
def Rf.good:List UInt8:=[71,69,84,32,47,32,72,84,84,80,47,49,46,49,13,10,104,111,115,116,58,32,97,13,10,13,10]
def Rf.hs:List P.Hst:=[⟨[42],[⟨1,[47],[],[([117,112],1)],[],[],[]⟩]⟩]
theorem q76q:xm Rf.t=(0,0):=by decide +kernel
theorem q80q:xG Rf.t=qE Rf.hs:=by decide +kernel
theorem zrQ:xr (xG Rf.t)=Rf.hs:=by kernel_rfl
theorem q4q:VHs Rf.hs:=by have:=(zkA (l:=Rf.t) (by rw[q76q])).1;rw[zrQ] at this;exact this
theorem q52q:Fits Rf.hs:=zoX (by decide +kernel)
def Rf.long (n:Nat):List UInt8:=List.replicate n 120
def Rf.row (i:Nat):List UInt8:=[97]++R.dec i++[58,32,49,13,10]
def Rf.many:Nat->List UInt8
 | 0=>[]
 | n+1=>Rf.many n++Rf.row n
def Rf.cl:List UInt8:=[71,69,84,32,47,32,72,84,84,80,47,49,46,49,13,10,104,111,115,116,58,32,97,13,10,99,111,110,116,101,110,116,45,108,101,110,103,116,104,58,32]
def Rf.c0 (m:Nat):Nat->List UInt8
 | 0=>[71,69,84,32,47,32,72,84,84,80,47,49,46,49,13,10,104,111,115,116,58,32,97,13,10,116,114,97,110,115,102,101,114,45,101,110,99,111,100,105,110,103,58,32,99,104,117,110,107,101,100,13,10,13,10]
 | 1=>[71,69,84,32,47,32,72,84,84,80,47,49,46,49,13,10,104,111,115,116,58,32,97,13,10,99,111,110,116,101,110,116,45,108,101,110,103,116,104,58,32,49,13,10,99,111,110,116,101,110,116,45,108,101,110,103,116,104,58,32,49,13,10,13,10,120]
 | 2=>[71,69,84,32,47,32,72,84,84,80,47,49,46,49,13,10,104,111,115,116,58,32,97,13,10,99,111,110,116,101,110,116,45,108,101,110,103,116,104,58,32,49,44,32,49,13,10,13,10,120]
 | 3=>[71,69,84,32,47,32,72,84,84,80,47,49,46,49,13,10,104,111,115,116,58,32,97,13,10,99,111,110,116,101,110,116,45,108,101,110,103,116,104,58,32,43,49,13,10,13,10,120]
 | 4=>[71,69,84,32,47,32,72,84,84,80,47,49,46,49,13,10,104,111,115,116,58,32,97,13,10,99,111,110,116,101,110,116,45,108,101,110,103,116,104,58,32,48,48,48,48,48,49,13,10,13,10,120]
 | 5=>[71,69,84,32,47,32,72,84,84,80,47,49,46,49,13,10,104,111,115,116,58,32,97,13,10,99,111,110,116,101,110,116,45,108,101,110,103,116,104,58,13,10,13,10]
 | 6=>(Rf.cl++R.dec m++[13,10,13,10])
 | 7=>[71,69,84,32,47,32,72,84,84,80,47,49,46,49,10,104,111,115,116,58,32,97,10,10]
 | 8=>[71,69,84,32,47,32,72,84,84,80,47,49,46,49,13,10,104,111,115,116,58,32,97,10,13,10]
 | 9=>[71,69,84,32,47,32,72,84,84,80,47,49,46,49,13,10,104,111,115,116,32,58,32,97,13,10,13,10]
 | 10=>[71,69,84,32,47,32,72,84,84,80,47,49,46,49,13,10,104,111,115,116,58,32,97,13,10,32,98,58,32,49,13,10,13,10]
 | 11=>[71,69,84,32,47,32,72,84,84,80,47,49,46,49,13,10,104,111,115,116,58,32,97,13,10,98,13,10,13,10]
 | 12=>[71,69,84,32,47,32,72,84,84,80,47,49,46,49,13,10,104,111,115,116,58,32,97,13,10,98,58,32,9,13,10,13,10]
 | 13=>[71,69,84,32,47,32,72,84,84,80,47,49,46,49,13,10,104,111,115,116,58,32,97,13,10,104,111,115,116,58,32,97,13,10,13,10]
 | 14=>[71,69,84,32,47,32,72,84,84,80,47,49,46,49,13,10,104,111,115,116,58,32,97,58,13,10,13,10]
 | 15=>[71,69,84,32,47,32,72,84,84,80,47,49,46,49,13,10,104,111,115,116,58,32,97,46,46,98,13,10,13,10]
 | 16=>[71,69,84,32,47,32,72,84,84,80,47,49,46,49,13,10,98,58,32,49,13,10,13,10]
 | 17=>[71,69,84,32,47,32,72,84,84,80,47,49,46,48,13,10,104,111,115,116,58,32,97,13,10,13,10]
 | 18=>[71,69,84,32,32,47,32,72,84,84,80,47,49,46,49,13,10,104,111,115,116,58,32,97,13,10,13,10]
 | 19=>[103,101,116,32,47,32,72,84,84,80,47,49,46,49,13,10,104,111,115,116,58,32,97,13,10,13,10]
 | 20=>[76,79,78,71,77,69,84,72,79,32,47,32,72,84,84,80,47,49,46,49,13,10,104,111,115,116,58,32,97,13,10,13,10]
 | 21=>[71,69,84,32,120,32,72,84,84,80,47,49,46,49,13,10,104,111,115,116,58,32,97,13,10,13,10]
 | 22=>[71,69,84,32,104,116,116,112,58,47,47,97,47,32,72,84,84,80,47,49,46,49,13,10,104,111,115,116,58,32,97,13,10,13,10]
 | 23=>[13,10,71,69,84,32,47,32,72,84,84,80,47,49,46,49,13,10,104,111,115,116,58,32,97,13,10,13,10]
 | 24=>([71,69,84,32,47,32,72,84,84,80,47,49,46,49,13,10]++Rf.many 12++[104,111,115,116,58,32,97,13,10,13,10])
 | 25=>([71,69,84,32,47,32,72,84,84,80,47,49,46,49,13,10,104,111,115,116,58,32,97,13,10,98,58,32]++Rf.long 601)
 | 26=>(Rf.long 601)
 | _=>[]
def Rf.c1:Nat->List UInt8
 | 0=>[72,84,84,80,47,49,46,49,32,53,48,49,32,78,111,116,32,73,109,112,108,101,109,101,110,116,101,100,13,10,99,111,110,110,101,99,116,105,111,110,58,32,99,108,111,115,101,13,10,99,111,110,116,101,110,116,45,108,101,110,103,116,104,58,32,48,13,10,13,10]
 | 1=>[72,84,84,80,47,49,46,49,32,52,48,48,32,66,97,100,32,82,101,113,117,101,115,116,13,10,99,111,110,110,101,99,116,105,111,110,58,32,99,108,111,115,101,13,10,99,111,110,116,101,110,116,45,108,101,110,103,116,104,58,32,48,13,10,13,10]
 | 2=>[72,84,84,80,47,49,46,49,32,52,48,48,32,66,97,100,32,82,101,113,117,101,115,116,13,10,99,111,110,110,101,99,116,105,111,110,58,32,99,108,111,115,101,13,10,99,111,110,116,101,110,116,45,108,101,110,103,116,104,58,32,48,13,10,13,10]
 | 3=>[72,84,84,80,47,49,46,49,32,52,48,48,32,66,97,100,32,82,101,113,117,101,115,116,13,10,99,111,110,110,101,99,116,105,111,110,58,32,99,108,111,115,101,13,10,99,111,110,116,101,110,116,45,108,101,110,103,116,104,58,32,48,13,10,13,10]
 | 4=>[72,84,84,80,47,49,46,49,32,52,48,48,32,66,97,100,32,82,101,113,117,101,115,116,13,10,99,111,110,110,101,99,116,105,111,110,58,32,99,108,111,115,101,13,10,99,111,110,116,101,110,116,45,108,101,110,103,116,104,58,32,48,13,10,13,10]
 | 5=>[72,84,84,80,47,49,46,49,32,52,48,48,32,66,97,100,32,82,101,113,117,101,115,116,13,10,99,111,110,110,101,99,116,105,111,110,58,32,99,108,111,115,101,13,10,99,111,110,116,101,110,116,45,108,101,110,103,116,104,58,32,48,13,10,13,10]
 | 6=>[72,84,84,80,47,49,46,49,32,52,49,51,32,67,111,110,116,101,110,116,32,84,111,111,32,76,97,114,103,101,13,10,99,111,110,110,101,99,116,105,111,110,58,32,99,108,111,115,101,13,10,99,111,110,116,101,110,116,45,108,101,110,103,116,104,58,32,48,13,10,13,10]
 | 7=>[72,84,84,80,47,49,46,49,32,52,48,48,32,66,97,100,32,82,101,113,117,101,115,116,13,10,99,111,110,110,101,99,116,105,111,110,58,32,99,108,111,115,101,13,10,99,111,110,116,101,110,116,45,108,101,110,103,116,104,58,32,48,13,10,13,10]
 | 8=>[72,84,84,80,47,49,46,49,32,52,48,48,32,66,97,100,32,82,101,113,117,101,115,116,13,10,99,111,110,110,101,99,116,105,111,110,58,32,99,108,111,115,101,13,10,99,111,110,116,101,110,116,45,108,101,110,103,116,104,58,32,48,13,10,13,10]
 | 9=>[72,84,84,80,47,49,46,49,32,52,48,48,32,66,97,100,32,82,101,113,117,101,115,116,13,10,99,111,110,110,101,99,116,105,111,110,58,32,99,108,111,115,101,13,10,99,111,110,116,101,110,116,45,108,101,110,103,116,104,58,32,48,13,10,13,10]
 | 10=>[72,84,84,80,47,49,46,49,32,52,48,48,32,66,97,100,32,82,101,113,117,101,115,116,13,10,99,111,110,110,101,99,116,105,111,110,58,32,99,108,111,115,101,13,10,99,111,110,116,101,110,116,45,108,101,110,103,116,104,58,32,48,13,10,13,10]
 | 11=>[72,84,84,80,47,49,46,49,32,52,48,48,32,66,97,100,32,82,101,113,117,101,115,116,13,10,99,111,110,110,101,99,116,105,111,110,58,32,99,108,111,115,101,13,10,99,111,110,116,101,110,116,45,108,101,110,103,116,104,58,32,48,13,10,13,10]
 | 12=>[72,84,84,80,47,49,46,49,32,52,48,48,32,66,97,100,32,82,101,113,117,101,115,116,13,10,99,111,110,110,101,99,116,105,111,110,58,32,99,108,111,115,101,13,10,99,111,110,116,101,110,116,45,108,101,110,103,116,104,58,32,48,13,10,13,10]
 | 13=>[72,84,84,80,47,49,46,49,32,52,48,48,32,66,97,100,32,82,101,113,117,101,115,116,13,10,99,111,110,110,101,99,116,105,111,110,58,32,99,108,111,115,101,13,10,99,111,110,116,101,110,116,45,108,101,110,103,116,104,58,32,48,13,10,13,10]
 | 14=>[72,84,84,80,47,49,46,49,32,52,48,48,32,66,97,100,32,82,101,113,117,101,115,116,13,10,99,111,110,110,101,99,116,105,111,110,58,32,99,108,111,115,101,13,10,99,111,110,116,101,110,116,45,108,101,110,103,116,104,58,32,48,13,10,13,10]
 | 15=>[72,84,84,80,47,49,46,49,32,52,48,48,32,66,97,100,32,82,101,113,117,101,115,116,13,10,99,111,110,110,101,99,116,105,111,110,58,32,99,108,111,115,101,13,10,99,111,110,116,101,110,116,45,108,101,110,103,116,104,58,32,48,13,10,13,10]
 | 16=>[72,84,84,80,47,49,46,49,32,52,48,48,32,66,97,100,32,82,101,113,117,101,115,116,13,10,99,111,110,110,101,99,116,105,111,110,58,32,99,108,111,115,101,13,10,99,111,110,116,101,110,116,45,108,101,110,103,116,104,58,32,48,13,10,13,10]
 | 17=>[72,84,84,80,47,49,46,49,32,52,48,48,32,66,97,100,32,82,101,113,117,101,115,116,13,10,99,111,110,110,101,99,116,105,111,110,58,32,99,108,111,115,101,13,10,99,111,110,116,101,110,116,45,108,101,110,103,116,104,58,32,48,13,10,13,10]
 | 18=>[72,84,84,80,47,49,46,49,32,52,48,48,32,66,97,100,32,82,101,113,117,101,115,116,13,10,99,111,110,110,101,99,116,105,111,110,58,32,99,108,111,115,101,13,10,99,111,110,116,101,110,116,45,108,101,110,103,116,104,58,32,48,13,10,13,10]
 | 19=>[72,84,84,80,47,49,46,49,32,52,48,48,32,66,97,100,32,82,101,113,117,101,115,116,13,10,99,111,110,110,101,99,116,105,111,110,58,32,99,108,111,115,101,13,10,99,111,110,116,101,110,116,45,108,101,110,103,116,104,58,32,48,13,10,13,10]
 | 20=>[72,84,84,80,47,49,46,49,32,52,48,48,32,66,97,100,32,82,101,113,117,101,115,116,13,10,99,111,110,110,101,99,116,105,111,110,58,32,99,108,111,115,101,13,10,99,111,110,116,101,110,116,45,108,101,110,103,116,104,58,32,48,13,10,13,10]
 | 21=>[72,84,84,80,47,49,46,49,32,52,48,48,32,66,97,100,32,82,101,113,117,101,115,116,13,10,99,111,110,110,101,99,116,105,111,110,58,32,99,108,111,115,101,13,10,99,111,110,116,101,110,116,45,108,101,110,103,116,104,58,32,48,13,10,13,10]
 | 22=>[72,84,84,80,47,49,46,49,32,52,48,48,32,66,97,100,32,82,101,113,117,101,115,116,13,10,99,111,110,110,101,99,116,105,111,110,58,32,99,108,111,115,101,13,10,99,111,110,116,101,110,116,45,108,101,110,103,116,104,58,32,48,13,10,13,10]
 | 23=>[72,84,84,80,47,49,46,49,32,52,48,48,32,66,97,100,32,82,101,113,117,101,115,116,13,10,99,111,110,110,101,99,116,105,111,110,58,32,99,108,111,115,101,13,10,99,111,110,116,101,110,116,45,108,101,110,103,116,104,58,32,48,13,10,13,10]
 | 24=>[72,84,84,80,47,49,46,49,32,52,51,49,32,82,101,113,117,101,115,116,32,72,101,97,100,101,114,32,70,105,101,108,100,115,32,84,111,111,32,76,97,114,103,101,13,10,99,111,110,110,101,99,116,105,111,110,58,32,99,108,111,115,101,13,10,99,111,110,116,101,110,116,45,108,101,110,103,116,104,58,32,48,13,10,13,10]
 | 25=>[72,84,84,80,47,49,46,49,32,52,51,49,32,82,101,113,117,101,115,116,32,72,101,97,100,101,114,32,70,105,101,108,100,115,32,84,111,111,32,76,97,114,103,101,13,10,99,111,110,110,101,99,116,105,111,110,58,32,99,108,111,115,101,13,10,99,111,110,116,101,110,116,45,108,101,110,103,116,104,58,32,48,13,10,13,10]
 | 26=>[72,84,84,80,47,49,46,49,32,52,51,49,32,82,101,113,117,101,115,116,32,72,101,97,100,101,114,32,70,105,101,108,100,115,32,84,111,111,32,76,97,114,103,101,13,10,99,111,110,110,101,99,116,105,111,110,58,32,99,108,111,115,101,13,10,99,111,110,116,101,110,116,45,108,101,110,103,116,104,58,32,48,13,10,13,10]
 | _=>[]
def Rf.y0:Yd:=Yd.new.opened.opened
def Rf.y1 (m i:Nat):Yd:=Rf.y0.fedP Rf.hs 0 (Rf.good++Rf.c0 m i++Rf.good)
def Rf.over (y:Yd):Bool:=decide (y.draws=[]) && (match y.conns with | [none,some (.hd h)]=>decide (h.size=0) && (decide (h.line=[]) && (decide (h.method=[]) && (decide (h.target=[]) && decide (h.headers=[])))) | _=>false)
theorem q77q:∀i,i<25->i≠6->(Rf.y1 0 i).sent=[⟨1,[117,112],Rf.good⟩,⟨1,[],Rf.c1 i⟩]/\Rf.over (Rf.y1 0 i)=true:=by decide +kernel
def Rf.ev:Ev:=⟨1,[117,112],Rf.good⟩
def Rf.yg:Yd:=⟨[],[some (.hd Rq.zero),some (.hd Rq.zero)],[Rf.ev]⟩
def Rf.hb:Rq.Head:=⟨28,[98,58,32],[71,69,84],[47],[([104,111,115,116],[97])]⟩
theorem q53q:Rf.y0.fedP Rf.hs 0 Rf.good=Rf.yg:=by kernel_rfl
theorem rf_b:Rf.yg.fedP Rf.hs 0 [71,69,84,32,47,32,72,84,84,80,47,49,46,49,13,10,104,111,115,116,58,32,97,13,10,98,58,32]=Rf.yg.put 0 (.hd Rf.hb):=by kernel_rfl
theorem rf_c:Rf.yg.fedP Rf.hs 0 Rf.cl=Rf.yg.put 0 (.hd ⟨41,[99,111,110,116,101,110,116,45,108,101,110,103,116,104,58,32],[71,69,84],[47],[([104,111,115,116],[97])]⟩):=by kernel_rfl
theorem q62q (n:Nat):∀c∈Rf.long n,c≠10:=fun c hc=>by unfold Rf.long at hc;rw[List.mem_replicate] at hc;rw[hc.2];decide
theorem q56q (a b:Nat):Rf.long (a+1+b)=Rf.long a++120 :: Rf.long b:=by
 unfold Rf.long
 rw[Nat.add_assoc,<-List.replicate_append_replicate,Nat.add_comm 1 b,List.replicate_succ]
theorem zs0 (m:Nat):(Rf.y1 m 26).sent=[⟨1,[117,112],Rf.good⟩,⟨1,[],Rf.c1 26⟩]/\Rf.over (Rf.y1 m 26)=true:=by
 have e:Rf.y1 m 26=(Rf.yg.send ⟨0+1,[],Rq.tooMuch⟩).ended 0:=by
  have ec:Rf.c0 m 26=Rf.long 601:=rfl
  have el:Rf.long 601=Rf.long 600++120 :: Rf.long 0:=q56q 600 0
  unfold Rf.y1
  rw[ec,zeB,zeB,q53q,<-zeB,el,xY,List.cons_append]
  exact q55q (h:=Rq.zero) rfl _ _ _ (q62q 600) (by unfold Rf.long;rw[List.length_replicate];rfl)
 rw[e]
 exact⟨rfl,rfl⟩
theorem zrZ (m:Nat):(Rf.y1 m 25).sent=[⟨1,[117,112],Rf.good⟩,⟨1,[],Rf.c1 25⟩]/\Rf.over (Rf.y1 m 25)=true:=by
 have e:Rf.y1 m 25=((Rf.yg.put 0 (.hd Rf.hb)).send ⟨0+1,[],Rq.tooMuch⟩).ended 0:=by
  have ec:Rf.c0 m 25=[71,69,84,32,47,32,72,84,84,80,47,49,46,49,13,10,104,111,115,116,58,32,97,13,10,98,58,32]++Rf.long 601:=rfl
  have el:Rf.long 601=Rf.long 572++120 :: Rf.long 28:=q56q 572 28
  unfold Rf.y1
  rw[ec,zeB,zeB,q53q,zeB,rf_b,<-zeB,el,xY,List.cons_append]
  exact q55q (h:=Rf.hb) rfl _ _ _ (q62q 572) (by unfold Rf.long;rw[List.length_replicate];rfl)
 rw[e]
 exact⟨rfl,rfl⟩
theorem q61q (d:List UInt8)(hd:∀c∈d,R.digitI c.toNat=true)(h0:d≠[]):Lib.trimB (32 :: d) 32=d:=by
 have aa:∀c∈d,(c == (32:UInt8))=false:=fun c hc=>by
  have:=hd c hc
  cases e:(c == (32:UInt8)) with
  | false=>rfl
  | true=>rw[beq_iff_eq] at e;rw[e] at this;exact absurd this (by decide)
 have dw:∀(l r:List UInt8),l≠[]->(∀c∈l,(c == (32:UInt8))=false)->(l++r).dropWhile (· == 32)=l++r:=fun l r hl hc=>by
  cases l with
  | nil=>exact absurd rfl hl
  | cons x t=>rw[List.cons_append,List.dropWhile_cons,hc x List.mem_cons_self];rfl
 unfold Lib.trimB Lib.trimRightB Lib.trimLeftB
 rw[List.reverse_cons,dw d.reverse [32] (by simpa using h0) (fun c hc=>aa c (List.mem_reverse.1 hc))]
 rw[List.reverse_append,List.reverse_reverse]
 show(32 :: d).dropWhile (· == 32)=d
 rw[List.dropWhile_cons,if_pos (show((32:UInt8) == 32)=true from rfl)]
 have:=dw d [] h0 aa
 rwa[xn] at this
theorem q73q (r:List UInt8):∀(aa:List UInt8),(∀c∈aa,c≠58)->Lib.index (aa++58 :: r) [58]=(aa.length:Nat)
 | [],_=>by unfold Lib.index;rfl
 | b :: l,h=>by
  have h1:=q73q r l (fun c hc=>h c (List.mem_cons_of_mem _ hc))
  have hb:((58:UInt8) == b)=false:=by
   cases e:((58:UInt8) == b) with
   | false=>rfl
   | true=>rw[beq_iff_eq] at e;exact absurd e.symm (h b List.mem_cons_self)
  rw[List.cons_append,Lib.index,h1]
  have hp:List.isPrefixOf [58] (b :: (l++58 :: r))=false:=by unfold List.isPrefixOf;rw[hb];rfl
  rw[hp,if_neg (by decide),if_neg (by simp),zm]
  omega
theorem zrE (d:List UInt8):Lib.cut ([99,111,110,116,101,110,116,45,108,101,110,103,116,104,58,32]++d) [58]=(Rq.sCl,32 :: d,true):=by
 have h1:=q73q (32 :: d) Rq.sCl (by decide)
 have e:Rq.sCl++58 :: (32 :: d)=[99,111,110,116,101,110,116,45,108,101,110,103,116,104,58,32]++d:=rfl
 rw[e] at h1
 unfold Lib.cut
 rw[h1,if_pos (by omega)]
 rfl
theorem q78q (l:List UInt8)(c:UInt8):Rq.unend (l++[c]) c=(l,true):=by
 unfold Rq.unend
 rw[if_pos (by unfold Lib.hasSuffix;simp)]
 simp
theorem rf_6 (m:Nat)(h1:301<=m)(h2:m<=99999):(Rf.y1 m 6).sent=[⟨1,[117,112],Rf.good⟩,⟨1,[],Rf.c1 6⟩]/\Rf.over (Rf.y1 m 6)=true:=by
 have aa:=zh8 m
 have ad:=zqA m
 have ah:(R.dec m).length<=5:=R.dec_len m 4 (by omega)
 have ai:=zpC m h2
 have ab:=zrE (R.dec m)
 have ao:=q61q (R.dec m) aa ad
 have e:Rf.y1 m 6=(Rf.yg.send ⟨0+1,[],Rq.tooLarge⟩).ended 0:=by
  have ec:Rf.c0 m 6=Rf.cl++R.dec m++[13,10,13,10]:=rfl
  unfold Rf.y1
  rw[ec]
  have ea:Rf.good++(Rf.cl++R.dec m++[13,10,13,10])++Rf.good=Rf.good++(Rf.cl++((R.dec m++[13])++(10 :: ([13,10]++Rf.good)))):=by simp
  rw[ea,zeB,q53q,zeB,rf_c,zeB]
  have ae:(Rf.yg.put 0 (.hd ⟨41,[99,111,110,116,101,110,116,45,108,101,110,103,116,104,58,32],[71,69,84],[47],[([104,111,115,116],[97])]⟩)).conns[0]?=some (some (.hd ⟨41,[99,111,110,116,101,110,116,45,108,101,110,103,116,104,58,32],[71,69,84],[47],[([104,111,115,116],[97])]⟩)):=rfl
  have hl:=q65q (hs:=Rf.hs) (R.dec m++[13]) ae (fun c hc=>by
   rcases List.mem_append.1 hc with q | q
   ·have:=aa c q
    intro e;rw[e] at this;exact absurd this (by decide)
   ·simp at q;rw[q];decide) (by rw[zW];show 41+((R.dec m).length+1)<=600;omega)
  rw[hl,q50q,q7q]
  have ak:Rq.readOk ([99,111,110,116,101,110,116,45,108,101,110,103,116,104,58,32]++R.dec m)=true:=by
   unfold Rq.readOk
   rw[ab]
   simp only[Bool.true_and]
   have hw:R.word Rq.sCl true=true:=by decide +kernel
   rw[hw,Bool.true_and]
   unfold R.allB
   rw[List.all_cons,List.all_eq_true.2 (fun c hc=>?_)]
   ·rfl
   ·have h9:=aa c hc
    unfold R.digitI at h9
    simp only[Bool.and_eq_true,decide_eq_true_eq] at h9
    unfold Rq.vlI
    simp only[Bool.and_eq_true,decide_eq_true_eq]
    omega
  have af:Rq.readHd ([99,111,110,116,101,110,116,45,108,101,110,103,116,104,58,32]++R.dec m)=(Rq.sCl,R.dec m):=by
   unfold Rq.readHd
   rw[ab,ao]
   rfl
  have ag:Rq.isNumber (R.dec m)=true:=by
   unfold Rq.isNumber
   rw[decide_eq_true ad,decide_eq_true ah]
   unfold R.allB
   simp only[Bool.true_and]
   exact List.all_eq_true.2 aa
  have al:∀(hds:List Hd),hds=[([104,111,115,116],[97])]->Rq.refusal (Rq.sCl,R.dec m) hds=Rq.tooLarge:=fun hds e=>by
   subst e
   unfold Rq.refusal
   rw[if_neg (by decide),if_neg (show ¬Rq.sCl=Rq.sTe by decide),if_pos rfl]
   unfold Rq.lengthRefusal
   have hh:Rq.has Rq.sCl [([104,111,115,116],[97])]=false:=by decide +kernel
   rw[hh,ag]
   show(if false=true then _ else if 300<Rq.num (R.dec m) then Rq.tooLarge else [])=_
   rw[if_neg (by decide),if_pos (by unfold Rq.num;rw[ai];omega)]
  have ap:Rq.unend ([99,111,110,116,101,110,116,45,108,101,110,103,116,104,58,32]++(R.dec m++[13])) 13=([99,111,110,116,101,110,116,45,108,101,110,103,116,104,58,32]++R.dec m,true):=by
   rw[<-xY];exact q78q _ _
  have an:(R.dec m++[13]).length=(R.dec m).length+1:=by simp
  have ht:Rq.take (⟨41+(R.dec m++[13]).length,[99,111,110,116,101,110,116,45,108,101,110,103,116,104,58,32]++(R.dec m++[13]),[71,69,84],[47],[([104,111,115,116],[97])]⟩:Rq.Head) 10=(Rq.add (⟨41+(R.dec m++[13]).length+1,[],[71,69,84],[47],[([104,111,115,116],[97])]⟩:Rq.Head) ([99,111,110,116,101,110,116,45,108,101,110,103,116,104,58,32]++R.dec m),false,Rq.tooLarge):=by
   unfold Rq.take
   rw[if_neg (by rw[an];show ¬600<41+((R.dec m).length+1)+1;omega),if_pos rfl]
   unfold Rq.look
   simp only[ap]
   rw[if_pos trivial,if_neg (by decide),if_neg (by simp)]
   unfold Rq.addOut
   rw[ak,if_pos rfl,af,al _ rfl]
  have am:=q60q (hs:=Rf.hs) (m:=0) (y:=Rf.yg.put 0 (.hd ⟨41+(R.dec m++[13]).length,[99,111,110,116,101,110,116,45,108,101,110,103,116,104,58,32]++(R.dec m++[13]),[71,69,84],[47],[([104,111,115,116],[97])]⟩)) rfl ht (by decide)
  rw[am]
  have aj:(((Rf.yg.put 0 (.hd ⟨41+(R.dec m++[13]).length,[99,111,110,116,101,110,116,45,108,101,110,103,116,104,58,32]++(R.dec m++[13]),[71,69,84],[47],[([104,111,115,116],[97])]⟩)).put 0 (.hd (Rq.add (⟨41+(R.dec m++[13]).length+1,[],[71,69,84],[47],[([104,111,115,116],[97])]⟩:Rq.Head) ([99,111,110,116,101,110,116,45,108,101,110,103,116,104,58,32]++R.dec m)))).send ⟨0+1,[],Rq.tooLarge⟩).ended 0=(Rf.yg.send ⟨0+1,[],Rq.tooLarge⟩).ended 0:=by
   unfold Yd.put Yd.send Yd.ended;simp only[List.set_set]
  rw[aj]
  exact zjX _ _ _ _ (by decide)
 rw[e]
 exact⟨rfl,rfl⟩
end Go.Proofs.YtfocdefchbnkpaaGreatDoor
