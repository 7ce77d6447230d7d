/- The yard: what becomes of a request while there is no policy. -/
import Derived.Test.YtfocdefchbnkpaaGreatDoorAli
import Derived.Test.YtfocdefchbnkpaaGreatDoorYdC
set_option maxRecDepth 100000
set_option maxHeartbeats 20000000
namespace Go.Proofs.YtfocdefchbnkpaaGreatDoor
open Go.RowKit
def Yd.noPolicy:List UInt8:=[72,84,84,80,47,49,46,49,32,53,48,51,32,83,101,114,118,105,99,101,32,85,110,97,118,97,105,108,97,98,108,101,13,10,99,111,110,116,101,110,116,45,108,101,110,103,116,104,58,32,48,13,10,13,10]
def Yd.noRoute:List UInt8:=[72,84,84,80,47,49,46,49,32,52,48,52,32,78,111,116,32,70,111,117,110,100,13,10,99,111,110,116,101,110,116,45,108,101,110,103,116,104,58,32,48,13,10,13,10]
theorem q51q {w:World}{yb cb B:Nat}{wt:Value}{h:Rq.Head}(hI:HInv w cb B wt h)(hy:w.cell? ⟨yb,0,none⟩=some (.pointer none))(hn:h.headers.length<=100000)(hv:Rq.value Rq.sCl h.headers=[]\/Rq.isNumber (Rq.value Rq.sCl h.headers)=true)(hE:GE w) :
  Calls Tryz.prog 80 #[.pointer (some ⟨yb,0,none⟩),.pointer (some ⟨cb,0,none⟩)] w fun e w'=>∃pb,e = .returned (.pointer (some ⟨pb,0,none⟩))/\PcAt w' pb w.heap.size ⟨[],Yd.noPolicy,Rq.body h⟩/\w.grownBy w' none:=by
 have gB:=hid (zJ w (.cells #[.int .u8 72,.int .u8 84,.int .u8 84,.int .u8 80,.int .u8 47,.int .u8 49,.int .u8 46,.int .u8 49,.int .u8 32,.int .u8 53,.int .u8 48,.int .u8 51,.int .u8 32,.int .u8 83,.int .u8 101,.int .u8 114,.int .u8 118,.int .u8 105,.int .u8 99,.int .u8 101,.int .u8 32,.int .u8 85,.int .u8 110,.int .u8 97,.int .u8 118,.int .u8 97,.int .u8 105,.int .u8 108,.int .u8 97,.int .u8 98,.int .u8 108,.int .u8 101,.int .u8 13,.int .u8 10,.int .u8 99,.int .u8 111,.int .u8 110,.int .u8 116,.int .u8 101,.int .u8 110,.int .u8 116,.int .u8 45,.int .u8 108,.int .u8 101,.int .u8 110,.int .u8 103,.int .u8 116,.int .u8 104,.int .u8 58,.int .u8 32,.int .u8 48,.int .u8 13,.int .u8 10,.int .u8 13,.int .u8 10] 5 (55,56)) none)
 have HB:=hid (heap_alloc_new w (.cells #[.int .u8 72,.int .u8 84,.int .u8 84,.int .u8 80,.int .u8 47,.int .u8 49,.int .u8 46,.int .u8 49,.int .u8 32,.int .u8 53,.int .u8 48,.int .u8 51,.int .u8 32,.int .u8 83,.int .u8 101,.int .u8 114,.int .u8 118,.int .u8 105,.int .u8 99,.int .u8 101,.int .u8 32,.int .u8 85,.int .u8 110,.int .u8 97,.int .u8 118,.int .u8 97,.int .u8 105,.int .u8 108,.int .u8 97,.int .u8 98,.int .u8 108,.int .u8 101,.int .u8 13,.int .u8 10,.int .u8 99,.int .u8 111,.int .u8 110,.int .u8 116,.int .u8 101,.int .u8 110,.int .u8 116,.int .u8 45,.int .u8 108,.int .u8 101,.int .u8 110,.int .u8 103,.int .u8 116,.int .u8 104,.int .u8 58,.int .u8 32,.int .u8 48,.int .u8 13,.int .u8 10,.int .u8 13,.int .u8 10] 5 (55,56)))
 have HC:=hid (zfA (hI.keep gB.o) hn hv (hE.grown gB.o))
 have ab:(convert 32 32 (.slice (some ⟨w.heap.size,0,none⟩) 55 55)).run Tryz.prog (w.alloc (.cells #[.int .u8 72,.int .u8 84,.int .u8 84,.int .u8 80,.int .u8 47,.int .u8 49,.int .u8 46,.int .u8 49,.int .u8 32,.int .u8 53,.int .u8 48,.int .u8 51,.int .u8 32,.int .u8 83,.int .u8 101,.int .u8 114,.int .u8 118,.int .u8 105,.int .u8 99,.int .u8 101,.int .u8 32,.int .u8 85,.int .u8 110,.int .u8 97,.int .u8 118,.int .u8 97,.int .u8 105,.int .u8 108,.int .u8 97,.int .u8 98,.int .u8 108,.int .u8 101,.int .u8 13,.int .u8 10,.int .u8 99,.int .u8 111,.int .u8 110,.int .u8 116,.int .u8 101,.int .u8 110,.int .u8 116,.int .u8 45,.int .u8 108,.int .u8 101,.int .u8 110,.int .u8 103,.int .u8 116,.int .u8 104,.int .u8 58,.int .u8 32,.int .u8 48,.int .u8 13,.int .u8 10,.int .u8 13,.int .u8 10] 5)) = .ok (.slice (some ⟨w.heap.size,0,none⟩) 55 55) (w.alloc (.cells #[.int .u8 72,.int .u8 84,.int .u8 84,.int .u8 80,.int .u8 47,.int .u8 49,.int .u8 46,.int .u8 49,.int .u8 32,.int .u8 53,.int .u8 48,.int .u8 51,.int .u8 32,.int .u8 83,.int .u8 101,.int .u8 114,.int .u8 118,.int .u8 105,.int .u8 99,.int .u8 101,.int .u8 32,.int .u8 85,.int .u8 110,.int .u8 97,.int .u8 118,.int .u8 97,.int .u8 105,.int .u8 108,.int .u8 97,.int .u8 98,.int .u8 108,.int .u8 101,.int .u8 13,.int .u8 10,.int .u8 99,.int .u8 111,.int .u8 110,.int .u8 116,.int .u8 101,.int .u8 110,.int .u8 116,.int .u8 45,.int .u8 108,.int .u8 101,.int .u8 110,.int .u8 103,.int .u8 116,.int .u8 104,.int .u8 58,.int .u8 32,.int .u8 48,.int .u8 13,.int .u8 10,.int .u8 13,.int .u8 10] 5 (55,56))):=Lib.run_convert_bytes_const (P:=Tryz.prog) w 32 5 #[.int .u8 72,.int .u8 84,.int .u8 84,.int .u8 80,.int .u8 47,.int .u8 49,.int .u8 46,.int .u8 49,.int .u8 32,.int .u8 53,.int .u8 48,.int .u8 51,.int .u8 32,.int .u8 83,.int .u8 101,.int .u8 114,.int .u8 118,.int .u8 105,.int .u8 99,.int .u8 101,.int .u8 32,.int .u8 85,.int .u8 110,.int .u8 97,.int .u8 118,.int .u8 97,.int .u8 105,.int .u8 108,.int .u8 97,.int .u8 98,.int .u8 108,.int .u8 101,.int .u8 13,.int .u8 10,.int .u8 99,.int .u8 111,.int .u8 110,.int .u8 116,.int .u8 101,.int .u8 110,.int .u8 116,.int .u8 45,.int .u8 108,.int .u8 101,.int .u8 110,.int .u8 103,.int .u8 116,.int .u8 104,.int .u8 58,.int .u8 32,.int .u8 48,.int .u8 13,.int .u8 10,.int .u8 13,.int .u8 10] 55 55 Tryz.underlying32 Tryz.underlying5
 clear hI hn hv hE
 go_enter Tryz.func80,Tryz.ntmps80
 go_wp2_with fail
 refine HC.o.mono ?_
 rintro e w1 ⟨rfl,g1⟩
 have gA:=zJ w1 (.cells #[.string ⟨#[]⟩,.slice (some ⟨w.heap.size,0,none⟩) 55 55,.int .i64 (Rq.body h)] 172) none
 have aa:Y (PcAt (w1.alloc (.cells #[.string ⟨#[]⟩,.slice (some ⟨w.heap.size,0,none⟩) 55 55,.int .i64 (Rq.body h)] 172)) w1.heap.size w.heap.size ⟨[],Yd.noPolicy,Rq.body h⟩/\w.grownBy (w1.alloc (.cells #[.string ⟨#[]⟩,.slice (some ⟨w.heap.size,0,none⟩) 55 55,.int .i64 (Rq.body h)] 172)) none):=by
  have hs:=(zA gB.o g1).size
  exact⟨⟨⟨_,heap_alloc_new w1 (.cells #[.string ⟨#[]⟩,.slice (some ⟨w.heap.size,0,none⟩) 55 55,.int .i64 (Rq.body h)] 172),Or.inr ⟨rfl,w.heap.size,55,#[.int .u8 72,.int .u8 84,.int .u8 84,.int .u8 80,.int .u8 47,.int .u8 49,.int .u8 46,.int .u8 49,.int .u8 32,.int .u8 53,.int .u8 48,.int .u8 51,.int .u8 32,.int .u8 83,.int .u8 101,.int .u8 114,.int .u8 118,.int .u8 105,.int .u8 99,.int .u8 101,.int .u8 32,.int .u8 85,.int .u8 110,.int .u8 97,.int .u8 118,.int .u8 97,.int .u8 105,.int .u8 108,.int .u8 97,.int .u8 98,.int .u8 108,.int .u8 101,.int .u8 13,.int .u8 10,.int .u8 99,.int .u8 111,.int .u8 110,.int .u8 116,.int .u8 101,.int .u8 110,.int .u8 116,.int .u8 45,.int .u8 108,.int .u8 101,.int .u8 110,.int .u8 103,.int .u8 116,.int .u8 104,.int .u8 58,.int .u8 32,.int .u8 48,.int .u8 13,.int .u8 10,.int .u8 13,.int .u8 10],(55,56),rfl,zZ _,zB (zB HB.o g1 (by simp)) gA (by simp),fun j u hu=>by rw[<-hu,<-List.getElem?_toArray];rfl⟩⟩,hs⟩,zA (zA gB.o g1) gA⟩
 clear HC g1 gA ab gB HB
 go_wp2
 go_ret
 exact⟨_,rfl,aa.o⟩
theorem YInv.conn {w w':World}{yb B cb m:Nat}{tv tv':Value}{ps:List (Option Nat)}{y y':Yd}{row:Option Nat}{c':Cn}(h:YInv w yb B tv ps y)(ht:tv.ownBlock=none)(hm:ps[m]?=some (some cb))(mv:CMv w w' cb row)(aa:∀k,row=some k->k=yb)(hc:CAt w' cb B c')
  (ab:∃vd vc vs,w'.heap[yb]?=some (.cells #[tv',vd,vc,vs] 99 (0,0))/\QRow w' B 60 vd (y'.draws.map drawV)/\w'.ownsRow B 100 1 vc ps.length (ps.map ptrV)/\w'.ownsRow B 44 3 vs y'.sent.length (evCells y'.sent))
  (hf:∀k,HF w' yb k->HF w yb k\/w.heap.size<=k) (hy:y'.conns=y.conns.set m (some c')):YInv w' yb B tv' ps y'/\YMv w w' yb ps ps:=by
 have ad:m<ps.length:=(List.getElem?_eq_some_iff.1 hm).1
 have hl:=h.len
 have kp:∀i cb':Nat,i≠m->ps[i]?=some (some cb')->∀k,CF w cb' k->w'.heap[k]?=w.heap[k]?:=fun i cb' hne hi k hk=>by
  obtain⟨c,_,q⟩:=h.here i cb' hi
  refine mv.turn.block k (q.lt hk) (fun hF=>?_)
  rcases hF with hF | hF
  ·exact h.apart i m cb' cb hne hi hm k hk hF
  ·exact j0 (h.hf ht (Or.inl (aa k hF))).2 (q.cf hk).2
 have cf:∀i cb':Nat,i≠m->ps[i]?=some (some cb')->∀k,CF w' cb' k->CF w cb' k/\k<w.heap.size:=fun i cb' hne hi k hk=>by
  obtain⟨c,_,q⟩:=h.here i cb' hi
  have:=(q.keep (kp i cb' hne hi)).2 k hk
  exact⟨this,q.lt this⟩
 refine⟨⟨ab,h.low,by rw[hy,List.length_set];exact hl,fun i cb' hi=>?_,fun i hi=>?_,fun i j ca cb' hij hi hj k q q'=>?_⟩,⟨⟨mv.turn.os,mv.turn.tape,mv.turn.output,mv.turn.size,fun k hk hn=>mv.turn.block k hk (fun hF=>?_)⟩,fun k hF=>?_⟩⟩
 ·by_cases e:i=m
  ·subst e
   rw[hm] at hi
   have e2:cb=cb':=by simpa using hi
   subst e2
   exact⟨c',by rw[hy,List.getElem?_set_self (by omega)],hc⟩
  ·obtain⟨c,q1,q2⟩:=h.here i cb' hi
   exact⟨c,by rw[hy,List.getElem?_set_ne (fun e2=>e e2.symm)];exact q1,(q2.keep (kp i cb' e hi)).1⟩
 ·have e:m≠i:=fun e=>by subst e;rw[hm] at hi;simp at hi
  rw[hy,List.getElem?_set_ne e]
  exact h.gone i hi
 ·by_cases e1:i=m
  ·subst e1
   rw[hm] at hi
   have e2:cb=ca:=by simpa using hi
   subst e2
   have q2:=cf j cb' (fun e=>hij e.symm) hj k q'
   rcases mv.foot k q with q3 | q3
   ·exact h.apart i j cb cb' hij hm hj k q3 q2.1
   ·omega
  ·by_cases e2:j=m
   ·subst e2
    rw[hm] at hj
    have e3:cb=cb':=by simpa using hj
    subst e3
    have q2:=cf i ca e1 hi k q
    rcases mv.foot k q' with q3 | q3
    ·exact h.apart i j ca cb hij hi hm k q2.1 q3
    ·omega
   ·exact h.apart i j ca cb' hij hi hj k (cf i ca e1 hi k q).1 (cf j cb' e2 hj k q').1
 ·rcases hF with hF | hF
  ·exact hn (Or.inr ⟨m,cb,hm,hF⟩)
  ·exact hn (Or.inl (Or.inl (aa k hF)))
 ·rcases hF with hF | ⟨i,cb',hi,hF⟩
  ·rcases hf k hF with q | q
   ·exact Or.inl (Or.inl q)
   ·exact Or.inr q
  ·by_cases e:i=m
   ·subst e
    rw[hm] at hi
    have e2:cb=cb':=by simpa using hi
    subst e2
    rcases mv.foot k hF with q | q
    ·exact Or.inl (Or.inr ⟨i,cb,hm,q⟩)
    ·exact Or.inr q
   ·exact Or.inl (Or.inr ⟨i,cb',hi,(cf i cb' e hi k hF).1⟩)
def Yd.put (y:Yd)(m:Nat)(c:Cn):Yd:={ y with conns:=y.conns.set m (some c) }
theorem YInv.put {w w':World}{yb B cb m:Nat}{tv:Value}{ps:List (Option Nat)}{y:Yd}{c':Cn}(h:YInv w yb B tv ps y)(ht:tv.ownBlock=none)(hm:ps[m]?=some (some cb))(mv:CMv w w' cb none)(hc:CAt w' cb B c'):YInv w' yb B tv ps (y.put m c')/\YMv w w' yb ps ps:=by
 obtain⟨c,_,q⟩:=h.here m cb hm
 have kp:∀k,HF w yb k->w'.heap[k]?=w.heap[k]?:=fun k hk=>by
  obtain⟨_,cs,t,e,ab⟩:=h.hf ht hk
  refine mv.turn.block k (zE e) (fun hF=>?_)
  rcases hF with hF | hF
  ·exact j0 ⟨cs,t,e,ab⟩ (q.cf hF).2
  ·cases hF
 obtain⟨vd,vc,vs,h1,h2,h3,h4⟩:=h.ex
 have aa:w'.heap[yb]?=w.heap[yb]?:=kp yb (Or.inl rfl)
 exact h.conn ht hm mv (fun k e=>by cases e) hc ⟨vd,vc,vs,aa.trans h1,h2.keep mv.turn.size (fun k e=>kp k (Or.inr ⟨1,vd,z8 h1,e⟩)),xA h3 (fun k e=>kp k (Or.inr ⟨2,vc,z8 h1,e⟩)),xA h4 (fun k e=>kp k (Or.inr ⟨3,vs,z8 h1,e⟩))⟩ (fun k hF=>Or.inl (jo aa hF)) rfl
theorem DatAt.conv {w:World}{B:Nat}{p:Pc}{a:Option Addr}{k:Nat}(h:DatAt w B p (.slice a p.data.length k)):(convert 32 9 (.slice a p.data.length k)).run Tryz.prog w = .ok (.string (R.str p.data)) w:=by
 rcases h with ⟨ao,b,off,cap,e,hc,_⟩ | ⟨_,g,cap,cur,f,e,h1,h2,h3⟩
 ·simp only[qc,true_and] at e
  obtain⟨rfl,rfl⟩:=e
  refine jB ?_
  by_cases h0:p.data=[]
  ·rw[h0];exact Or.inl ⟨_,_,rfl,rfl⟩
  ·have hl:=List.length_pos_iff.2 h0
   have aa:=hc.le
   have ha:=hc.addr (by omega)
   subst ha
   refine Or.inr ⟨b,off,k,rfl,aa,hc.lt (by omega),fun j u hu=>hc.olds j _ ?_⟩
   unfold Lib.byteCells;rw[List.getElem?_map,hu];rfl
 ·simp only[qc,true_and] at e
  obtain⟨rfl,rfl⟩:=e
  exact run_convert_bytes_back w _ _ _ ⟨g,0,none⟩ k p.data Tryz.underlying32 Tryz.underlying5 Tryz.underlying9 (fun j hj=>by
   rw[jL,Nat.zero_add]
   have hb:(Lib.byteCells p.data)[j]?=some (.int .u8 (p.data[j]).toNat):=by
    unfold Lib.byteCells;rw[List.getElem?_map,qN hj];rfl
   have h4:=h3 j _ hb
   rw[z8 h2]
   exact h4)
theorem YInv.lt {w:World}{yb B k:Nat}{tv:Value}{ps:List (Option Nat)}{y:Yd}(h:YInv w yb B tv ps y)(ht:tv.ownBlock=none)(hk:YF w yb ps k):k<w.heap.size:=by
 rcases hk with hk | ⟨i,cb,hi,hk⟩
 ·obtain⟨_,cs,t,e,_⟩:=h.hf ht hk
  exact zE e
 ·obtain⟨c,_,q⟩:=h.here i cb hi
  exact q.lt hk
theorem YInv.grown {w w':World}{yb B:Nat}{tv:Value}{ps:List (Option Nat)}{y:Yd}(h:YInv w yb B tv ps y)(ht:tv.ownBlock=none)(g:w.grownBy w' none):YInv w' yb B tv ps y/\YMv w w' yb ps ps:=by
 obtain⟨h1,h2⟩:=h.keep g.size (fun k hF=>g.block k (h.lt ht hF) (by simp))
 exact⟨h1,⟨g.os,g.tape,g.output,g.size,fun k hk _=>g.block k hk (by simp)⟩,fun k hk=>Or.inl (h2 k hk)⟩
def Yd.ready (y:Yd)(m:Nat):Yd:=
 match y.conns[m]? with
 | some (some (.bd p))=>if p.left=0 then (y.put m (.hd Rq.zero)).send ⟨m+1,p.dst,p.data⟩ else y
 | _=>y
def Yd.after (y:Yd)(m:Nat)(r:List UInt8):Yd:=if r=[] then y.ready m else (y.send ⟨m+1,[],r⟩).ended m
def psAfter (ps:List (Option Nat))(m:Nat)(r:List UInt8):List (Option Nat):=if r=[] then ps else ps.set m none
theorem vN {w:World}{yb B cb m:Nat}{tv:Value}{ps:List (Option Nat)}{y y1:Yd}(h:YInv w yb B tv ps y)(ht:tv.ownBlock=none)(hm:ps[m]?=some (some cb))(c:UInt8)(r:List UInt8)
  (hT:Calls Tryz.prog 79 #[.pointer (some ⟨cb,0,none⟩),.int .u8 c.toNat,.func (.func 80) #[.pointer (some ⟨yb,0,none⟩)] #[]] w fun e w'=>e = .returned (.string (R.str r))/\YInv w' yb B tv ps y1/\YMv w w' yb ps ps) (hs:y1.sent.length<=100000000) (hl:ps.length<=1000000) (hB:B<=w.heap.size) :
  Calls Tryz.prog 47 #[.pointer (some ⟨yb,0,none⟩),.int .i64 (m+1:Nat),.int .u8 c.toNat] w fun e w'=>e = .returned (.tuple #[])/\YInv w' yb B tv (psAfter ps m r) (y1.after m r)/\YMv w w' yb ps (psAfter ps m r):=by
 obtain⟨vd,vc,vs,h1,h2,h3,h4⟩:=h.ex
 obtain⟨ca,ck,rfl⟩:=zP h3
 have k2:w.cell? ⟨yb,2,none⟩=some (.slice ca ps.length ck):=z8 h1
 have ad:m<ps.length:=(List.getElem?_eq_some_iff.1 hm).1
 obtain⟨g,aj,rfl,rfl,c1,_⟩:=fy h3 m ad
 have al:(m:Int)<ps.length:=by omega
 have ah:ps[m]=some cb:=by rw[qN ad] at hm;exact qk hm
 rw[ah] at c1
 simp only[ptrV] at c1
 have HT:=hid hT
 have HM:=hid hm
 have HA:Y (y1.after m r=if r=[] then y1.ready m else (y1.send ⟨m+1,[],r⟩).ended m):=rfl
 have HP:Y (psAfter ps m r=if r=[] then ps else ps.set m none):=rfl
 clear h h1 h2 h3 h4 hT hm ah
 generalize y1.after m r=y9 at*
 generalize psAfter ps m r=ps9 at*
 have e0:=jJ r
 go_enter Tryz.func47,Tryz.ntmps47
 go_wp2_with fail
 refine HT.o.mono ?_
 rintro e w1 ⟨rfl,i1,m1⟩
 have I1:=hid i1
 have M1:=hid m1
 have am:=m1.turn.size
 clear HT i1 m1 k2 c1
 by_cases hr:r=[]
 ·rw[decide_eq_true hr] at e0
  rw[if_pos hr] at HA HP
  subst hr
  obtain⟨c9,ec,ab⟩:=I1.o.here m cb HM.o
  cases c9 with
  | hd hh=>
   have HE:Y (y9=y1):=by show _=_;rw[HA.o];unfold Yd.ready;rw[ec]
   have aa:=hid (zcQ ab)
   clear ab ec HA
   go_wp2_with fail
   refine aa.o.mono ?_
   rintro e w2 ⟨rfl,rfl⟩
   clear aa
   go_wp2
   go_end0
   exact⟨rfl,by rw[HE.o,HP.o];exact I1.o,by rw[HP.o];exact M1.o⟩
  | bd p=>
   by_cases h0:p.left=0
   ·have HE:Y (y9=(y1.put m (.hd Rq.zero)).send ⟨m+1,p.dst,p.data⟩):=by show _=_;rw[HA.o];unfold Yd.ready;rw[ec];exact if_pos h0
    have aa:=hid (tY (row:=none) ab h0)
    clear ab ec HA h0
    go_wp2_with fail
    refine aa.o.mono ?_
    rintro e w2 ⟨pb,rfl,ag,pa,mv,_,_⟩
    obtain⟨P2,Q2⟩:=I1.o.put ht HM.o mv ag
    have HS:Y (∀W,w2.grownBy W none->Calls Tryz.prog 81 #[.pointer (some ⟨yb,0,none⟩),.int .i64 (m+1:Nat),.string (R.str p.dst),.string (R.str p.data)] W fun e w'=>e = .returned (.tuple #[])/\Y (YInv w' yb B tv ps y9)/\Y (YMv w w' yb ps ps)):=fun W hW=>by
     obtain⟨k1,k2⟩:=P2.grown ht hW
     refine(zfS k1 ht (m+1) p.dst p.data (by show y1.sent.length<=_;omega) (by have:=hW.size;have:=mv.turn.size;omega)).mono ?_
     rintro e w' ⟨rfl,q1,q2⟩
     have a1:YInv w' yb B tv ps y9:=by rw[HE.o];exact q1
     exact⟨rfl,hid a1,hid (((M1.o.trans Q2).trans k2).trans q2)⟩
    obtain⟨an,ae,pd⟩:=pa.ex
    obtain⟨da,dk,rfl⟩:=pd.form
    have p0:w2.cell? ⟨pb,0,none⟩=some (.string (R.str p.dst)):=z8 ae
    have p1:w2.cell? ⟨pb,1,none⟩=some (.slice da p.data.length dk):=z8 ae
    have cv:=pd.conv
    have ai:DatAt w2.drew B p (.slice da p.data.length dk):=pd.away (zQ w2) (fun _ _ c=>by cases c)
    have ak:=ai.conv
    clear aa ag pa mv P2 Q2 ae pd ai I1 M1 HE
    go_upto_region 7 with fail
    go_region_law (go_simp;go_at_call 81;refine(HS.o _ (zQ w2)).mono ?_;rintro e w3 ⟨rfl,I3,M3⟩)
    all_goals
     go_wp2
     go_end0
     exact⟨rfl,by rw[HP.o];exact I3.o,by rw[HP.o];exact M3.o⟩
   ·have HE:Y (y9=y1):=by show _=_;rw[HA.o];unfold Yd.ready;rw[ec];exact if_neg h0
    have aa:=hid (zcR ab h0)
    clear ab ec HA h0
    go_wp2_with fail
    refine aa.o.mono ?_
    rintro e w2 ⟨rfl,rfl⟩
    clear aa
    go_wp2
    go_end0
    exact⟨rfl,by rw[HE.o,HP.o];exact I1.o,by rw[HP.o];exact M1.o⟩
 ·rw[decide_eq_false hr] at e0
  rw[if_neg hr] at HA HP
  clear hr
  have HS:=hid (zfS I1.o ht (m+1) [] r (by omega) (by omega))
  have af:Y (Calls Tryz.prog 81 #[.pointer (some ⟨yb,0,none⟩),.int .i64 (m+1:Nat),.string ⟨#[]⟩,.string (R.str r)] w1 fun e w'=>e = .returned (.tuple #[])/\YInv w' yb B tv ps (y1.send ⟨m+1,[],r⟩)/\YMv w1 w' yb ps ps):=HS.o
  clear HS
  go_wp2_with fail
  refine af.o.mono ?_
  rintro e w2 ⟨rfl,i2,m2⟩
  have M2:=hid (M1.o.trans m2)
  have HE:=hid (zpJ i2 ht m ad hl)
  clear af i2 m2 M1 I1
  go_wp2_with fail
  refine HE.o.mono ?_
  rintro e w3 ⟨rfl,i3,m3⟩
  have I3:=hid i3
  have M3:=hid (M2.o.trans m3)
  clear HE i3 m3 M2
  go_wp2
  (try simp only[Exit.inBlock,Exit.then])
  refine bodyPost_ret (results_none rfl _ _ _) rfl ?_
  exact⟨rfl,by rw[HA.o,HP.o];exact I3.o,by rw[HP.o];exact M3.o⟩
structure HOk (h:Rq.Head):Prop where
 size:h.size<=600
 line:h.line.length<=h.size
 heads:h.headers.length<=12
 cl:∀x∈h.headers,x.1=Rq.sCl->Rq.isNumber x.2=true/\Rq.num x.2<=300
 meth:h.method.length<=3000
 targ:h.target.length<=3000
 hv:∀x∈h.headers,x.1.length<=3000/\x.2.length<=3000
theorem HOk.zero:HOk Rq.zero:=⟨zl _,zZ _,zl _,(fun x hx=>by cases hx),zl _,zl _,(fun x hx=>by cases hx)⟩
theorem HOk.begin {h:Rq.Head}(hk:HOk h)(l:List UInt8)(hl:l.length<=3000):HOk (Rq.begin h l):=by
 have hp:=zf0 l hl
 unfold Rq.begin
 split
 ·rename_i m t v e
  rw[e] at hp
  split
  ·exact⟨hk.size,hk.line,hk.heads,hk.cl,hp m (by simp),hp t (by simp),hk.hv⟩
  ·exact hk
 ·exact hk
theorem HOk.add {h:Rq.Head}(hk:HOk h)(l:List UInt8)(hl:l.length<=3000)(hr:Rq.addOut h l=[]):HOk (Rq.add h l):=by
 have aa:(Rq.readHd l).1.length<=3000:=by have:=(jW l 58).1;unfold Rq.readHd R.lower;simp only[qw];omega
 have ab:=zaR l hl
 unfold Rq.addOut at hr
 unfold Rq.add
 by_cases h1:Rq.readOk l=true
 ·rw[if_pos h1] at hr ⊢
  generalize Rq.readHd l=x at*
  unfold Rq.refusal at hr
  by_cases h2:h.headers.length=12
  ·rw[if_pos h2] at hr;cases hr
  ·rw[if_neg h2] at hr
   refine⟨hk.size,hk.line,?_,fun z hz hcl=>?_,hk.meth,hk.targ,fun z hz=>?_⟩
   ·show(h.headers++[x]).length<=12
    rw[zW]
    have:=hk.heads
    show h.headers.length+1<=12
    omega
   ·rcases List.mem_append.1 (show z∈h.headers++[x] from hz) with hz | hz
    ·exact hk.cl z hz hcl
    ·have e:z=x:=by simpa using hz
     subst e
     by_cases h3:z.1=Rq.sTe
     ·rw[if_pos h3] at hr;cases hr
     ·rw[if_neg h3,if_pos hcl] at hr
      unfold Rq.lengthRefusal at hr
      by_cases h4:(Rq.has z.1 h.headers || !Rq.isNumber z.2)=true
      ·rw[if_pos h4] at hr;cases hr
      ·rw[if_neg h4] at hr
       by_cases h5:300<Rq.num z.2
       ·rw[if_pos h5] at hr;cases hr
       ·simp only[Bool.or_eq_true,Bool.not_eq_true',not_or,Bool.not_eq_false] at h4
        exact⟨h4.2,by omega⟩
   ·rcases List.mem_append.1 (show z∈h.headers++[x] from hz) with hz | hz
    ·exact hk.hv z hz
    ·have e:z=x:=by simpa using hz
     subst e
     exact⟨aa,ab⟩
 ·rw[if_neg h1] at hr;cases hr
theorem HOk.take {h:Rq.Head}(hk:HOk h)(c:UInt8)(hr:(Rq.take h c).2.2=[]):HOk (Rq.take h c).1:=by
 unfold Rq.take at hr ⊢
 by_cases h1:600<h.size+1
 ·rw[if_pos h1] at hr;cases hr
 ·rw[if_neg h1] at hr ⊢
  have k0:HOk { h with size:=h.size+1,line:=[] }:=⟨by show h.size+1<=600;omega,zl _,hk.heads,hk.cl,hk.meth,hk.targ,hk.hv⟩
  have aa:(Rq.unend h.line 13).1.length<=3000:=by have:=zgP h.line 13;have:=hk.line;have:=hk.size;omega
  by_cases h2:c=10
  ·rw[if_pos h2] at hr ⊢
   generalize({ h with size:=h.size+1,line:=[] }:Rq.Head)=h' at*
   unfold Rq.look at hr ⊢
   by_cases h3:(Rq.unend h.line 13).2=true
   ·rw[if_pos h3] at hr ⊢
    by_cases h4:h'.method=[]
    ·rw[if_pos h4];exact k0.begin _ aa
    ·rw[if_neg h4] at hr ⊢
     by_cases h5:(Rq.unend h.line 13).1=[]
     ·rw[if_pos h5];exact k0
     ·rw[if_neg h5] at hr ⊢
      exact k0.add _ aa hr
   ·rw[if_neg h3] at hr;cases hr
  ·rw[if_neg h2]
   refine⟨by show h.size+1<=600;omega,?_,hk.heads,hk.cl,hk.meth,hk.targ,hk.hv⟩
   show(h.line++[c]).length<=h.size+1
   rw[zW]
   have:=hk.line
   show h.line.length+1<=h.size+1
   omega
theorem HOk.value {h:Rq.Head}(hk:HOk h):Rq.value Rq.sCl h.headers=[]\/(Rq.isNumber (Rq.value Rq.sCl h.headers)=true/\Rq.num (Rq.value Rq.sCl h.headers)<=300):=by
 unfold Rq.value
 cases e:Rq.named Rq.sCl h.headers with
 | nil=>exact Or.inl rfl
 | cons x t=>
  have hx:x∈Rq.named Rq.sCl h.headers:=by rw[e];exact List.mem_cons_self
  unfold Rq.named at hx
  rw[List.mem_filter] at hx
  exact Or.inr (hk.cl x hx.1 (of_decide_eq_true hx.2))
theorem HOk.number {h:Rq.Head}(hk:HOk h):Rq.value Rq.sCl h.headers=[]\/Rq.isNumber (Rq.value Rq.sCl h.headers)=true:=hk.value.imp id And.left
theorem HOk.body {h:Rq.Head}(hk:HOk h):0<=Rq.body h/\Rq.body h<=300:=by
 unfold Rq.body
 rcases hk.value with e | ⟨e,e2⟩
 ·rw[e];decide
 ·refine⟨?_,e2⟩
  unfold Rq.isNumber at e
  simp only[Bool.and_eq_true,decide_eq_true_eq] at e
  have h3:=e.2.2
  unfold R.allB at h3
  exact(R.num_le _ (fun c hc=>List.all_eq_true.1 h3 c hc) e.2.1).1
def COk:Cn->Prop
 | .hd h=>HOk h
 | .bd p=>1<=p.left/\p.left<=300/\p.data.length+p.left<=100000000
def Yd.D0 (h:Rq.Head):Pc:=⟨[],Yd.noPolicy,Rq.body h⟩
def Yd.take0 (y:Yd)(m:Nat)(c:UInt8):Yd:=
 match y.conns[m]? with
 | some (some (.hd h))=>(y.put m (Cn.take Yd.D0 h c).1).after m (Cn.take Yd.D0 h c).2
 | some (some (.bd p))=>(y.put m (.bd (p.take c))).after m []
 | _=>y
def YOk (y:Yd):Prop:=∀(m:Nat) (c:Cn),y.conns[m]?=some (some c)->COk c
theorem YInv.low_all {w:World}{yb B k:Nat}{tv:Value}{ps:List (Option Nat)}{y:Yd}(h:YInv w yb B tv ps y)(ht:tv.ownBlock=none)(hk:YF w yb ps k):B<=k:=by
 rcases hk with hk | ⟨i,cb,hi,hk⟩
 ·exact(h.hf ht hk).1
 ·obtain⟨c,_,q⟩:=h.here i cb hi
  exact(q.cf hk).1
theorem YMv.keep {w w':World}{yb B:Nat}{tv:Value}{ps ps':List (Option Nat)}{y:Yd}(m:YMv w w' yb ps ps')(h:YInv w yb B tv ps y)(ht:tv.ownBlock=none){k:Nat}(hk:k<B)(hl:k<w.heap.size):w'.heap[k]?=w.heap[k]?:=
 m.turn.block k hl (fun hF=>by have:=h.low_all ht hF;omega)
theorem jl (ps:List (Option Nat))(m:Nat)(r:List UInt8):(psAfter ps m r).length=ps.length:=by unfold psAfter;split <;> simp
theorem q56q {w:World}{yb B cb m:Nat}{ps:List (Option Nat)}{y:Yd}(h:YInv w yb B (.pointer none) ps y)(hk:YOk y)(hm:ps[m]?=some (some cb))(c:UInt8)(hs:y.sent.length<=100000000)(hl:ps.length<=1000000)(hB:B<=w.heap.size)(hG:Glob w)(hE:GE w)(ak:0<B/\Tryz.laysC172_ren.g 15<B) :
  Calls Tryz.prog 47 #[.pointer (some ⟨yb,0,none⟩),.int .i64 (m+1:Nat),.int .u8 c.toNat] w fun e w'=>e = .returned (.tuple #[])/\∃ps',YInv w' yb B (.pointer none) ps' (y.take0 m c)/\YMv w w' yb ps ps'/\ps'.length=ps.length:=by
 obtain⟨c1,ec,hc⟩:=h.here m cb hm
 have al:B<=cb:=(hc.cf (Or.inl (Or.inl rfl))).1
 have ad:=hk m c1 ec
 cases c1 with
 | hd hh=>
  have hI:HInv w cb B (.pointer none) hh:=hc
  have aa:HOk hh:=ad
  have am:yb≠cb:=fun e=>j0 (h.hf rfl (Or.inl rfl)).2 (by rw[e];exact(hc.cf (Or.inl (Or.inl rfl))).2)
  have e9:y.take0 m c=(y.put m (Cn.take Yd.D0 hh c).1).after m (Cn.take Yd.D0 hh c).2:=by unfold Yd.take0;rw[ec]
  rw[e9]
  refine(vN (y1:=y.put m (Cn.take Yd.D0 hh c).1) h rfl hm c (Cn.take Yd.D0 hh c).2 ?_ hs hl hB).mono fun e w' ⟨q1,q2,q3⟩=>⟨q1,_,q2,q3,jl _ _ _⟩
  refine(wG (yb:=yb) none (fun _=>True) (fun _ _ _ _=>trivial) hI c Yd.D0 aa.size (by have:=aa.line;have:=aa.size;omega) (by have:=aa.heads;omega) hB hG hE ⟨by omega,by omega⟩ (fun k e=>by cases e) ?_).mono ?_
  ·intro W h' af hM ht
   have ab:HOk h':=by have:=aa.take c (by rw[ht]);rw[ht] at this;exact this
   obtain⟨vd,vc,vs,h1,_⟩:=h.ex
   have aj:¬HF w cb yb:=fun hF=>j0 (h.hf rfl (Or.inl rfl)).2 (hc.cf (Or.inl hF)).2
   have ai:W.cell? ⟨yb,0,none⟩=some (.pointer none):=z8 ((hM.turn.block yb (zE h1) aj).trans h1)
   have ag:Tryz.laysC172_ren.g 15<w.heap.size:=by omega
   have ae:GE W:=by
    obtain⟨ev,q1,q2⟩:=hE
    refine⟨ev,?_,q2⟩
    rw[jA (hM.turn.block _ ag (fun hF=>by have:=(hc.cf (Or.inl hF)).1;omega))]
    exact q1
   refine(q51q af ai (by have:=ab.heads;omega) ab.number ae).mono ?_
   rintro e w' ⟨pb,q1,q2,q3⟩
   exact⟨pb,q1,q2,q3,trivial⟩
  ·rintro e w' ⟨q1,q2,q3,_⟩
   exact⟨q1,(h.put rfl hm q3 q2).1,(h.put rfl hm q3 q2).2⟩
 | bd p=>
  have ah:1<=p.left/\p.left<=300/\p.data.length+p.left<=100000000:=ad
  have e9:y.take0 m c=(y.put m (.bd (p.take c))).after m []:=by unfold Yd.take0;rw[ec]
  rw[e9]
  refine(vN (y1:=y.put m (.bd (p.take c))) h rfl hm c [] ?_ hs hl hB).mono fun e w' ⟨q1,q2,q3⟩=>⟨q1,_,q2,q3,jl _ _ _⟩
  refine(zcE (row:=none) hc c ⟨ah.1,by omega⟩ (by omega) hB).mono ?_
  rintro e w' ⟨q1,q2,q3⟩
  exact⟨q1,(h.put rfl hm q3 q2).1,(h.put rfl hm q3 q2).2⟩
theorem vq (y:Yd)(m:Nat)(r:List UInt8)(i:Nat)(hi:m≠i):(y.after m r).conns[i]?=y.conns[i]?:=by
 unfold Yd.after
 split
 ·unfold Yd.ready
  split
  ·split
   ·show(y.conns.set m _)[i]?=_
    rw[List.getElem?_set_ne hi]
   ·rfl
  ·rfl
 ·show(y.conns.set m none)[i]?=_
  rw[List.getElem?_set_ne hi]
theorem q53q (y:Yd)(m:Nat)(c:UInt8)(i:Nat)(hi:m≠i):(y.take0 m c).conns[i]?=y.conns[i]?:=by
 unfold Yd.take0
 split
 ·rw[vq _ _ _ _ hi]
  show(y.conns.set m _)[i]?=_
  rw[List.getElem?_set_ne hi]
 ·rw[vq _ _ _ _ hi]
  show(y.conns.set m _)[i]?=_
  rw[List.getElem?_set_ne hi]
 ·rfl
theorem kT (y:Yd)(m:Nat)(r:List UInt8):(y.after m r).sent.length<=y.sent.length+1:=by
 have hs:∀(z:Yd) (e:Ev),(z.send e).sent.length=z.sent.length+1:=fun z e=>by show(z.sent++[e]).length=_;rw[zW];rfl
 unfold Yd.after
 split
 ·unfold Yd.ready
  split
  ·split
   ·rw[hs];exact zZ _
   ·omega
  ·omega
 ·show(y.send _).sent.length<=_
  rw[hs];omega
theorem q33q (y:Yd)(m:Nat)(c:UInt8):(y.take0 m c).sent.length<=y.sent.length+1:=by
 unfold Yd.take0
 split
 ·exact kT _ _ _
 ·exact kT _ _ _
 ·omega
theorem zcX (y:Yd)(m:Nat)(c:Cn)(hm:m<y.conns.length):(y.put m c).conns[m]?=some (some c):=by
 show(y.conns.set m _)[m]?=_
 rw[List.getElem?_set_self hm]
theorem t7 {y:Yd}{m:Nat}(hm:m<y.conns.length){c:Cn}(hc:(∃h,c = .hd h/\HOk h)\/∃p,c = .bd p/\0<=p.left/\p.left<=300/\p.data.length+p.left<=100000000){d:Cn}(hd:((y.put m c).after m []).conns[m]?=some (some d)):COk d:=by
 unfold Yd.after at hd
 rw[if_pos rfl] at hd
 unfold Yd.ready at hd
 rw[zcX y m c hm] at hd
 rcases hc with ⟨h,rfl,hk⟩ | ⟨p,rfl,h1,h2,h3⟩
 ·simp only at hd
  rw[zcX y m _ hm] at hd
  have e:Cn.hd h=d:=by simpa using hd
  subst e;exact hk
 ·simp only at hd
  by_cases h0:p.left=0
  ·rw[if_pos h0] at hd
   have e1:(((y.put m (.bd p)).put m (.hd Rq.zero)).send ⟨m+1,p.dst,p.data⟩).conns[m]?=some (some (.hd Rq.zero)):=zcX (y.put m (.bd p)) m _ (by show m<(y.conns.set m _).length;rw[List.length_set];exact hm)
   rw[e1] at hd
   have e:Cn.hd Rq.zero=d:=by simpa using hd
   subst e;exact HOk.zero
  ·rw[if_neg h0,zcX y m _ hm] at hd
   have e:Cn.bd p=d:=by simpa using hd
   subst e
   exact⟨by omega,h2,h3⟩
theorem YOk.take0 {y:Yd}(hk:YOk y)(m:Nat)(c:UInt8):YOk (y.take0 m c):=by
 intro i d hd
 by_cases hi:m=i
 ·subst hi
  unfold Yd.take0 at hd
  split at hd
  ·rename_i h ec
   have hm:m<y.conns.length:=(List.getElem?_eq_some_iff.1 ec).1
   have hh:HOk h:=hk m _ ec
   by_cases h1:((Rq.take h c).2.1 && decide ((Rq.take h c).2.2=[]))=true
   ·have e:Cn.take Yd.D0 h c=(.bd (Yd.D0 (Rq.take h c).1),[]):=by unfold Cn.take;rw[if_pos h1]
    rw[e] at hd
    simp only[Bool.and_eq_true,decide_eq_true_eq] at h1
    have aa:=(hh.take c h1.2).body
    exact t7 hm (Or.inr ⟨_,rfl,aa.1,aa.2,by have:(Yd.D0 (Rq.take h c).1).data.length=55:=rfl;rw[this];have:=aa.2;show(55:Int)+Rq.body _<=_;omega⟩) hd
   ·have e:Cn.take Yd.D0 h c=(.hd (Rq.take h c).1,(Rq.take h c).2.2):=by unfold Cn.take;rw[if_neg h1]
    rw[e] at hd
    by_cases h2:(Rq.take h c).2.2=[]
    ·rw[h2] at hd
     exact t7 hm (Or.inl ⟨_,rfl,hh.take c h2⟩) hd
    ·unfold Yd.after at hd
     rw[if_neg h2] at hd
     have e1:((((y.put m (.hd (Rq.take h c).1)).send ⟨m+1,[],(Rq.take h c).2.2⟩).ended m).conns[m]?)=some none:=by
      show((y.conns.set m _).set m none)[m]?=_
      rw[List.getElem?_set_self (by rw[List.length_set];exact hm)]
     rw[e1] at hd
     simp at hd
  ·rename_i p ec
   have hm:m<y.conns.length:=(List.getElem?_eq_some_iff.1 ec).1
   have hp:1<=p.left/\p.left<=300/\p.data.length+p.left<=100000000:=hk m _ ec
   refine t7 hm (Or.inr ⟨_,rfl,by show 0<=p.left - 1;omega,by show p.left - 1<=300;omega,?_⟩) hd
   have hl:(p.take c).data.length<=p.data.length+1:=by unfold Pc.take;simp only;split <;> simp
   have e2:(p.take c).left=p.left - 1:=rfl
   rw[e2];omega
  ·exact hk m d hd
 ·rw[q53q y m c i hi] at hd
  exact hk i d hd
def Yd.step0 (y:Yd)(m:Nat)(c:UInt8):Yd:=if y.isOpen (m+1:Nat)=true then y.take0 m c else y
def Yd.fed0 (y:Yd)(m:Nat)(l:List UInt8):Yd:=l.foldl (fun y c=>y.step0 m c) y
theorem q61q (y:Yd)(m:Nat)(l:List UInt8)(c:UInt8):y.fed0 m (l++[c])=(y.fed0 m l).step0 m c:=by unfold Yd.fed0;rw[List.foldl_append];rfl
theorem q60q (y:Yd)(m:Nat)(l:List UInt8)(h:y.isOpen (m+1:Nat)=false):y.fed0 m l=y:=by
 induction l with
 | nil=>rfl
 | cons c l ih=>
  have e:y.step0 m c=y:=by unfold Yd.step0;rw[h];rfl
  show Yd.fed0 (y.step0 m c) m l=y
  rw[e];exact ih
theorem q49q (y:Yd)(m:Nat)(a b:List UInt8):y.fed0 m (a++b)=(y.fed0 m a).fed0 m b:=by unfold Yd.fed0;rw[List.foldl_append]
theorem q68q {y:Yd}(hk:YOk y)(m:Nat)(l:List UInt8):YOk (y.fed0 m l)/\(y.fed0 m l).sent.length<=y.sent.length+l.length:=by
 induction l generalizing y with
 | nil=>exact⟨hk,zZ _⟩
 | cons c l ih=>
  have h1:YOk (y.step0 m c)/\(y.step0 m c).sent.length<=y.sent.length+1:=by
   unfold Yd.step0
   split
   ·exact⟨hk.take0 m c,q33q y m c⟩
   ·exact⟨hk,by omega⟩
  have h2:=ih h1.1
  exact⟨h2.1,by have:=h2.2;have:=h1.2;show(Yd.fed0 (y.step0 m c) m l).sent.length<=_;rw[zm];omega⟩
def Apart (w:World)(yb:Nat)(ps:List (Option Nat))(v:Value):Prop:=∀k,v.ownBlock=some k->¬YF w yb ps k
theorem RdO.moved {w w':World}{yb:Nat}{ps ps':List (Option Nat)}{v:Value}{l:List UInt8}(h:RdO w v l)(m:YMv w w' yb ps ps')(ha:Apart w yb ps v):RdO w' v l:=by
 rcases h with h | ⟨g,o,c,h1,hc,h2,h3⟩
 ·exact Or.inl h
 ·have e:=m.turn.block g h2 (ha g (by rw[h1];rfl))
  exact Or.inr ⟨g,o,c,h1,hc,yU h2 m.turn.size,fun j u hu=>by rw[World.cell?_of_block (a:=⟨g,o+j,none⟩) e];exact h3 j u hu⟩
theorem Glob.moved {w w':World}{yb B:Nat}{tv:Value}{ps ps':List (Option Nat)}{y:Yd}(hG:Glob w)(m:YMv w w' yb ps ps')(h:YInv w yb B tv ps y)(ht:tv.ownBlock=none)(hB:B<=w.heap.size)(h0:0<B):Glob w':=by
 have e:=m.keep h ht h0 (by omega)
 unfold Glob at hG ⊢
 rw[World.cell?_of_block (a:=⟨0,0,none⟩) e]
 exact hG
theorem GE.moved {w w':World}{yb B:Nat}{tv:Value}{ps ps':List (Option Nat)}{y:Yd}(hE:GE w)(m:YMv w w' yb ps ps')(h:YInv w yb B tv ps y)(ht:tv.ownBlock=none)(hB:B<=w.heap.size)(h0:Tryz.laysC172_ren.g 15<B):GE w':=by
 have e:=m.keep h ht h0 (by omega)
 obtain⟨ev,q1,q2⟩:=hE
 exact⟨ev,by rw[jA e];exact q1,q2⟩
structure Fd (w wr:World) (yb B m:Nat) (ps ps':List (Option Nat)) (y y':Yd) (i:Nat):Prop where
 inv:YInv wr yb B (.pointer none) ps' y'
 mv:YMv w wr yb ps ps'
 len:ps'.length=ps.length
 ok:YOk y'
 sent:y'.sent.length<=y.sent.length+i
theorem q62q {w:World}{yb B m:Nat}{ps:List (Option Nat)}{y:Yd}{a:Option Addr}{k:Nat}{l:List UInt8}(h:YInv w yb B (.pointer none) ps y)(hk:YOk y)(ho:y.isOpen (m+1:Nat)=true)(hr:RdO w (.slice a l.length k) l)(ha:Apart w yb ps (.slice a l.length k))(aw:l.length<=1000000)(hs:y.sent.length<=10000000)(hl:ps.length<=1000000)(hB:B<=w.heap.size)(hG:Glob w)(hE:GE w)(ad:0<B/\Tryz.laysC172_ren.g 15<B) :
  Calls Tryz.prog 26 #[.pointer (some ⟨yb,0,none⟩),.int .i64 (m+1:Nat),.slice a l.length k] w fun e w'=>e = .returned (.int .i64 0)/\∃ps',YInv w' yb B (.pointer none) ps' (y.fed0 m l)/\YMv w w' yb ps ps'/\ps'.length=ps.length:=by
 have HO:=hid (fq h (m+1:Nat) hl)
 rw[ho] at HO
 have HZ:Y (Fd w w yb B m ps ps y (y.fed0 m (l.take 0)) 0):=⟨h,YMv.refl _ _ _,rfl,hk,zZ _⟩
 have al:=hid hr
 have af:Y (∀wr ps' y' i,Fd w wr yb B m ps ps' y y' i->Calls Tryz.prog 46 #[.pointer (some ⟨yb,0,none⟩),.int .i64 (m+1:Nat)] wr fun e w'=>e = .returned (.bool (y'.isOpen (m+1:Nat)))/\w'=wr):=fun wr ps' y' i hF=>fq hF.inv _ (by rw[hF.len];exact hl)
 have ag:Y (∀wr ps' y' i,Fd w wr yb B m ps ps' y y' i->RdO wr (.slice a l.length k) l):=fun wr ps' y' i hF=>hr.moved hF.mv ha
 have ai:Y (∀wr ps' y' i (c:UInt8),Fd w wr yb B m ps ps' y y' i->i<l.length->y'.isOpen (m+1:Nat)=true->Calls Tryz.prog 47 #[.pointer (some ⟨yb,0,none⟩),.int .i64 (m+1:Nat),.int .u8 c.toNat] wr fun e w'=>e = .returned (.tuple #[])/\∃aj,Fd w w' yb B m ps aj y (y'.take0 m c) (i+1)):=fun wr ps' y' i c hF hi aa=>by
  obtain⟨m',e1,_,cb,c0,e2,_⟩:=hF.inv.open_at aa
  have e3:m=m':=by omega
  subst e3
  have ax:=hF.mv.turn.size
  refine(q56q hF.inv hF.ok e2 c (by have:=hF.sent;omega) (by rw[hF.len];exact hl) (by omega) (hG.moved hF.mv h rfl hB ad.1) (hE.moved hF.mv h rfl hB ad.2) ad).mono ?_
  rintro e w' ⟨q1,aj,q2,q3,q4⟩
  exact⟨q1,aj,⟨q2,hF.mv.trans q3,q4.trans hF.len,hF.ok.take0 m c,by have:=q33q y' m c;have:=hF.sent;omega⟩⟩
 have ae:Y (∀i,i<l.length->(y.fed0 m (l.take i)).isOpen (m+1:Nat)=false->y.fed0 m l=y.fed0 m (l.take i)):=fun i hi aa=>by
  have:l=l.take i++l.drop i:=(List.take_append_drop i l).symm
  rw[this,q49q,List.take_append_drop,q60q _ _ _ aa]
 have ah:Y (∀i (hi:i<l.length),(y.fed0 m (l.take i)).isOpen (m+1:Nat)=true->(y.fed0 m (l.take i)).take0 m l[i]=y.fed0 m (l.take (i+1))):=fun i hi aa=>by
  rw[List.take_add_one,qN hi]
  show _=y.fed0 m (l.take i++[l[i]])
  rw[q61q];unfold Yd.step0;rw[if_pos aa]
 have ak:Y (l.take l.length=l):=List.take_length
 clear h hk ho hr ha hG hE hl hs hB ad
 generalize((m+1:Nat):Int)=n at*
 go_enter Tryz.func26,Tryz.ntmps26
 go_wp2_with fail
 refine HO.o.mono ?_
 rintro e w1 ⟨rfl,rfl⟩
 clear HO
 go_wp2_with fail
 go_loopw [7] (fun iv wr=>∃i:Nat,i<=l.length/\iv = .int .i64 i/\∃ps',Y (Fd w1 wr yb B m ps ps' y (y.fed0 m (l.take i)) i)) (fun iv _=>l.length - (intOf iv).toNat)
 case atStart=>exact⟨0,zl _,rfl,ps,HZ⟩
 case round=>
  obtain⟨i,av,rfl,ps',HW⟩:=hrel
  clear HZ
  by_cases ab:i<l.length
  ·have au:(i:Int)<l.length:=by omega
   have HI:=hid (af.o wr ps' _ i HW.o)
   have HR:=hid (ag.o wr ps' _ i HW.o)
   have HT:=hid (fun aa=>ai.o wr ps' _ i l[i] HW.o ab aa)
   have HE:=hid (ae.o i ab)
   have HS:=hid (ah.o i ab)
   obtain⟨g,o,rfl,ar⟩:∃g o,a=some ⟨g,o,none⟩/\wr.cell? ⟨g,o+i,none⟩=some (.int .u8 l[i].toNat):=by
    rcases HR.o with ⟨_,_,e,e2⟩ | ⟨g,o,c,e,_,_,h3⟩
    ·rw[e2] at ab;cases ab
    ·simp only[qc,true_and] at e
     exact⟨g,o,e.1,h3 i _ (qN ab)⟩
   clear af ag ai ae ah HR al ak
   have ao:=hid (show ∀y',y.fed0 m (l.take i)=y'->True from fun _ _=>trivial)
   clear ao
   generalize am:y.fed0 m (l.take i)=y' at*
   have aq:=hid am
   clear am
   generalize l[i]=c at*
   generalize aa:y'.isOpen n=b at*
   have HB:=hid aa
   clear aa
   go_wp2_with fail
   refine HI.o.mono ?_
   rintro e w2 ⟨rfl,rfl⟩
   clear HI
   cases b
   ·go_wp2
    go_ret
    exact⟨rfl,ps',by rw[HE.o trivial];exact HW.o.inv,HW.o.mv,HW.o.len⟩
   ·go_wp2_with fail
    refine(HT.o trivial).mono ?_
    rintro e w3 ⟨rfl,ap,F3⟩
    have an:=hid F3
    clear HT F3
    go_wp2_with fail
    go_roundw
    case rel=>exact⟨i+1,by omega,by go_num,ap,by rw[<-HS.o trivial];exact an⟩
    case measure=>simp[intOf];omega
  ·have hE:i=l.length:=by omega
   subst hE
   rw[ak.o] at HW
   clear af ag ai ae ah al
   go_wp2
   go_ret
   exact⟨rfl,ps',HW.o.inv,HW.o.mv,HW.o.len⟩
def Yd.new:Yd:=⟨[],[],[]⟩
theorem YOk.new:YOk Yd.new:=fun m c h=>by simp[Yd.new] at h
theorem zpE (w:World) :
  Calls Tryz.prog 33 #[] w fun e w'=>∃yb,e = .returned (.pointer (some ⟨yb,0,none⟩))/\yb=w.heap.size/\YInv w' yb w.heap.size (.pointer none) [] Yd.new/\w.grownBy w' none/\∀k,YF w' yb [] k->w.heap.size<=k:=by
 have HG:=hid (zJ w (.cells #[.pointer none,.slice none 0 0,.slice none 0 0,.slice none 0 0] 99) none)
 have hb:=heap_alloc_new w (.cells #[.pointer none,.slice none 0 0,.slice none 0 0,.slice none 0 0] 99)
 have hI:YInv (w.alloc (.cells #[.pointer none,.slice none 0 0,.slice none 0 0,.slice none 0 0] 99)) w.heap.size w.heap.size (.pointer none) [] Yd.new:=
  ⟨⟨_,_,_,hb,⟨none,0,0,0,rfl,⟨zZ _,fun h=>by omega,fun h=>by omega,rfl,fun j u h=>by simp[Yd.new] at h,fun j h=>by simp at h⟩,fun a h=>by cases h⟩,xS _ _ _ _,xS _ _ _ _⟩,zZ _,rfl,fun i cb h=>by simp at h,fun i h=>by simp at h,fun i j cb cb' _ h=>by simp at h⟩
 have HI:=hid hI
 have HL:Y (∀k,YF (w.alloc (.cells #[.pointer none,.slice none 0 0,.slice none 0 0,.slice none 0 0] 99)) w.heap.size [] k->w.heap.size<=k):=fun k hk=>hI.low_all rfl hk
 clear hb hI
 go_enter Tryz.func33,Tryz.ntmps33
 go_wp2
 go_ret
 exact⟨_,rfl,rfl,HI.o,HG.o,HL.o⟩
end Go.Proofs.YtfocdefchbnkpaaGreatDoor
