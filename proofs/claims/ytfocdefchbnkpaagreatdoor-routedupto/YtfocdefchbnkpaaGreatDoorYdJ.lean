/- The yard: one of its connections moves. -/
import Derived.Test.YtfocdefchbnkpaaGreatDoorAli
import Derived.Test.YtfocdefchbnkpaaGreatDoorYdC
import Derived.Test.YtfocdefchbnkpaaGreatDoorRqN
set_option maxRecDepth 100000
set_option maxHeartbeats 20000000
namespace Go.Proofs.YtfocdefchbnkpaaGreatDoor
open Go.RowKit
theorem YInv.conn {w w':World}{yb B cb m:Nat}{tv tv':Value}{ps:List (Option Nat)}{y y':Yd}{row:Option Nat}{c':Cn}(h:YInv w yb B tv ps y)(ht:tv.ownBlock=none)(hm:ps[m]?=some (some cb))(mv:CMv w w' cb row)(aa:∀k,row=some k->k=yb)(hc:CAt w' cb B c')
  (ab:∃vd vc vs,w'.heap[yb]?=some (.cells #[tv',vd,vc,vs] 99 (0,0))/\QRow w' B 60 vd (y'.draws.map drawV)/\w'.ownsRow B 100 1 vc ps.length (ps.map ptrV)/\w'.ownsRow B 44 3 vs y'.sent.length (evCells y'.sent))
  (hf:∀k,HF w' yb k->HF w yb k\/w.heap.size<=k) (hy:y'.conns=y.conns.set m (some c')):YInv w' yb B tv' ps y'/\YMv w w' yb ps ps:=by
 have ad:m<ps.length:=(List.getElem?_eq_some_iff.1 hm).1
 have hl:=h.len
 have kp:∀i cb':Nat,i≠m->ps[i]?=some (some cb')->∀k,CF w cb' k->w'.heap[k]?=w.heap[k]?:=fun i cb' hne hi k hk=>by
  obtain⟨c,_,q⟩:=h.here i cb' hi
  refine mv.turn.block k (q.lt hk) (fun hF=>?_)
  rcases hF with hF | hF
  ·exact h.apart i m cb' cb hne hi hm k hk hF
  ·exact j0 (h.hf ht (Or.inl (aa k hF))).2 (q.cf hk).2
 have cf:∀i cb':Nat,i≠m->ps[i]?=some (some cb')->∀k,CF w' cb' k->CF w cb' k/\k<w.heap.size:=fun i cb' hne hi k hk=>by
  obtain⟨c,_,q⟩:=h.here i cb' hi
  have:=(q.keep (kp i cb' hne hi)).2 k hk
  exact⟨this,q.lt this⟩
 refine⟨⟨ab,h.low,by rw[hy,List.length_set];exact hl,fun i cb' hi=>?_,fun i hi=>?_,fun i j ca cb' hij hi hj k q q'=>?_⟩,⟨⟨mv.turn.os,mv.turn.tape,mv.turn.output,mv.turn.size,fun k hk hn=>mv.turn.block k hk (fun hF=>?_)⟩,fun k hF=>?_⟩⟩
 ·by_cases e:i=m
  ·subst e
   rw[hm] at hi
   have e2:cb=cb':=by simpa using hi
   subst e2
   exact⟨c',by rw[hy,List.getElem?_set_self (by omega)],hc⟩
  ·obtain⟨c,q1,q2⟩:=h.here i cb' hi
   exact⟨c,by rw[hy,List.getElem?_set_ne (fun e2=>e e2.symm)];exact q1,(q2.keep (kp i cb' e hi)).1⟩
 ·have e:m≠i:=fun e=>by subst e;rw[hm] at hi;simp at hi
  rw[hy,List.getElem?_set_ne e]
  exact h.gone i hi
 ·by_cases e1:i=m
  ·subst e1
   rw[hm] at hi
   have e2:cb=ca:=by simpa using hi
   subst e2
   have q2:=cf j cb' (fun e=>hij e.symm) hj k q'
   rcases mv.foot k q with q3 | q3
   ·exact h.apart i j cb cb' hij hm hj k q3 q2.1
   ·omega
  ·by_cases e2:j=m
   ·subst e2
    rw[hm] at hj
    have e3:cb=cb':=by simpa using hj
    subst e3
    have q2:=cf i ca e1 hi k q
    rcases mv.foot k q' with q3 | q3
    ·exact h.apart i j ca cb hij hi hm k q2.1 q3
    ·omega
   ·exact h.apart i j ca cb' hij hi hj k (cf i ca e1 hi k q).1 (cf j cb' e2 hj k q').1
 ·rcases hF with hF | hF
  ·exact hn (Or.inr ⟨m,cb,hm,hF⟩)
  ·exact hn (Or.inl (Or.inl (aa k hF)))
 ·rcases hF with hF | ⟨i,cb',hi,hF⟩
  ·rcases hf k hF with q | q
   ·exact Or.inl (Or.inl q)
   ·exact Or.inr q
  ·by_cases e:i=m
   ·subst e
    rw[hm] at hi
    have e2:cb=cb':=by simpa using hi
    subst e2
    rcases mv.foot k hF with q | q
    ·exact Or.inl (Or.inr ⟨i,cb,hm,q⟩)
    ·exact Or.inr q
   ·exact Or.inl (Or.inr ⟨i,cb',hi,(cf i cb' e hi k hF).1⟩)
def Yd.put (y:Yd)(m:Nat)(c:Cn):Yd:={ y with conns:=y.conns.set m (some c) }
theorem YInv.put {w w':World}{yb B cb m:Nat}{tv:Value}{ps:List (Option Nat)}{y:Yd}{c':Cn}(h:YInv w yb B tv ps y)(ht:tv.ownBlock=none)(hm:ps[m]?=some (some cb))(mv:CMv w w' cb none)(hc:CAt w' cb B c'):YInv w' yb B tv ps (y.put m c')/\YMv w w' yb ps ps:=by
 obtain⟨c,_,q⟩:=h.here m cb hm
 have kp:∀k,HF w yb k->w'.heap[k]?=w.heap[k]?:=fun k hk=>by
  obtain⟨_,cs,t,e,ab⟩:=h.hf ht hk
  refine mv.turn.block k (zE e) (fun hF=>?_)
  rcases hF with hF | hF
  ·exact j0 ⟨cs,t,e,ab⟩ (q.cf hF).2
  ·cases hF
 obtain⟨vd,vc,vs,h1,h2,h3,h4⟩:=h.ex
 have aa:w'.heap[yb]?=w.heap[yb]?:=kp yb (Or.inl rfl)
 exact h.conn ht hm mv (fun k e=>by cases e) hc ⟨vd,vc,vs,aa.trans h1,h2.keep mv.turn.size (fun k e=>kp k (Or.inr ⟨1,vd,z8 h1,e⟩)),xA h3 (fun k e=>kp k (Or.inr ⟨2,vc,z8 h1,e⟩)),xA h4 (fun k e=>kp k (Or.inr ⟨3,vs,z8 h1,e⟩))⟩ (fun k hF=>Or.inl (jo aa hF)) rfl
theorem DatAt.conv {w:World}{B:Nat}{p:Pc}{a:Option Addr}{k:Nat}(h:DatAt w B p (.slice a p.data.length k)):(convert 32 9 (.slice a p.data.length k)).run Tryz.prog w = .ok (.string (R.str p.data)) w:=by
 rcases h with ⟨ao,b,off,cap,e,hc,_⟩ | ⟨_,g,cap,cur,f,e,h1,h2,h3⟩
 ·simp only[qc,true_and] at e
  obtain⟨rfl,rfl⟩:=e
  refine jB ?_
  by_cases h0:p.data=[]
  ·rw[h0];exact Or.inl ⟨_,_,rfl,rfl⟩
  ·have hl:=List.length_pos_iff.2 h0
   have aa:=hc.le
   have ha:=hc.addr (by omega)
   subst ha
   refine Or.inr ⟨b,off,k,rfl,aa,hc.lt (by omega),fun j u hu=>hc.olds j _ ?_⟩
   unfold Lib.byteCells;rw[List.getElem?_map,hu];rfl
 ·simp only[qc,true_and] at e
  obtain⟨rfl,rfl⟩:=e
  exact run_convert_bytes_back w _ _ _ ⟨g,0,none⟩ k p.data Tryz.underlying32 Tryz.underlying5 Tryz.underlying9 (fun j hj=>by
   rw[jL,Nat.zero_add]
   have hb:(Lib.byteCells p.data)[j]?=some (.int .u8 (p.data[j]).toNat):=by
    unfold Lib.byteCells;rw[List.getElem?_map,qN hj];rfl
   have h4:=h3 j _ hb
   rw[z8 h2]
   exact h4)
theorem YInv.lt {w:World}{yb B k:Nat}{tv:Value}{ps:List (Option Nat)}{y:Yd}(h:YInv w yb B tv ps y)(ht:tv.ownBlock=none)(hk:YF w yb ps k):k<w.heap.size:=by
 rcases hk with hk | ⟨i,cb,hi,hk⟩
 ·obtain⟨_,cs,t,e,_⟩:=h.hf ht hk
  exact zE e
 ·obtain⟨c,_,q⟩:=h.here i cb hi
  exact q.lt hk
theorem YInv.grown {w w':World}{yb B:Nat}{tv:Value}{ps:List (Option Nat)}{y:Yd}(h:YInv w yb B tv ps y)(ht:tv.ownBlock=none)(g:w.grownBy w' none):YInv w' yb B tv ps y/\YMv w w' yb ps ps:=by
 obtain⟨h1,h2⟩:=h.keep g.size (fun k hF=>g.block k (h.lt ht hF) (by simp))
 exact⟨h1,⟨g.os,g.tape,g.output,g.size,fun k hk _=>g.block k hk (by simp)⟩,fun k hk=>Or.inl (h2 k hk)⟩
def Yd.ready (y:Yd)(m:Nat):Yd:=
 match y.conns[m]? with
 | some (some (.bd p))=>if p.left=0 then (y.put m (.hd Rq.zero)).send ⟨m+1,p.dst,p.data⟩ else y
 | _=>y
def Yd.after (y:Yd)(m:Nat)(r:List UInt8):Yd:=if r=[] then y.ready m else (y.send ⟨m+1,[],r⟩).ended m
def psAfter (ps:List (Option Nat))(m:Nat)(r:List UInt8):List (Option Nat):=if r=[] then ps else ps.set m none
theorem vN {w:World}{yb B cb m:Nat}{tv:Value}{ps:List (Option Nat)}{y y1:Yd}(h:YInv w yb B tv ps y)(ht:tv.ownBlock=none)(hm:ps[m]?=some (some cb))(c:UInt8)(r:List UInt8)
  (hT:Calls Tryz.prog 79 #[.pointer (some ⟨cb,0,none⟩),.int .u8 c.toNat,.func (.func 80) #[.pointer (some ⟨yb,0,none⟩)] #[]] w fun e w'=>e = .returned (.string (R.str r))/\YInv w' yb B tv ps y1/\YMv w w' yb ps ps) (hs:y1.sent.length<=100000000) (hl:ps.length<=1000000) (hB:B<=w.heap.size) :
  Calls Tryz.prog 47 #[.pointer (some ⟨yb,0,none⟩),.int .i64 (m+1:Nat),.int .u8 c.toNat] w fun e w'=>e = .returned (.tuple #[])/\YInv w' yb B tv (psAfter ps m r) (y1.after m r)/\YMv w w' yb ps (psAfter ps m r):=by
 obtain⟨vd,vc,vs,h1,h2,h3,h4⟩:=h.ex
 obtain⟨ca,ck,rfl⟩:=zP h3
 have k2:w.cell? ⟨yb,2,none⟩=some (.slice ca ps.length ck):=z8 h1
 have ad:m<ps.length:=(List.getElem?_eq_some_iff.1 hm).1
 obtain⟨g,aj,rfl,rfl,c1,_⟩:=fy h3 m ad
 have al:(m:Int)<ps.length:=by omega
 have ah:ps[m]=some cb:=by rw[qN ad] at hm;exact qk hm
 rw[ah] at c1
 simp only[ptrV] at c1
 have HT:=hid hT
 have HM:=hid hm
 have HA:Y (y1.after m r=if r=[] then y1.ready m else (y1.send ⟨m+1,[],r⟩).ended m):=rfl
 have HP:Y (psAfter ps m r=if r=[] then ps else ps.set m none):=rfl
 clear h h1 h2 h3 h4 hT hm ah
 generalize y1.after m r=y9 at*
 generalize psAfter ps m r=ps9 at*
 have e0:=jJ r
 go_enter Tryz.func47,Tryz.ntmps47
 go_wp2_with fail
 refine HT.o.mono ?_
 rintro e w1 ⟨rfl,i1,m1⟩
 have I1:=hid i1
 have M1:=hid m1
 have am:=m1.turn.size
 clear HT i1 m1 k2 c1
 by_cases hr:r=[]
 ·rw[decide_eq_true hr] at e0
  rw[if_pos hr] at HA HP
  subst hr
  obtain⟨c9,ec,ab⟩:=I1.o.here m cb HM.o
  cases c9 with
  | hd hh=>
   have HE:Y (y9=y1):=by show _=_;rw[HA.o];unfold Yd.ready;rw[ec]
   have aa:=hid (zcQ ab)
   clear ab ec HA
   go_wp2_with fail
   refine aa.o.mono ?_
   rintro e w2 ⟨rfl,rfl⟩
   clear aa
   go_wp2
   go_end0
   exact⟨rfl,by rw[HE.o,HP.o];exact I1.o,by rw[HP.o];exact M1.o⟩
  | bd p=>
   by_cases h0:p.left=0
   ·have HE:Y (y9=(y1.put m (.hd Rq.zero)).send ⟨m+1,p.dst,p.data⟩):=by show _=_;rw[HA.o];unfold Yd.ready;rw[ec];exact if_pos h0
    have aa:=hid (tY (row:=none) ab h0)
    clear ab ec HA h0
    go_wp2_with fail
    refine aa.o.mono ?_
    rintro e w2 ⟨pb,rfl,ag,pa,mv,_,_⟩
    obtain⟨P2,Q2⟩:=I1.o.put ht HM.o mv ag
    have HS:Y (∀W,w2.grownBy W none->Calls Tryz.prog 81 #[.pointer (some ⟨yb,0,none⟩),.int .i64 (m+1:Nat),.string (R.str p.dst),.string (R.str p.data)] W fun e w'=>e = .returned (.tuple #[])/\Y (YInv w' yb B tv ps y9)/\Y (YMv w w' yb ps ps)):=fun W hW=>by
     obtain⟨k1,k2⟩:=P2.grown ht hW
     refine(zfS k1 ht (m+1) p.dst p.data (by show y1.sent.length<=_;omega) (by have:=hW.size;have:=mv.turn.size;omega)).mono ?_
     rintro e w' ⟨rfl,q1,q2⟩
     have a1:YInv w' yb B tv ps y9:=by rw[HE.o];exact q1
     exact⟨rfl,hid a1,hid (((M1.o.trans Q2).trans k2).trans q2)⟩
    obtain⟨an,ae,pd⟩:=pa.ex
    obtain⟨da,dk,rfl⟩:=pd.form
    have p0:w2.cell? ⟨pb,0,none⟩=some (.string (R.str p.dst)):=z8 ae
    have p1:w2.cell? ⟨pb,1,none⟩=some (.slice da p.data.length dk):=z8 ae
    have cv:=pd.conv
    have ai:DatAt w2.drew B p (.slice da p.data.length dk):=pd.away (zQ w2) (fun _ _ c=>by cases c)
    have ak:=ai.conv
    clear aa ag pa mv P2 Q2 ae pd ai I1 M1 HE
    go_upto_region 7 with fail
    go_region_law (go_simp;go_at_call 81;refine(HS.o _ (zQ w2)).mono ?_;rintro e w3 ⟨rfl,I3,M3⟩)
    all_goals
     go_wp2
     go_end0
     exact⟨rfl,by rw[HP.o];exact I3.o,by rw[HP.o];exact M3.o⟩
   ·have HE:Y (y9=y1):=by show _=_;rw[HA.o];unfold Yd.ready;rw[ec];exact if_neg h0
    have aa:=hid (zcR ab h0)
    clear ab ec HA h0
    go_wp2_with fail
    refine aa.o.mono ?_
    rintro e w2 ⟨rfl,rfl⟩
    clear aa
    go_wp2
    go_end0
    exact⟨rfl,by rw[HE.o,HP.o];exact I1.o,by rw[HP.o];exact M1.o⟩
 ·rw[decide_eq_false hr] at e0
  rw[if_neg hr] at HA HP
  clear hr
  have HS:=hid (zfS I1.o ht (m+1) [] r (by omega) (by omega))
  have af:Y (Calls Tryz.prog 81 #[.pointer (some ⟨yb,0,none⟩),.int .i64 (m+1:Nat),.string ⟨#[]⟩,.string (R.str r)] w1 fun e w'=>e = .returned (.tuple #[])/\YInv w' yb B tv ps (y1.send ⟨m+1,[],r⟩)/\YMv w1 w' yb ps ps):=HS.o
  clear HS
  go_wp2_with fail
  refine af.o.mono ?_
  rintro e w2 ⟨rfl,i2,m2⟩
  have M2:=hid (M1.o.trans m2)
  have HE:=hid (zpJ i2 ht m ad hl)
  clear af i2 m2 M1 I1
  go_wp2_with fail
  refine HE.o.mono ?_
  rintro e w3 ⟨rfl,i3,m3⟩
  have I3:=hid i3
  have M3:=hid (M2.o.trans m3)
  clear HE i3 m3 M2
  go_wp2
  (try simp only[Exit.inBlock,Exit.then])
  refine bodyPost_ret (results_none rfl _ _ _) rfl ?_
  exact⟨rfl,by rw[HA.o,HP.o];exact I3.o,by rw[HP.o];exact M3.o⟩
structure HOk (h:Rq.Head):Prop where
 size:h.size<=600
 line:h.line.length<=h.size
 heads:h.headers.length<=12
 cl:∀x∈h.headers,x.1=Rq.sCl->Rq.isNumber x.2=true/\Rq.num x.2<=300
 meth:h.method.length<=3000
 targ:h.target.length<=3000
 hv:∀x∈h.headers,x.1.length<=3000/\x.2.length<=3000
theorem HOk.zero:HOk Rq.zero:=⟨zl _,zZ _,zl _,(fun x hx=>by cases hx),zl _,zl _,(fun x hx=>by cases hx)⟩
theorem HOk.begin {h:Rq.Head}(hk:HOk h)(l:List UInt8)(hl:l.length<=3000):HOk (Rq.begin h l):=by
 have hp:=zf0 l hl
 unfold Rq.begin
 split
 ·rename_i m t v e
  rw[e] at hp
  split
  ·exact⟨hk.size,hk.line,hk.heads,hk.cl,hp m (by simp),hp t (by simp),hk.hv⟩
  ·exact hk
 ·exact hk
theorem HOk.add {h:Rq.Head}(hk:HOk h)(l:List UInt8)(hl:l.length<=3000)(hr:Rq.addOut h l=[]):HOk (Rq.add h l):=by
 have aa:(Rq.readHd l).1.length<=3000:=by have:=(jW l 58).1;unfold Rq.readHd R.lower;simp only[qw];omega
 have ab:=zaR l hl
 unfold Rq.addOut at hr
 unfold Rq.add
 by_cases h1:Rq.readOk l=true
 ·rw[if_pos h1] at hr ⊢
  generalize Rq.readHd l=x at*
  unfold Rq.refusal at hr
  by_cases h2:h.headers.length=12
  ·rw[if_pos h2] at hr;cases hr
  ·rw[if_neg h2] at hr
   refine⟨hk.size,hk.line,?_,fun z hz hcl=>?_,hk.meth,hk.targ,fun z hz=>?_⟩
   ·show(h.headers++[x]).length<=12
    rw[zW]
    have:=hk.heads
    show h.headers.length+1<=12
    omega
   ·rcases List.mem_append.1 (show z∈h.headers++[x] from hz) with hz | hz
    ·exact hk.cl z hz hcl
    ·have e:z=x:=by simpa using hz
     subst e
     by_cases h3:z.1=Rq.sTe
     ·rw[if_pos h3] at hr;cases hr
     ·rw[if_neg h3,if_pos hcl] at hr
      unfold Rq.lengthRefusal at hr
      by_cases h4:(Rq.has z.1 h.headers || !Rq.isNumber z.2)=true
      ·rw[if_pos h4] at hr;cases hr
      ·rw[if_neg h4] at hr
       by_cases h5:300<Rq.num z.2
       ·rw[if_pos h5] at hr;cases hr
       ·simp only[Bool.or_eq_true,Bool.not_eq_true',not_or,Bool.not_eq_false] at h4
        exact⟨h4.2,by omega⟩
   ·rcases List.mem_append.1 (show z∈h.headers++[x] from hz) with hz | hz
    ·exact hk.hv z hz
    ·have e:z=x:=by simpa using hz
     subst e
     exact⟨aa,ab⟩
 ·rw[if_neg h1] at hr;cases hr
theorem HOk.take {h:Rq.Head}(hk:HOk h)(c:UInt8)(hr:(Rq.take h c).2.2=[]):HOk (Rq.take h c).1:=by
 unfold Rq.take at hr ⊢
 by_cases h1:600<h.size+1
 ·rw[if_pos h1] at hr;cases hr
 ·rw[if_neg h1] at hr ⊢
  have k0:HOk { h with size:=h.size+1,line:=[] }:=⟨by show h.size+1<=600;omega,zl _,hk.heads,hk.cl,hk.meth,hk.targ,hk.hv⟩
  have aa:(Rq.unend h.line 13).1.length<=3000:=by have:=zgP h.line 13;have:=hk.line;have:=hk.size;omega
  by_cases h2:c=10
  ·rw[if_pos h2] at hr ⊢
   generalize({ h with size:=h.size+1,line:=[] }:Rq.Head)=h' at*
   unfold Rq.look at hr ⊢
   by_cases h3:(Rq.unend h.line 13).2=true
   ·rw[if_pos h3] at hr ⊢
    by_cases h4:h'.method=[]
    ·rw[if_pos h4];exact k0.begin _ aa
    ·rw[if_neg h4] at hr ⊢
     by_cases h5:(Rq.unend h.line 13).1=[]
     ·rw[if_pos h5];exact k0
     ·rw[if_neg h5] at hr ⊢
      exact k0.add _ aa hr
   ·rw[if_neg h3] at hr;cases hr
  ·rw[if_neg h2]
   refine⟨by show h.size+1<=600;omega,?_,hk.heads,hk.cl,hk.meth,hk.targ,hk.hv⟩
   show(h.line++[c]).length<=h.size+1
   rw[zW]
   have:=hk.line
   show h.line.length+1<=h.size+1
   omega
theorem HOk.value {h:Rq.Head}(hk:HOk h):Rq.value Rq.sCl h.headers=[]\/(Rq.isNumber (Rq.value Rq.sCl h.headers)=true/\Rq.num (Rq.value Rq.sCl h.headers)<=300):=by
 unfold Rq.value
 cases e:Rq.named Rq.sCl h.headers with
 | nil=>exact Or.inl rfl
 | cons x t=>
  have hx:x∈Rq.named Rq.sCl h.headers:=by rw[e];exact List.mem_cons_self
  unfold Rq.named at hx
  rw[List.mem_filter] at hx
  exact Or.inr (hk.cl x hx.1 (of_decide_eq_true hx.2))
theorem HOk.number {h:Rq.Head}(hk:HOk h):Rq.value Rq.sCl h.headers=[]\/Rq.isNumber (Rq.value Rq.sCl h.headers)=true:=hk.value.imp id And.left
theorem HOk.body {h:Rq.Head}(hk:HOk h):0<=Rq.body h/\Rq.body h<=300:=by
 unfold Rq.body
 rcases hk.value with e | ⟨e,e2⟩
 ·rw[e];decide
 ·refine⟨?_,e2⟩
  unfold Rq.isNumber at e
  simp only[Bool.and_eq_true,decide_eq_true_eq] at e
  have h3:=e.2.2
  unfold R.allB at h3
  exact(R.num_le _ (fun c hc=>List.all_eq_true.1 h3 c hc) e.2.1).1
def COk:Cn->Prop
 | .hd h=>HOk h
 | .bd p=>1<=p.left/\p.left<=300/\p.data.length+p.left<=100000000
def YOk (y:Yd):Prop:=∀(m:Nat) (c:Cn),y.conns[m]?=some (some c)->COk c
theorem YInv.low_all {w:World}{yb B k:Nat}{tv:Value}{ps:List (Option Nat)}{y:Yd}(h:YInv w yb B tv ps y)(ht:tv.ownBlock=none)(hk:YF w yb ps k):B<=k:=by
 rcases hk with hk | ⟨i,cb,hi,hk⟩
 ·exact(h.hf ht hk).1
 ·obtain⟨c,_,q⟩:=h.here i cb hi
  exact(q.cf hk).1
theorem YMv.keep {w w':World}{yb B:Nat}{tv:Value}{ps ps':List (Option Nat)}{y:Yd}(m:YMv w w' yb ps ps')(h:YInv w yb B tv ps y)(ht:tv.ownBlock=none){k:Nat}(hk:k<B)(hl:k<w.heap.size):w'.heap[k]?=w.heap[k]?:=
 m.turn.block k hl (fun hF=>by have:=h.low_all ht hF;omega)
theorem jl (ps:List (Option Nat))(m:Nat)(r:List UInt8):(psAfter ps m r).length=ps.length:=by unfold psAfter;split <;> simp
theorem vq (y:Yd)(m:Nat)(r:List UInt8)(i:Nat)(hi:m≠i):(y.after m r).conns[i]?=y.conns[i]?:=by
 unfold Yd.after
 split
 ·unfold Yd.ready
  split
  ·split
   ·show(y.conns.set m _)[i]?=_
    rw[List.getElem?_set_ne hi]
   ·rfl
  ·rfl
 ·show(y.conns.set m none)[i]?=_
  rw[List.getElem?_set_ne hi]
theorem kT (y:Yd)(m:Nat)(r:List UInt8):(y.after m r).sent.length<=y.sent.length+1:=by
 have hs:∀(z:Yd) (e:Ev),(z.send e).sent.length=z.sent.length+1:=fun z e=>by show(z.sent++[e]).length=_;rw[zW];rfl
 unfold Yd.after
 split
 ·unfold Yd.ready
  split
  ·split
   ·rw[hs];exact zZ _
   ·omega
  ·omega
 ·show(y.send _).sent.length<=_
  rw[hs];omega
theorem zcX (y:Yd)(m:Nat)(c:Cn)(hm:m<y.conns.length):(y.put m c).conns[m]?=some (some c):=by
 show(y.conns.set m _)[m]?=_
 rw[List.getElem?_set_self hm]
theorem t7 {y:Yd}{m:Nat}(hm:m<y.conns.length){c:Cn}(hc:(∃h,c = .hd h/\HOk h)\/∃p,c = .bd p/\0<=p.left/\p.left<=300/\p.data.length+p.left<=100000000){d:Cn}(hd:((y.put m c).after m []).conns[m]?=some (some d)):COk d:=by
 unfold Yd.after at hd
 rw[if_pos rfl] at hd
 unfold Yd.ready at hd
 rw[zcX y m c hm] at hd
 rcases hc with ⟨h,rfl,hk⟩ | ⟨p,rfl,h1,h2,h3⟩
 ·simp only at hd
  rw[zcX y m _ hm] at hd
  have e:Cn.hd h=d:=by simpa using hd
  subst e;exact hk
 ·simp only at hd
  by_cases h0:p.left=0
  ·rw[if_pos h0] at hd
   have e1:(((y.put m (.bd p)).put m (.hd Rq.zero)).send ⟨m+1,p.dst,p.data⟩).conns[m]?=some (some (.hd Rq.zero)):=zcX (y.put m (.bd p)) m _ (by show m<(y.conns.set m _).length;rw[List.length_set];exact hm)
   rw[e1] at hd
   have e:Cn.hd Rq.zero=d:=by simpa using hd
   subst e;exact HOk.zero
  ·rw[if_neg h0,zcX y m _ hm] at hd
   have e:Cn.bd p=d:=by simpa using hd
   subst e
   exact⟨by omega,h2,h3⟩
def Apart (w:World)(yb:Nat)(ps:List (Option Nat))(v:Value):Prop:=∀k,v.ownBlock=some k->¬YF w yb ps k
theorem RdO.moved {w w':World}{yb:Nat}{ps ps':List (Option Nat)}{v:Value}{l:List UInt8}(h:RdO w v l)(m:YMv w w' yb ps ps')(ha:Apart w yb ps v):RdO w' v l:=by
 rcases h with h | ⟨g,o,c,h1,hc,h2,h3⟩
 ·exact Or.inl h
 ·have e:=m.turn.block g h2 (ha g (by rw[h1];rfl))
  exact Or.inr ⟨g,o,c,h1,hc,yU h2 m.turn.size,fun j u hu=>by rw[World.cell?_of_block (a:=⟨g,o+j,none⟩) e];exact h3 j u hu⟩
theorem Glob.moved {w w':World}{yb B:Nat}{tv:Value}{ps ps':List (Option Nat)}{y:Yd}(hG:Glob w)(m:YMv w w' yb ps ps')(h:YInv w yb B tv ps y)(ht:tv.ownBlock=none)(hB:B<=w.heap.size)(h0:0<B):Glob w':=by
 have e:=m.keep h ht h0 (by omega)
 unfold Glob at hG ⊢
 rw[World.cell?_of_block (a:=⟨0,0,none⟩) e]
 exact hG
theorem GE.moved {w w':World}{yb B:Nat}{tv:Value}{ps ps':List (Option Nat)}{y:Yd}(hE:GE w)(m:YMv w w' yb ps ps')(h:YInv w yb B tv ps y)(ht:tv.ownBlock=none)(hB:B<=w.heap.size)(h0:Tryz.laysC172_ren.g 15<B):GE w':=by
 have e:=m.keep h ht h0 (by omega)
 obtain⟨ev,q1,q2⟩:=hE
 exact⟨ev,by rw[jA e];exact q1,q2⟩
structure Fd (w wr:World) (yb B m:Nat) (ps ps':List (Option Nat)) (y y':Yd) (i:Nat):Prop where
 inv:YInv wr yb B (.pointer none) ps' y'
 mv:YMv w wr yb ps ps'
 len:ps'.length=ps.length
 ok:YOk y'
 sent:y'.sent.length<=y.sent.length+i
def Yd.new:Yd:=⟨[],[],[]⟩
theorem YOk.new:YOk Yd.new:=fun m c h=>by simp[Yd.new] at h
theorem zpE (w:World) :
  Calls Tryz.prog 33 #[] w fun e w'=>∃yb,e = .returned (.pointer (some ⟨yb,0,none⟩))/\yb=w.heap.size/\YInv w' yb w.heap.size (.pointer none) [] Yd.new/\w.grownBy w' none/\∀k,YF w' yb [] k->w.heap.size<=k:=by
 have HG:=hid (zJ w (.cells #[.pointer none,.slice none 0 0,.slice none 0 0,.slice none 0 0] 99) none)
 have hb:=heap_alloc_new w (.cells #[.pointer none,.slice none 0 0,.slice none 0 0,.slice none 0 0] 99)
 have hI:YInv (w.alloc (.cells #[.pointer none,.slice none 0 0,.slice none 0 0,.slice none 0 0] 99)) w.heap.size w.heap.size (.pointer none) [] Yd.new:=
  ⟨⟨_,_,_,hb,⟨none,0,0,0,rfl,⟨zZ _,fun h=>by omega,fun h=>by omega,rfl,fun j u h=>by simp[Yd.new] at h,fun j h=>by simp at h⟩,fun a h=>by cases h⟩,xS _ _ _ _,xS _ _ _ _⟩,zZ _,rfl,fun i cb h=>by simp at h,fun i h=>by simp at h,fun i j cb cb' _ h=>by simp at h⟩
 have HI:=hid hI
 have HL:Y (∀k,YF (w.alloc (.cells #[.pointer none,.slice none 0 0,.slice none 0 0,.slice none 0 0] 99)) w.heap.size [] k->w.heap.size<=k):=fun k hk=>hI.low_all rfl hk
 clear hb hI
 go_enter Tryz.func33,Tryz.ntmps33
 go_wp2
 go_ret
 exact⟨_,rfl,rfl,HI.o,HG.o,HL.o⟩
structure Tr.Nd where
 rules:List Nat
 br:List (UInt8×Nat)
def Tr.adr (ads:List Nat)(i:Nat):Nat:=ads.getD i 0
theorem Tr.adr_at {aa:List Nat}{i b:Nat}(h:aa[i]?=some b):Tr.adr aa i=b:=by unfold Tr.adr;rw[List.getD_eq_getElem?_getD,h];rfl
def Tr.brCell (ads:List Nat)(x:UInt8×Nat):List Value:=[.int .u8 x.1.toNat,.pointer (some ⟨Tr.adr ads x.2,0,none⟩)]
def Tr.brCells (ads:List Nat)(l:List (UInt8×Nat)):List Value:=(l.map (Tr.brCell ads)).flatten
def Tr.ruCells (l:List Nat):List Value:=l.map fun n:Nat=>.int .i64 (n:Int)
def Tr.Ok (ns:List Tr.Nd):Prop:=∀(i:Nat) n,ns[i]?=some n->∀x∈n.br,i<x.2/\x.2<ns.length
def ndTypes:List TypeId:=[230,3,299]
structure NdAt (w:World) (B:Nat) (ads:List Nat) (b:Nat) (n:Tr.Nd):Prop where
 ex:∃vr vb,w.heap[b]?=some (.cells #[vr,vb] 230 (0,0))/\w.ownsRow B 3 1 vr n.rules.length (Tr.ruCells n.rules)/\w.ownsRow B 299 2 vb n.br.length (Tr.brCells ads n.br)
 low:B<=b
theorem NdAt.hf {w:World}{B b k:Nat}{aa:List Nat}{n:Tr.Nd}(h:NdAt w B aa b n)(hk:HF w b k):B<=k/\∃cs t,w.heap[k]?=some (.cells cs t (0,0))/\t∈ndTypes:=by
 obtain⟨vr,vb,h1,h2,h3⟩:=h.ex
 rcases hk with rfl | ⟨j,u,c1,c2⟩
 ·exact⟨h.low,_,_,h1,by decide⟩
 ·rw[z8 h1] at c1
  have hd:u=vr\/u=vb:=by
   match j,c1 with
   | 0,c1=>simp at c1;exact Or.inl c1.symm
   | 1,c1=>simp at c1;exact Or.inr c1.symm
   | j+2,c1=>simp at c1
  rcases hd with rfl | rfl
  ·obtain⟨c,e⟩:=qH h2 k c2
   exact⟨(qh h2 k c2).1,_,_,e,by decide⟩
  ·obtain⟨c,e⟩:=qH h3 k c2
   exact⟨(qh h3 k c2).1,_,_,e,by decide⟩
theorem NdAt.lt {w:World}{B b k:Nat}{aa:List Nat}{n:Tr.Nd}(h:NdAt w B aa b n)(hk:HF w b k):k<w.heap.size:=by
 obtain⟨_,cs,t,e,_⟩:=h.hf hk
 exact zE e
theorem tB {w w':World}{B:Nat}{e:TypeId}{s:Nat}{v:Value}{n:Nat}{xs:List Value}(ho:w.ownsRow B e s v n xs)(hk:∀k,v.ownBlock=some k->w'.heap[k]?=w.heap[k]?):w'.ownsRow B e s v n xs:=
 ⟨ho.1,ho.2.imp id fun⟨g,cap,cur,h1,h2,h3,h4⟩=>⟨g,cap,cur,h1,h2,by rw[hk g (by rw[h1];rfl)];exact h3,h4⟩⟩
theorem NdAt.keep {w w':World}{B b:Nat}{aa:List Nat}{n:Tr.Nd}(h:NdAt w B aa b n)(hk:∀k,HF w b k->w'.heap[k]?=w.heap[k]?):NdAt w' B aa b n/\∀k,HF w' b k->HF w b k:=by
 obtain⟨vr,vb,h1,h2,h3⟩:=h.ex
 have hb:=hk b (Or.inl rfl)
 exact⟨⟨⟨vr,vb,hb.trans h1,tB h2 (fun k q=>hk k (Or.inr ⟨0,vr,z8 h1,q⟩)),tB h3 (fun k q=>hk k (Or.inr ⟨1,vb,z8 h1,q⟩))⟩,h.low⟩,fun k q=>jo hb q⟩
theorem Tr.brCells_ext {aa:List Nat}{l:List (UInt8×Nat)}(h:∀x∈l,x.2<aa.length)(ex:List Nat):Tr.brCells (aa++ex) l=Tr.brCells aa l:=by
 unfold Tr.brCells
 induction l with
 | nil=>rfl
 | cons a t ih=>
  have h1:=h a (by simp)
  rw[xi,xi,xP,xP,ih (fun x hx=>h x (by simp[hx]))]
  have e:Tr.adr (aa++ex) a.2=Tr.adr aa a.2:=by unfold Tr.adr;rw[List.getD_eq_getElem?_getD,List.getD_eq_getElem?_getD,List.getElem?_append_left h1]
  unfold Tr.brCell
  rw[e]
theorem Tr.brCells_snoc (aa:List Nat)(l:List (UInt8×Nat))(x:UInt8×Nat):Tr.brCells aa (l++[x])=Tr.brCells aa l++[.int .u8 x.1.toNat,.pointer (some ⟨Tr.adr aa x.2,0,none⟩)]:=by
 unfold Tr.brCells;rw[xy,jt];rfl
structure Ar (w0 w:World) (ads:List Nat) (ns:List Tr.Nd):Prop where
 gr:w0.grownBy w none
 len:ads.length=ns.length
 here:∀i b:Nat,ads[i]?=some b->∃n,ns[i]?=some n/\NdAt w w0.heap.size ads b n
 apart:∀i j b b':Nat,i≠j->ads[i]?=some b->ads[j]?=some b'->∀k,HF w b k->¬HF w b' k
theorem Ar.keep {w0 w w':World}{aa:List Nat}{ns:List Tr.Nd}(h:Ar w0 w aa ns)(g:w0.grownBy w' none)(hk:∀k:Nat,(∃cs t,w.heap[k]?=some (.cells cs t (0,0))/\t∈ndTypes)->w'.heap[k]?=w.heap[k]?):Ar w0 w' aa ns:=by
 have kp:∀i b:Nat,aa[i]?=some b->(∃n,ns[i]?=some n/\NdAt w' w0.heap.size aa b n)/\∀k,HF w' b k->HF w b k:=fun i b hi=>by
  obtain⟨n,h1,h2⟩:=h.here i b hi
  obtain⟨q1,q2⟩:=h2.keep (fun k hF=>hk k (h2.hf hF).2)
  exact⟨⟨n,h1,q1⟩,q2⟩
 exact⟨g,h.len,fun i b hi=>(kp i b hi).1,fun i j b b' hij hi hj k q q'=>h.apart i j b b' hij hi hj k ((kp i b hi).2 k q) ((kp j b' hj).2 k q')⟩
theorem Ar.grown {w0 w w':World}{aa:List Nat}{ns:List Tr.Nd}(h:Ar w0 w aa ns)(g:w.grownBy w' none):Ar w0 w' aa ns:=
 h.keep (zA h.gr g) (fun k ⟨_,_,e,_⟩=>g.block k (zE e) (by simp))
theorem Ar.set {w0 w w':World}{aa:List Nat}{ns:List Tr.Nd}{i b:Nat}{n':Tr.Nd}(h:Ar w0 w aa ns)(hi:aa[i]?=some b)(m:HMv w w' b)(hn:NdAt w' w0.heap.size aa b n'):Ar w0 w' aa (ns.set i n'):=by
 obtain⟨n,ab,ad⟩:=h.here i b hi
 have hl:i<ns.length:=(List.getElem?_eq_some_iff.1 ab).1
 have kp:∀j b':Nat,j≠i->aa[j]?=some b'->(∃n,ns[j]?=some n/\NdAt w' w0.heap.size aa b' n)/\∀k,HF w' b' k->HF w b' k/\k<w.heap.size:=fun j b' hj hb=>by
  obtain⟨n2,h1,h2⟩:=h.here j b' hb
  obtain⟨q1,q2⟩:=h2.keep (w':=w') (fun k hF=>m.turn.block k (h2.lt hF) (fun q=>h.apart j i b' b hj hb hi k hF q))
  exact⟨⟨n2,h1,q1⟩,fun k q=>⟨q2 k q,h2.lt (q2 k q)⟩⟩
 refine⟨m.turn.grown h.gr (fun k q=>(ad.hf q).1),by rw[List.length_set];exact h.len,fun j b' hj=>?_,fun j j' c c' hne hj hj' k q q'=>?_⟩
 ·by_cases e:j=i
  ·subst e
   rw[hi] at hj
   have e2:b=b':=by simpa using hj
   subst e2
   exact⟨n',List.getElem?_set_self hl,hn⟩
  ·obtain⟨⟨n2,q1,q2⟩,_⟩:=kp j b' e hj
   exact⟨n2,by rw[List.getElem?_set_ne (fun e2=>e e2.symm)];exact q1,q2⟩
 ·by_cases e1:j=i
  ·subst e1
   rw[hi] at hj
   have e2:b=c:=by simpa using hj
   subst e2
   have q2:=(kp j' c' (fun e=>hne e.symm) hj').2 k q'
   rcases m.foot k q with q3 | q3
   ·exact h.apart j j' b c' hne hi hj' k q3 q2.1
   ·omega
  ·by_cases e2:j'=i
   ·subst e2
    rw[hi] at hj'
    have e3:b=c':=by simpa using hj'
    subst e3
    have q2:=(kp j c e1 hj).2 k q
    rcases m.foot k q' with q3 | q3
    ·exact h.apart j j' c b hne hj hi k q2.1 q3
    ·omega
   ·exact h.apart j j' c c' hne hj hj' k ((kp j c e1 hj).2 k q).1 ((kp j' c' e2 hj').2 k q').1
theorem zm5 (w:World)(k:Nat)(h:HF (w.alloc (.cells #[.slice none 0 0,.slice none 0 0] 230)) w.heap.size k):k=w.heap.size:=by
 rcases h with rfl | ⟨j,u,c1,c2⟩
 ·rfl
 ·rw[z8 (heap_alloc_new w (.cells #[.slice none 0 0,.slice none 0 0] 230))] at c1
  exfalso
  match j,c1 with
  | 0,c1=>simp at c1;subst c1;cases c2
  | 1,c1=>simp at c1;subst c1;cases c2
  | j+2,c1=>simp at c1
theorem Ar.new {w0 w:World}{aa:List Nat}{ns:List Tr.Nd}(h:Ar w0 w aa ns)(ae:Tr.Ok ns):Ar w0 (w.alloc (.cells #[.slice none 0 0,.slice none 0 0] 230)) (aa++[w.heap.size]) (ns++[⟨[],[]⟩]):=by
 have g:=zJ w (.cells #[.slice none 0 0,.slice none 0 0] 230) none
 have hl:=h.len
 have hs:=h.gr.size
 have kp:∀i b:Nat,aa[i]?=some b->(∃n,ns[i]?=some n/\NdAt (w.alloc (.cells #[.slice none 0 0,.slice none 0 0] 230)) w0.heap.size (aa++[w.heap.size]) b n)/\∀k,HF (w.alloc (.cells #[.slice none 0 0,.slice none 0 0] 230)) b k->HF w b k/\k<w.heap.size:=fun i b hi=>by
  obtain⟨n,h1,h2⟩:=h.here i b hi
  obtain⟨q1,q2⟩:=h2.keep (w':=w.alloc (.cells #[.slice none 0 0,.slice none 0 0] 230)) (fun k hF=>g.block k (h2.lt hF) (by simp))
  obtain⟨vr,vb,p1,p2,p3⟩:=q1.ex
  exact⟨⟨n,h1,⟨⟨vr,vb,p1,p2,by rw[Tr.brCells_ext (fun x hx=>by rw[hl];exact(ae i n h1 x hx).2)];exact p3⟩,q1.low⟩⟩,fun k q=>⟨q2 k q,h2.lt (q2 k q)⟩⟩
 have ab:∀i b:Nat,(aa++[w.heap.size])[i]?=some b->aa[i]?=some b\/(i=ns.length/\b=w.heap.size):=fun i b hi=>by
  by_cases ad:i<aa.length
  ·rw[List.getElem?_append_left ad] at hi;exact Or.inl hi
  ·rw[List.getElem?_append_right (by omega)] at hi
   have h9:=(List.getElem?_eq_some_iff.1 hi).1
   have e:i - aa.length=0:=by simpa using h9
   rw[e] at hi
   simp at hi
   exact Or.inr ⟨by omega,hi.symm⟩
 refine⟨zA h.gr g,by simp[hl],fun i b hi=>?_,fun i j b b' hij hi hj k q q'=>?_⟩
 ·rcases ab i b hi with h1 | ⟨h1,h2⟩
  ·obtain⟨⟨n,q1,q2⟩,_⟩:=kp i b h1
   exact⟨n,by rw[List.getElem?_append_left (List.getElem?_eq_some_iff.1 q1).1];exact q1,q2⟩
  ·subst h1;subst h2
   exact⟨⟨[],[]⟩,by rw[List.getElem?_append_right (zZ _),Nat.sub_self];rfl,⟨⟨_,_,heap_alloc_new w (.cells #[.slice none 0 0,.slice none 0 0] 230),xS _ _ _ _,xS _ _ _ _⟩,hs⟩⟩
 ·rcases ab i b hi with h1 | ⟨h1,h2⟩
  ·rcases ab j b' hj with h3 | ⟨h3,h4⟩
   ·exact h.apart i j b b' hij h1 h3 k ((kp i b h1).2 k q).1 ((kp j b' h3).2 k q').1
   ·have e:k=w.heap.size:=zm5 w k (h4 ▸ q')
    have:=((kp i b h1).2 k q).2
    omega
  ·rcases ab j b' hj with h3 | ⟨h3,h4⟩
   ·have e:k=w.heap.size:=zm5 w k (h2 ▸ q)
    have:=((kp j b' h3).2 k q').2
    omega
   ·omega
def Tr.next (ns:List Tr.Nd)(i:Nat)(c:UInt8):List Tr.Nd×Nat:=
 match ns[i]? with
 | none=>(ns,i)
 | some n=>
  match n.br.find? (fun x=>decide (x.1=c)) with
  | some x=>(ns,x.2)
  | none=>((ns++[(⟨[],[]⟩:Tr.Nd)]).set i ⟨n.rules,n.br++[(c,ns.length)]⟩,ns.length)
def Tr.grow (ns:List Tr.Nd)(i:Nat)(p:List UInt8):List Tr.Nd×Nat:=p.foldl (fun s c=>Tr.next s.1 s.2 c) (ns,i)
def Tr.put (ns:List Tr.Nd)(i k:Nat):List Tr.Nd:=
 match ns[i]? with
 | none=>ns
 | some n=>ns.set i ⟨n.rules++[k],n.br⟩
theorem Tr.next_ok {ns:List Tr.Nd}(h:Tr.Ok ns)(i:Nat)(hi:i<ns.length)(c:UInt8):Tr.Ok (Tr.next ns i c).1/\(Tr.next ns i c).2<(Tr.next ns i c).1.length/\ns.length<=(Tr.next ns i c).1.length/\(Tr.next ns i c).1.length<=ns.length+1:=by
 unfold Tr.next
 rw[qN hi]
 simp only
 split
 ·rename_i x hx
  have:=h i _ (qN hi) x (List.mem_of_find?_eq_some hx)
  exact⟨h,this.2,zZ _,Nat.le_succ _⟩
 ·refine⟨fun j n hj x hx=>?_,by simp,by simp,by simp⟩
  rw[List.length_set,zW,List.length_singleton]
  by_cases e:i=j
  ·subst e
   rw[List.getElem?_set_self (by simp;omega)] at hj
   have e2:=qk hj
   subst e2
   rcases List.mem_append.1 hx with hx | hx
   ·have:=h i _ (qN hi) x hx
    exact⟨this.1,by omega⟩
   ·simp at hx;subst hx;exact⟨hi,by simp⟩
  ·rw[List.getElem?_set_ne e] at hj
   by_cases aa:j<ns.length
   ·rw[List.getElem?_append_left aa] at hj
    have:=h j n hj x hx
    exact⟨this.1,by omega⟩
   ·rw[List.getElem?_append_right (by omega)] at hj
    have h9:=(List.getElem?_eq_some_iff.1 hj).1
    have e3:j - ns.length=0:=by simpa using h9
    rw[e3] at hj
    have e4:=qk hj
    subst e4
    simp at hx
theorem Tr.put_ok {ns:List Tr.Nd}(h:Tr.Ok ns)(i k:Nat):Tr.Ok (Tr.put ns i k)/\(Tr.put ns i k).length=ns.length:=by
 unfold Tr.put
 split
 ·exact⟨h,rfl⟩
 ·rename_i n hn
  refine⟨fun j n' hj x hx=>?_,List.length_set⟩
  rw[List.length_set]
  by_cases e:i=j
  ·subst e
   rw[List.getElem?_set_self (List.getElem?_eq_some_iff.1 hn).1] at hj
   have e2:=qk hj
   subst e2
   exact h i n hn x hx
  ·rw[List.getElem?_set_ne e] at hj
   exact h j n' hj x hx
theorem zp4:(Tryz.prog.info? 299).map (fun i=>(i.zero,i.size,i.bytes))=some (some (.agg #[.int .u8 0,.pointer none]),2,16):=by kernel_rfl
theorem Tr.find_at {l:List (UInt8×Nat)}{c:UInt8}{k:Nat}(hk:k<l.length)(h:l[k].1=c)(hn:∀j (hj:j<l.length),j<k->l[j].1≠c):l.find? (fun x=>decide (x.1=c))=some l[k]:=by
 rw[List.find?_eq_some_iff_getElem]
 exact⟨by simpa using h,k,hk,rfl,fun j hj=>by simpa using hn j (by omega) hj⟩
theorem Tr.find_no {l:List (UInt8×Nat)}{c:UInt8}(hn:∀j (hj:j<l.length),j<l.length->l[j].1≠c):l.find? (fun x=>decide (x.1=c))=none:=by
 rw[List.find?_eq_none]
 intro x hx
 obtain⟨j,hj,rfl⟩:=List.getElem_of_mem hx
 simpa using hn j hj hj
theorem zq7 {a b:UInt8}(h:a≠b):¬((a.toNat:Int)=b.toNat):=fun e=>h (UInt8.toNat_inj.1 (by omega))
theorem zlH {w0 w:World}{aa:List Nat}{ns:List Tr.Nd}{i b:Nat}(h:Ar w0 w aa ns)(am:Tr.Ok ns)(hi:aa[i]?=some b)(c:UInt8)(ay:∀n,ns[i]?=some n->n.br.length<=1000000) :
  Calls Tryz.prog 174 #[.pointer (some ⟨b,0,none⟩),.int .u8 c.toNat] w fun e w'=>∃ex b',e = .returned (.pointer (some ⟨b',0,none⟩))/\Ar w0 w' (aa++ex) (Tr.next ns i c).1/\(aa++ex)[(Tr.next ns i c).2]?=some b':=by
 obtain⟨i0,aR,aS,aT,aU⟩:=info_parts zp4
 obtain⟨n,hn,hN⟩:=h.here i b hi
 obtain⟨vr,vb,h1,h2,h3⟩:=hN.ex
 obtain⟨va,vk,rfl⟩:=zP h3
 have hl:=h.len
 have ay:=ay n hn
 have aX:i<ns.length:=(List.getElem?_eq_some_iff.1 hn).1
 have ah:Y (Tr.next ns i c=match n.br.find? (fun x=>decide (x.1=c)) with | some x=>(ns,x.2) | none=>((ns++[(⟨[],[]⟩:Tr.Nd)]).set i ⟨n.rules,n.br++[(c,ns.length)]⟩,ns.length)):=by
  show _=_;unfold Tr.next;rw[hn];try rfl
 have HH:=hid h
 have aK:=hid am
 have HI:=hid hi
 have HN:=hid hn
 have aH:=hid hN.low
 have HL:=hid hl
 have H1:=hid h1
 have H2:=hid h2
 have H3:=hid h3
 have ar:Y (∀x∈n.br,x.2<ns.length):=fun x hx=>(am i n hn x hx).2
 have k1:w.cell? ⟨b,1,none⟩=some (.slice va n.br.length vk):=z8 h1
 clear h am hi hn hN h1 h2 h3 hl
 generalize Tr.next ns i c=res at*
 go_enter Tryz.func174,Tryz.ntmps174
 go_wp2_with fail
 go_loopw [13] (fun iv wr=>∃k:Nat,k<=n.br.length/\iv = .int .i64 k/\Y (∀j (hj:j<n.br.length),j<k->n.br[j].1≠c)/\Y (w.grownBy wr none)) (fun iv _=>n.br.length - (intOf iv).toNat)
 case atStart=>exact⟨0,zl _,rfl,fun j hj h0=>absurd h0 (by omega),zM _ _⟩
 case round=>
  obtain⟨k,aW,rfl,HP,HG⟩:=hrel
  by_cases af:k<n.br.length
  ·have aV:(k:Int)<n.br.length:=by omega
   obtain⟨g,gc,e1,_,_⟩:=World.ownsRow.form H3.o (by omega)
   simp only[qc,true_and] at e1
   obtain⟨rfl,rfl⟩:=e1
   have d0:wr.cell? ⟨g,k*2,none⟩=some (.int .u8 n.br[k].1.toNat):=qO (Tr.brCell aa) 2 (fun _=>rfl) H3.o HG.o k 0 af (by omega) rfl
   have d1:wr.cell? ⟨g,k*2+1,none⟩=some (.pointer (some ⟨Tr.adr aa n.br[k].2,0,none⟩)):=qO (Tr.brCell aa) 2 (fun _=>rfl) H3.o HG.o k 1 af (by omega) rfl
   have HF:=hid (fun he:n.br[k].1=c=>Tr.find_at af he HP.o)
   have HS:Y (n.br[k].1≠c->∀j (hj:j<n.br.length),j<k+1->n.br[j].1≠c):=fun hne j hj hjk=>by
    by_cases e:j=k
    ·subst e;exact hne
    ·exact HP.o j hj (by omega)
   have HX:=hid (ar.o n.br[k] (List.getElem_mem af))
   generalize n.br[k]=x at*
   have aq:=hid (zA HG.o (zJ wr (.cells #[.int .u8 x.1.toNat,.pointer (some ⟨Tr.adr aa x.2,0,none⟩)] 299) none))
   have HB:=hid (heap_alloc_new wr (.cells #[.int .u8 x.1.toNat,.pointer (some ⟨Tr.adr aa x.2,0,none⟩)] 299))
   have q0:(wr.alloc (.cells #[.int .u8 x.1.toNat,.pointer (some ⟨Tr.adr aa x.2,0,none⟩)] 299)).cell? ⟨wr.heap.size,0,none⟩=some (.int .u8 x.1.toNat):=z8 HB.o
   have q1:(wr.alloc (.cells #[.int .u8 x.1.toNat,.pointer (some ⟨Tr.adr aa x.2,0,none⟩)] 299)).cell? ⟨wr.heap.size,1,none⟩=some (.pointer (some ⟨Tr.adr aa x.2,0,none⟩)):=z8 HB.o
   go_upto_region 4 with fail
   generalize wr.alloc (.cells #[.int .u8 x.1.toNat,.pointer (some ⟨Tr.adr aa x.2,0,none⟩)] 299)=wa at*
   clear d0 d1 HG HB k1
   by_cases he:x.1=c
   ·have aQ:(x.1.toNat:Int)=c.toNat:=by rw[he]
    have ap:=hid (HF.o he)
    clear he HF HS
    go_wp2
    go_ret
    refine⟨[],Tr.adr aa x.2,rfl,?_,?_⟩
    ·rw[ah.o,ap.o,xn]
     exact HH.o.grown aq.o
    ·rw[ah.o,ap.o,xn]
     have hx:x.2<aa.length:=by have:=HX.o;have:=HL.o;omega
     show aa[x.2]?=_
     rw[Tr.adr_at (qN hx),qN hx]
   ·have aQ:=zq7 he
    have aM:=hid (HS.o he)
    clear he HF HS
    go_wp2_with fail
    go_roundw
    case rel=>exact⟨k+1,by omega,by go_num,aM,aq⟩
    case measure=>simp[intOf];omega
  ·have hE:k=n.br.length:=by omega
   subst hE
   have HF:=hid (Tr.find_no HP.o)
   have gr:=HG.o
   have gA:=zJ wr (.cells #[.slice none 0 0,.slice none 0 0] 230) none
   have gX:=zJ (wr.alloc (.cells #[.slice none 0 0,.slice none 0 0] 230)) (.cells #[.int .u8 c.toNat,.pointer (some ⟨wr.heap.size,0,none⟩)] 299) none
   have aj:=zA gr gA
   have ae:=zA aj gX
   have an:=hid (((HH.o.grown gr).new aK.o).grown gX)
   have aL:=hid (zB H1.o aj (by simp))
   have ab:=hid (zB H1.o ae (by simp))
   have av:=hid (zO H2.o ae (fun k hk c=>by cases c))
   have ai:=hid (zO H3.o ae (fun k hk c=>by cases c))
   have aI:Y (∀j u,([.int .u8 c.toNat,.pointer (some ⟨wr.heap.size,0,none⟩)]:List Value)[j]?=some u->((wr.alloc (.cells #[.slice none 0 0,.slice none 0 0] 230)).alloc (.cells #[.int .u8 c.toNat,.pointer (some ⟨wr.heap.size,0,none⟩)] 299)).cell? ((⟨wr.heap.size+1,0,none⟩:Addr).add j)=some u):=qI (wr.alloc (.cells #[.slice none 0 0,.slice none 0 0] 230)) #[_,_] _ _ (by simp)
   have aB:Y (∀u∈([.int .u8 c.toNat,.pointer (some ⟨wr.heap.size,0,none⟩)]:List Value),u.oneCell'=true):=fun u hu=>by simp at hu;rcases hu with rfl | rfl <;> rfl
   have aF:Y (n.br.length+1<=maxLen):=by show _<=_;unfold maxLen;omega
   have aO:Y ((n.br.length+1)*16<=140737488355328):=by show _<=_;omega
   have aw:Y (((wr.alloc (.cells #[.slice none 0 0,.slice none 0 0] 230)).alloc (.cells #[.int .u8 c.toNat,.pointer (some ⟨wr.heap.size,0,none⟩)] 299)).heap.size=wr.heap.size+2):=by show _=_;simp
   have aC:Y (w0.heap.size<=((wr.alloc (.cells #[.slice none 0 0,.slice none 0 0] 230)).alloc (.cells #[.int .u8 c.toNat,.pointer (some ⟨wr.heap.size,0,none⟩)] 299)).heap.size):=an.o.gr.size
   have ag:=hid (zV ab.o ai.o (by decide))
   have kX:((wr.alloc (.cells #[.slice none 0 0,.slice none 0 0] 230)).alloc (.cells #[.int .u8 c.toNat,.pointer (some ⟨wr.heap.size,0,none⟩)] 299)).cell? ⟨b,1,none⟩=some (.slice va n.br.length vk):=z8 ab.o
   have kA:(wr.alloc (.cells #[.slice none 0 0,.slice none 0 0] 230)).cell? ⟨b,1,none⟩=some (.slice va n.br.length vk):=z8 aL.o
   have aP:b<((wr.alloc (.cells #[.slice none 0 0,.slice none 0 0] 230)).alloc (.cells #[.int .u8 c.toNat,.pointer (some ⟨wr.heap.size,0,none⟩)] 299)).heap.size:=zE ab.o
   have az:(aa++[wr.heap.size])[i]?=some b:=by rw[List.getElem?_append_left (List.getElem?_eq_some_iff.1 HI.o).1];exact HI.o
   have ao:Y (res.1=(ns++[(⟨[],[]⟩:Tr.Nd)]).set i ⟨n.rules,n.br++[(c,ns.length)]⟩/\res.2=ns.length):=by show _/\_;rw[ah.o,HF.o];exact⟨rfl,rfl⟩
   have aG:Y ((aa++[wr.heap.size])[res.2]?=some wr.heap.size):=by
    show _=_
    rw[ao.o.2,List.getElem?_append_right (by rw[HL.o];exact zZ _),HL.o,Nat.sub_self];rfl
   have aD:Y (∀g9 ad w9,w9.ownsRow w0.heap.size 299 2 (.slice (some ⟨g9,0,none⟩) (n.br.length+1) ad) (n.br.length+1) (Tr.brCells aa n.br++[.int .u8 c.toNat,.pointer (some ⟨wr.heap.size,0,none⟩)])->((wr.alloc (.cells #[.slice none 0 0,.slice none 0 0] 230)).alloc (.cells #[.int .u8 c.toNat,.pointer (some ⟨wr.heap.size,0,none⟩)] 299)).grownBy w9 (Value.slice va n.br.length vk).ownBlock->((Value.slice va n.br.length vk).ownBlock=some g9\/g9=wr.heap.size+2)->Ar w0 (w9.setCell ⟨b,1,none⟩ (.slice (some ⟨g9,0,none⟩) (n.br.length+1) ad)) (aa++[wr.heap.size]) res.1):=fun g9 ad w9 ho hg hat=>by
    have ak:=qM ab.o hg ag.o
    have gs:=zD w9 b 1 (.slice (some ⟨g9,0,none⟩) (n.br.length+1) ad)
    have r9:=zO av.o hg (xW ai.o av.o (by decide))
    rw[ao.o.1]
    refine an.o.set az (HMv.append kX aP hg ag.o (by rcases hat with h | h;exact Or.inl h;exact Or.inr (by rw[h,aw.o]))) ⟨⟨vr,_,zF (i:=1) ak _,zS r9 gs (zV ak r9 (by decide)),?_⟩,aH.o⟩
    have:=zS ho gs (zV ak ho (by decide))
    show World.ownsRow _ _ _ _ _ (n.br++[(c,ns.length)]).length (Tr.brCells (aa++[wr.heap.size]) (n.br++[(c,ns.length)]))
    have eg:Tr.adr (aa++[wr.heap.size]) ns.length=wr.heap.size:=Tr.adr_at (by rw[List.getElem?_append_right (by rw[HL.o];exact zZ _),HL.o,Nat.sub_self];rfl)
    rw[Tr.brCells_snoc,Tr.brCells_ext (fun x hx=>by rw[HL.o];exact ar.o x hx),zW]
    simp only[eg]
    exact this
   clear gr gA gX aj ae k1 az HP HG HF
   go_wp2_with (at_builtin;refine wpList_append_lies _ rfl (.tmp 30) (.tmp 34) 228 rfl w0.heap.size 299 i0 _ 2 16 Tryz.underlying228 aR aS aT aU rfl (by decide) _ _ _ rfl ai.o ⟨wr.heap.size+1,0,none⟩ 1 1 [.int .u8 c.toNat,.pointer (some ⟨wr.heap.size,0,none⟩)] rfl rfl aI.o aB.o (by decide) aF.o aO.o aC.o (wr.heap.size+2) aw.o ?_)
   intro g9 ad w9 aA al ax _
   have aJ:=hid aA
   have aE:=hid al
   have aN:=hid ax
   have au:=hid (qM ab.o al ag.o)
   have q9:w9.cell? ⟨b,1,none⟩=some (.slice va n.br.length vk):=z8 au.o
   have f9:w9.frozen? ⟨b,1,none⟩=false:=zC au.o
   clear aA al ax
   go_wp2
   go_ret
   exact⟨[wr.heap.size],wr.heap.size,rfl,aD.o _ _ _ aJ.o aE.o aN.o,aG.o⟩
end Go.Proofs.YtfocdefchbnkpaaGreatDoor
