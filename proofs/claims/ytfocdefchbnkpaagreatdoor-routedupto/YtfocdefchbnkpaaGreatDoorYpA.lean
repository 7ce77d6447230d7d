/- The yard with a policy: its table, and Push. -/
import Derived.Test.YtfocdefchbnkpaaGreatDoorAli
import Derived.Test.YtfocdefchbnkpaaGreatDoorYdJ
import Derived.Test.YtfocdefchbnkpaaGreatDoorRoO
set_option maxRecDepth 100000
set_option maxHeartbeats 20000000
namespace Go.Proofs.YtfocdefchbnkpaaGreatDoor
open Go.RowKit
def tabTypes:List TypeId:=166 :: ratags
def Tabbed (w:World)(k:Nat):Prop:=k<w.heap.size/\∀cs t f,w.heap[k]?=some (.cells cs t f)->t∈tabTypes
def TabAt (w:World)(tv:Value)(hs:List P.Hst):Prop:=
 ∃tb mb l,tv = .pointer (some ⟨tb,0,none⟩)/\w.heap[tb]?=some (.cells #[.map (some mb)] 166 (0,0))/\TabM w mb l hs
theorem Tabbed.of_row {w:World}{B:Nat}{e:TypeId}{s:Nat}{v:Value}{n:Nat}{xs:List Value}(h:w.ownsRow B e s v n xs)(he:e∈tabTypes)(k:Nat)(hk:v.ownBlock=some k):Tabbed w k:=by
 obtain⟨c,h2⟩:=qH h k hk
 refine⟨(qh h k hk).2,fun cs t f e2=>?_⟩
 rw[h2] at e2
 simp only[Option.some.injEq,Obj.cells.injEq] at e2
 rw[<-e2.2.1];exact he
theorem PRuleVal.same {w w':World}{cs:List Value}{r:P.Rl}(h:PRuleVal w cs r)(hk:∀k,Tabbed w k->w'.heap[k]?=w.heap[k]?):PRuleVal w' cs r:=by
 obtain⟨vM,vT,vS,vD,e,h1,h2,h3,h4⟩:=h
 exact⟨vM,vT,vS,vD,e,xA h1 (fun k q=>hk k (Tabbed.of_row h1 (by decide) k q)),xA h2 (fun k q=>hk k (Tabbed.of_row h2 (by decide) k q)),xA h3 (fun k q=>hk k (Tabbed.of_row h3 (by decide) k q)),xA h4 (fun k q=>hk k (Tabbed.of_row h4 (by decide) k q))⟩
theorem HostV.same {w w':World}{v:Value}{h:P.Hst}(hv:HostV w v h)(hk:∀k,Tabbed w k->w'.heap[k]?=w.heap[k]?):HostV w' v h:=by
 obtain⟨ra,rk,pa,pk,e,⟨aa,h1,ab⟩,h2⟩:=hv
 exact⟨ra,rk,pa,pk,e,⟨aa,xA h1 (fun k q=>hk k (Tabbed.of_row h1 (by decide) k q)),ab.map fun _ _ q=>q.same hk⟩,xA h2 (fun k q=>hk k (Tabbed.of_row h2 (by decide) k q))⟩
theorem TabAt.same {w w':World}{tv:Value}{hs:List P.Hst}(h:TabAt w tv hs)(hk:∀k,Tabbed w k->w'.heap[k]?=w.heap[k]?):TabAt w' tv hs:=by
 obtain⟨tb,mb,l,e,hb,hm⟩:=h
 refine⟨tb,mb,l,e,(hk tb ⟨zE hb,fun cs t f e2=>?_⟩).trans hb,hm.map.same (hk mb ⟨hm.map.lt,fun cs t f e2=>?_⟩),hm.all.map fun _ _ ⟨q1,q2⟩=>⟨q1,q2.same hk⟩⟩
 ·rw[hb] at e2
  simp only[Option.some.injEq,Obj.cells.injEq] at e2
  rw[<-e2.2.1];decide
 ·obtain⟨es,c,h1,_⟩:=hm.map
  rw[h1] at e2;cases e2
theorem TabAt.grown {w w':World}{tv:Value}{hs:List P.Hst}(h:TabAt w tv hs)(g:w.grownBy w' none):TabAt w' tv hs:=h.same fun k hk=>g.block k hk.1 (by simp)
theorem Tabbed.apart {w:World}{k:Nat}(h:Tabbed w k)(h2:∃cs t f,w.heap[k]?=some (.cells cs t f)/\(t∈ydTypes\/t∈cnTypes)):False:=by
 obtain⟨cs,t,f,e,m⟩:=h2
 have h3:=h.2 cs t f e
 have:∀t∈tabTypes,t ∉ ydTypes/\t ∉ cnTypes:=by decide
 rcases m with m | m
 ·exact(this t h3).1 m
 ·exact(this t h3).2 m
theorem YInv.types {w:World}{yb B k:Nat}{tv:Value}{ps:List (Option Nat)}{y:Yd}(h:YInv w yb B tv ps y)(ht:tv.ownBlock=none)(hk:YF w yb ps k):∃cs t f,w.heap[k]?=some (.cells cs t f)/\(t∈ydTypes\/t∈cnTypes):=by
 rcases hk with hk | ⟨i,cb,hi,hk⟩
 ·obtain⟨_,cs,t,e,m⟩:=h.hf ht hk
  exact⟨cs,t,_,e,Or.inl m⟩
 ·obtain⟨c,_,q⟩:=h.here i cb hi
  obtain⟨_,cs,t,f,e,m⟩:=q.cf hk
  exact⟨cs,t,f,e,Or.inr m⟩
theorem TabAt.moved {w w':World}{yb B:Nat}{tv tv':Value}{ps ps':List (Option Nat)}{y:Yd}{hs:List P.Hst}(h:TabAt w tv hs)(m:YMv w w' yb ps ps')(hI:YInv w yb B tv' ps y)(ht:tv'.ownBlock=none):TabAt w' tv hs:=
 h.same fun k hk=>m.turn.block k hk.1 fun hF=>hk.apart (hI.types ht hF)
theorem TabAt.head {w W:World}{cb B:Nat}{wt tv:Value}{hh:Rq.Head}{hs:List P.Hst}(h:TabAt w tv hs)(m:HMv w W cb)(hI:HInv w cb B wt hh)(hw:wt.ownBlock=none):TabAt W tv hs:=
 h.same fun k hk=>m.turn.block k hk.1 fun hF=>by
  obtain⟨_,cs,t,f,e,q⟩:=hI.hf hw hF
  exact hk.apart ⟨cs,t,f,e,Or.inr q⟩
theorem TabAt.own {w:World}{tv:Value}{hs:List P.Hst}(h:TabAt w tv hs):tv.ownBlock=none:=by
 obtain⟨tb,mb,l,rfl,_⟩:=h;rfl
theorem znD {w:World}{yb B:Nat}{tv v:Value}{ps:List (Option Nat)}{y:Yd}{hs:List P.Hst}(h:YInv w yb B tv ps y)(ht:tv.ownBlock=none)(hr:RdO w v (qE hs))(hv:∀g o n c,v = .slice (some ⟨g,o,none⟩) n c->g<w.heap.size)(hl:(qE hs).length<=140737488355328)(hG:Glob w)(hT:GT w)(hV:VHs hs)(hF:Fits hs) :
  Calls Tryz.prog 22 #[.pointer (some ⟨yb,0,none⟩),v] w fun e w'=>e = .returned (.int .i64 0)/\∃tv',TabAt w' tv' hs/\YInv w' yb B tv' ps y/\YMv w w' yb ps ps:=by
 have HR:Y (Calls Tryz.prog 44 #[v] w fun e w'=>w.grownBy w' none/\∃a c,e = .returned (.tuple #[.agg #[.slice a hs.length c],.bool true])/\PHostsRow w' 0 (.slice a hs.length c) hs):=by
  refine(zaL hr hv hl hG hT).mono ?_
  rintro e w' ⟨g,⟨aj,a,c,h1,h2,h3,h4⟩ | ⟨h1,_⟩⟩
  ·have e9:aj=hs:=by
    have q1:=v8 aj h1
    have q2:=v8 hs hV
    rw[h2] at q1
    exact q1.symm.trans q2
   subst e9
   exact⟨g,a,c,h3,h4⟩
  ·exact absurd rfl (h1 hs hV)
 have ag:=hid hF
 obtain⟨vd,vc,vs,h1,h2,h3,h4⟩:=h.ex
 have ae:=hid h1
 have HI:=hid h
 have af:Y (∀w3 tb mb l,w.grownBy w3 none->w3.heap[tb]?=some (.cells #[.map (some mb)] 166 (0,0))->TabM w3 mb l hs->TabAt (w3.setCell ⟨yb,0,none⟩ (.pointer (some ⟨tb,0,none⟩))) (.pointer (some ⟨tb,0,none⟩)) hs/\YInv (w3.setCell ⟨yb,0,none⟩ (.pointer (some ⟨tb,0,none⟩))) yb B (.pointer (some ⟨tb,0,none⟩)) ps y/\YMv w (w3.setCell ⟨yb,0,none⟩ (.pointer (some ⟨tb,0,none⟩))) yb ps ps):=fun w3 tb mb l g hb hm=>by
  obtain⟨aa,ak⟩:=h.grown ht g
  obtain⟨vd,vc,vs,h1,h2,h3,h4⟩:=aa.ex
  have gs:=zD w3 yb 0 (.pointer (some ⟨tb,0,none⟩))
  have al:TabAt w3 (.pointer (some ⟨tb,0,none⟩)) hs:=⟨tb,mb,l,rfl,hb,hm⟩
  have am:w3.cell? ⟨yb,0,none⟩=some tv:=z8 h1
  have ad:∀(v:Value) (e:TypeId),(∀k,v.ownBlock=some k->∃cs,w3.heap[k]?=some (.cells cs e (0,0)))->e≠99->∀k,v.ownBlock=some k->(w3.setCell ⟨yb,0,none⟩ (.pointer (some ⟨tb,0,none⟩))).heap[k]?=w3.heap[k]?:=fun v e hv he k hk=>by
   obtain⟨cs,e2⟩:=hv k hk
   refine gs.block k (zE e2) (fun e3=>?_)
   have e4:=qk e3
   rw[e4,h1] at e2
   simp only[Option.some.injEq,Obj.cells.injEq] at e2
   exact he e2.2.1.symm
  have ah:=aa.own (tv':=.pointer (some ⟨tb,0,none⟩)) (ps':=ps) (y':=y) ht (HMv.set (v:=.pointer (some ⟨tb,0,none⟩)) am (fun k hk=>by cases hk)) ⟨vd,vc,vs,zF (i:=0) h1 _,h2.keep gs.size (ad vd _ (fun k hk=>(h2.block k hk).2) (by decide)),xA h3 (ad vc _ (fun k hk=>qH h3 k hk) (by decide)),xA h4 (ad vs _ (fun k hk=>qH h4 k hk) (by decide))⟩ aa.len (fun i cb hi=>⟨hi,rfl⟩) aa.gone
  refine⟨al.same fun k hk=>gs.block k hk.1 (fun e3=>?_),ah.1,ak.trans ah.2⟩
  have e4:=qk e3
  rw[e4] at hk
  exact hk.apart ⟨_,_,_,h1,Or.inl (by decide)⟩
 clear h ht hr hv hl hG hT hV hF h1 h2 h3 h4
 go_enter Tryz.func22,Tryz.ntmps22
 go_wp2_with fail
 refine HR.o.mono ?_
 rintro e w1 ⟨g1,a,c,rfl,ai⟩
 have gA:=zJ w1 (.cells #[.slice a hs.length c] 88) none
 have HN:Y (Calls Tryz.prog 45 #[.agg #[.slice a hs.length c]] (w1.alloc (.cells #[.slice a hs.length c] 88)) fun e w'=>∃tb mb l,e = .returned (.pointer (some ⟨tb,0,none⟩))/\w'.heap[tb]?=some (.cells #[.map (some mb)] 166 (0,0))/\TabM w' mb l hs/\w.grownBy w' none):=by
  refine(znE (ai.keep gA (zv _ _)) ag.o).mono ?_
  rintro e w' ⟨tb,mb,l,q1,q2,q3,q4⟩
  exact⟨tb,mb,l,q1,q2,q3,zA (zA g1 gA) q4⟩
 have p0:(w1.alloc (.cells #[.slice a hs.length c] 88)).cell? ⟨w1.heap.size,0,none⟩=some (.slice a hs.length c):=z8 (heap_alloc_new _ _)
 clear HR ai gA g1
 go_wp2_with fail
 refine HN.o.mono ?_
 rintro e w3 ⟨tb,mb,l,rfl,q1,q2,q3⟩
 have HE:=hid (af.o w3 tb mb l q3 q1 q2)
 have ab:=hid (zB ae.o q3 (by simp))
 have y0:w3.cell? ⟨yb,0,none⟩=some tv:=z8 ab.o
 have f0:=zrB 0 ab.o
 clear HN q1 q2 q3 p0 af HI ag ab ae
 go_wp2
 go_ret
 exact⟨rfl,_,HE.o.1,HE.o.2.1,HE.o.2.2⟩
theorem QRow.gr {w:World}{B:Nat}{e:TypeId}{v:Value}{xs:List Value}(h:QRow w B e v xs):GRow (fun f=>f=(0,0)) w B e v xs.length xs:=by
 obtain⟨ao,b,ab,aa,rfl,hc,hb⟩:=h
 exact⟨ao,b,ab,aa,rfl,hc,fun a ha=>by obtain⟨q1,q2,cs,q3⟩:=hb a ha;exact⟨q1,q2,cs,_,rfl,q3⟩⟩
theorem GRow.qr {w:World}{B:Nat}{e:TypeId}{v:Value}{n:Nat}{xs:List Value}(h:GRow (fun f=>f=(0,0)) w B e v n xs):QRow w B e v xs:=by
 obtain⟨ao,b,ab,aa,rfl,hc,hb⟩:=h
 have hn:n=xs.length:=by have:=hc.oldsLen;omega
 subst hn
 exact⟨ao,b,ab,aa,rfl,hc,fun a ha=>by obtain⟨q1,q2,cs,f,rfl,q3⟩:=hb a ha;exact⟨q1,q2,cs,q3⟩⟩
theorem zmI:(Tryz.prog.info? 60).map (fun i=>(i.zero,i.size,i.bytes))=some (some (.int .u64 0),1,8):=by kernel_rfl
def Yd.draw (y:Yd)(n:UInt64):Yd:={ y with draws:=y.draws++[n] }
theorem zn8 {w:World}{yb B:Nat}{tv:Value}{ps:List (Option Nat)}{y:Yd}(h:YInv w yb B tv ps y)(ht:tv.ownBlock=none)(n:UInt64)(hn:y.draws.length<=100000000)(hB:B<=w.heap.size) :
  Calls Tryz.prog 32 #[.pointer (some ⟨yb,0,none⟩),.int .u64 n.toNat] w fun e w'=>e = .returned (.tuple #[])/\YInv w' yb B tv ps (y.draw n)/\YMv w w' yb ps ps:=by
 obtain⟨i0,hi,aw,ax,ay⟩:=info_parts zmI
 obtain⟨ab,ak⟩:=h.grown ht (zJ w (.cells #[.int .u64 n.toNat] 60) none)
 obtain⟨vd,vc,vs,h1,h2,h3,h4⟩:=ab.ex
 have k1:(w.alloc (.cells #[.int .u64 n.toNat] 60)).cell? ⟨yb,1,none⟩=some vd:=z8 h1
 obtain⟨aA,aD,aE,p1,_⟩:=h.ex
 have az:w.cell? ⟨yb,1,none⟩=some vd:=by
  have e:=zB p1 (zJ w (.cells #[.int .u64 n.toNat] 60) none) (by simp)
  rw[h1] at e
  simp only[Option.some.injEq,Obj.cells.injEq] at e
  have e2:aA=vd:=by have:=e.1;simp at this;exact this.1.symm
  rw[<-e2];exact z8 p1
 have HQ:=hid h2
 have HC:(w.alloc (.cells #[.int .u64 n.toNat] 60)).cell? ⟨w.heap.size,0,none⟩=some (.int .u64 n.toNat):=z8 (heap_alloc_new _ _)
 have ai:=hid HC
 have ar:Y ((y.draws.map drawV).length+1<=maxLen):=by show _<=_;unfold maxLen;rw[qw];omega
 have au:Y (((y.draws.map drawV).length+1)*8<=140737488355328):=by show _<=_;rw[qw];omega
 have aq:Y (B<=(w.alloc (.cells #[.int .u64 n.toNat] 60)).heap.size):=by show _<=_;simp;omega
 have ag:=hid h1
 have am:(y.draw n).draws.map drawV=y.draws.map drawV++[.int .u64 n.toNat]:=by unfold Yd.draw;rw[xy];rfl
 have aj:Y (∀v' w',QRow w' B 60 v' (y.draws.map drawV++[.int .u64 n.toNat])->(w.alloc (.cells #[.int .u64 n.toNat] 60)).grownBy w' vd.ownBlock->(∀k,v'.ownBlock=some k->vd.ownBlock=some k\/w.heap.size+1<=k)->YInv (w'.setCell ⟨yb,1,none⟩ v') yb B tv ps (y.draw n)/\YMv w (w'.setCell ⟨yb,1,none⟩ v') yb ps ps):=fun v' w' hq g hk=>by
  have ad:∀k,vd.ownBlock=some k->k≠yb:=fun k hk e=>by
   obtain⟨_,cs,e2⟩:=h2.block k hk
   rw[e,h1] at e2;simp at e2
  have al:=qM h1 g ad
  have gs:=zD w' yb 1 v'
  have an:∀(v:Value) (e:TypeId),(∀k,v.ownBlock=some k->∃cs,(w.alloc (.cells #[.int .u64 n.toNat] 60)).heap[k]?=some (.cells cs e (0,0)))->e≠99->e≠60->∀k,v.ownBlock=some k->(w'.setCell ⟨yb,1,none⟩ v').heap[k]?=(w.alloc (.cells #[.int .u64 n.toNat] 60)).heap[k]?:=fun v e hv he he2 k hk=>by
   obtain⟨cs,e2⟩:=hv k hk
   have e3:k≠yb:=fun e3=>by rw[e3,h1] at e2;simp only[Option.some.injEq,Obj.cells.injEq] at e2;exact he e2.2.1.symm
   have e4:vd.ownBlock≠some k:=fun e4=>by
    obtain⟨_,aC,e5⟩:=h2.block k e4
    rw[e2] at e5;simp only[Option.some.injEq,Obj.cells.injEq] at e5;exact he2 e5.2.1
   exact(gs.block k (yU (zE e2) g.size) (by simpa using e3)).trans (g.block k (zE e2) (fun e=>e4 e.symm))
  have av:=HMv.put k1 (zE h1) g ad (fun k aa=>by have:=hk k aa;simpa using this)
  have ae:QRow (w'.setCell ⟨yb,1,none⟩ v') B 60 v' ((y.draw n).draws.map drawV):=by
   rw[am]
   refine hq.keep gs.size (fun k aa=>?_)
   obtain⟨_,cs,e2⟩:=hq.block k aa
   exact gs.block k (zE e2) (fun e3=>by have e4:=qk e3;rw[e4,al] at e2;simp at e2)
  have ao:=ab.own (tv':=tv) (ps':=ps) (y':=y.draw n) ht av ⟨v',vc,vs,zF (i:=1) al _,ae,xA h3 (an vc _ (fun k hk=>qH h3 k hk) (by decide) (by decide)),xA h4 (an vs _ (fun k hk=>qH h4 k hk) (by decide) (by decide))⟩ ab.len (fun i cb hi=>⟨hi,rfl⟩) ab.gone
  exact⟨ao.1,ak.trans ao.2⟩
 clear h ht ab ak p1 h1 h2 h3 h4 hn hB am
 generalize y.draw n=y' at*
 go_enter Tryz.func32,Tryz.ntmps32
 go_wp2_with (at_builtin;refine vX (F:=fun f=>f=(0,0)) rfl _ rfl (.tmp 8) (.tmp 10) 96 rfl B 60 i0 _ 8 Tryz.underlying96 hi aw ax ay rfl vd (y.draws.map drawV).length (y.draws.map drawV) rfl HQ.o.gr ⟨w.heap.size,0,none⟩ 1 (.int .u64 n.toNat) rfl ai.o rfl ar.o au.o aq.o ?_)
 intro v9 w9 ap ah aa
 have ae:=ap.qr
 have HE:=hid (aj.o v9 w9 ae ah aa)
 have ad:∀k,vd.ownBlock=some k->k≠yb:=fun k hk e=>by
  obtain⟨_,cs,e2⟩:=HQ.o.block k hk
  rw[e,ag.o] at e2;simp at e2
 have af:=hid (qM ag.o ah ad)
 have q9:w9.cell? ⟨yb,1,none⟩=some vd:=z8 af.o
 have f9:=zrB 1 af.o
 clear ae
 obtain⟨aB,b9,o9,c9,rfl,_⟩:=ap
 clear ad ah aa aj HQ ag af k1 az HC ai
 go_wp2
 go_end0
 exact⟨rfl,HE.o⟩
theorem QRow.form {w:World}{B:Nat}{e:TypeId}{v x:Value}{t:List Value}(h:QRow w B e v (x :: t)):∃b aa ab,v = .slice (some ⟨b,aa,none⟩) (t.length+1) ab/\t.length+1<=ab/\w.cell? ⟨b,aa,none⟩=some x/\QRow w B e (if ab=1 then .slice (some ⟨b,aa,none⟩) 0 0 else .slice (some ⟨b,aa+1,none⟩) t.length (ab - 1)) t:=by
 obtain⟨ao,b,aa,ab,rfl,hc,hb⟩:=h
 have ae:t.length+1<=ab:=hc.le
 have ha:=hc.addr (by omega)
 subst ha
 obtain⟨_,hB,cs,ad⟩:=hb _ rfl
 refine⟨b,aa,ab,rfl,ae,hc.olds 0 x rfl,?_⟩
 split
 ·rename_i h1
  have ht:t=[]:=List.eq_nil_of_length_eq_zero (by omega)
  subst ht
  exact⟨some ⟨b,aa,none⟩,b,aa,0,rfl,⟨zZ _,fun _=>rfl,fun _=>zE ad,rfl,fun j u hj=>by simp at hj,fun j hj=>by simp at hj⟩,fun a h=>by cases h;exact⟨rfl,hB,_,ad⟩⟩
 ·refine⟨some ⟨b,aa+1,none⟩,b,aa+1,ab - 1,rfl,⟨by omega,fun _=>rfl,fun _=>zE ad,by omega,fun j u hj=>?_,fun j hj=>?_⟩,fun a h=>by cases h;exact⟨rfl,hB,_,ad⟩⟩
  ·have:=hc.olds (j+1) u hj
   rw[show aa+1+j=aa+(j+1) by omega]
   exact this
  ·have:=hc.spare j (by simp only[zm];omega)
   rw[show aa+1+t.length*1+j=aa+(x :: t).length*1+j by simp only[zm];omega]
   exact this
theorem zkP {w:World}{yb B:Nat}{tv vd vc vs:Value}{l:List UInt64}(hb:w.heap[yb]?=some (.cells #[tv,vd,vc,vs] 99 (0,0)))(hq:QRow w B 60 vd (l.map drawV))(hl:l.length<=1000000000) :
  Calls Tryz.prog 125 #[.pointer (some ⟨yb,0,none⟩)] w fun e w'=>e = .returned (.int .u64 (l.headD 0).toNat)/\∃vd',w'.heap[yb]?=some (.cells #[tv,vd',vc,vs] 99 (0,0))/\QRow w' B 60 vd' (l.tail.map drawV)/\w.grownBy w' (some yb)/\∀k,vd'.ownBlock=some k->vd.ownBlock=some k:=by
 have k1:w.cell? ⟨yb,1,none⟩=some vd:=z8 hb
 have f1:=zrB 1 hb
 have HB:=hid hb
 cases l with
 | nil=>
  have HQ:=hid hq
  obtain⟨ao,b,ai,ab,rfl,_⟩:=hq
  have z:(List.map drawV ([]:List UInt64)).length=0:=rfl
  rw[z] at k1
  clear hb
  go_enter Tryz.func125,Tryz.ntmps125
  go_wp2
  go_ret
  exact⟨rfl,_,HB.o,HQ.o,⟨rfl,rfl,rfl,zZ _,fun _ _ _=>rfl⟩,fun k hk=>hk⟩
 | cons x t=>
  obtain⟨b,ai,ab,rfl,ag,af,ae⟩:=hq.form
  rw[qw] at ag k1 ae HB
  have aa:=hid ae
  have ah:b≠yb:=fun e=>by
   obtain⟨_,cs,e2⟩:=hq.block b rfl
   rw[e,hb] at e2;simp at e2
  have ad:Y (∀vd',QRow w B 60 vd' (t.map drawV)->(∀k,vd'.ownBlock=some k->k=b)->(w.setCell ⟨yb,1,none⟩ vd').heap[yb]?=some (.cells #[tv,vd',vc,vs] 99 (0,0))/\QRow (w.setCell ⟨yb,1,none⟩ vd') B 60 vd' (t.map drawV)/\w.grownBy (w.setCell ⟨yb,1,none⟩ vd') (some yb)):=fun vd' q1 q2=>by
   have gs:=zD w yb 1 vd'
   refine⟨zF (i:=1) hb _,q1.keep gs.size (fun k hk=>?_),gs⟩
   obtain⟨_,cs,e2⟩:=q1.block k hk
   exact gs.block k (zE e2) (fun e=>ah (by rw[<-q2 k hk];exact qk e))
  simp only[drawV] at af
  rw[zm] at hl
  clear hq ae hb HB
  by_cases h1:ab=1
  ·subst h1
   have ht:t=[]:=List.eq_nil_of_length_eq_zero (by omega)
   subst ht
   rw[if_pos rfl] at aa
   have HE:=hid (ad.o _ aa.o (fun k hk=>by simp[Value.ownBlock] at hk;omega))
   clear ad aa
   go_enter Tryz.func125,Tryz.ntmps125
   go_wp2
   go_ret
   exact⟨rfl,_,HE.o.1,HE.o.2.1,HE.o.2.2,fun k hk=>by simpa[Value.ownBlock] using hk⟩
  ·rw[if_neg h1] at aa
   have HE:=hid (ad.o _ aa.o (fun k hk=>by simp[Value.ownBlock] at hk;omega))
   have ak:1<ab:=by omega
   have al:(1:Int)<ab:=by omega
   have aj:(t.length:Int)+1<=ab:=by omega
   clear ad aa
   go_enter Tryz.func125,Tryz.ntmps125
   go_wp2
   go_ret
   exact⟨rfl,_,HE.o.1,HE.o.2.1,HE.o.2.2,fun k hk=>by simpa[Value.ownBlock] using hk⟩
def Tr.target (d:UInt64)(tg:List (List UInt8×Int)):List UInt8:=
 match tg with
 | [t]=>t.1
 | _=>Tr.share (d.toNat % Tr.sum tg) tg
theorem Tr.target_many {d:UInt64}{tg:List (List UInt8×Int)}(h:tg.length≠1):Tr.target d tg=Tr.share (d.toNat % Tr.sum tg) tg:=by
 unfold Tr.target
 split
 ·exact absurd rfl h
 ·rfl
def Tr.left (l:List UInt64)(tg:List (List UInt8×Int)):List UInt64:=if tg.length=1 then l else l.tail
theorem zhY {w:World}{yb B:Nat}{tv vd vc vs:Value}{l:List UInt64}{ta:Option Addr}{tk:Nat}{tg:List (List UInt8×Int)}(hb:w.heap[yb]?=some (.cells #[tv,vd,vc,vs] 99 (0,0)))(hq:QRow w B 60 vd (l.map drawV))(hl:l.length<=1000000000)
  (hr:w.ownsRow 0 285 2 (.slice ta tg.length tk) tg.length (zi tg)) (hk:TgOk tg) (ai:0<Tr.sum tg) :
  Calls Tryz.prog 124 #[.func (.func 125) #[.pointer (some ⟨yb,0,none⟩)] #[],.slice ta tg.length tk] w fun e w'=>e = .returned (.string (R.str (Tr.target (l.headD 0) tg)))/\∃aa,w'.heap[yb]?=some (.cells #[tv,aa,vc,vs] 99 (0,0))/\QRow w' B 60 aa ((Tr.left l tg).map drawV)/\w.grownBy w' (some yb)/\∀k,aa.ownBlock=some k->vd.ownBlock=some k:=by
 by_cases h1:tg.length=1
 ·match tg,h1 with
  | [t],_=>
   have HE:Y (Tr.target (l.headD 0) [t]=t.1):=rfl
   have HL:Y (Tr.left l [t]=l):=rfl
   have ab:Y (w.heap[yb]?=some (.cells #[tv,vd,vc,vs] 99 (0,0))/\QRow w B 60 vd (l.map drawV)/\w.grownBy w (some yb)):=⟨hb,hq,⟨rfl,rfl,rfl,zZ _,fun _ _ _=>rfl⟩⟩
   obtain⟨g,gc,e1,_,_⟩:=World.ownsRow.form hr (by show 0<1;decide)
   simp only[qc,true_and] at e1
   obtain⟨rfl,rfl⟩:=e1
   obtain⟨t0,_⟩:=zo8 [t] 0 (by show 0<1;decide)
   have c0:w.cell? ⟨g,0,none⟩=some (.string (R.str t.1)):=(xd hr 0 (by show 0<1*2;decide)).trans t0
   have z:[t].length=1:=rfl
   rw[z]
   clear hb hq hr hk ai t0 z
   generalize Tr.target (l.headD 0) [t]=res at*
   generalize Tr.left l [t]=l' at*
   go_enter Tryz.func124,Tryz.ntmps124
   go_wp2
   go_ret
   exact⟨by rw[HE.o];rfl,vd,ab.o.1,by rw[HL.o];exact ab.o.2.1,ab.o.2.2,fun k hk=>hk⟩
 ·have HE:=hid (Tr.target_many (d:=l.headD 0) h1)
  have HL:Y (Tr.left l tg=l.tail):=if_neg h1
  have HD:=hid (zkP hb hq hl)
  have ah:=zV hb hr (by decide)
  have HR:Y (∀W,w.grownBy W (some yb)->W.ownsRow 0 285 2 (.slice ta tg.length tk) tg.length (zi tg)):=fun W hW=>zO hr hW (fun k hk e=>ah k hk (qk e).symm)
  have af:Y (∀W,w.grownBy W (some yb)->Calls Tryz.prog 183 #[.slice ta tg.length tk] W fun e w'=>e = .returned (.int .u64 (Tr.sum tg:Nat))/\W.grownBy w' none):=fun W hW=>znQ (HR.o W hW) hk
  have an:Tr.sum tg<=100000000:=by
   have:=Tr.sum_le hk.all
   have:=hk.few
   omega
  have ae:Y (∀W (n:Nat),w.grownBy W (some yb)->n<Tr.sum tg->Calls Tryz.prog 182 #[.int .u64 n,.slice ta tg.length tk] W fun e w'=>e = .returned (.string (R.str (Tr.share n tg)))/\W.grownBy w' none):=fun W n hW hn=>zi8 (HR.o W hW) hk n (by omega)
  have ak:¬(tg.length:Int)=1:=by omega
  have ag:Y (∀x y,w.grownBy x (some yb)->x.grownBy y none->w.grownBy y (some yb)):=fun x y h1 h2=>⟨h2.os.trans h1.os,h2.tape.trans h1.tape,h2.output.trans h1.output,zp h1.size h2.size,fun k hk hn=>(h2.block k (yU hk h1.size) (by simp)).trans (h1.block k hk hn)⟩
  clear hb hq hr hk ah HR
  generalize Tr.target (l.headD 0) tg=res at*
  generalize Tr.left l tg=l' at*
  generalize(l.headD 0).toNat=d at*
  generalize hS:Tr.sum tg=S at*
  have al:¬(S:Int)=0:=by omega
  have aj:d % S<S:=Nat.mod_lt _ ai
  go_enter Tryz.func124,Tryz.ntmps124
  go_wp2_with fail
  refine HD.o.mono ?_
  rintro e w1 ⟨rfl,aa,q1,q2,q3,q4⟩
  have Q1:=hid q1
  have Q2:=hid q2
  have Q3:=hid q3
  have Q4:=hid q4
  clear q1 q2 q3 q4 HD
  go_wp2_with fail
  refine(af.o w1 Q3.o).mono ?_
  rintro e w2 ⟨rfl,g2⟩
  have G2:=hid g2
  have ad:Y (Calls Tryz.prog 182 #[.int .u64 (d % S:Nat),.slice ta tg.length tk] w2 fun e w'=>e = .returned (.string (R.str (Tr.share (d % S) tg)))/\w2.grownBy w' none):=ae.o w2 (d % S) (ag.o _ _ Q3.o g2) aj
  have e9:(((d % S:Nat):Int))=(d:Int) % (S:Int):=by omega
  rw[e9] at ad
  clear g2 af ae e9
  go_wp2_with fail
  refine ad.o.mono ?_
  rintro e w3 ⟨rfl,g3⟩
  have G3:=hid (zA G2.o g3)
  clear g3 ad
  go_wp2
  go_ret
  have am:=zE Q1.o
  exact⟨by rw[HE.o];rfl,aa,zB Q1.o G3.o (by simp),by rw[HL.o];exact Q2.o.keep G3.o.size (fun k hk=>G3.o.block k (by obtain⟨_,cs,e⟩:=Q2.o.block k hk;exact zE e) (by simp)),ag.o _ _ Q3.o G3.o,Q4.o⟩
structure RlOk (r:P.Rl):Prop where
 ms:r.ms.length<=1000
 tg:TgOk r.tg
 pos:0<Tr.sum r.tg
 rep:r.rep.length<=3000
 dl:r.drops.length<=1000
 sl:r.sets.length<=1000
 st:∀t∈r.sets,t.1.length<=3000/\t.2.length<=3000/\t.1≠Rq.sCl
def HsOk (hs:List P.Hst):Prop:=∀x∈hs,∀r∈x.rules,RlOk r
theorem Tr.firstRule_mem {rs:List P.Rl}{hd:List Hd}:∀{l:List Nat} {r:P.Rl},Tr.firstRule rs hd l=some r->r∈rs:=by
 intro l
 induction l with
 | nil=>intro r h;cases h
 | cons i t ih=>
  intro r h
  rw[Tr.firstRule] at h
  split at h
  ·exact ih h
  ·rename_i x hx
   split at h
   ·cases h;exact List.mem_of_getElem? hx
   ·exact ih h
theorem Tr.find_mem {hs:List P.Hst}{hd:Rq.Head}{r:P.Rl}(h:Tr.find hs hd=some r):∃x∈hs,r∈x.rules:=by
 unfold Tr.find at h
 split at h
 ·cases h
 ·rename_i x hx
  exact⟨x,Tr.hostOf_mem hx,Tr.firstRule_mem h⟩
theorem kJ (nx:Hd):∀(l:List Hd) (t:Bool) (x:Hd),x∈Rq.withK nx l t->x∈l\/x=nx
 | [],_,x,h=>by cases h
 | a :: l,t,x,h=>by
  rw[Rq.withK] at h
  split at h
  ·split at h
   ·rcases kJ nx l t x h with q | q
    ·exact Or.inl (List.mem_cons_of_mem _ q)
    ·exact Or.inr q
   ·rcases List.mem_cons.1 h with q | q
    ·exact Or.inr q
    ·rcases kJ nx l true x q with q | q
     ·exact Or.inl (List.mem_cons_of_mem _ q)
     ·exact Or.inr q
  ·rcases List.mem_cons.1 h with q | q
   ·rw[q];exact Or.inl List.mem_cons_self
   ·rcases kJ nx l t x q with q | q
    ·exact Or.inl (List.mem_cons_of_mem _ q)
    ·exact Or.inr q
theorem zoF {nx x:Hd}{l:List Hd}(h:x∈Rq.with nx l):x∈l\/x=nx:=by
 unfold Rq.with at h
 rcases List.mem_append.1 h with q | q
 ·exact kJ nx l false x q
 ·split at q
  ·cases q
  ·simp at q;exact Or.inr q
theorem zgA:∀(ss:List (List UInt8×List UInt8)) (l:List Hd) (x:Hd),x∈Rq.setK ss l->x∈l\/x∈ss
 | [],l,x,h=>Or.inl h
 | s :: ss,l,x,h=>by
  rcases zgA ss _ x h with q | q
  ·rcases zoF q with q | q
   ·exact Or.inl q
   ·rw[q];exact Or.inr List.mem_cons_self
  ·exact Or.inr (List.mem_cons_of_mem _ q)
theorem za6:∀(ns:List (List UInt8)) (l:List Hd) (x:Hd),x∈Rq.dropK ns l->x∈l
 | [],l,x,h=>h
 | n :: ns,l,x,h=>by
  have:=za6 ns _ x h
  exact(List.mem_filter.1 this).1
theorem zpP (ss l:List Hd):(Rq.setK ss l).length<=l.length+ss.length:=by
 have:=tD ss l ss.length (zZ _)
 unfold SetAt at this
 rwa[List.take_length] at this
theorem uB {h:Rq.Head}{r:P.Rl}(hk:HOk h)(hr:RlOk r):(∀x∈Rq.edited r h.headers,SOk x)/\(Rq.edited r h.headers).length<=2000:=by
 refine⟨fun x hx=>?_,?_⟩
 ·rcases zgA _ _ x hx with q | q
  ·have q:=za6 _ _ x q
   exact⟨(hk.hv x q).1,(hk.hv x q).2,fun e=>(hk.cl x q e).1⟩
  ·exact⟨(hr.st x q).1,(hr.st x q).2.1,fun e=>absurd e (hr.st x q).2.2⟩
 ·have h1:=hk.heads
  have h2:=hr.sl
  have h3:=fO r.drops h.headers
  have h4:=zpP r.sets (Rq.dropK r.drops h.headers)
  unfold Rq.edited
  omega
def Tr.D (hs:List P.Hst)(d:UInt64)(h:Rq.Head):Pc:=
 match Tr.find hs h with
 | none=>⟨[],Yd.noRoute,Rq.body h⟩
 | some r=>⟨Tr.target d r.tg,Rq.sent h r,Rq.body h⟩
def Tr.after (hs:List P.Hst)(l:List UInt64)(h:Rq.Head):List UInt64:=
 match Tr.find hs h with
 | none=>l
 | some r=>Tr.left l r.tg
theorem HOk.host {h:Rq.Head}(hk:HOk h)(n:List UInt8):(Rq.value n h.headers).length<=3000:=by
 unfold Rq.value
 cases e:Rq.named n h.headers with
 | nil=>exact zl _
 | cons x t=>
  have hx:x∈Rq.named n h.headers:=by rw[e];exact List.mem_cons_self
  unfold Rq.named at hx
  rw[List.mem_filter] at hx
  exact(hk.hv x hx.1).2
theorem GRow.bytes (w:World)(l:List UInt8):GRow anyMark (Lib.bytesWorld w 5 (R.str l)) w.heap.size 5 (.slice (some ⟨w.heap.size,0,none⟩) l.length (grownCap w l.length 0 5)) l.length (Lib.byteCells l):=by
 have hb:=Lib.bytesWorld_at_new w 5 (R.str l)
 have ab:l.length<=grownCap w l.length 0 5:=grownCap_ge w l.length 0 _
 have aa:(Lib.bytesCells w 5 (R.str l)).size=grownCap w l.length 0 5:=by
  have e:(R.str l).data.size=l.length:=R.str_size l
  unfold Lib.bytesCells
  rw[Array.size_append,Array.size_map,Array.size_replicate,R.str_size,e]
  omega
 refine⟨some ⟨w.heap.size,0,none⟩,w.heap.size,0,grownCap w l.length 0 5,rfl,⟨ab,fun _=>rfl,fun _=>zE hb,by rw[Lib.byteCells_length];omega,fun j u hu=>?_,fun j hj=>?_⟩,fun a ha=>by cases ha;exact⟨rfl,zZ _,_,_,trivial,hb⟩⟩
 ·rw[Nat.zero_add]
  unfold Lib.byteCells at hu
  rw[List.getElem?_map] at hu
  cases hq:l[j]? with
  | none=>rw[hq] at hu;cases hu
  | some b=>
   rw[hq] at hu
   cases hu
   exact(BytesAt.new w (R.str l)).cell (by rw[R.str_toList];exact hq)
 ·refine⟨?_,?_⟩
  ·rw[z8 hb,Array.getElem?_eq_getElem (by rw[aa];omega)];rfl
  ·unfold World.frozen?
   simp only[hb,aa]
   have:¬grownCap w l.length 0 5<=0+l.length*1+j:=by omega
   simp only[Bool.and_eq_false_iff,decide_eq_false_iff_not]
   exact Or.inl this
theorem HInv.away {w w':World}{yb cb B:Nat}{h:Rq.Head}{cs:Array Value}(hI:HInv w cb B (.pointer none) h)(g:w.grownBy w' (some yb))(hb:w.heap[yb]?=some (.cells cs 99 (0,0))):HInv w' cb B (.pointer none) h:=by
 have hc:CAt w cb B (.hd h):=hI
 refine(hc.keep (fun k hk=>g.block k (hc.lt hk) (fun e=>?_))).1
 obtain⟨_,aa,t,f,e2,m⟩:=hc.cf hk
 rw[qk e,hb] at e2
 simp only[Option.some.injEq,Obj.cells.injEq] at e2
 rw[<-e2.2.1] at m
 exact absurd m (by decide)
theorem GE.away {w w':World}{yb:Nat}(h:GE w)(g:w.grownBy w' (some yb))(hy:Tryz.laysC172_ren.g 15≠yb):GE w':=by
 obtain⟨ev,h1,h2⟩:=h
 exact⟨ev,g.cell h1 (by simpa using hy),h2⟩
theorem GT.away {w w':World}{yb:Nat}(h:GT w)(g:w.grownBy w' (some yb))(hy:GTB yb):GT w':=h.same fun k e=>g.block k (h.bound k e) (fun e2=>by have:=hy k e;have:=qk e2;omega)
theorem zaA {x y z:World}{row:Option Nat}(h1:x.grownBy y row)(h2:y.grownBy z none):x.grownBy z row:=⟨h2.os.trans h1.os,h2.tape.trans h1.tape,h2.output.trans h1.output,zp h1.size h2.size,fun k hk hn=>(h2.block k (yU hk h1.size) (by simp)).trans (h1.block k hk hn)⟩
theorem zhE {x y z:World}{b:Nat}(h1:x.grownBy y none)(h2:y.grownBy z (some b)):x.grownBy z (some b):=⟨h2.os.trans h1.os,h2.tape.trans h1.tape,h2.output.trans h1.output,zp h1.size h2.size,fun k hk hn=>(h2.block k (yU hk h1.size) hn).trans (h1.block k hk (by simp))⟩
theorem zi2 {w:World}{yb cb B:Nat}{h:Rq.Head}{tv vd vc vs:Value}{l:List UInt64}{hs:List P.Hst}(hI:HInv w cb B (.pointer none) h)(hk:HOk h)(hb:w.heap[yb]?=some (.cells #[tv,vd,vc,vs] 99 (0,0)))(hq:QRow w B 60 vd (l.map drawV))(hl:l.length<=1000000000)(hT:TabAt w tv hs)(hF:Fits hs)(hO:HsOk hs)(hE:GE w)(hG:GT w)(hy:Tryz.laysC172_ren.g 15<yb/\GTB yb) :
  Calls Tryz.prog 80 #[.pointer (some ⟨yb,0,none⟩),.pointer (some ⟨cb,0,none⟩)] w fun e w'=>∃pb,e = .returned (.pointer (some ⟨pb,0,none⟩))/\PcAt w' pb w.heap.size (Tr.D hs (l.headD 0) h)/\w.grownBy w' (some yb)/\∃aa,w'.heap[yb]?=some (.cells #[tv,aa,vc,vs] 99 (0,0))/\QRow w' B 60 aa ((Tr.after hs l h).map drawV)/\∀k,aa.ownBlock=some k->vd.ownBlock=some k:=by
 obtain⟨tb,mb,ml,rfl,aD,aE⟩:=hT
 have y0:w.cell? ⟨yb,0,none⟩=some (.pointer (some ⟨tb,0,none⟩)):=z8 hb
 have aw:Y (Calls Tryz.prog 123 #[.pointer (some ⟨tb,0,none⟩),.pointer (some ⟨cb,0,none⟩)] w fun e w'=>w.grownBy w' none/\∃r ma mk ta tk sa sk da dk fl,e = .returned (.tuple #[.agg #[.int .i64 r.number,.string (R.str r.path),.slice ma r.ms.length mk,.slice ta r.tg.length tk,.string (R.str r.rep),.slice sa r.sets.length sk,.slice da r.drops.length dk],.bool fl])/\Y ((Tr.find hs h=none/\fl=false)\/(Tr.find hs h=some r/\fl=true/\PRuleVal w' [.int .i64 r.number,.string (R.str r.path),.slice ma r.ms.length mk,.slice ta r.tg.length tk,.string (R.str r.rep),.slice sa r.sets.length sk,.slice da r.drops.length dk] r))):=by
  refine(zn9 aD aE hF hI (by have:=hk.heads;omega) (hk.host _) hk.targ (fun x hx r hr=>(hO x hx r hr).ms)).mono ?_
  rintro e w' ⟨g,⟨h1,rfl⟩ | ⟨r,cs,h1,h2,rfl⟩⟩
  ·exact⟨g,⟨0,[],[],[],[],[],[]⟩,none,0,none,0,none,0,none,0,false,rfl,Or.inl ⟨h1,rfl⟩⟩
  ·have aF:=h2
   obtain⟨vM,vT,vS,vD,rfl,m1,m2,m3,m4⟩:=h2
   obtain⟨ma,mk,rfl⟩:=zP m1
   obtain⟨ta,tk,rfl⟩:=zP m2
   obtain⟨sa,sk,rfl⟩:=zP m3
   obtain⟨da,dk,rfl⟩:=zP m4
   exact⟨g,r,ma,mk,ta,tk,sa,sk,da,dk,true,rfl,Or.inr ⟨h1,rfl,aF⟩⟩
 have ao:Y (∀r,Tr.find hs h=some r->RlOk r):=fun r hr=>by
  obtain⟨x,h1,h2⟩:=Tr.find_mem hr
  exact hO x h1 r h2
 have HI:=hid hI
 have HK:=hid hk
 have HB:=hid hb
 have HQ:=hid hq
 have HE:=hid hE
 have HG:=hid hG
 have HY:=hid hy
 have aj:Y (Tr.find hs h=none->Tr.D hs (l.headD 0) h=⟨[],Yd.noRoute,Rq.body h⟩/\Tr.after hs l h=l):=fun e=>by unfold Tr.D Tr.after;rw[e];exact⟨rfl,rfl⟩
 have ak:Y (∀r,Tr.find hs h=some r->Tr.D hs (l.headD 0) h=⟨Tr.target (l.headD 0) r.tg,Rq.sent h r,Rq.body h⟩/\Tr.after hs l h=Tr.left l r.tg):=fun r e=>by unfold Tr.D Tr.after;rw[e];exact⟨rfl,rfl⟩
 have HL:=hid hl
 clear hI hk hb hq hl aD aE hF hO hE hG hy
 generalize Tr.D hs (l.headD 0) h=pc at*
 generalize Tr.after hs l h=la at*
 generalize Tr.find hs h=fd at*
 go_enter Tryz.func80,Tryz.ntmps80
 go_wp2_with fail
 refine aw.o.mono ?_
 rintro e w1 ⟨g1,r,ma,mk,ta,tk,sa,sk,da,dk,fl,rfl,ay⟩
 have gA:=zJ w1 (.cells #[.int .i64 r.number,.string (R.str r.path),.slice ma r.ms.length mk,.slice ta r.tg.length tk,.string (R.str r.rep),.slice sa r.sets.length sk,.slice da r.drops.length dk] 213) none
 have G2:=hid (zA g1 gA)
 have af:=hid (heap_alloc_new w1 (.cells #[.int .i64 r.number,.string (R.str r.path),.slice ma r.ms.length mk,.slice ta r.tg.length tk,.string (R.str r.rep),.slice sa r.sets.length sk,.slice da r.drops.length dk] 213))
 have an:Y ((fd=none/\fl=false)\/(fd=some r/\fl=true/\PRuleVal (w1.alloc (.cells #[.int .i64 r.number,.string (R.str r.path),.slice ma r.ms.length mk,.slice ta r.tg.length tk,.string (R.str r.rep),.slice sa r.sets.length sk,.slice da r.drops.length dk] 213)) [.int .i64 r.number,.string (R.str r.path),.slice ma r.ms.length mk,.slice ta r.tg.length tk,.string (R.str r.rep),.slice sa r.sets.length sk,.slice da r.drops.length dk] r)):=by
  rcases ay.o with q | ⟨q1,q2,q3⟩
  ·exact Or.inl q
  ·exact Or.inr ⟨q1,q2,q3.keep gA (zv _ _)⟩
 clear aw g1 gA ay
 go_upto_region 4 with fail
 generalize w1.alloc (.cells #[.int .i64 r.number,.string (R.str r.path),.slice ma r.ms.length mk,.slice ta r.tg.length tk,.string (R.str r.rep),.slice sa r.sets.length sk,.slice da r.drops.length dk] 213)=w2 at*
 generalize w1.heap.size=rb at*
 have ah:=hid (HI.o.keep G2.o)
 have ae:=hid (zB HB.o G2.o (by simp))
 have ai:=hid (HQ.o.keep G2.o.size (fun k hk=>G2.o.block k (by obtain⟨_,cs,e⟩:=HQ.o.block k hk;exact zE e) (by simp)))
 have ag:=hid (HE.o.grown G2.o)
 have ax:=hid (HG.o.grown G2.o)
 clear HI HB HQ HE HG y0
 rcases an.o with ⟨p1,rfl⟩ | ⟨p1,rfl,p3⟩
 ·have HD:=hid (aj.o p1)
  have gB:=hid (zJ w2 (.cells #[.int .u8 72,.int .u8 84,.int .u8 84,.int .u8 80,.int .u8 47,.int .u8 49,.int .u8 46,.int .u8 49,.int .u8 32,.int .u8 52,.int .u8 48,.int .u8 52,.int .u8 32,.int .u8 78,.int .u8 111,.int .u8 116,.int .u8 32,.int .u8 70,.int .u8 111,.int .u8 117,.int .u8 110,.int .u8 100,.int .u8 13,.int .u8 10,.int .u8 99,.int .u8 111,.int .u8 110,.int .u8 116,.int .u8 101,.int .u8 110,.int .u8 116,.int .u8 45,.int .u8 108,.int .u8 101,.int .u8 110,.int .u8 103,.int .u8 116,.int .u8 104,.int .u8 58,.int .u8 32,.int .u8 48,.int .u8 13,.int .u8 10,.int .u8 13,.int .u8 10] 5 (45,46)) none)
  have ar:=hid (heap_alloc_new w2 (.cells #[.int .u8 72,.int .u8 84,.int .u8 84,.int .u8 80,.int .u8 47,.int .u8 49,.int .u8 46,.int .u8 49,.int .u8 32,.int .u8 52,.int .u8 48,.int .u8 52,.int .u8 32,.int .u8 78,.int .u8 111,.int .u8 116,.int .u8 32,.int .u8 70,.int .u8 111,.int .u8 117,.int .u8 110,.int .u8 100,.int .u8 13,.int .u8 10,.int .u8 99,.int .u8 111,.int .u8 110,.int .u8 116,.int .u8 101,.int .u8 110,.int .u8 116,.int .u8 45,.int .u8 108,.int .u8 101,.int .u8 110,.int .u8 103,.int .u8 116,.int .u8 104,.int .u8 58,.int .u8 32,.int .u8 48,.int .u8 13,.int .u8 10,.int .u8 13,.int .u8 10] 5 (45,46)))
  have HC:=hid (zfA (ah.o.keep gB.o) (by have:=HK.o.heads;omega) HK.o.number (ag.o.grown gB.o))
  have ap:(convert 32 32 (.slice (some ⟨w2.heap.size,0,none⟩) 45 45)).run Tryz.prog (w2.alloc (.cells #[.int .u8 72,.int .u8 84,.int .u8 84,.int .u8 80,.int .u8 47,.int .u8 49,.int .u8 46,.int .u8 49,.int .u8 32,.int .u8 52,.int .u8 48,.int .u8 52,.int .u8 32,.int .u8 78,.int .u8 111,.int .u8 116,.int .u8 32,.int .u8 70,.int .u8 111,.int .u8 117,.int .u8 110,.int .u8 100,.int .u8 13,.int .u8 10,.int .u8 99,.int .u8 111,.int .u8 110,.int .u8 116,.int .u8 101,.int .u8 110,.int .u8 116,.int .u8 45,.int .u8 108,.int .u8 101,.int .u8 110,.int .u8 103,.int .u8 116,.int .u8 104,.int .u8 58,.int .u8 32,.int .u8 48,.int .u8 13,.int .u8 10,.int .u8 13,.int .u8 10] 5)) = .ok (.slice (some ⟨w2.heap.size,0,none⟩) 45 45) (w2.alloc (.cells #[.int .u8 72,.int .u8 84,.int .u8 84,.int .u8 80,.int .u8 47,.int .u8 49,.int .u8 46,.int .u8 49,.int .u8 32,.int .u8 52,.int .u8 48,.int .u8 52,.int .u8 32,.int .u8 78,.int .u8 111,.int .u8 116,.int .u8 32,.int .u8 70,.int .u8 111,.int .u8 117,.int .u8 110,.int .u8 100,.int .u8 13,.int .u8 10,.int .u8 99,.int .u8 111,.int .u8 110,.int .u8 116,.int .u8 101,.int .u8 110,.int .u8 116,.int .u8 45,.int .u8 108,.int .u8 101,.int .u8 110,.int .u8 103,.int .u8 116,.int .u8 104,.int .u8 58,.int .u8 32,.int .u8 48,.int .u8 13,.int .u8 10,.int .u8 13,.int .u8 10] 5 (45,46))):=Lib.run_convert_bytes_const (P:=Tryz.prog) w2 32 5 #[.int .u8 72,.int .u8 84,.int .u8 84,.int .u8 80,.int .u8 47,.int .u8 49,.int .u8 46,.int .u8 49,.int .u8 32,.int .u8 52,.int .u8 48,.int .u8 52,.int .u8 32,.int .u8 78,.int .u8 111,.int .u8 116,.int .u8 32,.int .u8 70,.int .u8 111,.int .u8 117,.int .u8 110,.int .u8 100,.int .u8 13,.int .u8 10,.int .u8 99,.int .u8 111,.int .u8 110,.int .u8 116,.int .u8 101,.int .u8 110,.int .u8 116,.int .u8 45,.int .u8 108,.int .u8 101,.int .u8 110,.int .u8 103,.int .u8 116,.int .u8 104,.int .u8 58,.int .u8 32,.int .u8 48,.int .u8 13,.int .u8 10,.int .u8 13,.int .u8 10] 45 45 Tryz.underlying32 Tryz.underlying5
  clear an p1 aj ak ao af
  go_wp2_with fail
  refine HC.o.mono ?_
  rintro e w3 ⟨rfl,g3⟩
  have gA:=zJ w3 (.cells #[.string ⟨#[]⟩,.slice (some ⟨w2.heap.size,0,none⟩) 45 45,.int .i64 (Rq.body h)] 172) none
  have G3:=hid (zA (zA gB.o g3) gA)
  have al:Y (PcAt (w3.alloc (.cells #[.string ⟨#[]⟩,.slice (some ⟨w2.heap.size,0,none⟩) 45 45,.int .i64 (Rq.body h)] 172)) w3.heap.size w.heap.size ⟨[],Yd.noRoute,Rq.body h⟩):=by
   have aq:=G2.o.size
   have hs:=(zA gB.o g3).size
   exact⟨⟨_,heap_alloc_new w3 (.cells #[.string ⟨#[]⟩,.slice (some ⟨w2.heap.size,0,none⟩) 45 45,.int .i64 (Rq.body h)] 172),Or.inr ⟨rfl,w2.heap.size,45,#[.int .u8 72,.int .u8 84,.int .u8 84,.int .u8 80,.int .u8 47,.int .u8 49,.int .u8 46,.int .u8 49,.int .u8 32,.int .u8 52,.int .u8 48,.int .u8 52,.int .u8 32,.int .u8 78,.int .u8 111,.int .u8 116,.int .u8 32,.int .u8 70,.int .u8 111,.int .u8 117,.int .u8 110,.int .u8 100,.int .u8 13,.int .u8 10,.int .u8 99,.int .u8 111,.int .u8 110,.int .u8 116,.int .u8 101,.int .u8 110,.int .u8 116,.int .u8 45,.int .u8 108,.int .u8 101,.int .u8 110,.int .u8 103,.int .u8 116,.int .u8 104,.int .u8 58,.int .u8 32,.int .u8 48,.int .u8 13,.int .u8 10,.int .u8 13,.int .u8 10],(45,45+1),rfl,aq,zB (zB ar.o g3 (by simp)) gA (by simp),fun j u hu=>by rw[<-hu,<-List.getElem?_toArray];rfl⟩⟩,zp aq hs⟩
  clear HC g3 gA ap gB ar
  go_wp2
  go_ret
  have G9:=zA G2.o G3.o
  exact⟨_,rfl,by rw[HD.o.1];exact al.o,⟨G9.os,G9.tape,G9.output,G9.size,fun k hk _=>G9.block k hk (by simp)⟩,vd,zB ae.o G3.o (by simp),by rw[HD.o.2];exact ai.o.keep G3.o.size (fun k hk=>G3.o.block k (by obtain⟨_,cs,e⟩:=ai.o.block k hk;exact zE e) (by simp)),fun k hk=>hk⟩
 ·have HD:=hid (ak.o r p1)
  have ad:=ao.o r p1
  have az:=hid p3
  obtain⟨vM,vT,vS,vD,ez,_,mt,_,_⟩:=p3
  have eT:vT = .slice ta r.tg.length tk:=by simp at ez;exact ez.2.1.symm
  subst eT
  have x3:w2.cell? ⟨rb,3,none⟩=some (.slice ta r.tg.length tk):=z8 af.o
  have aB:Y (Calls Tryz.prog 124 #[.func (.func 125) #[.pointer (some ⟨yb,0,none⟩)] #[],.slice ta r.tg.length tk] w2 fun e w'=>e = .returned (.string (R.str (Tr.target (l.headD 0) r.tg)))/\∃aa,Y (w'.heap[yb]?=some (.cells #[.pointer (some ⟨tb,0,none⟩),aa,vc,vs] 99 (0,0)))/\Y (QRow w' B 60 aa ((Tr.left l r.tg).map drawV))/\Y (w2.grownBy w' (some yb))/\Y (∀k,aa.ownBlock=some k->vd.ownBlock=some k)):=zhY ae.o ai.o HL.o mt ad.tg ad.pos
  have aG:rb≠yb:=fun e=>by have:=af.o;rw[e,ae.o] at this;simp at this
  have aA:Y (∀W,w2.grownBy W (some yb)->Calls Tryz.prog 126 #[.pointer (some ⟨cb,0,none⟩),.agg #[.int .i64 r.number,.string (R.str r.path),.slice ma r.ms.length mk,.slice ta r.tg.length tk,.string (R.str r.rep),.slice sa r.sets.length sk,.slice da r.drops.length dk]] W fun e w'=>e = .returned (.string (R.str (Rq.sent h r)))/\W.grownBy w' none):=fun W hW=>
   znF (ah.o.away hW ae.o) [.int .i64 r.number,.string (R.str r.path),.slice ma r.ms.length mk,.slice ta r.tg.length tk,.string (R.str r.rep),.slice sa r.sets.length sk,.slice da r.drops.length dk] r (az.o.keep hW (qx ae.o (by decide))) HK.o.meth HK.o.targ ad.rep (by have:=HK.o.heads;omega) ad.dl ad.sl (uB HK.o ad).1 (by have:=(uB HK.o ad).2;omega) (ag.o.away hW (by have:=HY.o.1;omega)) (ax.o.away hW HY.o.2)
  have au:Y (∀W,w2.grownBy W (some yb)->Calls Tryz.prog 122 #[.pointer (some ⟨cb,0,none⟩)] W fun e w'=>e = .returned (.int .i64 (Rq.body h))/\W.grownBy w' none):=fun W hW=>
   zfA (ah.o.away hW ae.o) (by have:=HK.o.heads;omega) HK.o.number (ag.o.away hW (by have:=HY.o.1;omega))
  clear an p1 aj ak ao mt ad ez ah az ag ax ai
  generalize Tr.target (l.headD 0) r.tg=tgt at*
  generalize Tr.left l r.tg=ll at*
  generalize Rq.sent h r=sn at*
  have ap:∀w,(convert 9 32 (.string (R.str sn))).run Tryz.prog w = .ok (.slice (some ⟨w.heap.size,0,none⟩) sn.length (grownCap w sn.length 0 5)) (Lib.bytesWorld w 5 (R.str sn)):=fun w=>by
   have:=Lib.run_convert_string_bytes (P:=Tryz.prog) (u:=.string) w 9 32 5 (R.str sn) (by kernel_rfl) (by kernel_rfl) (by kernel_rfl)
   rw[R.str_size] at this;exact this
  go_wp2_with fail
  refine aB.o.mono ?_
  rintro e w3 ⟨rfl,aa,Q1,Q2,Q3,Q4⟩
  have ab:=hid (zB af.o Q3.o (by simpa using aG))
  have q0:w3.cell? ⟨rb,0,none⟩=some (.int .i64 r.number):=z8 ab.o
  have q1:w3.cell? ⟨rb,1,none⟩=some (.string (R.str r.path)):=z8 ab.o
  have q2:w3.cell? ⟨rb,2,none⟩=some (.slice ma r.ms.length mk):=z8 ab.o
  have q3:w3.cell? ⟨rb,3,none⟩=some (.slice ta r.tg.length tk):=z8 ab.o
  have q4:w3.cell? ⟨rb,4,none⟩=some (.string (R.str r.rep)):=z8 ab.o
  have q5:w3.cell? ⟨rb,5,none⟩=some (.slice sa r.sets.length sk):=z8 ab.o
  have q6:w3.cell? ⟨rb,6,none⟩=some (.slice da r.drops.length dk):=z8 ab.o
  have HC:=hid (aA.o w3 Q3.o)
  clear aB aA x3 af
  go_wp2_with fail
  refine HC.o.mono ?_
  rintro e w4 ⟨rfl,g4⟩
  have gb:=xk w4 5 (R.str sn)
  have G4:=hid (zA g4 gb)
  have av:=hid (au.o _ (zaA Q3.o G4.o))
  have am:=hid (GRow.bytes w4 sn)
  have aK:=g4.size
  clear HC au g4 gb ab q0 q1 q2 q3 q4 q5 q6
  go_wp2_with fail
  refine av.o.mono ?_
  rintro e w5 ⟨rfl,g5⟩
  have gA:=zJ w5 (.cells #[.string (R.str tgt),.slice (some ⟨w4.heap.size,0,none⟩) sn.length (grownCap w4 sn.length 0 5),.int .i64 (Rq.body h)] 172) none
  have G5:=hid (zA (zA G4.o g5) gA)
  have al:Y (PcAt (w5.alloc (.cells #[.string (R.str tgt),.slice (some ⟨w4.heap.size,0,none⟩) sn.length (grownCap w4 sn.length 0 5),.int .i64 (Rq.body h)] 172)) w5.heap.size w.heap.size ⟨tgt,sn,Rq.body h⟩):=by
   have aq:=G2.o.size
   have aH:=Q3.o.size
   have aI:=g5.size
   have aJ:=G4.o.size
   refine⟨⟨_,heap_alloc_new w5 (.cells #[.string (R.str tgt),.slice (some ⟨w4.heap.size,0,none⟩) sn.length (grownCap w4 sn.length 0 5),.int .i64 (Rq.body h)] 172),Or.inl ?_⟩,by omega⟩
   refine(am.o.base (by omega)).keep (fun k hk=>?_)
   have aC:k<(Lib.bytesWorld w4 5 (R.str sn)).heap.size:=by obtain⟨_,cs,f,e⟩:=am.o.block k hk;exact zE e
   exact(gA.block k (yU aC g5.size) (by simp)).trans (g5.block k aC (by simp))
  clear av g5 gA am ap
  go_wp2
  go_ret
  exact⟨_,rfl,by rw[HD.o.1];exact al.o,zhE G2.o (zaA Q3.o G5.o),aa,zB Q1.o G5.o (by simp),by rw[HD.o.2];exact Q2.o.keep G5.o.size (fun k hk=>G5.o.block k (by obtain⟨_,cs,e⟩:=Q2.o.block k hk;exact zE e) (by simp)),Q4.o⟩
end Go.Proofs.YtfocdefchbnkpaaGreatDoor
