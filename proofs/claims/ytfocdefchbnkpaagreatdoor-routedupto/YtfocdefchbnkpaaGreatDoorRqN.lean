/- Heads of requests, as the program sends them: the whole head. -/
import Derived.Test.YtfocdefchbnkpaaGreatDoorAli
import Derived.Test.YtfocdefchbnkpaaGreatDoorRqJ
import Derived.Deep.Onto
import Derived.ArgAppend
set_option maxRecDepth 100000
set_option maxHeartbeats 20000000
namespace Go.Proofs.YtfocdefchbnkpaaGreatDoor
open Go.RowKit
def Rq.replaced (t:List UInt8)(r:P.Rl):List UInt8:=if r.rep=[] then t else r.rep++Lib.trimPrefix t r.path
theorem zd2 (a b:List UInt8):R.str a++R.str b=R.str (a++b):=by apply ByteArray.ext;simp[R.str]
theorem zgO (t p:List UInt8):(Lib.trimPrefix t p).length<=t.length:=by
 unfold Lib.trimPrefix;split
 ·rw[List.length_drop];omega
 ·exact zZ _
theorem zcS {w:World}(t:List UInt8)(cs:List Value)(r:P.Rl)(hr:PRuleVal w cs r)(ht:t.length<=3000)(hp:r.rep.length<=3000) :
  Calls Tryz.prog 185 #[.string (R.str t),.agg cs.toArray] w fun e w'=>e = .returned (.string (R.str (Rq.replaced t r)))/\w.grownBy w' none:=by
 obtain⟨vM,vT,vS,vD,rfl,_,_,_,_⟩:=hr
 have GA:=hid (zJ w (.cells #[.int .i64 r.number,.string (R.str r.path),vM,vT,.string (R.str r.rep),vS,vD] 213) none)
 have HB:=hid (heap_alloc_new w (.cells #[.int .i64 r.number,.string (R.str r.path),vM,vT,.string (R.str r.rep),vS,vD] 213))
 have b1:(w.alloc (.cells #[.int .i64 r.number,.string (R.str r.path),vM,vT,.string (R.str r.rep),vS,vD] 213)).cell? ⟨w.heap.size,1,none⟩=some (.string (R.str r.path)):=z8 HB.o
 have b4:(w.alloc (.cells #[.int .i64 r.number,.string (R.str r.path),vM,vT,.string (R.str r.rep),vS,vD] 213)).cell? ⟨w.heap.size,4,none⟩=some (.string (R.str r.rep)):=z8 HB.o
 have HV:Y (Rq.replaced t r=if r.rep=[] then t else r.rep++Lib.trimPrefix t r.path):=rfl
 have e1:=jJ r.rep
 have HT:Y (∀W,Calls Tryz.prog 244 #[.string (R.str t),.string (R.str r.path)] W fun e w'=>e = .returned (.string (R.str (Lib.trimPrefix t r.path)))/\w'=W):=fun W=>by
  have h:=Tryz.strings_TrimPrefix (R.str t) (R.str r.path) W
  rw[R.str_toList,R.str_toList] at h;exact h
 have ad:(R.str r.rep).size<=3000:=by rw[R.str_size];exact hp
 have ae:(R.str (Lib.trimPrefix t r.path)).size<=3000:=by rw[R.str_size];exact zp (zgO _ _) ht
 have ab:=zd2 r.rep (Lib.trimPrefix t r.path)
 have aa:¬(9223372036854775807<(R.str r.rep).size+(R.str (Lib.trimPrefix t r.path)).size):=by omega
 generalize Rq.replaced t r=res at*
 go_enter Tryz.func185,Tryz.ntmps185
 go_upto_region 1 with fail
 generalize w.alloc (.cells #[.int .i64 r.number,.string (R.str r.path),vM,vT,.string (R.str r.rep),vS,vD] 213)=wa at*
 by_cases h0:r.rep=[]
 ·rw[decide_eq_true h0] at e1
  rw[if_pos h0] at HV
  clear h0
  go_wp2
  go_ret
  exact⟨by rw[HV.o];rfl,GA.o⟩
 ·rw[decide_eq_false h0] at e1
  rw[if_neg h0] at HV
  clear h0
  generalize Lib.trimPrefix t r.path=tp at*
  go_upto_region 3 with fail
  go_region_law (go_simp;go_at_call 244;refine(HT.o _).mono ?_;rintro e w' ⟨rfl,rfl⟩)
  all_goals
   go_wp2
   go_ret
   exact⟨by rw[HV.o];rfl,zA GA.o (zQ wa)⟩
def Rq.first(h:Rq.Head)(r:P.Rl):List UInt8:=Rq.line [h.method,[32],Rq.replaced h.target r,[32],Rq.sVersion]
def Rq.sent (h:Rq.Head)(r:P.Rl):List UInt8:=Rq.first h r++Rq.lines (Rq.edited r h.headers)++[13,10]
theorem uY (t:List UInt8)(r:P.Rl)(ht:t.length<=3000)(hp:r.rep.length<=3000):(Rq.replaced t r).length<=6000:=by
 have:=zgO t r.path
 unfold Rq.replaced;split
 ·omega
 ·rw[zW];omega
theorem PRuleVal.grown {w w':World}{cs:List Value}{r:P.Rl}(h:PRuleVal w cs r)(hg:w.grownBy w' none):PRuleVal w' cs r:=by
 obtain⟨vM,vT,vS,vD,e,h1,h2,h3,h4⟩:=h
 exact⟨vM,vT,vS,vD,e,zO h1 hg (fun _ _ c=>by cases c),zO h2 hg (fun _ _ c=>by cases c),zO h3 hg (fun _ _ c=>by cases c),zO h4 hg (fun _ _ c=>by cases c)⟩
theorem znF {w:World}{cb B:Nat}{wt:Value}{h:Rq.Head}(hI:HInv w cb B wt h)(cs:List Value)(r:P.Rl)(hr:PRuleVal w cs r)(hm:h.method.length<=3000)(ht:h.target.length<=3000)(hp:r.rep.length<=3000)(hn:h.headers.length<=1000)(hd:r.drops.length<=1000)(hs:r.sets.length<=1000)
  (ad:∀x∈Rq.edited r h.headers,SOk x) (az:(Rq.edited r h.headers).length<=10000) (hE:GE w) (hT:GT w) :
  Calls Tryz.prog 126 #[.pointer (some ⟨cb,0,none⟩),.agg cs.toArray] w fun e w'=>e = .returned (.string (R.str (Rq.sent h r)))/\w.grownBy w' none:=by
 have al:=hr
 obtain⟨vM,vT,vS,vD,rfl,_,_,_,_⟩:=hr
 have GA:=hid (zJ w (.cells #[.int .i64 r.number,.string (R.str r.path),vM,vT,.string (R.str r.rep),vS,vD] 213) none)
 have HB:=hid (heap_alloc_new w (.cells #[.int .i64 r.number,.string (R.str r.path),vM,vT,.string (R.str r.rep),vS,vD] 213))
 have HI:=hid (hI.keep GA.o)
 have ab:=hid al
 have ae:=hid hE
 have af:=hid hT
 have aj:=hid ad
 have HS:Y (Rq.sent h r=Rq.first h r++Rq.lines (Rq.edited r h.headers)++[13,10]):=rfl
 have aA:=uY h.target r ht hp
 have av:=uq (Rq.edited r h.headers) ad _ (zZ _)
 rw[fZ] at av
 have au:(Rq.first h r).length<=10000:=by unfold Rq.first Rq.line Rq.sVersion;simp only[xP,List.flatten_nil,zW,zm,qi];omega
 have ak:Y (∀W,w.grownBy W none->Calls Tryz.prog 185 #[.string (R.str h.target),.agg #[.int .i64 r.number,.string (R.str r.path),vM,vT,.string (R.str r.rep),vS,vD]] W fun e w'=>e = .returned (.string (R.str (Rq.replaced h.target r)))/\W.grownBy w' none):=fun W hW=>zcS h.target [.int .i64 r.number,.string (R.str r.path),vM,vT,.string (R.str r.rep),vS,vD] r (ab.o.grown hW) ht hp
 have ai:Y (∀wS:World,Calls Tryz.prog 184 #[.slice (some ⟨wS.heap.size,0,none⟩) 5 5] (wS.alloc (.cells #[.string (R.str h.method),.string ⟨#[32]⟩,.string (R.str (Rq.replaced h.target r)),.string ⟨#[32]⟩,.string ⟨#[72,84,84,80,47,49,46,49]⟩] 9)) fun e w'=>e = .returned (.string (R.str (Rq.first h r)))/\wS.grownBy w' none):=fun wS=>(zaN wS.heap.size 5 [h.method,[32],Rq.replaced h.target r,[32],Rq.sVersion] (heap_alloc_new wS (.cells #[.string (R.str h.method),.string ⟨#[32]⟩,.string (R.str (Rq.replaced h.target r)),.string ⟨#[32]⟩,.string ⟨#[72,84,84,80,47,49,46,49]⟩] 9)) (by simp) (by simp) (by unfold Rq.sVersion;simp only[xP,List.flatten_nil,zW,zm,qi];omega)).mono fun e w' ⟨q1,q2⟩=>⟨q1,zA (zJ _ _ none) q2⟩
 have b0:(w.alloc (.cells #[.int .i64 r.number,.string (R.str r.path),vM,vT,.string (R.str r.rep),vS,vD] 213)).cell? ⟨w.heap.size,0,none⟩=some (.int .i64 r.number):=z8 HB.o
 have b1:(w.alloc (.cells #[.int .i64 r.number,.string (R.str r.path),vM,vT,.string (R.str r.rep),vS,vD] 213)).cell? ⟨w.heap.size,1,none⟩=some (.string (R.str r.path)):=z8 HB.o
 have b2:(w.alloc (.cells #[.int .i64 r.number,.string (R.str r.path),vM,vT,.string (R.str r.rep),vS,vD] 213)).cell? ⟨w.heap.size,2,none⟩=some (vM):=z8 HB.o
 have b3:(w.alloc (.cells #[.int .i64 r.number,.string (R.str r.path),vM,vT,.string (R.str r.rep),vS,vD] 213)).cell? ⟨w.heap.size,3,none⟩=some (vT):=z8 HB.o
 have b4:(w.alloc (.cells #[.int .i64 r.number,.string (R.str r.path),vM,vT,.string (R.str r.rep),vS,vD] 213)).cell? ⟨w.heap.size,4,none⟩=some (.string (R.str r.rep)):=z8 HB.o
 have b5:(w.alloc (.cells #[.int .i64 r.number,.string (R.str r.path),vM,vT,.string (R.str r.rep),vS,vD] 213)).cell? ⟨w.heap.size,5,none⟩=some (vS):=z8 HB.o
 have b6:(w.alloc (.cells #[.int .i64 r.number,.string (R.str r.path),vM,vT,.string (R.str r.rep),vS,vD] 213)).cell? ⟨w.heap.size,6,none⟩=some (vD):=z8 HB.o
 obtain⟨vl,vh,z1,z2,z3⟩:=HI.o.ex
 obtain⟨ha,hk,rfl⟩:=zP z3
 have HQ:=hid z1
 have k2:(w.alloc (.cells #[.int .i64 r.number,.string (R.str r.path),vM,vT,.string (R.str r.rep),vS,vD] 213)).cell? ⟨cb,2,none⟩=some (.string (R.str h.method)):=z8 HQ.o
 have k3:(w.alloc (.cells #[.int .i64 r.number,.string (R.str r.path),vM,vT,.string (R.str r.rep),vS,vD] 213)).cell? ⟨cb,3,none⟩=some (.string (R.str h.target)):=z8 HQ.o
 have ah:=hid z3
 clear z1 z2 z3 hI al hE hT ad
 go_enter Tryz.func126,Tryz.ntmps126
 go_upto_region 1 with fail
 generalize w.alloc (.cells #[.int .i64 r.number,.string (R.str r.path),vM,vT,.string (R.str r.rep),vS,vD] 213)=wa at*
 generalize Rq.first h r=fl at*
 generalize Rq.replaced h.target r=rp at*
 go_cut [5] (fun rv wz=>rv = .string (R.str fl)/\Y (wa.grownBy wz none))
 case first=>
  go_region_law (first | (go_simp;go_at_call 185;refine(ak.o _ (zA GA.o (zQ wa))).mono ?_;rintro e wR ⟨rfl,gR⟩;have GR:=hid (zA (zQ wa) gR);have ar:=hid (zB HQ.o GR.o (by simp));have y2:wR.cell? ⟨cb,2,none⟩=some (.string (R.str h.method)):=z8 ar.o;clear gR) | (go_simp;go_at_call 184;refine(ai.o wR).mono ?_;rintro e wL ⟨rfl,gL⟩;have GL:=hid (zA GR.o gL);clear gL))
  all_goals
   go_wp2_with fail
   go_meet
   case rel=>exact⟨rfl,GL⟩
 case rest=>
  obtain⟨rfl,G2⟩:=hcut
  generalize wc=w2 at*
  have aa:=hid (zB HB.o G2.o (by simp))
  have aq:=hid (zB HQ.o G2.o (by simp))
  have GW:=hid (zA GA.o G2.o)
  have ag:=hid (qK (zO ah.o G2.o (fun k hk c=>by cases c)) (zl B))
  clear k2 k3 b0 b1 b2 b3 b4 b5 b6 ak ai ah HB HQ
  have d0:w2.cell? ⟨w.heap.size,0,none⟩=some (.int .i64 r.number):=z8 aa.o
  have d1:w2.cell? ⟨w.heap.size,1,none⟩=some (.string (R.str r.path)):=z8 aa.o
  have d2:w2.cell? ⟨w.heap.size,2,none⟩=some (vM):=z8 aa.o
  have d3:w2.cell? ⟨w.heap.size,3,none⟩=some (vT):=z8 aa.o
  have d4:w2.cell? ⟨w.heap.size,4,none⟩=some (.string (R.str r.rep)):=z8 aa.o
  have d5:w2.cell? ⟨w.heap.size,5,none⟩=some (vS):=z8 aa.o
  have d6:w2.cell? ⟨w.heap.size,6,none⟩=some (vD):=z8 aa.o
  have k4:w2.cell? ⟨cb,4,none⟩=some (.slice ha h.headers.length hk):=z8 aq.o
  have an:Y (Calls Tryz.prog 187 #[.agg #[.int .i64 r.number,.string (R.str r.path),vM,vT,.string (R.str r.rep),vS,vD],.slice ha h.headers.length hk] w2.drew fun e w'=>∃a k,e = .returned (.slice a (Rq.edited r h.headers).length k)/\w'.ownsRow 0 346 2 (.slice a (Rq.edited r h.headers).length k) (Rq.edited r h.headers).length (zb (Rq.edited r h.headers))/\w2.drew.grownBy w' none):=zfJ [.int .i64 r.number,.string (R.str r.path),vM,vT,.string (R.str r.rep),vS,vD] r (ab.o.grown (zA GW.o (zQ w2))) h.headers (zO ag.o (zQ w2) (fun k hk c=>by cases c)) (by omega) hd hs
  have ap:Y (∀W a k,W.ownsRow 0 346 2 (.slice a (Rq.edited r h.headers).length k) (Rq.edited r h.headers).length (zb (Rq.edited r h.headers))->w.grownBy W none->Calls Tryz.prog 186 #[.slice a (Rq.edited r h.headers).length k] W fun e w'=>e = .returned (.string (R.str (Rq.lines (Rq.edited r h.headers))))/\w.grownBy w' none):=fun W a k hw hW=>(zkY _ hw (by omega) aj.o (ae.o.grown hW) (af.o.grown hW)).mono fun e w' ⟨q1,q2⟩=>⟨q1,zA hW q2⟩
  have ao:Y (∀W,Calls Tryz.prog 184 #[.slice none 0 0] W fun e w'=>e = .returned (.string (R.str [13,10]))/\w'=W):=zi3
  clear aj ae af ab ag
  generalize Rq.lines (Rq.edited r h.headers)=ls at*
  generalize Rq.edited r h.headers=ed at*
  have s1:(R.str fl).size<=10000:=by rw[R.str_size];exact au
  have s2:(R.str ls).size<=70000000:=by rw[R.str_size];omega
  have a1:=zd2 fl ls
  have a2:=zd2 (fl++ls) [13,10]
  have s3:(R.str (fl++ls)).size<=70010000:=by rw[R.str_size,zW];rw[R.str_size] at s1 s2;omega
  have s4:(R.str [13,10]).size=2:=rfl
  have aw:¬(9223372036854775807<(R.str fl).size+(R.str ls).size):=by omega
  have ax:¬(9223372036854775807<(R.str (fl++ls)).size+(R.str [13,10]).size):=by omega
  have ay:¬(9223372036854775807<(R.str (fl++ls)).size+2):=by omega
  go_upto_region 2 with fail
  go_region_law (first | (go_simp;go_at_call 187;refine an.o.mono ?_;rintro e wE ⟨aE,kE,rfl,oE,gE⟩;have OE:=hid oE;have am:=hid (zA (zA GW.o (zQ w2)) gE);clear oE gE) | (go_simp;go_at_call 186;refine(ap.o _ _ _ OE.o am.o).mono ?_;rintro e wL ⟨rfl,gL⟩;have GL:=hid gL;clear gL) | (go_simp;go_at_call 184;refine(ao.o _).mono ?_;rintro e w' ⟨rfl,rfl⟩))
  all_goals
   go_wp2
   go_ret
   refine⟨?_,GL.o⟩
   rw[HS.o]
   first | rfl | (simp only[xY];rfl)
theorem HMv.put {w w9:World}{cb i:Nat}{v v':Value}(hx:w.cell? ⟨cb,i,none⟩=some v)(hc:cb<w.heap.size)(gr:w.grownBy w9 v.ownBlock)(ha:∀k,v.ownBlock=some k->k≠cb)(aa:∀k,v'.ownBlock=some k->v.ownBlock=some k\/w.heap.size<=k):HMv w (w9.setCell ⟨cb,i,none⟩ v') cb:=by
 have h1:HMv w w9 cb:=HMv.row hx hc gr ha
 have gs:=zD w9 cb i v'
 have ab:w9.cell? ⟨cb,i,none⟩=some v:=by rw[jA (gr.block cb hc (fun e=>ha cb e.symm rfl))];exact hx
 refine⟨⟨gs.os.trans h1.turn.os,gs.tape.trans h1.turn.tape,gs.output.trans h1.turn.output,zp h1.turn.size gs.size,fun k hk hn=>(gs.block k (yU hk h1.turn.size) (fun e=>hn (Or.inl (qk e)))).trans (h1.turn.block k hk hn)⟩,fun k hk=>?_⟩
 rcases hk with hk | ⟨j,u,q1,q2⟩
 ·exact Or.inl (Or.inl hk)
 ·by_cases hj:j=i
  ·subst hj
   rw[World.cell?_setCell_same _ _ _ ab] at q1
   obtain rfl:=qk q1
   rcases aa k q2 with h | h
   ·exact Or.inl (Or.inr ⟨j,v,hx,h⟩)
   ·exact Or.inr h
  ·rw[World.cell?_setCell_other _ _ _ _ (by simp;try omega)] at q1
   exact h1.foot k (Or.inr ⟨j,u,q1,q2⟩)
def GRow (F:Nat×Nat->Prop)(w:World)(B:Nat)(e:TypeId)(v:Value)(n:Nat)(xs:List Value):Prop:=
 ∃ao b off cap,v = .slice ao n cap/\Came w 1 ao b off n cap xs/\(∀a,ao=some a->a.block=b/\B<=b/\∃cs f,F f/\w.heap[b]?=some (.cells cs e f))
theorem GRow.of_row {F:Nat×Nat->Prop}(hF:F (0,0)){w:World}{B:Nat}{e:TypeId}{v:Value}{n:Nat}{xs:List Value}(h:w.ownsRow B e 1 v n xs):GRow F w B e v n xs:=by
 have hl:xs.length=n:=by have:=h.1;omega
 rcases h.2 with ⟨h1,h2⟩ | ⟨g,cap,cur,hv,hB,hb,hle,_,hsz,hc⟩
 ·subst h2
  have hx:xs=[]:=List.eq_nil_of_length_eq_zero hl
  subst hx
  exact⟨none,0,0,0,h1,⟨zZ _,fun h=>by omega,fun h=>by omega,rfl,fun j u h=>by simp at h,fun j h=>by simp at h⟩,fun a h=>by cases h⟩
 ·refine⟨some ⟨g,0,none⟩,g,0,cap,hv,⟨hle,fun _=>rfl,fun _=>zE hb,by omega,fun j u hu=>?_,fun j hj=>?_⟩,fun a ha=>by cases ha;exact⟨rfl,hB,_,_,hF,hb⟩⟩
  ·rw[Nat.zero_add,z8 hb]
   rw[<-hc,List.getElem?_take] at hu
   split at hu
   ·simpa using hu
   ·cases hu
  ·refine⟨?_,zC hb⟩
   rw[z8 hb,Array.getElem?_eq_getElem (by omega)];rfl
theorem vX {F:Nat×Nat->Prop}(hF:F (0,0))(w:World){ap:Array Oper}{rest:List Oper}{o:Oper}{a:Act}{Q:Exit->Act->World->Prop}(hg:o.guard=none)(s x:Operand)(t:TypeId)(an:o.op=Op.call { callee:=Callee.builtin Builtin.append,args:=#[s,x],argTypes:=#[t,t] })
  (B:Nat) (e:TypeId) (i:TypeInfo) (z:Value) (af:Nat) (h1:Tryz.prog.underlying t=some (.slice e)) (h2:Tryz.prog.info? e=some i) (h3:i.zero=some z) (h4:i.size=1) (h5:i.bytes=af) (h6:z.cells.size=1)
  (v:Value) (n:Nat) (xs:List Value) (hs:a.eval s=v) (hq:GRow F w B e v n xs) (ad:Addr) (c:Nat) (u:Value) (hx:a.eval x = .slice (some ad) 1 c) (hc:w.cell? ad=some u) (hu:u.oneCell'=true) (b1:n+1<=maxLen) (b2:(n+1)*af<=140737488355328) (hB:B<=w.heap.size)
  (hK:∀v' w',GRow F w' B e v' (n+1) (xs++[u])->w.grownBy w' v.ownBlock->(∀k,v'.ownBlock=some k->v.ownBlock=some k\/w.heap.size<=k)->wpList Tryz.prog ap Q rest (a.put o.dst v') w'):wpList Tryz.prog ap Q (o :: rest) a w:=by
 obtain⟨ao,b,aa,ae,rfl,ab,au⟩:=hq
 have ak:xs.length=n:=by have:=ab.oldsLen;omega
 have am:∀j u',[u][j]?=some u'->w.cell? (ad.add j)=some u':=fun j u' hj=>by
  cases j with
  | zero=>
   simp at hj;subst hj
   have e0:ad.add 0=ad:=by cases ad;simp[Addr.add]
   rw[e0];exact hc
  | succ j=>simp at hj
 by_cases hr:n+1<=ae
 ·have ar:=ab.addr (by omega)
  subst ar
  obtain⟨_,aq,cs,f,hf,ag⟩:=au _ rfl
  have aj:=ab.spare
  have ax:aa+n<cs.size:=by
   have:=(aj 0 (by omega)).1
   rw[z8 ag] at this
   have:=Array.getElem?_eq_some_iff.1 (Option.some_get this).symm
   have:=this.1
   omega
  refine wpList_append_arg w hg s x t an e i z 1 af h1 h2 h3 h4 h5 h6 (by decide) b aa n ae xs hs (by omega) (fun j u' hj=>ab.olds j u' hj) ad 1 c [u] hx rfl am (fun u' hu'=>by simp at hu';subst hu';exact hu) (fun _ j hj=>aj j (by simp at hj;omega)) b1 b2 (fun _=>?_) (fun h=>absurd hr (by omega))
  have av:w.setCells b (aa+n*1) [u]=w.setCell ⟨b,aa+n,none⟩ u:=by rw[Nat.mul_one];rfl
  rw[av]
  have ah:=zF (i:=aa+n) ag u
  have gs:=zD w b (aa+n) u
  refine hK _ _ ⟨some ⟨b,aa,none⟩,b,aa,ae,rfl,⟨by omega,fun _=>rfl,fun _=>zE ah,by rw[zW,ak];simp,fun j u' hj=>?_,fun j hj=>?_⟩,fun a ha=>by cases ha;exact⟨rfl,aq,_,_,hf,ah⟩⟩ gs (fun k hk=>Or.inl hk)
  ·rw[z8 ah]
   by_cases aw:j<n
   ·rw[List.getElem?_append_left (by omega)] at hj
    have:=ab.olds j u' hj
    rw[z8 ag] at this
    rw[Array.getElem?_setIfInBounds_ne (by omega)]
    exact this
   ·have ai:=(List.getElem?_eq_some_iff.1 hj).1
    rw[zW,ak] at ai
    have ej:j=n:=by simp at ai;omega
    subst ej
    rw[List.getElem?_append_right (by omega),ak,Nat.sub_self] at hj
    rw[Array.getElem?_setIfInBounds_self_of_lt (by omega)]
    simpa using hj
  ·have h9:=aj (j+1) (by omega)
   have e9:aa+(n+1)*1+j=aa+n*1+(j+1):=by omega
   rw[World.frozen?_setCell,e9]
   refine⟨?_,h9.2⟩
   have h8:=h9.1
   rw[z8 ag] at h8
   rw[z8 ah,Array.getElem?_setIfInBounds_ne (by omega)]
   exact h8
 ·have al:0<ae->ao=some ⟨b,aa,none⟩:=ab.addr
  refine wpList_append_grows w hg s x t an e i z 1 af h1 h2 h3 h4 h5 h6 (by decide) ao n ae xs hs (fun e0=>?_) (by omega) (fun b' e0 j u' hj=>?_) ad 1 c [u] hx rfl am (fun u' hu'=>by simp at hu';subst hu';exact hu) (by omega) b1 b2 (fun v' w' ho g=>hK v' w' (GRow.of_row hF (qK ho hB)) ⟨g.os,g.tape,g.output,g.size,fun k hk _=>g.block k hk (by simp)⟩ (fun k hk=>Or.inr (qh ho k hk).1))
  ·have h0:ae=0:=by
    rcases Nat.eq_zero_or_pos ae with h | h
    ·exact h
    ·rw[al h] at e0;cases e0
   have:=ab.le
   omega
  ·have ai:=(List.getElem?_eq_some_iff.1 hj).1
   have:=ab.le
   rw[al (by omega)] at e0
   cases e0
   rw[jL]
   exact ab.olds j u' hj
theorem GRow.block {F:Nat×Nat->Prop}{w:World}{B:Nat}{e:TypeId}{v:Value}{n:Nat}{xs:List Value}(h:GRow F w B e v n xs):∀k,v.ownBlock=some k->B<=k/\∃cs f,w.heap[k]?=some (.cells cs e f):=by
 obtain⟨ao,b,ab,aa,rfl,hc,hb⟩:=h
 intro k hk
 cases ao with
 | none=>cases hk
 | some a=>
  obtain⟨h1,h2,cs,f,_,h3⟩:=hb a rfl
  have e:k=b:=by simp only[Value.ownBlock,Option.some.injEq] at hk;omega
  rw[e]
  exact⟨h2,cs,f,h3⟩
theorem GRow.keep {F:Nat×Nat->Prop}{w w':World}{B:Nat}{e:TypeId}{v:Value}{n:Nat}{xs:List Value}(h:GRow F w B e v n xs)(hk:∀k,v.ownBlock=some k->w'.heap[k]?=w.heap[k]?):GRow F w' B e v n xs:=by
 obtain⟨ao,b,aa,ab,rfl,hc,hb⟩:=h
 have ad:xs.length=n:=by have:=hc.oldsLen;omega
 cases ao with
 | none=>
  have h0:ab=0:=by
   rcases Nat.eq_zero_or_pos ab with h | h
   ·exact h
   ·have:=hc.addr h;cases this
  subst h0
  have hl:n=0:=Nat.le_zero.1 hc.le
  subst hl
  have hx:xs=[]:=List.eq_nil_of_length_eq_zero ad
  subst hx
  exact⟨none,b,aa,0,rfl,⟨zZ _,fun h=>by omega,fun h=>by omega,rfl,fun j u h=>by simp at h,fun j h=>by simp at h⟩,fun a h=>by cases h⟩
 | some a=>
  obtain⟨h1,h2,cs,f,hf,h3⟩:=hb a rfl
  have hq:=hk b (by rw[<-h1];rfl)
  refine⟨some a,b,aa,ab,rfl,⟨hc.le,hc.addr,fun _=>zE (hq.trans h3),hc.oldsLen,fun j u h=>(World.cell?_of_block (a:=⟨b,aa+j,none⟩) hq).trans (hc.olds j u h),fun j h=>?_⟩,fun a' h=>by cases h;exact⟨h1,h2,cs,f,hf,hq.trans h3⟩⟩
  rw[World.cell?_of_block (a:=⟨b,aa+n*1+j,none⟩) hq,World.frozen?_of_block (a:=⟨b,aa+n*1+j,none⟩) hq]
  exact hc.spare j h
theorem GRow.base {F:Nat×Nat->Prop}{w:World}{B B':Nat}{e:TypeId}{v:Value}{n:Nat}{xs:List Value}(h:GRow F w B e v n xs)(hb:B'<=B):GRow F w B' e v n xs:=by
 obtain⟨ao,b,ab,aa,rfl,hc,h2⟩:=h
 exact⟨ao,b,ab,aa,rfl,hc,fun a ha=>by obtain⟨q1,q2,q3⟩:=h2 a ha;exact⟨q1,zp hb q2,q3⟩⟩
def anyMark (_:Nat×Nat):Prop:=True
structure Pc where
 dst:List UInt8
 data:List UInt8
 left:Int
def Dat (w:World)(B:Nat)(v:Value)(l:List UInt8):Prop:=
 ∃g cap cur f,v = .slice (some ⟨g,0,none⟩) l.length cap/\B<=g/\w.heap[g]?=some (.cells cur 5 f)/\∀(j:Nat) (u:Value),(Lib.byteCells l)[j]?=some u->cur[j]?=some u
def DatAt (w:World)(B:Nat)(p:Pc)(v:Value):Prop:=GRow anyMark w B 5 v p.data.length (Lib.byteCells p.data)\/(p.dst=[]/\Dat w B v p.data)
theorem DatAt.form {w:World}{B:Nat}{p:Pc}{v:Value}(h:DatAt w B p v):∃a k,v = .slice a p.data.length k:=by
 rcases h with ⟨ao,b,off,cap,rfl,_⟩ | ⟨_,g,cap,cur,f,rfl,_⟩
 ·exact⟨_,_,rfl⟩
 ·exact⟨_,_,rfl⟩
theorem DatAt.kind {w:World}{B:Nat}{p:Pc}{v:Value}(h:DatAt w B p v):∀k,v.ownBlock=some k->B<=k/\∃cs f,w.heap[k]?=some (.cells cs 5 f):=by
 intro k hk
 rcases h with h | ⟨_,g,cap,cur,f,rfl,h1,h2,_⟩
 ·exact h.block k hk
 ·have e:g=k:=qk hk
  subst e
  exact⟨h1,_,_,h2⟩
theorem DatAt.keep {w w':World}{B:Nat}{p:Pc}{v:Value}(h:DatAt w B p v)(hk:∀k,v.ownBlock=some k->w'.heap[k]?=w.heap[k]?):DatAt w' B p v:=by
 rcases h with h | ⟨h0,g,cap,cur,f,rfl,h1,h2,h3⟩
 ·exact Or.inl (h.keep hk)
 ·exact Or.inr ⟨h0,g,cap,cur,f,rfl,h1,by rw[hk g rfl];exact h2,h3⟩
theorem DatAt.own {w:World}{B:Nat}{p:Pc}{v:Value}(h:DatAt w B p v)(h0:p.dst≠[]):GRow anyMark w B 5 v p.data.length (Lib.byteCells p.data):=by
 rcases h with h | ⟨h1,_⟩
 ·exact h
 ·exact absurd h1 h0
theorem DatAt.base {w:World}{B B':Nat}{p:Pc}{v:Value}(h:DatAt w B p v)(hb:B'<=B):DatAt w B' p v:=by
 rcases h with h | ⟨h0,g,cap,cur,f,rfl,h1,h2⟩
 ·exact Or.inl (h.base hb)
 ·exact Or.inr ⟨h0,g,cap,cur,f,rfl,zp hb h1,h2⟩
structure PcAt (w:World) (pb B:Nat) (p:Pc):Prop where
 ex:∃vd,w.heap[pb]?=some (.cells #[.string (R.str p.dst),vd,.int .i64 p.left] 172 (0,0))/\DatAt w B p vd
 low:B<=pb
theorem DatAt.apart {w:World}{B b:Nat}{p:Pc}{v:Value}{cs:Array Value}{t:TypeId}{f:Nat×Nat}(h:DatAt w B p v)(hb:w.heap[b]?=some (.cells cs t f))(ht:t≠5):∀k,v.ownBlock=some k->k≠b:=by
 intro k hk e
 obtain⟨_,c,f',e2⟩:=h.kind k hk
 rw[e,hb] at e2
 simp only[Option.some.injEq,Obj.cells.injEq] at e2
 exact ht e2.2.1
theorem DatAt.away {w w':World}{B:Nat}{p:Pc}{v:Value}{row:Option Nat}(h:DatAt w B p v)(g:w.grownBy w' row)(hr:∀k,v.ownBlock=some k->row≠some k):DatAt w' B p v:=
 h.keep fun k hk=>g.block k (by obtain⟨_,_,_,e⟩:=h.kind k hk;exact zE e) (fun e=>hr k hk e.symm)
def Pc.take (p:Pc)(c:UInt8):Pc:={ p with data:=if p.dst=[] then p.data else p.data++[c],left:=p.left - 1 }
theorem zl4 {w:World}{pb B:Nat}{p:Pc}(h:PcAt w pb B p)(c:UInt8)(hl:1<=p.left/\p.left<=100000)(hd:p.data.length<=1000000000)(hB:B<=w.heap.size) :
  Calls Tryz.prog 120 #[.pointer (some ⟨pb,0,none⟩),.int .u8 c.toNat] w fun e w'=>e = .returned (.tuple #[])/\PcAt w' pb B (p.take c)/\HMv w w' pb:=by
 obtain⟨i0,hi,aw,ax,ay⟩:=info_parts ja
 obtain⟨vd,q1,q2⟩:=h.ex
 obtain⟨da,dk,rfl⟩:=q2.form
 have aj:=h.low
 have k2:w.cell? ⟨pb,2,none⟩=some (.int .i64 p.left):=z8 q1
 have f2:=zrB 2 q1
 have HM:Y (HMv w (w.setCell ⟨pb,2,none⟩ (.int .i64 (p.left - 1))) pb):=HMv.set k2 (fun k hk=>by cases hk)
 have gs:=zD w pb 2 (.int .i64 (p.left - 1))
 have HQ:Y ((w.setCell ⟨pb,2,none⟩ (.int .i64 (p.left - 1))).heap[pb]?=some (.cells #[.string (R.str p.dst),.slice da p.data.length dk,.int .i64 (p.left - 1)] 172 (0,0))):=zF (i:=2) q1 _
 have HD:Y (DatAt (w.setCell ⟨pb,2,none⟩ (.int .i64 (p.left - 1))) B p (.slice da p.data.length dk)):=q2.away gs (fun k hk e=>q2.apart q1 (by decide) k hk (qk e).symm)
 have aA:B<=(w.setCell ⟨pb,2,none⟩ (.int .i64 (p.left - 1))).heap.size:=zp hB gs.size
 have e0:=jJ p.dst
 have HT:Y (p.take c={ p with data:=if p.dst=[] then p.data else p.data++[c],left:=p.left - 1 }):=rfl
 clear q1 q2 gs h
 generalize p.take c=p' at*
 go_enter Tryz.func120,Tryz.ntmps120
 go_upto_region 1 with fail
 generalize w.setCell ⟨pb,2,none⟩ (.int .i64 (p.left - 1))=w1 at*
 clear k2 f2
 have k0:=zqY HQ.o
 have k1:=zqZ HQ.o
 have au:=zE HQ.o
 by_cases h0:p.dst=[]
 ·rw[decide_eq_true h0] at e0
  rw[if_pos h0] at HT
  have an:Y (DatAt w1 B { p with data:=p.data,left:=p.left - 1 } (.slice da p.data.length dk)):=HD.o
  clear h0
  go_wp2
  go_end0
  exact⟨rfl,by rw[HT.o];exact⟨⟨_,HQ.o,an.o⟩,aj⟩,HM.o⟩
 ·rw[decide_eq_false h0] at e0
  rw[if_neg h0] at HT
  have ae:=hid (HD.o.own h0)
  clear h0
  have gX:=hid (zJ w1 (.cells #[.int .u8 c.toNat] 5) none)
  have af:Y (GRow anyMark (w1.alloc (.cells #[.int .u8 c.toNat] 5)) B 5 (.slice da p.data.length dk) p.data.length (Lib.byteCells p.data)):=ae.o.keep (fun k hk=>gX.o.block k (by obtain⟨_,_,_,e⟩:=ae.o.block k hk;exact zE e) (by simp))
  have am:Y ((w1.alloc (.cells #[.int .u8 c.toNat] 5)).cell? ⟨w1.heap.size,0,none⟩=some (.int .u8 c.toNat)):=z8 (heap_alloc_new _ _)
  have aq:Y (p.data.length+1<=maxLen):=by show _<=_;unfold maxLen;omega
  have ar:Y ((p.data.length+1)*1<=140737488355328):=by show _<=_;omega
  have al:Y (B<=(w1.alloc (.cells #[.int .u8 c.toNat] 5)).heap.size):=by show _<=_;simp;omega
  have aa:=hid (zB HQ.o gX.o (by simp))
  have ab:Y (∀k,(Value.slice da p.data.length dk).ownBlock=some k->k≠pb):=fun k hk e=>by
   obtain⟨_,cs,f,e2⟩:=af.o.block k hk
   rw[e,aa.o] at e2;simp at e2
  have kX:(w1.alloc (.cells #[.int .u8 c.toNat] 5)).cell? ⟨pb,1,none⟩=some (.slice da p.data.length dk):=z8 aa.o
  have av:=zE aa.o
  have ap:Y (∀v9 w9,GRow anyMark w9 B 5 v9 (p.data.length+1) (Lib.byteCells p.data++[.int .u8 c.toNat])->(w1.alloc (.cells #[.int .u8 c.toNat] 5)).grownBy w9 (Value.slice da p.data.length dk).ownBlock->(∀k,v9.ownBlock=some k->(Value.slice da p.data.length dk).ownBlock=some k\/w1.heap.size+1<=k)->PcAt (w9.setCell ⟨pb,1,none⟩ v9) pb B { p with data:=p.data++[c],left:=p.left - 1 }/\HMv w (w9.setCell ⟨pb,1,none⟩ v9) pb):=fun v9 w9 ho hg hat=>by
   have ai:=qM aa.o hg ab.o
   have gs:=zD w9 pb 1 v9
   refine⟨⟨⟨v9,zF (i:=1) ai _,?_⟩,aj⟩,?_⟩
   ·refine Or.inl ?_
    simp only[zW,zm,qi,Lib.byteCells_append]
    refine ho.keep (fun k hk=>gs.block k (by obtain⟨_,_,_,e⟩:=ho.block k hk;exact zE e) (fun e=>?_))
    obtain⟨_,cs,f,e2⟩:=ho.block k hk
    rw[qk e,ai] at e2;simp at e2
   ·exact(HM.o.trans (HMv.of_grown au gX.o)).trans (HMv.put kX av hg ab.o (fun k hk=>by have:=hat k hk;simpa using this))
  go_wp2_with (at_builtin;refine vX (F:=anyMark) trivial _ rfl (.tmp 20) (.tmp 22) 32 rfl B 5 i0 _ 1 Tryz.underlying32 hi aw ax ay rfl _ _ _ rfl af.o ⟨w1.heap.size,0,none⟩ 1 (.int .u8 c.toNat) rfl am.o rfl aq.o ar.o al.o ?_)
  intro v9 w9 ak ad ah
  have ao:=hid (ap.o v9 w9 ak ad ah)
  have ag:=hid (qM aa.o ad ab.o)
  have q9:w9.cell? ⟨pb,1,none⟩=some (.slice da p.data.length dk):=z8 ag.o
  have f9:=zrB 1 ag.o
  obtain⟨az,b9,o9,c9,rfl,_⟩:=ak
  clear ad ah
  go_wp2
  go_end0
  exact⟨rfl,by rw[HT.o];exact ao.o⟩
theorem wF {w:World}{pb B:Nat}{p:Pc}(h:PcAt w pb B p) :
  Calls Tryz.prog 127 #[.pointer (some ⟨pb,0,none⟩)] w fun e w'=>e = .returned (.bool (decide (p.left=0)))/\w'=w:=by
 have k2:w.cell? ⟨pb,2,none⟩=some (.int .i64 p.left):=by obtain⟨_,h1,_⟩:=h.ex;exact z8 h1
 go_enter Tryz.func127,Tryz.ntmps127
 go_wp2
 go_ret
 exact⟨za (by first | rfl | simp),rfl⟩
inductive Cn where
 | hd (h:Rq.Head)
 | bd (p:Pc)
def Rq.zero:Rq.Head:=⟨0,[],[],[],[]⟩
def CAt (w:World)(cb B:Nat):Cn->Prop
 | .hd h=>HInv w cb B (.pointer none) h
 | .bd p=>∃pb,w.heap[cb]?=some (.cells #[.int .i64 0,.slice none 0 0,.string ⟨#[]⟩,.string ⟨#[]⟩,.slice none 0 0,.pointer (some ⟨pb,0,none⟩)] 106 (0,0))/\PcAt w pb B p/\B<=cb
def CF (w:World)(cb k:Nat):Prop:=HF w cb k\/∃pb,w.cell? ⟨cb,5,none⟩=some (.pointer (some ⟨pb,0,none⟩))/\HF w pb k
structure CMv (w w':World) (cb:Nat) (row:Option Nat):Prop where
 turn:Turn w w' (fun k=>CF w cb k\/row=some k)
 foot:∀k,CF w' cb k->CF w cb k\/w.heap.size<=k
theorem Pc.zero_head (w:World){cb B pb:Nat}(h:w.heap[cb]?=some (.cells #[.int .i64 0,.slice none 0 0,.string ⟨#[]⟩,.string ⟨#[]⟩,.slice none 0 0,.pointer (some ⟨pb,0,none⟩)] 106 (0,0)))(hB:B<=cb):HInv w cb B (.pointer (some ⟨pb,0,none⟩)) Rq.zero:=
 ⟨⟨_,_,h,xS _ _ _ _,xS _ _ _ _⟩,hB⟩
def Cn.take (D:Rq.Head->Pc)(h:Rq.Head)(c:UInt8):Cn×List UInt8:=
 if (Rq.take h c).2.1 && decide ((Rq.take h c).2.2=[]) then (.bd (D (Rq.take h c).1),[]) else (.hd (Rq.take h c).1,(Rq.take h c).2.2)
theorem CMv.of_h {w w':World}{cb:Nat}{row:Option Nat}{wt:Value}(h:HMv w w' cb)(h5:w'.cell? ⟨cb,5,none⟩=some wt)(hn:wt = .pointer none):CMv w w' cb row:=
 ⟨⟨h.turn.os,h.turn.tape,h.turn.output,h.turn.size,fun k hk hn=>h.turn.block k hk (fun hF=>hn (Or.inl (Or.inl hF)))⟩,fun k hk=>by
  rcases hk with hk | ⟨pb,h1,h2⟩
  ·rcases h.foot k hk with q | q
   ·exact Or.inl (Or.inl q)
   ·exact Or.inr q
  ·rw[h5,hn] at h1;simp at h1⟩
theorem HInv.c5 {w:World}{cb B:Nat}{wt:Value}{h:Rq.Head}(hI:HInv w cb B wt h):w.cell? ⟨cb,5,none⟩=some wt:=by obtain⟨vl,vh,q1,_⟩:=hI.ex;exact z8 q1
theorem CAt.made {w w1 w2:World}{cb B pb:Nat}{row:Option Nat}{h:Rq.Head}{p:Pc}(hB:B<=w.heap.size)(m1:HMv w w1 cb)(i1:HInv w1 cb B (.pointer none) h)(hp:PcAt w2 pb w1.heap.size p)(g2:w1.grownBy w2 row)(hr:∀k,row=some k->k≠cb) :
  CAt ((((((w2.setCell ⟨cb,5,none⟩ (.pointer (some ⟨pb,0,none⟩))).setCell ⟨cb,0,none⟩ (.int .i64 0)).setCell ⟨cb,1,none⟩ (.slice none 0 0)).setCell ⟨cb,2,none⟩ (.string ⟨#[]⟩)).setCell ⟨cb,3,none⟩ (.string ⟨#[]⟩)).setCell ⟨cb,4,none⟩ (.slice none 0 0)) cb B (.bd p)/\CMv w ((((((w2.setCell ⟨cb,5,none⟩ (.pointer (some ⟨pb,0,none⟩))).setCell ⟨cb,0,none⟩ (.int .i64 0)).setCell ⟨cb,1,none⟩ (.slice none 0 0)).setCell ⟨cb,2,none⟩ (.string ⟨#[]⟩)).setCell ⟨cb,3,none⟩ (.string ⟨#[]⟩)).setCell ⟨cb,4,none⟩ (.slice none 0 0)) cb row:=by
 obtain⟨vl,vh,q1,_,_⟩:=i1.ex
 have q2:=zB q1 g2 (fun e=>hr cb e.symm rfl)
 have ah:=i1.lt
 have ai:=zE q2
 have aj:=hp.low
 have ak:=m1.turn.size
 have b5:=zF (i:=5) q2 (.pointer (some ⟨pb,0,none⟩))
 have b0:=zF (i:=0) b5 (.int .i64 0)
 have b1:=zF (i:=1) b0 (.slice none 0 0)
 have b2:=zF (i:=2) b1 (.string ⟨#[]⟩)
 have b3:=zF (i:=3) b2 (.string ⟨#[]⟩)
 have b4:=zF (i:=4) b3 (.slice none 0 0)
 have g9:w2.grownBy ((((((w2.setCell ⟨cb,5,none⟩ (.pointer (some ⟨pb,0,none⟩))).setCell ⟨cb,0,none⟩ (.int .i64 0)).setCell ⟨cb,1,none⟩ (.slice none 0 0)).setCell ⟨cb,2,none⟩ (.string ⟨#[]⟩)).setCell ⟨cb,3,none⟩ (.string ⟨#[]⟩)).setCell ⟨cb,4,none⟩ (.slice none 0 0)) (some cb):=zA (zA (zA (zA (zA (zD _ _ _ _) (zD _ _ _ _)) (zD _ _ _ _)) (zD _ _ _ _)) (zD _ _ _ _)) (zD _ _ _ _)
 obtain⟨vd,p1,p2⟩:=hp.ex
 have ab:=zB p1 g9 (by simp;omega)
 have ad:=p2.away g9 (fun k hk e=>p2.apart q2 (by decide) k hk (qk e).symm)
 have aa:((((((w2.setCell ⟨cb,5,none⟩ (.pointer (some ⟨pb,0,none⟩))).setCell ⟨cb,0,none⟩ (.int .i64 0)).setCell ⟨cb,1,none⟩ (.slice none 0 0)).setCell ⟨cb,2,none⟩ (.string ⟨#[]⟩)).setCell ⟨cb,3,none⟩ (.string ⟨#[]⟩)).setCell ⟨cb,4,none⟩ (.slice none 0 0)).heap[cb]?=some (.cells #[.int .i64 0,.slice none 0 0,.string ⟨#[]⟩,.string ⟨#[]⟩,.slice none 0 0,.pointer (some ⟨pb,0,none⟩)] 106 (0,0)):=b4
 refine⟨⟨pb,aa,⟨⟨vd,ab,ad.base (by omega)⟩,by omega⟩,i1.low⟩,⟨⟨g9.os.trans (g2.os.trans m1.turn.os),g9.tape.trans (g2.tape.trans m1.turn.tape),g9.output.trans (g2.output.trans m1.turn.output),by have:=g9.size;have:=g2.size;omega,fun k hk hn=>?_⟩,fun k hk=>?_⟩⟩
 ·have n1:k≠cb:=fun e=>hn (Or.inl (Or.inl (Or.inl e)))
  have ae:k<w1.heap.size:=by omega
  have af:k<w2.heap.size:=by have:=g2.size;omega
  exact(g9.block k af (by simpa using n1)).trans ((g2.block k ae (fun e=>hn (Or.inr e.symm))).trans (m1.turn.block k hk (fun hF=>hn (Or.inl (Or.inl hF)))))
 ·have ag:∀q,HF ((((((w2.setCell ⟨cb,5,none⟩ (.pointer (some ⟨pb,0,none⟩))).setCell ⟨cb,0,none⟩ (.int .i64 0)).setCell ⟨cb,1,none⟩ (.slice none 0 0)).setCell ⟨cb,2,none⟩ (.string ⟨#[]⟩)).setCell ⟨cb,3,none⟩ (.string ⟨#[]⟩)).setCell ⟨cb,4,none⟩ (.slice none 0 0)) pb q->w.heap.size<=q:=fun q hq=>by
   rcases hq with rfl | ⟨j,u,c1,c2⟩
   ·omega
   ·rw[z8 ab] at c1
    have hd:u=vd\/u.ownBlock=none:=by
     match j,c1 with
     | 0,c1=>simp at c1;subst c1;exact Or.inr rfl
     | 1,c1=>simp at c1;exact Or.inl c1.symm
     | 2,c1=>simp at c1;subst c1;exact Or.inr rfl
     | j+3,c1=>simp at c1
    rcases hd with rfl | hd
    ·have:=(ad.kind q c2).1;omega
    ·rw[hd] at c2;cases c2
  rcases hk with hk | ⟨pb',h1,h2⟩
  ·rcases hk with rfl | ⟨j,u,c1,c2⟩
   ·exact Or.inl (Or.inl (Or.inl rfl))
   ·rw[z8 aa] at c1
    exfalso
    match j,c1 with
    | 0,c1=>simp at c1;subst c1;cases c2
    | 1,c1=>simp at c1;subst c1;cases c2
    | 2,c1=>simp at c1;subst c1;cases c2
    | 3,c1=>simp at c1;subst c1;cases c2
    | 4,c1=>simp at c1;subst c1;cases c2
    | 5,c1=>simp at c1;subst c1;cases c2
    | j+6,c1=>simp at c1
  ·have e:w2.heap[cb]?=w2.heap[cb]?:=rfl
   have h5:=zr3 aa
   rw[h5] at h1
   simp at h1
   rw[<-h1] at h2
   exact Or.inr (ag k h2)
theorem wG {w:World}{cb yb B:Nat}{h:Rq.Head}(row:Option Nat)(X:World->Prop)(hX:∀W i v,X W->X (W.setCell ⟨cb,i,none⟩ v))(hI:HInv w cb B (.pointer none) h)(c:UInt8)(D:Rq.Head->Pc)(hs:h.size<=600)(hl:h.line.length<=3000)(hn:h.headers.length<=100000)(hB:B<=w.heap.size)(hG:Glob w)(hE:GE w)(ad:cb≠0/\cb≠Tryz.laysC172_ren.g 15)(hr:∀k,row=some k->k≠cb)
  (hD:∀W h',HInv W cb B (.pointer none) h'->HMv w W cb->Rq.take h c=(h',true,[])->Calls Tryz.prog 80 #[.pointer (some ⟨yb,0,none⟩),.pointer (some ⟨cb,0,none⟩)] W fun e w'=>∃pb,e = .returned (.pointer (some ⟨pb,0,none⟩))/\PcAt w' pb W.heap.size (D h')/\W.grownBy w' row/\X w') :
  Calls Tryz.prog 79 #[.pointer (some ⟨cb,0,none⟩),.int .u8 c.toNat,.func (.func 80) #[.pointer (some ⟨yb,0,none⟩)] #[]] w fun e w'=>e = .returned (.string (R.str (Cn.take D h c).2))/\CAt w' cb B (Cn.take D h c).1/\CMv w w' cb row/\((Rq.take h c).2=(true,[])->X w'):=by
 have k5:=hI.c5
 have HT:=hid (zkU hI c hs hl hn hB hG hE ad)
 have HD:=hid hD
 have HC:Y (Cn.take D h c=if (Rq.take h c).2.1 && decide ((Rq.take h c).2.2=[]) then (.bd (D (Rq.take h c).1),[]) else (.hd (Rq.take h c).1,(Rq.take h c).2.2)):=rfl
 clear hI hG hE hD
 generalize Cn.take D h c=ct at*
 generalize Rq.take h c=tk at*
 obtain⟨h1,wh,rf⟩:=tk
 simp only at HT HC
 go_enter Tryz.func79,Tryz.ntmps79
 go_wp2_with fail
 refine HT.o.mono ?_
 rintro e w1 ⟨rfl,i1,m1⟩
 have I1:=hid i1
 have M1:=hid m1
 clear i1 m1 HT
 cases wh
 ·have HE:Y (ct=(.hd h1,rf)):=by show _=_;rw[HC.o];rfl
  clear HC
  go_wp2
  go_ret
  exact⟨by rw[HE.o];rfl,by rw[HE.o];exact I1.o,CMv.of_h M1.o I1.o.c5 rfl,fun e=>by cases e⟩
 ·by_cases aa:rf=[]
  ·subst aa
   have er:((R.str []).toList == [])=true:=by rw[jJ];rfl
   have HE:Y (ct=(.bd (D h1),[])):=by show _=_;rw[HC.o];rfl
   clear HC
   go_wp2_with fail
   refine(HD.o w1 h1 I1.o M1.o rfl).mono ?_
   rintro e w2 ⟨pb,rfl,hp,g2,hx⟩
   have ab:=hid (CAt.made hB M1.o I1.o hp g2 hr)
   have HX:=hid (hX _ 4 (.slice none 0 0) (hX _ 3 (.string ⟨#[]⟩) (hX _ 2 (.string ⟨#[]⟩) (hX _ 1 (.slice none 0 0) (hX _ 0 (.int .i64 0) (hX w2 5 (.pointer (some ⟨pb,0,none⟩)) hx))))))
   obtain⟨vl,vh,q1,_,_⟩:=I1.o.ex
   have HQ:=hid (zB q1 g2 (fun e=>hr cb e.symm rfl))
   clear hp g2 q1 HD k5 hx
   have r0:w2.cell? ⟨cb,0,none⟩=some (.int .i64 h1.size):=z8 HQ.o
   have r1:w2.cell? ⟨cb,1,none⟩=some vl:=z8 HQ.o
   have r2:w2.cell? ⟨cb,2,none⟩=some (.string (R.str h1.method)):=z8 HQ.o
   have r3:w2.cell? ⟨cb,3,none⟩=some (.string (R.str h1.target)):=z8 HQ.o
   have r4:w2.cell? ⟨cb,4,none⟩=some vh:=z8 HQ.o
   have r5:w2.cell? ⟨cb,5,none⟩=some (.pointer none):=z8 HQ.o
   have f0:=zrB 0 HQ.o
   have f1:=zrB 1 HQ.o
   have f2:=zrB 2 HQ.o
   have f3:=zrB 3 HQ.o
   have f4:=zrB 4 HQ.o
   have f5:=zrB 5 HQ.o
   go_wp2
   go_ret
   exact⟨by rw[HE.o];rfl,by rw[HE.o];exact ab.o.1,ab.o.2,HX.o⟩
  ·have er:=jJ rf
   rw[decide_eq_false aa] at er
   have HE:Y (ct=(.hd h1,rf)):=by show _=_;rw[HC.o,decide_eq_false aa];rfl
   clear HC
   go_wp2
   go_ret
   exact⟨by rw[HE.o];rfl,by rw[HE.o];exact I1.o,CMv.of_h M1.o I1.o.c5 rfl,fun e=>absurd (Prod.mk.inj e).2 aa⟩
end Go.Proofs.YtfocdefchbnkpaaGreatDoor
