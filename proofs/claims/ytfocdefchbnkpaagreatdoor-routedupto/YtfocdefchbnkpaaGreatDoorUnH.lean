/- What is taken out of bytes is small, in plain Lean. -/
import Derived.Test.YtfocdefchbnkpaaGreatDoorAli
import Derived.Test.YtfocdefchbnkpaaGreatDoorUnD
import Derived.Test.YtfocdefchbnkpaaGreatDoorProZ7
import Derived.Test.YtfocdefchbnkpaaGreatDoorPkG
import Derived.Test.YtfocdefchbnkpaaGreatDoorRdA
import Derived.Test.YtfocdefchbnkpaaGreatDoorRqE
import Derived.Test.YtfocdefchbnkpaaGreatDoorProP
set_option maxRecDepth 100000
set_option maxHeartbeats 20000000
namespace Go.Proofs.YtfocdefchbnkpaaGreatDoor
open Go.RowKit
theorem uS {α:Type}(f:List UInt8->α×List UInt8)(V:α->Prop)(hf:∀s,V (f s).1):∀(n:Nat) (r:List UInt8),∀x∈(qC f n r).1,V x
 | 0,_,x,hx=>by cases hx
 | n+1,r,x,hx=>by
  unfold qC at hx
  rcases List.mem_cons.1 hx with h | h
  ·rw[h];exact hf r
  ·exact uS f V hf n _ x h
theorem yP {α:Type}(f:List UInt8->α×List UInt8)(V:α->Prop)(hf:∀s,V (f s).1)(r:List UInt8):∀x∈(zK f r).1,V x:=uS f V hf _ _
theorem kL (r:List UInt8):(qL r).1.1.length<=255:=by
 unfold qL
 split
 ·simp
 ·exact ya _
structure UBr (r:P.Rl):Prop where
 num:0<=r.number/\r.number<=65535
 path:r.path.length<=255
 ml:r.ms.length<=255
 ms:∀m∈r.ms,m.name.length<=255/\m.val.length<=255
 tl:r.tg.length<=255
 tg:∀t∈r.tg,t.1.length<=255/\0<=t.2/\t.2<=65535
 rep:r.rep.length<=255
 sl:r.sets.length<=255
 sets:∀t∈r.sets,t.1.length<=255/\t.2.length<=255
 dl:r.drops.length<=255
 drops:∀t∈r.drops,t.length<=255
structure UBh (h:P.Hst):Prop where
 name:h.name.length<=255
 rl:h.rules.length<=255
 rules:∀r∈h.rules,UBr r
theorem zbB (r:List UInt8):UBr (xC r).1 where
 num:=zdO r
 path:=ya _
 ml:=yQ _ _
 ms:=yP U.mt _ (fun s=>⟨ya s,kL _⟩) _
 tl:=yQ _ _
 tg:=yP U.tg _ (fun s=>⟨ya s,zdO _⟩) _
 rep:=kL _
 sl:=yQ _ _
 sets:=yP U.st _ (fun s=>⟨ya s,ya _⟩) _
 dl:=yQ _ _
 drops:=yP zc _ (fun s=>ya s) _
theorem zbA (r:List UInt8):UBh (xQ r).1 where
 name:=ya r
 rl:=yQ _ _
 rules:=yP xC _ (fun s=>zbB s) _
theorem vo (b:List UInt8):(xr b).length<=255/\∀h∈xr b,UBh h:=⟨yQ _ _,yP xQ _ (fun s=>zbA s) _⟩
theorem UBr.small {r:P.Rl}(h:UBr r):R.Small (toRl r) where
 num:=⟨h.num.1,by have:=h.num.2;show r.number<=99999;omega⟩
 path:=by have:=h.path;show r.path.length<=3000;omega
 ms:=⟨by have:=h.ml;show(r.ms.map mtOf).length<=4000;simp;omega,fun m hm=>by
  obtain⟨x,hx,rfl⟩:=List.mem_map.1 (show m∈r.ms.map mtOf from hm)
  have:=h.ms x hx
  exact⟨by show x.name.length<=3000;omega,by show x.val.length<=3000;omega⟩⟩
 tg:=⟨by have:=h.tl;show r.tg.length<=4000;omega,fun t ht=>by have:=h.tg t ht;exact⟨by omega,by omega,by omega⟩⟩
 «to»:=by have:=h.rep;show r.rep.length<=3000;omega
 sets:=⟨by have:=h.sl;show r.sets.length<=4000;omega,fun t ht=>by have:=h.sets t ht;exact⟨by omega,by omega⟩⟩
 drops:=⟨by have:=h.dl;show r.drops.length<=4000;omega,fun t ht=>by have:=h.drops t ht;omega⟩
theorem UBh.small {h:P.Hst}(hh:UBh h):R.SmallH (toR h) where
 name:=by have:=hh.name;show h.name.length<=3000;omega
 rules:=⟨by have:=hh.rl;show(h.rules.map toRl).length<=4000;simp;omega,fun m hm=>by
  obtain⟨x,hx,rfl⟩:=List.mem_map.1 (show m∈h.rules.map toRl from hm)
  exact(hh.rules x hx).small⟩
theorem UBr.lines {r:P.Rl}(h:UBr r):(R.lines (toRl r)).length<=1000000:=by
 have e1:(toRl r).ms=r.ms.map mtOf:=rfl
 have e2:(toRl r).tg=r.tg:=rfl
 have e3:(toRl r).sets=r.sets:=rfl
 have e4:(toRl r).drops=r.drops:=rfl
 have e5:(toRl r).number=r.number:=rfl
 have e6:(toRl r).path=r.path:=rfl
 have e7:(toRl r).to=r.rep:=rfl
 have h1:((toRl r).ms.map R.lnMt).flatten.length<=(toRl r).ms.length*600:=R.flat_len _ _ _ (fun m hm=>by
  rw[e1] at hm
  obtain⟨x,hx,rfl⟩:=List.mem_map.1 hm
  have:=h.ms x hx
  unfold R.lnMt mtOf;split <;> simp only[zW,R.q_len,zm,qi] <;> omega)
 have ht:∀t∈r.tg,(R.lnTg t).length<=300:=fun t ht=>by
  have h:=h.tg t ht
  have h5:=R.decI_len t.2 ⟨h.2.1,by omega⟩
  unfold R.lnTg;simp only[zW,R.q_len,zm,qi];omega
 have h2:(R.lnTgs r.tg).length<=r.tg.length*310:=by
  cases hg:r.tg with
  | nil=>simp[R.lnTgs]
  | cons t l=>
   rw[hg] at ht
   have h3:=ht t (by simp)
   have h4:(l.map fun u=>[44,32]++R.lnTg u).flatten.length<=l.length*310:=R.flat_len _ _ _ (fun u hu=>by
    have:=ht u (by simp[hu]);simp only[zW,zm,qi];omega)
   unfold R.lnTgs
   rw[zW,zm,Nat.succ_mul];omega
 have h3:(r.sets.map R.lnSet).flatten.length<=r.sets.length*600:=R.flat_len _ _ _ (fun m hm=>by
  have:=h.sets m hm
  unfold R.lnSet;simp only[zW,R.q_len,zm,qi];omega)
 have h4:(r.drops.map R.lnDrop).flatten.length<=r.drops.length*600:=R.flat_len _ _ _ (fun m hm=>by
  have:=h.drops m hm
  unfold R.lnDrop;simp only[zW,R.q_len,zm,qi];omega)
 have h5:=R.decI_len r.number ⟨h.num.1,by have:=h.num.2;omega⟩
 have h6:=h.path
 have h7:=h.rep
 have h8:(R.lnTo (toRl r)).length<=400:=by
  unfold R.lnTo;rw[e7];split
  ·simp only[zW,R.q_len,zm,qi];omega
  ·simp
 have m1:=h.ml
 have m2:=h.tl
 have m3:=h.sl
 have m4:=h.dl
 rw[e1,qw] at h1
 unfold R.lines R.lnHead
 rw[e1,e2,e3,e4,e5,e6]
 simp only[zW,R.q_len,zm,qi]
 omega
theorem UBh.lines {h:P.Hst}(hh:UBh h):(R.hostLines (toR h)).length<=256000000:=by
 have h1:((toR h).rules.map R.lines).flatten.length<=(toR h).rules.length*1000000:=R.flat_len _ _ _ (fun r hr=>by
  obtain⟨x,hx,rfl⟩:=List.mem_map.1 (show r∈h.rules.map toRl from hr)
  exact(hh.rules x hx).lines)
 have e:(toR h).rules.length=h.rules.length:=by show(h.rules.map toRl).length=_;simp
 have e2:(toR h).name=h.name:=rfl
 have h2:=hh.rl
 have h3:=hh.name
 unfold R.hostLines
 rw[e2]
 simp only[zW,R.q_len,zm,qi]
 omega
theorem zdN (b:List UInt8):((xr b).map fun h=>R.hostLines (toR h)).flatten.length<=70000000000:=by
 have h1:=vo b
 have h:=R.flat_len (fun h:P.Hst=>R.hostLines (toR h)) 256000000 (xr b) (fun x hx=>(h1.2 x hx).lines)
 have:=h1.1
 omega
theorem tn {w:World}{v:Value}{b:List UInt8}(hr:RdO w v b)(hv:∀g o n c,v = .slice (some ⟨g,o,none⟩) n c->g<w.heap.size)(hl:b.length<=140737488355328) :
  Calls Tryz.prog 75 #[v] w fun e w'=>∃a c,e = .returned (.agg #[.slice a (xr b).length c])/\PHostsRow w' 0 (.slice a (xr b).length c) (xr b)/\w.grownBy w' none:=by
 obtain⟨va,vc,rfl,ak⟩:=hr.form
 have af:(w.alloc (.cells #[.slice none 0 0] 88)).heap.size=w.heap.size+1:=by simp
 have ai:((w.alloc (.cells #[.slice none 0 0] 88)).alloc (.cells #[.slice va b.length vc] 223)).heap.size=w.heap.size+1+1:=by simp
 have gA:w.grownBy ((w.alloc (.cells #[.slice none 0 0] 88)).alloc (.cells #[.slice va b.length vc] 223)) none:=zA (zJ _ _ none) (zJ _ _ none)
 have ae:((w.alloc (.cells #[.slice none 0 0] 88)).alloc (.cells #[.slice va b.length vc] 223)).heap[w.heap.size+1]?=some (.cells #[.slice va b.length vc] 223):=by
  have:=heap_alloc_new (w.alloc (.cells #[.slice none 0 0] 88)) (.cells #[.slice va b.length vc] 223)
  rw[af] at this
  exact this
 have ad:Y (((w.alloc (.cells #[.slice none 0 0] 88)).alloc (.cells #[.slice va b.length vc] 223)).heap[w.heap.size]?=some (.cells #[.slice none 0 0] 88)):=zB (heap_alloc_new w (.cells #[.slice none 0 0] 88)) (zJ _ _ none) (by simp)
 have I0:Y (UInv ((w.alloc (.cells #[.slice none 0 0] 88)).alloc (.cells #[.slice va b.length vc] 223)) (w.heap.size+1) (w.heap.size+2) b):=⟨⟨_,ae,hr.keep gA (fun g o n c e c2=>by cases c2),fun g o n c e=>by have:=hv g o n c e;exact⟨by omega,by omega⟩⟩,hl,by omega,by omega⟩
 have HU:Y (xr b=(zK xQ (xt 3 b).2).1):=rfl
 have ab:Y (w.grownBy ((w.alloc (.cells #[.slice none 0 0] 88)).alloc (.cells #[.slice va b.length vc] 223)) none):=gA
 clear hr hv gA ae af ai
 generalize xr b=res at*
 go_enter Tryz.func75,Tryz.ntmps75
 go_wp2_with fail
 refine(fs I0.o 3 (by omega)).mono ?_
 rintro e w1 ⟨a1,k1,rfl,_,i1,g1⟩
 have I1:Y (UInv w1 (w.heap.size+1) (w.heap.size+2) (xt 3 b).2):=i1
 have G1:=J (zY ab.o g1 (by omega))
 have ag:=J (zB ad.o g1 (by simp))
 clear i1 g1 I0 ab ad
 generalize xt 3 b=p at*
 obtain⟨_,r1⟩:=p
 simp only at I1 HU
 go_wp2_with fail
 refine(zl6 I1.o).mono ?_
 rintro e w2 ⟨u2,rfl,i2,g2,o2⟩
 have G2:=J (zY G1.o g2 (by omega))
 have aa:=J (zB ag.o g2 (by simp))
 obtain⟨ah,o3,o4⟩:=o2
 obtain⟨a,c,rfl⟩:=zP o3
 have O2:Y (PHostsRow w2 0 (.slice a (zK xQ r1).1.length c) (zK xQ r1).1):=⟨ah,qK o3 (zl _),o4⟩
 have aj:=zqV aa.o
 have al:=zrB 0 aa.o
 clear i2 g2 I1 G1 o3 o4
 rw[<-HU.o] at O2 ⊢
 have hs:=zD w2 w.heap.size 0 (.slice a res.length c)
 go_wp2
 refine bodyPost_ret (v:=.agg #[.slice a res.length c]) (by simp[results,Tryz.results75,go_sem,aj]) rfl ?_
 exact⟨a,c,rfl,O2.o.keep hs (qx aa.o (by decide)),zY G2.o hs (zZ _)⟩
theorem jB {w:World}{a:Option Addr}{c:Nat}{l:List UInt8}(h:RdO w (.slice a l.length c) l):(convert 32 9 (.slice a l.length c)).run Tryz.prog w = .ok (.string (R.str l)) w:=by
 rcases h with ⟨_,_,e,rfl⟩ | ⟨g,o,c',e,_,_,h3⟩
 ·exact za4 w a c
 ·simp only[qc,true_and] at e
  obtain⟨rfl,rfl⟩:=e
  exact run_convert_bytes_back (P:=Tryz.prog) w 32 9 5 ⟨g,o,none⟩ c l Tryz.underlying32 Tryz.underlying5 Tryz.underlying9 (fun j hj=>by
   rw[jL]
   exact h3 j _ (qN hj))
theorem RdO.of_row {w:World}{B:Nat}{v:Value}{l:List UInt8}(h:w.ownsRow B 5 1 v l.length (Lib.byteCells l)):RdO w v l:=by
 rcases h.2 with ⟨h1,h2⟩ | ⟨g,cap,cur,hv,hB,hb,hle,r⟩
 ·exact Or.inl ⟨none,0,h1,List.length_eq_zero_iff.1 h2⟩
 ·refine Or.inr ⟨g,0,cap,hv,hle,zE hb,fun j u hu=>?_⟩
  subst hv
  have hj:j<l.length:=(List.getElem?_eq_some_iff.1 hu).1
  rw[Nat.zero_add,xd h j (by omega)]
  unfold Lib.byteCells
  rw[List.getElem?_map,hu];rfl
theorem zkQ {w:World}{va vb:Value}{a b:List UInt8}(ha:RdO w va a)(hb:RdO w vb b) :
  Calls Tryz.prog 76 #[va,vb] w fun e w'=>e = .returned (.bool (decide (a=b)))/\w'=w:=by
 obtain⟨aa,ac,rfl,_⟩:=ha.form
 obtain⟨ba,bc,rfl,_⟩:=hb.form
 have h1:=jB ha
 have h2:=jB hb
 clear ha hb
 go_enter Tryz.func76,Tryz.ntmps76
 go_wp2
 go_ret
 refine⟨?_,rfl⟩
 show Ending.returned (Value.bool ((R.str a).toList == (R.str b).toList))=_
 rw[ByteArray.toList_eq,ByteArray.toList_eq,R.str_toList,R.str_toList]
 congr 2
 rw[Bool.eq_iff_iff]
 simp
theorem VHst.pk {x:P.Hst}(h:VHst x):VPk x:=⟨h.nl,h.rl,h.rules⟩
theorem zoW {st:P.St}(h1:st.broken=false)(h2:st.err=0):(xT st).1=0:=by unfold xT;rw[h1,h2];rfl
theorem zaL {w:World}{v:Value}{b:List UInt8}(hr:RdO w v b)(hv:∀g o n c,v = .slice (some ⟨g,o,none⟩) n c->g<w.heap.size)(hl:b.length<=140737488355328)(hG:Glob w)(hT:GT w) :
  Calls Tryz.prog 44 #[v] w fun e w'=>w.grownBy w' none/\((∃hs a c,VHs hs/\qE hs=b/\e = .returned (.tuple #[.agg #[.slice a hs.length c],.bool true])/\PHostsRow w' 0 (.slice a hs.length c) hs)\/((∀hs,VHs hs->qE hs≠b)/\e = .returned (.tuple #[.agg #[.slice none 0 0],.bool false]))):=by
 obtain⟨va,vc,rfl,aV⟩:=hr.form
 have gA:w.grownBy (w.alloc (.cells #[.slice none 0 0] 88)) none:=zJ _ _ none
 have aP:(w.alloc (.cells #[.slice none 0 0] 88)).heap.size=w.heap.size+1:=by simp
 have ap:Y (RdO (w.alloc (.cells #[.slice none 0 0] 88)) (.slice va b.length vc) b):=hr.keep gA (fun g o n c e c2=>by cases c2)
 have aC:Y (Calls Tryz.prog 75 #[.slice va b.length vc] (w.alloc (.cells #[.slice none 0 0] 88)) fun e w'=>∃a c,e = .returned (.agg #[.slice a (xr b).length c])/\PHostsRow w' 0 (.slice a (xr b).length c) (xr b)/\(w.alloc (.cells #[.slice none 0 0] 88)).grownBy w' none):=tn ap.o (fun g o n c e=>by have:=hv g o n c e;omega) hl
 have HG:Y (Glob (w.alloc (.cells #[.slice none 0 0] 88))):=hG.grown gA
 have HT:Y (GT (w.alloc (.cells #[.slice none 0 0] 88))):=hT.grown gA
 have aO:Y ((w.alloc (.cells #[.slice none 0 0] 88)).heap[w.heap.size]?=some (.cells #[.slice none 0 0] 88)):=heap_alloc_new _ _
 have ax:Y (w.grownBy (w.alloc (.cells #[.slice none 0 0] 88)) none):=gA
 have aF:=zdN b
 have aS:=(vo b).1
 have aB:Y (∀h∈xr b,R.SmallH (toR h)):=fun h hh=>((vo b).2 h hh).small
 have az:Y (R.plain ((xr b).map toR)=((xr b).map fun h=>R.hostLines (toR h)).flatten):=wA _
 have ad:Y (∀hs,VHs hs->qE hs=b->(ze (R.plain ((xr b).map toR))).1=hs/\(ze (R.plain ((xr b).map toR))).2.broken=false/\(ze (R.plain ((xr b).map toR))).2.err=0/\∀aa,SrtH hs aa->aa=hs):=fun hs h1 h2=>(zm4 h1 h2).2
 clear hr hv hG hT gA aP
 generalize xr b=us at*
 go_enter Tryz.func44,Tryz.ntmps44
 go_wp2_with fail
 refine aC.o.mono ?_
 rintro e w1 ⟨a1,c1,rfl,aE,g1⟩
 have ay:Y (Calls Tryz.prog 42 #[.agg #[.slice a1 us.length c1]] w1 fun e w'=>e = .returned (.string (R.str (R.plain (us.map toR))))/\w1.grownBy w' none):=kY _ us aE (by omega) (by omega) aB.o (HT.o.grown g1)
 have G1:Y ((w.alloc (.cells #[.slice none 0 0] 88)).grownBy w1 none):=g1
 have aU:(R.plain (us.map toR)).length<=70000000000:=by rw[az.o];exact aF
 clear aE g1 aC aF aB az
 generalize R.plain (us.map toR)=l at*
 go_wp2_with fail
 refine ay.o.mono ?_
 rintro e w2 ⟨rfl,g2⟩
 have G2:=J (zA G1.o g2)
 have au:=zfC (R.str l) w2 (by rw[R.str_size];omega) (HG.o.grown G2.o) (fun h1 h2=>by
  rw[R.str_toList] at h1 h2 ⊢
  obtain⟨q1,q2,_⟩:=uu l h1 h2
  exact⟨by omega,fun h hh=>by have:=(q2 h hh).rl;omega⟩)
 rw[R.str_toList] at au
 have aA:Y (Calls Tryz.prog 67 #[.string (R.str l)] w2 fun e w'=>∃v,e = .returned (.tuple #[.agg #[v],.int .i64 (xT (ze l).2).1,.int .i64 (xT (ze l).2).2])/\w2.grownBy w' none/\
   ((ze l).2.broken=false->(ze l).2.err=0->∃aa,PHostsRow w' 0 v aa/\SrtH (ze l).1 aa)/\∃a n c,v = .slice a n c):=au
 clear au g2 G1 ay
 go_wp2_with fail
 refine aA.o.mono ?_
 rintro e w3 ⟨v3,rfl,g3,aD,a3,n3,c3,rfl⟩
 have am:Y ((ze l).2.broken=false->(ze l).2.err=0->∃aa,PHostsRow w3 0 (.slice a3 n3 c3) aa/\SrtH (ze l).1 aa):=aD
 have G3:=J (zA G2.o g3)
 have ak:Y ((xT (ze l).2).1=0->(ze l).2.broken=false/\(ze l).2.err=0):=fun h=>jp h
 have al:Y ((ze l).2.broken=false->(ze l).2.err=0->(xT (ze l).2).1=0):=fun h1 h2=>zoW h1 h2
 clear aD g3 G2 aA
 generalize(xT (ze l).2).2=at3 at*
 generalize(xT (ze l).2).1=er at*
 have gP:w3.grownBy (w3.alloc (.cells #[.slice a3 n3 c3] 88)) none:=zJ _ _ none
 have ae:Y ((w3.alloc (.cells #[.slice a3 n3 c3] 88)).heap[w3.heap.size]?=some (.cells #[.slice a3 n3 c3] 88)):=heap_alloc_new _ _
 have af:=J (zB (zB aO.o G3.o (by simp)) gP (by simp))
 have G4:=J (zA G3.o gP)
 have aH:=zqV af.o
 have aQ:=zrB 0 af.o
 by_cases ag:er=0
 ·subst ag
  obtain⟨e1,e2⟩:=ak.o rfl
  obtain⟨aa,av,ah⟩:=am.o e1 e2
  obtain⟨k1,k2,k3⟩:=uu l e1 e2
  have ai:=uI ah k1 k2 k3
  have aK:Y (∀hs,VHs hs->qE hs=b->aa=hs):=fun hs h1 h2=>by
   obtain⟨f1,_,_,f4⟩:=ad.o hs h1 h2
   rw[f1] at ah
   exact f4 aa ah
  obtain⟨q1,q2,hq⟩:∃q1 q2,Value.slice a3 n3 c3 = .slice q1 aa.length q2:=by obtain⟨css,h1,_⟩:=av;exact zP h1
  simp only[qc] at hq
  obtain⟨rfl,rfl,rfl⟩:=hq
  have aN:Y (VHs aa):=ai
  have aq:Y (PHostsRow (w3.alloc (.cells #[.slice a3 aa.length c3] 88)) 0 (.slice a3 aa.length c3) aa):=av.keep gP (zv _ _)
  have aj:Y (Calls Tryz.prog 43 #[.agg #[.slice a3 aa.length c3]] (w3.alloc (.cells #[.slice a3 aa.length c3] 88)) (Gives (w3.alloc (.cells #[.slice a3 aa.length c3] 88)) (qE aa))):=zaK _ aa aq.o ai.hl (fun x hx=>(ai.hosts x hx).pk)
  clear av ah k1 k2 k3 ai am ak al ad e1 e2 gP G3
  have aR:=zqV ae.o
  obtain⟨pk,ao⟩:∃pk,Y (pk=qE aa):=⟨_,rfl⟩
  rw[<-ao.o] at aj
  go_wp2_with fail
  refine aj.o.mono ?_
  rintro e w5 ⟨a5,k5,rfl,h5,g5⟩
  have G5:=J (zA (zA ax.o G4.o) g5)
  have aw:Y (Calls Tryz.prog 76 #[.slice a5 pk.length k5,.slice va b.length vc] w5 fun e w'=>e = .returned (.bool (decide (pk=b)))/\w'=w5):=zkQ (RdO.of_row h5) (ap.o.keep (zA G4.o g5) (fun g o n c e c2=>by cases c2))
  have ar:=J (zB af.o g5 (by simp))
  have aL:=J (zB ae.o g5 (by simp))
  have aM:Y (PHostsRow w5 0 (.slice a3 aa.length c3) aa):=aq.o.keep g5 (zv _ _)
  have y0:=zqV ar.o
  have yf:=zrB 0 ar.o
  have yp:=zqV aL.o
  clear h5 g5 aH aQ aR aj aq af ae G4 ap
  go_wp2_with fail
  refine aw.o.mono ?_
  rintro e wE ⟨rfl,aG⟩
  rw[aG]
  clear aG wE aw
  by_cases ab:pk=b
  ·have an:Y (pk=b):=ab
   rw[show decide (pk=b)=true by simp[ab]]
   clear ab
   have hs:=zD w5 w.heap.size 0 (.slice a3 aa.length c3)
   go_wp2
   refine bodyPost_ret (v:=.tuple #[.agg #[.slice a3 aa.length c3],.bool true]) (by simp[results,Tryz.results44,go_sem,y0]) rfl ?_
   exact⟨zY G5.o hs (zZ _),Or.inl ⟨aa,a3,c3,aN.o,ao.o.symm.trans an.o,rfl,aM.o.keep hs (qx ar.o (by decide))⟩⟩
  ·rw[show decide (pk=b)=false by simp[ab]]
   have an:Y (pk≠b):=ab
   clear ab
   have hs:=zD w5 w.heap.size 0 (.slice none 0 0)
   go_wp2
   refine bodyPost_ret (v:=.tuple #[.agg #[.slice none 0 0],.bool false]) (by simp[results,Tryz.results44,go_sem,y0]) rfl ?_
   exact⟨zY G5.o hs (zZ _),Or.inr ⟨fun q h1 h2=>an.o (by rw[<-h2,<-aK.o q h1 h2];exact ao.o),rfl⟩⟩
 ·have aT:¬(er=0):=ag
  have hs:=zD (w3.alloc (.cells #[.slice a3 n3 c3] 88)) w.heap.size 0 (.slice none 0 0)
  have aI:=J (zA ax.o G4.o)
  have aJ:Y (∀hs,VHs hs->qE hs≠b):=fun hs h1 h2=>by
   obtain⟨_,f2,f3,_⟩:=ad.o hs h1 h2
   exact ag (al.o f2 f3)
  clear am ak al ad G3 G4 gP ae ag
  go_wp2
  refine bodyPost_ret (v:=.tuple #[.agg #[.slice none 0 0],.bool false]) (by simp[results,Tryz.results44,go_sem,aH]) rfl ?_
  exact⟨zY aI.o hs (zZ _),Or.inr ⟨aJ.o,rfl⟩⟩
def Rq.look (h:Rq.Head)(l:List UInt8):Rq.Head×Bool×List UInt8:=
 if (Rq.unend l 13).2 then
  if h.method=[] then (Rq.begin h (Rq.unend l 13).1,false,Rq.badUnless (Rq.beginOk (Rq.unend l 13).1))
  else if (Rq.unend l 13).1=[] then (h,true,Rq.badUnless (Rq.has Rq.sHost h.headers))
  else (Rq.add h (Rq.unend l 13).1,false,Rq.addOut h (Rq.unend l 13).1)
 else (h,false,Rq.bad)
theorem zgP (l:List UInt8)(c:UInt8):(Rq.unend l c).1.length<=l.length:=by
 unfold Rq.unend;split
 ·simp only[List.length_take];omega
 ·exact zZ _
theorem HInv.heads {w:World}{cb B:Nat}{wt:Value}{h:Rq.Head}(hI:HInv w cb B wt h):∃vh,w.cell? ⟨cb,4,none⟩=some vh/\w.ownsRow B 346 2 vh h.headers.length (zb h.headers):=by
 obtain⟨vl,vh,h1,h2,h3⟩:=hI.ex
 exact⟨vh,z8 h1,h3⟩
theorem zkR {w:World}{cb B:Nat}{wt:Value}{h:Rq.Head}(hI:HInv w cb B wt h)(l:List UInt8)(hl:l.length<=3000)(hn:h.headers.length<=100000)(hB:B<=w.heap.size)(hG:Glob w)(hE:GE w) :
  Calls Tryz.prog 176 #[.pointer (some ⟨cb,0,none⟩),.string (R.str l)] w fun e w'=>e = .returned (.tuple #[.bool (Rq.look h l).2.1,.string (R.str (Rq.look h l).2.2)])/\HInv w' cb B wt (Rq.look h l).1/\HMv w w' cb:=by
 have HC:=hid (tS l 13 w (by omega))
 have aj:=zgP l 13
 have HK:Y (Rq.look h l=if (Rq.unend l 13).2 then if h.method=[] then (Rq.begin h (Rq.unend l 13).1,false,Rq.badUnless (Rq.beginOk (Rq.unend l 13).1)) else if (Rq.unend l 13).1=[] then (h,true,Rq.badUnless (Rq.has Rq.sHost h.headers)) else (Rq.add h (Rq.unend l 13).1,false,Rq.addOut h (Rq.unend l 13).1) else (h,false,Rq.bad)):=rfl
 have HI:=hid hI
 have ai:=hI.lt
 have ag:Y (∀b W,Calls Tryz.prog 232 #[.bool b] W fun e w'=>e = .returned (.string (R.str (Rq.badUnless b)))/\w'=W):=kP
 generalize Rq.look h l=lk at*
 generalize Rq.unend l 13=u at*
 obtain⟨ln,en⟩:=u
 simp only at HC aj HK
 have af:Y (∀W,w.grownBy W none->Calls Tryz.prog 233 #[.pointer (some ⟨cb,0,none⟩),.string (R.str ln)] W fun e w'=>e = .returned (.bool (Rq.beginOk ln))/\HInv w' cb B wt (Rq.begin h ln)/\HMv w w' cb):=fun W hW=>(zkF (hI.keep hW) ln (by omega) (hG.grown hW)).mono fun e w' ⟨q1,q2,q3⟩=>⟨q1,q2,(HMv.of_grown ai hW).trans q3⟩
 have ae:Y (∀W,w.grownBy W none->Calls Tryz.prog 235 #[.pointer (some ⟨cb,0,none⟩),.string (R.str ln)] W fun e w'=>e = .returned (.string (R.str (Rq.addOut h ln)))/\HInv w' cb B wt (Rq.add h ln)/\HMv w w' cb):=fun W hW=>(zpF (hI.keep hW) ln (by omega) hn (zp hB hW.size) (hG.grown hW) (hE.grown hW)).mono fun e w' ⟨q1,q2,q3⟩=>⟨q1,q2,(HMv.of_grown ai hW).trans q3⟩
 clear hI hG hE
 go_enter Tryz.func176,Tryz.ntmps176
 go_wp2_with fail
 refine HC.o.mono ?_
 rintro e w1 ⟨rfl,g1⟩
 have G1:=hid g1
 clear HC g1
 obtain⟨vl,vh,q1,q2,q3⟩:=(HI.o.keep G1.o).ex
 obtain⟨va,vk,rfl⟩:=zP q3
 have k2:w1.cell? ⟨cb,2,none⟩=some (.string (R.str h.method)):=z8 q1
 have k4:w1.cell? ⟨cb,4,none⟩=some (.slice va h.headers.length vk):=z8 q1
 have ah:Y (Calls Tryz.prog 234 #[.string ⟨#[104,111,115,116]⟩,.slice va h.headers.length vk] w1 fun e w'=>e = .returned (.bool (Rq.has Rq.sHost h.headers))/\w1.grownBy w' none):=zcG Rq.sHost h.headers q3 (by omega)
 have e1:=jJ h.method
 have e2:=jJ ln
 clear q1 q2 q3
 cases en
 ·go_wp2
  go_ret2
  exact⟨by rw[HK.o];rfl,by rw[HK.o];exact HI.o.keep G1.o,HMv.of_grown ai G1.o⟩
 ·by_cases hm:h.method=[]
  ·rw[decide_eq_true hm] at e1
   have aa:Y (lk=(Rq.begin h ln,false,Rq.badUnless (Rq.beginOk ln))):=by show _=_;rw[HK.o,if_pos rfl,if_pos hm]
   clear hm HK
   go_wp2_with fail
   refine(af.o _ G1.o).mono ?_
   rintro e w2 ⟨rfl,i2,m2⟩
   have I2:=hid i2
   have M2:=hid m2
   clear i2 m2 af ae ah k2 k4
   go_wp2_with fail
   refine(ag.o _ _).mono ?_
   rintro e wX ⟨rfl,ad⟩
   rw[ad]
   clear ad wX ag
   go_wp2
   go_ret2
   exact⟨by rw[aa.o];rfl,by rw[aa.o];exact I2.o,M2.o⟩
  ·rw[decide_eq_false hm] at e1
   by_cases ab:ln=[]
   ·rw[decide_eq_true ab] at e2
    have aa:Y (lk=(h,true,Rq.badUnless (Rq.has Rq.sHost h.headers))):=by show _=_;rw[HK.o,if_pos rfl,if_neg hm,if_pos ab]
    clear hm ab HK af ae
    go_wp2_with fail
    refine ah.o.mono ?_
    rintro e w2 ⟨rfl,g2⟩
    have G2:=hid (zA G1.o g2)
    clear g2 ah k2 k4
    go_wp2_with fail
    refine(ag.o _ _).mono ?_
    rintro e wX ⟨rfl,ad⟩
    rw[ad]
    clear ad wX ag
    go_wp2
    go_ret2
    exact⟨by rw[aa.o];rfl,by rw[aa.o];exact HI.o.keep G2.o,HMv.of_grown ai G2.o⟩
   ·rw[decide_eq_false ab] at e2
    have aa:Y (lk=(Rq.add h ln,false,Rq.addOut h ln)):=by show _=_;rw[HK.o,if_pos rfl,if_neg hm,if_neg ab]
    clear hm ab HK af ah
    go_wp2_with fail
    refine(ae.o _ G1.o).mono ?_
    rintro e w2 ⟨rfl,i2,m2⟩
    have I2:=hid i2
    have M2:=hid m2
    clear i2 m2 ae k2 k4
    go_wp2
    go_ret2
    exact⟨by rw[aa.o];rfl,by rw[aa.o];exact I2.o,M2.o⟩
def Rq.take (h:Rq.Head)(c:UInt8):Rq.Head×Bool×List UInt8:=
 if 600<h.size+1 then ({ h with size:=h.size+1 },false,Rq.tooMuch)
 else if c=10 then Rq.look { h with size:=h.size+1,line:=[] } h.line
 else ({ h with size:=h.size+1,line:=h.line++[c] },false,[])
theorem HInv.nil {w:World}{cb B:Nat}{wt:Value}{h:Rq.Head}(hI:HInv w cb B wt h):HInv (w.setCell ⟨cb,1,none⟩ (.slice none 0 0)) cb B wt { h with line:=[] }/\HMv w (w.setCell ⟨cb,1,none⟩ (.slice none 0 0)) cb:=by
 obtain⟨vl,vh,h1,h2,h3⟩:=hI.ex
 have g:=zD w cb 1 (.slice none 0 0)
 exact⟨⟨⟨.slice none 0 0,vh,zF (i:=1) h1 _,xS _ _ _ _,zS h3 g (zV h1 h3 (by decide))⟩,hI.low⟩,HMv.set (z8 h1) (fun k hk=>by cases hk)⟩
theorem zkU {w:World}{cb B:Nat}{wt:Value}{h:Rq.Head}(hI:HInv w cb B wt h)(c:UInt8)(hs:h.size<=600)(hl:h.line.length<=3000)(hn:h.headers.length<=100000)(hB:B<=w.heap.size)(hG:Glob w)(hE:GE w)(ad:cb≠0/\cb≠Tryz.laysC172_ren.g 15) :
  Calls Tryz.prog 121 #[.pointer (some ⟨cb,0,none⟩),.int .u8 c.toNat] w fun e w'=>e = .returned (.tuple #[.bool (Rq.take h c).2.1,.string (R.str (Rq.take h c).2.2)])/\HInv w' cb B wt (Rq.take h c).1/\HMv w w' cb:=by
 obtain⟨i0,hi,aL,aM,aN⟩:=info_parts ja
 have HT:Y (Rq.take h c=if 600<h.size+1 then ({ h with size:=h.size+1 },false,Rq.tooMuch) else if c=10 then Rq.look { h with size:=h.size+1,line:=[] } h.line else ({ h with size:=h.size+1,line:=h.line++[c] },false,[])):=rfl
 have k0:w.cell? ⟨cb,0,none⟩=some (.int .i64 h.size):=by obtain⟨vl,vh,q1,_⟩:=hI.ex;exact z8 q1
 have f0:w.frozen? ⟨cb,0,none⟩=false:=by obtain⟨vl,vh,q1,_⟩:=hI.ex;exact zC q1
 obtain⟨i1,m1⟩:=hI.setn (h.size+1)
 have I1:Y (HInv (w.setCell ⟨cb,0,none⟩ (.int .i64 ((h.size:Int)+1))) cb B wt { h with size:=h.size+1 }):=i1
 have M1:Y (HMv w (w.setCell ⟨cb,0,none⟩ (.int .i64 ((h.size:Int)+1))) cb):=m1
 have gs:=zD w cb 0 (.int .i64 ((h.size:Int)+1))
 have am:Y (Glob (w.setCell ⟨cb,0,none⟩ (.int .i64 ((h.size:Int)+1)))):=hG.keep gs (by simpa using ad.1)
 have ak:Y (GE (w.setCell ⟨cb,0,none⟩ (.int .i64 ((h.size:Int)+1)))):=by
  obtain⟨ev,q1,q2⟩:=hE
  exact⟨ev,gs.cell q1 (by simpa using fun e=>ad.2 e.symm),q2⟩
 have aK:B<=(w.setCell ⟨cb,0,none⟩ (.int .i64 ((h.size:Int)+1))).heap.size:=zp hB gs.size
 clear i1 m1 hI hG hE gs
 generalize Rq.take h c=tk at*
 go_enter Tryz.func121,Tryz.ntmps121
 go_upto_region 2 with fail
 generalize w.setCell ⟨cb,0,none⟩ (.int .i64 ((h.size:Int)+1))=w1 at*
 obtain⟨vl,vh,q1,q2,q3⟩:=I1.o.ex
 obtain⟨la,lk,rfl⟩:=zP q2
 have HQ:Y (w1.heap[cb]?=some (.cells #[.int .i64 ((h.size:Int)+1),.slice la h.line.length lk,.string (R.str h.method),.string (R.str h.target),vh,wt] 106 (0,0))):=q1
 have af:Y (w1.ownsRow B 5 1 (.slice la h.line.length lk) h.line.length (Lib.byteCells h.line)):=q2
 have ao:Y (w1.ownsRow B 346 2 vh h.headers.length (zb h.headers)):=q3
 clear k0 f0 q1 q2 q3
 have k0:=zr1 HQ.o
 have k1:=zr2 HQ.o
 have f1:=zrB 1 HQ.o
 have aI:=zE HQ.o
 by_cases au:600<h.size+1
 ·have aH:(600:Int)<h.size+1:=by omega
  rw[if_pos au] at HT
  go_wp2
  go_ret2
  exact⟨by rw[HT.o];rfl,by rw[HT.o];exact I1.o,M1.o⟩
 ·have aH:¬(600:Int)<h.size+1:=by omega
  rw[if_neg au] at HT
  by_cases hc:c=10
  ·subst hc
   rw[if_pos rfl] at HT
   obtain⟨i2,m2⟩:=I1.o.nil
   have I2:Y (HInv (w1.setCell ⟨cb,1,none⟩ (.slice none 0 0)) cb B wt { h with size:=h.size+1,line:=[] }):=i2
   have M2:=hid (M1.o.trans m2)
   have gs:=zD w1 cb 1 (.slice none 0 0)
   have cv:(convert 32 9 (.slice la h.line.length lk)).run Tryz.prog w1 = .ok (.string (R.str h.line)) w1:=jB (RdO.of_row af.o)
   have an:Y (Glob (w1.setCell ⟨cb,1,none⟩ (.slice none 0 0))):=am.o.keep gs (by simpa using ad.1)
   have al:Y (GE (w1.setCell ⟨cb,1,none⟩ (.slice none 0 0))):=by
    obtain⟨ev,q1,q2⟩:=ak.o
    exact⟨ev,gs.cell q1 (by simpa using fun e=>ad.2 e.symm),q2⟩
   have ap:=hid (zkR I2.o h.line hl hn (zp aK gs.size) an.o al.o)
   clear i2 m2 gs am ak an al af ao I2
   go_wp2_with fail
   refine ap.o.mono ?_
   rintro e w3 ⟨rfl,i3,m3⟩
   have I3:=hid i3
   have M3:=hid (M2.o.trans m3)
   clear i3 m3 ap M2
   go_wp2
   go_ret2
   exact⟨by rw[HT.o];rfl,by rw[HT.o];exact I3.o,M3.o⟩
  ·rw[if_neg hc] at HT
   have aP:¬c.toNat=10:=fun e=>hc (UInt8.toNat_inj.1 (by rw[e];rfl))
   have aO:¬((c.toNat:Int)=10):=by omega
   have gX:=hid (zJ w1 (.cells #[.int .u8 c.toNat] 5) none)
   have ag:=J (zO af.o gX.o (fun k hk c=>by cases c))
   have aD:Y (∀j u,([.int .u8 c.toNat]:List Value)[j]?=some u->(w1.alloc (.cells #[.int .u8 c.toNat] 5)).cell? ((⟨w1.heap.size,0,none⟩:Addr).add j)=some u):=qI w1 #[_] _ _ rfl
   have ay:Y (∀u∈([.int .u8 c.toNat]:List Value),u.oneCell'=true):=fun u hu=>by simp at hu;subst hu;rfl
   have aC:Y (h.line.length+1<=maxLen):=by show _<=_;unfold maxLen;omega
   have aG:Y ((h.line.length+1)*1<=140737488355328):=by show _<=_;omega
   have ah:Y ((w1.alloc (.cells #[.int .u8 c.toNat] 5)).heap.size=w1.heap.size+1):=by show _=_;simp
   have az:Y (B<=(w1.alloc (.cells #[.int .u8 c.toNat] 5)).heap.size):=by show _<=_;rw[ah.o];omega
   have ab:=hid (zB HQ.o gX.o (by simp))
   have ae:=hid (zV ab.o ag.o (by decide))
   have kX:(w1.alloc (.cells #[.int .u8 c.toNat] 5)).cell? ⟨cb,1,none⟩=some (.slice la h.line.length lk):=z8 ab.o
   have aJ:=zE ab.o
   have aA:Y (∀g9 aa w9,w9.ownsRow B 5 1 (.slice (some ⟨g9,0,none⟩) (h.line.length+1) aa) (h.line.length+1) (Lib.byteCells h.line++[.int .u8 c.toNat])->(w1.alloc (.cells #[.int .u8 c.toNat] 5)).grownBy w9 (Value.slice la h.line.length lk).ownBlock->((Value.slice la h.line.length lk).ownBlock=some g9\/g9=w1.heap.size+1)->HInv (w9.setCell ⟨cb,1,none⟩ (.slice (some ⟨g9,0,none⟩) (h.line.length+1) aa)) cb B wt { h with size:=h.size+1,line:=h.line++[c] }/\HMv w (w9.setCell ⟨cb,1,none⟩ (.slice (some ⟨g9,0,none⟩) (h.line.length+1) aa)) cb):=fun g9 aa w9 ho hg hat=>by
    have ai:=qM ab.o hg ae.o
    have gs:=zD w9 cb 1 (.slice (some ⟨g9,0,none⟩) (h.line.length+1) aa)
    have aw:=zO ao.o gX.o (fun k hk c=>by cases c)
    have av:=zO aw hg (xW ag.o aw (by decide))
    refine⟨⟨⟨.slice (some ⟨g9,0,none⟩) (h.line.length+1) aa,vh,zF (i:=1) ai _,?_,zS av gs (zV ai av (by decide))⟩,I1.o.low⟩,?_⟩
    ·have:=zS ho gs (zV ai ho (by decide))
     simp only[zW,zm,qi,Lib.byteCells_append]
     exact this
    ·exact(M1.o.trans (HMv.of_grown aI gX.o)).trans (HMv.append kX aJ hg ae.o (by rcases hat with h | h;exact Or.inl h;exact Or.inr (by rw[h,ah.o])))
   go_wp2_with (at_builtin;refine wpList_append_lies _ rfl (.tmp 25) (.tmp 27) 32 rfl B 5 i0 _ 1 1 Tryz.underlying32 hi aL aM aN rfl (by decide) _ _ _ rfl ag.o ⟨w1.heap.size,0,none⟩ 1 1 [.int .u8 c.toNat] rfl rfl aD.o ay.o (by decide) aC.o aG.o az.o (w1.heap.size+1) ah.o ?_)
   intro g9 aa w9 ax aj ar _
   have aE:=hid ax
   have aB:=hid aj
   have aF:=hid ar
   have aq:=hid (qM ab.o aj ae.o)
   have q9:w9.cell? ⟨cb,1,none⟩=some (.slice la h.line.length lk):=z8 aq.o
   have f9:=zrB 1 aq.o
   clear ax aj ar
   go_wp2
   go_ret2
   exact⟨by rw[HT.o];rfl,by rw[HT.o];exact aA.o _ _ _ aE.o aB.o aF.o⟩
def Rq.body (h:Rq.Head):Int:=Rq.num (Rq.value Rq.sCl h.headers)
def Rq.host (h:Rq.Head):List UInt8:=R.lower (Lib.cut (Rq.value Rq.sHost h.headers) [58]).1
def Rq.path (h:Rq.Head):List UInt8:=(Lib.cut h.target [63]).1
theorem zfA {w:World}{cb B:Nat}{wt:Value}{h:Rq.Head}(hI:HInv w cb B wt h)(hn:h.headers.length<=100000)(hv:Rq.value Rq.sCl h.headers=[]\/Rq.isNumber (Rq.value Rq.sCl h.headers)=true)(hE:GE w) :
  Calls Tryz.prog 122 #[.pointer (some ⟨cb,0,none⟩)] w fun e w'=>e = .returned (.int .i64 (Rq.body h))/\w.grownBy w' none:=by
 obtain⟨vh,k4,hr⟩:=hI.heads
 obtain⟨va,vk,rfl⟩:=zP hr
 have HV:Y (Calls Tryz.prog 178 #[.string ⟨#[99,111,110,116,101,110,116,45,108,101,110,103,116,104]⟩,.slice va h.headers.length vk] w fun e w'=>e = .returned (.string (R.str (Rq.value Rq.sCl h.headers)))/\w.grownBy w' none):=fp Rq.sCl h.headers hr (by omega)
 have HN:Y (∀W,w.grownBy W none->Calls Tryz.prog 177 #[.string (R.str (Rq.value Rq.sCl h.headers))] W fun e w'=>e = .returned (.int .i64 (Rq.num (Rq.value Rq.sCl h.headers)))/\w.grownBy w' none):=fun W hW=>(ke _ W hv (hE.grown hW)).mono fun e w' ⟨q1,q2⟩=>⟨q1,zA hW q2⟩
 have HB:Y (Rq.body h=Rq.num (Rq.value Rq.sCl h.headers)):=rfl
 generalize Rq.value Rq.sCl h.headers=vv at*
 clear hI hr hv hE
 go_enter Tryz.func122,Tryz.ntmps122
 go_wp2_with fail
 refine HV.o.mono ?_
 rintro e w1 ⟨rfl,g1⟩
 have G1:=hid g1
 clear g1 HV
 go_wp2_with fail
 refine(HN.o _ G1.o).mono ?_
 rintro e w2 ⟨rfl,g2⟩
 have G2:=hid g2
 clear g2 HN G1
 go_wp2
 go_ret
 exact⟨by rw[HB.o];rfl,G2.o⟩
theorem znA {w:World}{cb B:Nat}{wt:Value}{h:Rq.Head}(hI:HInv w cb B wt h)(hn:h.headers.length<=100000)(hv:(Rq.value Rq.sHost h.headers).length<=3000) :
  Calls Tryz.prog 180 #[.pointer (some ⟨cb,0,none⟩)] w fun e w'=>e = .returned (.string (R.str (Rq.host h)))/\w.grownBy w' none:=by
 obtain⟨vh,k4,hr⟩:=hI.heads
 obtain⟨va,vk,rfl⟩:=zP hr
 have HV:Y (Calls Tryz.prog 178 #[.string ⟨#[104,111,115,116]⟩,.slice va h.headers.length vk] w fun e w'=>e = .returned (.string (R.str (Rq.value Rq.sHost h.headers)))/\w.grownBy w' none):=fp Rq.sHost h.headers hr (by omega)
 have HC:Y (∀W,Calls Tryz.prog 238 #[.string (R.str (Rq.value Rq.sHost h.headers)),.string ⟨#[58]⟩] W fun e w'=>e = .returned (.tuple #[.string (R.str (Lib.cut (Rq.value Rq.sHost h.headers) [58]).1),.string (R.str (Lib.cut (Rq.value Rq.sHost h.headers) [58]).2.1),.bool (Lib.cut (Rq.value Rq.sHost h.headers) [58]).2.2])/\W.grownBy w' none):=fun W=>vz _ 58 W (by omega)
 have aa:=jW (Rq.value Rq.sHost h.headers) 58
 have HB:Y (Rq.host h=R.lower (Lib.cut (Rq.value Rq.sHost h.headers) [58]).1):=rfl
 generalize Rq.value Rq.sHost h.headers=vv at*
 generalize Lib.cut vv [58]=x at*
 obtain⟨nm,pt,hp⟩:=x
 simp only at HC HB aa
 have HS:Y (∀W,Calls Tryz.prog 239 #[.string (R.str nm)] W fun e w'=>e = .returned (.string (R.str (R.lower nm)))/\W.grownBy w' none):=fun W=>by
  have h:=jc (R.str nm) W (by have:(R.str nm).size=nm.length:=R.str_size nm;omega)
  rw[R.str_toList] at h;exact h
 clear hI hr hv
 go_enter Tryz.func180,Tryz.ntmps180
 go_wp2_with fail
 refine HV.o.mono ?_
 rintro e w1 ⟨rfl,g1⟩
 have G1:=hid g1
 clear g1 HV
 go_wp2_with fail
 refine(HC.o _).mono ?_
 rintro e w2 ⟨rfl,g2⟩
 have G2:=hid (zA G1.o g2)
 clear g2 HC G1
 go_wp2_with fail
 refine(HS.o _).mono ?_
 rintro e w3 ⟨rfl,g3⟩
 have G3:=hid (zA G2.o g3)
 clear g3 HS G2
 go_wp2
 go_ret
 exact⟨by rw[HB.o];rfl,G3.o⟩
theorem znC {w:World}{cb B:Nat}{wt:Value}{h:Rq.Head}(hI:HInv w cb B wt h)(hv:h.target.length<=3000) :
  Calls Tryz.prog 241 #[.pointer (some ⟨cb,0,none⟩)] w fun e w'=>e = .returned (.string (R.str (Rq.path h)))/\w.grownBy w' none:=by
 have k3:w.cell? ⟨cb,3,none⟩=some (.string (R.str h.target)):=by obtain⟨vl,vh,q1,_⟩:=hI.ex;exact z8 q1
 have HC:=hid (vz h.target 63 w (by omega))
 have HB:Y (Rq.path h=(Lib.cut h.target [63]).1):=rfl
 generalize Lib.cut h.target [63]=x at*
 clear hI hv
 go_enter Tryz.func241,Tryz.ntmps241
 go_wp2_with fail
 refine HC.o.mono ?_
 rintro e w1 ⟨rfl,g1⟩
 have G1:=hid g1
 clear g1 HC
 go_wp2
 go_ret
 exact⟨by rw[HB.o];rfl,G1.o⟩
def Rq.fits (m:P.Mt)(x:Hd):Bool:=!m.ask || decide (x.2=m.val)
def Rq.meets1 (m:P.Mt)(l:List Hd):Bool:=l.any (Rq.fits m)
theorem zl1 (m:P.Mt)(l:List Hd){w:World}{B:Nat}{v:Value}(hr:w.ownsRow B 346 2 v l.length (zb l))(hn:l.length<=1000000) :
  Calls Tryz.prog 311 #[.agg #[.string (R.str m.name),.bool m.ask,.string (R.str m.val)],v] w fun e w'=>e = .returned (.bool (Rq.meets1 m l))/\w.grownBy w' none:=by
 obtain⟨va,vk,rfl⟩:=zP hr
 have GA:=hid (zJ w (.cells #[.string (R.str m.name),.bool m.ask,.string (R.str m.val)] 276) none)
 have HB:=hid (heap_alloc_new w (.cells #[.string (R.str m.name),.bool m.ask,.string (R.str m.val)] 276))
 have HR:=hid (zO hr GA.o (fun k hk c=>by cases c))
 have HM:Y (Rq.meets1 m l=(l.drop 0).any (Rq.fits m)):=rfl
 clear hr
 generalize Rq.meets1 m l=res at*
 go_enter Tryz.func311,Tryz.ntmps311
 go_upto_region 1 with fail
 generalize w.alloc (.cells #[.string (R.str m.name),.bool m.ask,.string (R.str m.val)] 276)=wa at*
 go_wp2_with fail
 go_loopw [9] (fun iv wr=>∃i:Nat,i<=l.length/\iv = .int .i64 i/\Y (wa.grownBy wr none)/\Y (res=(l.drop i).any (Rq.fits m))) (fun iv _=>l.length - (intOf iv).toNat)
 case atStart=>exact⟨0,zl _,rfl,zM _ _,HM⟩
 case round=>
  obtain⟨i,ah,rfl,HG,aa⟩:=hrel
  clear HM
  by_cases ad:i<l.length
  ·have ag:(i:Int)<l.length:=by omega
   obtain⟨g,gc,e1,_,_⟩:=World.ownsRow.form HR.o (by omega)
   simp only[qc,true_and] at e1
   obtain⟨rfl,rfl⟩:=e1
   have d0:wr.cell? ⟨g,i*2,none⟩=some (.string (R.str l[i].1)):=qO (fun t:Hd=>[Value.string (R.str t.1),.string (R.str t.2)]) 2 (fun _=>rfl) HR.o HG.o i 0 ad (by omega) rfl
   have d1:wr.cell? ⟨g,i*2+1,none⟩=some (.string (R.str l[i].2)):=qO (fun t:Hd=>[Value.string (R.str t.1),.string (R.str t.2)]) 2 (fun _=>rfl) HR.o HG.o i 1 ad (by omega) rfl
   rw[List.drop_eq_getElem_cons ad,List.any_cons] at aa
   generalize l[i]=x at*
   have HF:Y (Rq.fits m x=(!m.ask || decide (x.2=m.val))):=rfl
   have gX:=hid (zJ wr (.cells #[.string (R.str x.1),.string (R.str x.2)] 346) none)
   have HX:=hid (heap_alloc_new wr (.cells #[.string (R.str x.1),.string (R.str x.2)] 346))
   have ab:=hid (zB HB.o (zA HG.o gX.o) (by simp))
   go_upto_region 4 with fail
   generalize wr.alloc (.cells #[.string (R.str x.1),.string (R.str x.2)] 346)=wx at*
   have x1:wx.cell? ⟨wr.heap.size,1,none⟩=some (.string (R.str x.2)):=z8 HX.o
   have b1:wx.cell? ⟨w.heap.size,1,none⟩=some (.bool m.ask):=z8 ab.o
   have b2:wx.cell? ⟨w.heap.size,2,none⟩=some (.string (R.str m.val)):=z8 ab.o
   have ev:=wl x.2 m.val
   have G2:=hid (zA HG.o gX.o)
   clear d0 d1 HG gX HX ab
   generalize decide (x.2=m.val)=bv at*
   obtain⟨ba,ae⟩:∃ba,Y (m.ask=ba):=⟨_,hid rfl⟩
   rw[ae.o] at b1 HF
   clear ae
   cases ba
   ·go_wp2
    go_ret
    exact⟨za (by rw[aa.o,HF.o];rfl),zA GA.o G2.o⟩
   ·cases bv
    ·have af:Y (res=(l.drop (i+1)).any (Rq.fits m)):=by show _=_;rw[aa.o,HF.o];rfl
     go_wp2_with fail
     go_roundw
     case rel=>exact⟨i+1,by omega,by go_num,G2,af⟩
     case measure=>simp[intOf];omega
    ·go_wp2
     go_ret
     exact⟨za (by rw[aa.o,HF.o];rfl),zA GA.o G2.o⟩
  ·have hE:i=l.length:=by omega
   subst hE
   rw[List.drop_length] at aa
   go_wp2
   go_ret
   exact⟨za (by rw[aa.o];rfl),zA GA.o HG.o⟩
def Rq.ask1 (l:List Hd)(m:P.Mt):Bool:=Rq.meets1 m (Rq.named m.name l)
def Rq.meets (ms:List P.Mt)(l:List Hd):Bool:=ms.all (Rq.ask1 l)
theorem zmU (nm:List UInt8)(l:List Hd):(Rq.named nm l).length<=l.length:=List.length_filter_le _ _
theorem zkE {w:World}{cb B Bm:Nat}{wt v:Value}{h:Rq.Head}(hI:HInv w cb B wt h)(ms:List P.Mt)(hr:w.ownsRow Bm 276 3 v ms.length (qY ms))(hm:ms.length<=1000000)(hn:h.headers.length<=100000) :
  Calls Tryz.prog 243 #[.pointer (some ⟨cb,0,none⟩),v] w fun e w'=>e = .returned (.bool (Rq.meets ms h.headers))/\w.grownBy w' none:=by
 obtain⟨va,vk,rfl⟩:=zP hr
 have HR:=hid hr
 have HI:=hid hI
 have HM:Y (Rq.meets ms h.headers=(ms.drop 0).all (Rq.ask1 h.headers)):=rfl
 clear hr hI
 generalize Rq.meets ms h.headers=res at*
 go_enter Tryz.func243,Tryz.ntmps243
 go_wp2_with fail
 go_loopw [9] (fun iv wr=>∃i:Nat,i<=ms.length/\iv = .int .i64 i/\Y (w.grownBy wr none)/\Y (res=(ms.drop i).all (Rq.ask1 h.headers))) (fun iv _=>ms.length - (intOf iv).toNat)
 case atStart=>exact⟨0,zl _,rfl,zM _ _,HM⟩
 case round=>
  obtain⟨i,ag,rfl,HG,aa⟩:=hrel
  clear HM
  by_cases ab:i<ms.length
  ·have af:(i:Int)<ms.length:=by omega
   obtain⟨g,gc,e1,_,_⟩:=World.ownsRow.form HR.o (by omega)
   simp only[qc,true_and] at e1
   obtain⟨rfl,rfl⟩:=e1
   have d0:wr.cell? ⟨g,i*3,none⟩=some (.string (R.str ms[i].name)):=qO P.Mt.cells 3 (fun _=>rfl) HR.o HG.o i 0 ab (by omega) rfl
   have d1:wr.cell? ⟨g,i*3+1,none⟩=some (.bool ms[i].ask):=qO P.Mt.cells 3 (fun _=>rfl) HR.o HG.o i 1 ab (by omega) rfl
   have d2:wr.cell? ⟨g,i*3+2,none⟩=some (.string (R.str ms[i].val)):=qO P.Mt.cells 3 (fun _=>rfl) HR.o HG.o i 2 ab (by omega) rfl
   rw[List.drop_eq_getElem_cons ab,List.all_cons] at aa
   generalize ms[i]=m at*
   have gX:=hid (zJ wr (.cells #[.string (R.str m.name),.bool m.ask,.string (R.str m.val)] 276) none)
   have HX:=hid (heap_alloc_new wr (.cells #[.string (R.str m.name),.bool m.ask,.string (R.str m.val)] 276))
   have G2:=hid (zA HG.o gX.o)
   go_upto_region 4 with fail
   generalize wr.alloc (.cells #[.string (R.str m.name),.bool m.ask,.string (R.str m.val)] 276)=wx at*
   clear d0 d1 d2 HG gX
   obtain⟨vh,k4,hh⟩:=(HI.o.keep G2.o).heads
   obtain⟨ha,hk,rfl⟩:=zP hh
   have HH:=hid hh
   have x0:wx.cell? ⟨wr.heap.size,0,none⟩=some (.string (R.str m.name)):=z8 HX.o
   have x1:wx.cell? ⟨wr.heap.size,1,none⟩=some (.bool m.ask):=z8 HX.o
   have x2:wx.cell? ⟨wr.heap.size,2,none⟩=some (.string (R.str m.val)):=z8 HX.o
   have HN:=hid (uH m.name h.headers (zO HH.o (zQ wx) (fun k hk c=>by cases c)) (by omega))
   have HP:Y (∀wN a k,Rw wx.drew wN 346 2 a k (Rq.named m.name h.headers).length (zb (Rq.named m.name h.headers))->Calls Tryz.prog 311 #[.agg #[.string (R.str m.name),.bool m.ask,.string (R.str m.val)],.slice a (Rq.named m.name h.headers).length k] wN fun e w'=>e = .returned (.bool (Rq.ask1 h.headers m))/\wx.grownBy w' none):=fun wN a k hw=>(zl1 m _ hw.own (by have:=zmU m.name h.headers;omega)).mono fun e w' ⟨q1,q2⟩=>⟨q1,zA (zA (zQ wx) hw.gr) q2⟩
   clear hh HH
   generalize Rq.named m.name h.headers=nl at*
   generalize Rq.ask1 h.headers m=bb at*
   go_cut [22] (fun bv wz=>bv = .bool (!bb)/\Y (wx.grownBy wz none))
   case first=>
    go_region_law (first | (go_simp;go_at_call 237;refine HN.o.mono ?_;rintro e wN ⟨a,k,rfl,hN⟩;have RN:=hid hN;have GN:=hid (zA (zQ wx) hN.gr);have ad:=hid (zB HX.o GN.o (by simp));have y0:wN.cell? ⟨wr.heap.size,0,none⟩=some (.string (R.str m.name)):=z8 ad.o;have y1:wN.cell? ⟨wr.heap.size,1,none⟩=some (.bool m.ask):=z8 ad.o;have y2:wN.cell? ⟨wr.heap.size,2,none⟩=some (.string (R.str m.val)):=z8 ad.o;clear hN) | (go_simp;go_at_call 311;refine(HP.o _ _ _ RN.o).mono ?_;rintro e wM ⟨rfl,gM⟩;have GM:=hid gM;clear gM))
    all_goals
     go_wp2_with fail
     go_meet
     case rel=>exact⟨rfl,GM⟩
   case rest=>
    obtain⟨rfl,G3⟩:=hcut
    generalize wc=w3 at*
    have G4:=hid (zA G2.o G3.o)
    clear G2 G3 HN HP x0 x1 x2 k4 HX
    cases bb
    ·go_wp2
     go_ret
     exact⟨za (by rw[aa.o];rfl),G4.o⟩
    ·have ae:Y (res=(ms.drop (i+1)).all (Rq.ask1 h.headers)):=by show _=_;rw[aa.o];rfl
     go_wp2_with fail
     go_roundw
     case rel=>exact⟨i+1,by omega,by go_num,G4,ae⟩
     case measure=>simp[intOf];omega
  ·have hE:i=ms.length:=by omega
   subst hE
   rw[List.drop_length] at aa
   go_wp2
   go_ret
   exact⟨za (by rw[aa.o];rfl),HG.o⟩
end Go.Proofs.YtfocdefchbnkpaaGreatDoor
