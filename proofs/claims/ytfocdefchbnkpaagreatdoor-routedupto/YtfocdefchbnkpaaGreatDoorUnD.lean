/- Taking packed policies apart, as the program does it: what is in a rule. -/
import Derived.Test.YtfocdefchbnkpaaGreatDoorAli
import Derived.Test.YtfocdefchbnkpaaGreatDoorRqE
import Derived.Test.YtfocdefchbnkpaaGreatDoorProR
set_option maxRecDepth 100000
set_option maxHeartbeats 20000000
namespace Go.Proofs.YtfocdefchbnkpaaGreatDoor
open Go.RowKit
theorem zcV {w:World}{rb B:Nat}{r:List UInt8}(h:UInv w rb B r) :
  Calls Tryz.prog 226 #[.pointer (some ⟨rb,0,none⟩)] w fun e w'=>e = .returned (.string (R.str (jR r).1))/\UInv w' rb B (jR r).2/\w.grownBy w' (some rb):=by
 have HT:Y (jR r=((qL r).1.1,(qL r).2)):=rfl
 have I0:Y (UInv w rb B r):=h
 have G0:Y (w.grownBy w (some rb)):=zM _ _
 clear h
 generalize jR r=res at*
 go_enter Tryz.func226,Tryz.ntmps226
 go_wp2_with fail
 refine(wW I0.o).mono ?_
 rintro e w1 ⟨rfl,i1,g1⟩
 have I1:Y (UInv w1 rb B (qL r).2):=i1
 have G1:=J (zA G0.o g1)
 clear i1 g1 I0 G0
 generalize qL r=p1 at*
 obtain⟨⟨vl,aa⟩,r1⟩:=p1
 simp only at I1 HT
 go_wp2
 go_ret
 rw[HT.o]
 exact⟨rfl,I1.o,G1.o⟩
theorem zi9 {w:World}{rb B:Nat}{r:List UInt8}(h:UInv w rb B r) :
  Calls Tryz.prog 223 #[.pointer (some ⟨rb,0,none⟩)] w fun e w'=>e = .returned (.agg #[.string (R.str (U.mt r).1.name),.bool (U.mt r).1.ask,.string (R.str (U.mt r).1.val)])/\UInv w' rb B (U.mt r).2/\w.grownBy w' (some rb):=by
 have HT:Y (U.mt r=(⟨(zc r).1,(qL (zc r).2).1.2,(qL (zc r).2).1.1⟩,(qL (zc r).2).2)):=rfl
 have ak:=h.low
 have am:=h.top
 have af:some w.heap.size≠some rb:=fun c=>by have:=qk c;omega
 have ab:Y ((w.alloc (.cells #[.string ⟨#[]⟩,.bool false,.string ⟨#[]⟩] 276)).heap[w.heap.size]?=some (.cells #[.string ⟨#[]⟩,.bool false,.string ⟨#[]⟩] 276)):=heap_alloc_new _ _
 have I0:Y (UInv (w.alloc (.cells #[.string ⟨#[]⟩,.bool false,.string ⟨#[]⟩] 276)) rb B r):=h.keep (zJ _ _ _)
 have G0:Y (w.grownBy (w.alloc (.cells #[.string ⟨#[]⟩,.bool false,.string ⟨#[]⟩] 276)) (some rb)):=zJ _ _ _
 clear h
 generalize U.mt r=res at*
 go_enter Tryz.func223,Tryz.ntmps223
 go_wp2_with fail
 refine(yz I0.o).mono ?_
 rintro e w1 ⟨rfl,i1,g1⟩
 have I1:Y (UInv w1 rb B (zc r).2):=i1
 have G1:=J (zA G0.o g1)
 have ad:=J (zB ab.o g1 af)
 clear i1 g1 I0 G0 ab
 generalize zc r=p1 at*
 obtain⟨nm,r1⟩:=p1
 simp only at I1 HT
 go_wp2_with fail
 refine(wW I1.o).mono ?_
 rintro e w2 ⟨rfl,i2,g2⟩
 have I2:Y (UInv w2 rb B (qL r1).2):=i2
 have G2:=J (zA G1.o g2)
 have aa:=J (zB ad.o g2 af)
 clear i2 g2 I1 G1 ad
 generalize qL r1=p2 at*
 obtain⟨⟨vl,ae⟩,r2⟩:=p2
 simp only at I2 HT
 have ag:=zqY aa.o
 have an:=zrB 0 aa.o
 have ah:=zqZ aa.o
 have ao:=zrB 1 aa.o
 have ai:=zr0 aa.o
 have ap:=zrB 2 aa.o
 have al:=G2.o.size
 have hs:=zA (zA (zD w2 w.heap.size 0 (.string (R.str nm))) (zD _ w.heap.size 1 (.bool ae))) (zD _ w.heap.size 2 (.string (R.str vl)))
 go_wp2
 have aj:Y (w2.heap[w.heap.size]?=some (.cells #[.string ⟨#[]⟩,.bool false,.string ⟨#[]⟩] 276)):=aa
 refine bodyPost_ret (v:=.agg #[.string (R.str nm),.bool ae,.string (R.str vl)]) (by simp[results,Tryz.results223,go_sem,ag,ah,ai]) rfl ?_
 rw[HT.o]
 exact⟨rfl,I2.o.far hs (fun k c=>by have:=qk c;omega),zY G2.o hs (zZ _)⟩
theorem zg0 {w:World}{rb B:Nat}{r:List UInt8}(h:UInv w rb B r) :
  Calls Tryz.prog 225 #[.pointer (some ⟨rb,0,none⟩)] w fun e w'=>e = .returned (.agg #[.string (R.str (U.tg r).1.1),.int .i64 (U.tg r).1.2])/\UInv w' rb B (U.tg r).2/\w.grownBy w' (some rb):=by
 have HT:Y (U.tg r=(((zc r).1,(xg (zc r).2).1),(xg (zc r).2).2)):=rfl
 have ai:=h.low
 have ak:=h.top
 have ae:some w.heap.size≠some rb:=fun c=>by have:=qk c;omega
 have ab:Y ((w.alloc (.cells #[.string ⟨#[]⟩,.int .i64 0] 285)).heap[w.heap.size]?=some (.cells #[.string ⟨#[]⟩,.int .i64 0] 285)):=heap_alloc_new _ _
 have I0:Y (UInv (w.alloc (.cells #[.string ⟨#[]⟩,.int .i64 0] 285)) rb B r):=h.keep (zJ _ _ _)
 have G0:Y (w.grownBy (w.alloc (.cells #[.string ⟨#[]⟩,.int .i64 0] 285)) (some rb)):=zJ _ _ _
 clear h
 generalize U.tg r=res at*
 go_enter Tryz.func225,Tryz.ntmps225
 go_wp2_with fail
 refine(yz I0.o).mono ?_
 rintro e w1 ⟨rfl,i1,g1⟩
 have I1:Y (UInv w1 rb B (zc r).2):=i1
 have G1:=J (zA G0.o g1)
 have ad:=J (zB ab.o g1 ae)
 clear i1 g1 I0 G0 ab
 generalize zc r=p1 at*
 obtain⟨nm,r1⟩:=p1
 simp only at I1 HT
 go_wp2_with fail
 refine(zg1 I1.o).mono ?_
 rintro e w2 ⟨rfl,i2,g2⟩
 have I2:Y (UInv w2 rb B (xg r1).2):=i2
 have G2:=J (zA G1.o g2)
 have aa:=J (zB ad.o g2 ae)
 clear i2 g2 I1 G1 ad
 generalize xg r1=p2 at*
 obtain⟨n,r2⟩:=p2
 simp only at I2 HT
 have af:=zqW aa.o
 have al:=zrB 0 aa.o
 have ag:=zqX aa.o
 have am:=zrB 1 aa.o
 have aj:=G2.o.size
 have hs:=zA (zD w2 w.heap.size 0 (.string (R.str nm))) (zD _ w.heap.size 1 (.int .i64 n))
 go_wp2
 have ah:Y (w2.heap[w.heap.size]?=some (.cells #[.string ⟨#[]⟩,.int .i64 0] 285)):=aa
 refine bodyPost_ret (v:=.agg #[.string (R.str nm),.int .i64 n]) (by simp[results,Tryz.results225,go_sem,af,ag]) rfl ?_
 rw[HT.o]
 exact⟨rfl,I2.o.far hs (fun k c=>by have:=qk c;omega),zY G2.o hs (zZ _)⟩
theorem znR {w:World}{rb B:Nat}{r:List UInt8}(h:UInv w rb B r) :
  Calls Tryz.prog 228 #[.pointer (some ⟨rb,0,none⟩)] w fun e w'=>e = .returned (.agg #[.string (R.str (U.st r).1.1),.string (R.str (U.st r).1.2)])/\UInv w' rb B (U.st r).2/\w.grownBy w' (some rb):=by
 have HT:Y (U.st r=(((zc r).1,(zc (zc r).2).1),(zc (zc r).2).2)):=rfl
 have ai:=h.low
 have ak:=h.top
 have ae:some w.heap.size≠some rb:=fun c=>by have:=qk c;omega
 have ab:Y ((w.alloc (.cells #[.string ⟨#[]⟩,.string ⟨#[]⟩] 280)).heap[w.heap.size]?=some (.cells #[.string ⟨#[]⟩,.string ⟨#[]⟩] 280)):=heap_alloc_new _ _
 have I0:Y (UInv (w.alloc (.cells #[.string ⟨#[]⟩,.string ⟨#[]⟩] 280)) rb B r):=h.keep (zJ _ _ _)
 have G0:Y (w.grownBy (w.alloc (.cells #[.string ⟨#[]⟩,.string ⟨#[]⟩] 280)) (some rb)):=zJ _ _ _
 clear h
 generalize U.st r=res at*
 go_enter Tryz.func228,Tryz.ntmps228
 go_wp2_with fail
 refine(yz I0.o).mono ?_
 rintro e w1 ⟨rfl,i1,g1⟩
 have I1:Y (UInv w1 rb B (zc r).2):=i1
 have G1:=J (zA G0.o g1)
 have ad:=J (zB ab.o g1 ae)
 clear i1 g1 I0 G0 ab
 generalize zc r=p1 at*
 obtain⟨nm,r1⟩:=p1
 simp only at I1 HT
 go_wp2_with fail
 refine(yz I1.o).mono ?_
 rintro e w2 ⟨rfl,i2,g2⟩
 have I2:Y (UInv w2 rb B (zc r1).2):=i2
 have G2:=J (zA G1.o g2)
 have aa:=J (zB ad.o g2 ae)
 clear i2 g2 I1 G1 ad
 generalize zc r1=p2 at*
 obtain⟨vl,r2⟩:=p2
 simp only at I2 HT
 have af:=zqW aa.o
 have al:=zrB 0 aa.o
 have ag:=zqX aa.o
 have am:=zrB 1 aa.o
 have aj:=G2.o.size
 have hs:=zA (zD w2 w.heap.size 0 (.string (R.str nm))) (zD _ w.heap.size 1 (.string (R.str vl)))
 go_wp2
 have ah:Y (w2.heap[w.heap.size]?=some (.cells #[.string ⟨#[]⟩,.string ⟨#[]⟩] 280)):=aa
 refine bodyPost_ret (v:=.agg #[.string (R.str nm),.string (R.str vl)]) (by simp[results,Tryz.results228,go_sem,af,ag]) rfl ?_
 rw[HT.o]
 exact⟨rfl,I2.o.far hs (fun k c=>by have:=qk c;omega),zY G2.o hs (zZ _)⟩
theorem uT {α:Type}(f:List UInt8->α×List UInt8):∀(n:Nat) (r:List UInt8),(qC f n r).1.length=n
 | 0,_=>rfl
 | n+1,r=>by unfold qC;simp[uT f n]
theorem yQ {α:Type}(f:List UInt8->α×List UInt8)(r:List UInt8):(zK f r).1.length<=255:=by unfold zK;rw[uT];exact xv r
theorem zl7 {w:World}{rb B:Nat}{r:List UInt8}(h:UInv w rb B r) :
  Calls Tryz.prog 222 #[.pointer (some ⟨rb,0,none⟩),.func (.func 223) #[] #[]] w fun e w'=>∃u,e = .returned u/\UInv w' rb B (zK U.mt r).2/\w.grownBy w' (some rb)/\w'.ownsRow w.heap.size 276 3 u (zK U.mt r).1.length (qY (zK U.mt r).1):=by
 obtain⟨i0,hi,ai,aj,ak⟩:=info_parts zeO
 have hN:=xv r
 have HP:Y (zK U.mt r=qC U.mt (zw r).1 (zw r).2):=rfl
 have H1:Y (Calls Tryz.prog 170 #[.pointer (some ⟨rb,0,none⟩)] w fun e w'=>e = .returned (.int .i64 ((zw r).1:Nat))/\UInv w' rb B (zw r).2/\w.grownBy w' (some rb)):=yo h
 have an:=h.low
 have ah:=h.top
 clear h
 generalize zK U.mt r=res at*
 generalize zw r=p at*
 obtain⟨N,r1⟩:=p
 simp only at hN HP H1
 go_enter Tryz.func222,Tryz.ntmps222
 go_wp2_with fail
 refine H1.o.mono ?_
 rintro e w1 ⟨rfl,i1,g1⟩
 have I1:Y (UInv w1 rb B r1):=i1
 have G1:Y (w.grownBy w1 (some rb)):=g1
 clear i1 g1 H1
 go_wp2_with fail
 go_loopw [5,8] (fun u iv wr=>∃(i:Nat) (aa:List P.Mt) (st:List UInt8),i<=N/\aa.length=i/\iv = .int .i64 i/\Y (res=(aa++(qC U.mt (N - i) st).1,(qC U.mt (N - i) st).2))/\Y (UInv wr rb B st)/\Y (w.grownBy wr (some rb))/\Y (wr.ownsRow w.heap.size 276 3 u aa.length (qY aa))) (fun _ iv _=>N - (intOf iv).toNat)
 case atStart=>exact⟨0,[],r1,zl _,rfl,rfl,by show _=_;rw[HP.o];rfl,I1,G1,xS _ _ _ _⟩
 case round=>
  obtain⟨i,aa,st,am,ag,rfl,HE,IR,GR,HO⟩:=hrel
  clear I1 G1 HP
  by_cases ao:i<N
  ·have al:(i:Int)<N:=by omega
   have ab:Y (res=((aa++[(U.mt st).1])++(qC U.mt (N - (i+1)) (U.mt st).2).1,(qC U.mt (N - (i+1)) (U.mt st).2).2)):=by
    show _=_
    rw[HE.o,show N - i=N - (i+1)+1 by omega,xY];rfl
   have HC:Y (Calls Tryz.prog 223 #[.pointer (some ⟨rb,0,none⟩)] wr fun e w'=>e = .returned (.agg #[.string (R.str (U.mt st).1.name),.bool (U.mt st).1.ask,.string (R.str (U.mt st).1.val)])/\UInv w' rb B (U.mt st).2/\wr.grownBy w' (some rb)):=zi9 IR.o
   clear HE
   generalize U.mt st=fx at*
   obtain⟨x,s2⟩:=fx
   simp only at ab HC
   go_wp2_with fail
   refine HC.o.mono ?_
   rintro e w2 ⟨rfl,i2,g2⟩
   have I2:Y (UInv w2 rb B s2):=i2
   have G2:=J (zA GR.o g2)
   have O2:=J (zO HO.o g2 (fun k hk c=>by have:=qk c;have:=(qh HO.o k hk).1;omega))
   have ap:=G2.o.size
   clear i2 g2 IR GR HO HC
   go_wp2_with (at_builtin;refine wpList_append_own _ rfl _ _ 209 rfl w.heap.size 276 i0 _ 3 40 Tryz.underlying209 hi ai aj ak rfl (by decide) _ _ _ rfl (xX O2.o _) ⟨w2.heap.size,0,none⟩ 1 1 [.string (R.str x.name),.bool x.ask,.string (R.str x.val)] rfl rfl ?c1 ?c2 ?c3 ?c4 ?c5 ?_)
   case c1=>exact qI _ #[_,_,_] _ _ (by simp)
   case c2=>intro u hu;simp at hu;rcases hu with rfl | rfl | rfl <;> rfl
   case c3=>unfold maxLen;omega
   case c4=>omega
   case c5=>simp;omega
   intro v9 w9 af ae _
   have O9:Y (w9.ownsRow w.heap.size 276 3 v9 (aa++[x]).length (qY (aa++[x]))):=by rw[vi,zW,ag];exact af
   have ad:∀k,(u5:Value).ownBlock=some k->w.heap.size<=k:=fun k hk=>(qh O2.o k hk).1
   have I9:Y (UInv w9 rb B s2):=(I2.o.keep (zJ _ _ _)).far ae (fun k hk=>zp ah (ad k hk))
   have G9:Y (w.grownBy w9 (some rb)):=x9 (zA G2.o (zJ _ _ _)) ae ad
   clear af ae ad I2 G2 O2
   go_wp2_with fail
   go_roundw
   case rel=>exact⟨i+1,aa++[x],s2,by omega,by simp;omega,by go_num,ab,I9,G9,O9⟩
   case measure=>simp[intOf];omega
  ·have hE:i=N:=by omega
   subst hE
   rw[Nat.sub_self] at HE
   have ab:Y (res=(aa,st)):=by show _=_;rw[HE.o];simp[qC]
   clear HE
   go_wp2
   go_ret
   rw[ab.o]
   exact⟨_,rfl,IR.o,GR.o,HO.o⟩
theorem zlA {w:World}{rb B:Nat}{r:List UInt8}(h:UInv w rb B r) :
  Calls Tryz.prog 224 #[.pointer (some ⟨rb,0,none⟩),.func (.func 225) #[] #[]] w fun e w'=>∃u,e = .returned u/\UInv w' rb B (zK U.tg r).2/\w.grownBy w' (some rb)/\w'.ownsRow w.heap.size 285 2 u (zK U.tg r).1.length (zi (zK U.tg r).1):=by
 obtain⟨i0,hi,ai,aj,ak⟩:=info_parts zeQ
 have hN:=xv r
 have HP:Y (zK U.tg r=qC U.tg (zw r).1 (zw r).2):=rfl
 have H1:Y (Calls Tryz.prog 170 #[.pointer (some ⟨rb,0,none⟩)] w fun e w'=>e = .returned (.int .i64 ((zw r).1:Nat))/\UInv w' rb B (zw r).2/\w.grownBy w' (some rb)):=yo h
 have an:=h.low
 have ah:=h.top
 clear h
 generalize zK U.tg r=res at*
 generalize zw r=p at*
 obtain⟨N,r1⟩:=p
 simp only at hN HP H1
 go_enter Tryz.func224,Tryz.ntmps224
 go_wp2_with fail
 refine H1.o.mono ?_
 rintro e w1 ⟨rfl,i1,g1⟩
 have I1:Y (UInv w1 rb B r1):=i1
 have G1:Y (w.grownBy w1 (some rb)):=g1
 clear i1 g1 H1
 go_wp2_with fail
 go_loopw [5,8] (fun u iv wr=>∃(i:Nat) (aa:List (List UInt8×Int)) (st:List UInt8),i<=N/\aa.length=i/\iv = .int .i64 i/\Y (res=(aa++(qC U.tg (N - i) st).1,(qC U.tg (N - i) st).2))/\Y (UInv wr rb B st)/\Y (w.grownBy wr (some rb))/\Y (wr.ownsRow w.heap.size 285 2 u aa.length (zi aa))) (fun _ iv _=>N - (intOf iv).toNat)
 case atStart=>exact⟨0,[],r1,zl _,rfl,rfl,by show _=_;rw[HP.o];rfl,I1,G1,xS _ _ _ _⟩
 case round=>
  obtain⟨i,aa,st,am,ag,rfl,HE,IR,GR,HO⟩:=hrel
  clear I1 G1 HP
  by_cases ao:i<N
  ·have al:(i:Int)<N:=by omega
   have ab:Y (res=((aa++[(U.tg st).1])++(qC U.tg (N - (i+1)) (U.tg st).2).1,(qC U.tg (N - (i+1)) (U.tg st).2).2)):=by
    show _=_
    rw[HE.o,show N - i=N - (i+1)+1 by omega,xY];rfl
   have HC:Y (Calls Tryz.prog 225 #[.pointer (some ⟨rb,0,none⟩)] wr fun e w'=>e = .returned (.agg #[.string (R.str (U.tg st).1.1),.int .i64 (U.tg st).1.2])/\UInv w' rb B (U.tg st).2/\wr.grownBy w' (some rb)):=zg0 IR.o
   clear HE
   generalize U.tg st=fx at*
   obtain⟨x,s2⟩:=fx
   simp only at ab HC
   go_wp2_with fail
   refine HC.o.mono ?_
   rintro e w2 ⟨rfl,i2,g2⟩
   have I2:Y (UInv w2 rb B s2):=i2
   have G2:=J (zA GR.o g2)
   have O2:=J (zO HO.o g2 (fun k hk c=>by have:=qk c;have:=(qh HO.o k hk).1;omega))
   have ap:=G2.o.size
   clear i2 g2 IR GR HO HC
   go_wp2_with (at_builtin;refine wpList_append_own _ rfl _ _ 210 rfl w.heap.size 285 i0 _ 2 24 Tryz.underlying210 hi ai aj ak rfl (by decide) _ _ _ rfl (xX O2.o _) ⟨w2.heap.size,0,none⟩ 1 1 [.string (R.str x.1),.int .i64 x.2] rfl rfl ?c1 ?c2 ?c3 ?c4 ?c5 ?_)
   case c1=>exact qI _ #[_,_] _ _ (by simp)
   case c2=>intro u hu;simp at hu;rcases hu with rfl | rfl <;> rfl
   case c3=>unfold maxLen;omega
   case c4=>omega
   case c5=>simp;omega
   intro v9 w9 af ae _
   have O9:Y (w9.ownsRow w.heap.size 285 2 v9 (aa++[x]).length (zi (aa++[x]))):=by rw[ji,zW,ag];exact af
   have ad:∀k,(u5:Value).ownBlock=some k->w.heap.size<=k:=fun k hk=>(qh O2.o k hk).1
   have I9:Y (UInv w9 rb B s2):=(I2.o.keep (zJ _ _ _)).far ae (fun k hk=>zp ah (ad k hk))
   have G9:Y (w.grownBy w9 (some rb)):=x9 (zA G2.o (zJ _ _ _)) ae ad
   clear af ae ad I2 G2 O2
   go_wp2_with fail
   go_roundw
   case rel=>exact⟨i+1,aa++[x],s2,by omega,by simp;omega,by go_num,ab,I9,G9,O9⟩
   case measure=>simp[intOf];omega
  ·have hE:i=N:=by omega
   subst hE
   rw[Nat.sub_self] at HE
   have ab:Y (res=(aa,st)):=by show _=_;rw[HE.o];simp[qC]
   clear HE
   go_wp2
   go_ret
   rw[ab.o]
   exact⟨_,rfl,IR.o,GR.o,HO.o⟩
theorem zl9 {w:World}{rb B:Nat}{r:List UInt8}(h:UInv w rb B r) :
  Calls Tryz.prog 227 #[.pointer (some ⟨rb,0,none⟩),.func (.func 228) #[] #[]] w fun e w'=>∃u,e = .returned u/\UInv w' rb B (zK U.st r).2/\w.grownBy w' (some rb)/\w'.ownsRow w.heap.size 280 2 u (zK U.st r).1.length (zb (zK U.st r).1):=by
 obtain⟨i0,hi,ai,aj,ak⟩:=info_parts zeM
 have hN:=xv r
 have HP:Y (zK U.st r=qC U.st (zw r).1 (zw r).2):=rfl
 have H1:Y (Calls Tryz.prog 170 #[.pointer (some ⟨rb,0,none⟩)] w fun e w'=>e = .returned (.int .i64 ((zw r).1:Nat))/\UInv w' rb B (zw r).2/\w.grownBy w' (some rb)):=yo h
 have an:=h.low
 have ah:=h.top
 clear h
 generalize zK U.st r=res at*
 generalize zw r=p at*
 obtain⟨N,r1⟩:=p
 simp only at hN HP H1
 go_enter Tryz.func227,Tryz.ntmps227
 go_wp2_with fail
 refine H1.o.mono ?_
 rintro e w1 ⟨rfl,i1,g1⟩
 have I1:Y (UInv w1 rb B r1):=i1
 have G1:Y (w.grownBy w1 (some rb)):=g1
 clear i1 g1 H1
 go_wp2_with fail
 go_loopw [5,8] (fun u iv wr=>∃(i:Nat) (aa:List (List UInt8×List UInt8)) (st:List UInt8),i<=N/\aa.length=i/\iv = .int .i64 i/\Y (res=(aa++(qC U.st (N - i) st).1,(qC U.st (N - i) st).2))/\Y (UInv wr rb B st)/\Y (w.grownBy wr (some rb))/\Y (wr.ownsRow w.heap.size 280 2 u aa.length (zb aa))) (fun _ iv _=>N - (intOf iv).toNat)
 case atStart=>exact⟨0,[],r1,zl _,rfl,rfl,by show _=_;rw[HP.o];rfl,I1,G1,xS _ _ _ _⟩
 case round=>
  obtain⟨i,aa,st,am,ag,rfl,HE,IR,GR,HO⟩:=hrel
  clear I1 G1 HP
  by_cases ao:i<N
  ·have al:(i:Int)<N:=by omega
   have ab:Y (res=((aa++[(U.st st).1])++(qC U.st (N - (i+1)) (U.st st).2).1,(qC U.st (N - (i+1)) (U.st st).2).2)):=by
    show _=_
    rw[HE.o,show N - i=N - (i+1)+1 by omega,xY];rfl
   have HC:Y (Calls Tryz.prog 228 #[.pointer (some ⟨rb,0,none⟩)] wr fun e w'=>e = .returned (.agg #[.string (R.str (U.st st).1.1),.string (R.str (U.st st).1.2)])/\UInv w' rb B (U.st st).2/\wr.grownBy w' (some rb)):=znR IR.o
   clear HE
   generalize U.st st=fx at*
   obtain⟨x,s2⟩:=fx
   simp only at ab HC
   go_wp2_with fail
   refine HC.o.mono ?_
   rintro e w2 ⟨rfl,i2,g2⟩
   have I2:Y (UInv w2 rb B s2):=i2
   have G2:=J (zA GR.o g2)
   have O2:=J (zO HO.o g2 (fun k hk c=>by have:=qk c;have:=(qh HO.o k hk).1;omega))
   have ap:=G2.o.size
   clear i2 g2 IR GR HO HC
   go_wp2_with (at_builtin;refine wpList_append_own _ rfl _ _ 211 rfl w.heap.size 280 i0 _ 2 32 Tryz.underlying211 hi ai aj ak rfl (by decide) _ _ _ rfl (xX O2.o _) ⟨w2.heap.size,0,none⟩ 1 1 [.string (R.str x.1),.string (R.str x.2)] rfl rfl ?c1 ?c2 ?c3 ?c4 ?c5 ?_)
   case c1=>exact qI _ #[_,_] _ _ (by simp)
   case c2=>intro u hu;simp at hu;rcases hu with rfl | rfl <;> rfl
   case c3=>unfold maxLen;omega
   case c4=>omega
   case c5=>simp;omega
   intro v9 w9 af ae _
   have O9:Y (w9.ownsRow w.heap.size 280 2 v9 (aa++[x]).length (zb (aa++[x]))):=by rw[xN,zW,ag];exact af
   have ad:∀k,(u5:Value).ownBlock=some k->w.heap.size<=k:=fun k hk=>(qh O2.o k hk).1
   have I9:Y (UInv w9 rb B s2):=(I2.o.keep (zJ _ _ _)).far ae (fun k hk=>zp ah (ad k hk))
   have G9:Y (w.grownBy w9 (some rb)):=x9 (zA G2.o (zJ _ _ _)) ae ad
   clear af ae ad I2 G2 O2
   go_wp2_with fail
   go_roundw
   case rel=>exact⟨i+1,aa++[x],s2,by omega,by simp;omega,by go_num,ab,I9,G9,O9⟩
   case measure=>simp[intOf];omega
  ·have hE:i=N:=by omega
   subst hE
   rw[Nat.sub_self] at HE
   have ab:Y (res=(aa,st)):=by show _=_;rw[HE.o];simp[qC]
   clear HE
   go_wp2
   go_ret
   rw[ab.o]
   exact⟨_,rfl,IR.o,GR.o,HO.o⟩
theorem zl5 {w:World}{rb B:Nat}{r:List UInt8}(h:UInv w rb B r) :
  Calls Tryz.prog 229 #[.pointer (some ⟨rb,0,none⟩),.func (.func 171) #[] #[]] w fun e w'=>∃u,e = .returned u/\UInv w' rb B (zK zc r).2/\w.grownBy w' (some rb)/\w'.ownsRow w.heap.size 9 1 u (zK zc r).1.length (zh (zK zc r).1):=by
 obtain⟨i0,hi,ai,aj,ak⟩:=info_parts fW
 have hN:=xv r
 have HP:Y (zK zc r=qC zc (zw r).1 (zw r).2):=rfl
 have H1:Y (Calls Tryz.prog 170 #[.pointer (some ⟨rb,0,none⟩)] w fun e w'=>e = .returned (.int .i64 ((zw r).1:Nat))/\UInv w' rb B (zw r).2/\w.grownBy w' (some rb)):=yo h
 have an:=h.low
 have ah:=h.top
 clear h
 generalize zK zc r=res at*
 generalize zw r=p at*
 obtain⟨N,r1⟩:=p
 simp only at hN HP H1
 go_enter Tryz.func229,Tryz.ntmps229
 go_wp2_with fail
 refine H1.o.mono ?_
 rintro e w1 ⟨rfl,i1,g1⟩
 have I1:Y (UInv w1 rb B r1):=i1
 have G1:Y (w.grownBy w1 (some rb)):=g1
 clear i1 g1 H1
 go_wp2_with fail
 go_loopw [5,8] (fun u iv wr=>∃(i:Nat) (aa:List (List UInt8)) (st:List UInt8),i<=N/\aa.length=i/\iv = .int .i64 i/\Y (res=(aa++(qC zc (N - i) st).1,(qC zc (N - i) st).2))/\Y (UInv wr rb B st)/\Y (w.grownBy wr (some rb))/\Y (wr.ownsRow w.heap.size 9 1 u aa.length (zh aa))) (fun _ iv _=>N - (intOf iv).toNat)
 case atStart=>exact⟨0,[],r1,zl _,rfl,rfl,by show _=_;rw[HP.o];rfl,I1,G1,xS _ _ _ _⟩
 case round=>
  obtain⟨i,aa,st,am,ag,rfl,HE,IR,GR,HO⟩:=hrel
  clear I1 G1 HP
  by_cases ao:i<N
  ·have al:(i:Int)<N:=by omega
   have ab:Y (res=((aa++[(zc st).1])++(qC zc (N - (i+1)) (zc st).2).1,(qC zc (N - (i+1)) (zc st).2).2)):=by
    show _=_
    rw[HE.o,show N - i=N - (i+1)+1 by omega,xY];rfl
   have HC:Y (Calls Tryz.prog 171 #[.pointer (some ⟨rb,0,none⟩)] wr fun e w'=>e = .returned (.string (R.str (zc st).1))/\UInv w' rb B (zc st).2/\wr.grownBy w' (some rb)):=yz IR.o
   clear HE
   generalize zc st=fx at*
   obtain⟨x,s2⟩:=fx
   simp only at ab HC
   go_wp2_with fail
   refine HC.o.mono ?_
   rintro e w2 ⟨rfl,i2,g2⟩
   have I2:Y (UInv w2 rb B s2):=i2
   have G2:=J (zA GR.o g2)
   have O2:=J (zO HO.o g2 (fun k hk c=>by have:=qk c;have:=(qh HO.o k hk).1;omega))
   have ap:=G2.o.size
   clear i2 g2 IR GR HO HC
   go_wp2_with (at_builtin;refine wpList_append_own _ rfl _ _ 22 rfl w.heap.size 9 i0 _ 1 16 Tryz.underlying22 hi ai aj ak rfl (by decide) _ _ _ rfl (xX O2.o _) ⟨w2.heap.size,0,none⟩ 1 1 [.string (R.str x)] rfl rfl ?c1 ?c2 ?c3 ?c4 ?c5 ?_)
   case c1=>exact qI _ #[_] _ _ (by simp)
   case c2=>intro u hu;simp at hu;subst hu;rfl
   case c3=>unfold maxLen;omega
   case c4=>omega
   case c5=>simp;omega
   intro v9 w9 af ae _
   have O9:Y (w9.ownsRow w.heap.size 9 1 v9 (aa++[x]).length (zh (aa++[x]))):=by rw[jN,zW,ag];exact af
   have ad:∀k,(u5:Value).ownBlock=some k->w.heap.size<=k:=fun k hk=>(qh O2.o k hk).1
   have I9:Y (UInv w9 rb B s2):=(I2.o.keep (zJ _ _ _)).far ae (fun k hk=>zp ah (ad k hk))
   have G9:Y (w.grownBy w9 (some rb)):=x9 (zA G2.o (zJ _ _ _)) ae ad
   clear af ae ad I2 G2 O2
   go_wp2_with fail
   go_roundw
   case rel=>exact⟨i+1,aa++[x],s2,by omega,by simp;omega,by go_num,ab,I9,G9,O9⟩
   case measure=>simp[intOf];omega
  ·have hE:i=N:=by omega
   subst hE
   rw[Nat.sub_self] at HE
   have ab:Y (res=(aa,st)):=by show _=_;rw[HE.o];simp[qC]
   clear HE
   go_wp2
   go_ret
   rw[ab.o]
   exact⟨_,rfl,IR.o,GR.o,HO.o⟩
theorem UInv.safe {w:World}{rb B:Nat}{r:List UInt8}{l:List TypeId}(h:UInv w rb B r)(hn:223 ∉ l):Safe w (some rb) l:=by
 obtain⟨v,h1,_⟩:=h.ex;exact qx h1 hn
theorem zlK {w:World}{rb B:Nat}{r:List UInt8}(h:UInv w rb B r) :
  Calls Tryz.prog 173 #[.pointer (some ⟨rb,0,none⟩)] w fun e w'=>∃cs,e = .returned (.agg cs.toArray)/\PRuleVal w' cs (xC r).1/\UInv w' rb B (xC r).2/\w.grownBy w' (some rb):=by
 have HT:Y (xC r=(⟨(xg r).1,(zc (xg r).2).1,(zK U.mt (zc (xg r).2).2).1,(zK U.tg (zK U.mt (zc (xg r).2).2).2).1,(jR (zK U.tg (zK U.mt (zc (xg r).2).2).2).2).1,(zK U.st (jR (zK U.tg (zK U.mt (zc (xg r).2).2).2).2).2).1,(zK zc (zK U.st (jR (zK U.tg (zK U.mt (zc (xg r).2).2).2).2).2).2).1⟩,(zK zc (zK U.st (jR (zK U.tg (zK U.mt (zc (xg r).2).2).2).2).2).2).2)):=rfl
 have aM:=h.low
 have aO:=h.top
 have ab:some w.heap.size≠some rb:=fun c=>by have:=qk c;omega
 have ar:Y ((w.alloc (.cells #[.int .i64 0,.string ⟨#[]⟩,.slice none 0 0,.slice none 0 0,.string ⟨#[]⟩,.slice none 0 0,.slice none 0 0] 213)).heap[w.heap.size]?=some (.cells #[.int .i64 0,.string ⟨#[]⟩,.slice none 0 0,.slice none 0 0,.string ⟨#[]⟩,.slice none 0 0,.slice none 0 0] 213)):=heap_alloc_new _ _
 have I0:Y (UInv (w.alloc (.cells #[.int .i64 0,.string ⟨#[]⟩,.slice none 0 0,.slice none 0 0,.string ⟨#[]⟩,.slice none 0 0,.slice none 0 0] 213)) rb B r):=h.keep (zJ _ _ _)
 have G0:Y (w.grownBy (w.alloc (.cells #[.int .i64 0,.string ⟨#[]⟩,.slice none 0 0,.slice none 0 0,.string ⟨#[]⟩,.slice none 0 0,.slice none 0 0] 213)) (some rb)):=zJ _ _ _
 clear h
 generalize xC r=res at*
 go_enter Tryz.func173,Tryz.ntmps173
 go_wp2_with fail
 refine(zg1 I0.o).mono ?_
 rintro e w1 ⟨rfl,i1,g1⟩
 have I1:Y (UInv w1 rb B (xg r).2):=i1
 have G1:=J (zA G0.o g1)
 have au:=J (zB ar.o g1 ab)
 clear i1 g1 I0 G0 ar
 generalize xg r=p1 at*
 obtain⟨ah,r1⟩:=p1
 simp only at I1 HT
 go_wp2_with fail
 refine(yz I1.o).mono ?_
 rintro e w2 ⟨rfl,i2,g2⟩
 have I2:Y (UInv w2 rb B (zc r1).2):=i2
 have G2:=J (zA G1.o g2)
 have av:=J (zB au.o g2 ab)
 clear i2 g2 I1 G1 au
 generalize zc r1=p2 at*
 obtain⟨ai,r2⟩:=p2
 simp only at I2 HT
 go_wp2_with fail
 refine(zl7 I2.o).mono ?_
 rintro e w3 ⟨u3,rfl,i3,g3,o3⟩
 have I3:Y (UInv w3 rb B (zK U.mt r2).2):=i3
 have G3:=J (zA G2.o g3)
 have aw:=J (zB av.o g3 ab)
 obtain⟨a3,k3,rfl⟩:=zP o3
 have ad:Y (w3.ownsRow 0 276 3 (.slice a3 (zK U.mt r2).1.length k3) (zK U.mt r2).1.length (qY (zK U.mt r2).1)):=qK o3 (zl _)
 clear i3 g3 o3 I2 G2 av
 generalize zK U.mt r2=p3 at*
 obtain⟨ms,r3⟩:=p3
 simp only at I3 HT ad
 go_wp2_with fail
 refine(zlA I3.o).mono ?_
 rintro e w4 ⟨u4,rfl,i4,g4,o4⟩
 have I4:Y (UInv w4 rb B (zK U.tg r3).2):=i4
 have G4:=J (zA G3.o g4)
 have ax:=J (zB aw.o g4 ab)
 have al:=J (xE ad.o g4 (I3.o.safe (l:=pleaves) (by decide)) (by decide))
 obtain⟨a4,k4,rfl⟩:=zP o4
 have ae:Y (w4.ownsRow 0 285 2 (.slice a4 (zK U.tg r3).1.length k4) (zK U.tg r3).1.length (zi (zK U.tg r3).1)):=qK o4 (zl _)
 clear i4 g4 o4 I3 G3 aw ad
 generalize zK U.tg r3=p4 at*
 obtain⟨tg,r4⟩:=p4
 simp only at I4 HT ae
 go_wp2_with fail
 refine(zcV I4.o).mono ?_
 rintro e w5 ⟨rfl,i5,g5⟩
 have I5:Y (UInv w5 rb B (jR r4).2):=i5
 have G5:=J (zA G4.o g5)
 have ay:=J (zB ax.o g5 ab)
 have am:=J (xE al.o g5 (I4.o.safe (l:=pleaves) (by decide)) (by decide))
 have ao:=J (xE ae.o g5 (I4.o.safe (l:=pleaves) (by decide)) (by decide))
 clear i5 g5 I4 G4 ax al ae
 generalize jR r4=p5 at*
 obtain⟨aj,r5⟩:=p5
 simp only at I5 HT
 go_wp2_with fail
 refine(zl9 I5.o).mono ?_
 rintro e w6 ⟨u6,rfl,i6,g6,o6⟩
 have I6:Y (UInv w6 rb B (zK U.st r5).2):=i6
 have G6:=J (zA G5.o g6)
 have az:=J (zB ay.o g6 ab)
 have an:=J (xE am.o g6 (I5.o.safe (l:=pleaves) (by decide)) (by decide))
 have ap:=J (xE ao.o g6 (I5.o.safe (l:=pleaves) (by decide)) (by decide))
 obtain⟨a6,k6,rfl⟩:=zP o6
 have af:Y (w6.ownsRow 0 280 2 (.slice a6 (zK U.st r5).1.length k6) (zK U.st r5).1.length (zb (zK U.st r5).1)):=qK o6 (zl _)
 clear i6 g6 o6 I5 G5 ay am ao
 generalize zK U.st r5=p6 at*
 obtain⟨ak,r6⟩:=p6
 simp only at I6 HT af
 go_wp2_with fail
 refine(zl5 I6.o).mono ?_
 rintro e w7 ⟨u7,rfl,i7,g7,o7⟩
 have I7:Y (UInv w7 rb B (zK zc r6).2):=i7
 have G7:=J (zA G6.o g7)
 have aa:=J (zB az.o g7 ab)
 have aA:=J (xE an.o g7 (I6.o.safe (l:=pleaves) (by decide)) (by decide))
 have aB:=J (xE ap.o g7 (I6.o.safe (l:=pleaves) (by decide)) (by decide))
 have aC:=J (xE af.o g7 (I6.o.safe (l:=pleaves) (by decide)) (by decide))
 obtain⟨a7,k7,rfl⟩:=zP o7
 have aq:Y (w7.ownsRow 0 9 1 (.slice a7 (zK zc r6).1.length k7) (zK zc r6).1.length (zh (zK zc r6).1)):=qK o7 (zl _)
 clear i7 g7 o7 I6 G6 az an ap af
 generalize zK zc r6=p7 at*
 obtain⟨ag,r7⟩:=p7
 simp only at I7 HT aq
 have aF:=zr4 aa.o
 have aP:=zrB 0 aa.o
 have aG:=zr5 aa.o
 have aQ:=zrB 1 aa.o
 have aH:=zr6 aa.o
 have aR:=zrB 2 aa.o
 have aI:=zr7 aa.o
 have aS:=zrB 3 aa.o
 have aJ:=zr8 aa.o
 have aT:=zrB 4 aa.o
 have aK:=zr9 aa.o
 have aU:=zrB 5 aa.o
 have aL:=zrA aa.o
 have aV:=zrB 6 aa.o
 have aN:=G7.o.size
 have hs:=zA (zA (zA (zA (zA (zA (zD w7 w.heap.size 0 (.int .i64 ah)) (zD _ w.heap.size 1 (.string (R.str ai)))) (zD _ w.heap.size 2 (.slice a3 ms.length k3))) (zD _ w.heap.size 3 (.slice a4 tg.length k4))) (zD _ w.heap.size 4 (.string (R.str aj)))) (zD _ w.heap.size 5 (.slice a6 ak.length k6))) (zD _ w.heap.size 6 (.slice a7 ag.length k7))
 go_wp2
 have aD:Y (w7.heap[w.heap.size]?=some (.cells #[.int .i64 0,.string ⟨#[]⟩,.slice none 0 0,.slice none 0 0,.string ⟨#[]⟩,.slice none 0 0,.slice none 0 0] 213)):=aa
 refine bodyPost_ret (v:=.agg #[.int .i64 ah,.string (R.str ai),.slice a3 ms.length k3,.slice a4 tg.length k4,.string (R.str aj),.slice a6 ak.length k6,.slice a7 ag.length k7]) (by simp[results,Tryz.results173,go_sem,aF,aG,aH,aI,aJ,aK,aL]) rfl ?_
 rw[HT.o]
 have aE:=qx aD.o (l:=pleaves) (by decide)
 exact⟨[.int .i64 ah,.string (R.str ai),.slice a3 ms.length k3,.slice a4 tg.length k4,.string (R.str aj),.slice a6 ak.length k6,.slice a7 ag.length k7],rfl,PRuleVal.keep ⟨_,_,_,_,rfl,aA.o,aB.o,aC.o,aq.o⟩ hs aE,I7.o.far hs (fun k c=>by have:=qk c;omega),zY G7.o hs (zZ _)⟩
theorem zl8 {w:World}{rb B:Nat}{r:List UInt8}(h:UInv w rb B r) :
  Calls Tryz.prog 172 #[.pointer (some ⟨rb,0,none⟩),.func (.func 173) #[] #[]] w fun e w'=>∃u,e = .returned u/\UInv w' rb B (zK xC r).2/\w.grownBy w' (some rb)/\PRulesRow w' w.heap.size u (zK xC r).1:=by
 obtain⟨i0,hi,ao,ap,aq⟩:=info_parts zeP
 have hN:=xv r
 have HP:Y (zK xC r=qC xC (zw r).1 (zw r).2):=rfl
 have H1:Y (Calls Tryz.prog 170 #[.pointer (some ⟨rb,0,none⟩)] w fun e w'=>e = .returned (.int .i64 ((zw r).1:Nat))/\UInv w' rb B (zw r).2/\w.grownBy w' (some rb)):=yo h
 have av:=h.low
 have an:=h.top
 clear h
 generalize zK xC r=res at*
 generalize zw r=p at*
 obtain⟨N,r1⟩:=p
 simp only at hN HP H1
 go_enter Tryz.func172,Tryz.ntmps172
 go_wp2_with fail
 refine H1.o.mono ?_
 rintro e w1 ⟨rfl,i1,g1⟩
 have I1:Y (UInv w1 rb B r1):=i1
 have G1:Y (w.grownBy w1 (some rb)):=g1
 clear i1 g1 H1
 go_wp2_with fail
 go_loopw [5,8] (fun u iv wr=>∃(i:Nat) (aa:List P.Rl) (st:List UInt8) (ab:List (List Value)),i<=N/\aa.length=i/\iv = .int .i64 i/\Y (res=(aa++(qC xC (N - i) st).1,(qC xC (N - i) st).2))/\Y (UInv wr rb B st)/\Y (w.grownBy wr (some rb))/\Y (wr.ownsRow w.heap.size 213 7 u aa.length ab.flatten)/\Y (All2 (PRuleVal wr) ab aa)) (fun _ iv _=>N - (intOf iv).toNat)
 case atStart=>exact⟨0,[],r1,[],zl _,rfl,rfl,by show _=_;rw[HP.o];rfl,I1,G1,xS _ _ _ _,.nil⟩
 case round=>
  obtain⟨i,aa,st,ab,au,am,rfl,HE,IR,GR,HO,HA⟩:=hrel
  clear I1 G1 HP
  by_cases aw:i<N
  ·have ar:(i:Int)<N:=by omega
   have ad:Y (res=((aa++[(xC st).1])++(qC xC (N - (i+1)) (xC st).2).1,(qC xC (N - (i+1)) (xC st).2).2)):=by
    show _=_
    rw[HE.o,show N - i=N - (i+1)+1 by omega,xY];rfl
   have HC:Y (Calls Tryz.prog 173 #[.pointer (some ⟨rb,0,none⟩)] wr fun e w'=>∃cs,e = .returned (.agg cs.toArray)/\PRuleVal w' cs (xC st).1/\UInv w' rb B (xC st).2/\wr.grownBy w' (some rb)):=zlK IR.o
   clear HE
   generalize xC st=fx at*
   obtain⟨x,s2⟩:=fx
   simp only at ad HC
   go_wp2_with fail
   refine HC.o.mono ?_
   rintro e w2 ⟨cs,rfl,ah,i2,g2⟩
   obtain⟨vM,vT,vS,vD,rfl,hM,aj,hS,hD⟩:=id ah
   obtain⟨m1,m2,rfl⟩:=zP hM
   obtain⟨t1,t2,rfl⟩:=zP aj
   obtain⟨x1,x2,rfl⟩:=zP hS
   obtain⟨d1,d2,rfl⟩:=zP hD
   have ai:Y (PRuleVal w2 [.int .i64 x.number,.string (R.str x.path),.slice m1 x.ms.length m2,.slice t1 x.tg.length t2,.string (R.str x.rep),.slice x1 x.sets.length x2,.slice d1 x.drops.length d2] x):=ah
   have I2:Y (UInv w2 rb B s2):=i2
   have G2:=J (zA GR.o g2)
   have ag:=IR.o.safe (l:=213 :: pleaves) (by decide)
   have O2:=J (xE HO.o g2 ag (by simp))
   have A2:Y (All2 (PRuleVal w2) ab aa):=HA.o.map fun a b hab=>hab.keep g2 (jM ag)
   have ax:=G2.o.size
   clear i2 g2 IR GR HO HC ag HA ah hM aj hS hD
   go_wp2_with (at_builtin;refine wpList_append_own _ rfl _ _ 144 rfl w.heap.size 213 i0 _ 7 136 Tryz.underlying144 hi ao ap aq rfl (by decide) _ _ _ rfl (xX O2.o _) ⟨w2.heap.size,0,none⟩ 1 1 [.int .i64 x.number,.string (R.str x.path),.slice m1 x.ms.length m2,.slice t1 x.tg.length t2,.string (R.str x.rep),.slice x1 x.sets.length x2,.slice d1 x.drops.length d2] rfl rfl ?c1 ?c2 ?c3 ?c4 ?c5 ?_)
   case c1=>exact qI _ #[_,_,_,_,_,_,_] _ _ (by simp)
   case c2=>intro u hu;simp only[List.mem_cons,List.mem_nil_iff,or_false] at hu;rcases hu with rfl | rfl | rfl | rfl | rfl | rfl | rfl <;> rfl
   case c3=>unfold maxLen;omega
   case c4=>omega
   case c5=>simp;omega
   intro v9 w9 ak ae _
   have gA:w2.grownBy (w2.alloc (.cells #[.int .i64 x.number,.string (R.str x.path),.slice m1 x.ms.length m2,.slice t1 x.tg.length t2,.string (R.str x.rep),.slice x1 x.sets.length x2,.slice d1 x.drops.length d2] 213)) none:=zJ _ _ _
   have al:Safe (w2.alloc (.cells #[.int .i64 x.number,.string (R.str x.path),.slice m1 x.ms.length m2,.slice t1 x.tg.length t2,.string (R.str x.rep),.slice x1 x.sets.length x2,.slice d1 x.drops.length d2] 213)) (u5:Value).ownBlock pleaves:=wY (xX O2.o _) (by decide)
   have O9:Y (w9.ownsRow w.heap.size 213 7 v9 (aa++[x]).length (ab++([[.int .i64 x.number,.string (R.str x.path),.slice m1 x.ms.length m2,.slice t1 x.tg.length t2,.string (R.str x.rep),.slice x1 x.sets.length x2,.slice d1 x.drops.length d2]]:List (List Value))).flatten):=by rw[zW,jt,am];exact ak
   have A9:Y (All2 (PRuleVal w9) (ab++([[.int .i64 x.number,.string (R.str x.path),.slice m1 x.ms.length m2,.slice t1 x.tg.length t2,.string (R.str x.rep),.slice x1 x.sets.length x2,.slice d1 x.drops.length d2]]:List (List Value))) (aa++[x])):=(A2.o.snoc ai.o).map fun a b hab=>(hab.keep gA (zv _ _)).keep ae al
   have af:∀k,(u5:Value).ownBlock=some k->w.heap.size<=k:=fun k hk=>(qh O2.o k hk).1
   have I9:Y (UInv w9 rb B s2):=(I2.o.keep gA).far ae (fun k hk=>zp an (af k hk))
   have G9:Y (w.grownBy w9 (some rb)):=x9 (zA G2.o (zJ _ _ _)) ae af
   clear ak ae af I2 G2 O2 A2 ai gA al
   go_wp2_with fail
   go_roundw
   case rel=>exact⟨i+1,aa++[x],s2,_,by omega,by simp;omega,by go_num,ad,I9,G9,O9,A9⟩
   case measure=>simp[intOf];omega
  ·have hE:i=N:=by omega
   subst hE
   rw[Nat.sub_self] at HE
   have ad:Y (res=(aa,st)):=by show _=_;rw[HE.o];simp[qC]
   clear HE
   go_wp2
   go_ret
   rw[ad.o]
   exact⟨_,rfl,IR.o,GR.o,ab,HO.o,HA.o⟩
theorem zlI {w:World}{rb B:Nat}{r:List UInt8}(h:UInv w rb B r) :
  Calls Tryz.prog 115 #[.pointer (some ⟨rb,0,none⟩)] w fun e w'=>∃cs,e = .returned (.agg cs.toArray)/\PHostVal w' cs (xQ r).1/\UInv w' rb B (xQ r).2/\w.grownBy w' (some rb):=by
 have HT:Y (xQ r=(⟨(zc r).1,(zK xC (zc r).2).1⟩,(zK xC (zc r).2).2)):=rfl
 have ak:=h.low
 have am:=h.top
 have af:some w.heap.size≠some rb:=fun c=>by have:=qk c;omega
 have ad:Y ((w.alloc (.cells #[.string ⟨#[]⟩,.slice none 0 0] 146)).heap[w.heap.size]?=some (.cells #[.string ⟨#[]⟩,.slice none 0 0] 146)):=heap_alloc_new _ _
 have I0:Y (UInv (w.alloc (.cells #[.string ⟨#[]⟩,.slice none 0 0] 146)) rb B r):=h.keep (zJ _ _ _)
 have G0:Y (w.grownBy (w.alloc (.cells #[.string ⟨#[]⟩,.slice none 0 0] 146)) (some rb)):=zJ _ _ _
 clear h
 generalize xQ r=res at*
 go_enter Tryz.func115,Tryz.ntmps115
 go_wp2_with fail
 refine(yz I0.o).mono ?_
 rintro e w1 ⟨rfl,i1,g1⟩
 have I1:Y (UInv w1 rb B (zc r).2):=i1
 have G1:=J (zA G0.o g1)
 have ae:=J (zB ad.o g1 af)
 clear i1 g1 I0 G0 ad
 generalize zc r=p1 at*
 obtain⟨nm,r1⟩:=p1
 simp only at I1 HT
 go_wp2_with fail
 refine(zl8 I1.o).mono ?_
 rintro e w2 ⟨u2,rfl,i2,g2,o2⟩
 have I2:Y (UInv w2 rb B (zK xC r1).2):=i2
 have G2:=J (zA G1.o g2)
 have aa:=J (zB ae.o g2 af)
 obtain⟨a2,k2,rfl⟩:=vC o2
 have ab:Y (PRulesRow w2 0 (.slice a2 (zK xC r1).1.length k2) (zK xC r1).1):=o2.base (zl _)
 clear i2 g2 o2 I1 G1 ae
 generalize zK xC r1=p2 at*
 obtain⟨rs,r2⟩:=p2
 simp only at I2 HT ab
 have ai:=zqW aa.o
 have an:=zrB 0 aa.o
 have aj:=zqX aa.o
 have ao:=zrB 1 aa.o
 have al:=G2.o.size
 have hs:=zA (zD w2 w.heap.size 0 (.string (R.str nm))) (zD _ w.heap.size 1 (.slice a2 rs.length k2))
 go_wp2
 have ag:Y (w2.heap[w.heap.size]?=some (.cells #[.string ⟨#[]⟩,.slice none 0 0] 146)):=aa
 refine bodyPost_ret (v:=.agg #[.string (R.str nm),.slice a2 rs.length k2]) (by simp[results,Tryz.results115,go_sem,ai,aj]) rfl ?_
 rw[HT.o]
 have ah:=qx ag.o (l:=prtags) (by decide)
 exact⟨[.string (R.str nm),.slice a2 rs.length k2],rfl,PHostVal.keep ⟨_,rfl,ab.o⟩ hs ah,I2.o.far hs (fun k c=>by have:=qk c;omega),zY G2.o hs (zZ _)⟩
theorem zl6 {w:World}{rb B:Nat}{r:List UInt8}(h:UInv w rb B r) :
  Calls Tryz.prog 114 #[.pointer (some ⟨rb,0,none⟩),.func (.func 115) #[] #[]] w fun e w'=>∃u,e = .returned u/\UInv w' rb B (zK xQ r).2/\w.grownBy w' (some rb)/\PHostsRow w' w.heap.size u (zK xQ r).1:=by
 obtain⟨i0,hi,an,ao,ap⟩:=info_parts zeN
 have hN:=xv r
 have HP:Y (zK xQ r=qC xQ (zw r).1 (zw r).2):=rfl
 have H1:Y (Calls Tryz.prog 170 #[.pointer (some ⟨rb,0,none⟩)] w fun e w'=>e = .returned (.int .i64 ((zw r).1:Nat))/\UInv w' rb B (zw r).2/\w.grownBy w' (some rb)):=yo h
 have au:=h.low
 have am:=h.top
 clear h
 generalize zK xQ r=res at*
 generalize zw r=p at*
 obtain⟨N,r1⟩:=p
 simp only at hN HP H1
 go_enter Tryz.func114,Tryz.ntmps114
 go_wp2_with fail
 refine H1.o.mono ?_
 rintro e w1 ⟨rfl,i1,g1⟩
 have I1:Y (UInv w1 rb B r1):=i1
 have G1:Y (w.grownBy w1 (some rb)):=g1
 clear i1 g1 H1
 go_wp2_with fail
 go_loopw [5,8] (fun u iv wr=>∃(i:Nat) (aa:List P.Hst) (st:List UInt8) (ab:List (List Value)),i<=N/\aa.length=i/\iv = .int .i64 i/\Y (res=(aa++(qC xQ (N - i) st).1,(qC xQ (N - i) st).2))/\Y (UInv wr rb B st)/\Y (w.grownBy wr (some rb))/\Y (wr.ownsRow w.heap.size 146 2 u aa.length ab.flatten)/\Y (All2 (PHostVal wr) ab aa)) (fun _ iv _=>N - (intOf iv).toNat)
 case atStart=>exact⟨0,[],r1,[],zl _,rfl,rfl,by show _=_;rw[HP.o];rfl,I1,G1,xS _ _ _ _,.nil⟩
 case round=>
  obtain⟨i,aa,st,ab,ar,al,rfl,HE,IR,GR,HO,HA⟩:=hrel
  clear I1 G1 HP
  by_cases av:i<N
  ·have aq:(i:Int)<N:=by omega
   have ad:Y (res=((aa++[(xQ st).1])++(qC xQ (N - (i+1)) (xQ st).2).1,(qC xQ (N - (i+1)) (xQ st).2).2)):=by
    show _=_
    rw[HE.o,show N - i=N - (i+1)+1 by omega,xY];rfl
   have HC:Y (Calls Tryz.prog 115 #[.pointer (some ⟨rb,0,none⟩)] wr fun e w'=>∃cs,e = .returned (.agg cs.toArray)/\PHostVal w' cs (xQ st).1/\UInv w' rb B (xQ st).2/\wr.grownBy w' (some rb)):=zlI IR.o
   clear HE
   generalize xQ st=fx at*
   obtain⟨x,s2⟩:=fx
   simp only at ad HC
   go_wp2_with fail
   refine HC.o.mono ?_
   rintro e w2 ⟨cs,rfl,ah,i2,g2⟩
   obtain⟨vR,rfl,hR⟩:=id ah
   obtain⟨q1,q2,rfl⟩:=vC hR
   have ai:Y (PHostVal w2 [.string (R.str x.name),.slice q1 x.rules.length q2] x):=ah
   have I2:Y (UInv w2 rb B s2):=i2
   have G2:=J (zA GR.o g2)
   have ag:=IR.o.safe (l:=146 :: prtags) (by decide)
   have O2:=J (xE HO.o g2 ag (by simp))
   have A2:Y (All2 (PHostVal w2) ab aa):=HA.o.map fun a b hab=>hab.keep g2 (jM ag)
   have aw:=G2.o.size
   clear i2 g2 IR GR HO HC ag HA ah hR
   go_wp2_with (at_builtin;refine wpList_append_own _ rfl _ _ 86 rfl w.heap.size 146 i0 _ 2 40 Tryz.underlying86 hi an ao ap rfl (by decide) _ _ _ rfl (xX O2.o _) ⟨w2.heap.size,0,none⟩ 1 1 [.string (R.str x.name),.slice q1 x.rules.length q2] rfl rfl ?c1 ?c2 ?c3 ?c4 ?c5 ?_)
   case c1=>exact qI _ #[_,_] _ _ (by simp)
   case c2=>intro u hu;simp only[List.mem_cons,List.mem_nil_iff,or_false] at hu;rcases hu with rfl | rfl <;> rfl
   case c3=>unfold maxLen;omega
   case c4=>omega
   case c5=>simp;omega
   intro v9 w9 aj ae _
   have gA:w2.grownBy (w2.alloc (.cells #[.string (R.str x.name),.slice q1 x.rules.length q2] 146)) none:=zJ _ _ _
   have ak:Safe (w2.alloc (.cells #[.string (R.str x.name),.slice q1 x.rules.length q2] 146)) (u5:Value).ownBlock prtags:=wY (xX O2.o _) (by decide)
   have O9:Y (w9.ownsRow w.heap.size 146 2 v9 (aa++[x]).length (ab++([[.string (R.str x.name),.slice q1 x.rules.length q2]]:List (List Value))).flatten):=by rw[zW,jt,al];exact aj
   have A9:Y (All2 (PHostVal w9) (ab++([[.string (R.str x.name),.slice q1 x.rules.length q2]]:List (List Value))) (aa++[x])):=(A2.o.snoc ai.o).map fun a b hab=>(hab.keep gA (zv _ _)).keep ae ak
   have af:∀k,(u5:Value).ownBlock=some k->w.heap.size<=k:=fun k hk=>(qh O2.o k hk).1
   have I9:Y (UInv w9 rb B s2):=(I2.o.keep gA).far ae (fun k hk=>zp am (af k hk))
   have G9:Y (w.grownBy w9 (some rb)):=x9 (zA G2.o (zJ _ _ _)) ae af
   clear aj ae af I2 G2 O2 A2 ai gA ak
   go_wp2_with fail
   go_roundw
   case rel=>exact⟨i+1,aa++[x],s2,_,by omega,by simp;omega,by go_num,ad,I9,G9,O9,A9⟩
   case measure=>simp[intOf];omega
  ·have hE:i=N:=by omega
   subst hE
   rw[Nat.sub_self] at HE
   have ad:Y (res=(aa,st)):=by show _=_;rw[HE.o];simp[qC]
   clear HE
   go_wp2
   go_ret
   rw[ad.o]
   exact⟨_,rfl,IR.o,GR.o,ab,HO.o,HA.o⟩
end Go.Proofs.YtfocdefchbnkpaaGreatDoor
