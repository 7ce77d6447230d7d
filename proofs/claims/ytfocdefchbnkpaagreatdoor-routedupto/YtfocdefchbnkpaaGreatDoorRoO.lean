/- Routes, as the program finds them: the rule that counts for a head. -/
import Derived.Test.YtfocdefchbnkpaaGreatDoorAli
import Derived.Test.YtfocdefchbnkpaaGreatDoorRoJ
import Derived.Test.YtfocdefchbnkpaaGreatDoorUnH
set_option maxRecDepth 100000
set_option maxHeartbeats 20000000
namespace Go.Proofs.YtfocdefchbnkpaaGreatDoor
open Go.RowKit
def Tr.firstRule (rs:List P.Rl)(hd:List Hd):List Nat->Option P.Rl
 | []=>none
 | i :: t=>
  match rs[i]? with
  | none=>Tr.firstRule rs hd t
  | some r=>if Rq.meets r.ms hd=true then some r else Tr.firstRule rs hd t
def Tr.ruleOf (h:P.Hst)(path:List UInt8)(hd:List Hd):Option P.Rl:=Tr.firstRule h.rules hd (Tr.isort (Tr.run (Tr.prog (h.rules.map (·.path))) path))
theorem Tr.mach_all {p:List Tr.Ins}{path:List UInt8}{Q:Nat->Prop}(hp:∀x∈p,x.kind=0->Q x.rule)(f:Nat):∀a h aa,(∀k∈aa,Q k)->∀k∈Tr.mach p path f a h aa,Q k:=by
 induction f with
 | zero=>intro a h aa ha;exact ha
 | succ f ih=>
  intro a h aa ha
  rw[Tr.mach]
  split
  ·exact ha
  ·rename_i x hx
   split
   ·rename_i hk
    refine ih _ _ _ (fun k hk2=>?_)
    rcases List.mem_append.1 hk2 with q | q
    ·exact ha k q
    ·simp at q;subst q;exact hp x (List.mem_of_getElem? hx) hk
   ·split
    ·exact ih _ _ _ ha
    ·exact ih _ _ _ ha
theorem Fit.small {h:P.Hst}(hf:Fit h)(path:List UInt8):∀k∈Tr.isort (Tr.run (Tr.prog (h.rules.map (·.path))) path),k<h.rules.length:=fun k hk=>by
 refine Tr.mach_all (Q:=fun k=>k<h.rules.length) (fun x hx hk=>?_) _ _ _ _ (fun k hk=>by simp at hk) k ((Tr.isort_perm _).mem_iff.1 hk)
 have:=List.all_eq_true.1 hf.notes x hx
 simp only[Bool.or_eq_true,decide_eq_true_eq] at this
 rcases this with q | q
 ·exact absurd hk q
 ·exact q
theorem Tr.mach_len {p:List Tr.Ins}{path:List UInt8}(f:Nat):∀a h aa,(Tr.mach p path f a h aa).length<=aa.length+f:=by
 induction f with
 | zero=>intro a h aa;exact zZ _
 | succ f ih=>
  intro a h aa
  rw[Tr.mach]
  split
  ·omega
  ·split
   ·refine zp (ih _ _ _) ?_
    rw[zW];show aa.length+1+f<=_;omega
   ·split
    ·exact zp (ih _ _ _) (by omega)
    ·exact zp (ih _ _ _) (by omega)
theorem Tr.run_len (p:List Tr.Ins)(path:List UInt8):(Tr.run p path).length<=p.length:=by have:=Tr.mach_len (p:=p) (path:=path) p.length 0 0 [];simpa[Tr.run] using this
theorem vJ {w W:World}{b:Nat}{u0 u1 u2 u3 u4 u5 u6:Value}(h:w.grownBy W none)(hb:w.heap.size<=b):w.grownBy (((((((W.setCell ⟨b,0,none⟩ u0).setCell ⟨b,1,none⟩ u1).setCell ⟨b,2,none⟩ u2).setCell ⟨b,3,none⟩ u3).setCell ⟨b,4,none⟩ u4).setCell ⟨b,5,none⟩ u5).setCell ⟨b,6,none⟩ u6) none:=zY (zY (zY (zY (zY (zY (zY h (zD _ _ _ _) hb) (zD _ _ _ _) hb) (zD _ _ _ _) hb) (zD _ _ _ _) hb) (zD _ _ _ _) hb) (zD _ _ _ _) hb) (zD _ _ _ _) hb
theorem vO {W:World}{b:Nat}{c0 c1 c2 c3 c4 c5 c6 u0 u1 u2 u3 u4 u5 u6:Value}{t:TypeId}{f:Nat×Nat}(h:W.heap[b]?=some (.cells #[c0,c1,c2,c3,c4,c5,c6] t f)):(((((((W.setCell ⟨b,0,none⟩ u0).setCell ⟨b,1,none⟩ u1).setCell ⟨b,2,none⟩ u2).setCell ⟨b,3,none⟩ u3).setCell ⟨b,4,none⟩ u4).setCell ⟨b,5,none⟩ u5).setCell ⟨b,6,none⟩ u6).heap[b]?=some (.cells #[u0,u1,u2,u3,u4,u5,u6] t f):=by
 have h0:(W.setCell ⟨b,0,none⟩ u0).heap[b]?=some (.cells #[u0,c1,c2,c3,c4,c5,c6] t f):=zF (i:=0) h u0
 have h1:((W.setCell ⟨b,0,none⟩ u0).setCell ⟨b,1,none⟩ u1).heap[b]?=some (.cells #[u0,u1,c2,c3,c4,c5,c6] t f):=zF (i:=1) h0 u1
 have h2:(((W.setCell ⟨b,0,none⟩ u0).setCell ⟨b,1,none⟩ u1).setCell ⟨b,2,none⟩ u2).heap[b]?=some (.cells #[u0,u1,u2,c3,c4,c5,c6] t f):=zF (i:=2) h1 u2
 have h3:((((W.setCell ⟨b,0,none⟩ u0).setCell ⟨b,1,none⟩ u1).setCell ⟨b,2,none⟩ u2).setCell ⟨b,3,none⟩ u3).heap[b]?=some (.cells #[u0,u1,u2,u3,c4,c5,c6] t f):=zF (i:=3) h2 u3
 have h4:(((((W.setCell ⟨b,0,none⟩ u0).setCell ⟨b,1,none⟩ u1).setCell ⟨b,2,none⟩ u2).setCell ⟨b,3,none⟩ u3).setCell ⟨b,4,none⟩ u4).heap[b]?=some (.cells #[u0,u1,u2,u3,u4,c5,c6] t f):=zF (i:=4) h3 u4
 have h5:((((((W.setCell ⟨b,0,none⟩ u0).setCell ⟨b,1,none⟩ u1).setCell ⟨b,2,none⟩ u2).setCell ⟨b,3,none⟩ u3).setCell ⟨b,4,none⟩ u4).setCell ⟨b,5,none⟩ u5).heap[b]?=some (.cells #[u0,u1,u2,u3,u4,u5,c6] t f):=zF (i:=5) h4 u5
 have h6:(((((((W.setCell ⟨b,0,none⟩ u0).setCell ⟨b,1,none⟩ u1).setCell ⟨b,2,none⟩ u2).setCell ⟨b,3,none⟩ u3).setCell ⟨b,4,none⟩ u4).setCell ⟨b,5,none⟩ u5).setCell ⟨b,6,none⟩ u6).heap[b]?=some (.cells #[u0,u1,u2,u3,u4,u5,u6] t f):=zF (i:=6) h5 u6
 exact h6
theorem PRuleVal.set7 {W:World}{b:Nat}{cs:List Value}{r:P.Rl}{u0 u1 u2 u3 u4 u5 u6:Value}{c:Array Value}{f:Nat×Nat}(h:PRuleVal W cs r)(hb:W.heap[b]?=some (.cells c 213 f)):PRuleVal (((((((W.setCell ⟨b,0,none⟩ u0).setCell ⟨b,1,none⟩ u1).setCell ⟨b,2,none⟩ u2).setCell ⟨b,3,none⟩ u3).setCell ⟨b,4,none⟩ u4).setCell ⟨b,5,none⟩ u5).setCell ⟨b,6,none⟩ u6) cs r:=by
 have q0:=h.keep (zD W b 0 u0) (qx hb (by decide))
 have b0:=zF (i:=0) hb u0
 have q1:=q0.keep (zD _ b 1 u1) (qx b0 (by decide))
 have b1:=zF (i:=1) b0 u1
 have q2:=q1.keep (zD _ b 2 u2) (qx b1 (by decide))
 have b2:=zF (i:=2) b1 u2
 have q3:=q2.keep (zD _ b 3 u3) (qx b2 (by decide))
 have b3:=zF (i:=3) b2 u3
 have q4:=q3.keep (zD _ b 4 u4) (qx b3 (by decide))
 have b4:=zF (i:=4) b3 u4
 have q5:=q4.keep (zD _ b 5 u5) (qx b4 (by decide))
 have b5:=zF (i:=5) b4 u5
 exact q5.keep (zD _ b 6 u6) (qx b5 (by decide))
theorem zkT {w:World}{cb B:Nat}{wt v:Value}{hd:Rq.Head}{x:P.Hst}(hI:HInv w cb B wt hd)(hv:HostV w v x)(hf:Fit x)(ht:hd.target.length<=3000)(hn:hd.headers.length<=100000)(aL:∀r∈x.rules,r.ms.length<=1000) :
  Calls Tryz.prog 181 #[v,.pointer (some ⟨cb,0,none⟩)] w fun e w'=>w.grownBy w' none/\((Tr.ruleOf x (Rq.path hd) hd.headers=none/\e = .returned (.tuple #[.agg #[.int .i64 0,.string ⟨#[]⟩,.slice none 0 0,.slice none 0 0,.string ⟨#[]⟩,.slice none 0 0,.slice none 0 0],.bool false]))\/∃r cs,Tr.ruleOf x (Rq.path hd) hd.headers=some r/\PRuleVal w' cs r/\e = .returned (.tuple #[.agg cs.toArray,.bool true])):=by
 obtain⟨ra,rk,pa,pk,rfl,hr,hp⟩:=hv
 obtain⟨aQ,aM,aG⟩:=hr
 have al:=hid aM
 have ao:=hid aG
 have az:(Tr.prog (x.rules.map (·.path))).length<=10000000:=by rw[Tr.prog_len];exact hf.flat
 have aw:=hid (hf.small (Rq.path hd))
 have aT:=hf.few
 have aY:(Tr.run (Tr.prog (x.rules.map (·.path))) (Rq.path hd)).length<=10000000:=zp (Tr.run_len _ _) az
 have au:=hid aL
 have aX:(Rq.path hd).length<=3000:=zp (jW hd.target 63).1 ht
 have aB:Y (∀W,w.grownBy W none->Calls Tryz.prog 241 #[.pointer (some ⟨cb,0,none⟩)] W fun e w'=>e = .returned (.string (R.str (Rq.path hd)))/\W.grownBy w' none):=fun W hW=>znC (hI.keep hW) ht
 have aD:Y (∀W,w.grownBy W none->Calls Tryz.prog 240 #[.slice pa (Tr.prog (x.rules.map (·.path))).length pk,.string (R.str (Rq.path hd))] W fun e w'=>∃a k,e = .returned (.slice a (Tr.run (Tr.prog (x.rules.map (·.path))) (Rq.path hd)).length k)/\Y (Rw W w' 3 1 a k (Tr.run (Tr.prog (x.rules.map (·.path))) (Rq.path hd)).length (Tr.ruCells (Tr.run (Tr.prog (x.rules.map (·.path))) (Rq.path hd))))):=fun W hW=>by
  have hc:=znP (zO hp hW (fun k hk c=>by cases c)) (Tr.fwd_ok hf.fwd) az (R.str (Rq.path hd)) (by rw[R.str_size];omega)
  rw[R.str_toList] at hc;exact hc
 have aE:Y (∀W0 W a k,Rw W0 W 3 1 a k (Tr.run (Tr.prog (x.rules.map (·.path))) (Rq.path hd)).length (Tr.ruCells (Tr.run (Tr.prog (x.rules.map (·.path))) (Rq.path hd)))->Calls Tryz.prog 242 #[.slice a (Tr.run (Tr.prog (x.rules.map (·.path))) (Rq.path hd)).length k] W fun e w'=>e = .returned (.tuple #[])/\Y (Rw W0 w' 3 1 a k (Tr.run (Tr.prog (x.rules.map (·.path))) (Rq.path hd)).length (Tr.ruCells (Tr.isort (Tr.run (Tr.prog (x.rules.map (·.path))) (Rq.path hd)))))):=fun W0 W a k h=>zlC h (by omega)
 have av:Y (∀W (r:P.Rl) ma mk,w.grownBy W none->r.ms.length<=1000->W.ownsRow 0 276 3 (.slice ma r.ms.length mk) r.ms.length (qY r.ms)->Calls Tryz.prog 243 #[.pointer (some ⟨cb,0,none⟩),.slice ma r.ms.length mk] W fun e w'=>e = .returned (.bool (Rq.meets r.ms hd.headers))/\W.grownBy w' none):=fun W r ma mk hW hl ho=>zkE (hI.keep hW) r.ms ho (by omega) hn
 have HL:=hid (Tr.isort_len (Tr.run (Tr.prog (x.rules.map (·.path))) (Rq.path hd)))
 have HE:Y (Tr.ruleOf x (Rq.path hd) hd.headers=Tr.firstRule x.rules hd.headers (Tr.isort (Tr.run (Tr.prog (x.rules.map (·.path))) (Rq.path hd)))):=rfl
 clear hI aM aG hp hf aL ht
 generalize Tr.ruleOf x (Rq.path hd) hd.headers=res at*
 generalize Tr.run (Tr.prog (x.rules.map (·.path))) (Rq.path hd)=rn at*
 generalize Tr.prog (x.rules.map (·.path))=pg at*
 generalize Tr.isort rn=so at*
 generalize Rq.path hd=pth at*
 have GB:=hid (zA (zJ w (.cells #[.slice ra x.rules.length rk,.slice pa pg.length pk] 161) none) (zJ (w.alloc (.cells #[.slice ra x.rules.length rk,.slice pa pg.length pk] 161)) (.cells #[.int .i64 0,.string ⟨#[]⟩,.slice none 0 0,.slice none 0 0,.string ⟨#[]⟩,.slice none 0 0,.slice none 0 0] 213) none))
 have ah:=hid (zB (heap_alloc_new w (.cells #[.slice ra x.rules.length rk,.slice pa pg.length pk] 161)) (zJ (w.alloc (.cells #[.slice ra x.rules.length rk,.slice pa pg.length pk] 161)) (.cells #[.int .i64 0,.string ⟨#[]⟩,.slice none 0 0,.slice none 0 0,.string ⟨#[]⟩,.slice none 0 0,.slice none 0 0] 213) none) (by simp))
 have aj:Y (((w.alloc (.cells #[.slice ra x.rules.length rk,.slice pa pg.length pk] 161)).alloc (.cells #[.int .i64 0,.string ⟨#[]⟩,.slice none 0 0,.slice none 0 0,.string ⟨#[]⟩,.slice none 0 0,.slice none 0 0] 213)).heap[w.heap.size+1]?=some (.cells #[.int .i64 0,.string ⟨#[]⟩,.slice none 0 0,.slice none 0 0,.string ⟨#[]⟩,.slice none 0 0,.slice none 0 0] 213 (0,0))):=by
  have:=heap_alloc_new (w.alloc (.cells #[.slice ra x.rules.length rk,.slice pa pg.length pk] 161)) (.cells #[.int .i64 0,.string ⟨#[]⟩,.slice none 0 0,.slice none 0 0,.string ⟨#[]⟩,.slice none 0 0,.slice none 0 0] 213)
  have e:(w.alloc (.cells #[.slice ra x.rules.length rk,.slice pa pg.length pk] 161)).heap.size=w.heap.size+1:=by simp
  rw[e] at this;exact this
 go_enter Tryz.func181,Tryz.ntmps181
 go_upto_region 1 with fail
 generalize((w.alloc (.cells #[.slice ra x.rules.length rk,.slice pa pg.length pk] 161)).alloc (.cells #[.int .i64 0,.string ⟨#[]⟩,.slice none 0 0,.slice none 0 0,.string ⟨#[]⟩,.slice none 0 0,.slice none 0 0] 213))=wb at*
 have b1:wb.cell? ⟨w.heap.size,1,none⟩=some (.slice pa pg.length pk):=z8 ah.o
 go_cut [6] (fun pv wz=>∃a k,pv = .slice a rn.length k/\Y (wb.grownBy wz none)/\Y (Rw wb wz 3 1 a k rn.length (Tr.ruCells rn)))
 case first=>
  go_region_law (first | (go_simp;go_at_call 241;refine(aB.o _ (zA GB.o (zQ wb))).mono ?_;rintro e wP ⟨rfl,gP⟩;have GP:=hid (zA (zQ wb) gP);have p1:wP.cell? ⟨w.heap.size,1,none⟩=some (.slice pa pg.length pk):=z8 (zB ah.o GP.o (by simp));clear gP) | (go_simp;go_at_call 240;refine(aD.o _ (zA GB.o GP.o)).mono ?_;rintro e wR ⟨a,k,rfl,RR⟩))
  all_goals
   go_wp2_with fail
   go_meet
   case rel=>exact⟨a,k,rfl,zA GP.o RR.o.gr,⟨qK RR.o.own GP.o.size,zA GP.o RR.o.gr⟩⟩
 case rest=>
  obtain⟨a,k,rfl,G2,R2⟩:=hcut
  clear aB aD b1
  have HC:=hid (aE.o wb wc a k R2.o)
  clear aE R2 G2
  go_wp2_with fail
  refine HC.o.mono ?_
  rintro e w3 ⟨rfl,R3⟩
  clear HC
  have HZ:Y (wb.grownBy w3 none):=R3.o.gr
  have aA:Y (res=Tr.firstRule x.rules hd.headers (so.drop 0)):=HE.o
  clear HE
  go_wp2_with fail
  go_loopw [19] (fun iv wr=>∃j:Nat,j<=rn.length/\iv = .int .i64 j/\Y (Rw wb wr 3 1 a k rn.length (Tr.ruCells so))/\Y (res=Tr.firstRule x.rules hd.headers (so.drop j))) (fun iv _=>rn.length - (intOf iv).toNat)
  case atStart=>exact⟨0,zl _,rfl,R3,aA⟩
  case round=>
   obtain⟨j,aV,rfl,HW,HD⟩:=hrel
   clear HZ aA R3
   by_cases aJ:j<rn.length
   ·have aU:(j:Int)<rn.length:=by omega
    obtain⟨g,gc,e1,_,_⟩:=World.ownsRow.form HW.o.own (by omega)
    simp only[qc,true_and] at e1
    obtain⟨rfl,rfl⟩:=e1
    have an:j<so.length:=by rw[HL.o];exact aJ
    have c0:wr.cell? ⟨g,j,none⟩=some (.int .i64 (so[j]:Int)):=by
     rw[xd HW.o.own j (by omega)]
     unfold Tr.ruCells
     rw[List.getElem?_map,qN an];rfl
    have am:=aw.o so[j] (List.getElem_mem an)
    have aI:so.drop j=so[j] :: so.drop (j+1):=List.drop_eq_getElem_cons an
    rw[aI] at HD
    clear aI
    generalize so[j]=pl at*
    have aW:(pl:Int)<x.rules.length:=by omega
    obtain⟨cs,aS,ay⟩:=ku ao.o pl am
    obtain⟨g2,aZ,e2,_,_⟩:=World.ownsRow.form al.o (by omega)
    simp only[qc,true_and] at e2
    obtain⟨rfl,rfl⟩:=e2
    have gw:=zA GB.o HW.o.gr
    obtain⟨vM,vT,vS,vD,aH,m1,m2,m3,m4⟩:=aS
    obtain⟨ma,mk,rfl⟩:=zP m1
    obtain⟨ta,tk,rfl⟩:=zP m2
    obtain⟨sa,sk,rfl⟩:=zP m3
    obtain⟨da,dk,rfl⟩:=zP m4
    have af:∀i,i<7->wr.cell? ⟨g2,pl*7+i,none⟩=cs[i]?:=fun i hi=>by
     have hx:∃u,aQ.flatten[pl*7+i]?=some u:=by
      rw[ay i hi,aH]
      match i,hi with
      | 0,_=>exact⟨_,rfl⟩
      | 1,_=>exact⟨_,rfl⟩
      | 2,_=>exact⟨_,rfl⟩
      | 3,_=>exact⟨_,rfl⟩
      | 4,_=>exact⟨_,rfl⟩
      | 5,_=>exact⟨_,rfl⟩
      | 6,_=>exact⟨_,rfl⟩
     obtain⟨u,hu⟩:=hx
     have h0:w.cell? ⟨g2,pl*7+i,none⟩=some u:=(xd al.o (pl*7+i) (by omega)).trans hu
     rw[gw.cell (a:=⟨g2,pl*7+i,none⟩) h0 (by simp),<-hu,ay i hi]
    subst aH
    have aN:x.rules[pl]?=some x.rules[pl]:=qN am
    have aK:=au.o x.rules[pl] (List.getElem_mem am)
    have ag:Y (res=if Rq.meets x.rules[pl].ms hd.headers=true then some x.rules[pl] else Tr.firstRule x.rules hd.headers (so.drop (j+1))):=by
     show _=_;rw[HD.o,Tr.firstRule,aN]
    clear aN HD ay
    generalize x.rules[pl]=r at*
    have d0:wr.cell? ⟨g2,pl*7,none⟩=some (.int .i64 r.number):=af 0 (by omega)
    have d1:wr.cell? ⟨g2,pl*7+1,none⟩=some (.string (R.str r.path)):=af 1 (by omega)
    have d2:wr.cell? ⟨g2,pl*7+2,none⟩=some (.slice ma r.ms.length mk):=af 2 (by omega)
    have d3:wr.cell? ⟨g2,pl*7+3,none⟩=some (.slice ta r.tg.length tk):=af 3 (by omega)
    have d4:wr.cell? ⟨g2,pl*7+4,none⟩=some (.string (R.str r.rep)):=af 4 (by omega)
    have d5:wr.cell? ⟨g2,pl*7+5,none⟩=some (.slice sa r.sets.length sk):=af 5 (by omega)
    have d6:wr.cell? ⟨g2,pl*7+6,none⟩=some (.slice da r.drops.length dk):=af 6 (by omega)
    have aC:Y (PRuleVal w [.int .i64 r.number,.string (R.str r.path),.slice ma r.ms.length mk,.slice ta r.tg.length tk,.string (R.str r.rep),.slice sa r.sets.length sk,.slice da r.drops.length dk] r):=⟨_,_,_,_,rfl,m1,m2,m3,m4⟩
    have GA:=zJ wr (.cells #[.int .i64 r.number,.string (R.str r.path),.slice ma r.ms.length mk,.slice ta r.tg.length tk,.string (R.str r.rep),.slice sa r.sets.length sk,.slice da r.drops.length dk] 213) none
    have ap:=hid (heap_alloc_new wr (.cells #[.int .i64 r.number,.string (R.str r.path),.slice ma r.ms.length mk,.slice ta r.tg.length tk,.string (R.str r.rep),.slice sa r.sets.length sk,.slice da r.drops.length dk] 213))
    have ak:=hid (zA gw GA)
    have aR:wr.cell? ⟨w.heap.size,0,none⟩=some (.slice (some ⟨g2,0,none⟩) x.rules.length rk):=z8 (zB ah.o HW.o.gr (by simp))
    have aF:=hid (HW.o.keep GA)
    have x2:(wr.alloc (.cells #[.int .i64 r.number,.string (R.str r.path),.slice ma r.ms.length mk,.slice ta r.tg.length tk,.string (R.str r.rep),.slice sa r.sets.length sk,.slice da r.drops.length dk] 213)).cell? ⟨wr.heap.size,2,none⟩=some (.slice ma r.ms.length mk):=z8 ap.o
    have HC:=hid (av.o _ r ma mk ak.o aK (zO m1 ak.o (fun k hk c=>by cases c)))
    clear af gw GA HW m1 m2 m3 m4
    go_upto_region 7 with fail
    generalize wr.alloc (.cells #[.int .i64 r.number,.string (R.str r.path),.slice ma r.ms.length mk,.slice ta r.tg.length tk,.string (R.str r.rep),.slice sa r.sets.length sk,.slice da r.drops.length dk] 213)=wx at*
    generalize wr.heap.size=bx at*
    clear d0 d1 d2 d3 d4 d5 d6 aR c0
    go_wp2_with fail
    refine HC.o.mono ?_
    rintro e w4 ⟨rfl,g4⟩
    have ae:=hid (zB ap.o g4 (by simp))
    have ax:=hid (aF.o.keep g4)
    have ar:=hid (zA ak.o g4)
    have aa:=hid (zB aj.o (ax.o.gr) (by simp))
    clear HC g4 x2 aF ak ap
    cases hmt:Rq.meets r.ms hd.headers
    ·rw[hmt] at ag
     have ai:Y (res=Tr.firstRule x.rules hd.headers (so.drop (j+1))):=ag.o
     clear hmt ag ae aa
     go_wp2_with fail
     go_roundw
     case rel=>exact⟨j+1,by omega,by go_num,ax,ai⟩
     case measure=>simp[intOf];omega
    ·rw[hmt] at ag
     have ai:Y (res=some r):=ag.o
     have x0:w4.cell? ⟨bx,0,none⟩=some (.int .i64 r.number):=z8 ae.o
     have x1:w4.cell? ⟨bx,1,none⟩=some (.string (R.str r.path)):=z8 ae.o
     have x2:w4.cell? ⟨bx,2,none⟩=some (.slice ma r.ms.length mk):=z8 ae.o
     have x3:w4.cell? ⟨bx,3,none⟩=some (.slice ta r.tg.length tk):=z8 ae.o
     have x4:w4.cell? ⟨bx,4,none⟩=some (.string (R.str r.rep)):=z8 ae.o
     have x5:w4.cell? ⟨bx,5,none⟩=some (.slice sa r.sets.length sk):=z8 ae.o
     have x6:w4.cell? ⟨bx,6,none⟩=some (.slice da r.drops.length dk):=z8 ae.o
     have q0:w4.cell? ⟨w.heap.size+1,0,none⟩=some (.int .i64 0):=z8 aa.o
     have q1:w4.cell? ⟨w.heap.size+1,1,none⟩=some (.string ⟨#[]⟩):=z8 aa.o
     have q2:w4.cell? ⟨w.heap.size+1,2,none⟩=some (.slice none 0 0):=z8 aa.o
     have q3:w4.cell? ⟨w.heap.size+1,3,none⟩=some (.slice none 0 0):=z8 aa.o
     have q4:w4.cell? ⟨w.heap.size+1,4,none⟩=some (.string ⟨#[]⟩):=z8 aa.o
     have q5:w4.cell? ⟨w.heap.size+1,5,none⟩=some (.slice none 0 0):=z8 aa.o
     have q6:w4.cell? ⟨w.heap.size+1,6,none⟩=some (.slice none 0 0):=z8 aa.o
     have f0:=zrB 0 aa.o
     have f1:=zrB 1 aa.o
     have f2:=zrB 2 aa.o
     have f3:=zrB 3 aa.o
     have f4:=zrB 4 aa.o
     have f5:=zrB 5 aa.o
     have f6:=zrB 6 aa.o
     have aq:Y (w.grownBy (((((((w4.setCell ⟨w.heap.size+1,0,none⟩ (.int .i64 r.number)).setCell ⟨w.heap.size+1,1,none⟩ (.string (R.str r.path))).setCell ⟨w.heap.size+1,2,none⟩ (.slice ma r.ms.length mk)).setCell ⟨w.heap.size+1,3,none⟩ (.slice ta r.tg.length tk)).setCell ⟨w.heap.size+1,4,none⟩ (.string (R.str r.rep))).setCell ⟨w.heap.size+1,5,none⟩ (.slice sa r.sets.length sk)).setCell ⟨w.heap.size+1,6,none⟩ (.slice da r.drops.length dk)) none):=vJ ar.o (by omega)
     have aO:Y (PRuleVal (((((((w4.setCell ⟨w.heap.size+1,0,none⟩ (.int .i64 r.number)).setCell ⟨w.heap.size+1,1,none⟩ (.string (R.str r.path))).setCell ⟨w.heap.size+1,2,none⟩ (.slice ma r.ms.length mk)).setCell ⟨w.heap.size+1,3,none⟩ (.slice ta r.tg.length tk)).setCell ⟨w.heap.size+1,4,none⟩ (.string (R.str r.rep))).setCell ⟨w.heap.size+1,5,none⟩ (.slice sa r.sets.length sk)).setCell ⟨w.heap.size+1,6,none⟩ (.slice da r.drops.length dk)) [.int .i64 r.number,.string (R.str r.path),.slice ma r.ms.length mk,.slice ta r.tg.length tk,.string (R.str r.rep),.slice sa r.sets.length sk,.slice da r.drops.length dk] r):=(aC.o.grown ar.o).set7 aa.o
     have ab:Y ((((((((w4.setCell ⟨w.heap.size+1,0,none⟩ (.int .i64 r.number)).setCell ⟨w.heap.size+1,1,none⟩ (.string (R.str r.path))).setCell ⟨w.heap.size+1,2,none⟩ (.slice ma r.ms.length mk)).setCell ⟨w.heap.size+1,3,none⟩ (.slice ta r.tg.length tk)).setCell ⟨w.heap.size+1,4,none⟩ (.string (R.str r.rep))).setCell ⟨w.heap.size+1,5,none⟩ (.slice sa r.sets.length sk)).setCell ⟨w.heap.size+1,6,none⟩ (.slice da r.drops.length dk)).heap[w.heap.size+1]?=some (.cells #[.int .i64 r.number,.string (R.str r.path),.slice ma r.ms.length mk,.slice ta r.tg.length tk,.string (R.str r.rep),.slice sa r.sets.length sk,.slice da r.drops.length dk] 213 (0,0))):=vO aa.o
     have z0:=zr4 ab.o
     have z1:=zr5 ab.o
     have z2:=zr6 ab.o
     have z3:=zr7 ab.o
     have z4:=zr8 ab.o
     have z5:=zr9 ab.o
     have z6:=zrA ab.o
     have aP:=hid (And.intro z0 (And.intro z1 (And.intro z2 (And.intro z3 (And.intro z4 (And.intro z5 z6))))))
     clear hmt ag ae aa ar ax aC ao al aw au av ah aj GB ab z0 z1 z2 z3 z4 z5 z6 aK am aW aU aT aY az aV an aJ aX hn HL
     generalize w.heap.size+1=rb at*
     go_wp2
     obtain⟨z0,z1,z2,z3,z4,z5,z6⟩:=aP.o
     (try simp only[Exit.inBlock,Exit.then])
     refine bodyPost_ret (v:=.tuple #[.agg #[.int .i64 r.number,.string (R.str r.path),.slice ma r.ms.length mk,.slice ta r.tg.length tk,.string (R.str r.rep),.slice sa r.sets.length sk,.slice da r.drops.length dk],.bool true]) (by simp[results,Tryz.results181,go_sem,z0,z1,z2,z3,z4,z5,z6]) rfl ?_
     exact⟨aq.o,Or.inr ⟨r,_,ai.o,aO.o,rfl⟩⟩
   ·have hE:j=rn.length:=by omega
    subst hE
    have ai:Y (res=none):=by
     show _=_;rw[HD.o,List.drop_eq_nil_of_le (by rw[HL.o];exact zZ _)];rfl
    have ad:=hid (zB aj.o HW.o.gr (by simp))
    have q0:wr.cell? ⟨w.heap.size+1,0,none⟩=some (.int .i64 0):=z8 ad.o
    have q1:wr.cell? ⟨w.heap.size+1,1,none⟩=some (.string ⟨#[]⟩):=z8 ad.o
    have q2:wr.cell? ⟨w.heap.size+1,2,none⟩=some (.slice none 0 0):=z8 ad.o
    have q3:wr.cell? ⟨w.heap.size+1,3,none⟩=some (.slice none 0 0):=z8 ad.o
    have q4:wr.cell? ⟨w.heap.size+1,4,none⟩=some (.string ⟨#[]⟩):=z8 ad.o
    have q5:wr.cell? ⟨w.heap.size+1,5,none⟩=some (.slice none 0 0):=z8 ad.o
    have q6:wr.cell? ⟨w.heap.size+1,6,none⟩=some (.slice none 0 0):=z8 ad.o
    have f0:=zrB 0 ad.o
    have f1:=zrB 1 ad.o
    have f2:=zrB 2 ad.o
    have f3:=zrB 3 ad.o
    have f4:=zrB 4 ad.o
    have f5:=zrB 5 ad.o
    have f6:=zrB 6 ad.o
    have aq:Y (w.grownBy (((((((wr.setCell ⟨w.heap.size+1,0,none⟩ (.int .i64 0)).setCell ⟨w.heap.size+1,1,none⟩ (.string ⟨#[]⟩)).setCell ⟨w.heap.size+1,2,none⟩ (.slice none 0 0)).setCell ⟨w.heap.size+1,3,none⟩ (.slice none 0 0)).setCell ⟨w.heap.size+1,4,none⟩ (.string ⟨#[]⟩)).setCell ⟨w.heap.size+1,5,none⟩ (.slice none 0 0)).setCell ⟨w.heap.size+1,6,none⟩ (.slice none 0 0)) none):=vJ (zA GB.o HW.o.gr) (by omega)
    have ab:Y ((((((((wr.setCell ⟨w.heap.size+1,0,none⟩ (.int .i64 0)).setCell ⟨w.heap.size+1,1,none⟩ (.string ⟨#[]⟩)).setCell ⟨w.heap.size+1,2,none⟩ (.slice none 0 0)).setCell ⟨w.heap.size+1,3,none⟩ (.slice none 0 0)).setCell ⟨w.heap.size+1,4,none⟩ (.string ⟨#[]⟩)).setCell ⟨w.heap.size+1,5,none⟩ (.slice none 0 0)).setCell ⟨w.heap.size+1,6,none⟩ (.slice none 0 0)).heap[w.heap.size+1]?=some (.cells #[.int .i64 0,.string ⟨#[]⟩,.slice none 0 0,.slice none 0 0,.string ⟨#[]⟩,.slice none 0 0,.slice none 0 0] 213 (0,0))):=vO ad.o
    have z0:=zr4 ab.o
    have z1:=zr5 ab.o
    have z2:=zr6 ab.o
    have z3:=zr7 ab.o
    have z4:=zr8 ab.o
    have z5:=zr9 ab.o
    have z6:=zrA ab.o
    clear ao al aw au av ah aj GB HW HD ad ab
    go_wp2
    (try simp only[Exit.inBlock,Exit.then])
    refine bodyPost_ret (v:=.tuple #[.agg #[.int .i64 0,.string ⟨#[]⟩,.slice none 0 0,.slice none 0 0,.string ⟨#[]⟩,.slice none 0 0,.slice none 0 0],.bool false]) (by simp[results,Tryz.results181,go_sem,z0,z1,z2,z3,z4,z5,z6]) rfl ?_
    exact⟨aq.o,Or.inl ⟨ai.o,rfl⟩⟩
def Tr.find (hs:List P.Hst)(hd:Rq.Head):Option P.Rl:=
 match Tr.hostOf hs (Rq.host hd) with
 | none=>none
 | some x=>Tr.ruleOf x (Rq.path hd) hd.headers
theorem Tr.byKey_mem {hs:List P.Hst}{k:HKey}{x:P.Hst}(h:Tr.byKey hs k=some x):x∈hs:=List.mem_of_find?_eq_some h
theorem Tr.wild_mem {hs:List P.Hst}(f:Nat):∀(l:List UInt8) {x:P.Hst},Tr.wild hs f l=some x->x∈hs:=by
 induction f with
 | zero=>intro l x h;cases h
 | succ f ih=>
  intro l x h
  rw[Tr.wild] at h
  split at h
  ·split at h
   ·rename_i y hy
    cases h
    exact Tr.byKey_mem hy
   ·exact ih _ h
  ·cases h
theorem Tr.hostOf_mem {hs:List P.Hst}{aa:List UInt8}{x:P.Hst}(h:Tr.hostOf hs aa=some x):x∈hs:=by
 unfold Tr.hostOf Tr.or2 at h
 split at h
 ·rename_i y hy;cases h;exact Tr.byKey_mem hy
 ·split at h
  ·rename_i y hy;cases h;exact Tr.wild_mem _ _ hy
  ·exact Tr.byKey_mem h
theorem zn9 {w:World}{tb mb cb B:Nat}{wt:Value}{l:List (HKey×Value)}{hs:List P.Hst}{hd:Rq.Head}(hb:w.heap[tb]?=some (.cells #[.map (some mb)] 166 (0,0)))(ht:TabM w mb l hs)(hf:Fits hs)(hI:HInv w cb B wt hd)(hn:hd.headers.length<=100000)(hh:(Rq.value Rq.sHost hd.headers).length<=3000)(an:hd.target.length<=3000)(am:∀x∈hs,∀r∈x.rules,r.ms.length<=1000) :
  Calls Tryz.prog 123 #[.pointer (some ⟨tb,0,none⟩),.pointer (some ⟨cb,0,none⟩)] w fun e w'=>w.grownBy w' none/\((Tr.find hs hd=none/\e = .returned (.tuple #[.agg #[.int .i64 0,.string ⟨#[]⟩,.slice none 0 0,.slice none 0 0,.string ⟨#[]⟩,.slice none 0 0,.slice none 0 0],.bool false]))\/∃r cs,Tr.find hs hd=some r/\PRuleVal w' cs r/\e = .returned (.tuple #[.agg cs.toArray,.bool true])):=by
 have GW:=hid (zJ w (.cells #[.int .i64 0,.string ⟨#[]⟩,.slice none 0 0,.slice none 0 0,.string ⟨#[]⟩,.slice none 0 0,.slice none 0 0] 213) none)
 have ak:=hid (heap_alloc_new w (.cells #[.int .i64 0,.string ⟨#[]⟩,.slice none 0 0,.slice none 0 0,.string ⟨#[]⟩,.slice none 0 0,.slice none 0 0] 213))
 have au:(Rq.host hd).length<=3000:=by
  have h1:=(jW (Rq.value Rq.sHost hd.headers) 58).1
  unfold Rq.host R.lower
  rw[qw];omega
 have HH:Y (Calls Tryz.prog 180 #[.pointer (some ⟨cb,0,none⟩)] (w.alloc (.cells #[.int .i64 0,.string ⟨#[]⟩,.slice none 0 0,.slice none 0 0,.string ⟨#[]⟩,.slice none 0 0,.slice none 0 0] 213)) fun e w'=>e = .returned (.string (R.str (Rq.host hd)))/\(w.alloc (.cells #[.int .i64 0,.string ⟨#[]⟩,.slice none 0 0,.slice none 0 0,.string ⟨#[]⟩,.slice none 0 0,.slice none 0 0] 213)).grownBy w' none):=znA (hI.keep GW.o) hn hh
 have al:Y (∀W,w.grownBy W none->Calls Tryz.prog 179 #[.pointer (some ⟨tb,0,none⟩),.string (R.str (Rq.host hd))] W fun e w'=>W.grownBy w' none/\∃a1 n1 k1 b1 m1 q1 fl,e = .returned (.tuple #[.agg #[.slice a1 n1 k1,.slice b1 m1 q1],.bool fl])/\Y ((Tr.hostOf hs (Rq.host hd)=none/\fl=false)\/∃x,Tr.hostOf hs (Rq.host hd)=some x/\fl=true/\HostV w' (.agg #[.slice a1 n1 k1,.slice b1 m1 q1]) x)):=fun W hW=>by
  refine(zlG (zB hb hW (by simp)) (ht.grown hW) hf (Rq.host hd) au).mono ?_
  rintro e w' ⟨g,⟨h1,rfl⟩ | ⟨x,v,h1,hv,rfl⟩⟩
  ·exact⟨g,none,0,0,none,0,0,false,rfl,Or.inl ⟨h1,rfl⟩⟩
  ·obtain⟨a,n,k,b,m,q,rfl⟩:=hv.form
   exact⟨g,a,n,k,b,m,q,true,rfl,Or.inr ⟨x,h1,rfl,hv⟩⟩
 have ai:Y (∀W x v,w.grownBy W none->Tr.hostOf hs (Rq.host hd)=some x->HostV W v x->Calls Tryz.prog 181 #[v,.pointer (some ⟨cb,0,none⟩)] W fun e w'=>W.grownBy w' none/\∃r ma mk ta tk sa sk da dk fl,e = .returned (.tuple #[.agg #[.int .i64 r.number,.string (R.str r.path),.slice ma r.ms.length mk,.slice ta r.tg.length tk,.string (R.str r.rep),.slice sa r.sets.length sk,.slice da r.drops.length dk],.bool fl])/\Y ((Tr.find hs hd=none/\fl=false/\(.agg #[.int .i64 r.number,.string (R.str r.path),.slice ma r.ms.length mk,.slice ta r.tg.length tk,.string (R.str r.rep),.slice sa r.sets.length sk,.slice da r.drops.length dk]:Value) = .agg #[.int .i64 0,.string ⟨#[]⟩,.slice none 0 0,.slice none 0 0,.string ⟨#[]⟩,.slice none 0 0,.slice none 0 0])\/(Tr.find hs hd=some r/\fl=true/\PRuleVal w' [.int .i64 r.number,.string (R.str r.path),.slice ma r.ms.length mk,.slice ta r.tg.length tk,.string (R.str r.rep),.slice sa r.sets.length sk,.slice da r.drops.length dk] r))):=fun W x v hW hx hv=>by
  have ao:=Tr.hostOf_mem hx
  have eF:Tr.find hs hd=Tr.ruleOf x (Rq.path hd) hd.headers:=by unfold Tr.find;rw[hx]
  rw[eF]
  refine(zkT (hI.keep hW) hv (hf.hosts x ao) an hn (am x ao)).mono ?_
  rintro e w' ⟨g,⟨h1,rfl⟩ | ⟨r,cs,h1,h2,rfl⟩⟩
  ·exact⟨g,⟨0,[],[],[],[],[],[]⟩,none,0,none,0,none,0,none,0,false,rfl,Or.inl ⟨h1,rfl,rfl⟩⟩
  ·have ar:=h2
   obtain⟨vM,vT,vS,vD,rfl,m1,m2,m3,m4⟩:=h2
   obtain⟨ma,mk,rfl⟩:=zP m1
   obtain⟨ta,tk,rfl⟩:=zP m2
   obtain⟨sa,sk,rfl⟩:=zP m3
   obtain⟨da,dk,rfl⟩:=zP m4
   exact⟨g,r,ma,mk,ta,tk,sa,sk,da,dk,true,rfl,Or.inr ⟨h1,rfl,ar⟩⟩
 have ag:Y (Tr.hostOf hs (Rq.host hd)=none->Tr.find hs hd=none):=fun e=>by unfold Tr.find;rw[e]
 clear hb ht hf hI hn hh an am
 generalize Tr.find hs hd=res at*
 generalize Tr.hostOf hs (Rq.host hd)=ho at*
 generalize Rq.host hd=nm at*
 go_enter Tryz.func123,Tryz.ntmps123
 go_upto_region 1 with fail
 generalize w.alloc (.cells #[.int .i64 0,.string ⟨#[]⟩,.slice none 0 0,.slice none 0 0,.string ⟨#[]⟩,.slice none 0 0,.slice none 0 0] 213)=w0 at*
 go_wp2_with fail
 refine HH.o.mono ?_
 rintro e w1 ⟨rfl,g1⟩
 have G1:=hid (zA GW.o g1)
 have aj:=hid (zB ak.o g1 (by simp))
 clear HH g1 ak GW
 go_wp2_with fail
 refine(al.o w1 G1.o).mono ?_
 rintro e w2 ⟨g2,a1,n1,k1,b1,m1,q1,fl,rfl,HL⟩
 have gA:=zJ w2 (.cells #[.slice a1 n1 k1,.slice b1 m1 q1] 161) none
 have aa:=hid (zB (zB aj.o g2 (by simp)) gA (by simp))
 have G2:=hid (zA (zA G1.o g2) gA)
 have ae:=hid (heap_alloc_new w2 (.cells #[.slice a1 n1 k1,.slice b1 m1 q1] 161))
 have ah:Y ((ho=none/\fl=false)\/∃x,ho=some x/\fl=true/\HostV (w2.alloc (.cells #[.slice a1 n1 k1,.slice b1 m1 q1] 161)) (.agg #[.slice a1 n1 k1,.slice b1 m1 q1]) x):=by
  rcases HL.o with h | ⟨x,h1,h2,h3⟩
  ·exact Or.inl h
  ·exact Or.inr ⟨x,h1,h2,h3.keep gA (zv _ _)⟩
 clear al G1 aj g2 gA HL
 go_upto_region 2 with fail
 generalize w2.alloc (.cells #[.slice a1 n1 k1,.slice b1 m1 q1] 161)=w3 at*
 generalize w2.heap.size=hb at*
 have v0:w3.cell? ⟨hb,0,none⟩=some (.slice a1 n1 k1):=z8 ae.o
 have v1:w3.cell? ⟨hb,1,none⟩=some (.slice b1 m1 q1):=z8 ae.o
 rcases ah.o with ⟨h1,rfl⟩ | ⟨x,h1,rfl,h3⟩
 ·have HE:=hid (ag.o h1)
  have q0:w3.cell? ⟨w.heap.size,0,none⟩=some (.int .i64 0):=z8 aa.o
  have q1:w3.cell? ⟨w.heap.size,1,none⟩=some (.string ⟨#[]⟩):=z8 aa.o
  have q2:w3.cell? ⟨w.heap.size,2,none⟩=some (.slice none 0 0):=z8 aa.o
  have q3:w3.cell? ⟨w.heap.size,3,none⟩=some (.slice none 0 0):=z8 aa.o
  have q4:w3.cell? ⟨w.heap.size,4,none⟩=some (.string ⟨#[]⟩):=z8 aa.o
  have q5:w3.cell? ⟨w.heap.size,5,none⟩=some (.slice none 0 0):=z8 aa.o
  have q6:w3.cell? ⟨w.heap.size,6,none⟩=some (.slice none 0 0):=z8 aa.o
  have f0:=zrB 0 aa.o
  have f1:=zrB 1 aa.o
  have f2:=zrB 2 aa.o
  have f3:=zrB 3 aa.o
  have f4:=zrB 4 aa.o
  have f5:=zrB 5 aa.o
  have f6:=zrB 6 aa.o
  have af:Y (w.grownBy (((((((w3.setCell ⟨w.heap.size,0,none⟩ (.int .i64 0)).setCell ⟨w.heap.size,1,none⟩ (.string ⟨#[]⟩)).setCell ⟨w.heap.size,2,none⟩ (.slice none 0 0)).setCell ⟨w.heap.size,3,none⟩ (.slice none 0 0)).setCell ⟨w.heap.size,4,none⟩ (.string ⟨#[]⟩)).setCell ⟨w.heap.size,5,none⟩ (.slice none 0 0)).setCell ⟨w.heap.size,6,none⟩ (.slice none 0 0)) none):=vJ G2.o (zZ _)
  have ab:Y ((((((((w3.setCell ⟨w.heap.size,0,none⟩ (.int .i64 0)).setCell ⟨w.heap.size,1,none⟩ (.string ⟨#[]⟩)).setCell ⟨w.heap.size,2,none⟩ (.slice none 0 0)).setCell ⟨w.heap.size,3,none⟩ (.slice none 0 0)).setCell ⟨w.heap.size,4,none⟩ (.string ⟨#[]⟩)).setCell ⟨w.heap.size,5,none⟩ (.slice none 0 0)).setCell ⟨w.heap.size,6,none⟩ (.slice none 0 0)).heap[w.heap.size]?=some (.cells #[.int .i64 0,.string ⟨#[]⟩,.slice none 0 0,.slice none 0 0,.string ⟨#[]⟩,.slice none 0 0,.slice none 0 0] 213 (0,0))):=vO aa.o
  have z0:=zr4 ab.o
  have z1:=zr5 ab.o
  have z2:=zr6 ab.o
  have z3:=zr7 ab.o
  have z4:=zr8 ab.o
  have z5:=zr9 ab.o
  have z6:=zrA ab.o
  clear ah h1 ai ag aa ae ab G2
  go_wp2
  (try simp only[Exit.inBlock,Exit.then])
  refine bodyPost_ret (v:=.tuple #[.agg #[.int .i64 0,.string ⟨#[]⟩,.slice none 0 0,.slice none 0 0,.string ⟨#[]⟩,.slice none 0 0,.slice none 0 0],.bool false]) (by simp[results,Tryz.results123,go_sem,z0,z1,z2,z3,z4,z5,z6]) rfl ?_
  exact⟨af.o,Or.inl ⟨HE.o,rfl⟩⟩
 ·have HC:=hid (ai.o w3 x _ G2.o h1 h3)
  clear ah h1 h3 ai ag ae
  go_wp2_with fail
  refine HC.o.mono ?_
  rintro e w4 ⟨g4,r,ma,mk,ta,tk,sa,sk,da,dk,fl,rfl,HL⟩
  have ad:=hid (zB aa.o g4 (by simp))
  have G4:=hid (zA G2.o g4)
  clear HC g4 aa G2 v0 v1
  have q0:w4.cell? ⟨w.heap.size,0,none⟩=some (.int .i64 0):=z8 ad.o
  have q1:w4.cell? ⟨w.heap.size,1,none⟩=some (.string ⟨#[]⟩):=z8 ad.o
  have q2:w4.cell? ⟨w.heap.size,2,none⟩=some (.slice none 0 0):=z8 ad.o
  have q3:w4.cell? ⟨w.heap.size,3,none⟩=some (.slice none 0 0):=z8 ad.o
  have q4:w4.cell? ⟨w.heap.size,4,none⟩=some (.string ⟨#[]⟩):=z8 ad.o
  have q5:w4.cell? ⟨w.heap.size,5,none⟩=some (.slice none 0 0):=z8 ad.o
  have q6:w4.cell? ⟨w.heap.size,6,none⟩=some (.slice none 0 0):=z8 ad.o
  have f0:=zrB 0 ad.o
  have f1:=zrB 1 ad.o
  have f2:=zrB 2 ad.o
  have f3:=zrB 3 ad.o
  have f4:=zrB 4 ad.o
  have f5:=zrB 5 ad.o
  have f6:=zrB 6 ad.o
  have af:Y (w.grownBy (((((((w4.setCell ⟨w.heap.size,0,none⟩ (.int .i64 r.number)).setCell ⟨w.heap.size,1,none⟩ (.string (R.str r.path))).setCell ⟨w.heap.size,2,none⟩ (.slice ma r.ms.length mk)).setCell ⟨w.heap.size,3,none⟩ (.slice ta r.tg.length tk)).setCell ⟨w.heap.size,4,none⟩ (.string (R.str r.rep))).setCell ⟨w.heap.size,5,none⟩ (.slice sa r.sets.length sk)).setCell ⟨w.heap.size,6,none⟩ (.slice da r.drops.length dk)) none):=vJ G4.o (zZ _)
  have ap:Y (PRuleVal w4 [.int .i64 r.number,.string (R.str r.path),.slice ma r.ms.length mk,.slice ta r.tg.length tk,.string (R.str r.rep),.slice sa r.sets.length sk,.slice da r.drops.length dk] r->PRuleVal (((((((w4.setCell ⟨w.heap.size,0,none⟩ (.int .i64 r.number)).setCell ⟨w.heap.size,1,none⟩ (.string (R.str r.path))).setCell ⟨w.heap.size,2,none⟩ (.slice ma r.ms.length mk)).setCell ⟨w.heap.size,3,none⟩ (.slice ta r.tg.length tk)).setCell ⟨w.heap.size,4,none⟩ (.string (R.str r.rep))).setCell ⟨w.heap.size,5,none⟩ (.slice sa r.sets.length sk)).setCell ⟨w.heap.size,6,none⟩ (.slice da r.drops.length dk)) [.int .i64 r.number,.string (R.str r.path),.slice ma r.ms.length mk,.slice ta r.tg.length tk,.string (R.str r.rep),.slice sa r.sets.length sk,.slice da r.drops.length dk] r):=fun h=>h.set7 ad.o
  have ab:Y ((((((((w4.setCell ⟨w.heap.size,0,none⟩ (.int .i64 r.number)).setCell ⟨w.heap.size,1,none⟩ (.string (R.str r.path))).setCell ⟨w.heap.size,2,none⟩ (.slice ma r.ms.length mk)).setCell ⟨w.heap.size,3,none⟩ (.slice ta r.tg.length tk)).setCell ⟨w.heap.size,4,none⟩ (.string (R.str r.rep))).setCell ⟨w.heap.size,5,none⟩ (.slice sa r.sets.length sk)).setCell ⟨w.heap.size,6,none⟩ (.slice da r.drops.length dk)).heap[w.heap.size]?=some (.cells #[.int .i64 r.number,.string (R.str r.path),.slice ma r.ms.length mk,.slice ta r.tg.length tk,.string (R.str r.rep),.slice sa r.sets.length sk,.slice da r.drops.length dk] 213 (0,0))):=vO ad.o
  have z0:=zr4 ab.o
  have z1:=zr5 ab.o
  have z2:=zr6 ab.o
  have z3:=zr7 ab.o
  have z4:=zr8 ab.o
  have z5:=zr9 ab.o
  have z6:=zrA ab.o
  have aq:=hid (And.intro z0 (And.intro z1 (And.intro z2 (And.intro z3 (And.intro z4 (And.intro z5 z6))))))
  clear ad ab G4 z0 z1 z2 z3 z4 z5 z6
  generalize w.heap.size=rb at*
  go_wp2
  obtain⟨z0,z1,z2,z3,z4,z5,z6⟩:=aq.o
  (try simp only[Exit.inBlock,Exit.then])
  refine bodyPost_ret (v:=.tuple #[.agg #[.int .i64 r.number,.string (R.str r.path),.slice ma r.ms.length mk,.slice ta r.tg.length tk,.string (R.str r.rep),.slice sa r.sets.length sk,.slice da r.drops.length dk],.bool fl]) (by simp[results,Tryz.results123,go_sem,z0,z1,z2,z3,z4,z5,z6]) rfl ?_
  refine⟨af.o,?_⟩
  rcases HL.o with ⟨p1,p2,p3⟩ | ⟨p1,p2,p3⟩
  ·exact Or.inl ⟨p1,by rw[p2,p3]⟩
  ·exact Or.inr ⟨r,_,p1,ap.o p3,by rw[p2]⟩
def Tr.sum (tg:List (List UInt8×Int)):Nat:=(tg.map fun t=>t.2.toNat).sum
def Tr.share:Nat->List (List UInt8×Int)->List UInt8
 | _,[]=>[]
 | n,t :: r=>if n<t.2.toNat then t.1 else Tr.share (n - t.2.toNat) r
structure TgOk (tg:List (List UInt8×Int)):Prop where
 few:tg.length<=1000
 all:∀t∈tg,0<=t.2/\t.2<=100000
theorem Tr.sum_le {tg:List (List UInt8×Int)}(h:∀t∈tg,0<=t.2/\t.2<=100000):Tr.sum tg<=tg.length*100000:=by
 induction tg with
 | nil=>exact zZ _
 | cons a t ih=>
  have h1:=(h a List.mem_cons_self).2
  have h2:=ih (fun x hx=>h x (List.mem_cons_of_mem _ hx))
  unfold Tr.sum at h2 ⊢
  rw[xi,List.sum_cons,zm]
  omega
theorem Tr.sum_snoc (tg:List (List UInt8×Int))(j:Nat)(hj:j<tg.length):Tr.sum (tg.take (j+1))=Tr.sum (tg.take j)+tg[j].2.toNat:=by
 unfold Tr.sum
 rw[List.take_add_one,qN hj,xy,List.sum_append]
 simp
theorem zo8 (tg:List (List UInt8×Int))(j:Nat)(hj:j<tg.length):(zi tg)[j*2]?=some (.string (R.str tg[j].1))/\(zi tg)[j*2+1]?=some (.int .i64 tg[j].2):=by
 induction tg generalizing j with
 | nil=>simp at hj
 | cons a t ih=>
  have e:zi (a :: t) = .string (R.str a.1) :: .int .i64 a.2 :: zi t:=rfl
  cases j with
  | zero=>rw[e];exact⟨rfl,rfl⟩
  | succ j=>
   have h:=ih j (by simpa using hj)
   have e2:(j+1)*2=j*2+1+1:=by omega
   rw[e,e2]
   exact h
theorem znQ {w:World}{ta:Option Addr}{tk:Nat}{tg:List (List UInt8×Int)}(hr:w.ownsRow 0 285 2 (.slice ta tg.length tk) tg.length (zi tg))(hk:TgOk tg) :
  Calls Tryz.prog 183 #[.slice ta tg.length tk] w fun e w'=>e = .returned (.int .u64 (Tr.sum tg:Nat))/\w.grownBy w' none:=by
 have HR:=hid hr
 have HK:=hid hk.all
 have ah:=hk.few
 have HS:Y (∀j,Tr.sum (tg.take j)<=100000000):=fun j=>by
  have:=Tr.sum_le (tg:=tg.take j) (fun t ht=>hk.all t (List.mem_of_mem_take ht))
  rw[List.length_take] at this
  show _<=_;omega
 have ad:Y (Tr.sum (tg.take tg.length)=Tr.sum tg):=by show _=_;rw[List.take_length]
 have ag:=hid (Tr.sum_snoc tg)
 clear hr hk
 go_enter Tryz.func183,Tryz.ntmps183
 go_wp2_with fail
 go_loopw [3,8] (fun tv iv wr=>∃j:Nat,j<=tg.length/\iv = .int .i64 j/\tv = .int .u64 (Tr.sum (tg.take j):Nat)/\Y (w.grownBy wr none)) (fun _ iv _=>tg.length - (intOf iv).toNat)
 case atStart=>exact⟨0,zl _,rfl,rfl,zM _ _⟩
 case round=>
  obtain⟨j,aj,rfl,rfl,HG⟩:=hrel
  by_cases ab:j<tg.length
  ·have ai:(j:Int)<tg.length:=by omega
   obtain⟨g,gc,e1,_,_⟩:=World.ownsRow.form HR.o (by omega)
   simp only[qc,true_and] at e1
   obtain⟨rfl,rfl⟩:=e1
   obtain⟨t0,t1⟩:=zo8 tg j ab
   have c0:wr.cell? ⟨g,j*2,none⟩=some (.string (R.str tg[j].1)):=HG.o.cell (a:=⟨g,j*2,none⟩) ((xd HR.o (j*2) (by omega)).trans t0) (by simp)
   have c1:wr.cell? ⟨g,j*2+1,none⟩=some (.int .i64 tg[j].2):=HG.o.cell (a:=⟨g,j*2+1,none⟩) ((xd HR.o (j*2+1) (by omega)).trans t1) (by simp)
   have hw:=HK.o tg[j] (List.getElem_mem ab)
   have aa:=ag.o j ab
   have ak:=HS.o j
   clear t0 t1
   generalize tg[j]=t at*
   obtain⟨tu,tw⟩:=t
   obtain⟨x,rfl⟩:∃x:Nat,tw=x:=⟨tw.toNat,by simp only at hw;omega⟩
   simp only at hw c0 c1 aa
   have af:Y (Tr.sum (tg.take (j+1))=Tr.sum (tg.take j)+x):=aa
   have ae:Y (w.grownBy (wr.alloc (.cells #[.string (R.str tu),.int .i64 (x:Int)] 285)) none):=zA HG.o (zJ _ _ none)
   clear aa HG
   generalize Tr.sum (tg.take j)=s at*
   go_wp2_with fail
   go_roundw
   case rel=>exact⟨j+1,by omega,by go_num,by rw[af.o];go_num,ae⟩
   case measure=>simp[intOf];omega
  ·have hE:j=tg.length:=by omega
   subst hE
   go_wp2
   go_ret
   exact⟨by rw[ad.o];rfl,HG.o⟩
theorem zi8 {w:World}{ta:Option Addr}{tk:Nat}{tg:List (List UInt8×Int)}(hr:w.ownsRow 0 285 2 (.slice ta tg.length tk) tg.length (zi tg))(hk:TgOk tg)(n:Nat)(hn:n<=100000000) :
  Calls Tryz.prog 182 #[.int .u64 n,.slice ta tg.length tk] w fun e w'=>e = .returned (.string (R.str (Tr.share n tg)))/\w.grownBy w' none:=by
 have HR:=hid hr
 have HK:=hid hk.all
 have ag:=hk.few
 have ae:Y (Tr.share n tg=Tr.share n (tg.drop 0)):=rfl
 clear hr hk
 generalize Tr.share n tg=res at*
 go_enter Tryz.func182,Tryz.ntmps182
 go_wp2_with fail
 go_loopw [0,10] (fun nv iv wr=>∃j m:Nat,j<=tg.length/\iv = .int .i64 j/\nv = .int .u64 m/\m<=100000000/\Y (w.grownBy wr none)/\Y (res=Tr.share m (tg.drop j))) (fun _ iv _=>tg.length - (intOf iv).toNat)
 case atStart=>exact⟨0,n,zl _,rfl,rfl,hn,zM _ _,ae⟩
 case round=>
  clear hn
  obtain⟨j,m,ai,rfl,rfl,hm,HG,HD⟩:=hrel
  by_cases ab:j<tg.length
  ·have ah:(j:Int)<tg.length:=by omega
   obtain⟨g,gc,e1,_,_⟩:=World.ownsRow.form HR.o (by omega)
   simp only[qc,true_and] at e1
   obtain⟨rfl,rfl⟩:=e1
   obtain⟨t0,t1⟩:=zo8 tg j ab
   have c0:wr.cell? ⟨g,j*2,none⟩=some (.string (R.str tg[j].1)):=HG.o.cell (a:=⟨g,j*2,none⟩) ((xd HR.o (j*2) (by omega)).trans t0) (by simp)
   have c1:wr.cell? ⟨g,j*2+1,none⟩=some (.int .i64 tg[j].2):=HG.o.cell (a:=⟨g,j*2+1,none⟩) ((xd HR.o (j*2+1) (by omega)).trans t1) (by simp)
   have hw:=HK.o tg[j] (List.getElem_mem ab)
   rw[List.drop_eq_getElem_cons ab] at HD
   clear t0 t1
   generalize tg[j]=t at*
   obtain⟨tu,tw⟩:=t
   obtain⟨x,rfl⟩:∃x:Nat,tw=x:=⟨tw.toNat,by simp only at hw;omega⟩
   simp only at hw c0 c1
   have aa:Y (res=if m<x then tu else Tr.share (m - x) (tg.drop (j+1))):=HD.o
   have ad:Y (w.grownBy (wr.alloc (.cells #[.string (R.str tu),.int .i64 (x:Int)] 285)) none):=zA HG.o (zJ _ _ none)
   clear HD HG
   by_cases hc:m<x
   ·have af:(m:Int)<x:=by omega
    rw[if_pos hc] at aa
    go_wp2
    go_ret
    exact⟨by rw[aa.o];rfl,ad.o⟩
   ·have af:¬(m:Int)<x:=by omega
    rw[if_neg hc] at aa
    go_wp2_with fail
    go_roundw
    case rel=>exact⟨j+1,m - x,by omega,by go_num,by go_num,by omega,ad,aa⟩
    case measure=>simp[intOf];omega
  ·have hE:j=tg.length:=by omega
   subst hE
   have aa:Y (res=[]):=by show _=_;rw[HD.o,List.drop_length];rfl
   clear HD
   go_wp2
   go_ret
   exact⟨by rw[aa.o];rfl,HG.o⟩
end Go.Proofs.YtfocdefchbnkpaaGreatDoor
