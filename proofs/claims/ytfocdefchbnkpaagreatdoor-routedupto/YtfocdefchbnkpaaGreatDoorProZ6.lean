/- The writer of a policy: a rule. -/
import Derived.Test.YtfocdefchbnkpaaGreatDoorAli
import Derived.Test.YtfocdefchbnkpaaGreatDoorProZ5
set_option maxRecDepth 100000
set_option maxHeartbeats 20000000
namespace Go.Proofs.YtfocdefchbnkpaaGreatDoor
open Go.RowKit
theorem yD {w w':World}{B B':Nat}{l:List TypeId}{e:TypeId}{s:Nat}{v:Value}{n:Nat}{xs:List Value}(h:w.ownsRow B e s v n xs)(hk:Kept B' l w w')(ht:e ∉ l):w'.ownsRow B e s v n xs:=by
 refine⟨h.1,?_⟩
 rcases h.2 with h | ⟨g,cap,cur,rfl,hB,hb,r⟩
 ·exact Or.inl h
 ·exact Or.inr ⟨g,cap,cur,rfl,hB,hk.cell hb ht,r⟩
theorem WInv.setOp {w:World}{wb:Nat}{l:List UInt8}{op:Int}(h:WInv w wb l op)(aa:Int):WInv (w.setCell ⟨wb,2,none⟩ (.int .i64 aa)) wb l aa/\Kept wb wtags w (w.setCell ⟨wb,2,none⟩ (.int .i64 aa)):=by
 have hg:=zD w wb 2 (.int .i64 aa)
 rcases h with ⟨v,hb,ho⟩ | ⟨v,hb,ho⟩
 ·exact⟨Or.inl ⟨v,zF hb _,zO ho hg (fun k hk e=>by have:=(qh ho k hk).1;cases e;omega)⟩,yj hg hb (by decide) (zZ _)⟩
 ·exact⟨Or.inr ⟨v,zF hb _,zO ho hg (fun k hk e=>by have:=(qh ho k hk).1;cases e;omega)⟩,yj hg hb (by decide) (zZ _)⟩
theorem WInv.fz {w:World}{wb:Nat}{l:List UInt8}{op:Int}(h:WInv w wb l op):w.frozen? ⟨wb,2,none⟩=false:=by
 rcases h with ⟨v,hb,ho⟩ | ⟨v,hb,ho⟩
 ·exact zC hb
 ·exact zC hb
theorem yM {w0 W:World}{wb:Nat}{l:List UInt8}{op:Nat}(h:WInv W wb l op)(hk:Kept wb wtags w0 W)(ps:List (List UInt8))(aa:op<=3)(hl:l.length<=100000000000000)(hp:ps.length<=10)(hf:ps.flatten.length<=100000000) :
  Calls Tryz.prog 104 #[.pointer (some ⟨wb,0,none⟩),.slice (some ⟨W.heap.size,0,none⟩) ps.length ps.length] (W.alloc (.cells (zh ps).toArray 9)) fun e w'=>e = .returned (.tuple #[])/\WInv w' wb (l++lnS op ps) op/\Kept wb wtags w0 w':=
 (zfM (op:=op) (h.grown (zJ _ _ _)) W.heap.size ps.length ps (heap_alloc_new _ _) aa (by omega) (by omega)).mono fun e w' ⟨g1,g2,g3⟩=>⟨g1,g2,(hk.trans (qq (zJ _ _ none))).trans g3⟩
theorem jD {α:Type}(f:α->List UInt8)(l:List α)(k:Nat)(hk:k<l.length)(aa:List UInt8):aa++((l.take (k+1)).map f).flatten=aa++((l.take k).map f).flatten++f l[k]:=by
 rw[za9 f l k hk,xY]
theorem zlN {w:World}{wb:Nat}{l:List UInt8}(h:WInv w wb l (1:Nat))(cs:List Value)(r:P.Rl)(hr:PRuleVal w cs r)(hs:R.Small (toRl r))(hl:l.length<=90000000000000)(hT:GT w)(hB:GTB wb) :
  Calls Tryz.prog 106 #[.pointer (some ⟨wb,0,none⟩),.agg cs.toArray] w fun e w'=>e = .returned (.tuple #[])/\WInv w' wb (l++R.lines (toRl r)) (1:Nat)/\Kept wb wtags w w':=by
 obtain⟨vM,vT,vS,vD,rfl,hM,aN,hS,hD⟩:=hr
 obtain⟨m1,m2,rfl⟩:=zP hM
 obtain⟨t1,t2,rfl⟩:=zP aN
 obtain⟨x1,x2,rfl⟩:=zP hS
 obtain⟨d1,d2,rfl⟩:=zP hD
 have gA:w.grownBy (w.alloc (.cells #[.int .i64 r.number,.string (R.str r.path),.slice m1 r.ms.length m2,.slice t1 r.tg.length t2,.string (R.str r.rep),.slice x1 r.sets.length x2,.slice d1 r.drops.length d2] 213)) none:=zJ _ _ _
 have ag:Y ((w.alloc (.cells #[.int .i64 r.number,.string (R.str r.path),.slice m1 r.ms.length m2,.slice t1 r.tg.length t2,.string (R.str r.rep),.slice x1 r.sets.length x2,.slice d1 r.drops.length d2] 213)).heap[w.heap.size]?=some (.cells #[.int .i64 r.number,.string (R.str r.path),.slice m1 r.ms.length m2,.slice t1 r.tg.length t2,.string (R.str r.rep),.slice x1 r.sets.length x2,.slice d1 r.drops.length d2] 213)):=heap_alloc_new _ _
 have J0:Y (WInv (w.alloc (.cells #[.int .i64 r.number,.string (R.str r.path),.slice m1 r.ms.length m2,.slice t1 r.tg.length t2,.string (R.str r.rep),.slice x1 r.sets.length x2,.slice d1 r.drops.length d2] 213)) wb l (1:Nat)):=h.grown gA
 have aK:Y (GT (w.alloc (.cells #[.int .i64 r.number,.string (R.str r.path),.slice m1 r.ms.length m2,.slice t1 r.tg.length t2,.string (R.str r.rep),.slice x1 r.sets.length x2,.slice d1 r.drops.length d2] 213))):=hT.grown gA
 have bo:Y (GTB wb):=hB
 have aT:Y (Kept wb wtags w (w.alloc (.cells #[.int .i64 r.number,.string (R.str r.path),.slice m1 r.ms.length m2,.slice t1 r.tg.length t2,.string (R.str r.rep),.slice x1 r.sets.length x2,.slice d1 r.drops.length d2] 213))):=qq gA
 have HM:=J (zO hM gA (fun k hk c=>by cases c))
 have a3:=J (zO aN gA (fun k hk c=>by cases c))
 have an:=J (zO hS gA (fun k hk c=>by cases c))
 have ay:=J (zO hD gA (fun k hk c=>by cases c))
 have K0:Y (Kept wb wtags (w.alloc (.cells #[.int .i64 r.number,.string (R.str r.path),.slice m1 r.ms.length m2,.slice t1 r.tg.length t2,.string (R.str r.rep),.slice x1 r.sets.length x2,.slice d1 r.drops.length d2] 213)) (w.alloc (.cells #[.int .i64 r.number,.string (R.str r.path),.slice m1 r.ms.length m2,.slice t1 r.tg.length t2,.string (R.str r.rep),.slice x1 r.sets.length x2,.slice d1 r.drops.length d2] 213))):=Kept.refl _ _ _
 have aS:0<=r.number/\r.number<=99999:=hs.num
 have a0:Y (0<=r.number/\r.number<=99999):=aS
 have bq:r.path.length<=3000:=hs.path
 have br:r.rep.length<=3000:=hs.to
 have aL:Y (∀m∈r.ms,m.name.length<=3000/\m.val.length<=3000):=fun m hm=>hs.ms.2 (mtOf m) (List.mem_map_of_mem hm)
 have bC:r.ms.length<=4000:=by have:=hs.ms.1;simpa[toRl,rlOf] using this
 have aM:Y (∀t∈r.tg,t.1.length<=3000/\0<=t.2/\t.2<=99999):=hs.tg.2
 have bu:r.tg.length<=4000:=hs.tg.1
 have ap:Y (∀t∈r.sets,t.1.length<=3000/\t.2.length<=3000):=hs.sets.2
 have bE:r.sets.length<=4000:=hs.sets.1
 have ao:Y (∀t∈r.drops,t.length<=3000):=hs.drops.2
 have bB:r.drops.length<=4000:=hs.drops.1
 have bA:(R.decI r.number).length<=5:=R.decI_len _ aS
 have bt:=zjB r.tg aM.o
 have aX:Y (yg r++jT r++(r.ms.map fun m=>R.lnMt (mtOf m)).flatten++jh r++jx r++(r.sets.map R.lnSet).flatten++(r.drops.map R.lnDrop).flatten++lnS 1 [[125]]=R.lines (toRl r)):=zmP r
 have HI:Y (Calls Tryz.prog 159 #[.int .i64 r.number] (w.alloc (.cells #[.int .i64 r.number,.string (R.str r.path),.slice m1 r.ms.length m2,.slice t1 r.tg.length t2,.string (R.str r.rep),.slice x1 r.sets.length x2,.slice d1 r.drops.length d2] 213)) fun e w'=>e = .returned (.string (R.str (R.decI r.number)))/\(w.alloc (.cells #[.int .i64 r.number,.string (R.str r.path),.slice m1 r.ms.length m2,.slice t1 r.tg.length t2,.string (R.str r.rep),.slice x1 r.sets.length x2,.slice d1 r.drops.length d2] 213)).grownBy w' none):=fr aK.o r.number a0.o
 have a2:Y (∀W,Calls Tryz.prog 105 #[.string (R.str r.path)] W fun e w'=>e = .returned (.string (R.str (R.q r.path)))/\w'=W):=fun W=>xe r.path W bq
 have aJ:Y (∀W,Calls Tryz.prog 105 #[.string (R.str r.rep)] W fun e w'=>e = .returned (.string (R.str (R.q r.rep)))/\w'=W):=fun W=>xe r.rep W br
 clear h hT hB hM aN hS hD hs aS
 generalize R.lines (toRl r)=res at*
 go_enter Tryz.func106,Tryz.ntmps106
 go_wp2_with fail
 refine HI.o.mono ?_
 rintro e wI ⟨rfl,aO⟩
 have KI:Y (Kept wb wtags (w.alloc (.cells #[.int .i64 r.number,.string (R.str r.path),.slice m1 r.ms.length m2,.slice t1 r.tg.length t2,.string (R.str r.rep),.slice x1 r.sets.length x2,.slice d1 r.drops.length d2] 213)) wI):=K0.o.trans (qq aO)
 have JI:Y (WInv wI wb l (1:Nat)):=J0.o.grown aO
 have bF:=zE ag.o
 generalize w.alloc (.cells #[.int .i64 r.number,.string (R.str r.path),.slice m1 r.ms.length m2,.slice t1 r.tg.length t2,.string (R.str r.rep),.slice x1 r.sets.length x2,.slice d1 r.drops.length d2] 213)=wa at*
 clear aO HI gA J0 K0
 go_wp2_with fail
 have aU:Y (Calls Tryz.prog 104 #[.pointer (some ⟨wb,0,none⟩),.slice (some ⟨wI.heap.size,0,none⟩) 3 3] (wI.alloc (.cells #[.string ⟨#[114,117,108,101,32]⟩,.string (R.str (R.decI r.number)),.string ⟨#[32,123]⟩] 9)) fun e w'=>e = .returned (.tuple #[])/\WInv w' wb (l++yg r) (1:Nat)/\Kept wb wtags wa w'):=by
  have h:=yM JI.o KI.o [[114,117,108,101,32],R.decI r.number,[32,123]] (by decide) (by omega) (by simp) (by simp only[xP,List.flatten_nil,zW,zm,qi];omega)
  exact h
 refine aU.o.mono ?_
 rintro e w1 ⟨rfl,bc,bh⟩
 have J1:Y (WInv w1 wb (l++yg r) (1:Nat)):=bc
 have K1:Y (Kept wb wtags wa w1):=bh
 clear bc bh aU
 have a4:=K1.o.cell ag.o (by decide)
 have bJ:w1.cell? ⟨w.heap.size,1,none⟩=some (.string (R.str r.path)):=z8 a4
 clear a4
 have c1:w1.cell? ⟨wb,2,none⟩=some (.int .i64 1):=WInv.op J1.o
 have f1:w1.frozen? ⟨wb,2,none⟩=false:=WInv.fz J1.o
 obtain⟨bd,bi⟩:=WInv.setOp J1.o (2:Nat)
 have J2:Y (WInv (w1.setCell ⟨wb,2,none⟩ (.int .i64 2)) wb (l++yg r) (2:Nat)):=bd
 have K2:Y (Kept wb wtags wa (w1.setCell ⟨wb,2,none⟩ (.int .i64 2))):=K1.o.trans bi
 have bn:(l++yg r).length<=90000000001000:=by
  show(l++lnS 1 [[114,117,108,101,32],R.decI r.number,[32,123]]).length<=_
  unfold lnS
  simp only[xP,List.flatten_nil,zW,zm,qi,List.length_replicate];omega
 clear bd bi J1 K1 JI KI
 have a5:=K2.o.cell ag.o (by decide)
 have bK:(w1.setCell ⟨wb,2,none⟩ (.int .i64 2)).cell? ⟨w.heap.size,1,none⟩=some (.string (R.str r.path)):=z8 a5
 clear a5
 go_wp2_with fail
 refine(a2.o _).mono ?_
 rintro e wq ⟨rfl,ai⟩
 subst ai
 generalize w1.setCell ⟨wb,2,none⟩ (.int .i64 2)=w2 at*
 go_wp2_with fail
 have aV:Y (Calls Tryz.prog 104 #[.pointer (some ⟨wb,0,none⟩),.slice (some ⟨w2.heap.size,0,none⟩) 3 3] (w2.alloc (.cells #[.string ⟨#[112,97,116,104,32]⟩,.string (R.str (R.q r.path)),.string ⟨#[59]⟩] 9)) fun e w'=>e = .returned (.tuple #[])/\WInv w' wb (l++yg r++jT r) (2:Nat)/\Kept wb wtags wa w'):=by
  have h:=yM J2.o K2.o [[112,97,116,104,32],R.q r.path,[59]] (by decide) (by omega) (by simp) (by simp only[xP,List.flatten_nil,zW,zm,qi,R.q_len];omega)
  exact h
 refine aV.o.mono ?_
 rintro e w3 ⟨rfl,be,bj⟩
 have J3:Y (WInv w3 wb (l++yg r++jT r) (2:Nat)):=be
 have K3:Y (Kept wb wtags wa w3):=bj
 clear be bj aV
 have bG:(l++yg r++jT r).length<=90000000010000:=by
  rw[zW]
  show _+(lnS 2 [[112,97,116,104,32],R.q r.path,[59]]).length<=_
  unfold lnS
  simp only[xP,List.flatten_nil,zW,zm,qi,List.length_replicate,R.q_len] at bn ⊢;omega
 have a1:Y (l++res=(l++yg r++jT r)++((r.ms.map fun m=>R.lnMt (mtOf m)).flatten++jh r++jx r++(r.sets.map R.lnSet).flatten++(r.drops.map R.lnDrop).flatten++lnS 1 [[125]])):=by
  show _=_
  rw[<-aX.o];simp only[xY]
 generalize l++yg r++jT r=pre at*
 clear J2 K2 bn a2 a0 aX c1 f1
 have a6:=K3.o.cell ag.o (by decide)
 have bL:w3.cell? ⟨w.heap.size,2,none⟩=some (.slice m1 r.ms.length m2):=z8 a6
 clear a6
 go_wp2_with fail
 go_loopw [32] (fun iv wr=>∃k:Nat,k<=r.ms.length/\iv = .int .i64 k/\Y (WInv wr wb (pre++((r.ms.take k).map (fun m=>R.lnMt (mtOf m))).flatten) (2:Nat))/\(pre++((r.ms.take k).map (fun m=>R.lnMt (mtOf m))).flatten).length<=90000000010000+6100*k/\Y (Kept wb wtags wa wr)) (fun iv _=>r.ms.length - (intOf iv).toNat)
 case atStart=>exact⟨0,zl _,rfl,by rw[List.take_zero,List.map_nil,List.flatten_nil,xn];exact J3,by rw[List.take_zero,List.map_nil,List.flatten_nil,xn];omega,K3⟩
 case round=>
  obtain⟨k,hk,rfl,JR,af,KR⟩:=hrel
  clear J3 K3
  by_cases aa:k<r.ms.length
  ·have aC:(k:Int)<r.ms.length:=by omega
   obtain⟨gm,aA,ae,_,aB⟩:=World.ownsRow.form HM.o (by omega)
   simp only[qc] at ae
   obtain⟨rfl,_,rfl⟩:=ae
   have ab:=yD HM.o KR.o (by decide)
   have e0:wr.cell? ⟨gm,k*3,none⟩=some (.string (R.str r.ms[k].name)):=qO P.Mt.cells 3 (fun _=>rfl) ab (zM _ _) k 0 aa (by omega) rfl
   have e1:wr.cell? ⟨gm,k*3+1,none⟩=some (.bool r.ms[k].ask):=qO P.Mt.cells 3 (fun _=>rfl) ab (zM _ _) k 1 aa (by omega) rfl
   have e2:wr.cell? ⟨gm,k*3+2,none⟩=some (.string (R.str r.ms[k].val)):=qO P.Mt.cells 3 (fun _=>rfl) ab (zM _ _) k 2 aa (by omega) rfl
   clear ab
   have aR:=aL.o r.ms[k] (List.getElem_mem aa)
   have ad:=jD (fun m=>R.lnMt (mtOf m)) r.ms k aa pre
   have bp:(R.lnMt (mtOf r.ms[k])).length<=6100:=by
    unfold R.lnMt mtOf;split <;> simp only[zW,R.q_len,zm,qi] <;> omega
   have aZ:Y (Calls Tryz.prog 160 #[.pointer (some ⟨wb,0,none⟩),.agg #[.string (R.str r.ms[k].name),.bool r.ms[k].ask,.string (R.str r.ms[k].val)]] (wr.alloc (.cells #[.string (R.str r.ms[k].name),.bool r.ms[k].ask,.string (R.str r.ms[k].val)] 276)) fun e w'=>e = .returned (.tuple #[])/\WInv w' wb (pre++((r.ms.take (k+1)).map (fun m=>R.lnMt (mtOf m))).flatten) (2:Nat)/\Kept wb wtags wa w'/\(pre++((r.ms.take (k+1)).map (fun m=>R.lnMt (mtOf m))).flatten).length<=90000000010000+6100*(k+1)):=by
    refine(ziB (JR.o.grown (zJ _ _ none)) r.ms[k] aR.1 aR.2 (by omega)).mono ?_
    rintro e w' ⟨rfl,q1,q2⟩
    rw[ad]
    exact⟨rfl,q1,(KR.o.trans (qq (zJ _ _ none))).trans q2,by rw[zW];omega⟩
   clear ad bp aR aL
   generalize r.ms[k]=m at*
   obtain⟨mn,ma,mv⟩:=m
   simp only at e0 e1 e2 aZ
   go_wp2_with (go_at_call 160;refine aZ.o.mono ?_;rintro e w2 ⟨rfl,h2,h3,h4⟩)
   go_roundw
   case rel=>exact⟨k+1,by omega,by go_num,h2,h4,h3⟩
   case measure=>simp[intOf];omega
  ·have HE:k=r.ms.length:=by omega
   subst HE
   rw[List.take_length] at JR af
   have az:Y (l++res=(pre++(r.ms.map (fun m=>R.lnMt (mtOf m))).flatten)++(jh r++jx r++(r.sets.map R.lnSet).flatten++(r.drops.map R.lnDrop).flatten++lnS 1 [[125]])):=by
    show _=_
    rw[a1.o];simp only[xY]
   clear a1 HM aL
   generalize pre++(r.ms.map (fun m=>R.lnMt (mtOf m))).flatten=pre2 at*
   have bH:pre2.length<=90000100000000:=by omega
   clear af
   have a7:=KR.o.cell ag.o (by decide)
   have bM:wr.cell? ⟨w.heap.size,3,none⟩=some (.slice t1 r.tg.length t2):=z8 a7
   clear a7
   have aW:Y (Calls Tryz.prog 161 #[.slice t1 r.tg.length t2] wr fun e w'=>e = .returned (.string (R.str (R.lnTgs r.tg)))/\wr.grownBy w' none):=zi6 r.tg _ (yD a3.o KR.o (by decide)) bu aM.o (aK.o.kept KR.o bo.o)
   go_wp2_with fail
   refine aW.o.mono ?_
   rintro e wL ⟨rfl,aP⟩
   have KL:Y (Kept wb wtags wa wL):=KR.o.trans (qq aP)
   have JL:Y (WInv wL wb pre2 (2:Nat)):=WInv.grown JR.o aP
   clear aP aW a3 aM aK JR KR
   go_wp2_with fail
   have al:Y (Calls Tryz.prog 104 #[.pointer (some ⟨wb,0,none⟩),.slice (some ⟨wL.heap.size,0,none⟩) 3 3] (wL.alloc (.cells #[.string ⟨#[116,111,32]⟩,.string (R.str (R.lnTgs r.tg)),.string ⟨#[59]⟩] 9)) fun e w'=>e = .returned (.tuple #[])/\WInv w' wb (pre2++jh r) (2:Nat)/\Kept wb wtags wa w'):=by
    have h:=yM JL.o KL.o [[116,111,32],R.lnTgs r.tg,[59]] (by decide) (by omega) (by simp) (by simp only[xP,List.flatten_nil,zW,zm,qi];omega)
    exact h
   refine al.o.mono ?_
   rintro e w5 ⟨rfl,bf,bk⟩
   have J5:Y (WInv w5 wb (pre2++jh r) (2:Nat)):=bf
   have K5:Y (Kept wb wtags wa w5):=bk
   clear bf bk al
   have bv:(pre2++jh r).length<=90000200000000:=by
    rw[zW]
    show _+(lnS 2 [[116,111,32],R.lnTgs r.tg,[59]]).length<=_
    unfold lnS
    simp only[xP,List.flatten_nil,zW,zm,qi,List.length_replicate];omega
   clear KL JL bt
   by_cases aq:r.rep=[]
   ·have bD:R.str r.rep=⟨#[]⟩:=by rw[aq];rfl
    have am:Y (l++res=(pre2++jh r)++((r.sets.map R.lnSet).flatten++(r.drops.map R.lnDrop).flatten++lnS 1 [[125]])):=by
     show _=_
     rw[az.o];unfold jx;rw[if_pos aq];simp only[xY,List.nil_append]
    have ak:Y (wa.ownsRow 0 9 1 (.slice d1 r.drops.length d2) r.drops.length (r.drops.map fun s=>[Value.string (R.str s)]).flatten):=strRow1 ay.o
    clear az ay aJ aq
    generalize pre2++jh r=pre at*
    have au:=K5.o.cell ag.o (by decide)
    have bx:w5.cell? ⟨w.heap.size,4,none⟩=some (.string (R.str r.rep)):=z8 au
    clear au
    have a9:=K5.o.cell ag.o (by decide)
    have bO:w5.cell? ⟨w.heap.size,5,none⟩=some (.slice x1 r.sets.length x2):=z8 a9
    clear a9
    go_wp2_with fail
    go_loopw [58] (fun iv wr=>∃k:Nat,k<=r.sets.length/\iv = .int .i64 k/\Y (WInv wr wb (pre++((r.sets.take k).map R.lnSet).flatten) (2:Nat))/\(pre++((r.sets.take k).map R.lnSet).flatten).length<=90000300000000+6100*k/\Y (Kept wb wtags wa wr)) (fun iv _=>r.sets.length - (intOf iv).toNat)
    case atStart=>exact⟨0,zl _,rfl,by rw[List.take_zero,List.map_nil,List.flatten_nil,xn];exact J5,by rw[List.take_zero,List.map_nil,List.flatten_nil,xn];omega,K5⟩
    case round=>
     obtain⟨k,hk,rfl,JR,af,KR⟩:=hrel
     clear J5 K5
     by_cases aa:k<r.sets.length
     ·have aC:(k:Int)<r.sets.length:=by omega
      obtain⟨gm,aA,ae,_,aB⟩:=World.ownsRow.form an.o (by omega)
      simp only[qc] at ae
      obtain⟨rfl,_,rfl⟩:=ae
      have ab:=yD an.o KR.o (by decide)
      have e0:wr.cell? ⟨gm,k*2,none⟩=some (.string (R.str r.sets[k].1)):=qO (fun t:List UInt8×List UInt8=>[.string (R.str t.1),.string (R.str t.2)]) 2 (fun _=>rfl) ab (zM _ _) k 0 aa (by omega) rfl
      have e1:wr.cell? ⟨gm,k*2+1,none⟩=some (.string (R.str r.sets[k].2)):=qO (fun t:List UInt8×List UInt8=>[.string (R.str t.1),.string (R.str t.2)]) 2 (fun _=>rfl) ab (zM _ _) k 1 aa (by omega) rfl
      clear ab
      have aj:=ap.o r.sets[k] (List.getElem_mem aa)
      have ad:=jD R.lnSet r.sets k aa pre
      generalize bs:r.sets[k]=st at*
      obtain⟨sh,sv⟩:=st
      simp only at e0 e1 aj
      have aG:Y (∀W,Calls Tryz.prog 105 #[.string (R.str sh)] W fun e w'=>e = .returned (.string (R.str (R.q sh)))/\w'=W):=fun W=>xe sh W aj.1
      have aH:Y (∀W,Calls Tryz.prog 105 #[.string (R.str sv)] W fun e w'=>e = .returned (.string (R.str (R.q sv)))/\w'=W):=fun W=>xe sv W aj.2
      have ah:Y ((wr.alloc (.cells #[.string (R.str sh),.string (R.str sv)] 280)).heap[wr.heap.size]?=some (.cells #[.string (R.str sh),.string (R.str sv)] 280)):=heap_alloc_new _ _
      have b0:=zqW ah.o
      have b1:=zqX ah.o
      have al:Y (Calls Tryz.prog 104 #[.pointer (some ⟨wb,0,none⟩),.slice (some ⟨wr.heap.size+1,0,none⟩) 5 5] (((wr.alloc (.cells #[.string (R.str sh),.string (R.str sv)] 280)).drew).alloc (.cells #[.string ⟨#[115,101,116,32]⟩,.string (R.str (R.q sh)),.string ⟨#[32,61,32]⟩,.string (R.str (R.q sv)),.string ⟨#[59]⟩] 9)) fun e w'=>e = .returned (.tuple #[])/\WInv w' wb (pre++((r.sets.take (k+1)).map R.lnSet).flatten) (2:Nat)/\Kept wb wtags wa w'/\(pre++((r.sets.take (k+1)).map R.lnSet).flatten).length<=90000300000000+6100*(k+1)/\w'.cell? ⟨wr.heap.size,0,none⟩=some (.string (R.str sh))/\w'.cell? ⟨wr.heap.size,1,none⟩=some (.string (R.str sv))):=by
       have gD:wr.grownBy (wr.alloc (.cells #[.string (R.str sh),.string (R.str sv)] 280)).drew none:=zA (zJ _ _ none) (zQ _)
       have h:=yM (w0:=(wr.alloc (.cells #[.string (R.str sh),.string (R.str sv)] 280)).drew) (JR.o.grown gD) (Kept.refl _ _ _) [[115,101,116,32],R.q sh,[32,61,32],R.q sv,[59]] (by decide) (by omega) (by simp) (by simp only[xP,List.flatten_nil,zW,zm,qi,R.q_len];omega)
       rw[show((wr.alloc (.cells #[.string (R.str sh),.string (R.str sv)] 280)).drew).heap.size=wr.heap.size+1 by simp[World.drew]] at h
       have aQ:(R.lnSet (sh,sv)).length<=6100:=by
        unfold R.lnSet;simp only[zW,R.q_len,zm,qi];omega
       rw[ad]
       refine Calls.mono h fun e w' ⟨q1,q2,q3⟩=>⟨q1,?_,(KR.o.trans (qq gD)).trans q3,by rw[zW];omega,z8 (q3.cell (c:=#[.string (R.str sh),.string (R.str sv)]) ah.o (by decide)),z8 (q3.cell (c:=#[.string (R.str sh),.string (R.str sv)]) ah.o (by decide))⟩
       rw[zo0 (sh,sv)] at q2;exact q2
      clear ad aj ap JR KR ah
      go_wp2_with fail
      go_region_held3 (fun W=>W.cell? ⟨wr.heap.size,0,none⟩=some (.string (R.str sh))/\W.cell? ⟨wr.heap.size,1,none⟩=some (.string (R.str sv))) (go_keep) (first
       | (go_at_call 105;refine(aG.o _).mono ?_;rintro e w' ⟨rfl,rfl⟩)
       | (go_at_call 105;refine(aH.o _).mono ?_;rintro e w' ⟨rfl,rfl⟩)
       | (go_at_call 104;refine al.o.mono ?_;rintro e w3 ⟨rfl,h2,h3,h4,g4,g5⟩))
      all_goals
       go_wp2
       go_roundw
       case rel=>exact⟨k+1,by omega,by go_num,h2,h4,h3⟩
       case measure=>simp[intOf];omega
     ·have HE:k=r.sets.length:=by omega
      subst HE
      rw[List.take_length] at JR af
      have ar:Y (l++res=(pre++(r.sets.map R.lnSet).flatten)++((r.drops.map R.lnDrop).flatten++lnS 1 [[125]])):=by
       show _=_
       rw[am.o];simp only[xY]
      clear am an ap
      generalize pre++(r.sets.map R.lnSet).flatten=pre at*
      have bw:pre.length<=90000400000000:=by omega
      have J6:Y (WInv wr wb pre (2:Nat)):=JR
      have K6:Y (Kept wb wtags wa wr):=KR
      clear af JR KR hk
      have a8:=K6.o.cell ag.o (by decide)
      have bN:wr.cell? ⟨w.heap.size,6,none⟩=some (.slice d1 r.drops.length d2):=z8 a8
      clear a8
      go_wp2_with fail
      go_loopw [75] (fun iv wr=>∃k:Nat,k<=r.drops.length/\iv = .int .i64 k/\Y (WInv wr wb (pre++((r.drops.take k).map R.lnDrop).flatten) (2:Nat))/\(pre++((r.drops.take k).map R.lnDrop).flatten).length<=90000400000000+6100*k/\Y (Kept wb wtags wa wr)) (fun iv _=>r.drops.length - (intOf iv).toNat)
      case atStart=>exact⟨0,zl _,rfl,by rw[List.take_zero,List.map_nil,List.flatten_nil,xn];exact J6,by rw[List.take_zero,List.map_nil,List.flatten_nil,xn];omega,K6⟩
      case round=>
       obtain⟨k,hk,rfl,JR,af,KR⟩:=hrel
       clear J6 K6
       by_cases aa:k<r.drops.length
       ·have aC:(k:Int)<r.drops.length:=by omega
        obtain⟨gm,aA,ae,_,aB⟩:=World.ownsRow.form ak.o (by omega)
        simp only[qc] at ae
        obtain⟨rfl,_,rfl⟩:=ae
        have ab:=yD ak.o KR.o (by decide)
        have e0:wr.cell? ⟨gm,k*1,none⟩=some (.string (R.str r.drops[k])):=qO (fun s=>[Value.string (R.str s)]) 1 (fun _=>rfl) ab (zM _ _) k 0 aa (by omega) rfl
        clear ab
        rw[Nat.mul_one] at e0
        have ax:=ao.o r.drops[k] (List.getElem_mem aa)
        have ad:=jD R.lnDrop r.drops k aa pre
        generalize r.drops[k]=dk at*
        have aI:Y (∀W,Calls Tryz.prog 105 #[.string (R.str dk)] W fun e w'=>e = .returned (.string (R.str (R.q dk)))/\w'=W):=fun W=>xe dk W ax
        have aE:Y (Calls Tryz.prog 104 #[.pointer (some ⟨wb,0,none⟩),.slice (some ⟨wr.heap.size,0,none⟩) 3 3] (wr.alloc (.cells #[.string ⟨#[100,114,111,112,32]⟩,.string (R.str (R.q dk)),.string ⟨#[59]⟩] 9)) fun e w'=>e = .returned (.tuple #[])/\WInv w' wb (pre++((r.drops.take (k+1)).map R.lnDrop).flatten) (2:Nat)/\Kept wb wtags wa w'/\(pre++((r.drops.take (k+1)).map R.lnDrop).flatten).length<=90000400000000+6100*(k+1)):=by
         have h:=yM JR.o KR.o [[100,114,111,112,32],R.q dk,[59]] (by decide) (by omega) (by simp) (by simp only[xP,List.flatten_nil,zW,zm,qi,R.q_len];omega)
         have aQ:(R.lnDrop dk).length<=6100:=by
          unfold R.lnDrop;simp only[zW,R.q_len,zm,qi];omega
         rw[ad]
         refine Calls.mono h fun e w' ⟨q1,q2,q3⟩=>⟨q1,?_,q3,by rw[zW];omega⟩
         rw[ziX dk] at q2;exact q2
        clear ad ax ao JR KR
        go_wp2_with fail
        refine(aI.o _).mono ?_
        rintro e wq ⟨rfl,ai⟩
        rw[ai]
        clear ai wq
        go_wp2_with fail
        refine aE.o.mono ?_
        rintro e w7 ⟨rfl,h2,h3,h4⟩
        go_wp2
        go_roundw
        case rel=>exact⟨k+1,by omega,by go_num,h2,h4,h3⟩
        case measure=>simp[intOf];omega
       ·have HE:k=r.drops.length:=by omega
        subst HE
        rw[List.take_length] at JR af
        have aF:Y (l++res=(pre++(r.drops.map R.lnDrop).flatten)++lnS 1 [[125]]):=by
         show _=_
         rw[ar.o];simp only[xY]
        clear ar ak ao
        generalize pre++(r.drops.map R.lnDrop).flatten=pre8 at*
        have c8:wr.cell? ⟨wb,2,none⟩=some (.int .i64 2):=WInv.op JR.o
        have f8:wr.frozen? ⟨wb,2,none⟩=false:=WInv.fz JR.o
        obtain⟨av,aw⟩:=WInv.setOp JR.o (1:Nat)
        have J8:Y (WInv (wr.setCell ⟨wb,2,none⟩ (.int .i64 1)) wb pre8 (1:Nat)):=av
        have K8:Y (Kept wb wtags wa (wr.setCell ⟨wb,2,none⟩ (.int .i64 1))):=KR.o.trans aw
        clear av aw JR KR
        have aD:Y (Calls Tryz.prog 104 #[.pointer (some ⟨wb,0,none⟩),.slice (some ⟨wr.heap.size,0,none⟩) 1 1] ((wr.setCell ⟨wb,2,none⟩ (.int .i64 1)).alloc (.cells #[.string ⟨#[125]⟩] 9)) fun e w'=>e = .returned (.tuple #[])/\WInv w' wb (pre8++lnS 1 [[125]]) (1:Nat)/\Kept wb wtags wa w'):=by
         have h:=yM J8.o K8.o [[125]] (by decide) (by omega) (by simp) (by simp)
         rw[show(wr.setCell ⟨wb,2,none⟩ (.int .i64 1)).heap.size=wr.heap.size by simp[World.setCell]] at h
         exact h
        go_wp2_with fail
        refine aD.o.mono ?_
        rintro e w9 ⟨rfl,h2,h3⟩
        go_wp2
        go_end0
        rw[aF.o]
        exact⟨rfl,h2,aT.o.trans h3⟩
   ·have am:Y (l++res=(pre2++jh r++jx r)++((r.sets.map R.lnSet).flatten++(r.drops.map R.lnDrop).flatten++lnS 1 [[125]])):=by
     show _=_
     rw[az.o];simp only[xY]
    have bm:jx r=lnS 2 [[114,101,112,108,97,99,101,32],R.q r.rep,[59]]:=by unfold jx;rw[if_neg aq]
    have ak:Y (wa.ownsRow 0 9 1 (.slice d1 r.drops.length d2) r.drops.length (r.drops.map fun s=>[Value.string (R.str s)]).flatten):=strRow1 ay.o
    rw[bm] at am
    have bz:(R.str r.rep).toList.isEmpty=false:=by
     rw[ByteArray.toList_eq,R.str_toList]
     cases h:r.rep with
     | nil=>exact absurd h aq
     | cons _ _=>rfl
    clear az ay bm aq
    have au:=K5.o.cell ag.o (by decide)
    have bx:w5.cell? ⟨w.heap.size,4,none⟩=some (.string (R.str r.rep)):=z8 au
    clear au
    go_wp2_with fail
    refine(aJ.o _).mono ?_
    rintro e wq ⟨rfl,ai⟩
    rw[ai]
    clear ai wq
    go_wp2_with fail
    have aY:Y (Calls Tryz.prog 104 #[.pointer (some ⟨wb,0,none⟩),.slice (some ⟨w5.heap.size,0,none⟩) 3 3] (w5.alloc (.cells #[.string ⟨#[114,101,112,108,97,99,101,32]⟩,.string (R.str (R.q r.rep)),.string ⟨#[59]⟩] 9)) fun e w'=>e = .returned (.tuple #[])/\WInv w' wb (pre2++jh r++lnS 2 [[114,101,112,108,97,99,101,32],R.q r.rep,[59]]) (2:Nat)/\Kept wb wtags wa w'):=by
     have h:=yM J5.o K5.o [[114,101,112,108,97,99,101,32],R.q r.rep,[59]] (by decide) (by omega) (by simp) (by simp only[xP,List.flatten_nil,zW,zm,qi,R.q_len];omega)
     exact h
    refine aY.o.mono ?_
    rintro e wp ⟨rfl,bg,bl⟩
    have Jp:Y (WInv wp wb (pre2++jh r++lnS 2 [[114,101,112,108,97,99,101,32],R.q r.rep,[59]]) (2:Nat)):=bg
    have Kp:Y (Kept wb wtags wa wp):=bl
    clear bg bl aY
    have bI:(pre2++jh r++lnS 2 [[114,101,112,108,97,99,101,32],R.q r.rep,[59]]).length<=90000300000000:=by
     rw[zW]
     unfold lnS
     simp only[xP,List.flatten_nil,zW,zm,qi,List.length_replicate,R.q_len] at bv ⊢;omega
    generalize pre2++jh r++lnS 2 [[114,101,112,108,97,99,101,32],R.q r.rep,[59]]=pre at*
    clear J5 K5 aJ
    have bb:=Kp.o.cell ag.o (by decide)
    have bQ:wp.cell? ⟨w.heap.size,5,none⟩=some (.slice x1 r.sets.length x2):=z8 bb
    clear bb
    go_wp2_with fail
    go_loopw [58] (fun iv wr=>∃k:Nat,k<=r.sets.length/\iv = .int .i64 k/\Y (WInv wr wb (pre++((r.sets.take k).map R.lnSet).flatten) (2:Nat))/\(pre++((r.sets.take k).map R.lnSet).flatten).length<=90000300000000+6100*k/\Y (Kept wb wtags wa wr)) (fun iv _=>r.sets.length - (intOf iv).toNat)
    case atStart=>exact⟨0,zl _,rfl,by rw[List.take_zero,List.map_nil,List.flatten_nil,xn];exact Jp,by rw[List.take_zero,List.map_nil,List.flatten_nil,xn];omega,Kp⟩
    case round=>
     obtain⟨k,hk,rfl,JR,af,KR⟩:=hrel
     clear Jp Kp
     by_cases aa:k<r.sets.length
     ·have aC:(k:Int)<r.sets.length:=by omega
      obtain⟨gm,aA,ae,_,aB⟩:=World.ownsRow.form an.o (by omega)
      simp only[qc] at ae
      obtain⟨rfl,_,rfl⟩:=ae
      have ab:=yD an.o KR.o (by decide)
      have e0:wr.cell? ⟨gm,k*2,none⟩=some (.string (R.str r.sets[k].1)):=qO (fun t:List UInt8×List UInt8=>[.string (R.str t.1),.string (R.str t.2)]) 2 (fun _=>rfl) ab (zM _ _) k 0 aa (by omega) rfl
      have e1:wr.cell? ⟨gm,k*2+1,none⟩=some (.string (R.str r.sets[k].2)):=qO (fun t:List UInt8×List UInt8=>[.string (R.str t.1),.string (R.str t.2)]) 2 (fun _=>rfl) ab (zM _ _) k 1 aa (by omega) rfl
      clear ab
      have aj:=ap.o r.sets[k] (List.getElem_mem aa)
      have ad:=jD R.lnSet r.sets k aa pre
      generalize bs:r.sets[k]=st at*
      obtain⟨sh,sv⟩:=st
      simp only at e0 e1 aj
      have aG:Y (∀W,Calls Tryz.prog 105 #[.string (R.str sh)] W fun e w'=>e = .returned (.string (R.str (R.q sh)))/\w'=W):=fun W=>xe sh W aj.1
      have aH:Y (∀W,Calls Tryz.prog 105 #[.string (R.str sv)] W fun e w'=>e = .returned (.string (R.str (R.q sv)))/\w'=W):=fun W=>xe sv W aj.2
      have ah:Y ((wr.alloc (.cells #[.string (R.str sh),.string (R.str sv)] 280)).heap[wr.heap.size]?=some (.cells #[.string (R.str sh),.string (R.str sv)] 280)):=heap_alloc_new _ _
      have b0:=zqW ah.o
      have b1:=zqX ah.o
      have al:Y (Calls Tryz.prog 104 #[.pointer (some ⟨wb,0,none⟩),.slice (some ⟨wr.heap.size+1,0,none⟩) 5 5] (((wr.alloc (.cells #[.string (R.str sh),.string (R.str sv)] 280)).drew).alloc (.cells #[.string ⟨#[115,101,116,32]⟩,.string (R.str (R.q sh)),.string ⟨#[32,61,32]⟩,.string (R.str (R.q sv)),.string ⟨#[59]⟩] 9)) fun e w'=>e = .returned (.tuple #[])/\WInv w' wb (pre++((r.sets.take (k+1)).map R.lnSet).flatten) (2:Nat)/\Kept wb wtags wa w'/\(pre++((r.sets.take (k+1)).map R.lnSet).flatten).length<=90000300000000+6100*(k+1)/\w'.cell? ⟨wr.heap.size,0,none⟩=some (.string (R.str sh))/\w'.cell? ⟨wr.heap.size,1,none⟩=some (.string (R.str sv))):=by
       have gD:wr.grownBy (wr.alloc (.cells #[.string (R.str sh),.string (R.str sv)] 280)).drew none:=zA (zJ _ _ none) (zQ _)
       have h:=yM (w0:=(wr.alloc (.cells #[.string (R.str sh),.string (R.str sv)] 280)).drew) (JR.o.grown gD) (Kept.refl _ _ _) [[115,101,116,32],R.q sh,[32,61,32],R.q sv,[59]] (by decide) (by omega) (by simp) (by simp only[xP,List.flatten_nil,zW,zm,qi,R.q_len];omega)
       rw[show((wr.alloc (.cells #[.string (R.str sh),.string (R.str sv)] 280)).drew).heap.size=wr.heap.size+1 by simp[World.drew]] at h
       have aQ:(R.lnSet (sh,sv)).length<=6100:=by
        unfold R.lnSet;simp only[zW,R.q_len,zm,qi];omega
       rw[ad]
       refine Calls.mono h fun e w' ⟨q1,q2,q3⟩=>⟨q1,?_,(KR.o.trans (qq gD)).trans q3,by rw[zW];omega,z8 (q3.cell (c:=#[.string (R.str sh),.string (R.str sv)]) ah.o (by decide)),z8 (q3.cell (c:=#[.string (R.str sh),.string (R.str sv)]) ah.o (by decide))⟩
       rw[zo0 (sh,sv)] at q2;exact q2
      clear ad aj ap JR KR ah
      go_wp2_with fail
      go_region_held3 (fun W=>W.cell? ⟨wr.heap.size,0,none⟩=some (.string (R.str sh))/\W.cell? ⟨wr.heap.size,1,none⟩=some (.string (R.str sv))) (go_keep) (first
       | (go_at_call 105;refine(aG.o _).mono ?_;rintro e w' ⟨rfl,rfl⟩)
       | (go_at_call 105;refine(aH.o _).mono ?_;rintro e w' ⟨rfl,rfl⟩)
       | (go_at_call 104;refine al.o.mono ?_;rintro e w3 ⟨rfl,h2,h3,h4,g4,g5⟩))
      all_goals
       go_wp2
       go_roundw
       case rel=>exact⟨k+1,by omega,by go_num,h2,h4,h3⟩
       case measure=>simp[intOf];omega
     ·have HE:k=r.sets.length:=by omega
      subst HE
      rw[List.take_length] at JR af
      have ar:Y (l++res=(pre++(r.sets.map R.lnSet).flatten)++((r.drops.map R.lnDrop).flatten++lnS 1 [[125]])):=by
       show _=_
       rw[am.o];simp only[xY]
      clear am an ap
      generalize pre++(r.sets.map R.lnSet).flatten=pre at*
      have bw:pre.length<=90000400000000:=by omega
      have J6:Y (WInv wr wb pre (2:Nat)):=JR
      have K6:Y (Kept wb wtags wa wr):=KR
      clear af JR KR hk
      have ba:=K6.o.cell ag.o (by decide)
      have bP:wr.cell? ⟨w.heap.size,6,none⟩=some (.slice d1 r.drops.length d2):=z8 ba
      clear ba
      go_wp2_with fail
      go_loopw [75] (fun iv wr=>∃k:Nat,k<=r.drops.length/\iv = .int .i64 k/\Y (WInv wr wb (pre++((r.drops.take k).map R.lnDrop).flatten) (2:Nat))/\(pre++((r.drops.take k).map R.lnDrop).flatten).length<=90000400000000+6100*k/\Y (Kept wb wtags wa wr)) (fun iv _=>r.drops.length - (intOf iv).toNat)
      case atStart=>exact⟨0,zl _,rfl,by rw[List.take_zero,List.map_nil,List.flatten_nil,xn];exact J6,by rw[List.take_zero,List.map_nil,List.flatten_nil,xn];omega,K6⟩
      case round=>
       obtain⟨k,hk,rfl,JR,af,KR⟩:=hrel
       clear J6 K6
       by_cases aa:k<r.drops.length
       ·have aC:(k:Int)<r.drops.length:=by omega
        obtain⟨gm,aA,ae,_,aB⟩:=World.ownsRow.form ak.o (by omega)
        simp only[qc] at ae
        obtain⟨rfl,_,rfl⟩:=ae
        have ab:=yD ak.o KR.o (by decide)
        have e0:wr.cell? ⟨gm,k*1,none⟩=some (.string (R.str r.drops[k])):=qO (fun s=>[Value.string (R.str s)]) 1 (fun _=>rfl) ab (zM _ _) k 0 aa (by omega) rfl
        clear ab
        rw[Nat.mul_one] at e0
        have ax:=ao.o r.drops[k] (List.getElem_mem aa)
        have ad:=jD R.lnDrop r.drops k aa pre
        generalize r.drops[k]=dk at*
        have aI:Y (∀W,Calls Tryz.prog 105 #[.string (R.str dk)] W fun e w'=>e = .returned (.string (R.str (R.q dk)))/\w'=W):=fun W=>xe dk W ax
        have aE:Y (Calls Tryz.prog 104 #[.pointer (some ⟨wb,0,none⟩),.slice (some ⟨wr.heap.size,0,none⟩) 3 3] (wr.alloc (.cells #[.string ⟨#[100,114,111,112,32]⟩,.string (R.str (R.q dk)),.string ⟨#[59]⟩] 9)) fun e w'=>e = .returned (.tuple #[])/\WInv w' wb (pre++((r.drops.take (k+1)).map R.lnDrop).flatten) (2:Nat)/\Kept wb wtags wa w'/\(pre++((r.drops.take (k+1)).map R.lnDrop).flatten).length<=90000400000000+6100*(k+1)):=by
         have h:=yM JR.o KR.o [[100,114,111,112,32],R.q dk,[59]] (by decide) (by omega) (by simp) (by simp only[xP,List.flatten_nil,zW,zm,qi,R.q_len];omega)
         have aQ:(R.lnDrop dk).length<=6100:=by
          unfold R.lnDrop;simp only[zW,R.q_len,zm,qi];omega
         rw[ad]
         refine Calls.mono h fun e w' ⟨q1,q2,q3⟩=>⟨q1,?_,q3,by rw[zW];omega⟩
         rw[ziX dk] at q2;exact q2
        clear ad ax ao JR KR
        go_wp2_with fail
        refine(aI.o _).mono ?_
        rintro e wq ⟨rfl,ai⟩
        rw[ai]
        clear ai wq
        go_wp2_with fail
        refine aE.o.mono ?_
        rintro e w7 ⟨rfl,h2,h3,h4⟩
        go_wp2
        go_roundw
        case rel=>exact⟨k+1,by omega,by go_num,h2,h4,h3⟩
        case measure=>simp[intOf];omega
       ·have HE:k=r.drops.length:=by omega
        subst HE
        rw[List.take_length] at JR af
        have aF:Y (l++res=(pre++(r.drops.map R.lnDrop).flatten)++lnS 1 [[125]]):=by
         show _=_
         rw[ar.o];simp only[xY]
        clear ar ak ao
        generalize pre++(r.drops.map R.lnDrop).flatten=pre8 at*
        have c8:wr.cell? ⟨wb,2,none⟩=some (.int .i64 2):=WInv.op JR.o
        have f8:wr.frozen? ⟨wb,2,none⟩=false:=WInv.fz JR.o
        obtain⟨av,aw⟩:=WInv.setOp JR.o (1:Nat)
        have J8:Y (WInv (wr.setCell ⟨wb,2,none⟩ (.int .i64 1)) wb pre8 (1:Nat)):=av
        have K8:Y (Kept wb wtags wa (wr.setCell ⟨wb,2,none⟩ (.int .i64 1))):=KR.o.trans aw
        clear av aw JR KR
        have aD:Y (Calls Tryz.prog 104 #[.pointer (some ⟨wb,0,none⟩),.slice (some ⟨wr.heap.size,0,none⟩) 1 1] ((wr.setCell ⟨wb,2,none⟩ (.int .i64 1)).alloc (.cells #[.string ⟨#[125]⟩] 9)) fun e w'=>e = .returned (.tuple #[])/\WInv w' wb (pre8++lnS 1 [[125]]) (1:Nat)/\Kept wb wtags wa w'):=by
         have h:=yM J8.o K8.o [[125]] (by decide) (by omega) (by simp) (by simp)
         rw[show(wr.setCell ⟨wb,2,none⟩ (.int .i64 1)).heap.size=wr.heap.size by simp[World.setCell]] at h
         exact h
        go_wp2_with fail
        refine aD.o.mono ?_
        rintro e w9 ⟨rfl,h2,h3⟩
        go_wp2
        go_end0
        rw[aF.o]
        exact⟨rfl,h2,aT.o.trans h3⟩
end Go.Proofs.YtfocdefchbnkpaaGreatDoor
