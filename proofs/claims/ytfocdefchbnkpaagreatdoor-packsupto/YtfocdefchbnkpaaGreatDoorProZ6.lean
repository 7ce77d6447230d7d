/- The writer of a policy: a rule. -/
import Derived.Test.YtfocdefchbnkpaaGreatDoorAli
import Derived.Test.YtfocdefchbnkpaaGreatDoorKpC
set_option maxRecDepth 100000
set_option maxHeartbeats 20000000
namespace Go.Proofs.YtfocdefchbnkpaaGreatDoor
open Go.RowKit
theorem jD {w w':World}{B B':Nat}{l:List TypeId}{e:TypeId}{s:Nat}{v:Value}{n:Nat}{xs:List Value}(h:w.ownsRow B e s v n xs)(hk:Kept B' l w w')(ht:e ∉ l):w'.ownsRow B e s v n xs:=by
 refine⟨h.1,?_⟩
 rcases h.2 with h | ⟨g,cap,cur,rfl,hB,hb,r⟩
 ·exact Or.inl h
 ·exact Or.inr ⟨g,cap,cur,rfl,hB,hk.cell hb ht,r⟩
theorem WInv.setOp {w:World}{wb:Nat}{l:List UInt8}{op:Int}(h:WInv w wb l op)(aa:Int):WInv (w.setCell ⟨wb,2,none⟩ (.int .i64 aa)) wb l aa/\Kept wb wtags w (w.setCell ⟨wb,2,none⟩ (.int .i64 aa)):=by
 have hg:=zG w wb 2 (.int .i64 aa)
 rcases h with ⟨v,hb,ho⟩ | ⟨v,hb,ho⟩
 ·exact⟨Or.inl ⟨v,zR hb _,zV ho hg (fun k hk e=>by have:=(zx ho k hk).1;cases e;omega)⟩,jx hg hb (by decide) (zw _)⟩
 ·exact⟨Or.inr ⟨v,zR hb _,zV ho hg (fun k hk e=>by have:=(zx ho k hk).1;cases e;omega)⟩,jx hg hb (by decide) (zw _)⟩
theorem WInv.fz {w:World}{wb:Nat}{l:List UInt8}{op:Int}(h:WInv w wb l op):w.frozen? ⟨wb,2,none⟩=false:=by
 rcases h with ⟨v,hb,ho⟩ | ⟨v,hb,ho⟩
 ·exact zH hb
 ·exact zH hb
theorem jU {w0 W:World}{wb:Nat}{l:List UInt8}{op:Nat}(h:WInv W wb l op)(hk:Kept wb wtags w0 W)(ps:List (List UInt8))(aa:op<=3)(hl:l.length<=100000000000000)(hp:ps.length<=10)(hf:ps.flatten.length<=100000000) :
  Calls Tryz.prog 104 #[.pointer (some ⟨wb,0,none⟩),.slice (some ⟨W.heap.size,0,none⟩) ps.length ps.length] (W.alloc (.cells (zf ps).toArray 9)) fun e w'=>e = .returned (.tuple #[])/\WInv w' wb (l++lnS op ps) op/\Kept wb wtags w0 w':=
 (zjG (op:=op) (h.grown (zL _ _ _)) W.heap.size ps.length ps (heap_alloc_new _ _) aa (by omega) (by omega)).mono fun e w' ⟨g1,g2,g3⟩=>⟨g1,g2,(hk.trans (xi (zL _ _ none))).trans g3⟩
theorem kD {α:Type}(f:α->List UInt8)(l:List α)(k:Nat)(hk:k<l.length)(aa:List UInt8):aa++((l.take (k+1)).map f).flatten=aa++((l.take k).map f).flatten++f l[k]:=by
 rw[jz f l k hk,x4]
theorem znH {w:World}{wb:Nat}{l:List UInt8}(h:WInv w wb l (1:Nat))(cs:List Value)(r:P.Rl)(hr:PRuleVal w cs r)(hs:R.Small (toRl r))(hl:l.length<=90000000000000)(hT:GT w)(hB:GTB wb) :
  Calls Tryz.prog 106 #[.pointer (some ⟨wb,0,none⟩),.agg cs.toArray] w fun e w'=>e = .returned (.tuple #[])/\WInv w' wb (l++R.lines (toRl r)) (1:Nat)/\Kept wb wtags w w':=by
 obtain⟨vM,vT,vS,vD,rfl,hM,aN,hS,hD⟩:=hr
 obtain⟨m1,m2,rfl⟩:=zO hM
 obtain⟨t1,t2,rfl⟩:=zO aN
 obtain⟨x1,x2,rfl⟩:=zO hS
 obtain⟨d1,d2,rfl⟩:=zO hD
 have gA:w.grownBy (w.alloc (.cells #[.int .i64 r.number,.string (R.str r.path),.slice m1 r.ms.length m2,.slice t1 r.tg.length t2,.string (R.str r.rep),.slice x1 r.sets.length x2,.slice d1 r.drops.length d2] 213)) none:=zL _ _ _
 have ag:Y ((w.alloc (.cells #[.int .i64 r.number,.string (R.str r.path),.slice m1 r.ms.length m2,.slice t1 r.tg.length t2,.string (R.str r.rep),.slice x1 r.sets.length x2,.slice d1 r.drops.length d2] 213)).heap[w.heap.size]?=some (.cells #[.int .i64 r.number,.string (R.str r.path),.slice m1 r.ms.length m2,.slice t1 r.tg.length t2,.string (R.str r.rep),.slice x1 r.sets.length x2,.slice d1 r.drops.length d2] 213)):=heap_alloc_new _ _
 have J0:Y (WInv (w.alloc (.cells #[.int .i64 r.number,.string (R.str r.path),.slice m1 r.ms.length m2,.slice t1 r.tg.length t2,.string (R.str r.rep),.slice x1 r.sets.length x2,.slice d1 r.drops.length d2] 213)) wb l (1:Nat)):=h.grown gA
 have aK:Y (GT (w.alloc (.cells #[.int .i64 r.number,.string (R.str r.path),.slice m1 r.ms.length m2,.slice t1 r.tg.length t2,.string (R.str r.rep),.slice x1 r.sets.length x2,.slice d1 r.drops.length d2] 213))):=hT.grown gA
 have bo:Y (GTB wb):=hB
 have aT:Y (Kept wb wtags w (w.alloc (.cells #[.int .i64 r.number,.string (R.str r.path),.slice m1 r.ms.length m2,.slice t1 r.tg.length t2,.string (R.str r.rep),.slice x1 r.sets.length x2,.slice d1 r.drops.length d2] 213))):=xi gA
 have HM:=J (zV hM gA (fun k hk c=>by cases c))
 have a3:=J (zV aN gA (fun k hk c=>by cases c))
 have an:=J (zV hS gA (fun k hk c=>by cases c))
 have ay:=J (zV hD gA (fun k hk c=>by cases c))
 have K0:Y (Kept wb wtags (w.alloc (.cells #[.int .i64 r.number,.string (R.str r.path),.slice m1 r.ms.length m2,.slice t1 r.tg.length t2,.string (R.str r.rep),.slice x1 r.sets.length x2,.slice d1 r.drops.length d2] 213)) (w.alloc (.cells #[.int .i64 r.number,.string (R.str r.path),.slice m1 r.ms.length m2,.slice t1 r.tg.length t2,.string (R.str r.rep),.slice x1 r.sets.length x2,.slice d1 r.drops.length d2] 213))):=Kept.refl _ _ _
 have aS:0<=r.number/\r.number<=99999:=hs.num
 have a0:Y (0<=r.number/\r.number<=99999):=aS
 have bq:r.path.length<=3000:=hs.path
 have br:r.rep.length<=3000:=hs.to
 have aL:Y (∀m∈r.ms,m.name.length<=3000/\m.val.length<=3000):=fun m hm=>hs.ms.2 (mtOf m) (List.mem_map_of_mem hm)
 have bC:r.ms.length<=4000:=by have:=hs.ms.1;simpa[toRl,rlOf] using this
 have aM:Y (∀t∈r.tg,t.1.length<=3000/\0<=t.2/\t.2<=99999):=hs.tg.2
 have bu:r.tg.length<=4000:=hs.tg.1
 have ap:Y (∀t∈r.sets,t.1.length<=3000/\t.2.length<=3000):=hs.sets.2
 have bE:r.sets.length<=4000:=hs.sets.1
 have ao:Y (∀t∈r.drops,t.length<=3000):=hs.drops.2
 have bB:r.drops.length<=4000:=hs.drops.1
 have bA:(R.decI r.number).length<=5:=R.decI_len _ aS
 have bt:=zlY r.tg aM.o
 have aX:Y (jw r++kT r++(r.ms.map fun m=>R.lnMt (mtOf m)).flatten++ki r++wW r++(r.sets.map R.lnSet).flatten++(r.drops.map R.lnDrop).flatten++lnS 1 [[125]]=R.lines (toRl r)):=zq2 r
 have HI:Y (Calls Tryz.prog 159 #[.int .i64 r.number] (w.alloc (.cells #[.int .i64 r.number,.string (R.str r.path),.slice m1 r.ms.length m2,.slice t1 r.tg.length t2,.string (R.str r.rep),.slice x1 r.sets.length x2,.slice d1 r.drops.length d2] 213)) fun e w'=>e = .returned (.string (R.str (R.decI r.number)))/\(w.alloc (.cells #[.int .i64 r.number,.string (R.str r.path),.slice m1 r.ms.length m2,.slice t1 r.tg.length t2,.string (R.str r.rep),.slice x1 r.sets.length x2,.slice d1 r.drops.length d2] 213)).grownBy w' none):=zjP aK.o r.number a0.o
 have a2:Y (∀W,Calls Tryz.prog 105 #[.string (R.str r.path)] W fun e w'=>e = .returned (.string (R.str (R.q r.path)))/\w'=W):=fun W=>ym r.path W bq
 have aJ:Y (∀W,Calls Tryz.prog 105 #[.string (R.str r.rep)] W fun e w'=>e = .returned (.string (R.str (R.q r.rep)))/\w'=W):=fun W=>ym r.rep W br
 clear h hT hB hM aN hS hD hs aS
 generalize R.lines (toRl r)=res at*
 go_enter Tryz.func106,Tryz.ntmps106
 go_wp2_with fail
 refine HI.o.mono ?_
 rintro e wI ⟨rfl,aO⟩
 have KI:Y (Kept wb wtags (w.alloc (.cells #[.int .i64 r.number,.string (R.str r.path),.slice m1 r.ms.length m2,.slice t1 r.tg.length t2,.string (R.str r.rep),.slice x1 r.sets.length x2,.slice d1 r.drops.length d2] 213)) wI):=K0.o.trans (xi aO)
 have JI:Y (WInv wI wb l (1:Nat)):=J0.o.grown aO
 have bF:=zI ag.o
 generalize w.alloc (.cells #[.int .i64 r.number,.string (R.str r.path),.slice m1 r.ms.length m2,.slice t1 r.tg.length t2,.string (R.str r.rep),.slice x1 r.sets.length x2,.slice d1 r.drops.length d2] 213)=wa at*
 clear aO HI gA J0 K0
 go_wp2_with fail
 have aU:Y (Calls Tryz.prog 104 #[.pointer (some ⟨wb,0,none⟩),.slice (some ⟨wI.heap.size,0,none⟩) 3 3] (wI.alloc (.cells #[.string ⟨#[114,117,108,101,32]⟩,.string (R.str (R.decI r.number)),.string ⟨#[32,123]⟩] 9)) fun e w'=>e = .returned (.tuple #[])/\WInv w' wb (l++jw r) (1:Nat)/\Kept wb wtags wa w'):=by
  have h:=jU JI.o KI.o [[114,117,108,101,32],R.decI r.number,[32,123]] (by decide) (by omega) (by simp) (by simp only[zf7,List.flatten_nil,zh,zoF,zmU];omega)
  exact h
 refine aU.o.mono ?_
 rintro e w1 ⟨rfl,bc,bh⟩
 have J1:Y (WInv w1 wb (l++jw r) (1:Nat)):=bc
 have K1:Y (Kept wb wtags wa w1):=bh
 clear bc bh aU
 have a4:=K1.o.cell ag.o (by decide)
 have bJ:w1.cell? ⟨w.heap.size,1,none⟩=some (.string (R.str r.path)):=zB a4
 clear a4
 have c1:w1.cell? ⟨wb,2,none⟩=some (.int .i64 1):=WInv.op J1.o
 have f1:w1.frozen? ⟨wb,2,none⟩=false:=WInv.fz J1.o
 obtain⟨bd,bi⟩:=WInv.setOp J1.o (2:Nat)
 have J2:Y (WInv (w1.setCell ⟨wb,2,none⟩ (.int .i64 2)) wb (l++jw r) (2:Nat)):=bd
 have K2:Y (Kept wb wtags wa (w1.setCell ⟨wb,2,none⟩ (.int .i64 2))):=K1.o.trans bi
 have bn:(l++jw r).length<=90000000001000:=by
  show(l++lnS 1 [[114,117,108,101,32],R.decI r.number,[32,123]]).length<=_
  unfold lnS
  simp only[zf7,List.flatten_nil,zh,zoF,zmU,List.length_replicate];omega
 clear bd bi J1 K1 JI KI
 have a5:=K2.o.cell ag.o (by decide)
 have bK:(w1.setCell ⟨wb,2,none⟩ (.int .i64 2)).cell? ⟨w.heap.size,1,none⟩=some (.string (R.str r.path)):=zB a5
 clear a5
 go_wp2_with fail
 refine(a2.o _).mono ?_
 rintro e wq ⟨rfl,ai⟩
 subst ai
 generalize w1.setCell ⟨wb,2,none⟩ (.int .i64 2)=w2 at*
 go_wp2_with fail
 have aV:Y (Calls Tryz.prog 104 #[.pointer (some ⟨wb,0,none⟩),.slice (some ⟨w2.heap.size,0,none⟩) 3 3] (w2.alloc (.cells #[.string ⟨#[112,97,116,104,32]⟩,.string (R.str (R.q r.path)),.string ⟨#[59]⟩] 9)) fun e w'=>e = .returned (.tuple #[])/\WInv w' wb (l++jw r++kT r) (2:Nat)/\Kept wb wtags wa w'):=by
  have h:=jU J2.o K2.o [[112,97,116,104,32],R.q r.path,[59]] (by decide) (by omega) (by simp) (by simp only[zf7,List.flatten_nil,zh,zoF,zmU,R.q_len];omega)
  exact h
 refine aV.o.mono ?_
 rintro e w3 ⟨rfl,be,bj⟩
 have J3:Y (WInv w3 wb (l++jw r++kT r) (2:Nat)):=be
 have K3:Y (Kept wb wtags wa w3):=bj
 clear be bj aV
 have bG:(l++jw r++kT r).length<=90000000010000:=by
  rw[zh]
  show _+(lnS 2 [[112,97,116,104,32],R.q r.path,[59]]).length<=_
  unfold lnS
  simp only[zf7,List.flatten_nil,zh,zoF,zmU,List.length_replicate,R.q_len] at bn ⊢;omega
 have a1:Y (l++res=(l++jw r++kT r)++((r.ms.map fun m=>R.lnMt (mtOf m)).flatten++ki r++wW r++(r.sets.map R.lnSet).flatten++(r.drops.map R.lnDrop).flatten++lnS 1 [[125]])):=by
  show _=_
  rw[<-aX.o];simp only[x4]
 generalize l++jw r++kT r=pre at*
 clear J2 K2 bn a2 a0 aX c1 f1
 have a6:=K3.o.cell ag.o (by decide)
 have bL:w3.cell? ⟨w.heap.size,2,none⟩=some (.slice m1 r.ms.length m2):=zB a6
 clear a6
 go_wp2_with fail
 go_loopw [32] (fun iv wr=>∃k:Nat,k<=r.ms.length/\iv = .int .i64 k/\Y (WInv wr wb (pre++((r.ms.take k).map (fun m=>R.lnMt (mtOf m))).flatten) (2:Nat))/\(pre++((r.ms.take k).map (fun m=>R.lnMt (mtOf m))).flatten).length<=90000000010000+6100*k/\Y (Kept wb wtags wa wr)) (fun iv _=>r.ms.length - (intOf iv).toNat)
 case atStart=>exact⟨0,zo _,rfl,by rw[List.take_zero,List.map_nil,List.flatten_nil,zb3];exact J3,by rw[List.take_zero,List.map_nil,List.flatten_nil,zb3];omega,K3⟩
 case round=>
  obtain⟨k,hk,rfl,JR,af,KR⟩:=hrel
  clear J3 K3
  by_cases aa:k<r.ms.length
  ·have aC:(k:Int)<r.ms.length:=by omega
   obtain⟨gm,aA,ae,_,aB⟩:=World.ownsRow.form HM.o (by omega)
   simp only[qQ] at ae
   obtain⟨rfl,_,rfl⟩:=ae
   have ab:=jD HM.o KR.o (by decide)
   have e0:wr.cell? ⟨gm,k*3,none⟩=some (.string (R.str r.ms[k].name)):=qx P.Mt.cells 3 (fun _=>rfl) ab (ze _ _) k 0 aa (by omega) rfl
   have e1:wr.cell? ⟨gm,k*3+1,none⟩=some (.bool r.ms[k].ask):=qx P.Mt.cells 3 (fun _=>rfl) ab (ze _ _) k 1 aa (by omega) rfl
   have e2:wr.cell? ⟨gm,k*3+2,none⟩=some (.string (R.str r.ms[k].val)):=qx P.Mt.cells 3 (fun _=>rfl) ab (ze _ _) k 2 aa (by omega) rfl
   clear ab
   have aR:=aL.o r.ms[k] (List.getElem_mem aa)
   have ad:=kD (fun m=>R.lnMt (mtOf m)) r.ms k aa pre
   have bp:(R.lnMt (mtOf r.ms[k])).length<=6100:=by
    unfold R.lnMt mtOf;split <;> simp only[zh,R.q_len,zoF,zmU] <;> omega
   have aZ:Y (Calls Tryz.prog 160 #[.pointer (some ⟨wb,0,none⟩),.agg #[.string (R.str r.ms[k].name),.bool r.ms[k].ask,.string (R.str r.ms[k].val)]] (wr.alloc (.cells #[.string (R.str r.ms[k].name),.bool r.ms[k].ask,.string (R.str r.ms[k].val)] 276)) fun e w'=>e = .returned (.tuple #[])/\WInv w' wb (pre++((r.ms.take (k+1)).map (fun m=>R.lnMt (mtOf m))).flatten) (2:Nat)/\Kept wb wtags wa w'/\(pre++((r.ms.take (k+1)).map (fun m=>R.lnMt (mtOf m))).flatten).length<=90000000010000+6100*(k+1)):=by
    refine(zlC (JR.o.grown (zL _ _ none)) r.ms[k] aR.1 aR.2 (by omega)).mono ?_
    rintro e w' ⟨rfl,q1,q2⟩
    rw[ad]
    exact⟨rfl,q1,(KR.o.trans (xi (zL _ _ none))).trans q2,by rw[zh];omega⟩
   clear ad bp aR aL
   generalize r.ms[k]=m at*
   obtain⟨mn,ma,mv⟩:=m
   simp only at e0 e1 e2 aZ
   go_wp2_with (go_at_call 160;refine aZ.o.mono ?_;rintro e w2 ⟨rfl,h2,h3,h4⟩)
   go_roundw
   case rel=>exact⟨k+1,by omega,by go_num,h2,h4,h3⟩
   case measure=>simp[intOf];omega
  ·have HE:k=r.ms.length:=by omega
   subst HE
   rw[List.take_length] at JR af
   have az:Y (l++res=(pre++(r.ms.map (fun m=>R.lnMt (mtOf m))).flatten)++(ki r++wW r++(r.sets.map R.lnSet).flatten++(r.drops.map R.lnDrop).flatten++lnS 1 [[125]])):=by
    show _=_
    rw[a1.o];simp only[x4]
   clear a1 HM aL
   generalize pre++(r.ms.map (fun m=>R.lnMt (mtOf m))).flatten=pre2 at*
   have bH:pre2.length<=90000100000000:=by omega
   clear af
   have a7:=KR.o.cell ag.o (by decide)
   have bM:wr.cell? ⟨w.heap.size,3,none⟩=some (.slice t1 r.tg.length t2):=zB a7
   clear a7
   have aW:Y (Calls Tryz.prog 161 #[.slice t1 r.tg.length t2] wr fun e w'=>e = .returned (.string (R.str (R.lnTgs r.tg)))/\wr.grownBy w' none):=zk7 r.tg _ (jD a3.o KR.o (by decide)) bu aM.o (aK.o.kept KR.o bo.o)
   go_wp2_with fail
   refine aW.o.mono ?_
   rintro e wL ⟨rfl,aP⟩
   have KL:Y (Kept wb wtags wa wL):=KR.o.trans (xi aP)
   have JL:Y (WInv wL wb pre2 (2:Nat)):=WInv.grown JR.o aP
   clear aP aW a3 aM aK JR KR
   go_wp2_with fail
   have al:Y (Calls Tryz.prog 104 #[.pointer (some ⟨wb,0,none⟩),.slice (some ⟨wL.heap.size,0,none⟩) 3 3] (wL.alloc (.cells #[.string ⟨#[116,111,32]⟩,.string (R.str (R.lnTgs r.tg)),.string ⟨#[59]⟩] 9)) fun e w'=>e = .returned (.tuple #[])/\WInv w' wb (pre2++ki r) (2:Nat)/\Kept wb wtags wa w'):=by
    have h:=jU JL.o KL.o [[116,111,32],R.lnTgs r.tg,[59]] (by decide) (by omega) (by simp) (by simp only[zf7,List.flatten_nil,zh,zoF,zmU];omega)
    exact h
   refine al.o.mono ?_
   rintro e w5 ⟨rfl,bf,bk⟩
   have J5:Y (WInv w5 wb (pre2++ki r) (2:Nat)):=bf
   have K5:Y (Kept wb wtags wa w5):=bk
   clear bf bk al
   have bv:(pre2++ki r).length<=90000200000000:=by
    rw[zh]
    show _+(lnS 2 [[116,111,32],R.lnTgs r.tg,[59]]).length<=_
    unfold lnS
    simp only[zf7,List.flatten_nil,zh,zoF,zmU,List.length_replicate];omega
   clear KL JL bt
   by_cases aq:r.rep=[]
   ·have bD:R.str r.rep=⟨#[]⟩:=by rw[aq];rfl
    have am:Y (l++res=(pre2++ki r)++((r.sets.map R.lnSet).flatten++(r.drops.map R.lnDrop).flatten++lnS 1 [[125]])):=by
     show _=_
     rw[az.o];unfold wW;rw[if_pos aq];simp only[x4,List.nil_append]
    have ak:Y (wa.ownsRow 0 9 1 (.slice d1 r.drops.length d2) r.drops.length (r.drops.map fun s=>[Value.string (R.str s)]).flatten):=strRow1 ay.o
    clear az ay aJ aq
    generalize pre2++ki r=pre at*
    have au:=K5.o.cell ag.o (by decide)
    have bx:w5.cell? ⟨w.heap.size,4,none⟩=some (.string (R.str r.rep)):=zB au
    clear au
    have a9:=K5.o.cell ag.o (by decide)
    have bO:w5.cell? ⟨w.heap.size,5,none⟩=some (.slice x1 r.sets.length x2):=zB a9
    clear a9
    go_wp2_with fail
    go_loopw [58] (fun iv wr=>∃k:Nat,k<=r.sets.length/\iv = .int .i64 k/\Y (WInv wr wb (pre++((r.sets.take k).map R.lnSet).flatten) (2:Nat))/\(pre++((r.sets.take k).map R.lnSet).flatten).length<=90000300000000+6100*k/\Y (Kept wb wtags wa wr)) (fun iv _=>r.sets.length - (intOf iv).toNat)
    case atStart=>exact⟨0,zo _,rfl,by rw[List.take_zero,List.map_nil,List.flatten_nil,zb3];exact J5,by rw[List.take_zero,List.map_nil,List.flatten_nil,zb3];omega,K5⟩
    case round=>
     obtain⟨k,hk,rfl,JR,af,KR⟩:=hrel
     clear J5 K5
     by_cases aa:k<r.sets.length
     ·have aC:(k:Int)<r.sets.length:=by omega
      obtain⟨gm,aA,ae,_,aB⟩:=World.ownsRow.form an.o (by omega)
      simp only[qQ] at ae
      obtain⟨rfl,_,rfl⟩:=ae
      have ab:=jD an.o KR.o (by decide)
      have e0:wr.cell? ⟨gm,k*2,none⟩=some (.string (R.str r.sets[k].1)):=qx (fun t:List UInt8×List UInt8=>[.string (R.str t.1),.string (R.str t.2)]) 2 (fun _=>rfl) ab (ze _ _) k 0 aa (by omega) rfl
      have e1:wr.cell? ⟨gm,k*2+1,none⟩=some (.string (R.str r.sets[k].2)):=qx (fun t:List UInt8×List UInt8=>[.string (R.str t.1),.string (R.str t.2)]) 2 (fun _=>rfl) ab (ze _ _) k 1 aa (by omega) rfl
      clear ab
      have aj:=ap.o r.sets[k] (List.getElem_mem aa)
      have ad:=kD R.lnSet r.sets k aa pre
      generalize bs:r.sets[k]=st at*
      obtain⟨sh,sv⟩:=st
      simp only at e0 e1 aj
      have aG:Y (∀W,Calls Tryz.prog 105 #[.string (R.str sh)] W fun e w'=>e = .returned (.string (R.str (R.q sh)))/\w'=W):=fun W=>ym sh W aj.1
      have aH:Y (∀W,Calls Tryz.prog 105 #[.string (R.str sv)] W fun e w'=>e = .returned (.string (R.str (R.q sv)))/\w'=W):=fun W=>ym sv W aj.2
      have ah:Y ((wr.alloc (.cells #[.string (R.str sh),.string (R.str sv)] 280)).heap[wr.heap.size]?=some (.cells #[.string (R.str sh),.string (R.str sv)] 280)):=heap_alloc_new _ _
      have b0:=zuH ah.o
      have b1:=zuB ah.o
      have al:Y (Calls Tryz.prog 104 #[.pointer (some ⟨wb,0,none⟩),.slice (some ⟨wr.heap.size+1,0,none⟩) 5 5] (((wr.alloc (.cells #[.string (R.str sh),.string (R.str sv)] 280)).drew).alloc (.cells #[.string ⟨#[115,101,116,32]⟩,.string (R.str (R.q sh)),.string ⟨#[32,61,32]⟩,.string (R.str (R.q sv)),.string ⟨#[59]⟩] 9)) fun e w'=>e = .returned (.tuple #[])/\WInv w' wb (pre++((r.sets.take (k+1)).map R.lnSet).flatten) (2:Nat)/\Kept wb wtags wa w'/\(pre++((r.sets.take (k+1)).map R.lnSet).flatten).length<=90000300000000+6100*(k+1)/\w'.cell? ⟨wr.heap.size,0,none⟩=some (.string (R.str sh))/\w'.cell? ⟨wr.heap.size,1,none⟩=some (.string (R.str sv))):=by
       have gD:wr.grownBy (wr.alloc (.cells #[.string (R.str sh),.string (R.str sv)] 280)).drew none:=zD (zL _ _ none) (zg _)
       have h:=jU (w0:=(wr.alloc (.cells #[.string (R.str sh),.string (R.str sv)] 280)).drew) (JR.o.grown gD) (Kept.refl _ _ _) [[115,101,116,32],R.q sh,[32,61,32],R.q sv,[59]] (by decide) (by omega) (by simp) (by simp only[zf7,List.flatten_nil,zh,zoF,zmU,R.q_len];omega)
       rw[show((wr.alloc (.cells #[.string (R.str sh),.string (R.str sv)] 280)).drew).heap.size=wr.heap.size+1 by simp[World.drew]] at h
       have aQ:(R.lnSet (sh,sv)).length<=6100:=by
        unfold R.lnSet;simp only[zh,R.q_len,zoF,zmU];omega
       rw[ad]
       refine Calls.mono h fun e w' ⟨q1,q2,q3⟩=>⟨q1,?_,(KR.o.trans (xi gD)).trans q3,by rw[zh];omega,zB (q3.cell (c:=#[.string (R.str sh),.string (R.str sv)]) ah.o (by decide)),zB (q3.cell (c:=#[.string (R.str sh),.string (R.str sv)]) ah.o (by decide))⟩
       rw[zqM (sh,sv)] at q2;exact q2
      clear ad aj ap JR KR ah
      go_wp2_with fail
      go_region_held3 (fun W=>W.cell? ⟨wr.heap.size,0,none⟩=some (.string (R.str sh))/\W.cell? ⟨wr.heap.size,1,none⟩=some (.string (R.str sv))) (go_keep) (first
       | (go_at_call 105;refine(aG.o _).mono ?_;rintro e w' ⟨rfl,rfl⟩)
       | (go_at_call 105;refine(aH.o _).mono ?_;rintro e w' ⟨rfl,rfl⟩)
       | (go_at_call 104;refine al.o.mono ?_;rintro e w3 ⟨rfl,h2,h3,h4,g4,g5⟩))
      all_goals
       go_wp2
       go_roundw
       case rel=>exact⟨k+1,by omega,by go_num,h2,h4,h3⟩
       case measure=>simp[intOf];omega
     ·have HE:k=r.sets.length:=by omega
      subst HE
      rw[List.take_length] at JR af
      have ar:Y (l++res=(pre++(r.sets.map R.lnSet).flatten)++((r.drops.map R.lnDrop).flatten++lnS 1 [[125]])):=by
       show _=_
       rw[am.o];simp only[x4]
      clear am an ap
      generalize pre++(r.sets.map R.lnSet).flatten=pre at*
      have bw:pre.length<=90000400000000:=by omega
      have J6:Y (WInv wr wb pre (2:Nat)):=JR
      have K6:Y (Kept wb wtags wa wr):=KR
      clear af JR KR hk
      have a8:=K6.o.cell ag.o (by decide)
      have bN:wr.cell? ⟨w.heap.size,6,none⟩=some (.slice d1 r.drops.length d2):=zB a8
      clear a8
      go_wp2_with fail
      go_loopw [75] (fun iv wr=>∃k:Nat,k<=r.drops.length/\iv = .int .i64 k/\Y (WInv wr wb (pre++((r.drops.take k).map R.lnDrop).flatten) (2:Nat))/\(pre++((r.drops.take k).map R.lnDrop).flatten).length<=90000400000000+6100*k/\Y (Kept wb wtags wa wr)) (fun iv _=>r.drops.length - (intOf iv).toNat)
      case atStart=>exact⟨0,zo _,rfl,by rw[List.take_zero,List.map_nil,List.flatten_nil,zb3];exact J6,by rw[List.take_zero,List.map_nil,List.flatten_nil,zb3];omega,K6⟩
      case round=>
       obtain⟨k,hk,rfl,JR,af,KR⟩:=hrel
       clear J6 K6
       by_cases aa:k<r.drops.length
       ·have aC:(k:Int)<r.drops.length:=by omega
        obtain⟨gm,aA,ae,_,aB⟩:=World.ownsRow.form ak.o (by omega)
        simp only[qQ] at ae
        obtain⟨rfl,_,rfl⟩:=ae
        have ab:=jD ak.o KR.o (by decide)
        have e0:wr.cell? ⟨gm,k*1,none⟩=some (.string (R.str r.drops[k])):=qx (fun s=>[Value.string (R.str s)]) 1 (fun _=>rfl) ab (ze _ _) k 0 aa (by omega) rfl
        clear ab
        rw[Nat.mul_one] at e0
        have ax:=ao.o r.drops[k] (List.getElem_mem aa)
        have ad:=kD R.lnDrop r.drops k aa pre
        generalize r.drops[k]=dk at*
        have aI:Y (∀W,Calls Tryz.prog 105 #[.string (R.str dk)] W fun e w'=>e = .returned (.string (R.str (R.q dk)))/\w'=W):=fun W=>ym dk W ax
        have aE:Y (Calls Tryz.prog 104 #[.pointer (some ⟨wb,0,none⟩),.slice (some ⟨wr.heap.size,0,none⟩) 3 3] (wr.alloc (.cells #[.string ⟨#[100,114,111,112,32]⟩,.string (R.str (R.q dk)),.string ⟨#[59]⟩] 9)) fun e w'=>e = .returned (.tuple #[])/\WInv w' wb (pre++((r.drops.take (k+1)).map R.lnDrop).flatten) (2:Nat)/\Kept wb wtags wa w'/\(pre++((r.drops.take (k+1)).map R.lnDrop).flatten).length<=90000400000000+6100*(k+1)):=by
         have h:=jU JR.o KR.o [[100,114,111,112,32],R.q dk,[59]] (by decide) (by omega) (by simp) (by simp only[zf7,List.flatten_nil,zh,zoF,zmU,R.q_len];omega)
         have aQ:(R.lnDrop dk).length<=6100:=by
          unfold R.lnDrop;simp only[zh,R.q_len,zoF,zmU];omega
         rw[ad]
         refine Calls.mono h fun e w' ⟨q1,q2,q3⟩=>⟨q1,?_,q3,by rw[zh];omega⟩
         rw[zlW dk] at q2;exact q2
        clear ad ax ao JR KR
        go_wp2_with fail
        refine(aI.o _).mono ?_
        rintro e wq ⟨rfl,ai⟩
        rw[ai]
        clear ai wq
        go_wp2_with fail
        refine aE.o.mono ?_
        rintro e w7 ⟨rfl,h2,h3,h4⟩
        go_wp2
        go_roundw
        case rel=>exact⟨k+1,by omega,by go_num,h2,h4,h3⟩
        case measure=>simp[intOf];omega
       ·have HE:k=r.drops.length:=by omega
        subst HE
        rw[List.take_length] at JR af
        have aF:Y (l++res=(pre++(r.drops.map R.lnDrop).flatten)++lnS 1 [[125]]):=by
         show _=_
         rw[ar.o];simp only[x4]
        clear ar ak ao
        generalize pre++(r.drops.map R.lnDrop).flatten=pre8 at*
        have c8:wr.cell? ⟨wb,2,none⟩=some (.int .i64 2):=WInv.op JR.o
        have f8:wr.frozen? ⟨wb,2,none⟩=false:=WInv.fz JR.o
        obtain⟨av,aw⟩:=WInv.setOp JR.o (1:Nat)
        have J8:Y (WInv (wr.setCell ⟨wb,2,none⟩ (.int .i64 1)) wb pre8 (1:Nat)):=av
        have K8:Y (Kept wb wtags wa (wr.setCell ⟨wb,2,none⟩ (.int .i64 1))):=KR.o.trans aw
        clear av aw JR KR
        have aD:Y (Calls Tryz.prog 104 #[.pointer (some ⟨wb,0,none⟩),.slice (some ⟨wr.heap.size,0,none⟩) 1 1] ((wr.setCell ⟨wb,2,none⟩ (.int .i64 1)).alloc (.cells #[.string ⟨#[125]⟩] 9)) fun e w'=>e = .returned (.tuple #[])/\WInv w' wb (pre8++lnS 1 [[125]]) (1:Nat)/\Kept wb wtags wa w'):=by
         have h:=jU J8.o K8.o [[125]] (by decide) (by omega) (by simp) (by simp)
         rw[show(wr.setCell ⟨wb,2,none⟩ (.int .i64 1)).heap.size=wr.heap.size by simp[World.setCell]] at h
         exact h
        go_wp2_with fail
        refine aD.o.mono ?_
        rintro e w9 ⟨rfl,h2,h3⟩
        go_wp2
        go_end0
        rw[aF.o]
        exact⟨rfl,h2,aT.o.trans h3⟩
   ·have am:Y (l++res=(pre2++ki r++wW r)++((r.sets.map R.lnSet).flatten++(r.drops.map R.lnDrop).flatten++lnS 1 [[125]])):=by
     show _=_
     rw[az.o];simp only[x4]
    have bm:wW r=lnS 2 [[114,101,112,108,97,99,101,32],R.q r.rep,[59]]:=by unfold wW;rw[if_neg aq]
    have ak:Y (wa.ownsRow 0 9 1 (.slice d1 r.drops.length d2) r.drops.length (r.drops.map fun s=>[Value.string (R.str s)]).flatten):=strRow1 ay.o
    rw[bm] at am
    have bz:(R.str r.rep).toList.isEmpty=false:=by
     rw[ByteArray.toList_eq,R.str_toList]
     cases h:r.rep with
     | nil=>exact absurd h aq
     | cons _ _=>rfl
    clear az ay bm aq
    have au:=K5.o.cell ag.o (by decide)
    have bx:w5.cell? ⟨w.heap.size,4,none⟩=some (.string (R.str r.rep)):=zB au
    clear au
    go_wp2_with fail
    refine(aJ.o _).mono ?_
    rintro e wq ⟨rfl,ai⟩
    rw[ai]
    clear ai wq
    go_wp2_with fail
    have aY:Y (Calls Tryz.prog 104 #[.pointer (some ⟨wb,0,none⟩),.slice (some ⟨w5.heap.size,0,none⟩) 3 3] (w5.alloc (.cells #[.string ⟨#[114,101,112,108,97,99,101,32]⟩,.string (R.str (R.q r.rep)),.string ⟨#[59]⟩] 9)) fun e w'=>e = .returned (.tuple #[])/\WInv w' wb (pre2++ki r++lnS 2 [[114,101,112,108,97,99,101,32],R.q r.rep,[59]]) (2:Nat)/\Kept wb wtags wa w'):=by
     have h:=jU J5.o K5.o [[114,101,112,108,97,99,101,32],R.q r.rep,[59]] (by decide) (by omega) (by simp) (by simp only[zf7,List.flatten_nil,zh,zoF,zmU,R.q_len];omega)
     exact h
    refine aY.o.mono ?_
    rintro e wp ⟨rfl,bg,bl⟩
    have Jp:Y (WInv wp wb (pre2++ki r++lnS 2 [[114,101,112,108,97,99,101,32],R.q r.rep,[59]]) (2:Nat)):=bg
    have Kp:Y (Kept wb wtags wa wp):=bl
    clear bg bl aY
    have bI:(pre2++ki r++lnS 2 [[114,101,112,108,97,99,101,32],R.q r.rep,[59]]).length<=90000300000000:=by
     rw[zh]
     unfold lnS
     simp only[zf7,List.flatten_nil,zh,zoF,zmU,List.length_replicate,R.q_len] at bv ⊢;omega
    generalize pre2++ki r++lnS 2 [[114,101,112,108,97,99,101,32],R.q r.rep,[59]]=pre at*
    clear J5 K5 aJ
    have bb:=Kp.o.cell ag.o (by decide)
    have bQ:wp.cell? ⟨w.heap.size,5,none⟩=some (.slice x1 r.sets.length x2):=zB bb
    clear bb
    go_wp2_with fail
    go_loopw [58] (fun iv wr=>∃k:Nat,k<=r.sets.length/\iv = .int .i64 k/\Y (WInv wr wb (pre++((r.sets.take k).map R.lnSet).flatten) (2:Nat))/\(pre++((r.sets.take k).map R.lnSet).flatten).length<=90000300000000+6100*k/\Y (Kept wb wtags wa wr)) (fun iv _=>r.sets.length - (intOf iv).toNat)
    case atStart=>exact⟨0,zo _,rfl,by rw[List.take_zero,List.map_nil,List.flatten_nil,zb3];exact Jp,by rw[List.take_zero,List.map_nil,List.flatten_nil,zb3];omega,Kp⟩
    case round=>
     obtain⟨k,hk,rfl,JR,af,KR⟩:=hrel
     clear Jp Kp
     by_cases aa:k<r.sets.length
     ·have aC:(k:Int)<r.sets.length:=by omega
      obtain⟨gm,aA,ae,_,aB⟩:=World.ownsRow.form an.o (by omega)
      simp only[qQ] at ae
      obtain⟨rfl,_,rfl⟩:=ae
      have ab:=jD an.o KR.o (by decide)
      have e0:wr.cell? ⟨gm,k*2,none⟩=some (.string (R.str r.sets[k].1)):=qx (fun t:List UInt8×List UInt8=>[.string (R.str t.1),.string (R.str t.2)]) 2 (fun _=>rfl) ab (ze _ _) k 0 aa (by omega) rfl
      have e1:wr.cell? ⟨gm,k*2+1,none⟩=some (.string (R.str r.sets[k].2)):=qx (fun t:List UInt8×List UInt8=>[.string (R.str t.1),.string (R.str t.2)]) 2 (fun _=>rfl) ab (ze _ _) k 1 aa (by omega) rfl
      clear ab
      have aj:=ap.o r.sets[k] (List.getElem_mem aa)
      have ad:=kD R.lnSet r.sets k aa pre
      generalize bs:r.sets[k]=st at*
      obtain⟨sh,sv⟩:=st
      simp only at e0 e1 aj
      have aG:Y (∀W,Calls Tryz.prog 105 #[.string (R.str sh)] W fun e w'=>e = .returned (.string (R.str (R.q sh)))/\w'=W):=fun W=>ym sh W aj.1
      have aH:Y (∀W,Calls Tryz.prog 105 #[.string (R.str sv)] W fun e w'=>e = .returned (.string (R.str (R.q sv)))/\w'=W):=fun W=>ym sv W aj.2
      have ah:Y ((wr.alloc (.cells #[.string (R.str sh),.string (R.str sv)] 280)).heap[wr.heap.size]?=some (.cells #[.string (R.str sh),.string (R.str sv)] 280)):=heap_alloc_new _ _
      have b0:=zuH ah.o
      have b1:=zuB ah.o
      have al:Y (Calls Tryz.prog 104 #[.pointer (some ⟨wb,0,none⟩),.slice (some ⟨wr.heap.size+1,0,none⟩) 5 5] (((wr.alloc (.cells #[.string (R.str sh),.string (R.str sv)] 280)).drew).alloc (.cells #[.string ⟨#[115,101,116,32]⟩,.string (R.str (R.q sh)),.string ⟨#[32,61,32]⟩,.string (R.str (R.q sv)),.string ⟨#[59]⟩] 9)) fun e w'=>e = .returned (.tuple #[])/\WInv w' wb (pre++((r.sets.take (k+1)).map R.lnSet).flatten) (2:Nat)/\Kept wb wtags wa w'/\(pre++((r.sets.take (k+1)).map R.lnSet).flatten).length<=90000300000000+6100*(k+1)/\w'.cell? ⟨wr.heap.size,0,none⟩=some (.string (R.str sh))/\w'.cell? ⟨wr.heap.size,1,none⟩=some (.string (R.str sv))):=by
       have gD:wr.grownBy (wr.alloc (.cells #[.string (R.str sh),.string (R.str sv)] 280)).drew none:=zD (zL _ _ none) (zg _)
       have h:=jU (w0:=(wr.alloc (.cells #[.string (R.str sh),.string (R.str sv)] 280)).drew) (JR.o.grown gD) (Kept.refl _ _ _) [[115,101,116,32],R.q sh,[32,61,32],R.q sv,[59]] (by decide) (by omega) (by simp) (by simp only[zf7,List.flatten_nil,zh,zoF,zmU,R.q_len];omega)
       rw[show((wr.alloc (.cells #[.string (R.str sh),.string (R.str sv)] 280)).drew).heap.size=wr.heap.size+1 by simp[World.drew]] at h
       have aQ:(R.lnSet (sh,sv)).length<=6100:=by
        unfold R.lnSet;simp only[zh,R.q_len,zoF,zmU];omega
       rw[ad]
       refine Calls.mono h fun e w' ⟨q1,q2,q3⟩=>⟨q1,?_,(KR.o.trans (xi gD)).trans q3,by rw[zh];omega,zB (q3.cell (c:=#[.string (R.str sh),.string (R.str sv)]) ah.o (by decide)),zB (q3.cell (c:=#[.string (R.str sh),.string (R.str sv)]) ah.o (by decide))⟩
       rw[zqM (sh,sv)] at q2;exact q2
      clear ad aj ap JR KR ah
      go_wp2_with fail
      go_region_held3 (fun W=>W.cell? ⟨wr.heap.size,0,none⟩=some (.string (R.str sh))/\W.cell? ⟨wr.heap.size,1,none⟩=some (.string (R.str sv))) (go_keep) (first
       | (go_at_call 105;refine(aG.o _).mono ?_;rintro e w' ⟨rfl,rfl⟩)
       | (go_at_call 105;refine(aH.o _).mono ?_;rintro e w' ⟨rfl,rfl⟩)
       | (go_at_call 104;refine al.o.mono ?_;rintro e w3 ⟨rfl,h2,h3,h4,g4,g5⟩))
      all_goals
       go_wp2
       go_roundw
       case rel=>exact⟨k+1,by omega,by go_num,h2,h4,h3⟩
       case measure=>simp[intOf];omega
     ·have HE:k=r.sets.length:=by omega
      subst HE
      rw[List.take_length] at JR af
      have ar:Y (l++res=(pre++(r.sets.map R.lnSet).flatten)++((r.drops.map R.lnDrop).flatten++lnS 1 [[125]])):=by
       show _=_
       rw[am.o];simp only[x4]
      clear am an ap
      generalize pre++(r.sets.map R.lnSet).flatten=pre at*
      have bw:pre.length<=90000400000000:=by omega
      have J6:Y (WInv wr wb pre (2:Nat)):=JR
      have K6:Y (Kept wb wtags wa wr):=KR
      clear af JR KR hk
      have ba:=K6.o.cell ag.o (by decide)
      have bP:wr.cell? ⟨w.heap.size,6,none⟩=some (.slice d1 r.drops.length d2):=zB ba
      clear ba
      go_wp2_with fail
      go_loopw [75] (fun iv wr=>∃k:Nat,k<=r.drops.length/\iv = .int .i64 k/\Y (WInv wr wb (pre++((r.drops.take k).map R.lnDrop).flatten) (2:Nat))/\(pre++((r.drops.take k).map R.lnDrop).flatten).length<=90000400000000+6100*k/\Y (Kept wb wtags wa wr)) (fun iv _=>r.drops.length - (intOf iv).toNat)
      case atStart=>exact⟨0,zo _,rfl,by rw[List.take_zero,List.map_nil,List.flatten_nil,zb3];exact J6,by rw[List.take_zero,List.map_nil,List.flatten_nil,zb3];omega,K6⟩
      case round=>
       obtain⟨k,hk,rfl,JR,af,KR⟩:=hrel
       clear J6 K6
       by_cases aa:k<r.drops.length
       ·have aC:(k:Int)<r.drops.length:=by omega
        obtain⟨gm,aA,ae,_,aB⟩:=World.ownsRow.form ak.o (by omega)
        simp only[qQ] at ae
        obtain⟨rfl,_,rfl⟩:=ae
        have ab:=jD ak.o KR.o (by decide)
        have e0:wr.cell? ⟨gm,k*1,none⟩=some (.string (R.str r.drops[k])):=qx (fun s=>[Value.string (R.str s)]) 1 (fun _=>rfl) ab (ze _ _) k 0 aa (by omega) rfl
        clear ab
        rw[Nat.mul_one] at e0
        have ax:=ao.o r.drops[k] (List.getElem_mem aa)
        have ad:=kD R.lnDrop r.drops k aa pre
        generalize r.drops[k]=dk at*
        have aI:Y (∀W,Calls Tryz.prog 105 #[.string (R.str dk)] W fun e w'=>e = .returned (.string (R.str (R.q dk)))/\w'=W):=fun W=>ym dk W ax
        have aE:Y (Calls Tryz.prog 104 #[.pointer (some ⟨wb,0,none⟩),.slice (some ⟨wr.heap.size,0,none⟩) 3 3] (wr.alloc (.cells #[.string ⟨#[100,114,111,112,32]⟩,.string (R.str (R.q dk)),.string ⟨#[59]⟩] 9)) fun e w'=>e = .returned (.tuple #[])/\WInv w' wb (pre++((r.drops.take (k+1)).map R.lnDrop).flatten) (2:Nat)/\Kept wb wtags wa w'/\(pre++((r.drops.take (k+1)).map R.lnDrop).flatten).length<=90000400000000+6100*(k+1)):=by
         have h:=jU JR.o KR.o [[100,114,111,112,32],R.q dk,[59]] (by decide) (by omega) (by simp) (by simp only[zf7,List.flatten_nil,zh,zoF,zmU,R.q_len];omega)
         have aQ:(R.lnDrop dk).length<=6100:=by
          unfold R.lnDrop;simp only[zh,R.q_len,zoF,zmU];omega
         rw[ad]
         refine Calls.mono h fun e w' ⟨q1,q2,q3⟩=>⟨q1,?_,q3,by rw[zh];omega⟩
         rw[zlW dk] at q2;exact q2
        clear ad ax ao JR KR
        go_wp2_with fail
        refine(aI.o _).mono ?_
        rintro e wq ⟨rfl,ai⟩
        rw[ai]
        clear ai wq
        go_wp2_with fail
        refine aE.o.mono ?_
        rintro e w7 ⟨rfl,h2,h3,h4⟩
        go_wp2
        go_roundw
        case rel=>exact⟨k+1,by omega,by go_num,h2,h4,h3⟩
        case measure=>simp[intOf];omega
       ·have HE:k=r.drops.length:=by omega
        subst HE
        rw[List.take_length] at JR af
        have aF:Y (l++res=(pre++(r.drops.map R.lnDrop).flatten)++lnS 1 [[125]]):=by
         show _=_
         rw[ar.o];simp only[x4]
        clear ar ak ao
        generalize pre++(r.drops.map R.lnDrop).flatten=pre8 at*
        have c8:wr.cell? ⟨wb,2,none⟩=some (.int .i64 2):=WInv.op JR.o
        have f8:wr.frozen? ⟨wb,2,none⟩=false:=WInv.fz JR.o
        obtain⟨av,aw⟩:=WInv.setOp JR.o (1:Nat)
        have J8:Y (WInv (wr.setCell ⟨wb,2,none⟩ (.int .i64 1)) wb pre8 (1:Nat)):=av
        have K8:Y (Kept wb wtags wa (wr.setCell ⟨wb,2,none⟩ (.int .i64 1))):=KR.o.trans aw
        clear av aw JR KR
        have aD:Y (Calls Tryz.prog 104 #[.pointer (some ⟨wb,0,none⟩),.slice (some ⟨wr.heap.size,0,none⟩) 1 1] ((wr.setCell ⟨wb,2,none⟩ (.int .i64 1)).alloc (.cells #[.string ⟨#[125]⟩] 9)) fun e w'=>e = .returned (.tuple #[])/\WInv w' wb (pre8++lnS 1 [[125]]) (1:Nat)/\Kept wb wtags wa w'):=by
         have h:=jU J8.o K8.o [[125]] (by decide) (by omega) (by simp) (by simp)
         rw[show(wr.setCell ⟨wb,2,none⟩ (.int .i64 1)).heap.size=wr.heap.size by simp[World.setCell]] at h
         exact h
        go_wp2_with fail
        refine aD.o.mono ?_
        rintro e w9 ⟨rfl,h2,h3⟩
        go_wp2
        go_end0
        rw[aF.o]
        exact⟨rfl,h2,aT.o.trans h3⟩
theorem PRuleVal.kept {w w':World}{B:Nat}{cs:List Value}{r:P.Rl}(h:PRuleVal w cs r)(hk:Kept B wtags w w'):PRuleVal w' cs r:=by
 obtain⟨vM,vT,vS,vD,e,h1,h2,h3,h4⟩:=h
 exact⟨vM,vT,vS,vD,e,jD h1 hk (by decide),jD h2 hk (by decide),jD h3 hk (by decide),jD h4 hk (by decide)⟩
theorem zmZ {w:World}{wb:Nat}{l:List UInt8}(h:WInv w wb l (0:Nat))(cs:List Value)(x:P.Hst)(hv:PHostVal w cs x)(hs:R.SmallH (toR x))(hl:l.length<=80000000000000)(hT:GT w)(hB:GTB wb) :
  Calls Tryz.prog 68 #[.pointer (some ⟨wb,0,none⟩),.agg cs.toArray] w fun e w'=>e = .returned (.tuple #[])/\WInv w' wb (l++R.hostLines (toR x)) (0:Nat)/\Kept wb wtags w w':=by
 obtain⟨vR,rfl,aH,ah,ay⟩:=hv
 obtain⟨r1,r2,rfl⟩:=zO ah
 have gA:w.grownBy (w.alloc (.cells #[.string (R.str x.name),.slice r1 x.rules.length r2] 146)) none:=zL _ _ _
 have ad:Y ((w.alloc (.cells #[.string (R.str x.name),.slice r1 x.rules.length r2] 146)).heap[w.heap.size]?=some (.cells #[.string (R.str x.name),.slice r1 x.rules.length r2] 146)):=heap_alloc_new _ _
 have J0:Y (WInv (w.alloc (.cells #[.string (R.str x.name),.slice r1 x.rules.length r2] 146)) wb l (0:Nat)):=h.grown gA
 have ao:Y (GT (w.alloc (.cells #[.string (R.str x.name),.slice r1 x.rules.length r2] 146))):=hT.grown gA
 have aj:Y (GTB wb):=hB
 have aD:Y (Kept wb wtags w (w.alloc (.cells #[.string (R.str x.name),.slice r1 x.rules.length r2] 146))):=xi gA
 have HR:=J (zV ah gA (fun k hk c=>by cases c))
 have HA:Y (All2 (PRuleVal (w.alloc (.cells #[.string (R.str x.name),.slice r1 x.rules.length r2] 146))) aH x.rules):=ay.map fun a b hab=>hab.keep gA (zi _ _)
 have K0:Y (Kept wb wtags (w.alloc (.cells #[.string (R.str x.name),.slice r1 x.rules.length r2] 146)) (w.alloc (.cells #[.string (R.str x.name),.slice r1 x.rules.length r2] 146))):=Kept.refl _ _ _
 have aJ:x.name.length<=3000:=hs.name
 have aP:x.rules.length<=4000:=by have:=hs.rules.1;simpa[toR] using this
 have ae:Y (∀r∈x.rules,R.Small (toRl r)):=fun r hr=>hs.rules.2 (toRl r) (List.mem_map_of_mem hr)
 have al:Y (lnS 0 [[104,111,115,116,32],R.q x.name,[32,123]]++(x.rules.map (fun r=>R.lines (toRl r))).flatten++lnS 0 [[125]]=R.hostLines (toR x)):=zsQ x
 have HQ:Y (∀W,Calls Tryz.prog 105 #[.string (R.str x.name)] W fun e w'=>e = .returned (.string (R.str (R.q x.name)))/\w'=W):=fun W=>ym x.name W aJ
 have u0:=zuH ad.o
 clear h hT hB ah ay hs
 generalize R.hostLines (toR x)=res at*
 go_enter Tryz.func68,Tryz.ntmps68
 go_wp2_with fail
 refine(HQ.o _).mono ?_
 rintro e wq ⟨rfl,aL⟩
 subst aL
 have aQ:=zI ad.o
 generalize w.alloc (.cells #[.string (R.str x.name),.slice r1 x.rules.length r2] 146)=wa at*
 clear HQ gA
 go_wp2_with fail
 have ak:Y (Calls Tryz.prog 104 #[.pointer (some ⟨wb,0,none⟩),.slice (some ⟨wa.heap.size,0,none⟩) 3 3] (wa.alloc (.cells #[.string ⟨#[104,111,115,116,32]⟩,.string (R.str (R.q x.name)),.string ⟨#[32,123]⟩] 9)) fun e w'=>e = .returned (.tuple #[])/\WInv w' wb (l++lnS 0 [[104,111,115,116,32],R.q x.name,[32,123]]) (0:Nat)/\Kept wb wtags wa w'):=by
  have h:=jU J0.o K0.o [[104,111,115,116,32],R.q x.name,[32,123]] (by decide) (by omega) (by simp) (by simp only[zf7,List.flatten_nil,zh,zoF,zmU,R.q_len];omega)
  exact h
 refine ak.o.mono ?_
 rintro e w1 ⟨rfl,ab,au⟩
 have aR:(l++lnS 0 [[104,111,115,116,32],R.q x.name,[32,123]]).length<=80000000010000:=by
  unfold lnS
  simp only[zf7,List.flatten_nil,zh,zoF,zmU,List.length_replicate,R.q_len];omega
 have an:Y (l++res=(l++lnS 0 [[104,111,115,116,32],R.q x.name,[32,123]])++((x.rules.map (fun r=>R.lines (toRl r))).flatten++lnS 0 [[125]])):=by
  show _=_
  rw[<-al.o];simp only[x4]
 generalize l++lnS 0 [[104,111,115,116,32],R.q x.name,[32,123]]=pre at*
 have c1:w1.cell? ⟨wb,2,none⟩=some (.int .i64 0):=ab.op
 have f1:w1.frozen? ⟨wb,2,none⟩=false:=ab.fz
 obtain⟨aq,av⟩:=ab.setOp (1:Nat)
 have J2:Y (WInv (w1.setCell ⟨wb,2,none⟩ (.int .i64 1)) wb pre (1:Nat)):=aq
 have K2:Y (Kept wb wtags wa (w1.setCell ⟨wb,2,none⟩ (.int .i64 1))):=au.trans av
 have ap:=K2.o.cell ad.o (by decide)
 have u2:(w1.setCell ⟨wb,2,none⟩ (.int .i64 1)).cell? ⟨w.heap.size,1,none⟩=some (.slice r1 x.rules.length r2):=zB ap
 clear ab au aq av ak al J0 K0 ap
 go_wp2_with fail
 go_loopw [22] (fun iv wr=>∃k:Nat,k<=x.rules.length/\iv = .int .i64 k/\Y (WInv wr wb (pre++((x.rules.take k).map (fun r=>R.lines (toRl r))).flatten) (1:Nat))/\(pre++((x.rules.take k).map (fun r=>R.lines (toRl r))).flatten).length<=80000000010000+110000000*k/\Y (Kept wb wtags wa wr)) (fun iv _=>x.rules.length - (intOf iv).toNat)
 case atStart=>exact⟨0,zo _,rfl,by rw[List.take_zero,List.map_nil,List.flatten_nil,zb3];exact J2,by rw[List.take_zero,List.map_nil,List.flatten_nil,zb3];omega,K2⟩
 case round=>
  obtain⟨k,hk,rfl,JR,aK,KR⟩:=hrel
  clear J2 K2 u2 c1 f1 u0
  by_cases ag:k<x.rules.length
  ·have aO:(k:Int)<x.rules.length:=by omega
   obtain⟨gm,aM,aB,_,aN⟩:=World.ownsRow.form HR.o (by omega)
   simp only[qQ] at aB
   obtain⟨rfl,_,rfl⟩:=aB
   have aC:=jD HR.o KR.o (by decide)
   obtain⟨ce,az,aA⟩:=zgN HA.o k ag
   have af:=az.kept KR.o
   have ai:=ae.o x.rules[k] (List.getElem_mem ag)
   have am:=kD (fun r=>R.lines (toRl r)) x.rules k ag pre
   have aI:=R.lines_len _ ai
   have aa:∀j,j<7->wr.cell? ⟨gm,k*7+j,none⟩=ce[j]?:=fun j hj=>by
    rw[qR aC (k*7+j) (by omega)];exact aA j hj
   generalize x.rules[k]=r at*
   obtain⟨vM,vT,vS,vD,rfl,hM,ax,hS,hD⟩:=id af
   obtain⟨m1,m2,rfl⟩:=zO hM
   obtain⟨t1,t2,rfl⟩:=zO ax
   obtain⟨x1,x2,rfl⟩:=zO hS
   obtain⟨d1,d2,rfl⟩:=zO hD
   have e0:wr.cell? ⟨gm,k*7,none⟩=some (.int .i64 r.number):=aa 0 (by omega)
   have e1:wr.cell? ⟨gm,k*7+1,none⟩=some (.string (R.str r.path)):=aa 1 (by omega)
   have e2:wr.cell? ⟨gm,k*7+2,none⟩=some (.slice m1 r.ms.length m2):=aa 2 (by omega)
   have e3:wr.cell? ⟨gm,k*7+3,none⟩=some (.slice t1 r.tg.length t2):=aa 3 (by omega)
   have e4:wr.cell? ⟨gm,k*7+4,none⟩=some (.string (R.str r.rep)):=aa 4 (by omega)
   have e5:wr.cell? ⟨gm,k*7+5,none⟩=some (.slice x1 r.sets.length x2):=aa 5 (by omega)
   have e6:wr.cell? ⟨gm,k*7+6,none⟩=some (.slice d1 r.drops.length d2):=aa 6 (by omega)
   have aG:Y (Calls Tryz.prog 106 #[.pointer (some ⟨wb,0,none⟩),.agg #[.int .i64 r.number,.string (R.str r.path),.slice m1 r.ms.length m2,.slice t1 r.tg.length t2,.string (R.str r.rep),.slice x1 r.sets.length x2,.slice d1 r.drops.length d2]] (wr.alloc (.cells #[.int .i64 r.number,.string (R.str r.path),.slice m1 r.ms.length m2,.slice t1 r.tg.length t2,.string (R.str r.rep),.slice x1 r.sets.length x2,.slice d1 r.drops.length d2] 213)) fun e w'=>e = .returned (.tuple #[])/\WInv w' wb (pre++((x.rules.take (k+1)).map (fun r=>R.lines (toRl r))).flatten) (1:Nat)/\Kept wb wtags wa w'/\(pre++((x.rules.take (k+1)).map (fun r=>R.lines (toRl r))).flatten).length<=80000000010000+110000000*(k+1)):=by
    have gB:wr.grownBy (wr.alloc (.cells #[.int .i64 r.number,.string (R.str r.path),.slice m1 r.ms.length m2,.slice t1 r.tg.length t2,.string (R.str r.rep),.slice x1 r.sets.length x2,.slice d1 r.drops.length d2] 213)) none:=zL _ _ none
    refine(znH (JR.o.grown gB) _ r (af.keep gB (zi _ _)) ai (by omega) ((ao.o.kept KR.o aj.o).grown gB) aj.o).mono ?_
    rintro e w' ⟨rfl,q1,q2⟩
    rw[am]
    exact⟨rfl,q1,(KR.o.trans (xi gB)).trans q2,by rw[zh];omega⟩
   clear am aI ai az af aA aa aC hM ax hS hD ae HA HR ao JR KR
   go_wp2_with (go_at_call 106;refine aG.o.mono ?_;rintro e w2 ⟨rfl,h2,h3,h4⟩)
   go_roundw
   case rel=>exact⟨k+1,by omega,by go_num,h2,h4,h3⟩
   case measure=>simp[intOf];omega
  ·have HE:k=x.rules.length:=by omega
   subst HE
   rw[List.take_length] at JR aK
   have aF:Y (l++res=(pre++(x.rules.map (fun r=>R.lines (toRl r))).flatten)++lnS 0 [[125]]):=by
    show _=_
    rw[an.o];simp only[x4]
   clear an HA HR ae
   generalize pre++(x.rules.map (fun r=>R.lines (toRl r))).flatten=pre8 at*
   have c8:wr.cell? ⟨wb,2,none⟩=some (.int .i64 1):=JR.o.op
   have f8:wr.frozen? ⟨wb,2,none⟩=false:=JR.o.fz
   obtain⟨ar,aw⟩:=JR.o.setOp (0:Nat)
   have J8:Y (WInv (wr.setCell ⟨wb,2,none⟩ (.int .i64 0)) wb pre8 (0:Nat)):=ar
   have K8:Y (Kept wb wtags wa (wr.setCell ⟨wb,2,none⟩ (.int .i64 0))):=KR.o.trans aw
   clear ar aw JR KR
   have aE:Y (Calls Tryz.prog 104 #[.pointer (some ⟨wb,0,none⟩),.slice (some ⟨wr.heap.size,0,none⟩) 1 1] ((wr.setCell ⟨wb,2,none⟩ (.int .i64 0)).alloc (.cells #[.string ⟨#[125]⟩] 9)) fun e w'=>e = .returned (.tuple #[])/\WInv w' wb (pre8++lnS 0 [[125]]) (0:Nat)/\Kept wb wtags wa w'):=by
    have h:=jU J8.o K8.o [[125]] (by decide) (by omega) (by simp) (by simp)
    rw[show(wr.setCell ⟨wb,2,none⟩ (.int .i64 0)).heap.size=wr.heap.size by simp[World.setCell]] at h
    exact h
   go_wp2_with fail
   refine aE.o.mono ?_
   rintro e w9 ⟨rfl,h2,h3⟩
   go_wp2
   go_end0
   rw[aF.o]
   exact⟨rfl,h2,aD.o.trans h3⟩
theorem PHostVal.kept {w w':World}{B:Nat}{cs:List Value}{x:P.Hst}(h:PHostVal w cs x)(hk:Kept B wtags w w'):PHostVal w' cs x:=by
 obtain⟨vR,e,aa,h1,h2⟩:=h
 exact⟨vR,e,aa,jD h1 hk (by decide),h2.map fun a b hab=>hab.kept hk⟩
theorem zfR (x:R.Hst):R.hostLines x≠[]:=by unfold R.hostLines;simp
theorem zdU (x:R.Hst)(hs:R.SmallH x):(R.hostLines x).length<=440000010000:=by
 have h1:(x.rules.map R.lines).flatten.length<=x.rules.length*110000000:=R.flat_len _ _ _ (fun r hr=>R.lines_len r (hs.rules.2 r hr))
 have h2:=hs.rules.1
 have h3:=hs.name
 unfold R.hostLines
 simp only[zh,R.q_len,zoF,zmU]
 omega
theorem zg4 {α:Type}(f:α->List UInt8)(l:List α)(k:Nat):((l.take k).map f).flatten.length<=(l.map f).flatten.length:=by
 conv=>rhs;rw[<-List.take_append_drop k l,fJ,yj,zh]
 omega
theorem zo7 (hs:List P.Hst)(h1:hs.length<=12)(h2:∀h∈hs,R.SmallH (toR h)):(hs.map fun h=>R.hostLines (toR h)).flatten.length<=79000000000000:=by
 have h:=R.flat_len (fun h:P.Hst=>R.hostLines (toR h)) 440000010000 hs (fun x hx=>zdU _ (h2 x hx))
 omega
theorem ff {w:World}(v:Value)(hs:List P.Hst)(hH:PHostsRow w 0 v hs)(aF:hs.length<=4000)(hn:(hs.map fun h=>R.hostLines (toR h)).flatten.length<=79000000000000)(aa:∀h∈hs,R.SmallH (toR h))(hT:GT w) :
  Calls Tryz.prog 42 #[.agg #[v]] w fun e w'=>e = .returned (.string (R.str (R.plain (hs.map toR))))/\w.grownBy w' none:=by
 obtain⟨aA,ai,ap⟩:=hH
 obtain⟨h1,h2,rfl⟩:=zO ai
 have gA:w.grownBy ((w.alloc (.cells #[.slice h1 hs.length h2] 88)).alloc (.cells #[.pointer none,.slice none 0 0,.int .i64 0] 143)) none:=zD (zL _ _ none) (zL _ _ none)
 have am:Y (((w.alloc (.cells #[.slice h1 hs.length h2] 88)).alloc (.cells #[.pointer none,.slice none 0 0,.int .i64 0] 143)).heap[w.heap.size]?=some (.cells #[.slice h1 hs.length h2] 88)):=zF (heap_alloc_new w (.cells #[.slice h1 hs.length h2] 88)) (zL _ _ none) (by simp)
 have ab:Y (((w.alloc (.cells #[.slice h1 hs.length h2] 88)).alloc (.cells #[.pointer none,.slice none 0 0,.int .i64 0] 143)).heap[w.heap.size+1]?=some (.cells #[.pointer none,.slice none 0 0,.int .i64 0] 143)):=by
  have:=heap_alloc_new (w.alloc (.cells #[.slice h1 hs.length h2] 88)) (.cells #[.pointer none,.slice none 0 0,.int .i64 0] 143)
  rw[show(w.alloc (.cells #[.slice h1 hs.length h2] 88)).heap.size=w.heap.size+1 by simp] at this
  exact this
 have J0:Y (WInv ((w.alloc (.cells #[.slice h1 hs.length h2] 88)).alloc (.cells #[.pointer none,.slice none 0 0,.int .i64 0] 143)) (w.heap.size+1) [] (0:Nat)):=Or.inl ⟨_,ab.o,xd _ _ _ _⟩
 have ae:Y (GT ((w.alloc (.cells #[.slice h1 hs.length h2] 88)).alloc (.cells #[.pointer none,.slice none 0 0,.int .i64 0] 143))):=hT.grown gA
 have aj:Y (GTB (w.heap.size+1)):=fun g e=>Nat.lt_succ_of_lt (hT.bound g e)
 have ak:Y (Kept (w.heap.size+1) wtags w ((w.alloc (.cells #[.slice h1 hs.length h2] 88)).alloc (.cells #[.pointer none,.slice none 0 0,.int .i64 0] 143))):=xi gA
 have HR:=J (zV ai gA (fun k hk c=>by cases c))
 have HA:Y (All2 (PHostVal ((w.alloc (.cells #[.slice h1 hs.length h2] 88)).alloc (.cells #[.pointer none,.slice none 0 0,.int .i64 0] 143))) aA hs):=ap.map fun a b hab=>hab.keep gA (zi _ _)
 have K0:Y (Kept (w.heap.size+1) wtags ((w.alloc (.cells #[.slice h1 hs.length h2] 88)).alloc (.cells #[.pointer none,.slice none 0 0,.int .i64 0] 143)) ((w.alloc (.cells #[.slice h1 hs.length h2] 88)).alloc (.cells #[.pointer none,.slice none 0 0,.int .i64 0] 143))):=Kept.refl _ _ _
 have ad:Y (∀h∈hs,R.SmallH (toR h)):=aa
 have az:Y ((hs.map (fun h=>R.hostLines (toR h))).flatten.length<=79000000000000):=hn
 have an:Y (R.plain (hs.map toR)=(hs.map (fun h=>R.hostLines (toR h))).flatten):=zcR hs
 have u0:=zuC am.o
 have aG:=zI ab.o
 clear hT ai ap aa gA am hn
 generalize R.plain (hs.map toR)=res at*
 go_enter Tryz.func42,Tryz.ntmps42
 go_wp2_with fail
 generalize((w.alloc (.cells #[.slice h1 hs.length h2] 88)).alloc (.cells #[.pointer none,.slice none 0 0,.int .i64 0] 143))=wa at*
 go_loopw [9] (fun iv wr=>∃k:Nat,k<=hs.length/\iv = .int .i64 k/\Y (WInv wr (w.heap.size+1) ((hs.take k).map (fun h=>R.hostLines (toR h))).flatten (0:Nat))/\Y (Kept (w.heap.size+1) wtags wa wr)/\Y (k=0->wr.heap[w.heap.size+1]?=some (.cells #[.pointer none,.slice none 0 0,.int .i64 0] 143))) (fun iv _=>hs.length - (intOf iv).toNat)
 case atStart=>exact⟨0,zo _,rfl,by rw[List.take_zero,List.map_nil,List.flatten_nil];exact J0,K0,fun _=>ab.o⟩
 case round=>
  obtain⟨k,hk,rfl,JR,KR,HZ⟩:=hrel
  clear J0 K0 u0 ab
  by_cases ah:k<hs.length
  ·have aE:(k:Int)<hs.length:=by omega
   obtain⟨gm,aC,au,_,aD⟩:=World.ownsRow.form HR.o (by omega)
   simp only[qQ] at au
   obtain⟨rfl,_,rfl⟩:=au
   have av:=jD HR.o KR.o (by decide)
   obtain⟨ce,aq,ar⟩:=zdM HA.o k ah
   have af:=aq.kept KR.o
   have aa:=ad.o hs[k] (List.getElem_mem ah)
   have al:=jz (fun h=>R.hostLines (toR h)) hs k ah
   have aB:((hs.take k).map (fun h=>R.hostLines (toR h))).flatten.length<=79000000000000:=qf (zg4 _ hs k) az.o
   have ag:∀j,j<2->wr.cell? ⟨gm,k*2+j,none⟩=ce[j]?:=fun j hj=>by
    rw[qR av (k*2+j) (by omega)];exact ar j hj
   generalize hs[k]=x at*
   obtain⟨vR,rfl,ao⟩:=id af
   obtain⟨r1,r2,rfl⟩:=wi ao
   have e0:wr.cell? ⟨gm,k*2,none⟩=some (.string (R.str x.name)):=ag 0 (by omega)
   have e1:wr.cell? ⟨gm,k*2+1,none⟩=some (.slice r1 x.rules.length r2):=ag 1 (by omega)
   have aw:Y (Calls Tryz.prog 68 #[.pointer (some ⟨w.heap.size+1,0,none⟩),.agg #[.string (R.str x.name),.slice r1 x.rules.length r2]] (wr.alloc (.cells #[.string (R.str x.name),.slice r1 x.rules.length r2] 146)) fun e w'=>e = .returned (.tuple #[])/\WInv w' (w.heap.size+1) ((hs.take (k+1)).map (fun h=>R.hostLines (toR h))).flatten (0:Nat)/\Kept (w.heap.size+1) wtags wa w'):=by
    have gB:wr.grownBy (wr.alloc (.cells #[.string (R.str x.name),.slice r1 x.rules.length r2] 146)) none:=zL _ _ none
    refine(zmZ (JR.o.grown gB) _ x (af.keep gB (zi _ _)) aa (by omega) ((ae.o.kept KR.o aj.o).grown gB) aj.o).mono ?_
    rintro e w' ⟨rfl,q1,q2⟩
    rw[al]
    exact⟨rfl,q1,(KR.o.trans (xi gB)).trans q2⟩
   clear al aB aa aq af ar ag av ao ad HA HR ae JR KR HZ
   go_wp2_with (go_at_call 68;refine aw.o.mono ?_;rintro e w2 ⟨rfl,h2,h3⟩)
   go_roundw
   case rel=>exact⟨k+1,by omega,by go_num,h2,h3,fun h=>absurd h (by omega)⟩
   case measure=>simp[intOf];omega
  ·have HE:k=hs.length:=by omega
   subst HE
   have ay:Y (Calls Tryz.prog 69 #[.pointer (some ⟨w.heap.size+1,0,none⟩)] wr fun e w'=>e = .returned (.string (R.str res))/\Kept (w.heap.size+1) wtags wr w'):=by
    show Calls _ _ _ _ _
    have hJ:=JR.o
    rw[List.take_length] at hJ
    rw[an.o]
    by_cases h0:hs.length=0
    ·have he:hs=[]:=List.length_eq_zero_iff.1 h0
     subst he
     exact zfP (HZ.o rfl)
    ·refine zjB hJ (fun hc=>?_)
     match hs,h0,hc with
     | x :: xs,_,hc=>
      rw[xl,zf7] at hc
      exact zfR _ (List.append_eq_nil_iff.1 hc).1
   have ax:Y (Kept (w.heap.size+1) wtags w wr):=ak.o.trans KR.o
   clear JR KR HZ an HA HR ad ae ak
   go_wp2_with (go_at_call 69;refine ay.o.mono ?_;rintro e w2 ⟨rfl,g2⟩)
   go_ret
   exact⟨rfl,(ax.o.trans g2).grown (Nat.le_succ _)⟩
def jE (l:List UInt8):List UInt8:=if (xU l).1=0 then R.plain (xI (R.readS l).1) else []
theorem tM {l:List UInt8}(h:(xV l).1=0):l.length<=3000/\(qD l).2.broken=false/\(qD l).2.err=0:=by
 unfold xV at h
 by_cases hl:3000<l.length
 ·rw[if_pos hl] at h;exact absurd h (by decide)
 ·rw[if_neg hl] at h
  exact⟨by omega,wJ h⟩
theorem zcN {l:List UInt8}(h:(xV l).1=0):(xV l).2=0:=by
 obtain⟨h1,h2,h3⟩:=tM h
 unfold xV
 rw[if_neg (by omega)]
 unfold yg
 rw[h2,h3];rfl
theorem zp4 {l:List UInt8}{aa:List P.Hst}(h:(xV l).1=0)(hs:SrtH (qD l).1 aa) :
  jE l=R.plain (aa.map toR)/\aa.length<=12/\(∀h∈aa,R.SmallH (toR h)):=by
 obtain⟨h1,h2,h3⟩:=tM h
 obtain⟨hg,e⟩:=tK l h1 h2 h3
 rw[e] at hg
 have e2:=zjV hs hg
 obtain⟨s1,s2⟩:=zbA hg
 rw[<-e2] at s1 s2
 refine⟨?_,?_,fun x hx=>s2 (toR x) (List.mem_map_of_mem hx)⟩
 ·unfold jE
  rw[if_pos (by rw[<-vU];exact h),e,e2]
 ·simp at s1;omega
theorem zmR (s:ByteArray)(w:World)(aw:s.size<=maxLen)(hG:Glob w)(hT:GT w) :
  Calls Tryz.prog 17 #[.string s] w fun e w'=>e = .returned (.tuple #[.string (R.str (jE s.data.toList)),.int .i64 (xU s.data.toList).1,.int .i64 (xU s.data.toList).2])/\w.grownBy w' none:=by
 have ah:Y (Calls Tryz.prog 41 #[.string s] w fun e w'=>∃va vn vc,e = .returned (.tuple #[.agg #[.slice va vn vc],.int .i64 (xV s.data.toList).1,.int .i64 (xV s.data.toList).2])/\w.grownBy w' none/\((xV s.data.toList).1=0->∃aa,PHostsRow w' 0 (.slice va vn vc) aa/\SrtH (qD s.data.toList).1 aa)):=by
  refine(ziZ s w aw hG (fun h1 h2 h3=>zhH _ (by rw[R.size_eq];exact h1) h2 h3)).mono ?_
  rintro e w' ⟨v,rfl,h1,h2,va,vn,vc,rfl⟩
  exact⟨va,vn,vc,rfl,h1,h2⟩
 have ae:Y (∀aa,(xV s.data.toList).1=0->SrtH (qD s.data.toList).1 aa->jE s.data.toList=R.plain (aa.map toR)/\aa.length<=12/\(∀h∈aa,R.SmallH (toR h))):=fun aa h1 h2=>zp4 h1 h2
 have ad:Y ((xV s.data.toList).1≠0->jE s.data.toList=[]):=fun h=>by
  unfold jE;rw[if_neg (by rw[<-vU];exact h)]
 have aj:Y ((xV s.data.toList).1=0->(xV s.data.toList).2=0):=zcN
 have HT:Y (GT w):=hT
 rw[<-vU]
 clear hT hG
 generalize jE s.data.toList=pt at*
 generalize xV s.data.toList=er at*
 generalize qD s.data.toList=rd at*
 obtain⟨ak,au⟩:=er
 simp only at ah ae ad aj ⊢
 go_enter Tryz.func17,Tryz.ntmps17
 go_wp2_with fail
 refine ah.o.mono ?_
 rintro e w1 ⟨va,vn,vc,rfl,al,am⟩
 have af:Y (w.grownBy w1 none):=al
 have ag:Y _:=am
 have ab:Y (w1.grownBy (w1.alloc (.cells #[.slice va vn vc] 88)) none):=zL _ _ none
 clear al am ah
 by_cases ai:ak=0
 ·subst ai
  have av:au=0:=aj.o rfl
  subst av
  obtain⟨aa,an,ao⟩:=ag.o rfl
  obtain⟨q1,q2,q3⟩:=ae.o aa rfl ao
  have ar:Y (Calls Tryz.prog 42 #[.agg #[.slice va vn vc]] (w1.alloc (.cells #[.slice va vn vc] 88)) fun e w'=>e = .returned (.string (R.str pt))/\w.grownBy w' none):=by
   rw[q1]
   exact(ff _ aa (PHostsRow.keep an ab.o (zi _ _)) (by omega) (zo7 _ q2 q3) q3 ((HT.o.grown af.o).grown ab.o)).mono fun e w' ⟨k1,k2⟩=>⟨k1,zD (zD af.o ab.o) k2⟩
  clear q1 q2 q3 an ao ae ad ag
  go_wp2_with (go_at_call 42;refine ar.o.mono ?_;rintro e w2 ⟨rfl,g2⟩)
  go_ret3
  exact⟨rfl,g2⟩
 ·have aq:Y (pt=[]):=ad.o ai
  have ax:(ak != 0)=true:=by rw[bne_iff_ne];exact ai
  have ap:=J (zD af.o ab.o)
  clear ae ad ag
  go_wp2
  go_ret3
  exact⟨by rw[aq.o];rfl,ap.o⟩
theorem zbX (n:Int)(w:World):Calls Tryz.prog 36 #[.int .i64 n] w fun e w'=>e = .returned (.int .i64 n)/\w'=w:=by
 go_enter Tryz.func36,Tryz.ntmps36
 go_wp2
 go_ret
 exact⟨rfl,rfl⟩
theorem zdI (s:ByteArray)(w:World)(am:s.size<=maxLen)(hG:Glob w)(hT:GT w) :
  Calls Tryz.prog 14 #[.string s] w fun e w'=>e = .returned (.bool true)/\w.grownBy w' none:=by
 have af:Y (Calls Tryz.prog 17 #[.string s] w fun e w'=>e = .returned (.tuple #[.string (R.str (jE s.data.toList)),.int .i64 (xU s.data.toList).1,.int .i64 (xU s.data.toList).2])/\w.grownBy w' none):=zmR s w am hG hT
 have ah:Y (∀W,Calls Tryz.prog 34 #[.string s] W fun e w'=>∃v,e = .returned (.tuple #[v,.int .i64 (xU s.data.toList).1,.int .i64 (xU s.data.toList).2])/\Below W.heap.size W w'/\((xU s.data.toList).1=0->HostsRow w' W.heap.size v (xI (R.readS s.data.toList).1))):=fun W=>fo s W am
 have ad:Y ((xU s.data.toList).1=0->jE s.data.toList=R.plain (xI (R.readS s.data.toList).1)/\(xI (R.readS s.data.toList).1).length<=4/\∀h∈xI (R.readS s.data.toList).1,R.SmallH h):=fun h=>by
  obtain⟨h1,h2,h3⟩:=tM (by rw[vU];exact h)
  obtain⟨hg,_⟩:=tK _ h1 h2 h3
  exact⟨by unfold jE;rw[if_pos h],zbA hg⟩
 have ab:Y ((xU s.data.toList).1≠0->jE s.data.toList=[]):=fun h=>by unfold jE;rw[if_neg h]
 clear hG hT
 generalize jE s.data.toList=pt at*
 generalize xU s.data.toList=er at*
 generalize xI (R.readS s.data.toList).1=hs at*
 obtain⟨aa,aq⟩:=er
 simp only at af ah ad ab
 have HN:Y (∀W,Calls Tryz.prog 36 #[.int .i64 aa] W fun e w'=>e = .returned (.int .i64 aa)/\w'=W):=fun W=>zbX aa W
 go_enter Tryz.func14,Tryz.ntmps14
 go_wp2_with fail
 refine af.o.mono ?_
 rintro e w1 ⟨rfl,al⟩
 have ae:Y (w.grownBy w1 none):=al
 clear al af
 go_wp2_with fail
 refine(ah.o w1).mono ?_
 rintro e w2 ⟨v,rfl,ak,an⟩
 have aj:=J (zD ae.o (qJ ak))
 have ag:Y _:=an
 clear ak an ah
 by_cases ai:aa=0
 ·subst ai
  obtain⟨q1,q2,q3⟩:=ad.o rfl
  have ap:Y (Calls Tryz.prog 35 #[v] w2 fun e w'=>e = .returned (.string (R.str pt))/\w.grownBy w' none):=by
   rw[q1]
   exact(zeK v hs (ag.o rfl) (by omega) q3).mono fun e w' ⟨k1,k2⟩=>⟨k1,zD aj.o k2⟩
  clear q1 q2 q3 ad ab ag ae
  go_wp2_with (first
   | (go_at_call 35;refine ap.o.mono ?_;rintro e w3 ⟨rfl,g3⟩)
   | (go_at_call 36;refine(HN.o _).mono ?_;rintro e w' ⟨rfl,rfl⟩))
  go_ret
  exact⟨rfl,g3⟩
 ·have ao:Y (pt=[]):=ab.o ai
  have au:R.str pt=⟨#[]⟩:=by rw[ao.o];rfl
  have ar:(aa == 0)=false:=by rw[beq_eq_false_iff_ne];exact ai
  clear ad ab ag ae
  go_wp2_with (go_at_call 36;refine(HN.o _).mono ?_;rintro e w' ⟨rfl,rfl⟩)
  go_ret
  exact⟨rfl,aj.o⟩
theorem Glob.grown {w w':World}(h:Glob w)(hg:w.grownBy w' none):Glob w':=h.keep hg (by simp)
theorem tZ:(⟨([104,111,115,116,32,34,65,46,98,34,123,114,117,108,101,32,55,123,112,97,116,104,34,47,120,34,59,116,111,34,117,34,49,44,34,118,34,50,59,114,101,112,108,97,99,101,34,47,34,59,125,114,117,108,101,32,57,123,112,97,116,104,34,47,34,59,116,111,34,117,34,49,44,34,118,34,48,59,125,125]:List UInt8).toArray⟩:ByteArray).size=80:=by decide
end Go.Proofs.YtfocdefchbnkpaaGreatDoor
