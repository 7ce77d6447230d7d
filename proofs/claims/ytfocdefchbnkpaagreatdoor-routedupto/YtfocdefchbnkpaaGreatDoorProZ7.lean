/- The writer of a policy: a host. -/
import Derived.Test.YtfocdefchbnkpaaGreatDoorAli
import Derived.Test.YtfocdefchbnkpaaGreatDoorProZ6
import Derived.Test.YtfocdefchbnkpaaGreatDoorRdA
import Derived.Laws.AppendOwnNone
set_option maxRecDepth 100000
set_option maxHeartbeats 20000000
namespace Go.Proofs.YtfocdefchbnkpaaGreatDoor
open Go.RowKit
theorem PRuleVal.kept {w w':World}{B:Nat}{cs:List Value}{r:P.Rl}(h:PRuleVal w cs r)(hk:Kept B wtags w w'):PRuleVal w' cs r:=by
 obtain⟨vM,vT,vS,vD,e,h1,h2,h3,h4⟩:=h
 exact⟨vM,vT,vS,vD,e,yD h1 hk (by decide),yD h2 hk (by decide),yD h3 hk (by decide),yD h4 hk (by decide)⟩
theorem zlM {w:World}{wb:Nat}{l:List UInt8}(h:WInv w wb l (0:Nat))(cs:List Value)(x:P.Hst)(hv:PHostVal w cs x)(hs:R.SmallH (toR x))(hl:l.length<=80000000000000)(hT:GT w)(hB:GTB wb) :
  Calls Tryz.prog 68 #[.pointer (some ⟨wb,0,none⟩),.agg cs.toArray] w fun e w'=>e = .returned (.tuple #[])/\WInv w' wb (l++R.hostLines (toR x)) (0:Nat)/\Kept wb wtags w w':=by
 obtain⟨vR,rfl,aH,ah,ay⟩:=hv
 obtain⟨r1,r2,rfl⟩:=zP ah
 have gA:w.grownBy (w.alloc (.cells #[.string (R.str x.name),.slice r1 x.rules.length r2] 146)) none:=zJ _ _ _
 have ad:Y ((w.alloc (.cells #[.string (R.str x.name),.slice r1 x.rules.length r2] 146)).heap[w.heap.size]?=some (.cells #[.string (R.str x.name),.slice r1 x.rules.length r2] 146)):=heap_alloc_new _ _
 have J0:Y (WInv (w.alloc (.cells #[.string (R.str x.name),.slice r1 x.rules.length r2] 146)) wb l (0:Nat)):=h.grown gA
 have ao:Y (GT (w.alloc (.cells #[.string (R.str x.name),.slice r1 x.rules.length r2] 146))):=hT.grown gA
 have aj:Y (GTB wb):=hB
 have aD:Y (Kept wb wtags w (w.alloc (.cells #[.string (R.str x.name),.slice r1 x.rules.length r2] 146))):=qq gA
 have HR:=J (zO ah gA (fun k hk c=>by cases c))
 have HA:Y (All2 (PRuleVal (w.alloc (.cells #[.string (R.str x.name),.slice r1 x.rules.length r2] 146))) aH x.rules):=ay.map fun a b hab=>hab.keep gA (zv _ _)
 have K0:Y (Kept wb wtags (w.alloc (.cells #[.string (R.str x.name),.slice r1 x.rules.length r2] 146)) (w.alloc (.cells #[.string (R.str x.name),.slice r1 x.rules.length r2] 146))):=Kept.refl _ _ _
 have aJ:x.name.length<=3000:=hs.name
 have aP:x.rules.length<=4000:=by have:=hs.rules.1;simpa[toR] using this
 have ae:Y (∀r∈x.rules,R.Small (toRl r)):=fun r hr=>hs.rules.2 (toRl r) (List.mem_map_of_mem hr)
 have al:Y (lnS 0 [[104,111,115,116,32],R.q x.name,[32,123]]++(x.rules.map (fun r=>R.lines (toRl r))).flatten++lnS 0 [[125]]=R.hostLines (toR x)):=zoZ x
 have HQ:Y (∀W,Calls Tryz.prog 105 #[.string (R.str x.name)] W fun e w'=>e = .returned (.string (R.str (R.q x.name)))/\w'=W):=fun W=>xe x.name W aJ
 have u0:=zqW ad.o
 clear h hT hB ah ay hs
 generalize R.hostLines (toR x)=res at*
 go_enter Tryz.func68,Tryz.ntmps68
 go_wp2_with fail
 refine(HQ.o _).mono ?_
 rintro e wq ⟨rfl,aL⟩
 subst aL
 have aQ:=zE ad.o
 generalize w.alloc (.cells #[.string (R.str x.name),.slice r1 x.rules.length r2] 146)=wa at*
 clear HQ gA
 go_wp2_with fail
 have ak:Y (Calls Tryz.prog 104 #[.pointer (some ⟨wb,0,none⟩),.slice (some ⟨wa.heap.size,0,none⟩) 3 3] (wa.alloc (.cells #[.string ⟨#[104,111,115,116,32]⟩,.string (R.str (R.q x.name)),.string ⟨#[32,123]⟩] 9)) fun e w'=>e = .returned (.tuple #[])/\WInv w' wb (l++lnS 0 [[104,111,115,116,32],R.q x.name,[32,123]]) (0:Nat)/\Kept wb wtags wa w'):=by
  have h:=yM J0.o K0.o [[104,111,115,116,32],R.q x.name,[32,123]] (by decide) (by omega) (by simp) (by simp only[xP,List.flatten_nil,zW,zm,qi,R.q_len];omega)
  exact h
 refine ak.o.mono ?_
 rintro e w1 ⟨rfl,ab,au⟩
 have aR:(l++lnS 0 [[104,111,115,116,32],R.q x.name,[32,123]]).length<=80000000010000:=by
  unfold lnS
  simp only[xP,List.flatten_nil,zW,zm,qi,List.length_replicate,R.q_len];omega
 have an:Y (l++res=(l++lnS 0 [[104,111,115,116,32],R.q x.name,[32,123]])++((x.rules.map (fun r=>R.lines (toRl r))).flatten++lnS 0 [[125]])):=by
  show _=_
  rw[<-al.o];simp only[xY]
 generalize l++lnS 0 [[104,111,115,116,32],R.q x.name,[32,123]]=pre at*
 have c1:w1.cell? ⟨wb,2,none⟩=some (.int .i64 0):=ab.op
 have f1:w1.frozen? ⟨wb,2,none⟩=false:=ab.fz
 obtain⟨aq,av⟩:=ab.setOp (1:Nat)
 have J2:Y (WInv (w1.setCell ⟨wb,2,none⟩ (.int .i64 1)) wb pre (1:Nat)):=aq
 have K2:Y (Kept wb wtags wa (w1.setCell ⟨wb,2,none⟩ (.int .i64 1))):=au.trans av
 have ap:=K2.o.cell ad.o (by decide)
 have u2:(w1.setCell ⟨wb,2,none⟩ (.int .i64 1)).cell? ⟨w.heap.size,1,none⟩=some (.slice r1 x.rules.length r2):=z8 ap
 clear ab au aq av ak al J0 K0 ap
 go_wp2_with fail
 go_loopw [22] (fun iv wr=>∃k:Nat,k<=x.rules.length/\iv = .int .i64 k/\Y (WInv wr wb (pre++((x.rules.take k).map (fun r=>R.lines (toRl r))).flatten) (1:Nat))/\(pre++((x.rules.take k).map (fun r=>R.lines (toRl r))).flatten).length<=80000000010000+110000000*k/\Y (Kept wb wtags wa wr)) (fun iv _=>x.rules.length - (intOf iv).toNat)
 case atStart=>exact⟨0,zl _,rfl,by rw[List.take_zero,List.map_nil,List.flatten_nil,xn];exact J2,by rw[List.take_zero,List.map_nil,List.flatten_nil,xn];omega,K2⟩
 case round=>
  obtain⟨k,hk,rfl,JR,aK,KR⟩:=hrel
  clear J2 K2 u2 c1 f1 u0
  by_cases ag:k<x.rules.length
  ·have aO:(k:Int)<x.rules.length:=by omega
   obtain⟨gm,aM,aB,_,aN⟩:=World.ownsRow.form HR.o (by omega)
   simp only[qc] at aB
   obtain⟨rfl,_,rfl⟩:=aB
   have aC:=yD HR.o KR.o (by decide)
   obtain⟨ce,az,aA⟩:=ku HA.o k ag
   have af:=az.kept KR.o
   have ai:=ae.o x.rules[k] (List.getElem_mem ag)
   have am:=jD (fun r=>R.lines (toRl r)) x.rules k ag pre
   have aI:=R.lines_len _ ai
   have aa:∀j,j<7->wr.cell? ⟨gm,k*7+j,none⟩=ce[j]?:=fun j hj=>by
    rw[xd aC (k*7+j) (by omega)];exact aA j hj
   generalize x.rules[k]=r at*
   obtain⟨vM,vT,vS,vD,rfl,hM,ax,hS,hD⟩:=id af
   obtain⟨m1,m2,rfl⟩:=zP hM
   obtain⟨t1,t2,rfl⟩:=zP ax
   obtain⟨x1,x2,rfl⟩:=zP hS
   obtain⟨d1,d2,rfl⟩:=zP hD
   have e0:wr.cell? ⟨gm,k*7,none⟩=some (.int .i64 r.number):=aa 0 (by omega)
   have e1:wr.cell? ⟨gm,k*7+1,none⟩=some (.string (R.str r.path)):=aa 1 (by omega)
   have e2:wr.cell? ⟨gm,k*7+2,none⟩=some (.slice m1 r.ms.length m2):=aa 2 (by omega)
   have e3:wr.cell? ⟨gm,k*7+3,none⟩=some (.slice t1 r.tg.length t2):=aa 3 (by omega)
   have e4:wr.cell? ⟨gm,k*7+4,none⟩=some (.string (R.str r.rep)):=aa 4 (by omega)
   have e5:wr.cell? ⟨gm,k*7+5,none⟩=some (.slice x1 r.sets.length x2):=aa 5 (by omega)
   have e6:wr.cell? ⟨gm,k*7+6,none⟩=some (.slice d1 r.drops.length d2):=aa 6 (by omega)
   have aG:Y (Calls Tryz.prog 106 #[.pointer (some ⟨wb,0,none⟩),.agg #[.int .i64 r.number,.string (R.str r.path),.slice m1 r.ms.length m2,.slice t1 r.tg.length t2,.string (R.str r.rep),.slice x1 r.sets.length x2,.slice d1 r.drops.length d2]] (wr.alloc (.cells #[.int .i64 r.number,.string (R.str r.path),.slice m1 r.ms.length m2,.slice t1 r.tg.length t2,.string (R.str r.rep),.slice x1 r.sets.length x2,.slice d1 r.drops.length d2] 213)) fun e w'=>e = .returned (.tuple #[])/\WInv w' wb (pre++((x.rules.take (k+1)).map (fun r=>R.lines (toRl r))).flatten) (1:Nat)/\Kept wb wtags wa w'/\(pre++((x.rules.take (k+1)).map (fun r=>R.lines (toRl r))).flatten).length<=80000000010000+110000000*(k+1)):=by
    have gB:wr.grownBy (wr.alloc (.cells #[.int .i64 r.number,.string (R.str r.path),.slice m1 r.ms.length m2,.slice t1 r.tg.length t2,.string (R.str r.rep),.slice x1 r.sets.length x2,.slice d1 r.drops.length d2] 213)) none:=zJ _ _ none
    refine(zlN (JR.o.grown gB) _ r (af.keep gB (zv _ _)) ai (by omega) ((ao.o.kept KR.o aj.o).grown gB) aj.o).mono ?_
    rintro e w' ⟨rfl,q1,q2⟩
    rw[am]
    exact⟨rfl,q1,(KR.o.trans (qq gB)).trans q2,by rw[zW];omega⟩
   clear am aI ai az af aA aa aC hM ax hS hD ae HA HR ao JR KR
   go_wp2_with (go_at_call 106;refine aG.o.mono ?_;rintro e w2 ⟨rfl,h2,h3,h4⟩)
   go_roundw
   case rel=>exact⟨k+1,by omega,by go_num,h2,h4,h3⟩
   case measure=>simp[intOf];omega
  ·have HE:k=x.rules.length:=by omega
   subst HE
   rw[List.take_length] at JR aK
   have aF:Y (l++res=(pre++(x.rules.map (fun r=>R.lines (toRl r))).flatten)++lnS 0 [[125]]):=by
    show _=_
    rw[an.o];simp only[xY]
   clear an HA HR ae
   generalize pre++(x.rules.map (fun r=>R.lines (toRl r))).flatten=pre8 at*
   have c8:wr.cell? ⟨wb,2,none⟩=some (.int .i64 1):=JR.o.op
   have f8:wr.frozen? ⟨wb,2,none⟩=false:=JR.o.fz
   obtain⟨ar,aw⟩:=JR.o.setOp (0:Nat)
   have J8:Y (WInv (wr.setCell ⟨wb,2,none⟩ (.int .i64 0)) wb pre8 (0:Nat)):=ar
   have K8:Y (Kept wb wtags wa (wr.setCell ⟨wb,2,none⟩ (.int .i64 0))):=KR.o.trans aw
   clear ar aw JR KR
   have aE:Y (Calls Tryz.prog 104 #[.pointer (some ⟨wb,0,none⟩),.slice (some ⟨wr.heap.size,0,none⟩) 1 1] ((wr.setCell ⟨wb,2,none⟩ (.int .i64 0)).alloc (.cells #[.string ⟨#[125]⟩] 9)) fun e w'=>e = .returned (.tuple #[])/\WInv w' wb (pre8++lnS 0 [[125]]) (0:Nat)/\Kept wb wtags wa w'):=by
    have h:=yM J8.o K8.o [[125]] (by decide) (by omega) (by simp) (by simp)
    rw[show(wr.setCell ⟨wb,2,none⟩ (.int .i64 0)).heap.size=wr.heap.size by simp[World.setCell]] at h
    exact h
   go_wp2_with fail
   refine aE.o.mono ?_
   rintro e w9 ⟨rfl,h2,h3⟩
   go_wp2
   go_end0
   rw[aF.o]
   exact⟨rfl,h2,aD.o.trans h3⟩
theorem PHostVal.kept {w w':World}{B:Nat}{cs:List Value}{x:P.Hst}(h:PHostVal w cs x)(hk:Kept B wtags w w'):PHostVal w' cs x:=by
 obtain⟨vR,e,aa,h1,h2⟩:=h
 exact⟨vR,e,aa,yD h1 hk (by decide),h2.map fun a b hab=>hab.kept hk⟩
theorem zc4 (x:R.Hst):R.hostLines x≠[]:=by unfold R.hostLines;simp
theorem tM (x:R.Hst)(hs:R.SmallH x):(R.hostLines x).length<=440000010000:=by
 have h1:(x.rules.map R.lines).flatten.length<=x.rules.length*110000000:=R.flat_len _ _ _ (fun r hr=>R.lines_len r (hs.rules.2 r hr))
 have h2:=hs.rules.1
 have h3:=hs.name
 unfold R.hostLines
 simp only[zW,R.q_len,zm,qi]
 omega
theorem zd4 {α:Type}(f:α->List UInt8)(l:List α)(k:Nat):((l.take k).map f).flatten.length<=(l.map f).flatten.length:=by
 conv=>rhs;rw[<-List.take_append_drop k l,xy,jt,zW]
 omega
theorem zjZ (hs:List P.Hst)(h1:hs.length<=12)(h2:∀h∈hs,R.SmallH (toR h)):(hs.map fun h=>R.hostLines (toR h)).flatten.length<=79000000000000:=by
 have h:=R.flat_len (fun h:P.Hst=>R.hostLines (toR h)) 440000010000 hs (fun x hx=>tM _ (h2 x hx))
 omega
theorem kY {w:World}(v:Value)(hs:List P.Hst)(hH:PHostsRow w 0 v hs)(aF:hs.length<=4000)(hn:(hs.map fun h=>R.hostLines (toR h)).flatten.length<=79000000000000)(aa:∀h∈hs,R.SmallH (toR h))(hT:GT w) :
  Calls Tryz.prog 42 #[.agg #[v]] w fun e w'=>e = .returned (.string (R.str (R.plain (hs.map toR))))/\w.grownBy w' none:=by
 obtain⟨aA,ai,ap⟩:=hH
 obtain⟨h1,h2,rfl⟩:=zP ai
 have gA:w.grownBy ((w.alloc (.cells #[.slice h1 hs.length h2] 88)).alloc (.cells #[.pointer none,.slice none 0 0,.int .i64 0] 143)) none:=zA (zJ _ _ none) (zJ _ _ none)
 have am:Y (((w.alloc (.cells #[.slice h1 hs.length h2] 88)).alloc (.cells #[.pointer none,.slice none 0 0,.int .i64 0] 143)).heap[w.heap.size]?=some (.cells #[.slice h1 hs.length h2] 88)):=zB (heap_alloc_new w (.cells #[.slice h1 hs.length h2] 88)) (zJ _ _ none) (by simp)
 have ab:Y (((w.alloc (.cells #[.slice h1 hs.length h2] 88)).alloc (.cells #[.pointer none,.slice none 0 0,.int .i64 0] 143)).heap[w.heap.size+1]?=some (.cells #[.pointer none,.slice none 0 0,.int .i64 0] 143)):=by
  have:=heap_alloc_new (w.alloc (.cells #[.slice h1 hs.length h2] 88)) (.cells #[.pointer none,.slice none 0 0,.int .i64 0] 143)
  rw[show(w.alloc (.cells #[.slice h1 hs.length h2] 88)).heap.size=w.heap.size+1 by simp] at this
  exact this
 have J0:Y (WInv ((w.alloc (.cells #[.slice h1 hs.length h2] 88)).alloc (.cells #[.pointer none,.slice none 0 0,.int .i64 0] 143)) (w.heap.size+1) [] (0:Nat)):=Or.inl ⟨_,ab.o,xS _ _ _ _⟩
 have ae:Y (GT ((w.alloc (.cells #[.slice h1 hs.length h2] 88)).alloc (.cells #[.pointer none,.slice none 0 0,.int .i64 0] 143))):=hT.grown gA
 have aj:Y (GTB (w.heap.size+1)):=fun g e=>Nat.lt_succ_of_lt (hT.bound g e)
 have ak:Y (Kept (w.heap.size+1) wtags w ((w.alloc (.cells #[.slice h1 hs.length h2] 88)).alloc (.cells #[.pointer none,.slice none 0 0,.int .i64 0] 143))):=qq gA
 have HR:=J (zO ai gA (fun k hk c=>by cases c))
 have HA:Y (All2 (PHostVal ((w.alloc (.cells #[.slice h1 hs.length h2] 88)).alloc (.cells #[.pointer none,.slice none 0 0,.int .i64 0] 143))) aA hs):=ap.map fun a b hab=>hab.keep gA (zv _ _)
 have K0:Y (Kept (w.heap.size+1) wtags ((w.alloc (.cells #[.slice h1 hs.length h2] 88)).alloc (.cells #[.pointer none,.slice none 0 0,.int .i64 0] 143)) ((w.alloc (.cells #[.slice h1 hs.length h2] 88)).alloc (.cells #[.pointer none,.slice none 0 0,.int .i64 0] 143))):=Kept.refl _ _ _
 have ad:Y (∀h∈hs,R.SmallH (toR h)):=aa
 have az:Y ((hs.map (fun h=>R.hostLines (toR h))).flatten.length<=79000000000000):=hn
 have an:Y (R.plain (hs.map toR)=(hs.map (fun h=>R.hostLines (toR h))).flatten):=wA hs
 have u0:=zqV am.o
 have aG:=zE ab.o
 clear hT ai ap aa gA am hn
 generalize R.plain (hs.map toR)=res at*
 go_enter Tryz.func42,Tryz.ntmps42
 go_wp2_with fail
 generalize((w.alloc (.cells #[.slice h1 hs.length h2] 88)).alloc (.cells #[.pointer none,.slice none 0 0,.int .i64 0] 143))=wa at*
 go_loopw [9] (fun iv wr=>∃k:Nat,k<=hs.length/\iv = .int .i64 k/\Y (WInv wr (w.heap.size+1) ((hs.take k).map (fun h=>R.hostLines (toR h))).flatten (0:Nat))/\Y (Kept (w.heap.size+1) wtags wa wr)/\Y (k=0->wr.heap[w.heap.size+1]?=some (.cells #[.pointer none,.slice none 0 0,.int .i64 0] 143))) (fun iv _=>hs.length - (intOf iv).toNat)
 case atStart=>exact⟨0,zl _,rfl,by rw[List.take_zero,List.map_nil,List.flatten_nil];exact J0,K0,fun _=>ab.o⟩
 case round=>
  obtain⟨k,hk,rfl,JR,KR,HZ⟩:=hrel
  clear J0 K0 u0 ab
  by_cases ah:k<hs.length
  ·have aE:(k:Int)<hs.length:=by omega
   obtain⟨gm,aC,au,_,aD⟩:=World.ownsRow.form HR.o (by omega)
   simp only[qc] at au
   obtain⟨rfl,_,rfl⟩:=au
   have av:=yD HR.o KR.o (by decide)
   obtain⟨ce,aq,ar⟩:=kv HA.o k ah
   have af:=aq.kept KR.o
   have aa:=ad.o hs[k] (List.getElem_mem ah)
   have al:=za9 (fun h=>R.hostLines (toR h)) hs k ah
   have aB:((hs.take k).map (fun h=>R.hostLines (toR h))).flatten.length<=79000000000000:=zp (zd4 _ hs k) az.o
   have ag:∀j,j<2->wr.cell? ⟨gm,k*2+j,none⟩=ce[j]?:=fun j hj=>by
    rw[xd av (k*2+j) (by omega)];exact ar j hj
   generalize hs[k]=x at*
   obtain⟨vR,rfl,ao⟩:=id af
   obtain⟨r1,r2,rfl⟩:=vC ao
   have e0:wr.cell? ⟨gm,k*2,none⟩=some (.string (R.str x.name)):=ag 0 (by omega)
   have e1:wr.cell? ⟨gm,k*2+1,none⟩=some (.slice r1 x.rules.length r2):=ag 1 (by omega)
   have aw:Y (Calls Tryz.prog 68 #[.pointer (some ⟨w.heap.size+1,0,none⟩),.agg #[.string (R.str x.name),.slice r1 x.rules.length r2]] (wr.alloc (.cells #[.string (R.str x.name),.slice r1 x.rules.length r2] 146)) fun e w'=>e = .returned (.tuple #[])/\WInv w' (w.heap.size+1) ((hs.take (k+1)).map (fun h=>R.hostLines (toR h))).flatten (0:Nat)/\Kept (w.heap.size+1) wtags wa w'):=by
    have gB:wr.grownBy (wr.alloc (.cells #[.string (R.str x.name),.slice r1 x.rules.length r2] 146)) none:=zJ _ _ none
    refine(zlM (JR.o.grown gB) _ x (af.keep gB (zv _ _)) aa (by omega) ((ae.o.kept KR.o aj.o).grown gB) aj.o).mono ?_
    rintro e w' ⟨rfl,q1,q2⟩
    rw[al]
    exact⟨rfl,q1,(KR.o.trans (qq gB)).trans q2⟩
   clear al aB aa aq af ar ag av ao ad HA HR ae JR KR HZ
   go_wp2_with (go_at_call 68;refine aw.o.mono ?_;rintro e w2 ⟨rfl,h2,h3⟩)
   go_roundw
   case rel=>exact⟨k+1,by omega,by go_num,h2,h3,fun h=>absurd h (by omega)⟩
   case measure=>simp[intOf];omega
  ·have HE:k=hs.length:=by omega
   subst HE
   have ay:Y (Calls Tryz.prog 69 #[.pointer (some ⟨w.heap.size+1,0,none⟩)] wr fun e w'=>e = .returned (.string (R.str res))/\Kept (w.heap.size+1) wtags wr w'):=by
    show Calls _ _ _ _ _
    have hJ:=JR.o
    rw[List.take_length] at hJ
    rw[an.o]
    by_cases h0:hs.length=0
    ·have he:hs=[]:=List.length_eq_zero_iff.1 h0
     subst he
     exact zcW (HZ.o rfl)
    ·refine zg2 hJ (fun hc=>?_)
     match hs,h0,hc with
     | x :: xs,_,hc=>
      rw[xi,xP] at hc
      exact zc4 _ (List.append_eq_nil_iff.1 hc).1
   have ax:Y (Kept (w.heap.size+1) wtags w wr):=ak.o.trans KR.o
   clear JR KR HZ an HA HR ad ae ak
   go_wp2_with (go_at_call 69;refine ay.o.mono ?_;rintro e w2 ⟨rfl,g2⟩)
   go_ret
   exact⟨rfl,(ax.o.trans g2).grown (Nat.le_succ _)⟩
def xu (l:List UInt8):List UInt8:=if (xm l).1=0 then R.plain (jH (R.readS l).1) else []
theorem uo {l:List UInt8}(h:(qd l).1=0):l.length<=3000/\(ze l).2.broken=false/\(ze l).2.err=0:=by
 unfold qd at h
 by_cases hl:3000<l.length
 ·rw[if_pos hl] at h;exact absurd h (by decide)
 ·rw[if_neg hl] at h
  exact⟨by omega,jp h⟩
theorem fP {l:List UInt8}(h:(qd l).1=0):(qd l).2=0:=by
 obtain⟨h1,h2,h3⟩:=uo h
 unfold qd
 rw[if_neg (by omega)]
 unfold xT
 rw[h2,h3];rfl
theorem ff {l:List UInt8}{aa:List P.Hst}(h:(qd l).1=0)(hs:SrtH (ze l).1 aa) :
  xu l=R.plain (aa.map toR)/\aa.length<=12/\(∀h∈aa,R.SmallH (toR h)):=by
 obtain⟨h1,h2,h3⟩:=uo h
 obtain⟨hg,e⟩:=zcY l h1 h2 h3
 rw[e] at hg
 have e2:=zo1 hs hg
 obtain⟨s1,s2⟩:=zgB hg
 rw[<-e2] at s1 s2
 refine⟨?_,?_,fun x hx=>s2 (toR x) (List.mem_map_of_mem hx)⟩
 ·unfold xu
  rw[if_pos (by rw[<-yw];exact h),e,e2]
 ·simp at s1;omega
theorem uG (s:ByteArray)(w:World)(aw:s.size<=maxLen)(hG:Glob w)(hT:GT w) :
  Calls Tryz.prog 17 #[.string s] w fun e w'=>e = .returned (.tuple #[.string (R.str (xu s.data.toList)),.int .i64 (xm s.data.toList).1,.int .i64 (xm s.data.toList).2])/\w.grownBy w' none:=by
 have ah:Y (Calls Tryz.prog 41 #[.string s] w fun e w'=>∃va vn vc,e = .returned (.tuple #[.agg #[.slice va vn vc],.int .i64 (qd s.data.toList).1,.int .i64 (qd s.data.toList).2])/\w.grownBy w' none/\((qd s.data.toList).1=0->∃aa,PHostsRow w' 0 (.slice va vn vc) aa/\SrtH (ze s.data.toList).1 aa)):=by
  refine(zfQ s w aw hG (fun h1 h2 h3=>zg5 _ (by rw[R.size_eq];exact h1) h2 h3)).mono ?_
  rintro e w' ⟨v,rfl,h1,h2,va,vn,vc,rfl⟩
  exact⟨va,vn,vc,rfl,h1,h2⟩
 have ae:Y (∀aa,(qd s.data.toList).1=0->SrtH (ze s.data.toList).1 aa->xu s.data.toList=R.plain (aa.map toR)/\aa.length<=12/\(∀h∈aa,R.SmallH (toR h))):=fun aa h1 h2=>ff h1 h2
 have ad:Y ((qd s.data.toList).1≠0->xu s.data.toList=[]):=fun h=>by
  unfold xu;rw[if_neg (by rw[<-yw];exact h)]
 have aj:Y ((qd s.data.toList).1=0->(qd s.data.toList).2=0):=fP
 have HT:Y (GT w):=hT
 rw[<-yw]
 clear hT hG
 generalize xu s.data.toList=pt at*
 generalize qd s.data.toList=er at*
 generalize ze s.data.toList=rd at*
 obtain⟨ak,au⟩:=er
 simp only at ah ae ad aj ⊢
 go_enter Tryz.func17,Tryz.ntmps17
 go_wp2_with fail
 refine ah.o.mono ?_
 rintro e w1 ⟨va,vn,vc,rfl,al,am⟩
 have af:Y (w.grownBy w1 none):=al
 have ag:Y _:=am
 have ab:Y (w1.grownBy (w1.alloc (.cells #[.slice va vn vc] 88)) none):=zJ _ _ none
 clear al am ah
 by_cases ai:ak=0
 ·subst ai
  have av:au=0:=aj.o rfl
  subst av
  obtain⟨aa,an,ao⟩:=ag.o rfl
  obtain⟨q1,q2,q3⟩:=ae.o aa rfl ao
  have ar:Y (Calls Tryz.prog 42 #[.agg #[.slice va vn vc]] (w1.alloc (.cells #[.slice va vn vc] 88)) fun e w'=>e = .returned (.string (R.str pt))/\w.grownBy w' none):=by
   rw[q1]
   exact(kY _ aa (PHostsRow.keep an ab.o (zv _ _)) (by omega) (zjZ _ q2 q3) q3 ((HT.o.grown af.o).grown ab.o)).mono fun e w' ⟨k1,k2⟩=>⟨k1,zA (zA af.o ab.o) k2⟩
  clear q1 q2 q3 an ao ae ad ag
  go_wp2_with (go_at_call 42;refine ar.o.mono ?_;rintro e w2 ⟨rfl,g2⟩)
  go_ret3
  exact⟨rfl,g2⟩
 ·have aq:Y (pt=[]):=ad.o ai
  have ax:(ak != 0)=true:=by rw[bne_iff_ne];exact ai
  have ap:=J (zA af.o ab.o)
  clear ae ad ag
  go_wp2
  go_ret3
  exact⟨by rw[aq.o];rfl,ap.o⟩
theorem Glob.grown {w w':World}(h:Glob w)(hg:w.grownBy w' none):Glob w':=h.keep hg (by simp)
theorem jL (b o i:Nat):(⟨b,o,none⟩:Addr).add i=⟨b,o+i,none⟩:=by unfold Addr.add;split <;> simp_all
def Rd (w:World)(v:Value)(l:List UInt8):Prop:=
 (v = .slice none 0 0/\l=[])\/∃g c,v = .slice (some ⟨g,0,none⟩) l.length c/\g<w.heap.size/\∀j u,(Lib.byteCells l)[j]?=some u->w.cell? ((⟨g,0,none⟩:Addr).add j)=some u
theorem Rd.keep {w w':World}{v:Value}{l:List UInt8}(h:Rd w v l)(hg:w.grownBy w' none):Rd w' v l:=by
 rcases h with h | ⟨g,c,h1,h2,h3⟩
 ·exact Or.inl h
 ·exact Or.inr ⟨g,c,h1,yU h2 hg.size,fun j u hu=>hg.cell (h3 j u hu) (by simp)⟩
theorem Rd.of_row {w:World}{B:Nat}{v:Value}{l:List UInt8}(h:w.ownsRow B 5 1 v l.length (Lib.byteCells l)):Rd w v l:=by
 rcases h.2 with ⟨h1,h2⟩ | ⟨g,cap,cur,hv,hB,hb,r⟩
 ·exact Or.inl ⟨h1,List.length_eq_zero_iff.1 h2⟩
 ·refine Or.inr ⟨g,cap,hv,zE hb,fun j u hu=>?_⟩
  subst hv
  have hj:j<l.length:=by have:=(List.getElem?_eq_some_iff.1 hu).1;simpa[Lib.byteCells] using this
  rw[jL,Nat.zero_add,xd h j (by omega)]
  exact hu
theorem zaG (l:List UInt8):∀u∈Lib.byteCells l,u.oneCell'=true:=by
 intro u hu
 unfold Lib.byteCells at hu
 obtain⟨b,_,rfl⟩:=List.mem_map.1 hu
 rfl
theorem j9 (l:List UInt8):(Lib.byteCells l).length=l.length:=by unfold Lib.byteCells;simp
def qe (ls:List (List UInt8)):List UInt8:=ls.flatten
def xR (ls:List (List UInt8))(i:Nat):List UInt8:=(ls.take i).flatten
theorem zd6 (ls:List (List UInt8)):xR ls ls.length=qe ls:=by unfold xR qe;rw[List.take_length]
theorem zb0 (ls:List (List UInt8))(i:Nat)(h:i<ls.length):xR ls (i+1)=xR ls i++ls[i]:=by
 unfold xR
 rw[j6 h,jt];simp
theorem zgT (ls:List (List UInt8))(i:Nat):(xR ls i).length<=(qe ls).length:=by
 unfold xR qe
 conv=>rhs;rw[<-List.take_append_drop i ls,jt,zW]
 omega
theorem zi5 {w:World}(g c:Nat)(vs:List Value)(ls:List (List UInt8))(hp:w.heap[g]?=some (.cells vs.toArray 32 (0,0)))(hr:All2 (Rd w) vs ls)(hl:(qe ls).length<=100000000000000)(hn:vs.length<=1000) :
  Calls Tryz.prog 70 #[.slice (some ⟨g,0,none⟩) vs.length c] w fun e w'=>∃a k,e = .returned (.slice a (qe ls).length k)/\w'.ownsRow w.heap.size 5 1 (.slice a (qe ls).length k) (qe ls).length (Lib.byteCells (qe ls))/\w.grownBy w' none:=by
 obtain⟨i0,hi,am,an,ao⟩:=info_parts ja
 have HP:Y (w.heap[g]?=some (.cells vs.toArray 32 (0,0))):=hp
 have HR:Y (All2 (Rd w) vs ls):=hr
 have ab:Y (vs.length=ls.length):=hr.len
 have ap:=zE hp
 clear hp hr
 go_enter Tryz.func70,Tryz.ntmps70
 go_wp2
 go_loopw [3,8] (fun sv iv wr=>∃i:Nat,i<=vs.length/\iv = .int .i64 i/\(∃a k,sv = .slice a (xR ls i).length k/\Y (wr.ownsRow w.heap.size 5 1 (.slice a (xR ls i).length k) (xR ls i).length (Lib.byteCells (xR ls i))))/\Y (w.grownBy wr none)) (fun _ iv _=>vs.length - (intOf iv).toNat)
 case atStart=>exact⟨0,zl _,rfl,⟨none,0,rfl,xS _ _ _ _⟩,zM _ _⟩
 case round=>
  obtain⟨i,au,rfl,⟨a,k,rfl,HO⟩,HG⟩:=hrel
  by_cases ag:i<vs.length
  ·have ar:(i:Int)<vs.length:=by omega
   have d0:wr.cell? ⟨g,i,none⟩=some vs[i]:=by
    refine HG.o.cell (a:=⟨g,i,none⟩) ?_ (by simp)
    rw[z8 HP.o]
    simp[ag]
   have ak:=(HR.o.get i ag (by have:=ab.o;omega)).keep HG.o
   have aq:i<ls.length:=by have:=ab.o;omega
   have aa:Y (xR ls (i+1)=xR ls i++ls[i]):=by
    exact zb0 ls i (by have:=ab.o;omega)
   have aj:(xR ls (i+1)).length<=100000000000000:=zp (zgT ls (i+1)) hl
   rw[aa.o,zW] at aj
   have al:=HG.o.size
   clear HR HP
   generalize vs[i]=v at*
   generalize ls[i]=x at*
   rcases ak with ⟨rfl,rfl⟩ | ⟨gx,cx,rfl,hgx,hcx⟩
   ·have ae:Y (xR ls (i+1)=xR ls i):=by show _=_;rw[aa.o,xn]
    go_wp2_with (at_builtin;refine wpList_append_own_none rfl _ _ 32 rfl w.heap.size 5 i0 1 Tryz.underlying32 hi _ _ _ rfl HO.o rfl ?_)
    go_wp2
    go_roundw
    case rel=>exact⟨i+1,by omega,by go_num,⟨a,k,by rw[ae.o],by rw[ae.o];exact HO⟩,HG⟩
    case measure=>simp[intOf];omega
   ·have HC:Y (∀j u,(Lib.byteCells x)[j]?=some u->wr.cell? ((⟨gx,0,none⟩:Addr).add j)=some u):=hcx
    clear hcx
    go_wp2_with (at_builtin;refine wpList_append_own _ rfl _ _ 32 rfl w.heap.size 5 i0 _ 1 1 Tryz.underlying32 hi am an ao rfl (by decide) _ _ _ rfl HO.o ⟨gx,0,none⟩ x.length cx (Lib.byteCells x) rfl ?a1 HC.o (zaG x) ?a4 ?a5 al ?_)
    case a1=>rw[j9,Nat.mul_one]
    case a4=>unfold maxLen;omega
    case a5=>omega
    intro v' w2 ad af _
    obtain⟨va,vc,rfl⟩:=zP ad
    have ai:Y (w2.ownsRow w.heap.size 5 1 (.slice va ((xR ls (i+1)).length) vc) (xR ls (i+1)).length (Lib.byteCells (xR ls (i+1)))):=by
     show World.ownsRow _ _ _ _ _ _ _
     rw[aa.o,zW,Lib.byteCells_append]
     exact ad
    have ah:=J (x9 HG.o af (fun k hk=>(qh HO.o k hk).1))
    have HV:Y ((xR ls i).length+x.length=(xR ls (i+1)).length):=by show _=_;rw[aa.o,zW]
    clear ad af
    go_wp2
    go_roundw
    case rel=>exact⟨i+1,by omega,by go_num,⟨va,vc,by rw[HV.o],ai⟩,ah⟩
    case measure=>simp[intOf];omega
  ·have hE:i=vs.length:=by omega
   subst hE
   have HJ:Y (xR ls vs.length=qe ls):=by show _=_;rw[ab.o];exact zd6 ls
   rw[HJ.o] at HO ⊢
   go_wp2
   go_ret
   exact⟨a,k,rfl,HO.o,HG.o⟩
def Gives (w:World)(l:List UInt8)(e:Ending)(w':World):Prop:=
 ∃a k,e = .returned (.slice a l.length k)/\w'.ownsRow w.heap.size 5 1 (.slice a l.length k) l.length (Lib.byteCells l)/\w.grownBy w' none
theorem znX (w:World)(l:List UInt8)(hl:l.length<=1000000):(w.alloc (.cells (Lib.byteCells l).toArray 5)).ownsRow w.heap.size 5 1 (.slice (some ⟨w.heap.size,0,none⟩) l.length l.length) l.length (Lib.byteCells l):=by
 refine⟨by rw[j9,Nat.mul_one],Or.inr ⟨w.heap.size,l.length,(Lib.byteCells l).toArray,rfl,zZ _,heap_alloc_new _ _,zZ _,by unfold maxLen;omega,by simp[j9],?_⟩⟩
 rw[jS (by simp[j9])]
theorem j4 (n:Nat)(w:World):Calls Tryz.prog 107 #[.int .i64 n] w (Gives w [UInt8.ofNat n]):=by
 have HU:Y ((UInt8.ofNat n).toNat=n % 256):=by show _=_;rw[UInt8.toNat_ofNat']
 go_enter Tryz.func107,Tryz.ntmps107
 go_wp2
 go_ret
 refine⟨some ⟨w.heap.size,0,none⟩,1,rfl,?_,zJ _ _ _⟩
 have h:=znX w [UInt8.ofNat n] (by simp)
 unfold Lib.byteCells at h ⊢
 simp only[xi,List.map_nil] at h ⊢
 rw[HU.o] at h ⊢
 exact h
theorem jm {w:World}{base aa:Nat}{e:TypeId}{ab:Nat}{v:Value}{n:Nat}{xs:List Value}(h:w.ownsRow base e ab v n xs)(hb:aa<=base):w.ownsRow aa e ab v n xs:=
 ⟨h.1,h.2.imp id fun⟨g,cap,cur,h1,h2,h3⟩=>⟨g,cap,cur,h1,zp hb h2,h3⟩⟩
theorem xZ {w0 W:World}(hk:w0.grownBy W none)(vs:List Value)(ls:List (List UInt8))(hr:All2 (Rd W) vs ls)(hl:(qe ls).length<=1000000)(hn:vs.length<=100) :
  Calls Tryz.prog 70 #[.slice (some ⟨W.heap.size,0,none⟩) vs.length vs.length] (W.alloc (.cells vs.toArray 32)) (Gives w0 (qe ls)):=by
 have gA:W.grownBy (W.alloc (.cells vs.toArray 32)) none:=zJ _ _ _
 refine(zi5 W.heap.size vs.length vs ls (heap_alloc_new _ _) (hr.map fun a b hab=>hab.keep gA) (by omega) (by omega)).mono ?_
 rintro e w' ⟨a,k,h1,h2,h3⟩
 exact⟨a,k,h1,jm h2 (zp hk.size (by simp)),zA (zA hk gA) h3⟩
theorem zqQ (n:Nat):UInt8.ofNat (n % 256)=UInt8.ofNat n:=by
 apply UInt8.toNat_inj.1;rw[UInt8.toNat_ofNat',UInt8.toNat_ofNat'];simp
theorem zoC (n:Nat):qe [[UInt8.ofNat n],[UInt8.ofNat (n / 256)]]=qS n:=by
 unfold qe qS
 rw[show((n:Int)).toNat=n from rfl,zqQ];rfl
theorem zcU (n:Nat)(w:World):Calls Tryz.prog 111 #[.int .i64 n] w (Gives w (qS n)):=by
 go_enter Tryz.func111,Tryz.ntmps111
 go_wp2_with fail
 refine(j4 n w).mono ?_
 rintro e w1 ⟨a1,k1,rfl,h1,g1⟩
 have aa:Y (Rd w1 (.slice a1 1 k1) ([UInt8.ofNat n])):=Rd.of_row h1
 have G1:Y (w.grownBy w1 none):=g1
 clear h1 g1
 go_wp2_with fail
 refine(j4 (n / 256) w1).mono ?_
 rintro e w2 ⟨a2,k2,rfl,h2,g2⟩
 have ad:Y (Rd w2 (.slice a2 1 k2) ([UInt8.ofNat (n / 256)])):=Rd.of_row h2
 have ab:Y (Rd w2 (.slice a1 1 k1) ([UInt8.ofNat n])):=aa.o.keep g2
 have G2:=J (zA G1.o g2)
 clear h2 g2 G1 aa
 go_wp2_with fail
 have HJ:Y (Calls Tryz.prog 70 #[.slice (some ⟨w2.heap.size,0,none⟩) 2 2] (w2.alloc (.cells #[.slice a1 1 k1,.slice a2 1 k2] 32)) (Gives w (qS n))):=by
  have h:=xZ G2.o [.slice a1 1 k1,.slice a2 1 k2] [[UInt8.ofNat n],[UInt8.ofNat (n / 256)]] (.cons ab.o (.cons ad.o .nil)) (by unfold qe;simp) (by simp)
  rw[zoC n] at h
  exact h
 refine HJ.o.mono ?_
 rintro e wZ ⟨aZ,kZ,rfl,hZ,gZ⟩
 clear HJ
 go_wp2
 go_ret
 exact⟨aZ,kZ,rfl,hZ,gZ⟩
theorem Rd.bytes (w:World)(s:ByteArray)(c:Nat):Rd (Lib.bytesWorld w 5 s) (.slice (some ⟨w.heap.size,0,none⟩) s.size c) s.data.toList:=by
 refine Or.inr ⟨w.heap.size,c,by rw[R.size_eq],by rw[Lib.bytesWorld_size];omega,fun j u hu=>?_⟩
 rw[jL,Nat.zero_add]
 unfold Lib.byteCells at hu
 rw[List.getElem?_map] at hu
 cases hq:s.data.toList[j]? with
 | none=>rw[hq] at hu;cases hu
 | some b=>rw[hq] at hu;cases hu;exact(BytesAt.new w s).cell hq
theorem znN (s:ByteArray)(w:World)(hl:s.size<=255):Calls Tryz.prog 108 #[.string s] w (Gives w (zI s.data.toList)):=by
 have ab:∀w,(convert 9 32 (.string s)).run Tryz.prog w = .ok (.slice (some ⟨w.heap.size,0,none⟩) s.size (grownCap w s.size 0 5)) (Lib.bytesWorld w 5 s):=fun w=>Lib.run_convert_string_bytes (u:=.string) w _ _ _ s (by kernel_rfl) (by kernel_rfl) (by kernel_rfl)
 go_enter Tryz.func108,Tryz.ntmps108
 go_wp2_with fail
 refine(j4 s.size w).mono ?_
 rintro e w1 ⟨a1,k1,rfl,h1,g1⟩
 have aa:Y (Rd w1 (.slice a1 1 k1) ([UInt8.ofNat s.size])):=Rd.of_row h1
 have G1:Y (w.grownBy w1 none):=g1
 clear h1 g1
 have gB:w1.grownBy (Lib.bytesWorld w1 5 s) none:=xk _ _ _
 have R1:Y (Rd (Lib.bytesWorld w1 5 s) (.slice a1 1 k1) [UInt8.ofNat s.size]):=aa.o.keep gB
 have G2:=J (zA G1.o gB)
 have HJ:Y (Calls Tryz.prog 70 #[.slice (some ⟨(Lib.bytesWorld w1 5 s).heap.size,0,none⟩) 2 2] ((Lib.bytesWorld w1 5 s).alloc (.cells #[.slice a1 1 k1,.slice (some ⟨w1.heap.size,0,none⟩) s.size (grownCap w1 s.size 0 5)] 32)) (Gives w (zI s.data.toList))):=by
  have h:=xZ G2.o [.slice a1 1 k1,.slice (some ⟨w1.heap.size,0,none⟩) s.size (grownCap w1 s.size 0 5)] [[UInt8.ofNat s.size],s.data.toList] (.cons R1.o (.cons (Rd.bytes _ _ _) .nil)) (by unfold qe;simp;omega) (by simp)
  rw[show qe [[UInt8.ofNat s.size],s.data.toList]=zI s.data.toList by unfold qe zI;rw[R.size_eq];simp] at h
  exact h
 clear gB R1 G2
 go_wp2_with fail
 refine HJ.o.mono ?_
 rintro e wZ ⟨aZ,kZ,rfl,hZ,gZ⟩
 clear HJ
 go_wp2
 go_ret
 exact⟨aZ,kZ,rfl,hZ,gZ⟩
theorem yy (l:List UInt8)(w:World)(hl:l.length<=255):Calls Tryz.prog 108 #[.string (R.str l)] w (Gives w (zI l)):=by
 have h:=znN (R.str l) w hl
 rw[R.str_toList] at h;exact h
def x8 (b:Bool)(l:List UInt8):List UInt8:=if b then 1 :: zI l else [0]
theorem uX (b:Bool)(l:List UInt8)(w:World)(hl:l.length<=255):Calls Tryz.prog 166 #[.bool b,.string (R.str l)] w (Gives w (x8 b l)):=by
 cases b
 ·go_enter Tryz.func166,Tryz.ntmps166
  go_wp2_with fail
  refine(j4 0 w).mono ?_
  rintro e w1 ⟨a1,k1,rfl,h1,g1⟩
  go_wp2
  go_ret
  exact⟨a1,k1,rfl,h1,g1⟩
 ·go_enter Tryz.func166,Tryz.ntmps166
  go_wp2_with fail
  refine(j4 1 w).mono ?_
  rintro e w1 ⟨a1,k1,rfl,h1,g1⟩
  have aa:Y (Rd w1 (.slice a1 1 k1) ([1])):=Rd.of_row h1
  have G1:Y (w.grownBy w1 none):=g1
  clear h1 g1
  go_wp2_with fail
  refine(yy l w1 hl).mono ?_
  rintro e w2 ⟨a2,k2,rfl,h2,g2⟩
  have ad:Y (Rd w2 (.slice a2 (zI l).length k2) (zI l)):=Rd.of_row h2
  have ab:Y (Rd w2 (.slice a1 1 k1) ([1])):=aa.o.keep g2
  have G2:=J (zA G1.o g2)
  clear h2 g2 G1 aa
  go_wp2_with fail
  have HJ:Y (Calls Tryz.prog 70 #[.slice (some ⟨w2.heap.size,0,none⟩) 2 2] (w2.alloc (.cells #[.slice a1 1 k1,.slice a2 (zI l).length k2] 32)) (Gives w (x8 true l))):=by
   have h:=xZ G2.o [.slice a1 1 k1,.slice a2 (zI l).length k2] [[1],zI l] (.cons ab.o (.cons ad.o .nil)) (by unfold qe zI;simp;omega) (by simp)
   rw[show qe [[1],zI l]=x8 true l by unfold qe x8;simp] at h
   exact h
  refine HJ.o.mono ?_
  rintro e wZ ⟨aZ,kZ,rfl,hZ,gZ⟩
  clear HJ
  go_wp2
  go_ret
  exact⟨aZ,kZ,rfl,hZ,gZ⟩
end Go.Proofs.YtfocdefchbnkpaaGreatDoor
