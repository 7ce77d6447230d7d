/- The writer of a policy: a host. -/
import Derived.Test.YtfocdefchbnkpaaGreatDoorAli
import Derived.Test.YtfocdefchbnkpaaGreatDoorProZ3
import Derived.Test.YtfocdefchbnkpaaGreatDoorRdA
import Derived.Laws.AppendOwnNone
import Derived.Deep.RegionHeld3
set_option maxRecDepth 100000
set_option maxHeartbeats 20000000
namespace Go.Proofs.YtfocdefchbnkpaaGreatDoor
open Go.RowKit
theorem PRuleVal.kept {w w':World}{B:Nat}{cs:List Value}{r:P.Rl}(h:PRuleVal w cs r)(hk:Kept B wtags w w'):PRuleVal w' cs r:=by
 obtain⟨vM,vT,vS,vD,e,h1,h2,h3,h4⟩:=h
 exact⟨vM,vT,vS,vD,e,jD h1 hk (by decide),jD h2 hk (by decide),jD h3 hk (by decide),jD h4 hk (by decide)⟩
theorem zmZ {w:World}{wb:Nat}{l:List UInt8}(h:WInv w wb l (0:Nat))(cs:List Value)(x:P.Hst)(hv:PHostVal w cs x)(hs:R.SmallH (toR x))(hl:l.length<=80000000000000)(hT:GT w)(hB:GTB wb) :
  Calls Tryz.prog 68 #[.pointer (some ⟨wb,0,none⟩),.agg cs.toArray] w fun e w'=>e = .returned (.tuple #[])/\WInv w' wb (l++R.hostLines (toR x)) (0:Nat)/\Kept wb wtags w w':=by
 obtain⟨vR,rfl,aH,ah,ay⟩:=hv
 obtain⟨r1,r2,rfl⟩:=zO ah
 have gA:w.grownBy (w.alloc (.cells #[.string (R.str x.name),.slice r1 x.rules.length r2] 146)) none:=zL _ _ _
 have ad:Y ((w.alloc (.cells #[.string (R.str x.name),.slice r1 x.rules.length r2] 146)).heap[w.heap.size]?=some (.cells #[.string (R.str x.name),.slice r1 x.rules.length r2] 146)):=heap_alloc_new _ _
 have J0:Y (WInv (w.alloc (.cells #[.string (R.str x.name),.slice r1 x.rules.length r2] 146)) wb l (0:Nat)):=h.grown gA
 have ao:Y (GT (w.alloc (.cells #[.string (R.str x.name),.slice r1 x.rules.length r2] 146))):=hT.grown gA
 have aj:Y (GTB wb):=hB
 have aD:Y (Kept wb wtags w (w.alloc (.cells #[.string (R.str x.name),.slice r1 x.rules.length r2] 146))):=xi gA
 have HR:=J (zV ah gA (fun k hk c=>by cases c))
 have HA:Y (All2 (PRuleVal (w.alloc (.cells #[.string (R.str x.name),.slice r1 x.rules.length r2] 146))) aH x.rules):=ay.map fun a b hab=>hab.keep gA (zi _ _)
 have K0:Y (Kept wb wtags (w.alloc (.cells #[.string (R.str x.name),.slice r1 x.rules.length r2] 146)) (w.alloc (.cells #[.string (R.str x.name),.slice r1 x.rules.length r2] 146))):=Kept.refl _ _ _
 have aJ:x.name.length<=3000:=hs.name
 have aP:x.rules.length<=4000:=by have:=hs.rules.1;simpa[toR] using this
 have ae:Y (∀r∈x.rules,R.Small (toRl r)):=fun r hr=>hs.rules.2 (toRl r) (List.mem_map_of_mem hr)
 have al:Y (lnS 0 [[104,111,115,116,32],R.q x.name,[32,123]]++(x.rules.map (fun r=>R.lines (toRl r))).flatten++lnS 0 [[125]]=R.hostLines (toR x)):=zsQ x
 have HQ:Y (∀W,Calls Tryz.prog 105 #[.string (R.str x.name)] W fun e w'=>e = .returned (.string (R.str (R.q x.name)))/\w'=W):=fun W=>ym x.name W aJ
 have u0:=zuH ad.o
 clear h hT hB ah ay hs
 generalize R.hostLines (toR x)=res at*
 go_enter Tryz.func68,Tryz.ntmps68
 go_wp2_with fail
 refine(HQ.o _).mono ?_
 rintro e wq ⟨rfl,aL⟩
 subst aL
 have aQ:=zI ad.o
 generalize w.alloc (.cells #[.string (R.str x.name),.slice r1 x.rules.length r2] 146)=wa at*
 clear HQ gA
 go_wp2_with fail
 have ak:Y (Calls Tryz.prog 104 #[.pointer (some ⟨wb,0,none⟩),.slice (some ⟨wa.heap.size,0,none⟩) 3 3] (wa.alloc (.cells #[.string ⟨#[104,111,115,116,32]⟩,.string (R.str (R.q x.name)),.string ⟨#[32,123]⟩] 9)) fun e w'=>e = .returned (.tuple #[])/\WInv w' wb (l++lnS 0 [[104,111,115,116,32],R.q x.name,[32,123]]) (0:Nat)/\Kept wb wtags wa w'):=by
  have h:=jU J0.o K0.o [[104,111,115,116,32],R.q x.name,[32,123]] (by decide) (by omega) (by simp) (by simp only[zf7,List.flatten_nil,zh,zoF,zmU,R.q_len];omega)
  exact h
 refine ak.o.mono ?_
 rintro e w1 ⟨rfl,ab,au⟩
 have aR:(l++lnS 0 [[104,111,115,116,32],R.q x.name,[32,123]]).length<=80000000010000:=by
  unfold lnS
  simp only[zf7,List.flatten_nil,zh,zoF,zmU,List.length_replicate,R.q_len];omega
 have an:Y (l++res=(l++lnS 0 [[104,111,115,116,32],R.q x.name,[32,123]])++((x.rules.map (fun r=>R.lines (toRl r))).flatten++lnS 0 [[125]])):=by
  show _=_
  rw[<-al.o];simp only[x4]
 generalize l++lnS 0 [[104,111,115,116,32],R.q x.name,[32,123]]=pre at*
 have c1:w1.cell? ⟨wb,2,none⟩=some (.int .i64 0):=ab.op
 have f1:w1.frozen? ⟨wb,2,none⟩=false:=ab.fz
 obtain⟨aq,av⟩:=ab.setOp (1:Nat)
 have J2:Y (WInv (w1.setCell ⟨wb,2,none⟩ (.int .i64 1)) wb pre (1:Nat)):=aq
 have K2:Y (Kept wb wtags wa (w1.setCell ⟨wb,2,none⟩ (.int .i64 1))):=au.trans av
 have ap:=K2.o.cell ad.o (by decide)
 have u2:(w1.setCell ⟨wb,2,none⟩ (.int .i64 1)).cell? ⟨w.heap.size,1,none⟩=some (.slice r1 x.rules.length r2):=zB ap
 clear ab au aq av ak al J0 K0 ap
 go_wp2_with fail
 go_loopw [22] (fun iv wr=>∃k:Nat,k<=x.rules.length/\iv = .int .i64 k/\Y (WInv wr wb (pre++((x.rules.take k).map (fun r=>R.lines (toRl r))).flatten) (1:Nat))/\(pre++((x.rules.take k).map (fun r=>R.lines (toRl r))).flatten).length<=80000000010000+110000000*k/\Y (Kept wb wtags wa wr)) (fun iv _=>x.rules.length - (intOf iv).toNat)
 case atStart=>exact⟨0,zo _,rfl,by rw[List.take_zero,List.map_nil,List.flatten_nil,zb3];exact J2,by rw[List.take_zero,List.map_nil,List.flatten_nil,zb3];omega,K2⟩
 case round=>
  obtain⟨k,hk,rfl,JR,aK,KR⟩:=hrel
  clear J2 K2 u2 c1 f1 u0
  by_cases ag:k<x.rules.length
  ·have aO:(k:Int)<x.rules.length:=by omega
   obtain⟨gm,aM,aB,_,aN⟩:=World.ownsRow.form HR.o (by omega)
   simp only[qQ] at aB
   obtain⟨rfl,_,rfl⟩:=aB
   have aC:=jD HR.o KR.o (by decide)
   obtain⟨ce,az,aA⟩:=zgN HA.o k ag
   have af:=az.kept KR.o
   have ai:=ae.o x.rules[k] (List.getElem_mem ag)
   have am:=kD (fun r=>R.lines (toRl r)) x.rules k ag pre
   have aI:=R.lines_len _ ai
   have aa:∀j,j<7->wr.cell? ⟨gm,k*7+j,none⟩=ce[j]?:=fun j hj=>by
    rw[qR aC (k*7+j) (by omega)];exact aA j hj
   generalize x.rules[k]=r at*
   obtain⟨vM,vT,vS,vD,rfl,hM,ax,hS,hD⟩:=id af
   obtain⟨m1,m2,rfl⟩:=zO hM
   obtain⟨t1,t2,rfl⟩:=zO ax
   obtain⟨x1,x2,rfl⟩:=zO hS
   obtain⟨d1,d2,rfl⟩:=zO hD
   have e0:wr.cell? ⟨gm,k*7,none⟩=some (.int .i64 r.number):=aa 0 (by omega)
   have e1:wr.cell? ⟨gm,k*7+1,none⟩=some (.string (R.str r.path)):=aa 1 (by omega)
   have e2:wr.cell? ⟨gm,k*7+2,none⟩=some (.slice m1 r.ms.length m2):=aa 2 (by omega)
   have e3:wr.cell? ⟨gm,k*7+3,none⟩=some (.slice t1 r.tg.length t2):=aa 3 (by omega)
   have e4:wr.cell? ⟨gm,k*7+4,none⟩=some (.string (R.str r.rep)):=aa 4 (by omega)
   have e5:wr.cell? ⟨gm,k*7+5,none⟩=some (.slice x1 r.sets.length x2):=aa 5 (by omega)
   have e6:wr.cell? ⟨gm,k*7+6,none⟩=some (.slice d1 r.drops.length d2):=aa 6 (by omega)
   have aG:Y (Calls Tryz.prog 106 #[.pointer (some ⟨wb,0,none⟩),.agg #[.int .i64 r.number,.string (R.str r.path),.slice m1 r.ms.length m2,.slice t1 r.tg.length t2,.string (R.str r.rep),.slice x1 r.sets.length x2,.slice d1 r.drops.length d2]] (wr.alloc (.cells #[.int .i64 r.number,.string (R.str r.path),.slice m1 r.ms.length m2,.slice t1 r.tg.length t2,.string (R.str r.rep),.slice x1 r.sets.length x2,.slice d1 r.drops.length d2] 213)) fun e w'=>e = .returned (.tuple #[])/\WInv w' wb (pre++((x.rules.take (k+1)).map (fun r=>R.lines (toRl r))).flatten) (1:Nat)/\Kept wb wtags wa w'/\(pre++((x.rules.take (k+1)).map (fun r=>R.lines (toRl r))).flatten).length<=80000000010000+110000000*(k+1)):=by
    have gB:wr.grownBy (wr.alloc (.cells #[.int .i64 r.number,.string (R.str r.path),.slice m1 r.ms.length m2,.slice t1 r.tg.length t2,.string (R.str r.rep),.slice x1 r.sets.length x2,.slice d1 r.drops.length d2] 213)) none:=zL _ _ none
    refine(znH (JR.o.grown gB) _ r (af.keep gB (zi _ _)) ai (by omega) ((ao.o.kept KR.o aj.o).grown gB) aj.o).mono ?_
    rintro e w' ⟨rfl,q1,q2⟩
    rw[am]
    exact⟨rfl,q1,(KR.o.trans (xi gB)).trans q2,by rw[zh];omega⟩
   clear am aI ai az af aA aa aC hM ax hS hD ae HA HR ao JR KR
   go_wp2_with (go_at_call 106;refine aG.o.mono ?_;rintro e w2 ⟨rfl,h2,h3,h4⟩)
   go_roundw
   case rel=>exact⟨k+1,by omega,by go_num,h2,h4,h3⟩
   case measure=>simp[intOf];omega
  ·have HE:k=x.rules.length:=by omega
   subst HE
   rw[List.take_length] at JR aK
   have aF:Y (l++res=(pre++(x.rules.map (fun r=>R.lines (toRl r))).flatten)++lnS 0 [[125]]):=by
    show _=_
    rw[an.o];simp only[x4]
   clear an HA HR ae
   generalize pre++(x.rules.map (fun r=>R.lines (toRl r))).flatten=pre8 at*
   have c8:wr.cell? ⟨wb,2,none⟩=some (.int .i64 1):=JR.o.op
   have f8:wr.frozen? ⟨wb,2,none⟩=false:=JR.o.fz
   obtain⟨ar,aw⟩:=JR.o.setOp (0:Nat)
   have J8:Y (WInv (wr.setCell ⟨wb,2,none⟩ (.int .i64 0)) wb pre8 (0:Nat)):=ar
   have K8:Y (Kept wb wtags wa (wr.setCell ⟨wb,2,none⟩ (.int .i64 0))):=KR.o.trans aw
   clear ar aw JR KR
   have aE:Y (Calls Tryz.prog 104 #[.pointer (some ⟨wb,0,none⟩),.slice (some ⟨wr.heap.size,0,none⟩) 1 1] ((wr.setCell ⟨wb,2,none⟩ (.int .i64 0)).alloc (.cells #[.string ⟨#[125]⟩] 9)) fun e w'=>e = .returned (.tuple #[])/\WInv w' wb (pre8++lnS 0 [[125]]) (0:Nat)/\Kept wb wtags wa w'):=by
    have h:=jU J8.o K8.o [[125]] (by decide) (by omega) (by simp) (by simp)
    rw[show(wr.setCell ⟨wb,2,none⟩ (.int .i64 0)).heap.size=wr.heap.size by simp[World.setCell]] at h
    exact h
   go_wp2_with fail
   refine aE.o.mono ?_
   rintro e w9 ⟨rfl,h2,h3⟩
   go_wp2
   go_end0
   rw[aF.o]
   exact⟨rfl,h2,aD.o.trans h3⟩
theorem PHostVal.kept {w w':World}{B:Nat}{cs:List Value}{x:P.Hst}(h:PHostVal w cs x)(hk:Kept B wtags w w'):PHostVal w' cs x:=by
 obtain⟨vR,e,aa,h1,h2⟩:=h
 exact⟨vR,e,aa,jD h1 hk (by decide),h2.map fun a b hab=>hab.kept hk⟩
theorem zfR (x:R.Hst):R.hostLines x≠[]:=by unfold R.hostLines;simp
theorem zdU (x:R.Hst)(hs:R.SmallH x):(R.hostLines x).length<=440000010000:=by
 have h1:(x.rules.map R.lines).flatten.length<=x.rules.length*110000000:=R.flat_len _ _ _ (fun r hr=>R.lines_len r (hs.rules.2 r hr))
 have h2:=hs.rules.1
 have h3:=hs.name
 unfold R.hostLines
 simp only[zh,R.q_len,zoF,zmU]
 omega
theorem zg4 {α:Type}(f:α->List UInt8)(l:List α)(k:Nat):((l.take k).map f).flatten.length<=(l.map f).flatten.length:=by
 conv=>rhs;rw[<-List.take_append_drop k l,fJ,yj,zh]
 omega
theorem zo7 (hs:List P.Hst)(h1:hs.length<=12)(h2:∀h∈hs,R.SmallH (toR h)):(hs.map fun h=>R.hostLines (toR h)).flatten.length<=79000000000000:=by
 have h:=R.flat_len (fun h:P.Hst=>R.hostLines (toR h)) 440000010000 hs (fun x hx=>zdU _ (h2 x hx))
 omega
theorem ff {w:World}(v:Value)(hs:List P.Hst)(hH:PHostsRow w 0 v hs)(aF:hs.length<=4000)(hn:(hs.map fun h=>R.hostLines (toR h)).flatten.length<=79000000000000)(aa:∀h∈hs,R.SmallH (toR h))(hT:GT w) :
  Calls Tryz.prog 42 #[.agg #[v]] w fun e w'=>e = .returned (.string (R.str (R.plain (hs.map toR))))/\w.grownBy w' none:=by
 obtain⟨aA,ai,ap⟩:=hH
 obtain⟨h1,h2,rfl⟩:=zO ai
 have gA:w.grownBy ((w.alloc (.cells #[.slice h1 hs.length h2] 88)).alloc (.cells #[.pointer none,.slice none 0 0,.int .i64 0] 143)) none:=zD (zL _ _ none) (zL _ _ none)
 have am:Y (((w.alloc (.cells #[.slice h1 hs.length h2] 88)).alloc (.cells #[.pointer none,.slice none 0 0,.int .i64 0] 143)).heap[w.heap.size]?=some (.cells #[.slice h1 hs.length h2] 88)):=zF (heap_alloc_new w (.cells #[.slice h1 hs.length h2] 88)) (zL _ _ none) (by simp)
 have ab:Y (((w.alloc (.cells #[.slice h1 hs.length h2] 88)).alloc (.cells #[.pointer none,.slice none 0 0,.int .i64 0] 143)).heap[w.heap.size+1]?=some (.cells #[.pointer none,.slice none 0 0,.int .i64 0] 143)):=by
  have:=heap_alloc_new (w.alloc (.cells #[.slice h1 hs.length h2] 88)) (.cells #[.pointer none,.slice none 0 0,.int .i64 0] 143)
  rw[show(w.alloc (.cells #[.slice h1 hs.length h2] 88)).heap.size=w.heap.size+1 by simp] at this
  exact this
 have J0:Y (WInv ((w.alloc (.cells #[.slice h1 hs.length h2] 88)).alloc (.cells #[.pointer none,.slice none 0 0,.int .i64 0] 143)) (w.heap.size+1) [] (0:Nat)):=Or.inl ⟨_,ab.o,xd _ _ _ _⟩
 have ae:Y (GT ((w.alloc (.cells #[.slice h1 hs.length h2] 88)).alloc (.cells #[.pointer none,.slice none 0 0,.int .i64 0] 143))):=hT.grown gA
 have aj:Y (GTB (w.heap.size+1)):=fun g e=>Nat.lt_succ_of_lt (hT.bound g e)
 have ak:Y (Kept (w.heap.size+1) wtags w ((w.alloc (.cells #[.slice h1 hs.length h2] 88)).alloc (.cells #[.pointer none,.slice none 0 0,.int .i64 0] 143))):=xi gA
 have HR:=J (zV ai gA (fun k hk c=>by cases c))
 have HA:Y (All2 (PHostVal ((w.alloc (.cells #[.slice h1 hs.length h2] 88)).alloc (.cells #[.pointer none,.slice none 0 0,.int .i64 0] 143))) aA hs):=ap.map fun a b hab=>hab.keep gA (zi _ _)
 have K0:Y (Kept (w.heap.size+1) wtags ((w.alloc (.cells #[.slice h1 hs.length h2] 88)).alloc (.cells #[.pointer none,.slice none 0 0,.int .i64 0] 143)) ((w.alloc (.cells #[.slice h1 hs.length h2] 88)).alloc (.cells #[.pointer none,.slice none 0 0,.int .i64 0] 143))):=Kept.refl _ _ _
 have ad:Y (∀h∈hs,R.SmallH (toR h)):=aa
 have az:Y ((hs.map (fun h=>R.hostLines (toR h))).flatten.length<=79000000000000):=hn
 have an:Y (R.plain (hs.map toR)=(hs.map (fun h=>R.hostLines (toR h))).flatten):=zcR hs
 have u0:=zuC am.o
 have aG:=zI ab.o
 clear hT ai ap aa gA am hn
 generalize R.plain (hs.map toR)=res at*
 go_enter Tryz.func42,Tryz.ntmps42
 go_wp2_with fail
 generalize((w.alloc (.cells #[.slice h1 hs.length h2] 88)).alloc (.cells #[.pointer none,.slice none 0 0,.int .i64 0] 143))=wa at*
 go_loopw [9] (fun iv wr=>∃k:Nat,k<=hs.length/\iv = .int .i64 k/\Y (WInv wr (w.heap.size+1) ((hs.take k).map (fun h=>R.hostLines (toR h))).flatten (0:Nat))/\Y (Kept (w.heap.size+1) wtags wa wr)/\Y (k=0->wr.heap[w.heap.size+1]?=some (.cells #[.pointer none,.slice none 0 0,.int .i64 0] 143))) (fun iv _=>hs.length - (intOf iv).toNat)
 case atStart=>exact⟨0,zo _,rfl,by rw[List.take_zero,List.map_nil,List.flatten_nil];exact J0,K0,fun _=>ab.o⟩
 case round=>
  obtain⟨k,hk,rfl,JR,KR,HZ⟩:=hrel
  clear J0 K0 u0 ab
  by_cases ah:k<hs.length
  ·have aE:(k:Int)<hs.length:=by omega
   obtain⟨gm,aC,au,_,aD⟩:=World.ownsRow.form HR.o (by omega)
   simp only[qQ] at au
   obtain⟨rfl,_,rfl⟩:=au
   have av:=jD HR.o KR.o (by decide)
   obtain⟨ce,aq,ar⟩:=zdM HA.o k ah
   have af:=aq.kept KR.o
   have aa:=ad.o hs[k] (List.getElem_mem ah)
   have al:=jz (fun h=>R.hostLines (toR h)) hs k ah
   have aB:((hs.take k).map (fun h=>R.hostLines (toR h))).flatten.length<=79000000000000:=qf (zg4 _ hs k) az.o
   have ag:∀j,j<2->wr.cell? ⟨gm,k*2+j,none⟩=ce[j]?:=fun j hj=>by
    rw[qR av (k*2+j) (by omega)];exact ar j hj
   generalize hs[k]=x at*
   obtain⟨vR,rfl,ao⟩:=id af
   obtain⟨r1,r2,rfl⟩:=wi ao
   have e0:wr.cell? ⟨gm,k*2,none⟩=some (.string (R.str x.name)):=ag 0 (by omega)
   have e1:wr.cell? ⟨gm,k*2+1,none⟩=some (.slice r1 x.rules.length r2):=ag 1 (by omega)
   have aw:Y (Calls Tryz.prog 68 #[.pointer (some ⟨w.heap.size+1,0,none⟩),.agg #[.string (R.str x.name),.slice r1 x.rules.length r2]] (wr.alloc (.cells #[.string (R.str x.name),.slice r1 x.rules.length r2] 146)) fun e w'=>e = .returned (.tuple #[])/\WInv w' (w.heap.size+1) ((hs.take (k+1)).map (fun h=>R.hostLines (toR h))).flatten (0:Nat)/\Kept (w.heap.size+1) wtags wa w'):=by
    have gB:wr.grownBy (wr.alloc (.cells #[.string (R.str x.name),.slice r1 x.rules.length r2] 146)) none:=zL _ _ none
    refine(zmZ (JR.o.grown gB) _ x (af.keep gB (zi _ _)) aa (by omega) ((ae.o.kept KR.o aj.o).grown gB) aj.o).mono ?_
    rintro e w' ⟨rfl,q1,q2⟩
    rw[al]
    exact⟨rfl,q1,(KR.o.trans (xi gB)).trans q2⟩
   clear al aB aa aq af ar ag av ao ad HA HR ae JR KR HZ
   go_wp2_with (go_at_call 68;refine aw.o.mono ?_;rintro e w2 ⟨rfl,h2,h3⟩)
   go_roundw
   case rel=>exact⟨k+1,by omega,by go_num,h2,h3,fun h=>absurd h (by omega)⟩
   case measure=>simp[intOf];omega
  ·have HE:k=hs.length:=by omega
   subst HE
   have ay:Y (Calls Tryz.prog 69 #[.pointer (some ⟨w.heap.size+1,0,none⟩)] wr fun e w'=>e = .returned (.string (R.str res))/\Kept (w.heap.size+1) wtags wr w'):=by
    show Calls _ _ _ _ _
    have hJ:=JR.o
    rw[List.take_length] at hJ
    rw[an.o]
    by_cases h0:hs.length=0
    ·have he:hs=[]:=List.length_eq_zero_iff.1 h0
     subst he
     exact zfP (HZ.o rfl)
    ·refine zjB hJ (fun hc=>?_)
     match hs,h0,hc with
     | x :: xs,_,hc=>
      rw[xl,zf7] at hc
      exact zfR _ (List.append_eq_nil_iff.1 hc).1
   have ax:Y (Kept (w.heap.size+1) wtags w wr):=ak.o.trans KR.o
   clear JR KR HZ an HA HR ad ae ak
   go_wp2_with (go_at_call 69;refine ay.o.mono ?_;rintro e w2 ⟨rfl,g2⟩)
   go_ret
   exact⟨rfl,(ax.o.trans g2).grown (Nat.le_succ _)⟩
def jE (l:List UInt8):List UInt8:=if (xU l).1=0 then R.plain (xI (R.readS l).1) else []
theorem tM {l:List UInt8}(h:(xV l).1=0):l.length<=3000/\(qD l).2.broken=false/\(qD l).2.err=0:=by
 unfold xV at h
 by_cases hl:3000<l.length
 ·rw[if_pos hl] at h;exact absurd h (by decide)
 ·rw[if_neg hl] at h
  exact⟨by omega,wJ h⟩
theorem zcN {l:List UInt8}(h:(xV l).1=0):(xV l).2=0:=by
 obtain⟨h1,h2,h3⟩:=tM h
 unfold xV
 rw[if_neg (by omega)]
 unfold yg
 rw[h2,h3];rfl
theorem zp4 {l:List UInt8}{aa:List P.Hst}(h:(xV l).1=0)(hs:SrtH (qD l).1 aa) :
  jE l=R.plain (aa.map toR)/\aa.length<=12/\(∀h∈aa,R.SmallH (toR h)):=by
 obtain⟨h1,h2,h3⟩:=tM h
 obtain⟨hg,e⟩:=tK l h1 h2 h3
 rw[e] at hg
 have e2:=zjV hs hg
 obtain⟨s1,s2⟩:=zbA hg
 rw[<-e2] at s1 s2
 refine⟨?_,?_,fun x hx=>s2 (toR x) (List.mem_map_of_mem hx)⟩
 ·unfold jE
  rw[if_pos (by rw[<-vU];exact h),e,e2]
 ·simp at s1;omega
theorem zmR (s:ByteArray)(w:World)(aw:s.size<=maxLen)(hG:Glob w)(hT:GT w) :
  Calls Tryz.prog 17 #[.string s] w fun e w'=>e = .returned (.tuple #[.string (R.str (jE s.data.toList)),.int .i64 (xU s.data.toList).1,.int .i64 (xU s.data.toList).2])/\w.grownBy w' none:=by
 have ah:Y (Calls Tryz.prog 41 #[.string s] w fun e w'=>∃va vn vc,e = .returned (.tuple #[.agg #[.slice va vn vc],.int .i64 (xV s.data.toList).1,.int .i64 (xV s.data.toList).2])/\w.grownBy w' none/\((xV s.data.toList).1=0->∃aa,PHostsRow w' 0 (.slice va vn vc) aa/\SrtH (qD s.data.toList).1 aa)):=by
  refine(ziZ s w aw hG (fun h1 h2 h3=>zhH _ (by rw[R.size_eq];exact h1) h2 h3)).mono ?_
  rintro e w' ⟨v,rfl,h1,h2,va,vn,vc,rfl⟩
  exact⟨va,vn,vc,rfl,h1,h2⟩
 have ae:Y (∀aa,(xV s.data.toList).1=0->SrtH (qD s.data.toList).1 aa->jE s.data.toList=R.plain (aa.map toR)/\aa.length<=12/\(∀h∈aa,R.SmallH (toR h))):=fun aa h1 h2=>zp4 h1 h2
 have ad:Y ((xV s.data.toList).1≠0->jE s.data.toList=[]):=fun h=>by
  unfold jE;rw[if_neg (by rw[<-vU];exact h)]
 have aj:Y ((xV s.data.toList).1=0->(xV s.data.toList).2=0):=zcN
 have HT:Y (GT w):=hT
 rw[<-vU]
 clear hT hG
 generalize jE s.data.toList=pt at*
 generalize xV s.data.toList=er at*
 generalize qD s.data.toList=rd at*
 obtain⟨ak,au⟩:=er
 simp only at ah ae ad aj ⊢
 go_enter Tryz.func17,Tryz.ntmps17
 go_wp2_with fail
 refine ah.o.mono ?_
 rintro e w1 ⟨va,vn,vc,rfl,al,am⟩
 have af:Y (w.grownBy w1 none):=al
 have ag:Y _:=am
 have ab:Y (w1.grownBy (w1.alloc (.cells #[.slice va vn vc] 88)) none):=zL _ _ none
 clear al am ah
 by_cases ai:ak=0
 ·subst ai
  have av:au=0:=aj.o rfl
  subst av
  obtain⟨aa,an,ao⟩:=ag.o rfl
  obtain⟨q1,q2,q3⟩:=ae.o aa rfl ao
  have ar:Y (Calls Tryz.prog 42 #[.agg #[.slice va vn vc]] (w1.alloc (.cells #[.slice va vn vc] 88)) fun e w'=>e = .returned (.string (R.str pt))/\w.grownBy w' none):=by
   rw[q1]
   exact(ff _ aa (PHostsRow.keep an ab.o (zi _ _)) (by omega) (zo7 _ q2 q3) q3 ((HT.o.grown af.o).grown ab.o)).mono fun e w' ⟨k1,k2⟩=>⟨k1,zD (zD af.o ab.o) k2⟩
  clear q1 q2 q3 an ao ae ad ag
  go_wp2_with (go_at_call 42;refine ar.o.mono ?_;rintro e w2 ⟨rfl,g2⟩)
  go_ret3
  exact⟨rfl,g2⟩
 ·have aq:Y (pt=[]):=ad.o ai
  have ax:(ak != 0)=true:=by rw[bne_iff_ne];exact ai
  have ap:=J (zD af.o ab.o)
  clear ae ad ag
  go_wp2
  go_ret3
  exact⟨by rw[aq.o];rfl,ap.o⟩
theorem zbX (n:Int)(w:World):Calls Tryz.prog 36 #[.int .i64 n] w fun e w'=>e = .returned (.int .i64 n)/\w'=w:=by
 go_enter Tryz.func36,Tryz.ntmps36
 go_wp2
 go_ret
 exact⟨rfl,rfl⟩
theorem zdI (s:ByteArray)(w:World)(am:s.size<=maxLen)(hG:Glob w)(hT:GT w) :
  Calls Tryz.prog 14 #[.string s] w fun e w'=>e = .returned (.bool true)/\w.grownBy w' none:=by
 have af:Y (Calls Tryz.prog 17 #[.string s] w fun e w'=>e = .returned (.tuple #[.string (R.str (jE s.data.toList)),.int .i64 (xU s.data.toList).1,.int .i64 (xU s.data.toList).2])/\w.grownBy w' none):=zmR s w am hG hT
 have ah:Y (∀W,Calls Tryz.prog 34 #[.string s] W fun e w'=>∃v,e = .returned (.tuple #[v,.int .i64 (xU s.data.toList).1,.int .i64 (xU s.data.toList).2])/\Below W.heap.size W w'/\((xU s.data.toList).1=0->HostsRow w' W.heap.size v (xI (R.readS s.data.toList).1))):=fun W=>fo s W am
 have ad:Y ((xU s.data.toList).1=0->jE s.data.toList=R.plain (xI (R.readS s.data.toList).1)/\(xI (R.readS s.data.toList).1).length<=4/\∀h∈xI (R.readS s.data.toList).1,R.SmallH h):=fun h=>by
  obtain⟨h1,h2,h3⟩:=tM (by rw[vU];exact h)
  obtain⟨hg,_⟩:=tK _ h1 h2 h3
  exact⟨by unfold jE;rw[if_pos h],zbA hg⟩
 have ab:Y ((xU s.data.toList).1≠0->jE s.data.toList=[]):=fun h=>by unfold jE;rw[if_neg h]
 clear hG hT
 generalize jE s.data.toList=pt at*
 generalize xU s.data.toList=er at*
 generalize xI (R.readS s.data.toList).1=hs at*
 obtain⟨aa,aq⟩:=er
 simp only at af ah ad ab
 have HN:Y (∀W,Calls Tryz.prog 36 #[.int .i64 aa] W fun e w'=>e = .returned (.int .i64 aa)/\w'=W):=fun W=>zbX aa W
 go_enter Tryz.func14,Tryz.ntmps14
 go_wp2_with fail
 refine af.o.mono ?_
 rintro e w1 ⟨rfl,al⟩
 have ae:Y (w.grownBy w1 none):=al
 clear al af
 go_wp2_with fail
 refine(ah.o w1).mono ?_
 rintro e w2 ⟨v,rfl,ak,an⟩
 have aj:=J (zD ae.o (qJ ak))
 have ag:Y _:=an
 clear ak an ah
 by_cases ai:aa=0
 ·subst ai
  obtain⟨q1,q2,q3⟩:=ad.o rfl
  have ap:Y (Calls Tryz.prog 35 #[v] w2 fun e w'=>e = .returned (.string (R.str pt))/\w.grownBy w' none):=by
   rw[q1]
   exact(zeK v hs (ag.o rfl) (by omega) q3).mono fun e w' ⟨k1,k2⟩=>⟨k1,zD aj.o k2⟩
  clear q1 q2 q3 ad ab ag ae
  go_wp2_with (first
   | (go_at_call 35;refine ap.o.mono ?_;rintro e w3 ⟨rfl,g3⟩)
   | (go_at_call 36;refine(HN.o _).mono ?_;rintro e w' ⟨rfl,rfl⟩))
  go_ret
  exact⟨rfl,g3⟩
 ·have ao:Y (pt=[]):=ab.o ai
  have au:R.str pt=⟨#[]⟩:=by rw[ao.o];rfl
  have ar:(aa == 0)=false:=by rw[beq_eq_false_iff_ne];exact ai
  clear ad ab ag ae
  go_wp2_with (go_at_call 36;refine(HN.o _).mono ?_;rintro e w' ⟨rfl,rfl⟩)
  go_ret
  exact⟨rfl,aj.o⟩
theorem Glob.grown {w w':World}(h:Glob w)(hg:w.grownBy w' none):Glob w':=h.keep hg (by simp)
theorem tZ:(⟨([104,111,115,116,32,34,65,46,98,34,123,114,117,108,101,32,55,123,112,97,116,104,34,47,120,34,59,116,111,34,117,34,49,44,34,118,34,50,59,114,101,112,108,97,99,101,34,47,34,59,125,114,117,108,101,32,57,123,112,97,116,104,34,47,34,59,116,111,34,117,34,49,44,34,118,34,48,59,125,125]:List UInt8).toArray⟩:ByteArray).size=80:=by decide
theorem kK (b o i:Nat):(⟨b,o,none⟩:Addr).add i=⟨b,o+i,none⟩:=by unfold Addr.add;split <;> simp_all
def Rd (w:World)(v:Value)(l:List UInt8):Prop:=
 (v = .slice none 0 0/\l=[])\/∃g c,v = .slice (some ⟨g,0,none⟩) l.length c/\g<w.heap.size/\∀j u,(Lib.byteCells l)[j]?=some u->w.cell? ((⟨g,0,none⟩:Addr).add j)=some u
theorem Rd.keep {w w':World}{v:Value}{l:List UInt8}(h:Rd w v l)(hg:w.grownBy w' none):Rd w' v l:=by
 rcases h with h | ⟨g,c,h1,h2,h3⟩
 ·exact Or.inl h
 ·exact Or.inr ⟨g,c,h1,vQ h2 hg.size,fun j u hu=>hg.cell (h3 j u hu) (by simp)⟩
theorem Rd.of_row {w:World}{B:Nat}{v:Value}{l:List UInt8}(h:w.ownsRow B 5 1 v l.length (Lib.byteCells l)):Rd w v l:=by
 rcases h.2 with ⟨h1,h2⟩ | ⟨g,cap,cur,hv,hB,hb,r⟩
 ·exact Or.inl ⟨h1,List.length_eq_zero_iff.1 h2⟩
 ·refine Or.inr ⟨g,cap,hv,zI hb,fun j u hu=>?_⟩
  subst hv
  have hj:j<l.length:=by have:=(List.getElem?_eq_some_iff.1 hu).1;simpa[Lib.byteCells] using this
  rw[kK,Nat.zero_add,qR h j (by omega)]
  exact hu
theorem vf (l:List UInt8):∀u∈Lib.byteCells l,u.oneCell'=true:=by
 intro u hu
 unfold Lib.byteCells at hu
 obtain⟨b,_,rfl⟩:=List.mem_map.1 hu
 rfl
theorem xh (l:List UInt8):(Lib.byteCells l).length=l.length:=by unfold Lib.byteCells;simp
def xP (ls:List (List UInt8)):List UInt8:=ls.flatten
def yQ (ls:List (List UInt8))(i:Nat):List UInt8:=(ls.take i).flatten
theorem zhS (ls:List (List UInt8)):yQ ls ls.length=xP ls:=by unfold yQ xP;rw[List.take_length]
theorem zfN (ls:List (List UInt8))(i:Nat)(h:i<ls.length):yQ ls (i+1)=yQ ls i++ls[i]:=by
 unfold yQ
 rw[uo h,yj];simp
theorem zkQ (ls:List (List UInt8))(i:Nat):(yQ ls i).length<=(xP ls).length:=by
 unfold yQ xP
 conv=>rhs;rw[<-List.take_append_drop i ls,yj,zh]
 omega
theorem zkJ {w:World}(g c:Nat)(vs:List Value)(ls:List (List UInt8))(hp:w.heap[g]?=some (.cells vs.toArray 32 (0,0)))(hr:All2 (Rd w) vs ls)(hl:(xP ls).length<=100000000000000)(hn:vs.length<=1000) :
  Calls Tryz.prog 70 #[.slice (some ⟨g,0,none⟩) vs.length c] w fun e w'=>∃a k,e = .returned (.slice a (xP ls).length k)/\w'.ownsRow w.heap.size 5 1 (.slice a (xP ls).length k) (xP ls).length (Lib.byteCells (xP ls))/\w.grownBy w' none:=by
 obtain⟨i0,hi,am,an,ao⟩:=info_parts js
 have HP:Y (w.heap[g]?=some (.cells vs.toArray 32 (0,0))):=hp
 have HR:Y (All2 (Rd w) vs ls):=hr
 have ab:Y (vs.length=ls.length):=hr.len
 have ap:=zI hp
 clear hp hr
 go_enter Tryz.func70,Tryz.ntmps70
 go_wp2
 go_loopw [3,8] (fun sv iv wr=>∃i:Nat,i<=vs.length/\iv = .int .i64 i/\(∃a k,sv = .slice a (yQ ls i).length k/\Y (wr.ownsRow w.heap.size 5 1 (.slice a (yQ ls i).length k) (yQ ls i).length (Lib.byteCells (yQ ls i))))/\Y (w.grownBy wr none)) (fun _ iv _=>vs.length - (intOf iv).toNat)
 case atStart=>exact⟨0,zo _,rfl,⟨none,0,rfl,xd _ _ _ _⟩,ze _ _⟩
 case round=>
  obtain⟨i,au,rfl,⟨a,k,rfl,HO⟩,HG⟩:=hrel
  by_cases ag:i<vs.length
  ·have ar:(i:Int)<vs.length:=by omega
   have d0:wr.cell? ⟨g,i,none⟩=some vs[i]:=by
    refine HG.o.cell (a:=⟨g,i,none⟩) ?_ (by simp)
    rw[zB HP.o]
    simp[ag]
   have ak:=(HR.o.get i ag (by have:=ab.o;omega)).keep HG.o
   have aq:i<ls.length:=by have:=ab.o;omega
   have aa:Y (yQ ls (i+1)=yQ ls i++ls[i]):=by
    exact zfN ls i (by have:=ab.o;omega)
   have aj:(yQ ls (i+1)).length<=100000000000000:=qf (zkQ ls (i+1)) hl
   rw[aa.o,zh] at aj
   have al:=HG.o.size
   clear HR HP
   generalize vs[i]=v at*
   generalize ls[i]=x at*
   rcases ak with ⟨rfl,rfl⟩ | ⟨gx,cx,rfl,hgx,hcx⟩
   ·have ae:Y (yQ ls (i+1)=yQ ls i):=by show _=_;rw[aa.o,zb3]
    go_wp2_with (at_builtin;refine wpList_append_own_none rfl _ _ 32 rfl w.heap.size 5 i0 1 Tryz.underlying32 hi _ _ _ rfl HO.o rfl ?_)
    go_wp2
    go_roundw
    case rel=>exact⟨i+1,by omega,by go_num,⟨a,k,by rw[ae.o],by rw[ae.o];exact HO⟩,HG⟩
    case measure=>simp[intOf];omega
   ·have HC:Y (∀j u,(Lib.byteCells x)[j]?=some u->wr.cell? ((⟨gx,0,none⟩:Addr).add j)=some u):=hcx
    clear hcx
    go_wp2_with (at_builtin;refine wpList_append_own _ rfl _ _ 32 rfl w.heap.size 5 i0 _ 1 1 Tryz.underlying32 hi am an ao rfl (by decide) _ _ _ rfl HO.o ⟨gx,0,none⟩ x.length cx (Lib.byteCells x) rfl ?a1 HC.o (vf x) ?a4 ?a5 al ?_)
    case a1=>rw[xh,Nat.mul_one]
    case a4=>unfold maxLen;omega
    case a5=>omega
    intro v' w2 ad af _
    obtain⟨va,vc,rfl⟩:=zO ad
    have ai:Y (w2.ownsRow w.heap.size 5 1 (.slice va ((yQ ls (i+1)).length) vc) (yQ ls (i+1)).length (Lib.byteCells (yQ ls (i+1)))):=by
     show World.ownsRow _ _ _ _ _ _ _
     rw[aa.o,zh,Lib.byteCells_append]
     exact ad
    have ah:=J (qV HG.o af (fun k hk=>(zx HO.o k hk).1))
    have HV:Y ((yQ ls i).length+x.length=(yQ ls (i+1)).length):=by show _=_;rw[aa.o,zh]
    clear ad af
    go_wp2
    go_roundw
    case rel=>exact⟨i+1,by omega,by go_num,⟨va,vc,by rw[HV.o],ai⟩,ah⟩
    case measure=>simp[intOf];omega
  ·have hE:i=vs.length:=by omega
   subst hE
   have HJ:Y (yQ ls vs.length=xP ls):=by show _=_;rw[ab.o];exact zhS ls
   rw[HJ.o] at HO ⊢
   go_wp2
   go_ret
   exact⟨a,k,rfl,HO.o,HG.o⟩
def Gives (w:World)(l:List UInt8)(e:Ending)(w':World):Prop:=
 ∃a k,e = .returned (.slice a l.length k)/\w'.ownsRow w.heap.size 5 1 (.slice a l.length k) l.length (Lib.byteCells l)/\w.grownBy w' none
theorem fB (w:World)(l:List UInt8)(hl:l.length<=1000000):(w.alloc (.cells (Lib.byteCells l).toArray 5)).ownsRow w.heap.size 5 1 (.slice (some ⟨w.heap.size,0,none⟩) l.length l.length) l.length (Lib.byteCells l):=by
 refine⟨by rw[xh,Nat.mul_one],Or.inr ⟨w.heap.size,l.length,(Lib.byteCells l).toArray,rfl,zw _,heap_alloc_new _ _,zw _,by unfold maxLen;omega,by simp[xh],?_⟩⟩
 rw[tW (by simp[xh])]
theorem vi (n:Nat)(w:World):Calls Tryz.prog 107 #[.int .i64 n] w (Gives w [UInt8.ofNat n]):=by
 have HU:Y ((UInt8.ofNat n).toNat=n % 256):=by show _=_;rw[UInt8.toNat_ofNat']
 go_enter Tryz.func107,Tryz.ntmps107
 go_wp2
 go_ret
 refine⟨some ⟨w.heap.size,0,none⟩,1,rfl,?_,zL _ _ _⟩
 have h:=fB w [UInt8.ofNat n] (by simp)
 unfold Lib.byteCells at h ⊢
 simp only[xl,List.map_nil] at h ⊢
 rw[HU.o] at h ⊢
 exact h
theorem kH {w:World}{base aa:Nat}{e:TypeId}{ab:Nat}{v:Value}{n:Nat}{xs:List Value}(h:w.ownsRow base e ab v n xs)(hb:aa<=base):w.ownsRow aa e ab v n xs:=
 ⟨h.1,h.2.imp id fun⟨g,cap,cur,h1,h2,h3⟩=>⟨g,cap,cur,h1,qf hb h2,h3⟩⟩
theorem ye {w0 W:World}(hk:w0.grownBy W none)(vs:List Value)(ls:List (List UInt8))(hr:All2 (Rd W) vs ls)(hl:(xP ls).length<=1000000)(hn:vs.length<=100) :
  Calls Tryz.prog 70 #[.slice (some ⟨W.heap.size,0,none⟩) vs.length vs.length] (W.alloc (.cells vs.toArray 32)) (Gives w0 (xP ls)):=by
 have gA:W.grownBy (W.alloc (.cells vs.toArray 32)) none:=zL _ _ _
 refine(zkJ W.heap.size vs.length vs ls (heap_alloc_new _ _) (hr.map fun a b hab=>hab.keep gA) (by omega) (by omega)).mono ?_
 rintro e w' ⟨a,k,h1,h2,h3⟩
 exact⟨a,k,h1,kH h2 (qf hk.size (by simp)),zD (zD hk gA) h3⟩
theorem ztA (n:Nat):UInt8.ofNat (n % 256)=UInt8.ofNat n:=by
 apply UInt8.toNat_inj.1;rw[UInt8.toNat_ofNat',UInt8.toNat_ofNat'];simp
theorem zp3 (n:Nat):xP [[UInt8.ofNat n],[UInt8.ofNat (n / 256)]]=qe n:=by
 unfold xP qe
 rw[show((n:Int)).toNat=n from rfl,ztA];rfl
theorem zg9 (n:Nat)(w:World):Calls Tryz.prog 111 #[.int .i64 n] w (Gives w (qe n)):=by
 go_enter Tryz.func111,Tryz.ntmps111
 go_wp2_with fail
 refine(vi n w).mono ?_
 rintro e w1 ⟨a1,k1,rfl,h1,g1⟩
 have aa:Y (Rd w1 (.slice a1 1 k1) ([UInt8.ofNat n])):=Rd.of_row h1
 have G1:Y (w.grownBy w1 none):=g1
 clear h1 g1
 go_wp2_with fail
 refine(vi (n / 256) w1).mono ?_
 rintro e w2 ⟨a2,k2,rfl,h2,g2⟩
 have ad:Y (Rd w2 (.slice a2 1 k2) ([UInt8.ofNat (n / 256)])):=Rd.of_row h2
 have ab:Y (Rd w2 (.slice a1 1 k1) ([UInt8.ofNat n])):=aa.o.keep g2
 have G2:=J (zD G1.o g2)
 clear h2 g2 G1 aa
 go_wp2_with fail
 have HJ:Y (Calls Tryz.prog 70 #[.slice (some ⟨w2.heap.size,0,none⟩) 2 2] (w2.alloc (.cells #[.slice a1 1 k1,.slice a2 1 k2] 32)) (Gives w (qe n))):=by
  have h:=ye G2.o [.slice a1 1 k1,.slice a2 1 k2] [[UInt8.ofNat n],[UInt8.ofNat (n / 256)]] (.cons ab.o (.cons ad.o .nil)) (by unfold xP;simp) (by simp)
  rw[zp3 n] at h
  exact h
 refine HJ.o.mono ?_
 rintro e wZ ⟨aZ,kZ,rfl,hZ,gZ⟩
 clear HJ
 go_wp2
 go_ret
 exact⟨aZ,kZ,rfl,hZ,gZ⟩
theorem Rd.bytes (w:World)(s:ByteArray)(c:Nat):Rd (Lib.bytesWorld w 5 s) (.slice (some ⟨w.heap.size,0,none⟩) s.size c) s.data.toList:=by
 refine Or.inr ⟨w.heap.size,c,by rw[R.size_eq],by rw[Lib.bytesWorld_size];omega,fun j u hu=>?_⟩
 rw[kK,Nat.zero_add]
 unfold Lib.byteCells at hu
 rw[List.getElem?_map] at hu
 cases hq:s.data.toList[j]? with
 | none=>rw[hq] at hu;cases hu
 | some b=>rw[hq] at hu;cases hu;exact(BytesAt.new w s).cell hq
theorem zpR (s:ByteArray)(w:World)(hl:s.size<=255):Calls Tryz.prog 108 #[.string s] w (Gives w (zJ s.data.toList)):=by
 have ab:∀w,(convert 9 32 (.string s)).run Tryz.prog w = .ok (.slice (some ⟨w.heap.size,0,none⟩) s.size (grownCap w s.size 0 5)) (Lib.bytesWorld w 5 s):=fun w=>Lib.run_convert_string_bytes (u:=.string) w _ _ _ s (by kernel_rfl) (by kernel_rfl) (by kernel_rfl)
 go_enter Tryz.func108,Tryz.ntmps108
 go_wp2_with fail
 refine(vi s.size w).mono ?_
 rintro e w1 ⟨a1,k1,rfl,h1,g1⟩
 have aa:Y (Rd w1 (.slice a1 1 k1) ([UInt8.ofNat s.size])):=Rd.of_row h1
 have G1:Y (w.grownBy w1 none):=g1
 clear h1 g1
 have gB:w1.grownBy (Lib.bytesWorld w1 5 s) none:=uX _ _ _
 have R1:Y (Rd (Lib.bytesWorld w1 5 s) (.slice a1 1 k1) [UInt8.ofNat s.size]):=aa.o.keep gB
 have G2:=J (zD G1.o gB)
 have HJ:Y (Calls Tryz.prog 70 #[.slice (some ⟨(Lib.bytesWorld w1 5 s).heap.size,0,none⟩) 2 2] ((Lib.bytesWorld w1 5 s).alloc (.cells #[.slice a1 1 k1,.slice (some ⟨w1.heap.size,0,none⟩) s.size (grownCap w1 s.size 0 5)] 32)) (Gives w (zJ s.data.toList))):=by
  have h:=ye G2.o [.slice a1 1 k1,.slice (some ⟨w1.heap.size,0,none⟩) s.size (grownCap w1 s.size 0 5)] [[UInt8.ofNat s.size],s.data.toList] (.cons R1.o (.cons (Rd.bytes _ _ _) .nil)) (by unfold xP;simp;omega) (by simp)
  rw[show xP [[UInt8.ofNat s.size],s.data.toList]=zJ s.data.toList by unfold xP zJ;rw[R.size_eq];simp] at h
  exact h
 clear gB R1 G2
 go_wp2_with fail
 refine HJ.o.mono ?_
 rintro e wZ ⟨aZ,kZ,rfl,hZ,gZ⟩
 clear HJ
 go_wp2
 go_ret
 exact⟨aZ,kZ,rfl,hZ,gZ⟩
theorem vZ (l:List UInt8)(w:World)(hl:l.length<=255):Calls Tryz.prog 108 #[.string (R.str l)] w (Gives w (zJ l)):=by
 have h:=zpR (R.str l) w hl
 rw[R.str_toList] at h;exact h
def xv (b:Bool)(l:List UInt8):List UInt8:=if b then 1 :: zJ l else [0]
theorem zbE (b:Bool)(l:List UInt8)(w:World)(hl:l.length<=255):Calls Tryz.prog 166 #[.bool b,.string (R.str l)] w (Gives w (xv b l)):=by
 cases b
 ·go_enter Tryz.func166,Tryz.ntmps166
  go_wp2_with fail
  refine(vi 0 w).mono ?_
  rintro e w1 ⟨a1,k1,rfl,h1,g1⟩
  go_wp2
  go_ret
  exact⟨a1,k1,rfl,h1,g1⟩
 ·go_enter Tryz.func166,Tryz.ntmps166
  go_wp2_with fail
  refine(vi 1 w).mono ?_
  rintro e w1 ⟨a1,k1,rfl,h1,g1⟩
  have aa:Y (Rd w1 (.slice a1 1 k1) ([1])):=Rd.of_row h1
  have G1:Y (w.grownBy w1 none):=g1
  clear h1 g1
  go_wp2_with fail
  refine(vZ l w1 hl).mono ?_
  rintro e w2 ⟨a2,k2,rfl,h2,g2⟩
  have ad:Y (Rd w2 (.slice a2 (zJ l).length k2) (zJ l)):=Rd.of_row h2
  have ab:Y (Rd w2 (.slice a1 1 k1) ([1])):=aa.o.keep g2
  have G2:=J (zD G1.o g2)
  clear h2 g2 G1 aa
  go_wp2_with fail
  have HJ:Y (Calls Tryz.prog 70 #[.slice (some ⟨w2.heap.size,0,none⟩) 2 2] (w2.alloc (.cells #[.slice a1 1 k1,.slice a2 (zJ l).length k2] 32)) (Gives w (xv true l))):=by
   have h:=ye G2.o [.slice a1 1 k1,.slice a2 (zJ l).length k2] [[1],zJ l] (.cons ab.o (.cons ad.o .nil)) (by unfold xP zJ;simp;omega) (by simp)
   rw[show xP [[1],zJ l]=xv true l by unfold xP xv;simp] at h
   exact h
  refine HJ.o.mono ?_
  rintro e wZ ⟨aZ,kZ,rfl,hZ,gZ⟩
  clear HJ
  go_wp2
  go_ret
  exact⟨aZ,kZ,rfl,hZ,gZ⟩
theorem zjI (n:Int)(w:World)(h:0<=n):Calls Tryz.prog 111 #[.int .i64 n] w (Gives w (qe n)):=by
 obtain⟨k,rfl⟩:=Int.eq_ofNat_of_zero_le h
 exact zg9 k w
theorem qw (l:List UInt8):(zJ l).length=l.length+1:=by unfold zJ;simp
theorem kU (n:Int):(qe n).length=2:=rfl
theorem zj8 (b:Bool)(l:List UInt8):(xv b l).length<=l.length+2:=by unfold xv;split <;> simp[qw]
theorem join2 (a b:List UInt8):xP [a,b]=a++b:=by unfold xP;simp
theorem zqI (t:List UInt8×List UInt8)(w:World)(h1:t.1.length<=255)(h2:t.2.length<=255):Calls Tryz.prog 168 #[.agg #[.string (R.str t.1),.string (R.str t.2)]] w (Gives w (K.st t)):=by
 have aa:Y ((w.alloc (.cells #[.string (R.str t.1),.string (R.str t.2)] 280)).heap[w.heap.size]?=some (.cells #[.string (R.str t.1),.string (R.str t.2)] 280)):=heap_alloc_new _ _
 have c0:=zuH aa.o
 have c1:=zuB aa.o
 have ab:Y (w.grownBy (w.alloc (.cells #[.string (R.str t.1),.string (R.str t.2)] 280)) none):=zL _ _ _
 have ak:=zI aa.o
 have C1:Y (∀W,(w.alloc (.cells #[.string (R.str t.1),.string (R.str t.2)] 280)).grownBy W none->Calls Tryz.prog 108 #[.string (R.str t.1)] W fun e w'=>∃a k,e = .returned (.slice a (zJ t.1).length k)/\Rd w' (.slice a (zJ t.1).length k) (zJ t.1)/\W.grownBy w' none/\(w.alloc (.cells #[.string (R.str t.1),.string (R.str t.2)] 280)).grownBy w' none/\w'.cell? ⟨w.heap.size,0,none⟩=some (.string (R.str t.1))/\w'.cell? ⟨w.heap.size,1,none⟩=some (.string (R.str t.2))):=fun W hW=>(vZ t.1 W h1).mono fun e w' ⟨a,k,h1,h2,h3⟩=>⟨a,k,h1,Rd.of_row h2,h3,zD hW h3,zB (zF aa.o (zD hW h3) (by simp)),zB (zF aa.o (zD hW h3) (by simp))⟩
 have C2:Y (∀W,(w.alloc (.cells #[.string (R.str t.1),.string (R.str t.2)] 280)).grownBy W none->Calls Tryz.prog 108 #[.string (R.str t.2)] W fun e w'=>∃a k,e = .returned (.slice a (zJ t.2).length k)/\Rd w' (.slice a (zJ t.2).length k) (zJ t.2)/\W.grownBy w' none/\(w.alloc (.cells #[.string (R.str t.1),.string (R.str t.2)] 280)).grownBy w' none/\w'.cell? ⟨w.heap.size,0,none⟩=some (.string (R.str t.1))/\w'.cell? ⟨w.heap.size,1,none⟩=some (.string (R.str t.2))):=fun W hW=>(vZ t.2 W h2).mono fun e w' ⟨a,k,h1,h2,h3⟩=>⟨a,k,h1,Rd.of_row h2,h3,zD hW h3,zB (zF aa.o (zD hW h3) (by simp)),zB (zF aa.o (zD hW h3) (by simp))⟩
 have HJ:Y (∀W a1 k1 a2 k2,(w.alloc (.cells #[.string (R.str t.1),.string (R.str t.2)] 280)).grownBy W none->Rd W (.slice a1 (zJ t.1).length k1) (zJ t.1)->Rd W (.slice a2 (zJ t.2).length k2) (zJ t.2)->Calls Tryz.prog 70 #[.slice (some ⟨W.heap.size,0,none⟩) 2 2] (W.alloc (.cells #[.slice a1 (zJ t.1).length k1,.slice a2 (zJ t.2).length k2] 32)) fun e w'=>Gives w (K.st t) e w'/\w'.cell? ⟨w.heap.size,0,none⟩=some (.string (R.str t.1))/\w'.cell? ⟨w.heap.size,1,none⟩=some (.string (R.str t.2))):=fun W a1 k1 a2 k2 hW r1 r2=>by
  have h:=ye hW [.slice a1 (zJ t.1).length k1,.slice a2 (zJ t.2).length k2] [zJ t.1,zJ t.2] (.cons r1 (.cons r2 .nil)) (by rw[join2,zh,qw,qw];omega) (by simp)
  rw[show xP [zJ t.1,zJ t.2]=K.st t from join2 _ _] at h
  refine Calls.mono h fun e w' ⟨a,k,h1,h2,h3⟩=>⟨⟨a,k,h1,kH h2 ab.o.size,zD ab.o h3⟩,zB (zF aa.o h3 (by simp)),zB (zF aa.o h3 (by simp))⟩
 clear aa ab
 go_enter Tryz.func168,Tryz.ntmps168
 go_wp2_with fail
 generalize(w.alloc (.cells #[.string (R.str t.1),.string (R.str t.2)] 280))=wa at*
 go_region_held3 (fun W=>W.cell? ⟨w.heap.size,0,none⟩=some (.string (R.str t.1))/\W.cell? ⟨w.heap.size,1,none⟩=some (.string (R.str t.2))) (go_keep) (first
  | (go_at_call 108;show Calls _ _ _ (World.drew wa) _;refine(C1.o _ (zg wa)).mono ?_;rintro e w1 ⟨a1,k1,rfl,r1,g1,G1,ag,ah⟩;have ad:Y (Rd w1 (.slice a1 (zJ t.1).length k1) (zJ t.1)):=r1;have G1:Y (wa.grownBy w1 none):=G1;clear r1 g1)
  | (go_at_call 108;refine(C2.o _ G1.o).mono ?_;rintro e w2 ⟨a2,k2,rfl,r2,g2,G2,ai,aj⟩;have af:Y (Rd w2 (.slice a2 (zJ t.2).length k2) (zJ t.2)):=r2;have ae:Y (Rd w2 (.slice a1 (zJ t.1).length k1) (zJ t.1)):=ad.o.keep g2;have G2:Y (wa.grownBy w2 none):=G2;clear r2 g2 ad G1)
  | (go_at_call 70;refine(HJ.o _ a1 k1 a2 k2 G2.o ae.o af.o).mono ?_;rintro e wZ ⟨⟨aZ,kZ,rfl,hZ,gZ⟩,z0,z1⟩;have HZ:Y (wZ.ownsRow w.heap.size 5 1 (.slice aZ (K.st t).length kZ) (K.st t).length (Lib.byteCells (K.st t))):=hZ;have GZ:Y (w.grownBy wZ none):=gZ;clear hZ gZ))
 all_goals
  go_wp2
  go_ret
  exact⟨aZ,kZ,rfl,HZ.o,GZ.o⟩
theorem zi1 (t:List UInt8×Int)(w:World)(h1:t.1.length<=255)(h2:0<=t.2):Calls Tryz.prog 165 #[.agg #[.string (R.str t.1),.int .i64 t.2]] w (Gives w (K.tg t)):=by
 have aa:Y ((w.alloc (.cells #[.string (R.str t.1),.int .i64 t.2] 285)).heap[w.heap.size]?=some (.cells #[.string (R.str t.1),.int .i64 t.2] 285)):=heap_alloc_new _ _
 have c0:=zuH aa.o
 have c1:=zuB aa.o
 have ab:Y (w.grownBy (w.alloc (.cells #[.string (R.str t.1),.int .i64 t.2] 285)) none):=zL _ _ _
 have ak:=zI aa.o
 have C1:Y (∀W,(w.alloc (.cells #[.string (R.str t.1),.int .i64 t.2] 285)).grownBy W none->Calls Tryz.prog 108 #[.string (R.str t.1)] W fun e w'=>∃a k,e = .returned (.slice a (zJ t.1).length k)/\Rd w' (.slice a (zJ t.1).length k) (zJ t.1)/\W.grownBy w' none/\(w.alloc (.cells #[.string (R.str t.1),.int .i64 t.2] 285)).grownBy w' none/\w'.cell? ⟨w.heap.size,0,none⟩=some (.string (R.str t.1))/\w'.cell? ⟨w.heap.size,1,none⟩=some (.int .i64 t.2)):=fun W hW=>(vZ t.1 W h1).mono fun e w' ⟨a,k,h1,h2,h3⟩=>⟨a,k,h1,Rd.of_row h2,h3,zD hW h3,zB (zF aa.o (zD hW h3) (by simp)),zB (zF aa.o (zD hW h3) (by simp))⟩
 have C2:Y (∀W,(w.alloc (.cells #[.string (R.str t.1),.int .i64 t.2] 285)).grownBy W none->Calls Tryz.prog 111 #[.int .i64 t.2] W fun e w'=>∃a k,e = .returned (.slice a (qe t.2).length k)/\Rd w' (.slice a (qe t.2).length k) (qe t.2)/\W.grownBy w' none/\(w.alloc (.cells #[.string (R.str t.1),.int .i64 t.2] 285)).grownBy w' none/\w'.cell? ⟨w.heap.size,0,none⟩=some (.string (R.str t.1))/\w'.cell? ⟨w.heap.size,1,none⟩=some (.int .i64 t.2)):=fun W hW=>(zjI t.2 W h2).mono fun e w' ⟨a,k,h1,h2,h3⟩=>⟨a,k,h1,Rd.of_row h2,h3,zD hW h3,zB (zF aa.o (zD hW h3) (by simp)),zB (zF aa.o (zD hW h3) (by simp))⟩
 have HJ:Y (∀W a1 k1 a2 k2,(w.alloc (.cells #[.string (R.str t.1),.int .i64 t.2] 285)).grownBy W none->Rd W (.slice a1 (zJ t.1).length k1) (zJ t.1)->Rd W (.slice a2 (qe t.2).length k2) (qe t.2)->Calls Tryz.prog 70 #[.slice (some ⟨W.heap.size,0,none⟩) 2 2] (W.alloc (.cells #[.slice a1 (zJ t.1).length k1,.slice a2 (qe t.2).length k2] 32)) fun e w'=>Gives w (K.tg t) e w'/\w'.cell? ⟨w.heap.size,0,none⟩=some (.string (R.str t.1))/\w'.cell? ⟨w.heap.size,1,none⟩=some (.int .i64 t.2)):=fun W a1 k1 a2 k2 hW r1 r2=>by
  have h:=ye hW [.slice a1 (zJ t.1).length k1,.slice a2 (qe t.2).length k2] [zJ t.1,qe t.2] (.cons r1 (.cons r2 .nil)) (by rw[join2,zh,qw,kU];omega) (by simp)
  rw[show xP [zJ t.1,qe t.2]=K.tg t from join2 _ _] at h
  refine Calls.mono h fun e w' ⟨a,k,h1,h2,h3⟩=>⟨⟨a,k,h1,kH h2 ab.o.size,zD ab.o h3⟩,zB (zF aa.o h3 (by simp)),zB (zF aa.o h3 (by simp))⟩
 clear aa ab
 go_enter Tryz.func165,Tryz.ntmps165
 go_wp2_with fail
 generalize(w.alloc (.cells #[.string (R.str t.1),.int .i64 t.2] 285))=wa at*
 go_region_held3 (fun W=>W.cell? ⟨w.heap.size,0,none⟩=some (.string (R.str t.1))/\W.cell? ⟨w.heap.size,1,none⟩=some (.int .i64 t.2)) (go_keep) (first
  | (go_at_call 108;show Calls _ _ _ (World.drew wa) _;refine(C1.o _ (zg wa)).mono ?_;rintro e w1 ⟨a1,k1,rfl,r1,g1,G1,ag,ah⟩;have ad:Y (Rd w1 (.slice a1 (zJ t.1).length k1) (zJ t.1)):=r1;have G1:Y (wa.grownBy w1 none):=G1;clear r1 g1)
  | (go_at_call 111;refine(C2.o _ G1.o).mono ?_;rintro e w2 ⟨a2,k2,rfl,r2,g2,G2,ai,aj⟩;have af:Y (Rd w2 (.slice a2 (qe t.2).length k2) (qe t.2)):=r2;have ae:Y (Rd w2 (.slice a1 (zJ t.1).length k1) (zJ t.1)):=ad.o.keep g2;have G2:Y (wa.grownBy w2 none):=G2;clear r2 g2 ad G1)
  | (go_at_call 70;refine(HJ.o _ a1 k1 a2 k2 G2.o ae.o af.o).mono ?_;rintro e wZ ⟨⟨aZ,kZ,rfl,hZ,gZ⟩,z0,z1⟩;have HZ:Y (wZ.ownsRow w.heap.size 5 1 (.slice aZ (K.tg t).length kZ) (K.tg t).length (Lib.byteCells (K.tg t))):=hZ;have GZ:Y (w.grownBy wZ none):=gZ;clear hZ gZ))
 all_goals
  go_wp2
  go_ret
  exact⟨aZ,kZ,rfl,HZ.o,GZ.o⟩
theorem zl9 (m:P.Mt)(w:World)(h1:m.name.length<=255)(h2:m.val.length<=255):Calls Tryz.prog 163 #[.agg #[.string (R.str m.name),.bool m.ask,.string (R.str m.val)]] w (Gives w (K.mt m)):=by
 have aa:Y ((w.alloc (.cells #[.string (R.str m.name),.bool m.ask,.string (R.str m.val)] 276)).heap[w.heap.size]?=some (.cells #[.string (R.str m.name),.bool m.ask,.string (R.str m.val)] 276)):=heap_alloc_new _ _
 have c0:=ztW aa.o
 have c1:=zuA aa.o
 have c2:=ztX aa.o
 have ab:Y (w.grownBy (w.alloc (.cells #[.string (R.str m.name),.bool m.ask,.string (R.str m.val)] 276)) none):=zL _ _ _
 have am:=zI aa.o
 have C1:Y (∀W,(w.alloc (.cells #[.string (R.str m.name),.bool m.ask,.string (R.str m.val)] 276)).grownBy W none->Calls Tryz.prog 108 #[.string (R.str m.name)] W fun e w'=>∃a k,e = .returned (.slice a (zJ m.name).length k)/\Rd w' (.slice a (zJ m.name).length k) (zJ m.name)/\W.grownBy w' none/\(w.alloc (.cells #[.string (R.str m.name),.bool m.ask,.string (R.str m.val)] 276)).grownBy w' none/\w'.cell? ⟨w.heap.size,0,none⟩=some (.string (R.str m.name))/\w'.cell? ⟨w.heap.size,1,none⟩=some (.bool m.ask)/\w'.cell? ⟨w.heap.size,2,none⟩=some (.string (R.str m.val))):=fun W hW=>(vZ m.name W h1).mono fun e w' ⟨a,k,h1,h2,h3⟩=>⟨a,k,h1,Rd.of_row h2,h3,zD hW h3,zB (zF aa.o (zD hW h3) (by simp)),zB (zF aa.o (zD hW h3) (by simp)),zB (zF aa.o (zD hW h3) (by simp))⟩
 have C2:Y (∀W,(w.alloc (.cells #[.string (R.str m.name),.bool m.ask,.string (R.str m.val)] 276)).grownBy W none->Calls Tryz.prog 166 #[.bool m.ask,.string (R.str m.val)] W fun e w'=>∃a k,e = .returned (.slice a (xv m.ask m.val).length k)/\Rd w' (.slice a (xv m.ask m.val).length k) (xv m.ask m.val)/\W.grownBy w' none/\(w.alloc (.cells #[.string (R.str m.name),.bool m.ask,.string (R.str m.val)] 276)).grownBy w' none/\w'.cell? ⟨w.heap.size,0,none⟩=some (.string (R.str m.name))/\w'.cell? ⟨w.heap.size,1,none⟩=some (.bool m.ask)/\w'.cell? ⟨w.heap.size,2,none⟩=some (.string (R.str m.val))):=fun W hW=>(zbE m.ask m.val W h2).mono fun e w' ⟨a,k,h1,h2,h3⟩=>⟨a,k,h1,Rd.of_row h2,h3,zD hW h3,zB (zF aa.o (zD hW h3) (by simp)),zB (zF aa.o (zD hW h3) (by simp)),zB (zF aa.o (zD hW h3) (by simp))⟩
 have HJ:Y (∀W a1 k1 a2 k2,(w.alloc (.cells #[.string (R.str m.name),.bool m.ask,.string (R.str m.val)] 276)).grownBy W none->Rd W (.slice a1 (zJ m.name).length k1) (zJ m.name)->Rd W (.slice a2 (xv m.ask m.val).length k2) (xv m.ask m.val)->Calls Tryz.prog 70 #[.slice (some ⟨W.heap.size,0,none⟩) 2 2] (W.alloc (.cells #[.slice a1 (zJ m.name).length k1,.slice a2 (xv m.ask m.val).length k2] 32)) fun e w'=>Gives w (K.mt m) e w'/\w'.cell? ⟨w.heap.size,0,none⟩=some (.string (R.str m.name))/\w'.cell? ⟨w.heap.size,1,none⟩=some (.bool m.ask)/\w'.cell? ⟨w.heap.size,2,none⟩=some (.string (R.str m.val))):=fun W a1 k1 a2 k2 hW r1 r2=>by
  have h:=ye hW [.slice a1 (zJ m.name).length k1,.slice a2 (xv m.ask m.val).length k2] [zJ m.name,xv m.ask m.val] (.cons r1 (.cons r2 .nil)) (by rw[join2,zh,qw];have:=zj8 m.ask m.val;omega) (by simp)
  rw[show xP [zJ m.name,xv m.ask m.val]=K.mt m by rw[join2];rfl] at h
  refine Calls.mono h fun e w' ⟨a,k,h1,h2,h3⟩=>⟨⟨a,k,h1,kH h2 ab.o.size,zD ab.o h3⟩,zB (zF aa.o h3 (by simp)),zB (zF aa.o h3 (by simp)),zB (zF aa.o h3 (by simp))⟩
 clear aa ab
 go_enter Tryz.func163,Tryz.ntmps163
 go_wp2_with fail
 generalize(w.alloc (.cells #[.string (R.str m.name),.bool m.ask,.string (R.str m.val)] 276))=wa at*
 go_region_held3 (fun W=>W.cell? ⟨w.heap.size,0,none⟩=some (.string (R.str m.name))/\W.cell? ⟨w.heap.size,1,none⟩=some (.bool m.ask)/\W.cell? ⟨w.heap.size,2,none⟩=some (.string (R.str m.val))) (go_keep) (first
  | (go_at_call 108;show Calls _ _ _ (World.drew wa) _;refine(C1.o _ (zg wa)).mono ?_;rintro e w1 ⟨a1,k1,rfl,r1,g1,G1,ag,ah,ai⟩;have ad:Y (Rd w1 (.slice a1 (zJ m.name).length k1) (zJ m.name)):=r1;have G1:Y (wa.grownBy w1 none):=G1;clear r1 g1)
  | (go_at_call 166;refine(C2.o _ G1.o).mono ?_;rintro e w2 ⟨a2,k2,rfl,r2,g2,G2,aj,ak,al⟩;have af:Y (Rd w2 (.slice a2 (xv m.ask m.val).length k2) (xv m.ask m.val)):=r2;have ae:Y (Rd w2 (.slice a1 (zJ m.name).length k1) (zJ m.name)):=ad.o.keep g2;have G2:Y (wa.grownBy w2 none):=G2;clear r2 g2 ad G1)
  | (go_at_call 70;refine(HJ.o _ a1 k1 a2 k2 G2.o ae.o af.o).mono ?_;rintro e wZ ⟨⟨aZ,kZ,rfl,hZ,gZ⟩,z0,z1,z2⟩;have HZ:Y (wZ.ownsRow w.heap.size 5 1 (.slice aZ (K.mt m).length kZ) (K.mt m).length (Lib.byteCells (K.mt m))):=hZ;have GZ:Y (w.grownBy wZ none):=gZ;clear hZ gZ))
 all_goals
  go_wp2
  go_ret
  exact⟨aZ,kZ,rfl,HZ.o,GZ.o⟩
end Go.Proofs.YtfocdefchbnkpaaGreatDoor
