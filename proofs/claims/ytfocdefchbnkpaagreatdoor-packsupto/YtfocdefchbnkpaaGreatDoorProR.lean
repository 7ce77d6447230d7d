/- A host, as the program's reader reads it. -/
import Derived.Test.YtfocdefchbnkpaaGreatDoorAli
import Derived.Test.YtfocdefchbnkpaaGreatDoorProQ
import Derived.Shelf.SlSortCmp.SmallK
import Derived.Shelf.Small.Bits
import Derived.Ground.SlsfProg
import Derived.Ground.NamesProg
import Derived.Test.YtfocdefchbnkpaaGreatDoorProg
import Derived.Test.YtfocdefchbnkpaaGreatDoorRefJ
import Derived.Deep.CutRange
import Derived.Deep.RegionLaw
import Derived.Deep.AppendLies
set_option maxRecDepth 100000
set_option maxHeartbeats 20000000
namespace Go.Proofs.YtfocdefchbnkpaaGreatDoor
open Go.RowKit
theorem ziV:(Tryz.prog.info? 213).map (fun i=>(i.zero,i.size,i.bytes))=some (some (.agg #[.int .i64 0,.string ⟨#[]⟩,.slice none 0 0,.slice none 0 0,.string ⟨#[]⟩,.slice none 0 0,.slice none 0 0]),7,136):=by kernel_rfl
theorem wi {w:World}{B:Nat}{v:Value}{rs:List P.Rl}(h:PRulesRow w B v rs):∃a c,v = .slice a rs.length c:=by obtain⟨aa,h1,_⟩:=h;exact zO h1
theorem zqB (w:World)(B:Nat):PRulesRow w B (.slice none 0 0) []:=⟨[],xd _ _ _ _,.nil⟩
theorem zqV {w:World}{rb:Nat}{s:ByteArray}{st:P.St}(h:PInv w rb s st)(B:Nat)(v:Value)(hs:List P.Hst)(hR:PHostsRow w B v hs)(hn:hs.length<=2000000000000)(hG:Glob w)(aN:rb≠0) :
  Calls Tryz.prog 148 #[.pointer (some ⟨rb,0,none⟩),v] w fun e w'=>∃vR,e = .returned (.agg #[.string (R.str (xj s.data.toList st (hs.map P.Hst.name)).1.name),vR])/\PInv w' rb s (xj s.data.toList st (hs.map P.Hst.name)).2/\w.grownBy w' (some rb)/\PRulesRow w' w.heap.size vR (xj s.data.toList st (hs.map P.Hst.name)).1.rules:=by
 obtain⟨i0,hi,be,bf,bg⟩:=info_parts ziV
 have HP:Y (xj s.data.toList st (hs.map P.Hst.name)=ziB s.data.toList (kI s.data.toList st (hs.map P.Hst.name))):=rfl
 have HA:Y (kI s.data.toList st (hs.map P.Hst.name)=xX s.data.toList (zX s.data.toList (qE st hs.length 4) R.wHost) (hs.map P.Hst.name)):=by show _=_;unfold kI;rw[xW]
 have H0:Y _:=h
 have bl:=zI h.rd
 have bq:=h.len
 have HR:Y (PHostsRow w B v hs):=hR
 have HN:Y _:=hn
 have HG:Y (Glob w):=hG
 obtain⟨va,vc,rfl⟩:∃a c,v = .slice a hs.length c:=by obtain⟨css,h1,_⟩:=hR;exact zO h1
 clear h hR hn hG
 generalize xj s.data.toList st (hs.map P.Hst.name)=res at*
 go_enter Tryz.func148,Tryz.ntmps148
 have C0:Y (w.grownBy w (some rb)):=ze _ _
 go_wp2_with fail
 refine(vd (H0.o.keep (zL _ _ _)) _ _).mono ?_
 rintro e w1 ⟨rfl,I1,ap⟩
 have J1:Y _:=I1
 have b1:=zI J1.o.rd
 have s1:w.heap.size+1<=w1.heap.size:=by have h:=ap.size;simpa using h
 have G1:Y (w.grownBy w1 (some rb)):=(zD (zL _ _ _) ap)
 have C1:=J (zD C0.o G1.o)
 have z1:=C1.o.size
 have a2:Y (w1.heap[w.heap.size]?=some (.cells #[.string ⟨#[]⟩,.slice none 0 0] 146)):=qz ap (by simp;omega)
 clear ap I1
 go_wp2_with fail
 refine(yF J1.o _).mono ?_
 rintro e w2 ⟨rfl,I2,aA⟩
 have J2:Y _:=I2
 have b2:=zI J2.o.rd
 have s2:w1.heap.size+0<=w2.heap.size:=by have h:=aA.size;simpa using h
 have G2:Y (w1.grownBy w2 (some rb)):=aA
 have C2:=J (zD C1.o G2.o)
 have z2:=C2.o.size
 have a3:=J (zF a2.o G2.o (by simp;omega))
 clear aA I2
 rw[show(⟨#[104,111,115,116]⟩:ByteArray).data.toList=R.wHost from rfl] at J2
 go_wp2_with fail
 refine(zfQ J2.o B _ hs (HR.o.keep C2.o (H0.o.safe (by decide))) HN.o (HG.o.keep C2.o (by simpa using aN)) aN).mono ?_
 rintro e w3 ⟨rfl,I3,aB⟩
 have J3:Y _:=I3
 have b3:=zI J3.o.rd
 have s3:w2.heap.size+0<=w3.heap.size:=by have h:=aB.size;simpa using h
 have G3:Y (w2.grownBy w3 (some rb)):=aB
 have C3:=J (zD C2.o G3.o)
 have z3:=C3.o.size
 have a4:=J (zF a3.o G3.o (by simp;omega))
 clear aB I3
 rw[<-HA.o] at J3
 rw[<-HA.o]
 clear HA
 generalize kI s.data.toList st (hs.map P.Hst.name)=qa at*
 obtain⟨nm,sA⟩:=qa
 simp only at J3 HP ⊢
 go_wp2_with fail
 refine(yF (J3.o.keep (zL _ _ _)) _).mono ?_
 rintro e w4 ⟨rfl,I4,aq⟩
 have J4:Y _:=I4
 have b4:=zI J4.o.rd
 have s4:w3.heap.size+1<=w4.heap.size:=by have h:=aq.size;simpa using h
 have G4:Y (w3.grownBy w4 (some rb)):=(zD (zL _ _ _) aq)
 have C4:=J (zD C3.o G4.o)
 have z4:=C4.o.size
 have a5:=J (zF a4.o G4.o (by simp;omega))
 have a9:Y (w4.heap[w3.heap.size]?=some (.cells #[.string (R.str nm),.slice none 0 0] 146)):=qz aq (by simp;omega)
 clear aq I4
 have JB:Y (PInv w4 rb s (zX s.data.toList sA [123])):=J4
 have ag:Y (res=(⟨nm,(xR s.data.toList (s.data.toList.length+1) (zX s.data.toList sA [123]) []).1⟩,zX s.data.toList (xR s.data.toList (s.data.toList.length+1) (zX s.data.toList sA [123]) []).2 [125])):=HP.o
 clear HP
 generalize zX s.data.toList sA [123]=sB at*
 generalize hQ:xR s.data.toList (s.data.toList.length+1) sB []=Q at*
 have HQ:Y _:=hQ
 clear hQ
 have b0:=JB.o.bd
 go_wp2_with fail
 go_loopw [] (fun wr=>∃(n:Nat) (aa:List P.Rl) (p:P.St) (vL:Value),aa.length<=p.tok.at_/\p.tok.at_<=s.size/\s.size<n+p.tok.at_/\Y (xR s.data.toList n p aa=Q)/\Y (PInv wr rb s p)/\Y (w.grownBy wr (some rb))/\Y (wr.heap[w.heap.size]?=some (.cells #[.string ⟨#[]⟩,.slice none 0 0] 146))/\Y (wr.heap[w3.heap.size]?=some (.cells #[.string (R.str nm),vL] 146))/\Y (PRulesRow wr w.heap.size vL aa)) (fun wr=>s.size+1 - atOf wr rb)
 case atStart=>exact⟨s.data.toList.length+1,[],sB,_,zo _,by omega,by rw[R.size_eq];omega,HQ.o,JB,C4,a5.o,a9.o,zqB _ _⟩
 case round=>
  obtain⟨n,aa,p,vL,bn,bt,bs,HL,IR,CR,a8,aK,HO⟩:=hrel
  have bm:=zI IR.o.rd
  have bO:=CR.o.size
  have bu:=zI aK.o
  obtain⟨n,rfl⟩:∃m,n=m+1:=⟨n - 1,by omega⟩
  have ad:=HL.o
  rw[xR] at ad
  obtain⟨la,lc,rfl⟩:=wi HO.o
  go_wp2_with fail
  refine(vE IR.o _).mono ?_
  rintro e ab ⟨rfl,az⟩
  have aD:=zb az (some rb)
  have ai:Y _:=(IR.o).keep az
  have bk:=zI ai.o.rd
  have bK:wr.heap.size+0<=ab.heap.size:=by have h:=aD.size;simpa using h
  have an:Y (wr.grownBy ab (some rb)):=aD
  have au:=J (zD CR.o an.o)
  have bM:=au.o.size
  have aI:=J (zF a8.o an.o (by simp;omega))
  have aj:=J (zF aK.o an.o (by simp;omega))
  clear aD az
  have av:Y (PRulesRow ab w.heap.size (.slice la aa.length lc) aa):=HO.o.keep an.o (IR.o.safe (by decide))
  rw[show(⟨#[114,117,108,101]⟩:ByteArray).data.toList=xH from rfl]
  cases hgo:qX p xH
  ·rw[hgo] at ad
   simp only[zb2,if_false] at ad
   have HF:Y (Q=(aa,p)):=ad.symm
   clear ad HL
   rw[HF.o] at ag
   simp only at ag
   go_wp2_with fail
   refine(yF ai.o _).mono ?_
   rintro e ar ⟨rfl,aH,aC⟩
   have aw:Y _:=aH
   have bj:=zI aw.o.rd
   have bJ:ab.heap.size+0<=ar.heap.size:=by have h:=aC.size;simpa using h
   have am:Y (ab.grownBy ar (some rb)):=aC
   have aF:=J (zD au.o am.o)
   have bL:=aF.o.size
   have ae:=J (zF aI.o am.o (by simp;omega))
   have ax:=J (zF aj.o am.o (by simp;omega))
   clear aC aH
   rw[show(⟨#[125]⟩:ByteArray).data.toList=[125] from rfl] at aw
   have aW:Y (PRulesRow ar w.heap.size (.slice la aa.length lc) aa):=av.o.keep am.o (ai.o.safe (by decide))
   have bF:=zI ax.o
   have bD:=zuH ax.o
   have bE:=zuB ax.o
   have bI:=zI ae.o
   have bh:=zuH ae.o
   have bG:=zuG 0 ae.o
   have bi:=zuB ae.o
   have bH:=zuG 1 ae.o
   go_wp2
   have aE:=zD (zG ar w.heap.size 0 (.string (R.str nm))) (zG _ w.heap.size 1 (.slice la aa.length lc))
   refine bodyPost_ret (v:=.agg #[.string (R.str nm),.slice la aa.length lc]) (by simp[results,Tryz.results148,go_sem,bh,bi]) rfl ⟨_,by rw[ag.o],?_,zm aF.o aE (zw _),?_⟩
   ·rw[ag.o];exact aw.o.other aE (by omega)
   ·rw[ag.o];exact aW.o.keep aE (xY ae.o (by decide))
  ·rw[hgo] at ad
   simp only[if_true] at ad
   have bc:=zfH s.data.toList p (aa.map P.Rl.number) hgo
   have aG:Y _:=ad
   clear ad HL
   have bz:=zI aj.o
   have bw:=zuH aj.o
   have bx:=zuB aj.o
   have HC:Y (∀w',ab.grownBy w' none->Calls Tryz.prog 208 #[.pointer (some ⟨rb,0,none⟩),.slice la aa.length lc] w' fun e w''=>∃cs,e = .returned (.agg cs.toArray)/\PInv w'' rb s (xg s.data.toList p (aa.map P.Rl.number)).2/\w'.grownBy w'' (some rb)/\PRuleVal w'' cs (xg s.data.toList p (aa.map P.Rl.number)).1):=fun w' hg=>zp7 (ai.o.keep hg) w.heap.size _ aa (av.o.keep hg (zi _ _)) (by omega)
   generalize xg s.data.toList p (aa.map P.Rl.number)=qs at*
   obtain⟨nw,p2⟩:=qs
   simp only at aG bc HC
   have aS:Y (aa.length+1<=maxLen):=by show _<=_;unfold maxLen;omega
   go_wp2
   go_region_law (first | (refine step_append_lies _ rfl (.tmp 21) (.tmp 26) 144 rfl w.heap.size 213 i0 _ 7 136 Tryz.underlying144 hi be bf bg rfl (by decide) _ _ _ (by simp[Act.eval]) (qK ah.o _) ⟨wN.heap.size,0,none⟩ 1 1 [.int .i64 nw.number,.string (R.str nw.path),.slice m1 nw.ms.length m2,.slice t1 nw.tg.length t2,.string (R.str nw.rep),.slice x1 nw.sets.length x2,.slice d1 nw.drops.length d2] (by simp[Act.eval]) rfl aV.o aP.o (by decide) aS.o (by omega) aR.o (wN.heap.size+1) a1.o ?_;intro g9 al w9 aM af bo br;have ay:∀k,(Value.slice la aa.length lc).ownBlock=some k->w.heap.size<=k:=fun k hk=>(zx ah.o k hk).1;have J9:Y (PInv w9 rb s p2):=(JN.o.keep (zL _ _ _)).away af (fun k hk=>by { have h1:=ay k hk;omega });have C9:Y (w.grownBy w9 (some rb)):=qV (zD CN.o (zL _ _ _)) af ay;have a6:Y (w9.heap[w.heap.size]?=some (.cells #[.string ⟨#[]⟩,.slice none 0 0] 146)):=xJ (zF aJ.o (zL _ _ none) (by simp)) af (fun k hk=>zW aJ.o ah.o (by decide) k hk);have ao:Y (w9.heap[w3.heap.size]?=some (.cells #[.string (R.str nm),.slice la aa.length lc] 146)):=xJ (zF ak.o (zL _ _ none) (by simp)) af (fun k hk=>zW ak.o ah.o (by decide) k hk);have gA:wN.grownBy (wN.alloc (.cells #[.int .i64 nw.number,.string (R.str nw.path),.slice m1 nw.ms.length m2,.slice t1 nw.tg.length t2,.string (R.str nw.rep),.slice x1 nw.sets.length x2,.slice d1 nw.drops.length d2] 213)) none:=zL _ _ _;have aO:Safe (wN.alloc (.cells #[.int .i64 nw.number,.string (R.str nw.path),.slice m1 nw.ms.length m2,.slice t1 nw.tg.length t2,.string (R.str nw.rep),.slice x1 nw.sets.length x2,.slice d1 nw.drops.length d2] 213)) (Value.slice la aa.length lc).ownBlock pleaves:=xz (qK ah.o _) (by decide);have aX:Y (PRulesRow w9 w.heap.size (.slice (some ⟨g9,0,none⟩) (aa.length+1) al) (aa++[nw])):=⟨css2++[[.int .i64 nw.number,.string (R.str nw.path),.slice m1 nw.ms.length m2,.slice t1 nw.tg.length t2,.string (R.str nw.rep),.slice x1 nw.sets.length x2,.slice d1 nw.drops.length d2]],(by { rw[zh,yj];exact aM }),(aQ.o.snoc a0.o).map fun a b hab=>(hab.keep gA (zi _ _)).keep af aO⟩;have q9:=zuB ao.o;have bv:=zuG 1 ao.o;clear aM af ay gA aO) | (go_simp;go_at_call 208;refine(HC.o _ (zg ab)).mono ?_;rintro e wN ⟨cs,rfl,IN,aL,bb⟩;obtain⟨vM,vT,vS,vD,rfl,hM,hT,hS,hD⟩:=bb;obtain⟨m1,m2,rfl⟩:=zO hM;obtain⟨t1,t2,rfl⟩:=zO hT;obtain⟨x1,x2,rfl⟩:=zO hS;obtain⟨d1,d2,rfl⟩:=zO hD;have a0:Y (PRuleVal wN [.int .i64 nw.number,.string (R.str nw.path),.slice m1 nw.ms.length m2,.slice t1 nw.tg.length t2,.string (R.str nw.rep),.slice x1 nw.sets.length x2,.slice d1 nw.drops.length d2] nw):=⟨_,_,_,_,rfl,hM,hT,hS,hD⟩;have GN:ab.grownBy wN (some rb):=zD (zb (zg ab) _) aL;have JN:Y (PInv wN rb s p2):=IN;have CN:=J (zD au.o GN);have sN:ab.heap.size<=wN.heap.size:=GN.size;have aJ:=J (zF aI.o GN (by simp;omega));have ak:=J (zF aj.o GN (by simp;omega));have aY:Y (PRulesRow wN w.heap.size (.slice la aa.length lc) aa):=av.o.keep GN (ai.o.safe (by decide));obtain⟨css2,hrow2,hall2⟩:=aY.o;have ah:Y _:=hrow2;have aQ:Y _:=hall2;have bA:=zuH ak.o;have bB:=zuB ak.o;have bC:=zI ak.o;have bN:=zI JN.o.rd;have aV:Y (∀j u,([.int .i64 nw.number,.string (R.str nw.path),.slice m1 nw.ms.length m2,.slice t1 nw.tg.length t2,.string (R.str nw.rep),.slice x1 nw.sets.length x2,.slice d1 nw.drops.length d2]:List Value)[j]?=some u->(wN.alloc (.cells #[.int .i64 nw.number,.string (R.str nw.path),.slice m1 nw.ms.length m2,.slice t1 nw.tg.length t2,.string (R.str nw.rep),.slice x1 nw.sets.length x2,.slice d1 nw.drops.length d2] 213)).cell? ((⟨wN.heap.size,0,none⟩:Addr).add j)=some u):=zu wN #[_,_,_,_,_,_,_] _ _ rfl;have aP:Y (∀u∈([.int .i64 nw.number,.string (R.str nw.path),.slice m1 nw.ms.length m2,.slice t1 nw.tg.length t2,.string (R.str nw.rep),.slice x1 nw.sets.length x2,.slice d1 nw.drops.length d2]:List Value),u.oneCell'=true):=by { intro u hu;simp only[List.mem_cons,List.mem_nil_iff,or_false] at hu;rcases hu with rfl | rfl | rfl | rfl | rfl | rfl | rfl <;> rfl };have aR:Y (w.heap.size<=(wN.alloc (.cells #[.int .i64 nw.number,.string (R.str nw.path),.slice m1 nw.ms.length m2,.slice t1 nw.tg.length t2,.string (R.str nw.rep),.slice x1 nw.sets.length x2,.slice d1 nw.drops.length d2] 213)).heap.size):=by { show _<=_;rw[show(wN.alloc (.cells #[.int .i64 nw.number,.string (R.str nw.path),.slice m1 nw.ms.length m2,.slice t1 nw.tg.length t2,.string (R.str nw.rep),.slice x1 nw.sets.length x2,.slice d1 nw.drops.length d2] 213)).heap.size=wN.heap.size+1 from by simp];omega };have a1:Y ((wN.alloc (.cells #[.int .i64 nw.number,.string (R.str nw.path),.slice m1 nw.ms.length m2,.slice t1 nw.tg.length t2,.string (R.str nw.rep),.slice x1 nw.sets.length x2,.slice d1 nw.drops.length d2] 213)).heap.size=wN.heap.size+1):=by { show _=_;simp };clear IN aL GN hM hT hS hD hrow2 hall2))
   all_goals
    have gS:=zG w9 w3.heap.size 1 (.slice (some ⟨g9,0,none⟩) (aa.length+1) al)
    have JS:Y _:=J9.o.other gS (by omega)
    have CS:=J (zm C9.o gS (by omega))
    have a7:=J (zF a6.o gS (by simp;omega))
    have ba:Y ((w9.setCell ⟨w3.heap.size,1,none⟩ (.slice (some ⟨g9,0,none⟩) (aa.length+1) al)).heap[w3.heap.size]?=some (.cells #[.string (R.str nm),.slice (some ⟨g9,0,none⟩) (aa.length+1) al] 146)):=zR ao.o _
    have aZ:Y _:=aX.o.keep gS (xY ao.o (by decide))
    have aU:Y (atOf (w9.setCell ⟨w3.heap.size,1,none⟩ (.slice (some ⟨g9,0,none⟩) (aa.length+1) al)) rb=p2.tok.at_):=jf JS.o
    have aT:Y (atOf wr rb=p.tok.at_):=jf IR.o
    have bp:=JS.o.bd
    clear gS
    go_wp2
    go_roundw
    case rel=>exact⟨n,aa++[nw],p2,_,by rw[zh];simp;omega,by omega,by omega,aG,JS,CS,a7,ba,aZ⟩
    case measure=>rw[aU.o,aT.o];omega
theorem zj4:(Tryz.prog.info? 146).map (fun i=>(i.zero,i.size,i.bytes))=some (some (.agg #[.string ⟨#[]⟩,.slice none 0 0]),2,40):=by kernel_rfl
def rblk (cs:List Value):Option Nat:=(cs[1]?.getD undef).ownBlock
def PHosts (w:World)(B:Nat)(v:Value)(hs:List P.Hst):Prop:=
 ∃css:List (List Value),w.ownsRow B 146 2 v hs.length css.flatten/\All2 (PHostVal w) css hs/\css.Pairwise (fun a b=>∀k,rblk a=some k->rblk b≠some k)/\∀a∈css,∀k,rblk a=some k->B<=k
theorem PHosts.row {w:World}{B:Nat}{v:Value}{hs:List P.Hst}(h:PHosts w B v hs):PHostsRow w B v hs:=by obtain⟨aa,h1,h2,_⟩:=h;exact⟨aa,h1,h2⟩
theorem PHosts.keep {w w':World}{B:Nat}{v:Value}{hs:List P.Hst}{ab:Option Nat}(h:PHosts w B v hs)(hg:w.grownBy w' ab)(aa:Safe w ab phtags):PHosts w' B v hs:=by
 obtain⟨ad,h1,h2,h3⟩:=h
 exact⟨ad,x6 h1 hg aa (by decide),h2.map fun a b hab=>hab.keep hg (jV aa),h3⟩
theorem PHosts.nil (w:World)(B:Nat):PHosts w B (.slice none 0 0) []:=⟨[],xd _ _ _ _,.nil,.nil,fun a ha=>by simp at ha⟩
theorem PHosts.len {w:World}{B:Nat}{v:Value}{hs:List P.Hst}(h:PHosts w B v hs):∃a c,v = .slice a hs.length c:=by obtain⟨aa,h1,_⟩:=h;exact zO h1
theorem zl5 {w:World}{cs:List Value}{h:P.Hst}(hv:PHostVal w cs h):∀k,rblk cs=some k->k<w.heap.size:=by
 obtain⟨vR,rfl,aa,h1,_⟩:=hv
 intro k hk
 exact(zx h1 k hk).2
theorem zrW {w:World}{aa:List (List Value)}{hs:List P.Hst}(h:All2 (PHostVal w) aa hs):∀a∈aa,∀k,rblk a=some k->k<w.heap.size:=by
 induction h with
 | nil=>intro a ha;simp at ha
 | cons hc _ ih=>
  intro a ha
  rcases List.mem_cons.1 ha with rfl | ha
  ·exact zl5 hc
  ·exact ih a ha
theorem zo0 {w:World}{rb:Nat}{s:ByteArray}{st:P.St}(h:PInv w rb s st)(hG:Glob w)(az:rb≠0) :
  Calls Tryz.prog 101 #[.pointer (some ⟨rb,0,none⟩)] w fun e w'=>∃v,e = .returned v/\PInv w' rb s (qn s.data.toList (s.data.toList.length+1) st []).2/\w.grownBy w' (some rb)/\PHosts w' w.heap.size v (qn s.data.toList (s.data.toList.length+1) st []).1:=by
 obtain⟨i0,hi,aM,aN,aO⟩:=info_parts zj4
 have H0:Y _:=h
 have aR:=zI h.rd
 have aW:=h.len
 have b0:=h.bd
 have HG:Y (Glob w):=hG
 clear h hG
 generalize hQ:qn s.data.toList (s.data.toList.length+1) st []=Q at*
 have HQ:Y _:=hQ
 clear hQ
 go_enter Tryz.func101,Tryz.ntmps101
 go_wp2_with fail
 go_loopw [3] (fun v wr=>∃(n:Nat) (aa:List P.Hst) (p:P.St),aa.length<=p.tok.at_/\p.tok.at_<=s.size/\s.size<n+p.tok.at_/\Y (qn s.data.toList n p aa=Q)/\Y (PInv wr rb s p)/\Y (w.grownBy wr (some rb))/\Y (PHosts wr w.heap.size v aa)) (fun _ wr=>s.size+1 - atOf wr rb)
 case atStart=>exact⟨s.data.toList.length+1,[],st,zo _,by omega,by rw[R.size_eq];omega,HQ.o,H0,ze _ _,PHosts.nil _ _⟩
 case round=>
  obtain⟨n,aa,p,aT,aZ,aY,HL,IR,CR,HO⟩:=hrel
  have aS:=zI IR.o.rd
  have a1:=CR.o.size
  obtain⟨n,rfl⟩:∃m,n=m+1:=⟨n - 1,by omega⟩
  have ab:=HL.o
  rw[qn] at ab
  obtain⟨la,lc,rfl⟩:=HO.o.len
  go_wp2_with fail
  refine(vE IR.o _).mono ?_
  rintro e ad ⟨rfl,ao⟩
  have aq:=zb ao (some rb)
  have ah:Y _:=(IR.o).keep ao
  have aQ:=zI ah.o.rd
  have a0:wr.heap.size+0<=ad.heap.size:=by have h:=aq.size;simpa using h
  have au:Y (wr.grownBy ad (some rb)):=aq
  have ae:=J (zD CR.o au.o)
  have aP:=ae.o.size
  clear aq ao
  have ak:Y (PHosts ad w.heap.size (.slice la aa.length lc) aa):=HO.o.keep au.o (IR.o.safe (by decide))
  rw[show(⟨#[104,111,115,116]⟩:ByteArray).data.toList=R.wHost from rfl]
  cases hgo:qX p R.wHost
  ·rw[hgo] at ab
   simp only[zb2,if_false] at ab
   have HF:Y (Q=(aa,p)):=ab.symm
   clear ab HL
   go_wp2
   go_ret
   exact⟨_,rfl,by rw[HF.o];exact ah.o,ae.o,by rw[HF.o];exact ak.o⟩
  ·rw[hgo] at ab
   simp only[if_true] at ab
   have aK:=zoR s.data.toList p (aa.map P.Hst.name) hgo
   have av:Y _:=ab
   clear ab HL
   go_wp2_with fail
   refine(zqV ah.o w.heap.size _ aa ak.o.row (by omega) (HG.o.keep ae.o (by simpa using az)) az).mono ?_
   rintro e wN ⟨vR,rfl,IN,ag,ai⟩
   generalize xj s.data.toList p (aa.map P.Hst.name)=qs at*
   obtain⟨nw,p2⟩:=qs
   simp only at av aK IN ai ⊢
   obtain⟨r1,r2,rfl⟩:=wi ai
   have JN:Y (PInv wN rb s p2):=IN
   have bN:=zI JN.o.rd
   have sN:ad.heap.size<=wN.heap.size:=ag.size
   have aP:=ae.o.size
   have CN:=J (zD ae.o ag)
   have zN:=CN.o.size
   have al:Y (PRulesRow wN ad.heap.size (.slice r1 nw.rules.length r2) nw.rules):=ai
   obtain⟨af,aA,ap,ay,aw⟩:=ak.o
   have ar:=ah.o.safe (l:=phtags) (by decide)
   have am:=J (x6 aA ag ar (by decide))
   have aC:Y (All2 (PHostVal wN) af aa):=ap.map fun a b hab=>hab.keep ag (jV ar)
   have aI:Y (af.Pairwise (fun a b=>∀k,rblk a=some k->rblk b≠some k)):=ay
   have aD:Y (∀a∈af,∀k,rblk a=some k->w.heap.size<=k):=aw
   have aE:Y (∀a∈af,∀k,rblk a=some k->k<ad.heap.size):=zrW ap
   clear IN ag ai aA ap ay aw ar
   go_wp2_with (at_builtin;refine wpList_append_lies _ rfl _ _ 86 rfl (w.heap.size) 146 i0 _ 2 40 Tryz.underlying86 hi aM aN aO rfl (by decide) _ _ _ rfl (qK am.o _) ⟨wN.heap.size,0,none⟩ 1 1 [.string (R.str nw.name),.slice r1 nw.rules.length r2] rfl rfl ?c1 ?c2 (by decide) ?c3 ?c4 ?c5 (wN.heap.size+1) (by simp) ?_)
   case c1=>exact zu _ #[_,_] _ _ (by simp)
   case c2=>intro u hu;simp at hu;rcases hu with rfl | rfl <;> rfl
   case c3=>unfold maxLen;omega
   case c4=>omega
   case c5=>simp;omega
   intro g9 aJ w9 ax aj aU aX
   have gA:wN.grownBy (wN.alloc (.cells #[.string (R.str nw.name),.slice r1 nw.rules.length r2] 146)) none:=zL _ _ _
   have aB:Safe (wN.alloc (.cells #[.string (R.str nw.name),.slice r1 nw.rules.length r2] 146)) (Value.slice la aa.length lc).ownBlock prtags:=xz (qK am.o _) (by decide)
   have an:∀k,(Value.slice la aa.length lc).ownBlock=some k->w.heap.size<=k:=fun k hk=>(zx am.o k hk).1
   have aH:Y (PHosts w9 w.heap.size (.slice (some ⟨g9,0,none⟩) (aa.length+1) aJ) (aa++[nw])):=by
    refine⟨af++[[.string (R.str nw.name),.slice r1 nw.rules.length r2]],?_,?_,?_,?_⟩
    ·rw[zh,yj];exact ax
    ·exact(aC.o.snoc ⟨_,rfl,al.o.base (zo _)⟩).map fun a b hab=>(hab.keep gA (zi _ _)).keep aj aB
    ·rw[List.pairwise_append]
     refine⟨aI.o,List.pairwise_singleton _ _,?_⟩
     intro a ha b hb k hk aL
     simp at hb;subst hb
     have h1:=aE.o a ha k hk
     obtain⟨cr,hr,_⟩:=al.o
     have h2:=(zx hr k aL).1
     omega
    ·intro a ha k hk
     rcases List.mem_append.1 ha with ha | ha
     ·exact aD.o a ha k hk
     ·simp at ha;subst ha
      obtain⟨cr,hr,_⟩:=al.o
      have h2:=(zx hr k hk).1
      omega
   have J9:Y (PInv w9 rb s p2):=(JN.o.keep gA).away aj (fun k hk=>by have h1:=an k hk;omega)
   have C9:Y (w.grownBy w9 (some rb)):=qV (zD CN.o (zb gA _)) aj an
   have aG:Y (atOf w9 rb=p2.tok.at_):=jf J9.o
   have aF:Y (atOf wr rb=p.tok.at_):=jf IR.o
   have aV:=J9.o.bd
   clear ax aj gA aB an
   go_wp2
   go_roundw
   case rel=>exact⟨n,aa++[nw],p2,by rw[zh];simp;omega,by omega,by omega,av,J9,C9,aH⟩
   case measure=>rw[aG.o,aF.o];omega
end Go.Proofs.YtfocdefchbnkpaaGreatDoor
namespace Go.Proofs.YtfocdefchbnkpaaGreatDoor
open Go.RowKit Go.Sort
theorem fO {α : Type} [Inhabited α] (enc : α → List Value) (k : Nat) (hk : ∀ x, (enc x).length = k) (d : List α) (t : Nat) (h : t < d.length * k) : (d.map enc).flatten[t]? = some (enc d[t / k]!)[t % k]! := by
  have k0 : 0 < k := by rcases Nat.eq_zero_or_pos k with h0 | h0; · subst h0; simp at h
                        · exact h0
  induction d generalizing t with
  | nil => simp at h
  | cons x d ih =>
    rw [xl, zf7]
    by_cases ht : t < k
    · rw [List.getElem?_append_left (by rw [hk]; exact ht), Nat.div_eq_of_lt ht, Nat.mod_eq_of_lt ht]
      rw [xo (by rw [hk]; exact ht)]
      congr 1
      rw [getElem!_pos _ t (by rw [List.getElem!_cons_zero, hk]; exact ht)]
      rfl
    · obtain ⟨u, rfl⟩ : ∃ u, t = u + k := ⟨t - k, by omega⟩
      rw [List.getElem?_append_right (by rw [hk]; omega), hk, Nat.add_sub_cancel, ih u (by simp [Nat.add_mul] at h; omega), Nat.add_div_right _ k0, Nat.add_mod_right]
      rfl
theorem zl8 {α:Type} [Inhabited α] (enc:α->List Value)(k:Nat)(hk:∀x,(enc x).length=k)(d:List α):(flatK enc k d.toArray).toList=(d.map enc).flatten:=by
 apply List.ext_getElem?
 intro t
 by_cases h:t<d.length*k
 ·rw[fO enc k hk d t h]
  have h1:=get_flatK enc k d.toArray t (by simpa using h)
  rw[getElem!_pos _ t (by simpa using h)] at h1
  rw[Array.getElem?_toList,Array.getElem?_eq_getElem (by simpa using h),h1]
  simp
 ·rw[List.getElem?_eq_none (by simp;omega),List.getElem?_eq_none]
  have:(d.map enc).flatten.length=d.length*k:=by
   clear h
   induction d with
   | nil=>simp
   | cons x d ih=>rw[xl,zf7,zh,ih,hk,zoF,Nat.add_mul];omega
  omega
theorem zhR {α:Type}(enc:α->List Value)(k:Nat)(hk:∀x,(enc x).length=k)(d:List α):(d.map enc).flatten.length=d.length*k:=by
 induction d with
 | nil=>simp
 | cons x d ih=>rw[xl,zf7,zh,ih,hk,zoF,Nat.add_mul];omega
theorem tY {α:Type} [Inhabited α] {w:World}{B g ab:Nat}{e:TypeId}(enc:α->List Value)(k:Nat)(hk:∀x,(enc x).length=k)(d:List α)
  (h:w.ownsRow B e k (.slice (some ⟨g,0,none⟩) d.length ab) d.length (d.map enc).flatten):HoldsK enc k w g 0 d.toArray:=by
 intro j hj
 have aa:j<d.length*k:=by simpa using hj
 rw[Nat.zero_add]
 refine⟨?_,?_⟩
 ·rw[qR h j aa,fO enc k hk d j aa,get_flatK enc k d.toArray j (by simpa using aa)]
  simp
 ·rcases h.2 with ⟨h1,_⟩ | ⟨g',c',cur,h1,_,h2,_⟩
  ·cases h1
  ·simp only[qQ,Option.some.injEq,Addr.mk.injEq] at h1
   obtain⟨⟨rfl,_⟩,_,rfl⟩:=h1
   exact zH h2
theorem zb4 {α:Type} [Inhabited α] (enc:α->List Value)(k:Nat)(w:World)(g m:Nat)(d:Array α)(os:Array Obj):w.grownBy (sortWorldK enc k w g 0 m d os) (some g):=by
 refine⟨rfl,rfl,rfl,?_,?_⟩
 ·simp[sortWorldK,grow,putRowK,putRow,mapBlock,Go.Sort.ahead]
 ·intro j hj aa
  have ab:g≠j:=fun h=>aa (by rw[h])
  simp only[sortWorldK,grow,putRowK,putRow,mapBlock,Go.Sort.ahead]
  rw[Array.getElem?_append_left (by simpa using hj),Array.getElem?_modify,if_neg ab]
theorem zqY (F aa:Array Value)(h:F.size<=aa.size):((putCells id 0 F aa).toList.take F.size)=F.toList:=by
 apply List.ext_getElem?
 intro t
 rw[List.getElem?_take]
 by_cases ht:t<F.size
 ·rw[if_pos ht]
  simp only[putCells,Array.getElem?_toList,Array.getElem?_mapIdx]
  rw[Array.getElem?_eq_getElem (by omega),Array.getElem?_eq_getElem ht]
  simp[ht]
 ·rw[if_neg ht,List.getElem?_eq_none (by simpa using ht)]
theorem zcY {α:Type} [Inhabited α] {w:World}{B g aa:Nat}{e:TypeId}(enc:α->List Value)(k:Nat)(hk:∀x,(enc x).length=k)(d d':List α)(hd:d'.length=d.length)(m:Nat)(os:Array Obj)
  (h:w.ownsRow B e k (.slice (some ⟨g,0,none⟩) d.length aa) d.length (d.map enc).flatten) :
  (sortWorldK enc k w g 0 m d'.toArray os).ownsRow B e k (.slice (some ⟨g,0,none⟩) d.length aa) d.length (d'.map enc).flatten:=by
 rcases h.2 with ⟨h1,_⟩ | ⟨g',c',cur,h1,hB,h2,h3,h4,h5,h6⟩
 ·cases h1
 ·simp only[qQ,Option.some.injEq,Addr.mk.injEq] at h1
  obtain⟨⟨rfl,_⟩,_,rfl⟩:=h1
  refine⟨by rw[zhR enc k hk,hd],Or.inr ⟨g,aa,putCells id 0 (flatK enc k d'.toArray) cur,rfl,hB,?_,h3,h4,by simp[putCells,h5],?_⟩⟩
  ·have hl:=zI h2
   simp only[sortWorldK,grow,putRowK,putRow,mapBlock,Go.Sort.ahead]
   rw[Array.getElem?_append_left (by simpa using hl),Array.getElem?_modify,if_pos rfl,h2]
   rfl
  ·have:=zqY (flatK enc k d'.toArray) cur (by simp;rw[hd,h5];exact Nat.mul_le_mul_right _ h3)
   rw[zl8 enc k hk d'] at this
   rw[<-this];simp[hd]
end Go.Proofs.YtfocdefchbnkpaaGreatDoor
namespace Go.Proofs
open Go.Shelf Go.RowKit Go.Lib Go.Sort
def Tryz.sortHost_ren : Go.Shelf.Ren := ⟨fun | 6 => 150 | 15 => 210 | 14 => 209 | 28 => 284 | 29 => 285 | 20 => 276 | 21 => 277 | 22 => 278 | 23 => 279 | 24 => 280 | 25 => 281 | 26 => 282 | 27 => 283 | 46 => 337 | 47 => 338 | 48 => 339 | 49 => 340 | 50 => 341 | 57 => 385 | n => n, fun | 22 => 86 | 24 => 146 | 25 => 266 | 3 => 3 | 39 => 220 | 0 => 0 | 53 => 152 | 55 => 60 | 4 => 4 | 46 => 373 | 45 => 372 | 50 => 377 | 5 => 5 | 9 => 9 | 66 => 408 | 70 => 411 | 76 => 437 | 77 => 132 | n => n, fun | n => n⟩
theorem Tryz.sortHost : Go.Proofs.SlLaysF0.n6 Tryz.prog Tryz.sortHost_ren := {
  mixed := by kernel_rfl
  f6 := ⟨Tryz.f150.name, by decide, Tryz.func150.trans (congrArg some (by kernel_rfl))⟩
  f14 := ⟨Tryz.f209.name, by decide, Tryz.func209.trans (congrArg some (by kernel_rfl))⟩
  f15 := Tryz.func210.trans (congrArg some (by kernel_rfl))
  f20 := ⟨Tryz.f276.name, by decide, Tryz.func276.trans (congrArg some (by kernel_rfl))⟩
  f21 := ⟨Tryz.f277.name, by decide, Tryz.func277.trans (congrArg some (by kernel_rfl))⟩
  f22 := ⟨Tryz.f278.name, by decide, Tryz.func278.trans (congrArg some (by kernel_rfl))⟩
  f23 := ⟨Tryz.f279.name, by decide, Tryz.func279.trans (congrArg some (by kernel_rfl))⟩
  f24 := ⟨Tryz.f280.name, by decide, Tryz.func280.trans (congrArg some (by kernel_rfl))⟩
  f25 := ⟨Tryz.f281.name, by decide, Tryz.func281.trans (congrArg some (by kernel_rfl))⟩
  f26 := ⟨Tryz.f282.name, by decide, Tryz.func282.trans (congrArg some (by kernel_rfl))⟩
  f27 := ⟨Tryz.f283.name, by decide, Tryz.func283.trans (congrArg some (by kernel_rfl))⟩
  f28 := Tryz.func284.trans (congrArg some (by kernel_rfl))
  f29 := Tryz.func285.trans (congrArg some (by kernel_rfl))
  f46 := ⟨Tryz.f337.name, by decide, Tryz.func337.trans (congrArg some (by kernel_rfl))⟩
  f47 := Tryz.func338.trans (congrArg some (by kernel_rfl))
  f48 := Tryz.func339.trans (congrArg some (by kernel_rfl))
  f49 := ⟨Tryz.f340.name, by decide, Tryz.func340.trans (congrArg some (by kernel_rfl))⟩
  f50 := ⟨Tryz.f341.name, by decide, Tryz.func341.trans (congrArg some (by kernel_rfl))⟩
  f57 := ⟨Tryz.f385.name, by decide, Tryz.func385.trans (congrArg some (by kernel_rfl))⟩
  t0 := Tryz.underlying0
  a0 := Tryz.isAgg0
  z0 := Tryz.sizeOf0
  v0 := Tryz.zeroValue0
  t3 := Tryz.underlying3
  a3 := Tryz.isAgg3
  z3 := Tryz.sizeOf3
  v3 := Tryz.zeroValue3
  t4 := Tryz.underlying4
  a4 := Tryz.isAgg4
  z4 := Tryz.sizeOf4
  v4 := Tryz.zeroValue4
  t5 := Tryz.underlying5
  a5 := Tryz.isAgg5
  z5 := Tryz.sizeOf5
  v5 := Tryz.zeroValue5
  t9 := Tryz.underlying9
  a9 := Tryz.isAgg9
  z9 := Tryz.sizeOf9
  v9 := Tryz.zeroValue9
  t22 := Tryz.underlying86
  a22 := Tryz.isAgg86
  z22 := Tryz.sizeOf86
  v22 := Tryz.zeroValue86
  t25 := Tryz.underlying266
  a25 := Tryz.isAgg266
  z25 := Tryz.sizeOf266
  v25 := Tryz.zeroValue266
  t39 := Tryz.underlying220
  a39 := Tryz.isAgg220
  z39 := Tryz.sizeOf220
  v39 := Tryz.zeroValue220
  t45 := Tryz.underlying372
  a45 := Tryz.isAgg372
  z45 := Tryz.sizeOf372
  v45 := Tryz.zeroValue372
  t46 := Tryz.underlying373
  a46 := Tryz.isAgg373
  z46 := Tryz.sizeOf373
  v46 := Tryz.zeroValue373
  t50 := Tryz.underlying377
  a50 := Tryz.isAgg377
  z50 := Tryz.sizeOf377
  v50 := Tryz.zeroValue377
  t53 := Tryz.underlying152
  a53 := Tryz.isAgg152
  z53 := Tryz.sizeOf152
  v53 := Tryz.zeroValue152
  t55 := Tryz.underlying60
  a55 := Tryz.isAgg60
  z55 := Tryz.sizeOf60
  v55 := Tryz.zeroValue60
  t66 := Tryz.underlying408
  a66 := Tryz.isAgg408
  z66 := Tryz.sizeOf408
  v66 := Tryz.zeroValue408
  t70 := Tryz.underlying411
  a70 := Tryz.isAgg411
  z70 := Tryz.sizeOf411
  v70 := Tryz.zeroValue411
  t76 := Tryz.underlying437
  a76 := Tryz.isAgg437
  z76 := Tryz.sizeOf437
  v76 := Tryz.zeroValue437
  t77 := Tryz.underlying132
  a77 := Tryz.isAgg132
  z77 := Tryz.sizeOf132
  v77 := Tryz.zeroValue132 }
def Tryz.sortRule_ren : Go.Shelf.Ren := ⟨fun | 6 => 153 | 15 => 210 | 14 => 212 | 28 => 284 | 29 => 285 | 20 => 286 | 21 => 287 | 22 => 288 | 23 => 289 | 24 => 290 | 25 => 291 | 26 => 292 | 27 => 293 | 46 => 342 | 47 => 338 | 48 => 339 | 49 => 343 | 50 => 344 | 57 => 386 | n => n, fun | 22 => 144 | 24 => 213 | 25 => 268 | 3 => 3 | 39 => 220 | 0 => 0 | 53 => 152 | 55 => 60 | 4 => 4 | 46 => 373 | 45 => 372 | 50 => 377 | 5 => 5 | 9 => 9 | 66 => 408 | 70 => 411 | 76 => 437 | 77 => 132 | n => n, fun | n => n⟩
theorem Tryz.sortRule : Go.Proofs.SlLaysF0.n6 Tryz.prog Tryz.sortRule_ren := {
  mixed := by kernel_rfl
  f6 := ⟨Tryz.f153.name, by decide, Tryz.func153.trans (congrArg some (by kernel_rfl))⟩
  f14 := ⟨Tryz.f212.name, by decide, Tryz.func212.trans (congrArg some (by kernel_rfl))⟩
  f15 := Tryz.func210.trans (congrArg some (by kernel_rfl))
  f20 := ⟨Tryz.f286.name, by decide, Tryz.func286.trans (congrArg some (by kernel_rfl))⟩
  f21 := ⟨Tryz.f287.name, by decide, Tryz.func287.trans (congrArg some (by kernel_rfl))⟩
  f22 := ⟨Tryz.f288.name, by decide, Tryz.func288.trans (congrArg some (by kernel_rfl))⟩
  f23 := ⟨Tryz.f289.name, by decide, Tryz.func289.trans (congrArg some (by kernel_rfl))⟩
  f24 := ⟨Tryz.f290.name, by decide, Tryz.func290.trans (congrArg some (by kernel_rfl))⟩
  f25 := ⟨Tryz.f291.name, by decide, Tryz.func291.trans (congrArg some (by kernel_rfl))⟩
  f26 := ⟨Tryz.f292.name, by decide, Tryz.func292.trans (congrArg some (by kernel_rfl))⟩
  f27 := ⟨Tryz.f293.name, by decide, Tryz.func293.trans (congrArg some (by kernel_rfl))⟩
  f28 := Tryz.func284.trans (congrArg some (by kernel_rfl))
  f29 := Tryz.func285.trans (congrArg some (by kernel_rfl))
  f46 := ⟨Tryz.f342.name, by decide, Tryz.func342.trans (congrArg some (by kernel_rfl))⟩
  f47 := Tryz.func338.trans (congrArg some (by kernel_rfl))
  f48 := Tryz.func339.trans (congrArg some (by kernel_rfl))
  f49 := ⟨Tryz.f343.name, by decide, Tryz.func343.trans (congrArg some (by kernel_rfl))⟩
  f50 := ⟨Tryz.f344.name, by decide, Tryz.func344.trans (congrArg some (by kernel_rfl))⟩
  f57 := ⟨Tryz.f386.name, by decide, Tryz.func386.trans (congrArg some (by kernel_rfl))⟩
  t0 := Tryz.underlying0
  a0 := Tryz.isAgg0
  z0 := Tryz.sizeOf0
  v0 := Tryz.zeroValue0
  t3 := Tryz.underlying3
  a3 := Tryz.isAgg3
  z3 := Tryz.sizeOf3
  v3 := Tryz.zeroValue3
  t4 := Tryz.underlying4
  a4 := Tryz.isAgg4
  z4 := Tryz.sizeOf4
  v4 := Tryz.zeroValue4
  t5 := Tryz.underlying5
  a5 := Tryz.isAgg5
  z5 := Tryz.sizeOf5
  v5 := Tryz.zeroValue5
  t9 := Tryz.underlying9
  a9 := Tryz.isAgg9
  z9 := Tryz.sizeOf9
  v9 := Tryz.zeroValue9
  t22 := Tryz.underlying144
  a22 := Tryz.isAgg144
  z22 := Tryz.sizeOf144
  v22 := Tryz.zeroValue144
  t25 := Tryz.underlying268
  a25 := Tryz.isAgg268
  z25 := Tryz.sizeOf268
  v25 := Tryz.zeroValue268
  t39 := Tryz.underlying220
  a39 := Tryz.isAgg220
  z39 := Tryz.sizeOf220
  v39 := Tryz.zeroValue220
  t45 := Tryz.underlying372
  a45 := Tryz.isAgg372
  z45 := Tryz.sizeOf372
  v45 := Tryz.zeroValue372
  t46 := Tryz.underlying373
  a46 := Tryz.isAgg373
  z46 := Tryz.sizeOf373
  v46 := Tryz.zeroValue373
  t50 := Tryz.underlying377
  a50 := Tryz.isAgg377
  z50 := Tryz.sizeOf377
  v50 := Tryz.zeroValue377
  t53 := Tryz.underlying152
  a53 := Tryz.isAgg152
  z53 := Tryz.sizeOf152
  v53 := Tryz.zeroValue152
  t55 := Tryz.underlying60
  a55 := Tryz.isAgg60
  z55 := Tryz.sizeOf60
  v55 := Tryz.zeroValue60
  t66 := Tryz.underlying408
  a66 := Tryz.isAgg408
  z66 := Tryz.sizeOf408
  v66 := Tryz.zeroValue408
  t70 := Tryz.underlying411
  a70 := Tryz.isAgg411
  z70 := Tryz.sizeOf411
  v70 := Tryz.zeroValue411
  t76 := Tryz.underlying437
  a76 := Tryz.isAgg437
  z76 := Tryz.sizeOf437
  v76 := Tryz.zeroValue437
  t77 := Tryz.underlying132
  a77 := Tryz.isAgg132
  z77 := Tryz.sizeOf132
  v77 := Tryz.zeroValue132 }
def Tryz.bitsLen_ren : Go.Shelf.Ren := ⟨fun | 125 => 210 | 128 => 284 | 129 => 285 | n => n, fun | 46 => 220 | 3 => 3 | 51 => 152 | 53 => 60 | 4 => 4 | 5 => 5 | 9 => 9 | n => n, fun | n => n⟩
theorem Tryz.bitsLen : Go.Proofs.Lays.n125 Tryz.prog Tryz.bitsLen_ren := {
  mixed := by kernel_rfl
  f125 := Tryz.func210.trans (congrArg some (by kernel_rfl))
  f128 := Tryz.func284.trans (congrArg some (by kernel_rfl))
  f129 := Tryz.func285.trans (congrArg some (by kernel_rfl))
  t3 := Tryz.underlying3
  a3 := Tryz.isAgg3
  z3 := Tryz.sizeOf3
  v3 := Tryz.zeroValue3
  t4 := Tryz.underlying4
  a4 := Tryz.isAgg4
  z4 := Tryz.sizeOf4
  v4 := Tryz.zeroValue4
  t5 := Tryz.underlying5
  a5 := Tryz.isAgg5
  z5 := Tryz.sizeOf5
  v5 := Tryz.zeroValue5
  t9 := Tryz.underlying9
  a9 := Tryz.isAgg9
  z9 := Tryz.sizeOf9
  v9 := Tryz.zeroValue9
  t46 := Tryz.underlying220
  a46 := Tryz.isAgg220
  z46 := Tryz.sizeOf220
  v46 := Tryz.zeroValue220
  t51 := Tryz.underlying152
  a51 := Tryz.isAgg152
  z51 := Tryz.sizeOf152
  v51 := Tryz.zeroValue152
  t53 := Tryz.underlying60
  a53 := Tryz.isAgg60
  z53 := Tryz.sizeOf60
  v53 := Tryz.zeroValue60 }
theorem Tryz.hlen (n : Nat) (W : World) (h : n ≤ 12) : Calls Tryz.prog 210 #[.int .u64 n] W fun e w' => (∃ l : Int, e = .returned (.int .i64 l)) ∧ w' = W :=
  (Any.bits_Len Tryz.bitsLen n W (by omega) (by omega)).mono fun _ _ ⟨he, hw⟩ => ⟨⟨_, he⟩, hw⟩
end Go.Proofs
namespace Go.Proofs.YtfocdefchbnkpaaGreatDoor
open Go.RowKit
theorem zm8:(Tryz.prog.info? 126).map (fun i=>(i.zero,i.size,i.bytes))=some (some (.agg #[.int .i64 0,.string ⟨#[]⟩,.slice none 0 0,.slice none 0 0,.bool false,.string ⟨#[]⟩,.slice none 0 0,.slice none 0 0]),8,144):=by kernel_rfl
theorem zmC:(Tryz.prog.info? 119).map (fun i=>(i.zero,i.size,i.bytes))=some (some (.agg #[.string ⟨#[]⟩,.slice none 0 0]),2,40):=by kernel_rfl
theorem zpH {w w':World}{rb B:Nat}(h:w.grownBy w' (some rb))(hB:B<=rb):B<=w.heap.size->Below B w w':=fun hs=>
 ⟨h.os,h.tape,h.output,h.size,fun k hk=>h.block k (by omega) (by simp;omega)⟩
theorem zpV {w:World}{rb g ag B:Nat}{ts:List R.Tok}{st:R.St}{H:Value}(h:RInv w rb g ag ts st H)(hs:List R.Hst)(hH:HostsRow w B H hs)(hB:B<=rb)(cB:hs.length<=4000) :
  Calls Tryz.prog 52 #[.pointer (some ⟨rb,0,none⟩)] w fun e w'=>e = .returned (.tuple #[])/\Below B w w'/\∃H',RInv w' rb g ag ts (R.hostS ts st (hs.map R.Hst.name)).2 H'/\HostsRow w' B H' (hs++[(R.hostS ts st (hs.map R.Hst.name)).1]):=by
 obtain⟨i0,hi,cd,ce,cf⟩:=info_parts zm8
 obtain⟨i1,hj,b8,ca,cb⟩:=info_parts zmC
 have HP:Y (R.hostS ts st (hs.map R.Hst.name)=R.hsB ts (R.hsA ts st (hs.map R.Hst.name))):=rfl
 have aG:Y (R.hsA ts st (hs.map R.Hst.name)=R.hsA2 ts (R.notS (R.needS ts st R.wHost) (decide (((hs.map R.Hst.name).length:Int)<4)) 3 (R.cur ts st).at_) (hs.map R.Hst.name)):=rfl
 rw[xW] at aG
 have HH:Y _:=hH
 obtain⟨al,aV,bm⟩:=hH
 have an:Y _:=aV
 have a5:Y _:=bm
 obtain⟨ha,hc,rfl⟩:=zO aV
 have H0:Y _:=h
 have cn:=zI h.rd
 have cA:g<w.heap.size:=h.gl
 generalize R.hostS ts st (hs.map R.Hst.name)=r at*
 clear h aV bm
 go_enter Tryz.func52,Tryz.ntmps52
 have C0:Y (w.grownBy w (some rb)):=ze _ _
 go_wp2_with fail
 refine(xK H0.o _).mono ?_
 rintro e w1 ⟨rfl,I1,aP⟩
 have J1:Y _:=I1
 have b1:=zI J1.o.rd
 have s1:w.heap.size+0<=w1.heap.size:=by have h:=aP.size;simpa using h
 have G1:Y (w.grownBy w1 (some rb)):=aP
 have C1:=J (zD C0.o G1.o)
 have z1:=C1.o.size
 clear aP I1
 have c5:w1.cell? ⟨rb,5,none⟩=some (.slice ha hs.length hc):=zB J1.o.rd
 go_wp2
 go_cut [] from 11 to 19 (fun wx=>Y (RInv wx rb g ag ts (R.notS (R.needS ts st R.wHost) (decide ((hs.length:Int)<4)) 3 (R.cur ts st).at_) (.slice ha hs.length hc))/\Y (w.grownBy wx (some rb)))
 case first=>
  go_region_with (go_at_call 85;refine(j8 ((J1.o.keep (zL _ _ _)).keep (zg _)) _ _ _ _ _).mono ?_;rintro e w2 ⟨rfl,I2,bq⟩)
  all_goals
   have J2:Y _:=I2
   have C2:Y (w.grownBy w2 (some rb)):=zD C1.o (zD (zL _ _ _) (zD (zb (zg _) _) bq))
   clear I2 bq
   go_wp2_with fail
   go_meet
   case rel=>exact⟨J2,C2⟩
 case rest=>
  obtain⟨J2,C2⟩:=hcut
  have cr:=zI J2.o.rd
  have dj:=C2.o.size
  generalize R.notS (R.needS ts st R.wHost) (decide ((hs.length:Int)<4)) 3 (R.cur ts st).at_=s2 at*
  have a4:Y (R.hsA2 ts s2 (hs.map R.Hst.name)=(R.lower (R.cur ts s2).s,R.among (hs.map R.Hst.name) (R.lower (R.cur ts s2).s) (R.cur ts s2).at_ (R.notS (R.kindS ts s2 34) (R.named (R.cur ts s2).s true) 4 (R.cur ts s2).at_))):=rfl
  have aL:Y ((R.str (R.cur ts s2).s).size<=3000):=J2.o.curlen
  have bS:Y ((R.str (R.cur ts s2).s).size<=maxLen):=by have:=aL.o;show _<=_;unfold maxLen;omega
  have bR:Y ((R.str (R.cur ts s2).s).size<=100000):=by have:=aL.o;show _<=_;omega
  go_wp2_with fail
  refine(vu J2.o 34 (by decide) (by decide)).mono ?_
  rintro e ah ⟨rfl,bd,aQ⟩
  have bh:Y _:=bd
  have cj:=zI bh.o.rd
  have cZ:wc.heap.size+0<=ah.heap.size:=by have h:=aQ.size;simpa using h
  have bC:Y (wc.grownBy ah (some rb)):=aQ
  have aX:=J (zD C2.o bC.o)
  have dc:=aX.o.size
  clear aQ bd
  go_wp2_with fail
  refine(zeZ _ _ _ bS.o).mono ?_
  rintro e wX ⟨rfl,bx⟩
  rw[bx]
  clear bx wX
  rw[R.str_toList]
  go_wp2_with fail
  refine(j8 (bh.o.keep (zL _ _ _)) _ _ _ _ _).mono ?_
  rintro e av ⟨rfl,be,aB⟩
  have bi:Y _:=be
  have ck:=zI bi.o.rd
  have c0:ah.heap.size+1<=av.heap.size:=by have h:=aB.size;simpa using h
  have bD:Y (ah.grownBy av (some rb)):=(zD (zL _ _ _) aB)
  have aY:=J (zD aX.o bD.o)
  have dd:=aY.o.size
  have ar:Y (av.heap[ah.heap.size]?=some (.cells #[.int .u8 (R.cur ts s2).k,.string (R.str (R.cur ts s2).s),.int .i64 (R.cur ts s2).at_] 115)):=qz aB (by simp;omega)
  clear aB be
  have cN:=zI ar.o
  have cK:=ztW ar.o
  have cL:=zuA ar.o
  have cM:=ztX ar.o
  go_wp2_with fail
  refine(za3 _ _ bR.o).mono ?_
  rintro e ab ⟨rfl,bo⟩
  have aN:=qJ bo
  have aR:=zb aN (some rb)
  have bj:Y _:=(bi.o).keep aN
  have cl:=zI bj.o.rd
  have c6:av.heap.size+0<=ab.heap.size:=by have h:=aR.size;simpa using h
  have a2:Y (av.grownBy ab (some rb)):=aR
  have aZ:=J (zD aY.o a2.o)
  have de:=aZ.o.size
  have b2:=J (zF ar.o a2.o (by simp;omega))
  clear aR aN bo
  rw[R.str_toList]
  generalize R.notS (R.kindS ts s2 34) (R.named (R.cur ts s2).s true) 4 (R.cur ts s2).at_=s4 at*
  have cC:(R.str (R.lower (R.cur ts s2).s)).size<=3000:=by rw[R.str_size,vW];exact aL.o
  generalize R.lower (R.cur ts s2).s=lo at*
  generalize R.cur ts s2=t at*
  go_wp2_with fail
  have bW:Y _:=bj.o.keep (zL ab (.cells #[.string (R.str lo),.slice none 0 0] 119) none)
  have a0:Y (w.grownBy (World.alloc ab (.cells #[.string (R.str lo),.slice none 0 0] 119)) (some rb)):=zD aZ.o (zL ab (.cells #[.string (R.str lo),.slice none 0 0] 119) _)
  have b3:=J (zF b2.o (zL ab (.cells #[.string (R.str lo),.slice none 0 0] 119) none) (by simp))
  have bI:Y ((World.alloc ab (.cells #[.string (R.str lo),.slice none 0 0] 119)).heap[ab.heap.size]?=some (.cells #[.string (R.str lo),.slice none 0 0] 119)):=heap_alloc_new _ _
  have c7:ab.heap.size+1<=(World.alloc ab (.cells #[.string (R.str lo),.slice none 0 0] 119)).heap.size:=by simp
  have db:(World.alloc ab (.cells #[.string (R.str lo),.slice none 0 0] 119)).heap.size<=ab.heap.size+1:=by simp
  generalize(World.alloc ab (.cells #[.string (R.str lo),.slice none 0 0] 119))=wk4 at*
  have cm:rb<wk4.heap.size:=by omega
  have df:=a0.o.size
  go_loopw [6] (fun iv wr=>∃k:Nat,k<=hs.length/\iv = .int .i64 k/\Y (RInv wr rb g ag ts (R.among ((hs.map R.Hst.name).take k) lo t.at_ s4) (.slice ha hs.length hc))/\Y (wk4.grownBy wr (some rb))) (fun iv _=>hs.length - (intOf iv).toNat)
  case atStart=>exact⟨0,zo _,rfl,bW,ze _ _⟩
  case round=>
   obtain⟨k,hk,rfl,IR,HR⟩:=hrel
   have ct:=zI IR.o.rd
   have cY:=HR.o.size
   have d5:wr.cell? ⟨rb,5,none⟩=some (.slice ha hs.length hc):=zB IR.o.rd
   have CR:=J (zD a0.o HR.o)
   have dk:=CR.o.size
   have aH:Y _:=zF bI.o HR.o (by simp;omega)
   have cw:=zI aH.o
   by_cases bt:k<hs.length
   ·obtain⟨gh,gc,bs,_,_⟩:=World.ownsRow.form an.o (by omega)
    simp only[qQ] at bs
    obtain⟨rfl,_,rfl⟩:=bs
    have c1:wr.cell? ⟨gh,k*2,none⟩=some (.string (R.str hs[k].name)):=by
     have bp:=qR an.o (k*2) (by omega)
     rw[kn a5.o k bt] at bp
     exact CR.o.cell bp (by simpa using zW H0.o.rd an.o (by decide) gh rfl)
    have n3:=zF b3.o HR.o (by simp;omega)
    have cG:wr.cell? ⟨ah.heap.size,0,none⟩=some (.int .u8 t.k):=zB n3
    have cH:wr.cell? ⟨ah.heap.size,1,none⟩=some (.string (R.str t.s)):=zB n3
    have cI:wr.cell? ⟨ah.heap.size,2,none⟩=some (.int .i64 t.at_):=zB n3
    have cJ:wr.cell? ⟨ab.heap.size,0,none⟩=some (.string (R.str lo)):=zB aH.o
    clear n3
    have hq:((R.str hs[k].name).toList == (R.str lo).toList)=decide (hs[k].name=lo):=by
     rw[toLs,ByteArray.toList_eq,R.str_toList]
    have HA:Y (R.among ((hs.map R.Hst.name).take (k+1)) lo t.at_ s4=R.notS (R.among ((hs.map R.Hst.name).take k) lo t.at_ s4) (!decide (hs[k].name=lo)) 5 t.at_):=by
     show R.among _ _ _ _=_
     unfold R.among;rw[uo (by rw[xW];exact bt),List.foldl_append,List.getElem_map,<-decide_not];rfl
    generalize decide (hs[k].name=lo)=bb at*
    generalize R.str hs[k].name=lk at*
    generalize R.among ((hs.map R.Hst.name).take k) lo t.at_ s4=stk at*
    go_wp2
    go_region_with (go_at_call 85;refine(j8 (IR.o.keep (zg wr)) _ _ _ _ _).mono ?_;rintro e wN ⟨rfl,IN,br⟩)
    all_goals
     have JN:Y (RInv wN rb g ag ts (R.among ((hs.map R.Hst.name).take (k+1)) lo t.at_ s4) (.slice (some ⟨gh,0,none⟩) hs.length hc)):=by rw[HA.o];exact IN
     have GN:Y (wk4.grownBy wN (some rb)):=zD HR.o (zD (zb (zg wr) _) br)
     clear IN br
     go_wp2
     exact⟨⟨k+1,by omega,by go_num,JN,GN⟩,by simp[intOf];omega⟩
   ·rw[tW (by rw[xW];omega)] at IR
    have a7:Y (r=R.hsB ts (lo,R.among (hs.map R.Hst.name) lo t.at_ s4)):=by rw[<-a4.o,<-aG.o];exact HP.o
    generalize R.among (hs.map R.Hst.name) lo t.at_ s4=sA at*
    go_wp2_with fail
    refine(xK IR.o _).mono ?_
    rintro e aW ⟨rfl,bg,aU⟩
    have bk:Y _:=bg
    have cq:=zI bk.o.rd
    have da:wr.heap.size+0<=aW.heap.size:=by have h:=aU.size;simpa using h
    have a3:Y (wr.grownBy aW (some rb)):=aU
    have a1:=J (zD CR.o a3.o)
    have di:=a1.o.size
    have bJ:=J (zF aH.o a3.o (by simp;omega))
    clear aU bg
    have JB:Y (RInv aW rb g ag ts (R.needS ts sA [123]) (.slice ha hs.length hc)):=bk
    have aK:Y (r=(⟨lo,(R.rlLoop ts (ts.length+1) (R.needS ts sA [123]) []).1⟩,R.needS ts (R.rlLoop ts (ts.length+1) (R.needS ts sA [123]) []).2 [125])):=a7.o
    clear a7 HP aG a4 J2 J1
    generalize R.needS ts sA [123]=sB at*
    generalize hq:R.rlLoop ts (ts.length+1) sB []=q at*
    have HQ:Y _:=hq
    clear hq
    have cz:ab.heap.size<w.heap.size+0\/w.heap.size<=ab.heap.size:=by omega
    go_wp2_with fail
    go_loopw [7] (fun iv wz=>∃(n:Nat) (aa:List R.Rl) (s:R.St) (vR:Value),iv = .int .i64 aa.length/\aa.length<=s.K/\s.K<ts.length/\ts.length<n+s.K/\Y (R.rlLoop ts n s aa=q)/\Y (RInv wz rb g ag ts s (.slice ha hs.length hc))/\Y (w.grownBy wz (some rb))/\Y (wz.heap[ab.heap.size]?=some (.cells #[.string (R.str lo),vR] 119))/\Y (RulesRowB wz w.heap.size vR aa)) (fun iv _=>ts.length+1 - (intOf iv).toNat)
    case atStart=>exact⟨ts.length+1,[],sB,_,rfl,zo _,JB.o.lt,by omega,HQ.o,JB,a1,bJ,⟨[],xd _ _ _ _,.nil⟩⟩
    case round=>
     obtain⟨n,aa,s,vR,rfl,cy,cx,hn,HL,ap,a8,bG,a9⟩:=hrel
     have bz:=zI ap.o.rd
     have zz:=a8.o.size
     have cD:=ap.o.ok.len
     obtain⟨n,rfl⟩:∃m,n=m+1:=⟨n - 1,by omega⟩
     have af:=HL.o
     rw[R.rlLoop] at af
     have bc:Y (∃al:List (List Value),wr.ownsRow w.heap.size 126 8 vR aa.length al.flatten/\All2 (RuleVal wr) al aa):=a9.o
     obtain⟨ra,rc,rfl⟩:=zO bc.o.choose_spec.1
     clear bc
     have bK:Y _:=bG.o
     go_wp2_with fail
     refine(ky ap.o _).mono ?_
     rintro e aw ⟨rfl,aO⟩
     have aS:=zb aO (some rb)
     have aq:Y _:=(ap.o).keep aO
     have co:=zI aq.o.rd
     have c8:wr.heap.size+0<=aw.heap.size:=by have h:=aS.size;simpa using h
     have aE:Y (wr.grownBy aw (some rb)):=aS
     have aD:=J (zD a8.o aE.o)
     have dg:=aD.o.size
     have am:=J (zF bK.o aE.o (by simp;omega))
     clear aS aO
     have aA:Y _:=RulesRowB.keep a9.o aE.o (xY ap.o.rd (by decide))
     rw[show(⟨#[114,117,108,101]⟩:ByteArray).data.toList=xH from rfl]
     cases hgo:R.isB s (R.cur ts s) xH
     ·rw[if_neg (by rw[hgo];simp)] at af
      have bL:Y (q.1=aa):=by rw[<-af];rfl
      have bM:Y (q.2=s):=by rw[<-af];rfl
      clear af HL
      rw[bL.o,bM.o] at aK
      go_wp2_with fail
      refine(xK aq.o _).mono ?_
      rintro e ad ⟨rfl,bf,aT⟩
      have az:Y _:=bf
      have cp:=zI az.o.rd
      have c9:aw.heap.size+0<=ad.heap.size:=by have h:=aT.size;simpa using h
      have aF:Y (aw.grownBy ad (some rb)):=aT
      have ax:=J (zD aD.o aF.o)
      have dh:=ax.o.size
      have aI:=J (zF am.o aF.o (by simp;omega))
      clear aT bf
      have bX:Y _:=RulesRowB.keep aA.o aF.o (xY aq.o.rd (by decide))
      have e5:ad.cell? ⟨rb,5,none⟩=some (.slice ha hs.length hc):=zB az.o.rd
      have cv:ad.frozen? ⟨rb,5,none⟩=false:=zH az.o.rd
      have ci:=zI aI.o
      have cg:=zuH aI.o
      have ch:=zuB aI.o
      go_wp2
      have bA:ad.ownsRow B 119 2 (.slice ha hs.length hc) hs.length al.flatten:=zY an.o ax.o (zW H0.o.rd an.o (by decide))
      have bV:Y (All2 (HostVal ad) al hs):=a5.o.map fun a b hab=>hab.keep ax.o (xY H0.o.rd (by decide))
      have gD:ad.grownBy (ad.alloc (.cells #[.string (R.str lo),.slice ra aa.length rc] 119)).drew none:=zD (zL _ _ _) (zg _)
      have ao:Y ((ad.alloc (.cells #[.string (R.str lo),.slice ra aa.length rc] 119)).drew.ownsRow B 119 2 (.slice ha hs.length hc) hs.length al.flatten):=bA.alloc _
      have bP:Y (∀j u,[Value.string (R.str lo),.slice ra aa.length rc][j]?=some u->(ad.alloc (.cells #[.string (R.str lo),.slice ra aa.length rc] 119)).drew.cell? ((⟨ad.heap.size,0,none⟩:Addr).add j)=some u):=zu ad #[_,_] _ _ rfl
      have bE:Y (∀u∈[Value.string (R.str lo),.slice ra aa.length rc],u.oneCell'=true):=by intro u hu;simp at hu;rcases hu with rfl | rfl <;> rfl
      have bO:Y (hs.length+1<=maxLen):=by show _<=_;unfold maxLen;omega
      have a6:Y (B<=(ad.alloc (.cells #[.string (R.str lo),.slice ra aa.length rc] 119)).drew.heap.size):=by show _<=_;rw[show(ad.alloc (.cells #[.string (R.str lo),.slice ra aa.length rc] 119)).drew.heap.size=ad.heap.size+1 from by simp];omega
      have bT:Y ((ad.alloc (.cells #[.string (R.str lo),.slice ra aa.length rc] 119)).drew.heap.size=ad.heap.size+1):=by show _=_;simp
      have JD:Y _:=az.o.keep gD
      have aJ:Y _:=gD
      clear gD bA
      go_region_law (refine step_append_lies _ rfl (.tmp 79) (.tmp 81) 67 rfl B 119 i1 _ 2 40 Tryz.underlying67 hj b8 ca cb rfl (by decide) _ _ _ (by simp[Act.eval]) ao.o ⟨ad.heap.size,0,none⟩ 1 1 [Value.string (R.str lo),.slice ra aa.length rc] (by simp[Act.eval]) rfl bP.o bE.o (by decide) bO.o (by omega) a6.o (ad.heap.size+1) bT.o ?_;intro g9 ak w9 aC ae b6 cc;have K9:Y (RInv w9 rb g ag ts _ (.slice ha hs.length hc)):=JD.o.away ae (fun k hk=>⟨zW JD.o.rd ao.o (by decide) k hk,fun c=>by obtain⟨cu,b7,_⟩:=JD.o.tk;exact zW b7 ao.o (by decide) k hk c⟩);have cE:w9.cell? ⟨rb,5,none⟩=some (.slice ha hs.length hc):=zB K9.o.rd;have cF:w9.frozen? ⟨rb,5,none⟩=false:=zH K9.o.rd)
      all_goals
       go_end0
       have gF:=zG w9 rb 5 (.slice (some ⟨g9,0,none⟩) (hs.length+1) ak)
       have sF:Safe w9 (some rb) htags:=xY K9.o.rd (by decide)
       have sG:Safe (ad.alloc (.cells #[.string (R.str lo),.slice ra aa.length rc] 119)).drew (Value.slice ha hs.length hc).ownBlock rtags:=xz ao.o (by decide)
       have bB:Safe w9 (some rb) rtags:=xY K9.o.rd (by decide)
       refine⟨rfl,?_,.slice (some ⟨g9,0,none⟩) (hs.length+1) ak,?_,?_⟩
       ·exact(((zpH ax.o hB (by omega)).grown aJ.o (by omega) (fun k hk=>by cases hk)).grown ae a6.o (fun k hk=>(zx ao.o k hk).1)).setCell hB _
       ·rw[aK.o];exact K9.o.put gF (zR K9.o.rd _) K9.o.lt
       ·rw[aK.o]
        refine⟨al++[[.string (R.str lo),.slice ra aa.length rc]],?_,?_⟩
        ·rw[zh,yj]
         exact x6 aC gF sF (by decide)
        ·refine All2.snoc (bV.o.map fun a b hab=>((hab.keep aJ.o (zi _ _)).keep ae sG).keep gF bB) ⟨_,rfl,?_⟩
         exact RulesRow.keep (RulesRow.keep (RulesRow.keep (RulesRowB.zero bX.o) aJ.o (zi _ _)) ae sG) gF bB
     ·rw[if_pos (by rw[hgo])] at af
      have b4:=R.ruleS_K ts s aa.length (aa.map R.Rl.number) hgo
      have ci:=zI am.o
      have cg:=zuH am.o
      have ch:=zuB am.o
      have bQ:Y ((Value.slice ra aa.length rc).ownBlock≠some rb):=by
       obtain⟨bl,h2,_⟩:=aA.o
       exact fun c=>by have:=(zx h2 rb c).1;omega
      go_wp2_with fail
      refine(zqT aq.o aa.length (.slice ra aa.length rc) aa (RulesRowB.zero aA.o) (by omega) bQ.o).mono ?_
      rintro e wU ⟨cs,rfl,IU,au,b5⟩
      obtain⟨vM,vT,vS,vD,rfl,hM,hT,hS,hD⟩:=b5
      obtain⟨m1,m2,rfl⟩:=zO hM
      obtain⟨t1,t2,rfl⟩:=zO hT
      obtain⟨x1,x2,rfl⟩:=zO hS
      obtain⟨d1,d2,rfl⟩:=zO hD
      have ba:Y (RuleVal wU _ _):=⟨_,_,_,_,rfl,hM,hT,hS,hD⟩
      clear hM hT hS hD
      generalize R.ruleS ts s aa.length (aa.map R.Rl.number)=pr at*
      obtain⟨rl,sR⟩:=pr
      simp only at af b4 IU ba
      have bN:Y _:=af
      clear af HL
      have JU:Y _:=IU
      have bU:=zI JU.o.rd
      have sU:aw.heap.size<=wU.heap.size:=au.size
      have CU:=J (zD aD.o au)
      have zU:=CU.o.size
      have b0:Y _:=RulesRowB.keep aA.o au (xY aq.o.rd (by decide))
      have aj:=J (zF am.o au (by simp;omega))
      clear IU au
      have cX:=zI aj.o
      have cT:=zuH aj.o
      have cV:=zuG 0 aj.o
      have cU:=zuB aj.o
      have cW:=zuG 1 aj.o
      obtain⟨bl,bu,bn⟩:=b0.o
      have ay:Y _:=bu
      have bF:Y _:=bn
      clear bu bn
      go_wp2_with (at_builtin;refine wpList_append_lies _ rfl _ _ 117 rfl (w.heap.size) 126 i0 _ 8 144 Tryz.underlying117 hi cd ce cf rfl (by decide) _ _ _ rfl (qK (qK ay.o _) _) ⟨wU.heap.size+1,0,none⟩ 1 1 [.int .i64 rl.number,.string (R.str rl.path),.slice m1 rl.ms.length m2,.slice t1 rl.tg.length t2,.bool rl.change,.string (R.str rl.to),.slice x1 rl.sets.length x2,.slice d1 rl.drops.length d2] rfl rfl ?c1 ?c2 (by decide) ?c3 ?c4 ?c5 (wU.heap.size+2) (by simp) ?_)
      case c1=>exact zu _ #[_,_,_,_,_,_,_,_] _ _ (by simp)
      case c2=>intro u hu;simp at hu;rcases hu with rfl | rfl | rfl | rfl | rfl | rfl | rfl | rfl <;> rfl
      case c3=>unfold maxLen;omega
      case c4=>omega
      case c5=>simp;omega
      intro g9 ak w9 aC ae b6 cc
      have bv:=aC
      have gA:wU.grownBy ((wU.alloc (.cells #[.int .i64 rl.number,.string (R.str rl.path),.slice m1 rl.ms.length m2,.slice t1 rl.tg.length t2,.bool rl.change,.string (R.str rl.to),.slice x1 rl.sets.length x2,.slice d1 rl.drops.length d2] 126)).alloc (.cells #[.int .i64 rl.number,.string (R.str rl.path),.slice m1 rl.ms.length m2,.slice t1 rl.tg.length t2,.bool rl.change,.string (R.str rl.to),.slice x1 rl.sets.length x2,.slice d1 rl.drops.length d2] 126)) none:=zD (zL _ _ _) (zL _ _ _)
      have bw:Safe ((wU.alloc (.cells #[.int .i64 rl.number,.string (R.str rl.path),.slice m1 rl.ms.length m2,.slice t1 rl.tg.length t2,.bool rl.change,.string (R.str rl.to),.slice x1 rl.sets.length x2,.slice d1 rl.drops.length d2] 126)).alloc (.cells #[.int .i64 rl.number,.string (R.str rl.path),.slice m1 rl.ms.length m2,.slice t1 rl.tg.length t2,.bool rl.change,.string (R.str rl.to),.slice x1 rl.sets.length x2,.slice d1 rl.drops.length d2] 126)) (Value.slice ra aa.length rc).ownBlock leaves:=xz (qK (qK ay.o _) _) (by decide)
      have bY:Y (RulesRowB w9 w.heap.size (.slice (some ⟨g9,0,none⟩) (aa.length+1) ak) (aa++[rl])):=by
       refine⟨bl++[[.int .i64 rl.number,.string (R.str rl.path),.slice m1 rl.ms.length m2,.slice t1 rl.tg.length t2,.bool rl.change,.string (R.str rl.to),.slice x1 rl.sets.length x2,.slice d1 rl.drops.length d2]],?_,?_⟩
       ·rw[zh,yj];exact bv
       ·exact(bF.o.snoc ba.o).map fun a b hab=>(hab.keep gA (zi _ _)).keep ae bw
      have aM:∀k,(Value.slice ra aa.length rc).ownBlock=some k->w.heap.size<=k:=fun k hk=>(zx ay.o k hk).1
      have J9:Y (RInv w9 rb g ag ts sR (.slice ha hs.length hc)):=(JU.o.keep gA).away ae (fun k hk=>by have h1:=aM k hk;exact⟨by omega,by omega⟩)
      have C9:Y (w.grownBy w9 (some rb)):=qV (zD CU.o (zb gA _)) ae aM
      have ai:=J (xJ (zF aj.o gA (by simp)) ae (fun k hk=>zW aj.o ay.o (by decide) k hk))
      have b9:=zI J9.o.rd
      have z9:=C9.o.size
      clear aC bv ae bw gA aM
      have cS:=zI ai.o
      have cO:=zuH ai.o
      have cQ:=zuG 0 ai.o
      have cP:=zuB ai.o
      have cR:=zuG 1 ai.o
      have gS:=zG w9 ab.heap.size 1 (.slice (some ⟨g9,0,none⟩) (aa.length+1) ak)
      have JS:Y _:=J9.o.other gS (by omega) (by omega)
      have CS:=J (zm C9.o gS (by omega))
      have bH:Y ((w9.setCell ⟨ab.heap.size,1,none⟩ (.slice (some ⟨g9,0,none⟩) (aa.length+1) ak)).heap[ab.heap.size]?=some (.cells #[.string (R.str lo),.slice (some ⟨g9,0,none⟩) (aa.length+1) ak] 119)):=zR ai.o _
      have bZ:Y _:=RulesRowB.keep bY.o gS (xY ai.o (by decide))
      clear gS
      go_wp2
      go_roundw
      case rel=>exact⟨n,aa++[rl],sR,_,by rw[zh];go_num,by rw[zh];simp;omega,JS.o.lt,by omega,bN,JS,CS,bH,bZ⟩
      case measure=>simp[intOf];omega
end Go.Proofs.YtfocdefchbnkpaaGreatDoor
