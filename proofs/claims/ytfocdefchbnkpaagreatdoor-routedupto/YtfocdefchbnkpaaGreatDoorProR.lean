/- A host, as the program's reader reads it. -/
import Derived.Test.YtfocdefchbnkpaaGreatDoorAli
import Derived.Test.YtfocdefchbnkpaaGreatDoorProQ
import Derived.Shelf.SlSortCmp.SmallK
import Derived.Shelf.Small.Bits
import Derived.Ground.SlsfProg
import Derived.Ground.NamesProg
import Derived.Test.YtfocdefchbnkpaaGreatDoorProg
import Derived.Test.YtfocdefchbnkpaaGreatDoorRefJ
import Derived.Deep.CutRange
import Derived.Deep.RegionLaw
import Derived.Deep.AppendLies
import Derived.Maps.AppendAt
import Derived.Laws.AppendOwnNone
set_option maxRecDepth 100000
set_option maxHeartbeats 20000000
namespace Go.Proofs.YtfocdefchbnkpaaGreatDoor
open Go.RowKit
theorem zeP:(Tryz.prog.info? 213).map (fun i=>(i.zero,i.size,i.bytes))=some (some (.agg #[.int .i64 0,.string ⟨#[]⟩,.slice none 0 0,.slice none 0 0,.string ⟨#[]⟩,.slice none 0 0,.slice none 0 0]),7,136):=by kernel_rfl
theorem vC {w:World}{B:Nat}{v:Value}{rs:List P.Rl}(h:PRulesRow w B v rs):∃a c,v = .slice a rs.length c:=by obtain⟨aa,h1,_⟩:=h;exact zP h1
theorem znT (w:World)(B:Nat):PRulesRow w B (.slice none 0 0) []:=⟨[],xS _ _ _ _,.nil⟩
theorem znH {w:World}{rb:Nat}{s:ByteArray}{st:P.St}(h:PInv w rb s st)(B:Nat)(v:Value)(hs:List P.Hst)(hR:PHostsRow w B v hs)(hn:hs.length<=2000000000000)(hG:Glob w)(aN:rb≠0) :
  Calls Tryz.prog 148 #[.pointer (some ⟨rb,0,none⟩),v] w fun e w'=>∃vR,e = .returned (.agg #[.string (R.str (qv s.data.toList st (hs.map P.Hst.name)).1.name),vR])/\PInv w' rb s (qv s.data.toList st (hs.map P.Hst.name)).2/\w.grownBy w' (some rb)/\PRulesRow w' w.heap.size vR (qv s.data.toList st (hs.map P.Hst.name)).1.rules:=by
 obtain⟨i0,hi,be,bf,bg⟩:=info_parts zeP
 have HP:Y (qv s.data.toList st (hs.map P.Hst.name)=zdD s.data.toList (jK s.data.toList st (hs.map P.Hst.name))):=rfl
 have HA:Y (jK s.data.toList st (hs.map P.Hst.name)=qj s.data.toList (zH s.data.toList (zf st hs.length 4) R.wHost) (hs.map P.Hst.name)):=by show _=_;unfold jK;rw[qw]
 have H0:Y _:=h
 have bl:=zE h.rd
 have bq:=h.len
 have HR:Y (PHostsRow w B v hs):=hR
 have HN:Y _:=hn
 have HG:Y (Glob w):=hG
 obtain⟨va,vc,rfl⟩:∃a c,v = .slice a hs.length c:=by obtain⟨css,h1,_⟩:=hR;exact zP h1
 clear h hR hn hG
 generalize qv s.data.toList st (hs.map P.Hst.name)=res at*
 go_enter Tryz.func148,Tryz.ntmps148
 have C0:Y (w.grownBy w (some rb)):=zM _ _
 go_wp2_with fail
 refine(yx (H0.o.keep (zJ _ _ _)) _ _).mono ?_
 rintro e w1 ⟨rfl,I1,ap⟩
 have J1:Y _:=I1
 have b1:=zE J1.o.rd
 have s1:w.heap.size+1<=w1.heap.size:=by have h:=ap.size;simpa using h
 have G1:Y (w.grownBy w1 (some rb)):=(zA (zJ _ _ _) ap)
 have C1:=J (zA C0.o G1.o)
 have z1:=C1.o.size
 have a2:Y (w1.heap[w.heap.size]?=some (.cells #[.string ⟨#[]⟩,.slice none 0 0] 146)):=xc ap (by simp;omega)
 clear ap I1
 go_wp2_with fail
 refine(xK J1.o _).mono ?_
 rintro e w2 ⟨rfl,I2,aA⟩
 have J2:Y _:=I2
 have b2:=zE J2.o.rd
 have s2:w1.heap.size+0<=w2.heap.size:=by have h:=aA.size;simpa using h
 have G2:Y (w1.grownBy w2 (some rb)):=aA
 have C2:=J (zA C1.o G2.o)
 have z2:=C2.o.size
 have a3:=J (zB a2.o G2.o (by simp;omega))
 clear aA I2
 rw[show(⟨#[104,111,115,116]⟩:ByteArray).data.toList=R.wHost from rfl] at J2
 go_wp2_with fail
 refine(zcJ J2.o B _ hs (HR.o.keep C2.o (H0.o.safe (by decide))) HN.o (HG.o.keep C2.o (by simpa using aN)) aN).mono ?_
 rintro e w3 ⟨rfl,I3,aB⟩
 have J3:Y _:=I3
 have b3:=zE J3.o.rd
 have s3:w2.heap.size+0<=w3.heap.size:=by have h:=aB.size;simpa using h
 have G3:Y (w2.grownBy w3 (some rb)):=aB
 have C3:=J (zA C2.o G3.o)
 have z3:=C3.o.size
 have a4:=J (zB a3.o G3.o (by simp;omega))
 clear aB I3
 rw[<-HA.o] at J3
 rw[<-HA.o]
 clear HA
 generalize jK s.data.toList st (hs.map P.Hst.name)=qa at*
 obtain⟨nm,sA⟩:=qa
 simp only at J3 HP ⊢
 go_wp2_with fail
 refine(xK (J3.o.keep (zJ _ _ _)) _).mono ?_
 rintro e w4 ⟨rfl,I4,aq⟩
 have J4:Y _:=I4
 have b4:=zE J4.o.rd
 have s4:w3.heap.size+1<=w4.heap.size:=by have h:=aq.size;simpa using h
 have G4:Y (w3.grownBy w4 (some rb)):=(zA (zJ _ _ _) aq)
 have C4:=J (zA C3.o G4.o)
 have z4:=C4.o.size
 have a5:=J (zB a4.o G4.o (by simp;omega))
 have a9:Y (w4.heap[w3.heap.size]?=some (.cells #[.string (R.str nm),.slice none 0 0] 146)):=xc aq (by simp;omega)
 clear aq I4
 have JB:Y (PInv w4 rb s (zH s.data.toList sA [123])):=J4
 have ag:Y (res=(⟨nm,(qf s.data.toList (s.data.toList.length+1) (zH s.data.toList sA [123]) []).1⟩,zH s.data.toList (qf s.data.toList (s.data.toList.length+1) (zH s.data.toList sA [123]) []).2 [125])):=HP.o
 clear HP
 generalize zH s.data.toList sA [123]=sB at*
 generalize hQ:qf s.data.toList (s.data.toList.length+1) sB []=Q at*
 have HQ:Y _:=hQ
 clear hQ
 have b0:=JB.o.bd
 go_wp2_with fail
 go_loopw [] (fun wr=>∃(n:Nat) (aa:List P.Rl) (p:P.St) (vL:Value),aa.length<=p.tok.at_/\p.tok.at_<=s.size/\s.size<n+p.tok.at_/\Y (qf s.data.toList n p aa=Q)/\Y (PInv wr rb s p)/\Y (w.grownBy wr (some rb))/\Y (wr.heap[w.heap.size]?=some (.cells #[.string ⟨#[]⟩,.slice none 0 0] 146))/\Y (wr.heap[w3.heap.size]?=some (.cells #[.string (R.str nm),vL] 146))/\Y (PRulesRow wr w.heap.size vL aa)) (fun wr=>s.size+1 - atOf wr rb)
 case atStart=>exact⟨s.data.toList.length+1,[],sB,_,zl _,by omega,by rw[R.size_eq];omega,HQ.o,JB,C4,a5.o,a9.o,znT _ _⟩
 case round=>
  obtain⟨n,aa,p,vL,bn,bt,bs,HL,IR,CR,a8,aK,HO⟩:=hrel
  have bm:=zE IR.o.rd
  have bO:=CR.o.size
  have bu:=zE aK.o
  obtain⟨n,rfl⟩:∃m,n=m+1:=⟨n - 1,by omega⟩
  have ad:=HL.o
  rw[qf] at ad
  obtain⟨la,lc,rfl⟩:=vC HO.o
  go_wp2_with fail
  refine(yn IR.o _).mono ?_
  rintro e ab ⟨rfl,az⟩
  have aD:=zk az (some rb)
  have ai:Y _:=(IR.o).keep az
  have bk:=zE ai.o.rd
  have bK:wr.heap.size+0<=ab.heap.size:=by have h:=aD.size;simpa using h
  have an:Y (wr.grownBy ab (some rb)):=aD
  have au:=J (zA CR.o an.o)
  have bM:=au.o.size
  have aI:=J (zB a8.o an.o (by simp;omega))
  have aj:=J (zB aK.o an.o (by simp;omega))
  clear aD az
  have av:Y (PRulesRow ab w.heap.size (.slice la aa.length lc) aa):=HO.o.keep an.o (IR.o.safe (by decide))
  rw[show(⟨#[114,117,108,101]⟩:ByteArray).data.toList=qm from rfl]
  cases hgo:zu p qm
  ·rw[hgo] at ad
   simp only[xO,if_false] at ad
   have HF:Y (Q=(aa,p)):=ad.symm
   clear ad HL
   rw[HF.o] at ag
   simp only at ag
   go_wp2_with fail
   refine(xK ai.o _).mono ?_
   rintro e ar ⟨rfl,aH,aC⟩
   have aw:Y _:=aH
   have bj:=zE aw.o.rd
   have bJ:ab.heap.size+0<=ar.heap.size:=by have h:=aC.size;simpa using h
   have am:Y (ab.grownBy ar (some rb)):=aC
   have aF:=J (zA au.o am.o)
   have bL:=aF.o.size
   have ae:=J (zB aI.o am.o (by simp;omega))
   have ax:=J (zB aj.o am.o (by simp;omega))
   clear aC aH
   rw[show(⟨#[125]⟩:ByteArray).data.toList=[125] from rfl] at aw
   have aW:Y (PRulesRow ar w.heap.size (.slice la aa.length lc) aa):=av.o.keep am.o (ai.o.safe (by decide))
   have bF:=zE ax.o
   have bD:=zqW ax.o
   have bE:=zqX ax.o
   have bI:=zE ae.o
   have bh:=zqW ae.o
   have bG:=zrB 0 ae.o
   have bi:=zqX ae.o
   have bH:=zrB 1 ae.o
   go_wp2
   have aE:=zA (zD ar w.heap.size 0 (.string (R.str nm))) (zD _ w.heap.size 1 (.slice la aa.length lc))
   refine bodyPost_ret (v:=.agg #[.string (R.str nm),.slice la aa.length lc]) (by simp[results,Tryz.results148,go_sem,bh,bi]) rfl ⟨_,by rw[ag.o],?_,zY aF.o aE (zZ _),?_⟩
   ·rw[ag.o];exact aw.o.other aE (by omega)
   ·rw[ag.o];exact aW.o.keep aE (qx ae.o (by decide))
  ·rw[hgo] at ad
   simp only[if_true] at ad
   have bc:=tz s.data.toList p (aa.map P.Rl.number) hgo
   have aG:Y _:=ad
   clear ad HL
   have bz:=zE aj.o
   have bw:=zqW aj.o
   have bx:=zqX aj.o
   have HC:Y (∀w',ab.grownBy w' none->Calls Tryz.prog 208 #[.pointer (some ⟨rb,0,none⟩),.slice la aa.length lc] w' fun e w''=>∃cs,e = .returned (.agg cs.toArray)/\PInv w'' rb s (qp s.data.toList p (aa.map P.Rl.number)).2/\w'.grownBy w'' (some rb)/\PRuleVal w'' cs (qp s.data.toList p (aa.map P.Rl.number)).1):=fun w' hg=>znL (ai.o.keep hg) w.heap.size _ aa (av.o.keep hg (zv _ _)) (by omega)
   generalize qp s.data.toList p (aa.map P.Rl.number)=qs at*
   obtain⟨nw,p2⟩:=qs
   simp only at aG bc HC
   have aS:Y (aa.length+1<=maxLen):=by show _<=_;unfold maxLen;omega
   go_wp2
   go_region_law (first | (refine step_append_lies _ rfl (.tmp 21) (.tmp 26) 144 rfl w.heap.size 213 i0 _ 7 136 Tryz.underlying144 hi be bf bg rfl (by decide) _ _ _ (by simp[Act.eval]) (xX ah.o _) ⟨wN.heap.size,0,none⟩ 1 1 [.int .i64 nw.number,.string (R.str nw.path),.slice m1 nw.ms.length m2,.slice t1 nw.tg.length t2,.string (R.str nw.rep),.slice x1 nw.sets.length x2,.slice d1 nw.drops.length d2] (by simp[Act.eval]) rfl aV.o aP.o (by decide) aS.o (by omega) aR.o (wN.heap.size+1) a1.o ?_;intro g9 al w9 aM af bo br;have ay:∀k,(Value.slice la aa.length lc).ownBlock=some k->w.heap.size<=k:=fun k hk=>(qh ah.o k hk).1;have J9:Y (PInv w9 rb s p2):=(JN.o.keep (zJ _ _ _)).away af (fun k hk=>by { have h1:=ay k hk;omega });have C9:Y (w.grownBy w9 (some rb)):=x9 (zA CN.o (zJ _ _ _)) af ay;have a6:Y (w9.heap[w.heap.size]?=some (.cells #[.string ⟨#[]⟩,.slice none 0 0] 146)):=qM (zB aJ.o (zJ _ _ none) (by simp)) af (fun k hk=>zV aJ.o ah.o (by decide) k hk);have ao:Y (w9.heap[w3.heap.size]?=some (.cells #[.string (R.str nm),.slice la aa.length lc] 146)):=qM (zB ak.o (zJ _ _ none) (by simp)) af (fun k hk=>zV ak.o ah.o (by decide) k hk);have gA:wN.grownBy (wN.alloc (.cells #[.int .i64 nw.number,.string (R.str nw.path),.slice m1 nw.ms.length m2,.slice t1 nw.tg.length t2,.string (R.str nw.rep),.slice x1 nw.sets.length x2,.slice d1 nw.drops.length d2] 213)) none:=zJ _ _ _;have aO:Safe (wN.alloc (.cells #[.int .i64 nw.number,.string (R.str nw.path),.slice m1 nw.ms.length m2,.slice t1 nw.tg.length t2,.string (R.str nw.rep),.slice x1 nw.sets.length x2,.slice d1 nw.drops.length d2] 213)) (Value.slice la aa.length lc).ownBlock pleaves:=wY (xX ah.o _) (by decide);have aX:Y (PRulesRow w9 w.heap.size (.slice (some ⟨g9,0,none⟩) (aa.length+1) al) (aa++[nw])):=⟨css2++[[.int .i64 nw.number,.string (R.str nw.path),.slice m1 nw.ms.length m2,.slice t1 nw.tg.length t2,.string (R.str nw.rep),.slice x1 nw.sets.length x2,.slice d1 nw.drops.length d2]],(by { rw[zW,jt];exact aM }),(aQ.o.snoc a0.o).map fun a b hab=>(hab.keep gA (zv _ _)).keep af aO⟩;have q9:=zqX ao.o;have bv:=zrB 1 ao.o;clear aM af ay gA aO) | (go_simp;go_at_call 208;refine(HC.o _ (zQ ab)).mono ?_;rintro e wN ⟨cs,rfl,IN,aL,bb⟩;obtain⟨vM,vT,vS,vD,rfl,hM,hT,hS,hD⟩:=bb;obtain⟨m1,m2,rfl⟩:=zP hM;obtain⟨t1,t2,rfl⟩:=zP hT;obtain⟨x1,x2,rfl⟩:=zP hS;obtain⟨d1,d2,rfl⟩:=zP hD;have a0:Y (PRuleVal wN [.int .i64 nw.number,.string (R.str nw.path),.slice m1 nw.ms.length m2,.slice t1 nw.tg.length t2,.string (R.str nw.rep),.slice x1 nw.sets.length x2,.slice d1 nw.drops.length d2] nw):=⟨_,_,_,_,rfl,hM,hT,hS,hD⟩;have GN:ab.grownBy wN (some rb):=zA (zk (zQ ab) _) aL;have JN:Y (PInv wN rb s p2):=IN;have CN:=J (zA au.o GN);have sN:ab.heap.size<=wN.heap.size:=GN.size;have aJ:=J (zB aI.o GN (by simp;omega));have ak:=J (zB aj.o GN (by simp;omega));have aY:Y (PRulesRow wN w.heap.size (.slice la aa.length lc) aa):=av.o.keep GN (ai.o.safe (by decide));obtain⟨css2,hrow2,hall2⟩:=aY.o;have ah:Y _:=hrow2;have aQ:Y _:=hall2;have bA:=zqW ak.o;have bB:=zqX ak.o;have bC:=zE ak.o;have bN:=zE JN.o.rd;have aV:Y (∀j u,([.int .i64 nw.number,.string (R.str nw.path),.slice m1 nw.ms.length m2,.slice t1 nw.tg.length t2,.string (R.str nw.rep),.slice x1 nw.sets.length x2,.slice d1 nw.drops.length d2]:List Value)[j]?=some u->(wN.alloc (.cells #[.int .i64 nw.number,.string (R.str nw.path),.slice m1 nw.ms.length m2,.slice t1 nw.tg.length t2,.string (R.str nw.rep),.slice x1 nw.sets.length x2,.slice d1 nw.drops.length d2] 213)).cell? ((⟨wN.heap.size,0,none⟩:Addr).add j)=some u):=qI wN #[_,_,_,_,_,_,_] _ _ rfl;have aP:Y (∀u∈([.int .i64 nw.number,.string (R.str nw.path),.slice m1 nw.ms.length m2,.slice t1 nw.tg.length t2,.string (R.str nw.rep),.slice x1 nw.sets.length x2,.slice d1 nw.drops.length d2]:List Value),u.oneCell'=true):=by { intro u hu;simp only[List.mem_cons,List.mem_nil_iff,or_false] at hu;rcases hu with rfl | rfl | rfl | rfl | rfl | rfl | rfl <;> rfl };have aR:Y (w.heap.size<=(wN.alloc (.cells #[.int .i64 nw.number,.string (R.str nw.path),.slice m1 nw.ms.length m2,.slice t1 nw.tg.length t2,.string (R.str nw.rep),.slice x1 nw.sets.length x2,.slice d1 nw.drops.length d2] 213)).heap.size):=by { show _<=_;rw[show(wN.alloc (.cells #[.int .i64 nw.number,.string (R.str nw.path),.slice m1 nw.ms.length m2,.slice t1 nw.tg.length t2,.string (R.str nw.rep),.slice x1 nw.sets.length x2,.slice d1 nw.drops.length d2] 213)).heap.size=wN.heap.size+1 from by simp];omega };have a1:Y ((wN.alloc (.cells #[.int .i64 nw.number,.string (R.str nw.path),.slice m1 nw.ms.length m2,.slice t1 nw.tg.length t2,.string (R.str nw.rep),.slice x1 nw.sets.length x2,.slice d1 nw.drops.length d2] 213)).heap.size=wN.heap.size+1):=by { show _=_;simp };clear IN aL GN hM hT hS hD hrow2 hall2))
   all_goals
    have gS:=zD w9 w3.heap.size 1 (.slice (some ⟨g9,0,none⟩) (aa.length+1) al)
    have JS:Y _:=J9.o.other gS (by omega)
    have CS:=J (zY C9.o gS (by omega))
    have a7:=J (zB a6.o gS (by simp;omega))
    have ba:Y ((w9.setCell ⟨w3.heap.size,1,none⟩ (.slice (some ⟨g9,0,none⟩) (aa.length+1) al)).heap[w3.heap.size]?=some (.cells #[.string (R.str nm),.slice (some ⟨g9,0,none⟩) (aa.length+1) al] 146)):=zF ao.o _
    have aZ:Y _:=aX.o.keep gS (qx ao.o (by decide))
    have aU:Y (atOf (w9.setCell ⟨w3.heap.size,1,none⟩ (.slice (some ⟨g9,0,none⟩) (aa.length+1) al)) rb=p2.tok.at_):=yT JS.o
    have aT:Y (atOf wr rb=p.tok.at_):=yT IR.o
    have bp:=JS.o.bd
    clear gS
    go_wp2
    go_roundw
    case rel=>exact⟨n,aa++[nw],p2,_,by rw[zW];simp;omega,by omega,by omega,aG,JS,CS,a7,ba,aZ⟩
    case measure=>rw[aU.o,aT.o];omega
theorem zeN:(Tryz.prog.info? 146).map (fun i=>(i.zero,i.size,i.bytes))=some (some (.agg #[.string ⟨#[]⟩,.slice none 0 0]),2,40):=by kernel_rfl
def rblk (cs:List Value):Option Nat:=(cs[1]?.getD undef).ownBlock
def PHosts (w:World)(B:Nat)(v:Value)(hs:List P.Hst):Prop:=
 ∃css:List (List Value),w.ownsRow B 146 2 v hs.length css.flatten/\All2 (PHostVal w) css hs/\css.Pairwise (fun a b=>∀k,rblk a=some k->rblk b≠some k)/\∀a∈css,∀k,rblk a=some k->B<=k
theorem PHosts.row {w:World}{B:Nat}{v:Value}{hs:List P.Hst}(h:PHosts w B v hs):PHostsRow w B v hs:=by obtain⟨aa,h1,h2,_⟩:=h;exact⟨aa,h1,h2⟩
theorem PHosts.keep {w w':World}{B:Nat}{v:Value}{hs:List P.Hst}{row:Option Nat}(h:PHosts w B v hs)(hg:w.grownBy w' row)(aa:Safe w row phtags):PHosts w' B v hs:=by
 obtain⟨ab,h1,h2,h3⟩:=h
 exact⟨ab,xE h1 hg aa (by decide),h2.map fun a b hab=>hab.keep hg (jM aa),h3⟩
theorem PHosts.nil (w:World)(B:Nat):PHosts w B (.slice none 0 0) []:=⟨[],xS _ _ _ _,.nil,.nil,fun a ha=>by simp at ha⟩
theorem PHosts.len {w:World}{B:Nat}{v:Value}{hs:List P.Hst}(h:PHosts w B v hs):∃a c,v = .slice a hs.length c:=by obtain⟨aa,h1,_⟩:=h;exact zP h1
theorem zhH {w:World}{cs:List Value}{h:P.Hst}(hv:PHostVal w cs h):∀k,rblk cs=some k->k<w.heap.size:=by
 obtain⟨vR,rfl,aa,h1,_⟩:=hv
 intro k hk
 exact(qh h1 k hk).2
theorem zoQ {w:World}{aa:List (List Value)}{hs:List P.Hst}(h:All2 (PHostVal w) aa hs):∀a∈aa,∀k,rblk a=some k->k<w.heap.size:=by
 induction h with
 | nil=>intro a ha;simp at ha
 | cons hc _ ih=>
  intro a ha
  rcases List.mem_cons.1 ha with rfl | ha
  ·exact zhH hc
  ·exact ih a ha
theorem zkS {w:World}{rb:Nat}{s:ByteArray}{st:P.St}(h:PInv w rb s st)(hG:Glob w)(az:rb≠0) :
  Calls Tryz.prog 101 #[.pointer (some ⟨rb,0,none⟩)] w fun e w'=>∃v,e = .returned v/\PInv w' rb s (qG s.data.toList (s.data.toList.length+1) st []).2/\w.grownBy w' (some rb)/\PHosts w' w.heap.size v (qG s.data.toList (s.data.toList.length+1) st []).1:=by
 obtain⟨i0,hi,aM,aN,aO⟩:=info_parts zeN
 have H0:Y _:=h
 have aR:=zE h.rd
 have aW:=h.len
 have b0:=h.bd
 have HG:Y (Glob w):=hG
 clear h hG
 generalize hQ:qG s.data.toList (s.data.toList.length+1) st []=Q at*
 have HQ:Y _:=hQ
 clear hQ
 go_enter Tryz.func101,Tryz.ntmps101
 go_wp2_with fail
 go_loopw [3] (fun v wr=>∃(n:Nat) (aa:List P.Hst) (p:P.St),aa.length<=p.tok.at_/\p.tok.at_<=s.size/\s.size<n+p.tok.at_/\Y (qG s.data.toList n p aa=Q)/\Y (PInv wr rb s p)/\Y (w.grownBy wr (some rb))/\Y (PHosts wr w.heap.size v aa)) (fun _ wr=>s.size+1 - atOf wr rb)
 case atStart=>exact⟨s.data.toList.length+1,[],st,zl _,by omega,by rw[R.size_eq];omega,HQ.o,H0,zM _ _,PHosts.nil _ _⟩
 case round=>
  obtain⟨n,aa,p,aT,aZ,aY,HL,IR,CR,HO⟩:=hrel
  have aS:=zE IR.o.rd
  have a1:=CR.o.size
  obtain⟨n,rfl⟩:∃m,n=m+1:=⟨n - 1,by omega⟩
  have ab:=HL.o
  rw[qG] at ab
  obtain⟨la,lc,rfl⟩:=HO.o.len
  go_wp2_with fail
  refine(yn IR.o _).mono ?_
  rintro e ad ⟨rfl,ao⟩
  have aq:=zk ao (some rb)
  have ah:Y _:=(IR.o).keep ao
  have aQ:=zE ah.o.rd
  have a0:wr.heap.size+0<=ad.heap.size:=by have h:=aq.size;simpa using h
  have au:Y (wr.grownBy ad (some rb)):=aq
  have ae:=J (zA CR.o au.o)
  have aP:=ae.o.size
  clear aq ao
  have ak:Y (PHosts ad w.heap.size (.slice la aa.length lc) aa):=HO.o.keep au.o (IR.o.safe (by decide))
  rw[show(⟨#[104,111,115,116]⟩:ByteArray).data.toList=R.wHost from rfl]
  cases hgo:zu p R.wHost
  ·rw[hgo] at ab
   simp only[xO,if_false] at ab
   have HF:Y (Q=(aa,p)):=ab.symm
   clear ab HL
   go_wp2
   go_ret
   exact⟨_,rfl,by rw[HF.o];exact ah.o,ae.o,by rw[HF.o];exact ak.o⟩
  ·rw[hgo] at ab
   simp only[if_true] at ab
   have aK:=zjG s.data.toList p (aa.map P.Hst.name) hgo
   have av:Y _:=ab
   clear ab HL
   go_wp2_with fail
   refine(znH ah.o w.heap.size _ aa ak.o.row (by omega) (HG.o.keep ae.o (by simpa using az)) az).mono ?_
   rintro e wN ⟨vR,rfl,IN,ag,ai⟩
   generalize qv s.data.toList p (aa.map P.Hst.name)=qs at*
   obtain⟨nw,p2⟩:=qs
   simp only at av aK IN ai ⊢
   obtain⟨r1,r2,rfl⟩:=vC ai
   have JN:Y (PInv wN rb s p2):=IN
   have bN:=zE JN.o.rd
   have sN:ad.heap.size<=wN.heap.size:=ag.size
   have aP:=ae.o.size
   have CN:=J (zA ae.o ag)
   have zN:=CN.o.size
   have al:Y (PRulesRow wN ad.heap.size (.slice r1 nw.rules.length r2) nw.rules):=ai
   obtain⟨af,aA,ap,ay,aw⟩:=ak.o
   have ar:=ah.o.safe (l:=phtags) (by decide)
   have am:=J (xE aA ag ar (by decide))
   have aC:Y (All2 (PHostVal wN) af aa):=ap.map fun a b hab=>hab.keep ag (jM ar)
   have aI:Y (af.Pairwise (fun a b=>∀k,rblk a=some k->rblk b≠some k)):=ay
   have aD:Y (∀a∈af,∀k,rblk a=some k->w.heap.size<=k):=aw
   have aE:Y (∀a∈af,∀k,rblk a=some k->k<ad.heap.size):=zoQ ap
   clear IN ag ai aA ap ay aw ar
   go_wp2_with (at_builtin;refine wpList_append_lies _ rfl _ _ 86 rfl (w.heap.size) 146 i0 _ 2 40 Tryz.underlying86 hi aM aN aO rfl (by decide) _ _ _ rfl (xX am.o _) ⟨wN.heap.size,0,none⟩ 1 1 [.string (R.str nw.name),.slice r1 nw.rules.length r2] rfl rfl ?c1 ?c2 (by decide) ?c3 ?c4 ?c5 (wN.heap.size+1) (by simp) ?_)
   case c1=>exact qI _ #[_,_] _ _ (by simp)
   case c2=>intro u hu;simp at hu;rcases hu with rfl | rfl <;> rfl
   case c3=>unfold maxLen;omega
   case c4=>omega
   case c5=>simp;omega
   intro g9 aJ w9 ax aj aU aX
   have gA:wN.grownBy (wN.alloc (.cells #[.string (R.str nw.name),.slice r1 nw.rules.length r2] 146)) none:=zJ _ _ _
   have aB:Safe (wN.alloc (.cells #[.string (R.str nw.name),.slice r1 nw.rules.length r2] 146)) (Value.slice la aa.length lc).ownBlock prtags:=wY (xX am.o _) (by decide)
   have an:∀k,(Value.slice la aa.length lc).ownBlock=some k->w.heap.size<=k:=fun k hk=>(qh am.o k hk).1
   have aH:Y (PHosts w9 w.heap.size (.slice (some ⟨g9,0,none⟩) (aa.length+1) aJ) (aa++[nw])):=by
    refine⟨af++[[.string (R.str nw.name),.slice r1 nw.rules.length r2]],?_,?_,?_,?_⟩
    ·rw[zW,jt];exact ax
    ·exact(aC.o.snoc ⟨_,rfl,al.o.base (zl _)⟩).map fun a b hab=>(hab.keep gA (zv _ _)).keep aj aB
    ·rw[List.pairwise_append]
     refine⟨aI.o,List.pairwise_singleton _ _,?_⟩
     intro a ha b hb k hk aL
     simp at hb;subst hb
     have h1:=aE.o a ha k hk
     obtain⟨cr,hr,_⟩:=al.o
     have h2:=(qh hr k aL).1
     omega
    ·intro a ha k hk
     rcases List.mem_append.1 ha with ha | ha
     ·exact aD.o a ha k hk
     ·simp at ha;subst ha
      obtain⟨cr,hr,_⟩:=al.o
      have h2:=(qh hr k hk).1
      omega
   have J9:Y (PInv w9 rb s p2):=(JN.o.keep gA).away aj (fun k hk=>by have h1:=an k hk;omega)
   have C9:Y (w.grownBy w9 (some rb)):=x9 (zA CN.o (zk gA _)) aj an
   have aG:Y (atOf w9 rb=p2.tok.at_):=yT J9.o
   have aF:Y (atOf wr rb=p.tok.at_):=yT IR.o
   have aV:=J9.o.bd
   clear ax aj gA aB an
   go_wp2
   go_roundw
   case rel=>exact⟨n,aa++[nw],p2,by rw[zW];simp;omega,by omega,by omega,av,J9,C9,aH⟩
   case measure=>rw[aG.o,aF.o];omega
end Go.Proofs.YtfocdefchbnkpaaGreatDoor
namespace Go.Proofs.YtfocdefchbnkpaaGreatDoor
open Go.RowKit Go.Sort
theorem kC {α : Type} [Inhabited α] (enc : α → List Value) (k : Nat) (hk : ∀ x, (enc x).length = k) (d : List α) (t : Nat) (h : t < d.length * k) : (d.map enc).flatten[t]? = some (enc d[t / k]!)[t % k]! := by
  have k0 : 0 < k := by rcases Nat.eq_zero_or_pos k with h0 | h0; · subst h0; simp at h
                        · exact h0
  induction d generalizing t with
  | nil => simp at h
  | cons x d ih =>
    rw [xi, xP]
    by_cases ht : t < k
    · rw [List.getElem?_append_left (by rw [hk]; exact ht), Nat.div_eq_of_lt ht, Nat.mod_eq_of_lt ht]
      rw [qN (by rw [hk]; exact ht)]
      congr 1
      rw [getElem!_pos _ t (by rw [List.getElem!_cons_zero, hk]; exact ht)]
      rfl
    · obtain ⟨u, rfl⟩ : ∃ u, t = u + k := ⟨t - k, by omega⟩
      rw [List.getElem?_append_right (by rw [hk]; omega), hk, Nat.add_sub_cancel, ih u (by simp [Nat.add_mul] at h; omega), Nat.add_div_right _ k0, Nat.add_mod_right]
      rfl
theorem zhD {α:Type} [Inhabited α] (enc:α->List Value)(k:Nat)(hk:∀x,(enc x).length=k)(d:List α):(flatK enc k d.toArray).toList=(d.map enc).flatten:=by
 apply List.ext_getElem?
 intro t
 by_cases h:t<d.length*k
 ·rw[kC enc k hk d t h]
  have h1:=get_flatK enc k d.toArray t (by simpa using h)
  rw[getElem!_pos _ t (by simpa using h)] at h1
  rw[Array.getElem?_toList,Array.getElem?_eq_getElem (by simpa using h),h1]
  simp
 ·rw[List.getElem?_eq_none (by simp;omega),List.getElem?_eq_none]
  have:(d.map enc).flatten.length=d.length*k:=by
   clear h
   induction d with
   | nil=>simp
   | cons x d ih=>rw[xi,xP,zW,ih,hk,zm,Nat.add_mul];omega
  omega
theorem zeJ {α:Type}(enc:α->List Value)(k:Nat)(hk:∀x,(enc x).length=k)(d:List α):(d.map enc).flatten.length=d.length*k:=by
 induction d with
 | nil=>simp
 | cons x d ih=>rw[xi,xP,zW,ih,hk,zm,Nat.add_mul];omega
theorem kz {α:Type} [Inhabited α] {w:World}{B g ab:Nat}{e:TypeId}(enc:α->List Value)(k:Nat)(hk:∀x,(enc x).length=k)(d:List α)
  (h:w.ownsRow B e k (.slice (some ⟨g,0,none⟩) d.length ab) d.length (d.map enc).flatten):HoldsK enc k w g 0 d.toArray:=by
 intro j hj
 have aa:j<d.length*k:=by simpa using hj
 rw[Nat.zero_add]
 refine⟨?_,?_⟩
 ·rw[xd h j aa,kC enc k hk d j aa,get_flatK enc k d.toArray j (by simpa using aa)]
  simp
 ·rcases h.2 with ⟨h1,_⟩ | ⟨g',c',cur,h1,_,h2,_⟩
  ·cases h1
  ·simp only[qc,Option.some.injEq,Addr.mk.injEq] at h1
   obtain⟨⟨rfl,_⟩,_,rfl⟩:=h1
   exact zC h2
theorem uU {α:Type} [Inhabited α] (enc:α->List Value)(k:Nat)(w:World)(g m:Nat)(d:Array α)(os:Array Obj):w.grownBy (sortWorldK enc k w g 0 m d os) (some g):=by
 refine⟨rfl,rfl,rfl,?_,?_⟩
 ·simp[sortWorldK,grow,putRowK,putRow,mapBlock,Go.Sort.ahead]
 ·intro j hj aa
  have ab:g≠j:=fun h=>aa (by rw[h])
  simp only[sortWorldK,grow,putRowK,putRow,mapBlock,Go.Sort.ahead]
  rw[Array.getElem?_append_left (by simpa using hj),Array.getElem?_modify,if_neg ab]
theorem znU (F aa:Array Value)(h:F.size<=aa.size):((putCells id 0 F aa).toList.take F.size)=F.toList:=by
 apply List.ext_getElem?
 intro t
 rw[List.getElem?_take]
 by_cases ht:t<F.size
 ·rw[if_pos ht]
  simp only[putCells,Array.getElem?_toList,Array.getElem?_mapIdx]
  rw[Array.getElem?_eq_getElem (by omega),Array.getElem?_eq_getElem ht]
  simp[ht]
 ·rw[if_neg ht,List.getElem?_eq_none (by simpa using ht)]
theorem tC {α:Type} [Inhabited α] {w:World}{B g aa:Nat}{e:TypeId}(enc:α->List Value)(k:Nat)(hk:∀x,(enc x).length=k)(d d':List α)(hd:d'.length=d.length)(m:Nat)(os:Array Obj)
  (h:w.ownsRow B e k (.slice (some ⟨g,0,none⟩) d.length aa) d.length (d.map enc).flatten) :
  (sortWorldK enc k w g 0 m d'.toArray os).ownsRow B e k (.slice (some ⟨g,0,none⟩) d.length aa) d.length (d'.map enc).flatten:=by
 rcases h.2 with ⟨h1,_⟩ | ⟨g',c',cur,h1,hB,h2,h3,h4,h5,h6⟩
 ·cases h1
 ·simp only[qc,Option.some.injEq,Addr.mk.injEq] at h1
  obtain⟨⟨rfl,_⟩,_,rfl⟩:=h1
  refine⟨by rw[zeJ enc k hk,hd],Or.inr ⟨g,aa,putCells id 0 (flatK enc k d'.toArray) cur,rfl,hB,?_,h3,h4,by simp[putCells,h5],?_⟩⟩
  ·have hl:=zE h2
   simp only[sortWorldK,grow,putRowK,putRow,mapBlock,Go.Sort.ahead]
   rw[Array.getElem?_append_left (by simpa using hl),Array.getElem?_modify,if_pos rfl,h2]
   rfl
  ·have:=znU (flatK enc k d'.toArray) cur (by simp;rw[hd,h5];exact Nat.mul_le_mul_right _ h3)
   rw[zhD enc k hk d'] at this
   rw[<-this];simp[hd]
end Go.Proofs.YtfocdefchbnkpaaGreatDoor
namespace Go.Proofs
open Go.Shelf Go.RowKit Go.Lib Go.Sort
def Tryz.sortHost_ren : Go.Shelf.Ren := ⟨fun | 6 => 150 | 15 => 210 | 14 => 209 | 28 => 284 | 29 => 285 | 20 => 276 | 21 => 277 | 22 => 278 | 23 => 279 | 24 => 280 | 25 => 281 | 26 => 282 | 27 => 283 | 46 => 337 | 47 => 338 | 48 => 339 | 49 => 340 | 50 => 341 | 57 => 385 | n => n, fun | 22 => 86 | 24 => 146 | 25 => 266 | 3 => 3 | 39 => 220 | 0 => 0 | 53 => 152 | 55 => 60 | 4 => 4 | 46 => 373 | 45 => 372 | 50 => 377 | 5 => 5 | 9 => 9 | 66 => 408 | 70 => 411 | 76 => 437 | 77 => 132 | n => n, fun | n => n⟩
theorem Tryz.sortHost : Go.Proofs.SlLaysF0.n6 Tryz.prog Tryz.sortHost_ren := {
  mixed := by kernel_rfl
  f6 := ⟨Tryz.f150.name, by decide, Tryz.func150.trans (congrArg some (by kernel_rfl))⟩
  f14 := ⟨Tryz.f209.name, by decide, Tryz.func209.trans (congrArg some (by kernel_rfl))⟩
  f15 := Tryz.func210.trans (congrArg some (by kernel_rfl))
  f20 := ⟨Tryz.f276.name, by decide, Tryz.func276.trans (congrArg some (by kernel_rfl))⟩
  f21 := ⟨Tryz.f277.name, by decide, Tryz.func277.trans (congrArg some (by kernel_rfl))⟩
  f22 := ⟨Tryz.f278.name, by decide, Tryz.func278.trans (congrArg some (by kernel_rfl))⟩
  f23 := ⟨Tryz.f279.name, by decide, Tryz.func279.trans (congrArg some (by kernel_rfl))⟩
  f24 := ⟨Tryz.f280.name, by decide, Tryz.func280.trans (congrArg some (by kernel_rfl))⟩
  f25 := ⟨Tryz.f281.name, by decide, Tryz.func281.trans (congrArg some (by kernel_rfl))⟩
  f26 := ⟨Tryz.f282.name, by decide, Tryz.func282.trans (congrArg some (by kernel_rfl))⟩
  f27 := ⟨Tryz.f283.name, by decide, Tryz.func283.trans (congrArg some (by kernel_rfl))⟩
  f28 := Tryz.func284.trans (congrArg some (by kernel_rfl))
  f29 := Tryz.func285.trans (congrArg some (by kernel_rfl))
  f46 := ⟨Tryz.f337.name, by decide, Tryz.func337.trans (congrArg some (by kernel_rfl))⟩
  f47 := Tryz.func338.trans (congrArg some (by kernel_rfl))
  f48 := Tryz.func339.trans (congrArg some (by kernel_rfl))
  f49 := ⟨Tryz.f340.name, by decide, Tryz.func340.trans (congrArg some (by kernel_rfl))⟩
  f50 := ⟨Tryz.f341.name, by decide, Tryz.func341.trans (congrArg some (by kernel_rfl))⟩
  f57 := ⟨Tryz.f385.name, by decide, Tryz.func385.trans (congrArg some (by kernel_rfl))⟩
  t0 := Tryz.underlying0
  a0 := Tryz.isAgg0
  z0 := Tryz.sizeOf0
  v0 := Tryz.zeroValue0
  t3 := Tryz.underlying3
  a3 := Tryz.isAgg3
  z3 := Tryz.sizeOf3
  v3 := Tryz.zeroValue3
  t4 := Tryz.underlying4
  a4 := Tryz.isAgg4
  z4 := Tryz.sizeOf4
  v4 := Tryz.zeroValue4
  t5 := Tryz.underlying5
  a5 := Tryz.isAgg5
  z5 := Tryz.sizeOf5
  v5 := Tryz.zeroValue5
  t9 := Tryz.underlying9
  a9 := Tryz.isAgg9
  z9 := Tryz.sizeOf9
  v9 := Tryz.zeroValue9
  t22 := Tryz.underlying86
  a22 := Tryz.isAgg86
  z22 := Tryz.sizeOf86
  v22 := Tryz.zeroValue86
  t25 := Tryz.underlying266
  a25 := Tryz.isAgg266
  z25 := Tryz.sizeOf266
  v25 := Tryz.zeroValue266
  t39 := Tryz.underlying220
  a39 := Tryz.isAgg220
  z39 := Tryz.sizeOf220
  v39 := Tryz.zeroValue220
  t45 := Tryz.underlying372
  a45 := Tryz.isAgg372
  z45 := Tryz.sizeOf372
  v45 := Tryz.zeroValue372
  t46 := Tryz.underlying373
  a46 := Tryz.isAgg373
  z46 := Tryz.sizeOf373
  v46 := Tryz.zeroValue373
  t50 := Tryz.underlying377
  a50 := Tryz.isAgg377
  z50 := Tryz.sizeOf377
  v50 := Tryz.zeroValue377
  t53 := Tryz.underlying152
  a53 := Tryz.isAgg152
  z53 := Tryz.sizeOf152
  v53 := Tryz.zeroValue152
  t55 := Tryz.underlying60
  a55 := Tryz.isAgg60
  z55 := Tryz.sizeOf60
  v55 := Tryz.zeroValue60
  t66 := Tryz.underlying408
  a66 := Tryz.isAgg408
  z66 := Tryz.sizeOf408
  v66 := Tryz.zeroValue408
  t70 := Tryz.underlying411
  a70 := Tryz.isAgg411
  z70 := Tryz.sizeOf411
  v70 := Tryz.zeroValue411
  t76 := Tryz.underlying437
  a76 := Tryz.isAgg437
  z76 := Tryz.sizeOf437
  v76 := Tryz.zeroValue437
  t77 := Tryz.underlying132
  a77 := Tryz.isAgg132
  z77 := Tryz.sizeOf132
  v77 := Tryz.zeroValue132 }
def Tryz.sortRule_ren : Go.Shelf.Ren := ⟨fun | 6 => 153 | 15 => 210 | 14 => 212 | 28 => 284 | 29 => 285 | 20 => 286 | 21 => 287 | 22 => 288 | 23 => 289 | 24 => 290 | 25 => 291 | 26 => 292 | 27 => 293 | 46 => 342 | 47 => 338 | 48 => 339 | 49 => 343 | 50 => 344 | 57 => 386 | n => n, fun | 22 => 144 | 24 => 213 | 25 => 268 | 3 => 3 | 39 => 220 | 0 => 0 | 53 => 152 | 55 => 60 | 4 => 4 | 46 => 373 | 45 => 372 | 50 => 377 | 5 => 5 | 9 => 9 | 66 => 408 | 70 => 411 | 76 => 437 | 77 => 132 | n => n, fun | n => n⟩
theorem Tryz.sortRule : Go.Proofs.SlLaysF0.n6 Tryz.prog Tryz.sortRule_ren := {
  mixed := by kernel_rfl
  f6 := ⟨Tryz.f153.name, by decide, Tryz.func153.trans (congrArg some (by kernel_rfl))⟩
  f14 := ⟨Tryz.f212.name, by decide, Tryz.func212.trans (congrArg some (by kernel_rfl))⟩
  f15 := Tryz.func210.trans (congrArg some (by kernel_rfl))
  f20 := ⟨Tryz.f286.name, by decide, Tryz.func286.trans (congrArg some (by kernel_rfl))⟩
  f21 := ⟨Tryz.f287.name, by decide, Tryz.func287.trans (congrArg some (by kernel_rfl))⟩
  f22 := ⟨Tryz.f288.name, by decide, Tryz.func288.trans (congrArg some (by kernel_rfl))⟩
  f23 := ⟨Tryz.f289.name, by decide, Tryz.func289.trans (congrArg some (by kernel_rfl))⟩
  f24 := ⟨Tryz.f290.name, by decide, Tryz.func290.trans (congrArg some (by kernel_rfl))⟩
  f25 := ⟨Tryz.f291.name, by decide, Tryz.func291.trans (congrArg some (by kernel_rfl))⟩
  f26 := ⟨Tryz.f292.name, by decide, Tryz.func292.trans (congrArg some (by kernel_rfl))⟩
  f27 := ⟨Tryz.f293.name, by decide, Tryz.func293.trans (congrArg some (by kernel_rfl))⟩
  f28 := Tryz.func284.trans (congrArg some (by kernel_rfl))
  f29 := Tryz.func285.trans (congrArg some (by kernel_rfl))
  f46 := ⟨Tryz.f342.name, by decide, Tryz.func342.trans (congrArg some (by kernel_rfl))⟩
  f47 := Tryz.func338.trans (congrArg some (by kernel_rfl))
  f48 := Tryz.func339.trans (congrArg some (by kernel_rfl))
  f49 := ⟨Tryz.f343.name, by decide, Tryz.func343.trans (congrArg some (by kernel_rfl))⟩
  f50 := ⟨Tryz.f344.name, by decide, Tryz.func344.trans (congrArg some (by kernel_rfl))⟩
  f57 := ⟨Tryz.f386.name, by decide, Tryz.func386.trans (congrArg some (by kernel_rfl))⟩
  t0 := Tryz.underlying0
  a0 := Tryz.isAgg0
  z0 := Tryz.sizeOf0
  v0 := Tryz.zeroValue0
  t3 := Tryz.underlying3
  a3 := Tryz.isAgg3
  z3 := Tryz.sizeOf3
  v3 := Tryz.zeroValue3
  t4 := Tryz.underlying4
  a4 := Tryz.isAgg4
  z4 := Tryz.sizeOf4
  v4 := Tryz.zeroValue4
  t5 := Tryz.underlying5
  a5 := Tryz.isAgg5
  z5 := Tryz.sizeOf5
  v5 := Tryz.zeroValue5
  t9 := Tryz.underlying9
  a9 := Tryz.isAgg9
  z9 := Tryz.sizeOf9
  v9 := Tryz.zeroValue9
  t22 := Tryz.underlying144
  a22 := Tryz.isAgg144
  z22 := Tryz.sizeOf144
  v22 := Tryz.zeroValue144
  t25 := Tryz.underlying268
  a25 := Tryz.isAgg268
  z25 := Tryz.sizeOf268
  v25 := Tryz.zeroValue268
  t39 := Tryz.underlying220
  a39 := Tryz.isAgg220
  z39 := Tryz.sizeOf220
  v39 := Tryz.zeroValue220
  t45 := Tryz.underlying372
  a45 := Tryz.isAgg372
  z45 := Tryz.sizeOf372
  v45 := Tryz.zeroValue372
  t46 := Tryz.underlying373
  a46 := Tryz.isAgg373
  z46 := Tryz.sizeOf373
  v46 := Tryz.zeroValue373
  t50 := Tryz.underlying377
  a50 := Tryz.isAgg377
  z50 := Tryz.sizeOf377
  v50 := Tryz.zeroValue377
  t53 := Tryz.underlying152
  a53 := Tryz.isAgg152
  z53 := Tryz.sizeOf152
  v53 := Tryz.zeroValue152
  t55 := Tryz.underlying60
  a55 := Tryz.isAgg60
  z55 := Tryz.sizeOf60
  v55 := Tryz.zeroValue60
  t66 := Tryz.underlying408
  a66 := Tryz.isAgg408
  z66 := Tryz.sizeOf408
  v66 := Tryz.zeroValue408
  t70 := Tryz.underlying411
  a70 := Tryz.isAgg411
  z70 := Tryz.sizeOf411
  v70 := Tryz.zeroValue411
  t76 := Tryz.underlying437
  a76 := Tryz.isAgg437
  z76 := Tryz.sizeOf437
  v76 := Tryz.zeroValue437
  t77 := Tryz.underlying132
  a77 := Tryz.isAgg132
  z77 := Tryz.sizeOf132
  v77 := Tryz.zeroValue132 }
def Tryz.bitsLen_ren : Go.Shelf.Ren := ⟨fun | 125 => 210 | 128 => 284 | 129 => 285 | n => n, fun | 46 => 220 | 3 => 3 | 51 => 152 | 53 => 60 | 4 => 4 | 5 => 5 | 9 => 9 | n => n, fun | n => n⟩
theorem Tryz.bitsLen : Go.Proofs.Lays.n125 Tryz.prog Tryz.bitsLen_ren := {
  mixed := by kernel_rfl
  f125 := Tryz.func210.trans (congrArg some (by kernel_rfl))
  f128 := Tryz.func284.trans (congrArg some (by kernel_rfl))
  f129 := Tryz.func285.trans (congrArg some (by kernel_rfl))
  t3 := Tryz.underlying3
  a3 := Tryz.isAgg3
  z3 := Tryz.sizeOf3
  v3 := Tryz.zeroValue3
  t4 := Tryz.underlying4
  a4 := Tryz.isAgg4
  z4 := Tryz.sizeOf4
  v4 := Tryz.zeroValue4
  t5 := Tryz.underlying5
  a5 := Tryz.isAgg5
  z5 := Tryz.sizeOf5
  v5 := Tryz.zeroValue5
  t9 := Tryz.underlying9
  a9 := Tryz.isAgg9
  z9 := Tryz.sizeOf9
  v9 := Tryz.zeroValue9
  t46 := Tryz.underlying220
  a46 := Tryz.isAgg220
  z46 := Tryz.sizeOf220
  v46 := Tryz.zeroValue220
  t51 := Tryz.underlying152
  a51 := Tryz.isAgg152
  z51 := Tryz.sizeOf152
  v51 := Tryz.zeroValue152
  t53 := Tryz.underlying60
  a53 := Tryz.isAgg60
  z53 := Tryz.sizeOf60
  v53 := Tryz.zeroValue60 }
theorem Tryz.hlen (n : Nat) (W : World) (h : n ≤ 12) : Calls Tryz.prog 210 #[.int .u64 n] W fun e w' => (∃ l : Int, e = .returned (.int .i64 l)) ∧ w' = W :=
  (Any.bits_Len Tryz.bitsLen n W (by omega) (by omega)).mono fun _ _ ⟨he, hw⟩ => ⟨⟨_, he⟩, hw⟩
end Go.Proofs
namespace Go.Proofs.YtfocdefchbnkpaaGreatDoor
open Go.RowKit
theorem vu (w:World)(n:Nat):w.grownBy (w.drewN n) none:=by
 induction n with
 | zero=>exact zM _ _
 | succ n ih=>exact zA ih (zQ _)
def zb8 (r:R.Rl)(out:List R.Rl):Nat:=(out.takeWhile fun o=>decide (o.number<r.number)).length
def ziT (out:List R.Rl)(r:R.Rl):List R.Rl:=out.take (zb8 r out)++[r]++out.drop (zb8 r out)
def ym (l:List R.Rl):List R.Rl:=l.foldl ziT []
theorem zp7 (r:R.Rl)(aa:List R.Rl):zb8 r aa<=aa.length:=by
 unfold zb8
 exact(List.takeWhile_sublist _).length_le
theorem zp8 (aa:List R.Rl)(r:R.Rl):(ziT aa r).length=aa.length+1:=by
 have:=zp7 r aa
 unfold ziT
 simp
 omega
theorem ziJ (l:List R.Rl):(ym l).length=l.length:=by
 unfold ym
 have:∀(l aa:List R.Rl),(l.foldl ziT aa).length=aa.length+l.length:=by
  intro l
  induction l with
  | nil=>intro aa;rfl
  | cons a l ih=>intro aa;rw[List.foldl_cons,ih,zp8];simp;omega
 rw[this];simp
theorem All2.len {α β:Type}{P:α->β->Prop}{l:List α}{m:List β}(h:All2 P l m):l.length=m.length:=by
 induction h with
 | nil=>rfl
 | cons _ _ ih=>simp[ih]
theorem All2.get {α β:Type}{P:α->β->Prop}{l:List α}{m:List β}(h:All2 P l m)(k:Nat)(h1:k<l.length)(h2:k<m.length):P l[k] m[k]:=by
 induction h generalizing k with
 | nil=>simp at h1
 | cons h _ ih=>
  match k with
  | 0=>exact h
  | k+1=>exact ih k (by simpa using h1) (by simpa using h2)
end Go.Proofs.YtfocdefchbnkpaaGreatDoor
namespace Go.Proofs.YtfocdefchbnkpaaGreatDoor
open Go.RowKit
namespace R
theorem overS_bad {t:Tok}{st:St}{ok:Bool}(h:0<=st.bad):overS t st ok=st:=by unfold overS;rw[if_pos h]
theorem needS_bad {ts:List Tok}{st:St}{s:List UInt8}(h:0<=st.bad):needS ts st s=st:=overS_bad h
theorem kindS_bad {ts:List Tok}{st:St}{k:Int}(h:0<=st.bad):kindS ts st k=st:=overS_bad h
theorem notS_bad {st:St}{ok:Bool}{e a:Int}(h:0<=st.bad):notS st ok e a=st:=by
 unfold notS;rw[if_neg];intro c;omega
theorem isB_bad {st:St}{t:Tok}{s:List UInt8}(h:0<=st.bad):isB st t s=false:=by
 unfold isB;rw[decide_eq_false (by omega)];rfl
theorem pathS_bad {ts:List Tok}{st:St}(h:0<=st.bad):(pathS ts st).2=st:=by
 unfold pathS;simp only;rw[kindS_bad h,notS_bad h]
theorem valueS_bad {ts:List Tok}{st:St}(h:0<=st.bad):(valueS ts st).2=st:=by
 unfold valueS;simp only;rw[needS_bad h,kindS_bad h,notS_bad h]
theorem among_bad {l:List (List UInt8)}{s:List UInt8}{p:Int}{st:St}(h:0<=st.bad):among l s p st=st:=by
 unfold among
 induction l with
 | nil=>rfl
 | cons a l ih=>rw[List.foldl_cons,notS_bad h];exact ih
theorem amongN_bad {l:List Int}{n p:Int}{st:St}(h:0<=st.bad):amongN l n p st=st:=by
 unfold amongN
 induction l with
 | nil=>rfl
 | cons a l ih=>rw[List.foldl_cons,notS_bad h];exact ih
theorem headerS_bad {ts:List Tok}{st:St}{l:List (List UInt8)}(h:0<=st.bad):(headerS ts st l).2=st:=by
 unfold headerS;simp only;rw[kindS_bad h,notS_bad h,among_bad h]
theorem mtLoop_bad {ts:List Tok}{n:Nat}{st:St}{aa:List Mt}(h:0<=st.bad):mtLoop ts n st aa=(aa,st):=by
 cases n with
 | zero=>rfl
 | succ n=>unfold mtLoop;rw[isB_bad h];rfl
theorem tgLoop_bad {ts:List Tok}{n i:Nat}{st:St}{aa:List (List UInt8×Int)}(h:0<=st.bad):tgLoop ts n st i aa=(aa,st):=by
 cases n with
 | zero=>rfl
 | succ n=>unfold tgLoop;rw[if_neg (by omega)]
theorem targetsS_bad {ts:List Tok}{st:St}(h:0<=st.bad):(targetsS ts st).2=st:=by
 unfold targetsS;simp only;rw[needS_bad h,notS_bad h,tgLoop_bad h];simp only;rw[needS_bad h]
theorem stLoop_bad {ts:List Tok}{n:Nat}{st:St}{aa:List (List UInt8×List UInt8)}(h:0<=st.bad):stLoop ts n st aa=(aa,st):=by
 cases n with
 | zero=>rfl
 | succ n=>unfold stLoop;rw[isB_bad h];rfl
theorem dpLoop_bad {ts:List Tok}{ab:List (List UInt8)}{n:Nat}{st:St}{aa:List (List UInt8)}(h:0<=st.bad):dpLoop ts ab n st aa=(aa,st):=by
 cases n with
 | zero=>rfl
 | succ n=>unfold dpLoop;rw[isB_bad h];rfl
theorem editsS_bad {ts:List Tok}{st:St}(h:0<=st.bad):(editsS ts st).2=st:=by
 unfold editsS;simp only;rw[stLoop_bad h];simp only;rw[dpLoop_bad h]
theorem rlB_bad {ts:List Tok}{st:St}(h:0<=st.bad):(rlB ts st).2=st:=by
 unfold rlB;simp only;rw[needS_bad h,needS_bad h,pathS_bad h,needS_bad h]
theorem rlC_bad {ts:List Tok}{st:St}(h:0<=st.bad):(rlC ts st).2=st:=by
 unfold rlC;rw[isB_bad h];rfl
theorem rlA_bad {ts:List Tok}{st:St}{i:Nat}{l:List Int}(h:0<=st.bad):(rlA ts st i l).2=st:=by
 unfold rlA rlA2;simp only;rw[needS_bad h,notS_bad h,kindS_bad h,notS_bad h,amongN_bad h]
theorem ruleS_bad {ts:List Tok}{st:St}{i:Nat}{l:List Int}(h:0<=st.bad):(ruleS ts st i l).2=st:=by
 unfold ruleS ruleT ruleE matchesS;simp only
 rw[rlA_bad h,rlB_bad h,mtLoop_bad h];simp only
 rw[targetsS_bad h,rlC_bad h,editsS_bad h,needS_bad h]
theorem rlLoop_bad {ts:List Tok}{n:Nat}{st:St}{aa:List Rl}(h:0<=st.bad):rlLoop ts n st aa=(aa,st):=by
 cases n with
 | zero=>rfl
 | succ n=>unfold rlLoop;rw[isB_bad h];rfl
theorem rlLoop_K (ts:List Tok)(n:Nat):∀(st:St) (aa:List Rl),st.K<=(rlLoop ts n st aa).2.K:=by
 induction n with
 | zero=>intro st aa;exact zZ _
 | succ n ih=>
  intro st aa;unfold rlLoop;split
  ·rename_i h
   have h1:=ruleS_K ts st aa.length (aa.map Rl.number) h
   have h2:=ih (ruleS ts st aa.length (aa.map Rl.number)).2 (aa++[(ruleS ts st aa.length (aa.map Rl.number)).1])
   omega
  ·exact zZ _
theorem hsA_K (ts:List Tok)(st:St)(l:List (List UInt8)):(needS ts st wHost).K<=(hsA ts st l).2.K:=by
 unfold hsA hsA2;simp only[among_K,notS_K]
 have:=kindS_K ts (notS (needS ts st wHost) (decide ((l.length:Int)<4)) 3 (cur ts st).at_) 34
 rwa[notS_K] at this
theorem hsB_K (ts:List Tok)(a:List UInt8×St):a.2.K<=(hsB ts a).2.K:=by
 unfold hsB;simp only
 exact zp (zp (needS_K _ _ _) (rlLoop_K _ _ _ _)) (needS_K _ _ _)
theorem hsA_bad {ts:List Tok}{st:St}{l:List (List UInt8)}(h:0<=(needS ts st wHost).bad):(hsA ts st l).2=needS ts st wHost:=by
 unfold hsA hsA2;simp only
 rw[notS_bad h,kindS_bad h,notS_bad h,among_bad h]
theorem hsB_bad {ts:List Tok}{a:List UInt8×St}(h:0<=a.2.bad):(hsB ts a).2=a.2:=by
 unfold hsB;simp only
 rw[needS_bad h,rlLoop_bad h];simp only;rw[needS_bad h]
theorem needS_no {ts:List Tok}{st:St}{s:List UInt8}(hb:st.bad<0)(h:isB st (cur ts st) s=false):(needS ts st s).bad=(cur ts st).at_:=by
 unfold needS overS;rw[if_neg (by omega),h];rfl
theorem hostS_go (ts:List Tok)(st:St)(l:List (List UInt8))(hb:st.bad<0)(hg:(hostS ts st l).2.bad<0):st.K+1<=(hostS ts st l).2.K:=by
 cases h:isB st (cur ts st) wHost with
 | true=>
  have h1:(needS ts st wHost).K=st.K+1:=by rw[needS_yes h]
  have h2:=hsA_K ts st l
  have h3:=hsB_K ts (hsA ts st l)
  unfold hostS;omega
 | false=>
  exfalso
  have h1:=needS_no hb h
  have h0:0<=(needS ts st wHost).bad:=by rw[h1];omega
  unfold hostS at hg
  rw[hsB_bad (by rw[hsA_bad h0];exact h0),hsA_bad h0] at hg
  omega
def hsLoop (ts:List Tok):Nat->St->List Hst->List Hst×St
 | 0,st,acc=>(acc,st)
 | n+1,st,acc=>if st.bad<0/\(cur ts st).k≠0 then hsLoop ts n (hostS ts st (acc.map Hst.name)).2 (acc++[(hostS ts st (acc.map Hst.name)).1]) else (acc,st)
def st0:St:=⟨0,-1,0,0⟩
def readS (l:List UInt8):List Hst×St:=hsLoop (toks l) ((toks l).length+2) st0 []
end R
end Go.Proofs.YtfocdefchbnkpaaGreatDoor
