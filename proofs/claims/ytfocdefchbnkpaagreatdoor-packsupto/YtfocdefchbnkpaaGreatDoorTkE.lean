/- Taking packed policies apart, as the document's own functions do it: what a rule sets and drops. -/
import Derived.Test.YtfocdefchbnkpaaGreatDoorAli
import Derived.Test.YtfocdefchbnkpaaGreatDoorPrA
import Derived.Test.YtfocdefchbnkpaaGreatDoorProR
import Derived.Laws.CopyOwn
import Derived.Deep.OwnRows
set_option maxRecDepth 100000
set_option maxHeartbeats 20000000
namespace Go.Proofs.YtfocdefchbnkpaaGreatDoor
open Go.RowKit
theorem TInv.tlt {w:World}{tb:Nat}{v:Value}{b:List UInt8}{s:T.St}(h:TInv w tb v b s):tb<w.heap.size:=by obtain⟨_,_,_,q⟩:=h.ex;exact zI q
theorem TInv.other {w w':World}{tb:Nat}{v:Value}{b:List UInt8}{s:T.St}(h:TInv w tb v b s){k:Nat}(hg:w.grownBy w' (some k))(h1:k≠tb)(h2:b=[]\/∀g o n c,v = .slice (some ⟨g,o,none⟩) n c->g≠k):TInv w' tb v b s:=by
 obtain⟨p,q1,q2,q3⟩:=h.ex
 refine⟨⟨p,q1,q2,zF q3 hg (fun c=>h1 (x5 c).symm)⟩,?_,h.ap,h.len⟩
 rcases h2 with h2 | h2
 ·subst h2
  obtain⟨a,c,rfl,_⟩:=h.rd.form
  exact Or.inl ⟨a,c,rfl,rfl⟩
 ·exact h.rd.keep hg (fun g o n c e c2=>h2 g o n c e (x5 c2).symm)
theorem t6 {α:Type}(f:T.St->α×T.St)(aa:List α)(N i:Nat)(st:T.St)(h:i<N) :
  (aa++(qi f (N - i) st).1,(qi f (N - i) st).2)=((aa++[(f st).1])++(qi f (N - (i+1)) (f st).2).1,(qi f (N - (i+1)) (f st).2).2):=by
 rw[show N - i=N - (i+1)+1 by omega,x4];rfl
theorem uY {α:Type}(f:T.St->α×T.St)(V:α->Prop)(hf:∀s,V (f s).1):∀(n:Nat) (s:T.St),∀x∈(qi f n s).1,V x
 | 0,_,x,hx=>by cases hx
 | n+1,s,x,hx=>by
  unfold qi at hx
  rcases List.mem_cons.1 hx with h | h
  ·rw[h];exact hf s
  ·exact uY f V hf n _ x h
def ux (l:List (List UInt8))(i:Nat)(s:T.St):T.St:=jg (l.take i) (l.drop i) s
theorem zlD (l:List (List UInt8))(s:T.St):ux l 0 s=jg [] l s:=by unfold ux;simp
theorem zoM (l:List (List UInt8))(s:T.St):ux l l.length s=s:=by unfold ux;simp[jg]
theorem zl4 (l:List (List UInt8))(i:Nat)(s:T.St)(h:i<l.length) :
  ux l i s=ux l (i+1) ((l.take i).foldl (fun s a=>qT s (decide (l[i]≠a))) (qT s (R.header l[i] false))):=by
 unfold ux
 rw[List.drop_eq_getElem_cons h,jg,uo h]
def uf (l:List (List UInt8))(x:List UInt8)(k:Nat)(s:T.St):T.St:=(l.take k).foldl (fun s a=>qT s (decide (x≠a))) s
theorem zlQ (l:List (List UInt8))(x:List UInt8)(k:Nat)(s:T.St)(h:k<l.length):uf l x (k+1) s=qT (uf l x k s) (decide (x≠l[k])):=by
 unfold uf
 rw[uo h,List.foldl_append];rfl
theorem zdD {w:World}{tb:Nat}{v:Value}{b:List UInt8}{s:T.St}(h:TInv w tb v b s)(ub:Nat)(c0 c1 c2 c3 c4 c5:Value)
  (hu:w.heap[ub]?=some (.cells #[c0,c1,c2,c3,c4,c5,.slice none 0 0,.slice none 0 0] 126 (0,0))) (ay:ub≠tb) (ce:b=[]\/∀g o n c,v = .slice (some ⟨g,o,none⟩) n c->g≠ub) :
  Calls Tryz.prog 198 #[.pointer (some ⟨tb,0,none⟩),.pointer (some ⟨ub,0,none⟩)] w fun e w'=>e = .returned (.tuple #[])/\TInv w' tb v b (xa s).2/\Kept2 w w' tb ub/\
   ∃vS vD,w'.heap[ub]?=some (.cells #[c0,c1,c2,c3,c4,c5,vS,vD] 126 (0,0))/\w'.ownsRow w.heap.size 185 2 vS (xa s).1.1.length (qH (xa s).1.1)/\w'.ownsRow w.heap.size 9 1 vD (xa s).1.2.length (zf (xa s).1.2):=by
 obtain⟨i0,hi,di,dj,dk⟩:=info_parts zm1
 obtain⟨i1,hj,bl,bm,bn⟩:=info_parts fC
 have c8:(zy 3 s).1<=255:=ww 3 s (by omega)
 have HP:Y (xa s=(((vB s).1,(wg (vB s).2).1),jg [] ((vB s).1.map Prod.fst++(wg (vB s).2).1) (wg (vB s).2).2)):=rfl
 have a5:Y (vB s=qi T.st (zy 3 s).1 (zy 3 s).2):=rfl
 have aR:Y (∀x∈(vB s).1,x.1.length<=255):=uY T.st _ (fun s=>jB s) _ _
 have H0:Y (TInv w tb v b s):=h
 have cM:Y (w.heap[ub]?=some (.cells #[c0,c1,c2,c3,c4,c5,.slice none 0 0,.slice none 0 0] 126 (0,0))):=hu
 have dz:tb<w.heap.size:=h.tlt
 have dP:=zI hu
 have bR:Y (b=[]\/∀g o n c,v = .slice (some ⟨g,o,none⟩) n c->g≠ub):=ce
 have aF:Y (∀(wu w':World) (s1:T.St) (row:Option Nat),TInv wu tb v b s1->wu.grownBy w' row->(∀k,row=some k->w.heap.size<=k)->TInv w' tb v b s1):=fun wu w' s1 row h1 h2 h3=>h.far h1 h2 h3
 have HF:Y (Calls Tryz.prog 142 #[.pointer (some ⟨tb,0,none⟩),.int .i64 (3:Nat)] w fun e w'=>e = .returned (.int .i64 ((zy 3 s).1:Nat))/\TInv w' tb v b (zy 3 s).2/\w.grownBy w' (some tb)):=vh h 3
 clear h hu ce
 generalize xa s=res at*
 generalize vB s=q at*
 generalize zy 3 s=fw at*
 obtain⟨N,s1⟩:=fw
 simp only at HF c8 a5
 go_enter Tryz.func198,Tryz.ntmps198
 go_wp2_with fail
 refine HF.o.mono ?_
 rintro e w1 ⟨rfl,ch,g1⟩
 have I1:Y (TInv w1 tb v b s1):=ch
 have K1:Y (Kept2 w w1 tb ub):=(Kept2.refl w tb ub).step g1
 have U1:=J (zF cM.o g1 (fun c=>ay (x5 c)))
 clear ch g1 HF
 go_wp2_with fail
 go_loopw [4,6] (fun u iv wr=>∃(i:Nat) (ab:List (List UInt8×List UInt8)) (st:T.St) (vS:Value),i<=N/\ab.length=i/\iv = .int .i64 i/\Y (q=(ab++(qi T.st (N - i) st).1,(qi T.st (N - i) st).2))/\Y (TInv wr tb v b st)/\Y (Kept2 w wr tb ub)/\Y (wr.heap[ub]?=some (.cells #[c0,c1,c2,c3,c4,c5,vS,.slice none 0 0] 126 (0,0)))/\Y (wr.ownsRow w.heap.size 185 2 vS ab.length (qH ab))/\Y (wr.ownsRow w.heap.size 9 1 u ab.length (zf (ab.map Prod.fst)))) (fun _ iv _=>N - (intOf iv).toNat)
 case atStart=>exact⟨0,[],s1,_,zo _,rfl,rfl,by show _=_;rw[a5.o];rfl,I1,K1,U1,xd _ _ _ _,xd _ _ _ _⟩
 case round=>
  obtain⟨i,ab,st,vS,dI,db,rfl,HE,IR,HR,HU,HS,HA⟩:=hrel
  subst db
  have dA:tb<wr.heap.size:=IR.o.tlt
  have ez:=HR.o.size
  clear I1 K1 U1 a5
  by_cases bo:ab.length<N
  ·have b5:(ab.length:Int)<N:=by omega
   have aj:Y (q=((ab++[(T.st st).1])++(qi T.st (N - (ab.length+1)) (T.st st).2).1,(qi T.st (N - (ab.length+1)) (T.st st).2).2)):=by show _=_;rw[HE.o];exact t6 T.st ab N ab.length st bo
   have HT:Y (T.st st=(((zr st).1,(zr (zr st).2).1),qT (zr (zr st).2).2 (R.value (zr (zr st).2).1))):=rfl
   have dh:=jB st
   have cf:=jB (zr st).2
   clear HE
   generalize T.st st=ts at*
   obtain⟨va,vc,rfl⟩:=zO HS.o
   have cS:Y (wr.heap[ub]?=some (.cells #[c0,c1,c2,c3,c4,c5,.slice va ab.length vc,.slice none 0 0] 126 (0,0))):=HU.o
   have cH:Y _:=HS.o
   have ct:Y _:=HA.o
   go_wp2_with fail
   refine(jr IR.o).mono ?_
   rintro e ad ⟨rfl,bT,bi⟩
   have bd:Y _:=bT
   have dt:tb<ad.heap.size:=bd.o.tlt
   have eh:wr.heap.size+0<=ad.heap.size:=by have h:=bi.size;simpa using h
   have aL:Y (wr.grownBy ad (some tb)):=bi
   have bt:Y (Kept2 w ad tb ub):=HR.o.step aL.o
   have eu:=bt.o.size
   have cU:=J (zF cS.o aL.o (by simp;omega))
   have bO:Y _:=zS cH.o aL.o (by omega)
   have cu:Y _:=zS ct.o aL.o (by omega)
   clear bi bT
   generalize zr st=tx at*
   obtain⟨nm,s3⟩:=tx
   simp only at bd HT dh cf
   have dl:∀k,((.slice va ab.length vc):Value).ownBlock=some k->k<ad.heap.size:=fun k hk=>(zx bO.o k hk).2
   go_wp2_with fail
   have cP:Y _:=bd.o.keep (zL ad (.cells #[.string (R.str nm),.string ⟨#[]⟩] 185) none)
   have bu:Y (Kept2 w (World.alloc ad (.cells #[.string (R.str nm),.string ⟨#[]⟩] 185)) tb ub):=bt.o.far (zL ad (.cells #[.string (R.str nm),.string ⟨#[]⟩] 185) none) (fun k hk=>by cases hk)
   have cV:=J (zF cU.o (zL ad (.cells #[.string (R.str nm),.string ⟨#[]⟩] 185) none) (by simp))
   have cI:Y _:=qK bO.o (.cells #[.string (R.str nm),.string ⟨#[]⟩] 185)
   have cv:Y _:=qK cu.o (.cells #[.string (R.str nm),.string ⟨#[]⟩] 185)
   have cn:Y ((World.alloc ad (.cells #[.string (R.str nm),.string ⟨#[]⟩] 185)).heap[ad.heap.size]?=some (.cells #[.string (R.str nm),.string ⟨#[]⟩] 185)):=heap_alloc_new _ _
   have ei:ad.heap.size+1<=(World.alloc ad (.cells #[.string (R.str nm),.string ⟨#[]⟩] 185)).heap.size:=by simp
   have en:(World.alloc ad (.cells #[.string (R.str nm),.string ⟨#[]⟩] 185)).heap.size<=ad.heap.size+1:=by simp
   generalize(World.alloc ad (.cells #[.string (R.str nm),.string ⟨#[]⟩] 185))=wL2 at*
   have du:tb<wL2.heap.size:=by omega
   have ev:=bu.o.size
   refine(jr cP.o).mono ?_
   rintro e ag ⟨rfl,bU,bj⟩
   have be:Y _:=bU
   have dv:tb<ag.heap.size:=be.o.tlt
   have ej:wL2.heap.size+0<=ag.heap.size:=by have h:=bj.size;simpa using h
   have aB:Y (wL2.grownBy ag (some tb)):=bj
   have bv:Y (Kept2 w ag tb ub):=bu.o.step aB.o
   have ew:=bv.o.size
   have cW:=J (zF cV.o aB.o (by simp;omega))
   have cJ:Y _:=zS cI.o aB.o (by omega)
   have bD:Y _:=zS cv.o aB.o (by omega)
   have ao:=J (zF cn.o aB.o (by simp;omega))
   clear bj bU
   generalize zr s3=ty at*
   obtain⟨vl,s4⟩:=ty
   simp only at be HT cf
   have dX:=zI ao.o
   have dT:=zuH ao.o
   have dV:=zuG 0 ao.o
   have dU:=zuB ao.o
   have dW:=zuG 1 ao.o
   go_wp2_with fail
   have cQ:Y _:=aF.o _ _ _ _ be.o (zG ag ad.heap.size 1 (.string (R.str vl))) (fun k hk=>by have:=x5 hk;omega)
   have cl:Y (Kept2 w (World.setCell ag ⟨ad.heap.size,1,none⟩ (.string (R.str vl))) tb ub):=bv.o.far (zG ag ad.heap.size 1 (.string (R.str vl))) (fun k hk=>by cases hk;omega)
   have cX:=J (zF cW.o (zG ag ad.heap.size 1 (.string (R.str vl))) (by simp;omega))
   have cK:Y _:=zY cJ.o (zG ag ad.heap.size 1 (.string (R.str vl))) (fun k hk=>by have:=dl k hk;omega)
   have cw:Y _:=zY bD.o (zG ag ad.heap.size 1 (.string (R.str vl))) (zW ao.o bD.o (by decide))
   have co:Y ((World.setCell ag ⟨ad.heap.size,1,none⟩ (.string (R.str vl))).heap[ad.heap.size]?=some (.cells #[.string (R.str nm),.string (R.str vl)] 185)):=zR ao.o (.string (R.str vl))
   have ek:ag.heap.size<=(World.setCell ag ⟨ad.heap.size,1,none⟩ (.string (R.str vl))).heap.size:=by simp[World.setCell]
   have ep:(World.setCell ag ⟨ad.heap.size,1,none⟩ (.string (R.str vl))).heap.size<=ag.heap.size:=by simp[World.setCell]
   generalize(World.setCell ag ⟨ad.heap.size,1,none⟩ (.string (R.str vl)))=wL4 at*
   have dw:tb<wL4.heap.size:=by omega
   have hv:=za5 (R.str vl) wL4 (by rw[R.str_size];unfold maxLen;omega)
   rw[R.str_toList] at hv
   have HV:Y (Calls Tryz.prog 249 #[.string (R.str vl)] wL4 fun e w'=>e = .returned (.bool (R.value vl))/\w'=wL4):=hv
   clear hv
   refine HV.o.mono ?_
   rintro e wX ⟨rfl,cg⟩
   rw[cg]
   clear cg wX HV
   generalize R.value vl=vv at*
   go_wp2_with fail
   refine(yZ cQ.o vv).mono ?_
   rintro e an ⟨rfl,bV,bk⟩
   have bY:Y _:=bV
   have dx:tb<an.heap.size:=bY.o.tlt
   have el:wL4.heap.size+0<=an.heap.size:=by have h:=bk.size;simpa using h
   have aC:Y (wL4.grownBy an (some tb)):=bk
   have aY:Y (Kept2 w an tb ub):=cl.o.step aC.o
   have ex:=aY.o.size
   have b2:=J (zF cX.o aC.o (by simp;omega))
   have bP:Y _:=zS cK.o aC.o (by omega)
   have ax:Y _:=zS cw.o aC.o (by omega)
   have az:=J (zF co.o aC.o (by simp;omega))
   clear bk bV
   generalize qT s4 vv=s5 at*
   have d0:=zI az.o
   have dY:=zuH az.o
   have dZ:=zuB az.o
   go_wp2_with (at_builtin;refine wpList_append_lies _ rfl _ _ 22 rfl (w.heap.size) 9 i1 _ 1 16 Tryz.underlying22 hj bl bm bn rfl (by decide) _ _ _ rfl (qK ax.o _) ⟨an.heap.size,0,none⟩ 1 1 [.string (R.str nm)] rfl rfl ?c1 ?c2 (by decide) ?c3 ?c4 ?c5 (an.heap.size+1) (by simp) ?_)
   case c1=>exact zu _ #[_] _ _ (by simp)
   case c2=>intro u hu;simp at hu;subst hu;rfl
   case c3=>unfold maxLen;omega
   case c4=>omega
   case c5=>have:=aY.o.size;simp;omega
   intro c7 cZ ae cd au dG _
   have cx:Y (ae.ownsRow w.heap.size 9 1 (.slice (some ⟨c7,0,none⟩) (ab.length+1) cZ) (ab.length+1) (zf (ab.map Prod.fst++[nm]))):=by rw[yB];exact cd
   have aJ:∀k,(u4:Value).ownBlock=some k->w.heap.size<=k:=fun k hk=>(zx ax.o k hk).1
   have cj:∀k,(u4:Value).ownBlock=some k->k<an.heap.size:=fun k hk=>(zx ax.o k hk).2
   have bZ:Y _:=aF.o _ _ _ _ (bY.o.keep (zL _ _ _)) au aJ
   have bw:Y (Kept2 w ae tb ub):=(aY.o.step (zL _ _ _)).far au (fun k hk=>by have h1:=aJ k hk;omega)
   have dy:tb<ae.heap.size:=bZ.o.tlt
   have em:an.heap.size+1<=ae.heap.size:=by have h:=au.size;simpa using h
   have ey:=bw.o.size
   have aT:Y (ae.heap[ub]?=some (.cells #[c0,c1,c2,c3,c4,c5,.slice va ab.length vc,.slice none 0 0] 126 (0,0))):=xJ (zF b2.o (zL _ _ none) (by simp)) au (fun k hk=>by have h1:=aJ k hk;have h2:=cj k hk;exact zW b2.o ax.o (by decide) k hk)
   have cL:Y _:=zV (qK bP.o _) au (xF ax.o bP.o (by decide))
   have a0:Y (ae.heap[ad.heap.size]?=some (.cells #[.string (R.str nm),.string (R.str vl)] 185)):=xJ (zF az.o (zL _ _ none) (by simp)) au (fun k hk=>by have h1:=aJ k hk;have h2:=cj k hk;exact zW az.o ax.o (by decide) k hk)
   clear cd au aJ
   have d3:=zI a0.o
   have d1:=zuH a0.o
   have d2:=zuB a0.o
   have d6:=zI aT.o
   have d4:=ztT aT.o
   have d5:=zuG 6 aT.o
   go_wp2
   have gD:ae.grownBy (ae.alloc (.cells #[.string (R.str nm),.string (R.str vl)] 185)).drew none:=zD (zL _ _ _) (zg _)
   have aS:Y ((ae.alloc (.cells #[.string (R.str nm),.string (R.str vl)] 185)).drew.ownsRow w.heap.size 185 2 (.slice va ab.length vc) ab.length (qH ab)):=qK cL.o _
   have cD:Y (∀j u,([.string (R.str nm),.string (R.str vl)]:List Value)[j]?=some u->(ae.alloc (.cells #[.string (R.str nm),.string (R.str vl)] 185)).drew.cell? ((⟨ae.heap.size,0,none⟩:Addr).add j)=some u):=zu ae #[_,_] _ _ rfl
   have cp:Y (∀u∈([.string (R.str nm),.string (R.str vl)]:List Value),u.oneCell'=true):=by intro u hu;simp at hu;rcases hu with rfl | rfl <;> rfl
   have cC:Y (ab.length+1<=maxLen):=by show _<=_;unfold maxLen;omega
   have cz:Y (w.heap.size<=(ae.alloc (.cells #[.string (R.str nm),.string (R.str vl)] 185)).drew.heap.size):=by show _<=_;rw[show(ae.alloc (.cells #[.string (R.str nm),.string (R.str vl)] 185)).drew.heap.size=ae.heap.size+1 from by simp];omega
   have cN:Y ((ae.alloc (.cells #[.string (R.str nm),.string (R.str vl)] 185)).drew.heap.size=ae.heap.size+1):=by show _=_;simp
   have JD:Y _:=bZ.o.keep gD
   have CD:Y (Kept2 w (ae.alloc (.cells #[.string (R.str nm),.string (R.str vl)] 185)).drew tb ub):=bw.o.far gD (fun k hk=>by cases hk)
   have b0:=J (zF aT.o gD (by simp))
   have bA:=J (zV cx.o gD (fun k hk c=>by cases c))
   clear gD
   go_region_law (refine step_append_lies _ rfl (.tmp 42) (.tmp 44) 124 rfl w.heap.size 185 i0 _ 2 32 Tryz.underlying124 hi di dj dk rfl (by decide) _ _ _ (by simp[Act.eval]) aS.o ⟨ae.heap.size,0,none⟩ 1 1 [.string (R.str nm),.string (R.str vl)] (by simp[Act.eval]) rfl cD.o cp.o (by decide) cC.o (by omega) cz.o (ae.heap.size+1) cN.o ?_;intro g9 aI w9 b8 aK dF dO;have bf:∀k,(.slice va ab.length vc:Value).ownBlock=some k->w.heap.size<=k:=fun k hk=>(zx aS.o k hk).1;have J9:Y _:=aF.o _ _ _ _ JD.o aK bf;have C9:Y (Kept2 w w9 tb ub):=CD.o.far aK bf;have aG:=J (xJ b0.o aK (zW b0.o aS.o (by decide)));have dR:=ztT aG.o;have dS:=zuG 6 aG.o;have bJ:Y (w9.ownsRow w.heap.size 185 2 (.slice (some ⟨g9,0,none⟩) (ab.length+1) aI) (ab++[(nm,vl)]).length (qH (ab++[(nm,vl)]))):=(by { rw[jj,zh];exact b8 });have bz:=J (zV bA.o aK (xF aS.o bA.o (by decide)));clear b8 aK bf)
   all_goals
    have gS:=zG w9 ub 6 (.slice (some ⟨g9,0,none⟩) (ab.length+1) aI)
    have JS:Y _:=J9.o.other gS ay bR.o
    have CS:Y (Kept2 w (w9.setCell ⟨ub,6,none⟩ (.slice (some ⟨g9,0,none⟩) (ab.length+1) aI)) tb ub):=C9.o.own gS
    have cR:Y ((w9.setCell ⟨ub,6,none⟩ (.slice (some ⟨g9,0,none⟩) (ab.length+1) aI)).heap[ub]?=some (.cells #[c0,c1,c2,c3,c4,c5,.slice (some ⟨g9,0,none⟩) (ab.length+1) aI,.slice none 0 0] 126 (0,0))):=zR aG.o _
    have cE:Y _:=zY bJ.o gS (zW aG.o bJ.o (by decide))
    have cq:Y _:=zY bz.o gS (zW aG.o bz.o (by decide))
    clear gS
    go_wp2_with fail
    go_roundw
    case rel=>exact⟨ab.length+1,ab++[(nm,vl)],s5,_,by omega,by simp,by go_num,by rw[HT.o] at aj;exact aj,JS,CS,cR,cE,by rw[fJ,zh];exact cq⟩
    case measure=>simp[intOf];omega
  ·have aj:Y (q=(ab,st)):=by
    show _=_
    rw[HE.o,show N - ab.length=0 by omega];simp[qi]
   clear HE
   rw[aj.o] at HP
   simp only at HP
   have c9:(zy 3 st).1<=255:=ww 3 st (by omega)
   have a6:Y (wg st=qi zr (zy 3 st).1 (zy 3 st).2):=rfl
   have aQ:Y (∀x∈(wg st).1,x.length<=255):=uY zr _ (fun s=>jB s) _ _
   rw[aj.o] at aR
   simp only at aR
   have a4:Y (Calls Tryz.prog 142 #[.pointer (some ⟨tb,0,none⟩),.int .i64 (3:Nat)] wr fun e w'=>e = .returned (.int .i64 ((zy 3 st).1:Nat))/\TInv w' tb v b (zy 3 st).2/\wr.grownBy w' (some tb)):=vh IR.o 3
   generalize wg st=d at*
   generalize zy 3 st=fw at*
   obtain⟨M,s7⟩:=fw
   simp only at a4 c9 a6
   go_wp2_with fail
   refine a4.o.mono ?_
   rintro e w2 ⟨rfl,i2,g2⟩
   have I2:Y (TInv w2 tb v b s7):=i2
   have K2:Y (Kept2 w w2 tb ub):=HR.o.step g2
   have U2:=J (zF HU.o g2 (fun c=>ay (x5 c)))
   have b7:∀k,w.heap.size<=k->some tb≠some k:=fun k hk c=>by have:=x5 c;omega
   have S2:=J (zV HS.o g2 (fun k hk=>b7 k (zx HS.o k hk).1))
   have A2:=J (zV HA.o g2 (fun k hk=>b7 k (zx HA.o k hk).1))
   have dD:ab.length<=255:=by omega
   clear i2 g2 a4 IR HR HU HS HA
   go_wp2_with fail
   go_loopw [4,9] (fun u iv wr=>∃(aa:List (List UInt8)) (s2:T.St) (vD:Value),aa.length<=M/\iv = .int .i64 aa.length/\Y (d=(aa++(qi zr (M - aa.length) s2).1,(qi zr (M - aa.length) s2).2))/\Y (TInv wr tb v b s2)/\Y (Kept2 w wr tb ub)/\Y (wr.heap[ub]?=some (.cells #[c0,c1,c2,c3,c4,c5,vS,vD] 126 (0,0)))/\Y (wr.ownsRow w.heap.size 185 2 vS ab.length (qH ab))/\Y (wr.ownsRow w.heap.size 9 1 u (ab.length+aa.length) (zf (ab.map Prod.fst++aa)))/\Y (wr.ownsRow w.heap.size 9 1 vD aa.length (zf aa))/\Y (∀k,u.ownBlock=some k->vD.ownBlock≠some k)) (fun _ iv _=>M - (intOf iv).toNat)
   case atStart=>exact⟨[],s7,_,zo _,rfl,by show _=_;rw[a6.o];rfl,I2,K2,U2,S2,by rw[zb3];exact A2,xd _ _ _ _,by intro k _ hk;simp[Value.ownBlock] at hk⟩
   case round=>
    obtain⟨aa,s2,vD,dC,rfl,HE,IX,HX,a9,a7,av,aN,aZ⟩:=hrel
    have dB:tb<wr.heap.size:=IX.o.tlt
    have eA:=HX.o.size
    clear I2 K2 U2 S2 A2 a6
    by_cases bo:aa.length<M
    ·have b5:(aa.length:Int)<M:=by omega
     have aj:Y (d=((aa++[(zr s2).1])++(qi zr (M - (aa.length+1)) (zr s2).2).1,(qi zr (M - (aa.length+1)) (zr s2).2).2)):=by show _=_;rw[HE.o];exact t6 zr aa M aa.length s2 bo
     clear HE
     obtain⟨da,dc,rfl⟩:=zO aN.o
     have cY:Y (wr.heap[ub]?=some (.cells #[c0,c1,c2,c3,c4,c5,vS,.slice da aa.length dc] 126 (0,0))):=a9.o
     have cF:Y _:=a7.o
     have cr:Y _:=av.o
     have cA:Y _:=aN.o
     go_wp2_with fail
     refine(jr IX.o).mono ?_
     rintro e al ⟨rfl,bS,bh⟩
     have bc:Y _:=bS
     have dp:tb<al.heap.size:=bc.o.tlt
     have ed:wr.heap.size+0<=al.heap.size:=by have h:=bh.size;simpa using h
     have aA:Y (wr.grownBy al (some tb)):=bh
     have aW:Y (Kept2 w al tb ub):=HX.o.step aA.o
     have er:=aW.o.size
     have b1:=J (zF cY.o aA.o (by simp;omega))
     have bL:Y _:=zS cF.o aA.o (by omega)
     have aD:Y _:=zS cr.o aA.o (by omega)
     have bF:Y _:=zS cA.o aA.o (by omega)
     clear bh bS
     generalize zr s2=tx at*
     obtain⟨nm,s3⟩:=tx
     simp only at bc aj
     go_wp2_with (at_builtin;refine wpList_append_lies _ rfl _ _ 22 rfl (w.heap.size) 9 i1 _ 1 16 Tryz.underlying22 hj bl bm bn rfl (by decide) _ _ _ rfl (qK aD.o _) ⟨al.heap.size,0,none⟩ 1 1 [.string (R.str nm)] rfl rfl ?c1 ?c2 (by decide) ?c3 ?c4 ?c5 (al.heap.size+1) (by simp) ?_)
     case c1=>exact zu _ #[_] _ _ (by simp)
     case c2=>intro u hu;simp at hu;subst hu;rfl
     case c3=>unfold maxLen;omega
     case c4=>omega
     case c5=>have:=aW.o.size;simp;omega
     intro c6 b3 ak b9 aq dd _
     have bB:Y (ak.ownsRow w.heap.size 9 1 (.slice (some ⟨c6,0,none⟩) (ab.length+aa.length+1) b3) (ab.length+aa.length+1) (zf (ab.map Prod.fst++aa++[nm]))):=by rw[yB];exact b9
     have aU:∀k,(u4:Value).ownBlock=some k->w.heap.size<=k:=fun k hk=>(zx aD.o k hk).1
     have dm:∀k,(u4:Value).ownBlock=some k->k<al.heap.size:=fun k hk=>(zx aD.o k hk).2
     have bW:Y _:=aF.o _ _ _ _ (bc.o.keep (zL _ _ _)) aq aU
     have aX:Y (Kept2 w ak tb ub):=(aW.o.step (zL _ _ _)).far aq (fun k hk=>by have h1:=aU k hk;omega)
     have dq:tb<ak.heap.size:=bW.o.tlt
     have ee:al.heap.size+1<=ak.heap.size:=by have h:=aq.size;simpa using h
     have es:=aX.o.size
     have aH:Y (ak.heap[ub]?=some (.cells #[c0,c1,c2,c3,c4,c5,vS,.slice da aa.length dc] 126 (0,0))):=xJ (zF b1.o (zL _ _ none) (by simp)) aq (fun k hk=>by have h1:=aU k hk;have h2:=dm k hk;exact zW b1.o aD.o (by decide) k hk)
     have bM:Y _:=zV (qK bL.o _) aq (xF aD.o bL.o (by decide))
     have aE:Y _:=zV (qK bF.o _) aq (fun k hk c=>aZ.o k c hk)
     clear b9 aq aU
     have bx:Y _:=zjN (n:=ab.length+aa.length+1) (c:=b3) aZ.o dd (fun k hk=>by have:=(zx bF.o k hk).2;omega)
     have d9:=zI aH.o
     have d7:=zu0 aH.o
     have d8:=zuG 7 aH.o
     go_wp2_with (at_builtin;refine wpList_append_lies _ rfl _ _ 22 rfl (w.heap.size) 9 i1 _ 1 16 Tryz.underlying22 hj bl bm bn rfl (by decide) _ _ _ rfl (qK aE.o _) ⟨ak.heap.size,0,none⟩ 1 1 [.string (R.str nm)] rfl rfl ?c1 ?c2 (by decide) ?c3 ?c4 ?c5 (ak.heap.size+1) (by simp) ?_)
     case c1=>exact zu _ #[_] _ _ (by simp)
     case c2=>intro u hu;simp at hu;subst hu;rfl
     case c3=>unfold maxLen;omega
     case c4=>omega
     case c5=>have:=aX.o.size;simp;omega
     intro ai ah af cc ar de _
     have bG:Y (af.ownsRow w.heap.size 9 1 (.slice (some ⟨ai,0,none⟩) (aa.length+1) ah) (aa++[nm]).length (zf (aa++[nm]))):=by rw[yB,zh];exact cc
     have aV:∀k,((.slice da aa.length dc):Value).ownBlock=some k->w.heap.size<=k:=fun k hk=>(zx aE.o k hk).1
     have dn:∀k,((.slice da aa.length dc):Value).ownBlock=some k->k<ak.heap.size:=fun k hk=>(zx aE.o k hk).2
     have bX:Y _:=aF.o _ _ _ _ (bW.o.keep (zL _ _ _)) ar aV
     have bs:Y (Kept2 w af tb ub):=(aX.o.step (zL _ _ _)).far ar (fun k hk=>by have h1:=aV k hk;omega)
     have dr:tb<af.heap.size:=bX.o.tlt
     have ef:ak.heap.size+1<=af.heap.size:=by have h:=ar.size;simpa using h
     have et:=bs.o.size
     have ap:Y (af.heap[ub]?=some (.cells #[c0,c1,c2,c3,c4,c5,vS,.slice da aa.length dc] 126 (0,0))):=xJ (zF aH.o (zL _ _ none) (by simp)) ar (fun k hk=>by have h1:=aV k hk;have h2:=dn k hk;exact zW aH.o aE.o (by decide) k hk)
     have bN:Y _:=zV (qK bM.o _) ar (xF aE.o bM.o (by decide))
     have bC:Y _:=zV (qK bB.o _) ar (bx.o)
     clear cc ar aV
     have cm:Y _:=zfD (n:=aa.length+1) (c:=ah) bx.o de (fun k hk=>by have:=(zx bB.o k hk).2;omega)
     have ec:=zI ap.o
     have ea:=zu0 ap.o
     have eb:=zuG 7 ap.o
     go_wp2_with fail
     have cO:Y _:=bX.o.other (zG af ub 7 (.slice (some ⟨ai,0,none⟩) (aa.length+1) ah)) ay bR.o
     have ck:Y (Kept2 w (World.setCell af ⟨ub,7,none⟩ (.slice (some ⟨ai,0,none⟩) (aa.length+1) ah)) tb ub):=bs.o.own (zG af ub 7 (.slice (some ⟨ai,0,none⟩) (aa.length+1) ah))
     have cT:Y ((World.setCell af ⟨ub,7,none⟩ (.slice (some ⟨ai,0,none⟩) (aa.length+1) ah)).heap[ub]?=some (.cells #[c0,c1,c2,c3,c4,c5,vS,.slice (some ⟨ai,0,none⟩) (aa.length+1) ah] 126 (0,0))):=zR ap.o (.slice (some ⟨ai,0,none⟩) (aa.length+1) ah)
     have cG:Y _:=zY bN.o (zG af ub 7 (.slice (some ⟨ai,0,none⟩) (aa.length+1) ah)) (zW ap.o bN.o (by decide))
     have cs:Y _:=zY bC.o (zG af ub 7 (.slice (some ⟨ai,0,none⟩) (aa.length+1) ah)) (zW ap.o bC.o (by decide))
     have cB:Y _:=zY bG.o (zG af ub 7 (.slice (some ⟨ai,0,none⟩) (aa.length+1) ah)) (zW ap.o bG.o (by decide))
     have eg:af.heap.size<=(World.setCell af ⟨ub,7,none⟩ (.slice (some ⟨ai,0,none⟩) (aa.length+1) ah)).heap.size:=by simp[World.setCell]
     have eo:(World.setCell af ⟨ub,7,none⟩ (.slice (some ⟨ai,0,none⟩) (aa.length+1) ah)).heap.size<=af.heap.size:=by simp[World.setCell]
     generalize(World.setCell af ⟨ub,7,none⟩ (.slice (some ⟨ai,0,none⟩) (aa.length+1) ah))=wD4 at*
     have ds:tb<wD4.heap.size:=by omega
     go_roundw
     case rel=>exact⟨aa++[nm],s3,_,by simp;omega,by simp,by rw[zh];exact aj,cO,ck,cT,cG,by rw[zh,<-x4];exact cs.o,cB,cm⟩
     case measure=>simp[intOf];omega
    ·have aj:Y (d=(aa,s2)):=by
      show _=_
      rw[HE.o,show M - aa.length=0 by omega];simp[qi]
     clear HE
     rw[aj.o] at HP aQ
     simp only at HP aQ
     have bg:(ab.map Prod.fst++aa).length=ab.length+aa.length:=by simp
     obtain⟨am,a1⟩:∃am,Y (am=ab.map Prod.fst++aa):=⟨_,rfl⟩
     rw[<-a1.o] at HP av bg
     have cy:Y (∀x∈am,x.length<=255):=fun x hx=>by
      rw[a1.o] at hx
      rcases List.mem_append.1 hx with hx | hx
      ·obtain⟨y,hy,rfl⟩:=List.mem_map.1 hx;exact aR.o y hy
      ·exact aQ.o x hx
     have dE:am.length<=600:=by omega
     rw[<-bg] at av
     obtain⟨ua,uc,rfl⟩:=zO av.o
     have bK:Y (res.1.1=ab/\res.1.2=aa):=by rw[HP.o];exact⟨rfl,rfl⟩
     have bI:Y (res.2=ux am 0 s2):=by show _=_;rw[HP.o,zlD]
     clear HP a1 aR aQ aj aZ bg
     go_wp2_with fail
     go_loopw [11] (fun iv wr=>∃(i:Nat) (s3:T.St),i<=am.length/\iv = .int .i64 i/\Y (res.2=ux am i s3)/\Y (TInv wr tb v b s3)/\Y (Kept2 w wr tb ub)/\Y (wr.heap[ub]?=some (.cells #[c0,c1,c2,c3,c4,c5,vS,vD] 126 (0,0)))/\Y (wr.ownsRow w.heap.size 185 2 vS ab.length (qH ab))/\Y (wr.ownsRow w.heap.size 9 1 (.slice ua am.length uc) am.length (zf am))/\Y (wr.ownsRow w.heap.size 9 1 vD aa.length (zf aa))) (fun iv _=>am.length - (intOf iv).toNat)
     case atStart=>exact⟨0,s2,zo _,rfl,bI,IX,HX,a9,a7,av,aN⟩
     case round=>
      obtain⟨i,s3,dJ,rfl,HL,IY,HY,ba,a8,aM,a3⟩:=hrel
      clear bI IX HX a9 a7 av aN
      by_cases bp:i<am.length
      ·have b5:(i:Int)<am.length:=by omega
       obtain⟨g,gc,e1,_,dH⟩:=World.ownsRow.form aM.o (by omega)
       simp only[qQ,true_and] at e1
       obtain⟨rfl,rfl⟩:=e1
       have bQ:Y (ux am i s3=ux am (i+1) (uf am am[i] i (qT s3 (R.header am[i] false)))):=zl4 am i s3 bp
       rw[bQ.o] at HL
       have dQ:am[i].length<=255:=cy.o _ (List.getElem_mem bp)
       have a2:Y (∀(W:World),W.ownsRow w.heap.size 9 1 (.slice (some ⟨g,0,none⟩) am.length uc) am.length (zf am)->W.cell? ⟨g,i,none⟩=some (.string (R.str am[i]))/\∀k (hk:k<am.length),W.cell? ⟨g,k,none⟩=some (.string (R.str am[k]))):=fun W hW=>by
        have hh:∀k (hk:k<am.length),W.cell? ⟨g,k,none⟩=some (.string (R.str am[k])):=fun k hk=>by
         have h:=qR hW k (by omega)
         rw[h];unfold zf;simp[hk]
        exact⟨hh i bp,hh⟩
       have ci:wr.cell? ⟨g,i,none⟩=some (.string (R.str am[i])):=(a2.o wr aM.o).1
       have hh:=fd (R.str am[i]) false wr (by rw[R.str_size];omega)
       rw[R.str_toList] at hh
       have HH:Y (Calls Tryz.prog 248 #[.string (R.str am[i]),.bool false] wr fun e w'=>e = .returned (.bool (R.header am[i] false))/\Below wr.heap.size wr w'):=hh
       clear hh bQ
       generalize R.header am[i] false=hd at*
       generalize am[i]=x at*
       go_wp2_with fail
       refine HH.o.mono ?_
       rintro e w4 ⟨rfl,b4⟩
       have g4:=qJ b4
       have I4:Y (TInv w4 tb v b s3):=IY.o.keep g4
       have K4:Y (Kept2 w w4 tb ub):=HY.o.far g4 (fun k hk=>by cases hk)
       have U4:=J (zF ba.o g4 (by simp))
       have S4:=J (zV a8.o g4 (fun k hk c=>by cases c))
       have A4:=J (zV aM.o g4 (fun k hk c=>by cases c))
       have D4:=J (zV a3.o g4 (fun k hk c=>by cases c))
       clear b4 g4 HH ci IY HY ba a8 aM a3
       go_wp2_with fail
       refine(yZ I4.o hd).mono ?_
       rintro e w5 ⟨rfl,i5,g5⟩
       have bq:∀k,w.heap.size<=k->some tb≠some k:=fun k hk c=>by have:=x5 c;omega
       have I5:Y (TInv w5 tb v b (uf am x 0 (qT s3 hd))):=i5
       have K5:Y (Kept2 w w5 tb ub):=K4.o.step g5
       have U5:=J (zF U4.o g5 (fun c=>ay (x5 c)))
       have S5:=J (zV S4.o g5 (fun k hk=>bq k (zx S4.o k hk).1))
       have A5:=J (zV A4.o g5 (fun k hk=>bq k (zx A4.o k hk).1))
       have D5:=J (zV D4.o g5 (fun k hk=>bq k (zx D4.o k hk).1))
       clear i5 g5 I4 K4 U4 S4 A4 D4
       generalize qT s3 hd=t0 at*
       go_wp2_with fail
       go_loopw [13] (fun iv wr=>∃(k:Nat),k<=i/\iv = .int .i64 k/\Y (TInv wr tb v b (uf am x k t0))/\Y (Kept2 w wr tb ub)/\Y (wr.heap[ub]?=some (.cells #[c0,c1,c2,c3,c4,c5,vS,vD] 126 (0,0)))/\Y (wr.ownsRow w.heap.size 185 2 vS ab.length (qH ab))/\Y (wr.ownsRow w.heap.size 9 1 (.slice (some ⟨g,0,none⟩) am.length uc) am.length (zf am))/\Y (wr.ownsRow w.heap.size 9 1 vD aa.length (zf aa))) (fun iv _=>i - (intOf iv).toNat)
       case atStart=>exact⟨0,zo _,rfl,I5,K5,U5,S5,A5,D5⟩
       case round=>
        obtain⟨k,dL,rfl,IZ,HZ,bb,aP,aw,aO⟩:=hrel
        clear I5 K5 U5 S5 A5 D5
        by_cases dN:k<i
        ·have dK:(k:Int)<i:=by omega
         have b6:k<am.length:=by omega
         have dM:(k:Int)<am.length:=by omega
         have ca:wr.cell? ⟨g,i,none⟩=some (.string (R.str x)):=(a2.o wr aw.o).1
         have cb:wr.cell? ⟨g,k,none⟩=some (.string (R.str am[k])):=(a2.o wr aw.o).2 k b6
         have bH:Y (uf am x (k+1) t0=qT (uf am x k t0) (decide (x≠am[k]))):=zlQ am x k t0 b6
         generalize am[k]=y at*
         have bE:Y ((!(R.str x).toList == (R.str y).toList)=decide (x≠y)):=by
          show _=_
          rw[ByteArray.toList_eq,ByteArray.toList_eq,R.str_toList,R.str_toList,Bool.eq_iff_iff]
          simp
         have HC:Y (Calls Tryz.prog 141 #[.pointer (some ⟨tb,0,none⟩),.bool (!(R.str x).toList == (R.str y).toList)] wr.drew fun e w'=>e = .returned (.tuple #[])/\TInv w' tb v b (uf am x (k+1) t0)/\wr.grownBy w' (some tb)):=by
          show Calls _ _ _ _ _
          rw[bE.o,bH.o]
          exact(yZ (IZ.o.keep (zg _)) _).mono fun e w' ⟨q1,q2,q3⟩=>⟨q1,q2,zD (zb (zg _) _) q3⟩
         clear bE bH
         go_wp2
         go_region_law (go_simp;go_at_call 141;refine HC.o.mono ?_;rintro e w6 ⟨rfl,i6,g6⟩;have I6:Y (TInv w6 tb v b (uf am x (k+1) t0)):=i6;have G6:Y (wr.grownBy w6 (some tb)):=g6;clear i6 g6)
         all_goals
          have br:∀k,w.heap.size<=k->some tb≠some k:=fun k hk c=>by have:=x5 c;omega
          have K6:Y (Kept2 w w6 tb ub):=HZ.o.step G6.o
          have U6:=J (zF bb.o G6.o (fun c=>ay (x5 c)))
          have S6:=J (zV aP.o G6.o (fun k hk=>br k (zx aP.o k hk).1))
          have A6:=J (zV aw.o G6.o (fun k hk=>br k (zx aw.o k hk).1))
          have D6:=J (zV aO.o G6.o (fun k hk=>br k (zx aO.o k hk).1))
          clear G6 IZ HZ bb aP aw aO ca cb HC
          go_wp2_with fail
          go_roundw
          case rel=>exact⟨k+1,by omega,by go_num,I6,K6,U6,S6,A6,D6⟩
          case measure=>simp[intOf];omega
        ·have dg:k=i:=by omega
         subst dg
         go_wp2_with fail
         go_roundw
         case rel=>exact⟨k+1,uf am x k t0,by omega,by go_num,HL,IZ,HZ,bb,aP,aw,aO⟩
         case measure=>simp[intOf];omega
      ·have df:i=am.length:=by omega
       subst df
       rw[zoM] at HL
       go_wp2
       go_end0
       refine⟨rfl,?_,HY.o,vS,vD,ba.o,?_,?_⟩
       ·rw[HL.o];exact IY.o
       ·rw[bK.o.1];exact a8.o
       ·rw[bK.o.2];exact a3.o
theorem TInv.low {w:World}{tb:Nat}{v:Value}{b:List UInt8}{s:T.St}(h:TInv w tb v b s){k:Nat}(hk:w.heap.size<=k):b=[]\/∀g o n c,v = .slice (some ⟨g,o,none⟩) n c->g≠k:=by
 rcases h.rd with ⟨_,_,_,q⟩ | ⟨g',o',c',q,_,q2,_⟩
 ·exact Or.inl q
 ·refine Or.inr fun g o n c e=>?_
  rw[q] at e
  simp only[qQ,Option.some.injEq,Addr.mk.injEq] at e
  omega
theorem zn4 {w:World}{tb:Nat}{v:Value}{b:List UInt8}{s:T.St}(h:TInv w tb v b s) :
  Calls Tryz.prog 144 #[.pointer (some ⟨tb,0,none⟩)] w fun e w'=>∃cs,e = .returned (.agg cs.toArray)/\RuleVal w' cs (j1 s).1/\TInv w' tb v b (j1 s).2/\w.grownBy w' (some tb):=by
 have HT:Y (j1 s=(⟨(xt s).1,(j7 (xt s).2).1,(jS (j7 (xt s).2).2).1,(jN (jS (j7 (xt s).2).2).2).1,(T.to (jN (jS (j7 (xt s).2).2).2).2).1.1,(T.to (jN (jS (j7 (xt s).2).2).2).2).1.2,
  (xa (T.to (jN (jS (j7 (xt s).2).2).2).2).2).1.1,(xa (T.to (jN (jS (j7 (xt s).2).2).2).2).2).1.2⟩,
 (xa (T.to (jN (jS (j7 (xt s).2).2).2).2).2).2)):=by show _=_;unfold j1;rfl
 have bl:Y (j7 (xt s).2=((zr (xt s).2).1,qT (zr (xt s).2).2 (R.path (zr (xt s).2).1))):=by show _=_;unfold j7;rfl
 have bN:=jB (xt s).2
 have H0:Y (TInv w tb v b s):=h
 have J0:Y (TInv (w.alloc (.cells #[.int .i64 0,.string ⟨#[]⟩,.slice none 0 0,.slice none 0 0,.bool false,.string ⟨#[]⟩,.slice none 0 0,.slice none 0 0] 126)) tb v b s):=h.keep (zL _ _ none)
 have C0:Y (w.grownBy (w.alloc (.cells #[.int .i64 0,.string ⟨#[]⟩,.slice none 0 0,.slice none 0 0,.bool false,.string ⟨#[]⟩,.slice none 0 0,.slice none 0 0] 126)) (some tb)):=zL _ _ _
 have br:Y ((w.alloc (.cells #[.int .i64 0,.string ⟨#[]⟩,.slice none 0 0,.slice none 0 0,.bool false,.string ⟨#[]⟩,.slice none 0 0,.slice none 0 0] 126)).heap[w.heap.size]?=some (.cells #[.int .i64 0,.string ⟨#[]⟩,.slice none 0 0,.slice none 0 0,.bool false,.string ⟨#[]⟩,.slice none 0 0,.slice none 0 0] 126)):=heap_alloc_new _ _
 have cq:tb<w.heap.size:=h.tlt
 have cx:w.heap.size+1<=(w.alloc (.cells #[.int .i64 0,.string ⟨#[]⟩,.slice none 0 0,.slice none 0 0,.bool false,.string ⟨#[]⟩,.slice none 0 0,.slice none 0 0] 126)).heap.size:=by simp
 have al:Y (∀(wu w':World) (s1:T.St) (row:Option Nat),TInv wu tb v b s1->wu.grownBy w' row->(∀k,row=some k->w.heap.size<=k)->TInv w' tb v b s1):=fun wu w' s1 row h1 h2 h3=>h.far h1 h2 h3
 have bg:Y (∀k,w.heap.size<=k->(b=[]\/∀g o n c,v = .slice (some ⟨g,o,none⟩) n c->g≠k)):=fun k hk=>h.low hk
 clear h
 generalize j1 s=res at*
 generalize j7 (xt s).2=pt at*
 rw[bl.o] at HT
 simp only at HT
 clear bl
 go_enter Tryz.func144,Tryz.ntmps144
 go_wp2_with fail
 refine(zj7 J0.o).mono ?_
 rintro e w1 ⟨rfl,I1,aS⟩
 have J1:Y _:=I1
 have b1:tb<w1.heap.size:=J1.o.tlt
 have s1:(w.alloc (.cells #[.int .i64 0,.string ⟨#[]⟩,.slice none 0 0,.slice none 0 0,.bool false,.string ⟨#[]⟩,.slice none 0 0,.slice none 0 0] 126)).heap.size+0<=w1.heap.size:=by have h:=aS.size;simpa using h
 have G1:Y ((w.alloc (.cells #[.int .i64 0,.string ⟨#[]⟩,.slice none 0 0,.slice none 0 0,.bool false,.string ⟨#[]⟩,.slice none 0 0,.slice none 0 0] 126)).grownBy w1 (some tb)):=aS
 have C1:=J (zD C0.o G1.o)
 have z1:=C1.o.size
 have bs:=J (zF br.o G1.o (by simp;omega))
 clear aS I1
 clear J0 C0 G1 br
 generalize xt s=tw at*
 obtain⟨ad,s1⟩:=tw
 simp only at J1 HT bN
 go_wp2_with fail
 have J2:Y _:=J1.o.keep (zL w1 (.cells #[.int .i64 ad,.string ⟨#[]⟩,.slice none 0 0,.slice none 0 0,.bool false,.string ⟨#[]⟩,.slice none 0 0,.slice none 0 0] 126) none)
 have C2:Y (w.grownBy (World.alloc w1 (.cells #[.int .i64 ad,.string ⟨#[]⟩,.slice none 0 0,.slice none 0 0,.bool false,.string ⟨#[]⟩,.slice none 0 0,.slice none 0 0] 126)) (some tb)):=zD C1.o (zL w1 (.cells #[.int .i64 ad,.string ⟨#[]⟩,.slice none 0 0,.slice none 0 0,.bool false,.string ⟨#[]⟩,.slice none 0 0,.slice none 0 0] 126) _)
 have bt:=J (zF bs.o (zL w1 (.cells #[.int .i64 ad,.string ⟨#[]⟩,.slice none 0 0,.slice none 0 0,.bool false,.string ⟨#[]⟩,.slice none 0 0,.slice none 0 0] 126) none) (by simp))
 have bG:Y ((World.alloc w1 (.cells #[.int .i64 ad,.string ⟨#[]⟩,.slice none 0 0,.slice none 0 0,.bool false,.string ⟨#[]⟩,.slice none 0 0,.slice none 0 0] 126)).heap[w1.heap.size]?=some (.cells #[.int .i64 ad,.string ⟨#[]⟩,.slice none 0 0,.slice none 0 0,.bool false,.string ⟨#[]⟩,.slice none 0 0,.slice none 0 0] 126)):=heap_alloc_new _ _
 have s2:w1.heap.size+1<=(World.alloc w1 (.cells #[.int .i64 ad,.string ⟨#[]⟩,.slice none 0 0,.slice none 0 0,.bool false,.string ⟨#[]⟩,.slice none 0 0,.slice none 0 0] 126)).heap.size:=by simp
 have t2:(World.alloc w1 (.cells #[.int .i64 ad,.string ⟨#[]⟩,.slice none 0 0,.slice none 0 0,.bool false,.string ⟨#[]⟩,.slice none 0 0,.slice none 0 0] 126)).heap.size<=w1.heap.size+1:=by simp
 clear J1 C1 bs
 generalize(World.alloc w1 (.cells #[.int .i64 ad,.string ⟨#[]⟩,.slice none 0 0,.slice none 0 0,.bool false,.string ⟨#[]⟩,.slice none 0 0,.slice none 0 0] 126))=w2 at*
 have b2:tb<w2.heap.size:=by omega
 have z2:=C2.o.size
 refine(jr J2.o).mono ?_
 rintro e w3 ⟨rfl,I3,aU⟩
 have J3:Y _:=I3
 have b3:tb<w3.heap.size:=J3.o.tlt
 have s3:w2.heap.size+0<=w3.heap.size:=by have h:=aU.size;simpa using h
 have G3:Y (w2.grownBy w3 (some tb)):=aU
 have C3:=J (zD C2.o G3.o)
 have z3:=C3.o.size
 have bu:=J (zF bt.o G3.o (by simp;omega))
 have az:=J (zF bG.o G3.o (by simp;omega))
 clear aU I3
 clear J2 C2 G3 bt bG
 generalize zr s1=tx at*
 obtain⟨ab,s2⟩:=tx
 simp only at J3 HT bN
 have cz:=zI az.o
 have bQ:=zu3 az.o
 have bR:=zuG 1 az.o
 go_wp2_with fail
 have J4:Y _:=al.o _ _ _ _ J3.o (zG w3 w1.heap.size 1 (.string (R.str ab))) (fun k hk=>by have:=x5 hk;omega)
 have C4:=J (zm C3.o (zG w3 w1.heap.size 1 (.string (R.str ab))) (by omega))
 have bv:=J (zF bu.o (zG w3 w1.heap.size 1 (.string (R.str ab))) (by simp;omega))
 have bH:Y ((World.setCell w3 ⟨w1.heap.size,1,none⟩ (.string (R.str ab))).heap[w1.heap.size]?=some (.cells #[.int .i64 ad,.string (R.str ab),.slice none 0 0,.slice none 0 0,.bool false,.string ⟨#[]⟩,.slice none 0 0,.slice none 0 0] 126)):=zR az.o (.string (R.str ab))
 have s4:w3.heap.size<=(World.setCell w3 ⟨w1.heap.size,1,none⟩ (.string (R.str ab))).heap.size:=by simp[World.setCell]
 have y4:(World.setCell w3 ⟨w1.heap.size,1,none⟩ (.string (R.str ab))).heap.size<=w3.heap.size:=by simp[World.setCell]
 clear J3 C3 bu az bQ bR
 generalize(World.setCell w3 ⟨w1.heap.size,1,none⟩ (.string (R.str ab)))=w4 at*
 have b4:tb<w4.heap.size:=by omega
 have hv:=zcM (R.str ab) w4 (by rw[R.str_size];unfold maxLen;omega)
 rw[R.str_toList] at hv
 have HV:Y (Calls Tryz.prog 189 #[.string (R.str ab)] w4 fun e w'=>e = .returned (.bool (R.path ab))/\w'=w4):=hv
 clear hv
 refine HV.o.mono ?_
 rintro e wX ⟨rfl,aA⟩
 rw[aA]
 clear aA wX HV
 generalize R.path ab=pp at*
 go_wp2_with fail
 refine(yZ J4.o pp).mono ?_
 rintro e w5 ⟨rfl,I5,aV⟩
 have J5:Y _:=I5
 have b5:tb<w5.heap.size:=J5.o.tlt
 have s5:w4.heap.size+0<=w5.heap.size:=by have h:=aV.size;simpa using h
 have G5:Y (w4.grownBy w5 (some tb)):=aV
 have C5:=J (zD C4.o G5.o)
 have z5:=C5.o.size
 have bw:=J (zF bv.o G5.o (by simp;omega))
 have bI:=J (zF bH.o G5.o (by simp;omega))
 clear aV I5
 clear J4 C4 G5 bv bH
 generalize qT s2 pp=s3 at*
 go_wp2_with fail
 refine(zg5 J5.o).mono ?_
 rintro e w6 ⟨uM,rfl,I6,aW,oM⟩
 have J6:Y _:=I6
 have b6:tb<w6.heap.size:=J6.o.tlt
 have s6:w5.heap.size+0<=w6.heap.size:=by have h:=aW.size;simpa using h
 have G6:Y (w5.grownBy w6 (some tb)):=aW
 have C6:=J (zD C5.o G6.o)
 have z6:=C6.o.size
 have bx:=J (zF bw.o G6.o (by simp;omega))
 have aw:=J (zF bI.o G6.o (by simp;omega))
 clear aW I6
 clear J5 C5 G6 bw bI
 generalize jS s3=tm at*
 obtain⟨ms,s4⟩:=tm
 simp only at J6 HT oM
 obtain⟨m1,m2,rfl⟩:=zO oM
 have aC:Y _:=oM
 clear oM
 have cy:∀k,((.slice m1 ms.length m2):Value).ownBlock=some k->k<w6.heap.size:=fun k hk=>(zx aC.o k hk).2
 have cA:=zI aw.o
 have bS:=ztY aw.o
 have bT:=zuG 2 aw.o
 go_wp2_with fail
 have J7:Y _:=al.o _ _ _ _ J6.o (zG w6 w1.heap.size 2 (.slice m1 ms.length m2)) (fun k hk=>by have:=x5 hk;omega)
 have C7:=J (zm C6.o (zG w6 w1.heap.size 2 (.slice m1 ms.length m2)) (by omega))
 have bz:=J (zF bx.o (zG w6 w1.heap.size 2 (.slice m1 ms.length m2)) (by simp;omega))
 have bJ:Y ((World.setCell w6 ⟨w1.heap.size,2,none⟩ (.slice m1 ms.length m2)).heap[w1.heap.size]?=some (.cells #[.int .i64 ad,.string (R.str ab),.slice m1 ms.length m2,.slice none 0 0,.bool false,.string ⟨#[]⟩,.slice none 0 0,.slice none 0 0] 126)):=zR aw.o (.slice m1 ms.length m2)
 have bh:Y _:=zY aC.o (zG w6 w1.heap.size 2 (.slice m1 ms.length m2)) (zW aw.o aC.o (by decide))
 have s7:w6.heap.size<=(World.setCell w6 ⟨w1.heap.size,2,none⟩ (.slice m1 ms.length m2)).heap.size:=by simp[World.setCell]
 have y7:(World.setCell w6 ⟨w1.heap.size,2,none⟩ (.slice m1 ms.length m2)).heap.size<=w6.heap.size:=by simp[World.setCell]
 clear J6 C6 bx aw aC bS bT
 generalize(World.setCell w6 ⟨w1.heap.size,2,none⟩ (.slice m1 ms.length m2))=w7 at*
 have b7:tb<w7.heap.size:=by omega
 refine(zgF J7.o).mono ?_
 rintro e w8 ⟨uT,rfl,I8,aX,oT⟩
 have J8:Y _:=I8
 have b8:tb<w8.heap.size:=J8.o.tlt
 have s8:w7.heap.size+0<=w8.heap.size:=by have h:=aX.size;simpa using h
 have G8:Y (w7.grownBy w8 (some tb)):=aX
 have C8:=J (zD C7.o G8.o)
 have z8:=C8.o.size
 have bA:=J (zF bz.o G8.o (by simp;omega))
 have ao:=J (zF bJ.o G8.o (by simp;omega))
 have aO:Y _:=zS bh.o G8.o (by omega)
 clear aX I8
 clear J7 C7 G8 bz bJ bh
 generalize jN s4=tt at*
 obtain⟨tg,s5⟩:=tt
 simp only at J8 HT oT
 obtain⟨t1,t2,rfl⟩:=zO oT
 have aL:Y _:=oT
 clear oT
 have cB:=zI ao.o
 have bU:=zuD ao.o
 have bV:=zuG 3 ao.o
 go_wp2_with fail
 have J9:Y _:=al.o _ _ _ _ J8.o (zG w8 w1.heap.size 3 (.slice t1 tg.length t2)) (fun k hk=>by have:=x5 hk;omega)
 have C9:=J (zm C8.o (zG w8 w1.heap.size 3 (.slice t1 tg.length t2)) (by omega))
 have bB:=J (zF bA.o (zG w8 w1.heap.size 3 (.slice t1 tg.length t2)) (by simp;omega))
 have bK:Y ((World.setCell w8 ⟨w1.heap.size,3,none⟩ (.slice t1 tg.length t2)).heap[w1.heap.size]?=some (.cells #[.int .i64 ad,.string (R.str ab),.slice m1 ms.length m2,.slice t1 tg.length t2,.bool false,.string ⟨#[]⟩,.slice none 0 0,.slice none 0 0] 126)):=zR ao.o (.slice t1 tg.length t2)
 have bi:Y _:=zY aO.o (zG w8 w1.heap.size 3 (.slice t1 tg.length t2)) (zW ao.o aO.o (by decide))
 have bd:Y _:=zY aL.o (zG w8 w1.heap.size 3 (.slice t1 tg.length t2)) (zW ao.o aL.o (by decide))
 have s9:w8.heap.size<=(World.setCell w8 ⟨w1.heap.size,3,none⟩ (.slice t1 tg.length t2)).heap.size:=by simp[World.setCell]
 have y9:(World.setCell w8 ⟨w1.heap.size,3,none⟩ (.slice t1 tg.length t2)).heap.size<=w8.heap.size:=by simp[World.setCell]
 clear J8 C8 bA ao aO aL bU bV
 generalize(World.setCell w8 ⟨w1.heap.size,3,none⟩ (.slice t1 tg.length t2))=w9 at*
 have b9:tb<w9.heap.size:=by omega
 have bc:Y (Calls Tryz.prog 142 #[.pointer (some ⟨tb,0,none⟩),.int .i64 (1:Nat)] w9 fun e w'=>e = .returned (.int .i64 ((zy 1 s5).1:Nat))/\TInv w' tb v b (zy 1 s5).2/\w9.grownBy w' (some tb)):=vh J9.o 1
 refine(bc.o).mono ?_
 rintro e ah ⟨rfl,bm,aT⟩
 have av:Y _:=bm
 have cp:tb<ah.heap.size:=av.o.tlt
 have cE:w9.heap.size+0<=ah.heap.size:=by have h:=aT.size;simpa using h
 have aq:Y (w9.grownBy ah (some tb)):=aT
 have ax:=J (zD C9.o aq.o)
 have cL:=ax.o.size
 have aF:=J (zF bB.o aq.o (by simp;omega))
 have aj:=J (zF bK.o aq.o (by simp;omega))
 have an:Y _:=zS bi.o aq.o (by omega)
 have am:Y _:=zS bd.o aq.o (by omega)
 clear aT bm
 clear J9 C9 aq bB bK bi bd
 have ak:Y (T.to s5=if (zy 1 s5).1=1 then ((true,(zr (zy 1 s5).2).1),qT (zr (zy 1 s5).2).2 (R.path (zr (zy 1 s5).2).1)) else ((false,[]),(zy 1 s5).2)):=by show _=_;unfold T.to j7;rfl
 clear bc
 generalize T.to s5=tto at*
 generalize zy 1 s5=fk at*
 obtain⟨kk,s6⟩:=fk
 simp only at av ak
 by_cases hk:kk=1
 ·subst hk
  rw[if_pos rfl] at ak
  have bO:=jB s6
  have cC:=zI aj.o
  have bW:=zuI aj.o
  have bX:=zuG 4 aj.o
  go_wp2_with fail
  have bp:Y _:=al.o _ _ _ _ av.o (zG ah w1.heap.size 4 (.bool true)) (fun k hk=>by have:=x5 hk;omega)
  have ba:=J (zm ax.o (zG ah w1.heap.size 4 (.bool true)) (by omega))
  have bC:=J (zF aF.o (zG ah w1.heap.size 4 (.bool true)) (by simp;omega))
  have bL:Y ((World.setCell ah ⟨w1.heap.size,4,none⟩ (.bool true)).heap[w1.heap.size]?=some (.cells #[.int .i64 ad,.string (R.str ab),.slice m1 ms.length m2,.slice t1 tg.length t2,.bool true,.string ⟨#[]⟩,.slice none 0 0,.slice none 0 0] 126)):=zR aj.o (.bool true)
  have bj:Y _:=zY an.o (zG ah w1.heap.size 4 (.bool true)) (zW aj.o an.o (by decide))
  have be:Y _:=zY am.o (zG ah w1.heap.size 4 (.bool true)) (zW aj.o am.o (by decide))
  have cF:ah.heap.size<=(World.setCell ah ⟨w1.heap.size,4,none⟩ (.bool true)).heap.size:=by simp[World.setCell]
  have cJ:(World.setCell ah ⟨w1.heap.size,4,none⟩ (.bool true)).heap.size<=ah.heap.size:=by simp[World.setCell]
  clear av ax aF aj an am bW bX
  generalize(World.setCell ah ⟨w1.heap.size,4,none⟩ (.bool true))=wy1 at*
  have cr:tb<wy1.heap.size:=by omega
  refine(jr bp.o).mono ?_
  rintro e ai ⟨rfl,bn,aY⟩
  have aE:Y _:=bn
  have ct:tb<ai.heap.size:=aE.o.tlt
  have cG:wy1.heap.size+0<=ai.heap.size:=by have h:=aY.size;simpa using h
  have ar:Y (wy1.grownBy ai (some tb)):=aY
  have aH:=J (zD ba.o ar.o)
  have cM:=aH.o.size
  have bD:=J (zF bC.o ar.o (by simp;omega))
  have ap:=J (zF bL.o ar.o (by simp;omega))
  have aP:Y _:=zS bj.o ar.o (by omega)
  have aM:Y _:=zS be.o ar.o (by omega)
  clear aY bn
  clear bp ba ar bC bL bj be
  generalize zr s6=ty at*
  obtain⟨ae,s7⟩:=ty
  simp only at aE ak bO
  have cD:=zI ap.o
  have bY:=zu5 ap.o
  have bZ:=zuG 5 ap.o
  go_wp2_with fail
  have bq:Y _:=al.o _ _ _ _ aE.o (zG ai w1.heap.size 5 (.string (R.str ae))) (fun k hk=>by have:=x5 hk;omega)
  have bb:=J (zm aH.o (zG ai w1.heap.size 5 (.string (R.str ae))) (by omega))
  have bE:=J (zF bD.o (zG ai w1.heap.size 5 (.string (R.str ae))) (by simp;omega))
  have bM:Y ((World.setCell ai ⟨w1.heap.size,5,none⟩ (.string (R.str ae))).heap[w1.heap.size]?=some (.cells #[.int .i64 ad,.string (R.str ab),.slice m1 ms.length m2,.slice t1 tg.length t2,.bool true,.string (R.str ae),.slice none 0 0,.slice none 0 0] 126)):=zR ap.o (.string (R.str ae))
  have bk:Y _:=zY aP.o (zG ai w1.heap.size 5 (.string (R.str ae))) (zW ap.o aP.o (by decide))
  have bf:Y _:=zY aM.o (zG ai w1.heap.size 5 (.string (R.str ae))) (zW ap.o aM.o (by decide))
  have cH:ai.heap.size<=(World.setCell ai ⟨w1.heap.size,5,none⟩ (.string (R.str ae))).heap.size:=by simp[World.setCell]
  have cK:(World.setCell ai ⟨w1.heap.size,5,none⟩ (.string (R.str ae))).heap.size<=ai.heap.size:=by simp[World.setCell]
  clear aE aH bD ap aP aM bY bZ
  generalize(World.setCell ai ⟨w1.heap.size,5,none⟩ (.string (R.str ae)))=wy3 at*
  have cu:tb<wy3.heap.size:=by omega
  have hv:=zcM (R.str ae) wy3 (by rw[R.str_size];unfold maxLen;omega)
  rw[R.str_toList] at hv
  have HV:Y (Calls Tryz.prog 189 #[.string (R.str ae)] wy3 fun e w'=>e = .returned (.bool (R.path ae))/\w'=wy3):=hv
  clear hv
  refine HV.o.mono ?_
  rintro e wX ⟨rfl,aA⟩
  rw[aA]
  clear aA wX HV
  generalize R.path ae=pp2 at*
  go_wp2_with fail
  refine(yZ bq.o pp2).mono ?_
  rintro e a9 ⟨rfl,bo,aZ⟩
  have aR:Y _:=bo
  have cv:tb<a9.heap.size:=aR.o.tlt
  have cI:wy3.heap.size+0<=a9.heap.size:=by have h:=aZ.size;simpa using h
  have au:Y (wy3.grownBy a9 (some tb)):=aZ
  have aI:=J (zD bb.o au.o)
  have cN:=aI.o.size
  have bF:=J (zF bE.o au.o (by simp;omega))
  have aG:=J (zF bM.o au.o (by simp;omega))
  have aD:Y _:=zS bk.o au.o (by omega)
  have aB:Y _:=zS bf.o au.o (by omega)
  clear aZ bo
  clear bq bb au bE bM bk bf
  generalize qT s7 pp2=s8 at*
  have ay:Y (res=(⟨ad,ab,ms,tg,true,ae,(xa s8).1.1,(xa s8).1.2⟩,(xa s8).2)):=by show _=_;rw[HT.o,ak.o]
  clear HT ak
  go_wp2_with fail
  refine(zdD aR.o w1.heap.size (.int .i64 ad) (.string (R.str ab)) (.slice m1 ms.length m2) (.slice t1 tg.length t2) (.bool true) (.string (R.str ae)) aG.o (by omega) (bg.o _ (by omega))).mono ?_
  rintro e w9 ⟨rfl,i9,k9,vS,vD,u9,oS,oD⟩
  have J9:Y _:=i9
  have C9:Y (w.grownBy w9 (some tb)):=wG aI.o k9 (by omega)
  have aa:Y (w9.heap[w.heap.size]?=some (.cells #[.int .i64 0,.string ⟨#[]⟩,.slice none 0 0,.slice none 0 0,.bool false,.string ⟨#[]⟩,.slice none 0 0,.slice none 0 0] 126)):=k9.keep bF.o (by omega) (by omega)
  have aN:Y (w9.ownsRow 0 181 3 (.slice m1 ms.length m2) ms.length (xN ms)):=qF (vV aD.o k9 (fun k hk=>⟨by have:=(zx aD.o k hk).1;omega,zW aG.o aD.o (by decide) k hk⟩)) (zo _)
  have aK:Y (w9.ownsRow 0 183 2 (.slice t1 tg.length t2) tg.length (qB tg)):=qF (vV aB.o k9 (fun k hk=>⟨by have:=(zx aB.o k hk).1;omega,zW aG.o aB.o (by decide) k hk⟩)) (zo _)
  generalize xa s8=ed at*
  obtain⟨⟨ag,af⟩,s9⟩:=ed
  simp only at J9 oS oD ay
  obtain⟨x1,x2,rfl⟩:=zO oS
  obtain⟨d1,d2,rfl⟩:=zO oD
  have aQ:Y (w9.ownsRow 0 185 2 (.slice x1 ag.length x2) ag.length (qH ag)):=qF oS (zo _)
  have aJ:Y (w9.ownsRow 0 9 1 (.slice d1 af.length d2) af.length (zf af)):=qF oD (zo _)
  have bP:=C9.o.size
  have ch:w9.cell? ⟨w1.heap.size,0,none⟩=some (.int .i64 ad):=zB u9
  have ci:w9.cell? ⟨w1.heap.size,1,none⟩=some (.string (R.str ab)):=zB u9
  have cj:w9.cell? ⟨w1.heap.size,2,none⟩=some (.slice m1 ms.length m2):=zB u9
  have ck:w9.cell? ⟨w1.heap.size,3,none⟩=some (.slice t1 tg.length t2):=zB u9
  have cl:w9.cell? ⟨w1.heap.size,4,none⟩=some (.bool true):=zB u9
  have cm:w9.cell? ⟨w1.heap.size,5,none⟩=some (.string (R.str ae)):=zB u9
  have cn:w9.cell? ⟨w1.heap.size,6,none⟩=some (.slice x1 ag.length x2):=zB u9
  have co:w9.cell? ⟨w1.heap.size,7,none⟩=some (.slice d1 af.length d2):=zB u9
  have a1:=zuE aa.o
  have b0:=zuG 0 aa.o
  have a2:=zu3 aa.o
  have ca:=zuG 1 aa.o
  have a3:=ztY aa.o
  have cb:=zuG 2 aa.o
  have a4:=zuD aa.o
  have cc:=zuG 3 aa.o
  have a5:=zuI aa.o
  have cd:=zuG 4 aa.o
  have a6:=zu5 aa.o
  have ce:=zuG 5 aa.o
  have a7:=ztT aa.o
  have cf:=zuG 6 aa.o
  have a8:=zu0 aa.o
  have cg:=zuG 7 aa.o
  have hs:=zD (zD (zD (zD (zD (zD (zD (zG w9 w.heap.size 0 (.int .i64 ad)) (zG _ w.heap.size 1 (.string (R.str ab)))) (zG _ w.heap.size 2 (.slice m1 ms.length m2))) (zG _ w.heap.size 3 (.slice t1 tg.length t2))) (zG _ w.heap.size 4 (.bool true))) (zG _ w.heap.size 5 (.string (R.str ae)))) (zG _ w.heap.size 6 (.slice x1 ag.length x2))) (zG _ w.heap.size 7 (.slice d1 af.length d2))
  clear i9 k9 u9 oS oD aR aI aG bF aD aB
  go_wp2
  refine bodyPost_ret (v:=.agg #[.int .i64 ad,.string (R.str ab),.slice m1 ms.length m2,.slice t1 tg.length t2,.bool true,.string (R.str ae),.slice x1 ag.length x2,.slice d1 af.length d2]) (by simp[results,Tryz.results144,go_sem,a1,a2,a3,a4,a5,a6,a7,a8]) rfl ?_
  rw[ay.o]
  have a0:=xY aa.o (l:=leaves) (by decide)
  exact⟨[.int .i64 ad,.string (R.str ab),.slice m1 ms.length m2,.slice t1 tg.length t2,.bool true,.string (R.str ae),.slice x1 ag.length x2,.slice d1 af.length d2],rfl,RuleVal.keep ⟨_,_,_,_,rfl,aN.o,aK.o,aQ.o,aJ.o⟩ hs a0,al.o _ _ _ _ J9.o hs (fun k c=>by have:=x5 c;omega),zm C9.o hs (zw _)⟩
 ·rw[if_neg hk] at ak
  have cw:¬((kk:Int)=1):=by omega
  have ay:Y (res=(⟨ad,ab,ms,tg,false,[],(xa s6).1.1,(xa s6).1.2⟩,(xa s6).2)):=by show _=_;rw[HT.o,ak.o]
  clear HT ak
  go_wp2_with fail
  refine(zdD av.o w1.heap.size (.int .i64 ad) (.string (R.str ab)) (.slice m1 ms.length m2) (.slice t1 tg.length t2) (.bool false) (.string ⟨#[]⟩) aj.o (by omega) (bg.o _ (by omega))).mono ?_
  rintro e w9 ⟨rfl,i9,k9,vS,vD,u9,oS,oD⟩
  have J9:Y _:=i9
  have C9:Y (w.grownBy w9 (some tb)):=wG ax.o k9 (by omega)
  have aa:Y (w9.heap[w.heap.size]?=some (.cells #[.int .i64 0,.string ⟨#[]⟩,.slice none 0 0,.slice none 0 0,.bool false,.string ⟨#[]⟩,.slice none 0 0,.slice none 0 0] 126)):=k9.keep aF.o (by omega) (by omega)
  have aN:Y (w9.ownsRow 0 181 3 (.slice m1 ms.length m2) ms.length (xN ms)):=qF (vV an.o k9 (fun k hk=>⟨by have:=(zx an.o k hk).1;omega,zW aj.o an.o (by decide) k hk⟩)) (zo _)
  have aK:Y (w9.ownsRow 0 183 2 (.slice t1 tg.length t2) tg.length (qB tg)):=qF (vV am.o k9 (fun k hk=>⟨by have:=(zx am.o k hk).1;omega,zW aj.o am.o (by decide) k hk⟩)) (zo _)
  generalize xa s6=ed at*
  obtain⟨⟨ag,af⟩,s9⟩:=ed
  simp only at J9 oS oD ay
  obtain⟨x1,x2,rfl⟩:=zO oS
  obtain⟨d1,d2,rfl⟩:=zO oD
  have aQ:Y (w9.ownsRow 0 185 2 (.slice x1 ag.length x2) ag.length (qH ag)):=qF oS (zo _)
  have aJ:Y (w9.ownsRow 0 9 1 (.slice d1 af.length d2) af.length (zf af)):=qF oD (zo _)
  have bP:=C9.o.size
  have ch:w9.cell? ⟨w1.heap.size,0,none⟩=some (.int .i64 ad):=zB u9
  have ci:w9.cell? ⟨w1.heap.size,1,none⟩=some (.string (R.str ab)):=zB u9
  have cj:w9.cell? ⟨w1.heap.size,2,none⟩=some (.slice m1 ms.length m2):=zB u9
  have ck:w9.cell? ⟨w1.heap.size,3,none⟩=some (.slice t1 tg.length t2):=zB u9
  have cl:w9.cell? ⟨w1.heap.size,4,none⟩=some (.bool false):=zB u9
  have cm:w9.cell? ⟨w1.heap.size,5,none⟩=some (.string ⟨#[]⟩):=zB u9
  have cn:w9.cell? ⟨w1.heap.size,6,none⟩=some (.slice x1 ag.length x2):=zB u9
  have co:w9.cell? ⟨w1.heap.size,7,none⟩=some (.slice d1 af.length d2):=zB u9
  have a1:=zuE aa.o
  have b0:=zuG 0 aa.o
  have a2:=zu3 aa.o
  have ca:=zuG 1 aa.o
  have a3:=ztY aa.o
  have cb:=zuG 2 aa.o
  have a4:=zuD aa.o
  have cc:=zuG 3 aa.o
  have a5:=zuI aa.o
  have cd:=zuG 4 aa.o
  have a6:=zu5 aa.o
  have ce:=zuG 5 aa.o
  have a7:=ztT aa.o
  have cf:=zuG 6 aa.o
  have a8:=zu0 aa.o
  have cg:=zuG 7 aa.o
  have hs:=zD (zD (zD (zD (zD (zD (zD (zG w9 w.heap.size 0 (.int .i64 ad)) (zG _ w.heap.size 1 (.string (R.str ab)))) (zG _ w.heap.size 2 (.slice m1 ms.length m2))) (zG _ w.heap.size 3 (.slice t1 tg.length t2))) (zG _ w.heap.size 4 (.bool false))) (zG _ w.heap.size 5 (.string ⟨#[]⟩))) (zG _ w.heap.size 6 (.slice x1 ag.length x2))) (zG _ w.heap.size 7 (.slice d1 af.length d2))
  clear i9 k9 u9 oS oD av ax aj aF an am
  go_wp2
  refine bodyPost_ret (v:=.agg #[.int .i64 ad,.string (R.str ab),.slice m1 ms.length m2,.slice t1 tg.length t2,.bool false,.string ⟨#[]⟩,.slice x1 ag.length x2,.slice d1 af.length d2]) (by simp[results,Tryz.results144,go_sem,a1,a2,a3,a4,a5,a6,a7,a8]) rfl ?_
  rw[ay.o]
  have a0:=xY aa.o (l:=leaves) (by decide)
  exact⟨[.int .i64 ad,.string (R.str ab),.slice m1 ms.length m2,.slice t1 tg.length t2,.bool false,.string ⟨#[]⟩,.slice x1 ag.length x2,.slice d1 af.length d2],rfl,RuleVal.keep ⟨_,_,_,_,rfl,aN.o,aK.o,aQ.o,aJ.o⟩ hs a0,al.o _ _ _ _ J9.o hs (fun k c=>by have:=x5 c;omega),zm C9.o hs (zw _)⟩
structure UInv (w:World) (rb B:Nat) (r:List UInt8):Prop where
 ex:∃v,w.heap[rb]?=some (.cells #[v] 223 (0,0))/\RdO w v r/\∀g o n c,v = .slice (some ⟨g,o,none⟩) n c->g≠rb/\g<B
 len:r.length<=140737488355328
 low:rb<B
 top:B<=w.heap.size
theorem UInv.far {w w':World}{rb B:Nat}{r:List UInt8}{aa:Option Nat}(h:UInv w rb B r)(hg:w.grownBy w' aa)(hr:∀k,aa=some k->B<=k):UInv w' rb B r:=by
 obtain⟨v,h1,h2,h3⟩:=h.ex
 have hl:=h.low
 refine⟨⟨v,zF h1 hg (fun c=>by have:=hr rb c.symm;omega),h2.keep hg (fun g o n c e e2=>by have:=hr g e2;have:=(h3 g o n c e).2;omega),h3⟩,h.len,hl,qf h.top hg.size⟩
theorem UInv.keep {w w':World}{rb B:Nat}{r:List UInt8}(h:UInv w rb B r)(hg:w.grownBy w' none):UInv w' rb B r:=h.far hg (fun k c=>by cases c)
theorem zcJ {w w1:World}{n:Nat}{mc:List Value}{xs:List Value}(h:w1.ownsRow w.heap.size 5 1 (.slice (some ⟨w.heap.size,0,none⟩) n n) n xs)(e:mc=xs):w1.heap[w.heap.size]?=some (.cells mc.toArray 5 (0,0)):=by
 obtain⟨hl,⟨h1,_⟩ | ⟨g,aa,ab,h1,_,h3,_,_,h6,h7⟩⟩:=h
 ·cases h1
 ·simp only[qQ,Option.some.injEq,Addr.mk.injEq,and_true,true_and] at h1
  obtain⟨rfl,rfl⟩:=h1
  rw[h3,e,<-h7,tW (by simp[h6])]
theorem zgU (z:Value)(n:Nat):(madeCells #[z] n).toList=List.replicate n z:=by
 apply List.ext_getElem
 ·simp[madeCells]
 ·intro i h1 h2;simp[madeCells,Nat.mod_one]
theorem zmS (k:Nat):Lib.byteCells (List.replicate k 0)=List.replicate k (.int .u8 0):=by
 unfold Lib.byteCells;rw[List.map_replicate];rfl
theorem zp8 (n:Nat)(r:List UInt8)(X mc:List Value)(hX:X=Lib.byteCells (r.take n))(hm:mc=(madeCells #[Value.int .u8 0] n).toList):splice mc 0 X=Lib.byteCells (j2 n r).1:=by
 have hl:X.length=min n r.length:=by rw[hX,xh,List.length_take]
 unfold splice j2
 rw[List.take_zero,List.nil_append,Lib.byteCells_append,<-hX,zmS,hm,zgU,List.drop_replicate,Nat.zero_add,hl]
 congr 2;omega
theorem fu (g o m:Nat):(⟨g,o,none⟩:Addr).add m=⟨g,o+m,none⟩:=by unfold Addr.add;by_cases h:m=0 <;> simp[h]
theorem UInv.next {w w2:World}{rb B:Nat}{r:List UInt8}{a:Option Addr}{c m n:Nat}(ae:RdO w (.slice a r.length c) r)(hb:w.heap[rb]?=some (.cells #[.slice a r.length c] 223 (0,0)))
  (aa:∀g o n' c',Value.slice a r.length c = .slice (some ⟨g,o,none⟩) n' c'->g≠rb/\g<B) (hl:r.length<=140737488355328) (ag:rb<B) (al:B<=w.heap.size) (hg:w.grownBy w2 none) (hm:m=Nat.min r.length n) (v':Value)
  (hv:(v' = .slice a (r.length - m) 0/\m=c/\r.length<=c)\/v' = .slice (a.map fun x=>x.add m) (r.length - m) (c - m)):UInv (w2.setCell ⟨rb,0,none⟩ v') rb B (r.drop n):=by
 have ai:m=min r.length n:=hm
 have ak:=ae
 have ab:=zG w2 rb 0 v'
 have af:(r.drop n).length=r.length - m:=by rw[List.length_drop];omega
 refine⟨⟨v',zR (zF hb hg (by simp)) v',?_,?_⟩,by omega,ag,qf al (qf hg.size ab.size)⟩
 ·by_cases h0:r.length - m=0
  ·refine Or.inl ?_
   have ad:r.drop n=[]:=List.eq_nil_of_length_eq_zero (by omega)
   rcases hv with ⟨e,_⟩ | e
   ·exact⟨_,_,by rw[e,h0],ad⟩
   ·exact⟨_,_,by rw[e,h0],ad⟩
  ·rcases ae with ⟨_,_,_,h2⟩ | ⟨g,o,c',e1,hc,hlt,h3⟩
   ·rw[h2] at h0;simp at h0
   ·simp only[qQ,true_and] at e1
    obtain⟨rfl,rfl⟩:=e1
    have aj:g≠rb:=(aa g o _ _ rfl).1
    rcases hv with ⟨_,q1,q2⟩ | e
    ·omega
    ·refine Or.inr ⟨g,o+m,c - m,by rw[e,af,Option.map_some,fu],by omega,?_,fun j u hu=>?_⟩
     ·have:=hg.size;have:=ab.size;omega
     ·rw[List.getElem?_drop] at hu
      have h4:=ab.cell (hg.cell (h3 _ u hu) (by simp)) (fun c=>aj (by have:=x5 c;first | exact this | exact this.symm))
      rw[show o+m+j=o+(n+j) by omega];exact h4
 ·intro g o n' c' e
  rcases hv with ⟨q,_⟩ | q
  ·rw[q] at e
   simp only[qQ] at e
   obtain⟨rfl,_⟩:=e
   exact aa g o _ _ rfl
  ·rw[q] at e
   rcases ak with ⟨_,_,_,h2⟩ | ⟨g0,o0,c0,e1,_⟩
   ·have ah:m=0:=by rw[ai,h2];simp
    cases a with
    | none=>simp at e
    | some x=>
     rw[ah] at e
     simp only[Option.map_some,qQ,Option.some.injEq] at e
     obtain⟨e1,_⟩:=e
     have ex:x=⟨g,o,none⟩:=by rw[<-e1];simp[Addr.add]
     rw[ex] at aa
     exact aa g o _ _ rfl
   ·simp only[qQ,true_and] at e1
    obtain⟨rfl,rfl⟩:=e1
    rw[Option.map_some,fu] at e
    simp only[qQ,Option.some.injEq,Addr.mk.injEq] at e
    obtain⟨⟨rfl,_⟩,_⟩:=e
    exact aa _ _ _ _ rfl
theorem zcO {w:World}{rb B:Nat}{r:List UInt8}(h:UInv w rb B r)(n:Nat)(hn:n<=255) :
  Calls Tryz.prog 113 #[.pointer (some ⟨rb,0,none⟩),.int .i64 n] w fun e w'=>∃a k,e = .returned (.slice a n k)/\w'.ownsRow w.heap.size 5 1 (.slice a n k) n (Lib.byteCells (j2 n r).1)/\UInv w' rb B (j2 n r).2/\w.grownBy w' (some rb):=by
 obtain⟨i0,hi,aB,ay,aC⟩:=info_parts js
 obtain⟨v,ai,aj,an⟩:=h.ex
 obtain⟨a,c,rfl,aH⟩:=aj.form
 have ap:=h.len
 have aq:=h.low
 have ax:=h.top
 have aI:=zI ai
 have ag:Y (RdO w (.slice a r.length c) r):=aj
 have HB:Y (w.heap[rb]?=some (.cells #[.slice a r.length c] 223 (0,0))):=ai
 have ak:Y (∀g o n' c',Value.slice a r.length c = .slice (some ⟨g,o,none⟩) n' c'->g≠rb/\g<B):=an
 obtain⟨X,HX⟩:∃X,Y (X=Lib.byteCells (r.take n)):=⟨_,rfl⟩
 have aa:Y (X.length=Nat.min r.length n):=by show _=_;rw[HX.o,xh,List.length_take];exact Nat.min_comm _ _
 have aG:X.length<=r.length:=by rw[aa.o];exact Nat.min_le_left _ _
 have aF:X.length<=n:=by rw[aa.o];exact Nat.min_le_right _ _
 have aA:(Tryz.prog.info? 5).map (·.size)=some 1:=by rw[hi];simp[ay]
 obtain⟨mc,ad⟩:∃mc,Y (mc=(madeCells #[Value.int .u8 0] n).toList):=⟨_,rfl⟩
 have ar:mc.length=n:=by rw[ad.o];simp[madeCells]
 clear h ai aj an
 go_enter Tryz.func113,Tryz.ntmps113
 go_wp2_with (at_make;refine wpList_make_full _ rfl _ _ 32 rfl w.heap.size 5 i0 (.int .u8 0) 1 Tryz.underlying32 hi aB ay _ _ _ _ n rfl rfl rfl rfl ?b2 ?b3 (zw _) ?_)
 case b2=>rw[aC];omega
 case b3=>unfold maxLen;omega
 intro w1 av ao
 have ab:Y (w.grownBy w1 none):=ao
 have al:Y (w1.heap[w.heap.size]?=some (.cells mc.toArray 5 (0,0))):=zcJ av ad.o
 clear av ao
 have u1:w1.cell? ⟨rb,0,none⟩=some (.slice a r.length c):=zB (zF HB.o ab.o (by simp))
 go_wp2_with (refine wpList_copy_splice rfl _ _ 32 32 rfl 5 Tryz.underlying32 aA _ _ n n r.length c rfl rfl w.heap.size 0 mc 5 al.o X aa.o ?hpos ?hfit ?h1 w.heap.size w (qr ab.o) (zw _) ?_)
 case hpos=>
  intro hp
  have aw:0<r.length:=by omega
  rcases ag.o with ⟨_,_,_,h2⟩ | ⟨g,o,c',e1,_,_,h3⟩
  ·rw[h2] at aw;simp at aw
  ·simp only[qQ] at e1
   obtain⟨rfl,_,_⟩:=e1
   refine⟨_,rfl,fun j u hu=>?_⟩
   rw[HX.o] at hu
   unfold Lib.byteCells at hu
   rw[List.getElem?_map,Option.map_eq_some_iff] at hu
   obtain⟨x,hx,rfl⟩:=hu
   rw[fu]
   exact(ab.o.cell (h3 j x (by rw[List.getElem?_take] at hx;split at hx;exact hx;cases hx)) (by simp))
 case hfit=>omega
 case h1=>rw[HX.o];exact vf _
 intro w2 am ae
 have u2:w2.cell? ⟨rb,0,none⟩=some (.slice a r.length c):=zB (zF HB.o (qJ ae) (by simp))
 have f2:w2.frozen? ⟨rb,0,none⟩=false:=zH (zF HB.o (qJ ae) (by simp))
 have af:Y (Below w.heap.size w w2):=ae
 have aD:(X.length:Int)<=r.length:=by omega
 have aE:X.length<=c:=by omega
 clear ae u1 al ab
 have ah:Y (splice mc 0 X=Lib.byteCells (j2 n r).1):=zp8 n r X mc HX.o ad.o
 have au:(Lib.byteCells (j2 n r).1).length=n:=by rw[<-ah.o];rw[length_splice _ _ _ (by omega)];exact ar
 have az:Y (w2.heap[w.heap.size]?=some (.cells (Lib.byteCells (j2 n r).1).toArray 5 (0,0))):=by rw[<-ah.o];exact am
 clear ah am HX ad ar
 generalize X.length=m at*
 go_wp2
 all_goals
  go_ret
  refine⟨_,_,rfl,⟨by omega,Or.inr ⟨w.heap.size,n,_,rfl,zw _,zF az.o (zG w2 rb 0 _) (fun c=>by have:=x5 c;omega),zw _,by unfold maxLen;omega,by simp[au],by rw[tW (by simp[au])]⟩⟩,?_,zD (zb (qJ af.o) _) (zG w2 rb 0 _)⟩
 ·exact UInv.next ag.o HB.o ak.o ap aq ax (qJ af.o) aa.o _ (Or.inl ⟨rfl,by omega,by omega⟩)
 ·exact UInv.next ag.o HB.o ak.o ap aq ax (qJ af.o) aa.o _ (Or.inr rfl)
theorem zq0 (r:List UInt8):(j2 1 r).1=[r.headD 0]:=by
 cases r with
 | nil=>rfl
 | cons x r=>simp[j2]
theorem vI {w:World}{rb B:Nat}{r:List UInt8}(h:UInv w rb B r) :
  Calls Tryz.prog 170 #[.pointer (some ⟨rb,0,none⟩)] w fun e w'=>e = .returned (.int .i64 ((qZ r).1:Nat))/\UInv w' rb B (qZ r).2/\w.grownBy w' (some rb):=by
 have H1:Y (Calls Tryz.prog 113 #[.pointer (some ⟨rb,0,none⟩),.int .i64 (1:Nat)] w fun e w'=>∃a k,e = .returned (.slice a 1 k)/\w'.ownsRow w.heap.size 5 1 (.slice a 1 k) 1 (Lib.byteCells (j2 1 r).1)/\UInv w' rb B (j2 1 r).2/\w.grownBy w' (some rb)):=zcO h 1 (by omega)
 clear h
 go_enter Tryz.func170,Tryz.ntmps170
 go_wp2_with fail
 refine H1.o.mono ?_
 rintro e w1 ⟨a,k,rfl,ho,hu,hg⟩
 have HU:Y (UInv w1 rb B (r.drop 1)):=hu
 have HG:Y (w.grownBy w1 (some rb)):=hg
 obtain⟨g,c,e1,_,_⟩:=World.ownsRow.form ho (by omega)
 simp only[qQ,true_and] at e1
 obtain⟨rfl,rfl⟩:=e1
 have c0:w1.cell? ⟨g,0,none⟩=some (.int .u8 (r.headD 0).toNat):=by
  have h:=qR ho 0 (by omega)
  rw[zq0] at h;exact h
 have hb:=(r.headD 0).toNat_lt
 have HV:Y ((qZ r).1=(r.headD 0).toNat):=rfl
 have HD:Y ((qZ r).2=r.drop 1):=rfl
 clear ho hu hg H1
 generalize r.headD 0=x at*
 go_wp2
 go_ret
 rw[HV.o,HD.o]
 exact⟨rfl,HU.o,HG.o⟩
end Go.Proofs.YtfocdefchbnkpaaGreatDoor
