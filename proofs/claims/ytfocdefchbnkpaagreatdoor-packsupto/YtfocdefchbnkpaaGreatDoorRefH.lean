/- The headers that a rule asks for, as the document's own reader reads them. -/
import Derived.Test.YtfocdefchbnkpaaGreatDoorAli
import Derived.Test.YtfocdefchbnkpaaGreatDoorRefG
import Derived.Deep.AppendLies
set_option maxRecDepth 100000
set_option maxHeartbeats 20000000
namespace Go.Proofs.YtfocdefchbnkpaaGreatDoor
open Go.RowKit
theorem zY {w w':World}{B b:Nat}{e:TypeId}{aa:Nat}{v:Value}{n:Nat}{xs:List Value}(h:w.ownsRow B e aa v n xs)(hg:w.grownBy w' (some b))(hk:∀k,v.ownBlock=some k->k≠b):w'.ownsRow B e aa v n xs:=by
 refine h.kept hg ?_
 cases hv:v.ownBlock with
 | none=>exact Or.inl rfl
 | some k=>right;simpa using hk k hv
theorem xJ {w w':World}{o:Obj}{b:Nat}{aa:Option Nat}(h:w.heap[b]?=some o)(hg:w.grownBy w' aa)(hr:∀k,aa=some k->k≠b):w'.heap[b]?=some o:=by
 cases aa with
 | none=>exact zF h hg (by simp)
 | some k=>exact zF h hg (by simpa using fun e=>hr k rfl e.symm)
theorem zV {w w':World}{B:Nat}{e:TypeId}{ab:Nat}{v:Value}{n:Nat}{xs:List Value}{aa:Option Nat}(h:w.ownsRow B e ab v n xs)(hg:w.grownBy w' aa)(hk:∀k,v.ownBlock=some k->aa≠some k):w'.ownsRow B e ab v n xs:=by
 refine h.kept hg ?_
 cases hv:v.ownBlock with
 | none=>exact Or.inl rfl
 | some k=>right;exact fun c=>hk k hv c.symm
def lenOf:Value->Nat | .slice _ n _=>n | _=>0
theorem kB {w:World}{B:Nat}{e:TypeId}{aa:Nat}{v:Value}{n:Nat}{xs:List Value}(h:w.ownsRow B e aa v n xs):lenOf v=n:=by
 rcases h.2 with ⟨rfl,rfl⟩ | ⟨g,cap,cur,rfl,_⟩ <;> rfl
theorem zO {w:World}{B:Nat}{e:TypeId}{aa:Nat}{v:Value}{n:Nat}{xs:List Value}(h:w.ownsRow B e aa v n xs):∃a c,v = .slice a n c:=by
 rcases h.2 with ⟨rfl,rfl⟩ | ⟨g,cap,cur,rfl,_⟩
 ·exact⟨_,_,rfl⟩
 ·exact⟨_,_,rfl⟩
structure R.Mt where
 name:List UInt8
 val:List UInt8
 ask:Bool
def R.Mt.cells (m:R.Mt):List Value:=[.string (R.str m.name),.string (R.str m.val),.bool m.ask]
def xN (l:List R.Mt):List Value:=(l.map R.Mt.cells).flatten
theorem vj (l:List R.Mt)(m:R.Mt):xN (l++[m])=xN l++m.cells:=by simp[xN]
def qd:List UInt8:=[104,101,97,100,101,114]
def jK (ts:List R.Tok)(st:R.St)(n:Nat):List UInt8×R.St:=
 R.headerS ts (R.notS (R.needS ts st qd) (decide ((n:Int)<3)) 3 (R.cur ts st).at_) []
def wK (ts:List R.Tok)(s:R.St):List UInt8×R.St:=if R.isB s (R.cur ts s) [61] then R.valueS ts s else ([],s)
def ya (ts : List R.Tok) (st : R.St) (acc : List R.Mt) : R.St × List R.Mt :=
  (R.needS ts (wK ts (jK ts st acc.length).2).2 [59],
   acc ++ [⟨(jK ts st acc.length).1, (wK ts (jK ts st acc.length).2).1, R.isB (jK ts st acc.length).2 (R.cur ts (jK ts st acc.length).2) [61]⟩])
def R.mtLoop (ts:List R.Tok):Nat->R.St->List R.Mt->List R.Mt×R.St
 | 0,st,acc=>(acc,st)
 | n+1,st,acc=>if R.isB st (R.cur ts st) qd then R.mtLoop ts n (ya ts st acc).1 (ya ts st acc).2 else (acc,st)
def R.matchesS (ts:List R.Tok)(st:R.St):List R.Mt×R.St:=R.mtLoop ts (ts.length+1) st []
theorem R.among_K (l:List (List UInt8))(s:List UInt8)(p:Int)(st:R.St):(R.among l s p st).K=st.K:=by
 unfold R.among
 induction l generalizing st with
 | nil=>rfl
 | cons a l ih=>rw[List.foldl_cons,ih,R.notS_K]
theorem uv (ts:List R.Tok)(st:R.St)(l:List (List UInt8)):st.K<=(R.headerS ts st l).2.K:=by
 unfold R.headerS;simp only[R.among_K,R.notS_K];exact wy _ _ _
theorem R.needS_K (ts:List R.Tok)(st:R.St)(s:List UInt8):st.K<=(R.needS ts st s).K:=wy _ _ _
theorem R.kindS_K (ts:List R.Tok)(st:R.St)(k:Int):st.K<=(R.kindS ts st k).K:=wy _ _ _
theorem zcS (ts:List R.Tok)(st:R.St):st.K<=(R.valueS ts st).2.K:=by
 unfold R.valueS;simp only[R.notS_K];exact qf (R.needS_K _ _ _) (R.kindS_K _ _ _)
theorem uq (ts:List R.Tok)(st:R.St)(aa:List R.Mt)(h:R.isB st (R.cur ts st) qd=true):st.K+1<=(ya ts st aa).1.K:=by
 have h1:=R.needS_yes h
 have h2:(R.needS ts st qd).K<=(jK ts st aa.length).2.K:=by
  have:=uv ts (R.notS (R.needS ts st qd) (decide ((aa.length:Int)<3)) 3 (R.cur ts st).at_) []
  rwa[R.notS_K] at this
 have h5:(R.needS ts st qd).K=st.K+1:=by rw[h1]
 have h3:(jK ts st aa.length).2.K<=(wK ts (jK ts st aa.length).2).2.K:=by
  unfold wK;split
  ·exact zcS _ _
  ·exact zw _
 have h4:=R.needS_K ts (wK ts (jK ts st aa.length).2).2 [59]
 unfold ya
 simp only
 omega
theorem zm5:(Tryz.prog.info? 181).map (fun i=>(i.zero,i.size,i.bytes))=some (some (.agg #[.string ⟨#[]⟩,.string ⟨#[]⟩,.bool false]),3,40):=by kernel_rfl
theorem ziC {w:World}{rb g an:Nat}{ts:List R.Tok}{st:R.St}{H:Value}(h:RInv w rb g an ts st H) :
  Calls Tryz.prog 134 #[.pointer (some ⟨rb,0,none⟩)] w fun e w'=>∃v,e = .returned v/\RInv w' rb g an ts (R.matchesS ts st).2 H/\w.grownBy w' (some rb)/\w'.ownsRow w.heap.size 181 3 v (R.matchesS ts st).1.length (xN (R.matchesS ts st).1):=by
 obtain⟨i0,hi,bA,bB,bC⟩:=info_parts zm5
 have HP:Y (R.matchesS ts st=R.mtLoop ts (ts.length+1) st []):=rfl
 have H0:Y _:=h
 have b8:=zI h.rd
 have ce:g<w.heap.size:=h.gl
 generalize R.matchesS ts st=r at*
 clear h
 go_enter Tryz.func134,Tryz.ntmps134
 go_wp2_with fail
 go_loopw [3] (fun v wr=>∃(n:Nat) (aa:List R.Mt) (s:R.St),aa.length<=s.K/\s.K<ts.length/\ts.length<n+s.K/\Y (R.mtLoop ts n s aa=r)/\Y (RInv wr rb g an ts s H)/\Y (w.grownBy wr (some rb))/\Y (wr.ownsRow w.heap.size 181 3 v aa.length (xN aa))) (fun v _=>ts.length+1 - lenOf v)
 case atStart=>exact⟨ts.length+1,[],st,zo _,H0.o.lt,by omega,HP.o.symm,H0,ze _ _,xd _ _ _ _⟩
 case round=>
  obtain⟨n,aa,s,cb,ca,hn,HL,IR,HR,HO⟩:=hrel
  have b9:=zI IR.o.rd
  have cW:=HR.o.size
  have cf:=IR.o.ok.len
  obtain⟨n,rfl⟩:∃m,n=m+1:=⟨n - 1,by omega⟩
  have ag:=HL.o
  rw[R.mtLoop] at ag
  have bU:Y (lenOf u3=aa.length):=kB HO.o
  obtain⟨ua,uc,rfl⟩:=zO HO.o
  have bH:Y _:=HO.o
  go_wp2_with fail
  refine(ky IR.o _).mono ?_
  rintro e ar ⟨rfl,aJ⟩
  have aL:=zb aJ (some rb)
  have aC:Y _:=(IR.o).keep aJ
  have bX:=zI aC.o.rd
  have cw:wr.heap.size+0<=ar.heap.size:=by have h:=aL.size;simpa using h
  have a3:Y (wr.grownBy ar (some rb)):=aL
  have aw:=J (zD HR.o a3.o)
  have cM:=aw.o.size
  have bb:Y _:=zS bH.o a3.o (by omega)
  clear aL aJ
  rw[show(⟨#[104,101,97,100,101,114]⟩:ByteArray).data.toList=qd from rfl]
  cases hgo:R.isB s (R.cur ts s) qd
  ·rw[if_neg (by rw[hgo];simp)] at ag
   go_wp2
   go_ret
   exact⟨_,rfl,by rw[<-ag];exact aC.o,aw.o,by rw[<-ag];exact bb.o⟩
  ·rw[if_pos (by rw[hgo])] at ag
   have bS:=uq ts s aa hgo
   have ah:Y ((ya ts s aa).1=R.needS ts (wK ts (jK ts s aa.length).2).2 [59]):=rfl
   have aj:Y ((ya ts s aa).2=aa++[⟨(jK ts s aa.length).1,(wK ts (jK ts s aa.length).2).1,R.isB (jK ts s aa.length).2 (R.cur ts (jK ts s aa.length).2) [61]⟩]):=rfl
   have bT:(ya ts s aa).2.length=aa.length+1:=by rw[aj.o];simp
   generalize ya ts s aa=rr at*
   obtain⟨s5,bq⟩:=rr
   simp only at ag bS ah aj bT
   have ba:Y _:=ag
   clear ag HL
   go_wp2_with fail
   refine(xK aC.o _).mono ?_
   rintro e au ⟨rfl,bg,aM⟩
   have bm:Y _:=bg
   have bY:=zI bm.o.rd
   have cx:ar.heap.size+0<=au.heap.size:=by have h:=aM.size;simpa using h
   have a4:Y (ar.grownBy au (some rb)):=aM
   have aT:=J (zD aw.o a4.o)
   have cN:=aT.o.size
   have bI:Y _:=zS bb.o a4.o (by omega)
   clear aM bg
   go_wp2_with fail
   refine(j8 (bm.o.keep (zL _ _ _)) _ _ _ _ _).mono ?_
   rintro e av ⟨rfl,bh,aN⟩
   have am:Y _:=bh
   have bZ:=zI am.o.rd
   have cy:au.heap.size+1<=av.heap.size:=by have h:=aN.size;simpa using h
   have a5:Y (au.grownBy av (some rb)):=(zD (zL _ _ _) aN)
   have aU:=J (zD aT.o a5.o)
   have cO:=aU.o.size
   have bJ:Y _:=zS bI.o a5.o (by omega)
   clear aN bh
   go_wp2_with fail
   refine(fZ am.o (.slice none 0 0) [] (xd _ _ _ _) (by simp) (by simp[Value.ownBlock])).mono ?_
   rintro e ab ⟨rfl,bi,aO⟩
   have bn:Y _:=bi
   have b0:=zI bn.o.rd
   have cz:av.heap.size+0<=ab.heap.size:=by have h:=aO.size;simpa using h
   have a6:Y (av.grownBy ab (some rb)):=aO
   have aV:=J (zD aU.o a6.o)
   have cP:=aV.o.size
   have bc:Y _:=zS bJ.o a6.o (by omega)
   clear aO bi
   have JA:Y (RInv ab rb g an ts (jK ts s aa.length).2 H):=bn
   have bG:Y ((jK ts s aa.length).1.length<=3000):=by show _<=_;unfold jK R.headerS;simp only[vW];exact am.o.ok.strs _ _ am.o.cur
   rw[show(R.headerS ts (R.notS (R.needS ts s (⟨#[104,101,97,100,101,114]⟩:ByteArray).data.toList) (decide ((aa.length:Int)<3)) 3 ((R.cur ts s).at_:Int)) []).1=(jK ts s aa.length).1 from rfl]
   generalize jK ts s aa.length=pa at*
   obtain⟨nm,s3⟩:=pa
   simp only at JA ah aj bG ⊢
   have aS:∀k,(.slice ua aa.length uc:Value).ownBlock=some k->k<ab.heap.size:=fun k hk=>(zx bc.o k hk).2
   go_wp2_with fail
   refine(ky (JA.o.keep (zL _ _ _)) _).mono ?_
   rintro e ad ⟨rfl,aK⟩
   have ao:=zb aK (some rb)
   have aD:Y _:=((JA.o.keep (zL _ _ _))).keep aK
   have b1:=zI aD.o.rd
   have cA:ab.heap.size+1<=ad.heap.size:=by have h:=ao.size;simpa using h
   have a7:Y (ab.grownBy ad (some rb)):=(zD (zL _ _ _) ao)
   have ax:=J (zD aV.o a7.o)
   have cQ:=ax.o.size
   have bd:Y _:=zS bc.o a7.o (by omega)
   have af:Y (ad.heap[ab.heap.size]?=some (.cells #[.string (R.str nm),.string ⟨#[]⟩,.bool false] 181)):=qz ao (by simp;omega)
   clear ao aK
   rw[show(⟨#[61]⟩:ByteArray).data.toList=[61] from rfl]
   have HB:Y (wK ts s3=if R.isB s3 (R.cur ts s3) [61] then R.valueS ts s3 else ([],s3)):=rfl
   generalize wK ts s3=pb at*
   obtain⟨vl,s4⟩:=pb
   simp only at ah aj
   have co:=zI af.o
   have ci:=ztW af.o
   have cl:=zuG 0 af.o
   have cj:=zuA af.o
   have cm:=zuG 1 af.o
   have ck:=ztX af.o
   have cn:=zuG 2 af.o
   cases hask:R.isB s3 (R.cur ts s3) [61]
   ·rw[if_neg (by rw[hask];simp)] at HB
    obtain⟨bz,bx⟩:=Prod.mk.inj HB.o
    have HV:Y (vl=[]):=bz
    have aB:Y (s4=s3):=bx
    clear bz bx
    rw[aB.o] at ah
    have bO:Y _:=aD.o.other (zG ad ab.heap.size 2 (.bool false)) (by omega) (by omega)
    have aW:=J (zm ax.o (zG ad ab.heap.size 2 (.bool false)) (by omega))
    have az:Y _:=zY bd.o (zG ad ab.heap.size 2 (.bool false)) (fun k hk=>by have:=aS k hk;omega)
    have bV:Y ((World.setCell ad ⟨ab.heap.size,2,none⟩ (.bool false)).heap[ab.heap.size]?=some (.cells #[.string (R.str nm),.string ⟨#[]⟩,.bool false] 181)):=zR af.o (.bool false)
    have cB:ad.heap.size<=(World.setCell ad ⟨ab.heap.size,2,none⟩ (.bool false)).heap.size:=by simp[World.setCell]
    have cJ:(World.setCell ad ⟨ab.heap.size,2,none⟩ (.bool false)).heap.size<=ad.heap.size:=by simp[World.setCell]
    go_wp2_with (at_builtin;refine wpList_append_lies _ rfl _ _ 122 rfl (w.heap.size) 181 i0 _ 3 40 Tryz.underlying122 hi bA bB bC rfl (by decide) _ _ _ rfl (qK az.o _) ⟨ad.heap.size,0,none⟩ 1 1 [.string (R.str nm),.string (⟨#[]⟩),.bool false] rfl rfl ?c1 ?c2 (by decide) ?c3 ?c4 ?c5 (ad.heap.size+1) (by simp[World.setCell]) ?_)
    case c1=>exact zu _ #[_,_,_] _ _ (by simp[World.setCell])
    case c2=>intro u hu;simp at hu;rcases hu with rfl | rfl | rfl <;> rfl
    case c3=>unfold maxLen;omega
    case c4=>omega
    case c5=>have:=aW.o.size;simp;omega
    intro bt br ak bv ap cc _
    have bK:Y (ak.ownsRow w.heap.size 181 3 (.slice (some ⟨bt,0,none⟩) (aa.length+1) br) (aa++[(⟨nm,vl,false⟩:R.Mt)]).length (xN (aa++[(⟨nm,vl,false⟩:R.Mt)]))):=by rw[vj,zh];rw[HV.o];exact bv
    have aH:∀k,(.slice ua aa.length uc:Value).ownBlock=some k->w.heap.size<=k:=fun k hk=>(zx az.o k hk).1
    have cg:∀k,(.slice ua aa.length uc:Value).ownBlock=some k->k<(World.setCell ad ⟨ab.heap.size,2,none⟩ (.bool false)).heap.size:=fun k hk=>(zx az.o k hk).2
    have bo:Y _:=(bO.o.keep (zL _ _ _)).away ap (fun k hk=>by have h1:=aH k hk;exact⟨by omega,by omega⟩)
    have aX:Y (w.grownBy ak (some rb)):=qV (zD aW.o (zL _ _ _)) ap (fun k hk=>by have h1:=aH k hk;omega)
    have b2:=zI bo.o.rd
    have cC:(World.setCell ad ⟨ab.heap.size,2,none⟩ (.bool false)).heap.size+1<=ak.heap.size:=by have h:=ap.size;simpa using h
    have cR:=aX.o.size
    clear bv ap aH
    go_wp2_with fail
    refine(xK bo.o _).mono ?_
    rintro e bD ⟨rfl,bj,aP⟩
    have aE:Y _:=bj
    have b3:=zI aE.o.rd
    have cD:ak.heap.size+0<=bD.heap.size:=by have h:=aP.size;simpa using h
    have a8:Y (ak.grownBy bD (some rb)):=aP
    have aY:=J (zD aX.o a8.o)
    have cS:=aY.o.size
    have be:Y _:=zS bK.o a8.o (by omega)
    clear aP bj
    go_wp2
    go_roundw
    case rel=>exact⟨n,bq,s5,by omega,by rw[ah.o];exact aE.o.lt,by omega,ba,by rw[ah.o];exact aE.o,aY,by rw[aj.o,hask];exact be.o⟩
    case measure=>show _<_;rw[show lenOf (.slice (some ⟨bt,0,none⟩) (aa.length+1) br)=aa.length+1 from by rw[kB be.o];simp];simp[lenOf];omega
   ·rw[if_pos (by rw[hask])] at HB
    have HV:Y ((R.valueS ts s3).1=vl):=by rw[<-HB.o];rfl
    have aB:Y ((R.valueS ts s3).2=s4):=by rw[<-HB.o];rfl
    go_wp2_with fail
    have bP:Y _:=aD.o.other (zG ad ab.heap.size 2 (.bool true)) (by omega) (by omega)
    have bF:=J (zm ax.o (zG ad ab.heap.size 2 (.bool true)) (by omega))
    have bL:Y _:=zY bd.o (zG ad ab.heap.size 2 (.bool true)) (fun k hk=>by have:=aS k hk;omega)
    have bR:Y ((World.setCell ad ⟨ab.heap.size,2,none⟩ (.bool true)).heap[ab.heap.size]?=some (.cells #[.string (R.str nm),.string ⟨#[]⟩,.bool true] 181)):=zR af.o (.bool true)
    have cE:ad.heap.size<=(World.setCell ad ⟨ab.heap.size,2,none⟩ (.bool true)).heap.size:=by simp[World.setCell]
    have cK:(World.setCell ad ⟨ab.heap.size,2,none⟩ (.bool true)).heap.size<=ad.heap.size:=by simp[World.setCell]
    generalize(World.setCell ad ⟨ab.heap.size,2,none⟩ (.bool true))=wLyy1 at*
    have b4:rb<wLyy1.heap.size:=by omega
    refine(zeU bP.o).mono ?_
    rintro e ae ⟨rfl,bk,aQ⟩
    have aF:Y _:=bk
    have b5:=zI aF.o.rd
    have cF:wLyy1.heap.size+0<=ae.heap.size:=by have h:=aQ.size;simpa using h
    have ay:Y (wLyy1.grownBy ae (some rb)):=aQ
    have aZ:=J (zD bF.o ay.o)
    have cT:=aZ.o.size
    have bM:Y _:=zS bL.o ay.o (by omega)
    have ai:=J (zF bR.o ay.o (by simp;omega))
    clear aQ bk
    rw[aB.o] at aF
    rw[HV.o]
    have cv:=zI ai.o
    have cp:=ztW ai.o
    have cs:=zuG 0 ai.o
    have cq:=zuA ai.o
    have ct:=zuG 1 ai.o
    have cr:=ztX ai.o
    have cu:=zuG 2 ai.o
    have bQ:Y _:=aF.o.other (zG ae ab.heap.size 1 (.string (R.str vl))) (by omega) (by omega)
    have a0:=J (zm aZ.o (zG ae ab.heap.size 1 (.string (R.str vl))) (by omega))
    have aA:Y _:=zY bM.o (zG ae ab.heap.size 1 (.string (R.str vl))) (fun k hk=>by have:=aS k hk;omega)
    have bW:Y ((World.setCell ae ⟨ab.heap.size,1,none⟩ (.string (R.str vl))).heap[ab.heap.size]?=some (.cells #[.string (R.str nm),.string (R.str vl),.bool true] 181)):=zR ai.o (.string (R.str vl))
    have cG:ae.heap.size<=(World.setCell ae ⟨ab.heap.size,1,none⟩ (.string (R.str vl))).heap.size:=by simp[World.setCell]
    have cL:(World.setCell ae ⟨ab.heap.size,1,none⟩ (.string (R.str vl))).heap.size<=ae.heap.size:=by simp[World.setCell]
    go_wp2_with (at_builtin;refine wpList_append_lies _ rfl _ _ 122 rfl (w.heap.size) 181 i0 _ 3 40 Tryz.underlying122 hi bA bB bC rfl (by decide) _ _ _ rfl (qK aA.o _) ⟨ae.heap.size,0,none⟩ 1 1 [.string (R.str nm),.string (R.str vl),.bool true] rfl rfl ?c1 ?c2 (by decide) ?c3 ?c4 ?c5 (ae.heap.size+1) (by simp[World.setCell]) ?_)
    case c1=>exact zu _ #[_,_,_] _ _ (by simp[World.setCell])
    case c2=>intro u hu;simp at hu;rcases hu with rfl | rfl | rfl <;> rfl
    case c3=>unfold maxLen;omega
    case c4=>omega
    case c5=>have:=a0.o.size;simp;omega
    intro bu bs al bw aq cd _
    have bN:Y (al.ownsRow w.heap.size 181 3 (.slice (some ⟨bu,0,none⟩) (aa.length+1) bs) (aa++[(⟨nm,vl,true⟩:R.Mt)]).length (xN (aa++[(⟨nm,vl,true⟩:R.Mt)]))):=by rw[vj,zh];exact bw
    have aI:∀k,(.slice ua aa.length uc:Value).ownBlock=some k->w.heap.size<=k:=fun k hk=>(zx aA.o k hk).1
    have ch:∀k,(.slice ua aa.length uc:Value).ownBlock=some k->k<(World.setCell ae ⟨ab.heap.size,1,none⟩ (.string (R.str vl))).heap.size:=fun k hk=>(zx aA.o k hk).2
    have bp:Y _:=(bQ.o.keep (zL _ _ _)).away aq (fun k hk=>by have h1:=aI k hk;exact⟨by omega,by omega⟩)
    have a1:Y (w.grownBy al (some rb)):=qV (zD a0.o (zL _ _ _)) aq (fun k hk=>by have h1:=aI k hk;omega)
    have b6:=zI bp.o.rd
    have cH:(World.setCell ae ⟨ab.heap.size,1,none⟩ (.string (R.str vl))).heap.size+1<=al.heap.size:=by have h:=aq.size;simpa using h
    have cU:=a1.o.size
    clear bw aq aI
    go_wp2_with fail
    refine(xK bp.o _).mono ?_
    rintro e bE ⟨rfl,bl,aR⟩
    have aG:Y _:=bl
    have b7:=zI aG.o.rd
    have cI:al.heap.size+0<=bE.heap.size:=by have h:=aR.size;simpa using h
    have a9:Y (al.grownBy bE (some rb)):=aR
    have a2:=J (zD a1.o a9.o)
    have cV:=a2.o.size
    have bf:Y _:=zS bN.o a9.o (by omega)
    clear aR bl
    go_wp2
    go_roundw
    case rel=>exact⟨n,bq,s5,by omega,by rw[ah.o];exact aG.o.lt,by omega,ba,by rw[ah.o];exact aG.o,a2,by rw[aj.o,hask];exact bf.o⟩
    case measure=>show _<_;rw[show lenOf (.slice (some ⟨bu,0,none⟩) (aa.length+1) bs)=aa.length+1 from by rw[kB bf.o];simp];simp[lenOf];omega
structure Kept2 (w w':World) (a b:Nat):Prop where
 os:w'.os=w.os
 tape:w'.tape=w.tape
 output:w'.output=w.output
 size:w.heap.size<=w'.heap.size
 block:∀k,k<w.heap.size->k≠a->k≠b->w'.heap[k]?=w.heap[k]?
theorem Kept2.refl (w:World)(a b:Nat):Kept2 w w a b:=⟨rfl,rfl,rfl,zw _,fun _ _ _ _=>rfl⟩
theorem Kept2.step {w x y:World}{a b:Nat}(h:Kept2 w x a b)(g:x.grownBy y (some a)):Kept2 w y a b:=
 ⟨g.os.trans h.os,g.tape.trans h.tape,g.output.trans h.output,qf h.size g.size,fun k hk ha hb=>(g.block k (vQ hk h.size) (by simpa using ha)).trans (h.block k hk ha hb)⟩
theorem Kept2.own {w x y:World}{a b:Nat}(h:Kept2 w x a b)(g:x.grownBy y (some b)):Kept2 w y a b:=
 ⟨g.os.trans h.os,g.tape.trans h.tape,g.output.trans h.output,qf h.size g.size,fun k hk ha hb=>(g.block k (vQ hk h.size) (by simpa using hb)).trans (h.block k hk ha hb)⟩
theorem Kept2.far {w x y:World}{a b:Nat}{aa:Option Nat}(h:Kept2 w x a b)(g:x.grownBy y aa)(hr:∀k,aa=some k->w.heap.size<=k):Kept2 w y a b:=
 ⟨g.os.trans h.os,g.tape.trans h.tape,g.output.trans h.output,qf h.size g.size,fun k hk ha hb=>(g.block k (vQ hk h.size) (fun e=>by have:=hr k e.symm;omega)).trans (h.block k hk ha hb)⟩
theorem Kept2.keep {w w':World}{a b k:Nat}{o:Obj}(h:Kept2 w w' a b)(hk:w.heap[k]?=some o)(h1:k≠a)(h2:k≠b):w'.heap[k]?=some o:=by
 rw[h.block k (zI hk) h1 h2];exact hk
theorem kJ {w:World}{B:Nat}{e:TypeId}{aa:Nat}{v:Value}{n:Nat}{xs:List Value}(h:w.ownsRow B e aa v n xs):∀k,v.ownBlock=some k->∃c,w.heap[k]?=some (.cells c e (0,0)):=by
 intro k hk
 rcases h.2 with ⟨rfl,_⟩ | ⟨g,cap,cur,rfl,_,hg,_⟩
 ·simp[Value.ownBlock] at hk
 ·simp[Value.ownBlock] at hk;subst hk;exact⟨cur,hg⟩
theorem xF {w:World}{B B':Nat}{e e':TypeId}{s s':Nat}{v v':Value}{n n':Nat}{xs ab:List Value}(h:w.ownsRow B e s v n xs)(h':w.ownsRow B' e' s' v' n' ab)(aa:e≠e'):∀k,v'.ownBlock=some k->v.ownBlock≠some k:=by
 intro k hk hv
 obtain⟨c,h1⟩:=kJ h k hv
 obtain⟨c',h2⟩:=kJ h' k hk
 rw[h1] at h2
 simp only[Option.some.injEq,Obj.cells.injEq] at h2
 exact aa h2.2.1
theorem zW {w:World}{b B:Nat}{cs:Array Value}{t e:TypeId}{f:Nat×Nat}{s:Nat}{v:Value}{n:Nat}{xs:List Value}(h:w.heap[b]?=some (.cells cs t f))(h':w.ownsRow B e s v n xs)(aa:t≠e):∀k,v.ownBlock=some k->k≠b:=by
 intro k hk e1
 obtain⟨c',h2⟩:=kJ h' k hk
 rw[e1,h] at h2
 simp only[Option.some.injEq,Obj.cells.injEq] at h2
 exact aa h2.2.1
theorem zjN {vA vD:Value}{g' H n c:Nat}(aa:∀k,vA.ownBlock=some k->vD.ownBlock≠some k)(ab:vA.ownBlock=some g'\/g'=H)(hD:∀k,vD.ownBlock=some k->k<H):∀k,(Value.slice (some ⟨g',0,none⟩) n c).ownBlock=some k->vD.ownBlock≠some k:=by
 intro k hk hd
 simp[Value.ownBlock] at hk
 subst hk
 rcases ab with h | h
 ·exact aa _ h hd
 ·have:=hD _ hd;omega
theorem zfD {vA vD:Value}{g' H n c:Nat}(aa:∀k,vA.ownBlock=some k->vD.ownBlock≠some k)(ab:vD.ownBlock=some g'\/g'=H)(hA:∀k,vA.ownBlock=some k->k<H):∀k,vA.ownBlock=some k->(Value.slice (some ⟨g',0,none⟩) n c).ownBlock≠some k:=by
 intro k hk hd
 simp[Value.ownBlock] at hd
 subst hd
 rcases ab with h | h
 ·exact aa _ hk h
 ·have:=hA _ hk;omega
theorem qF {w:World}{B B':Nat}{e:TypeId}{s:Nat}{v:Value}{n:Nat}{xs:List Value}(h:w.ownsRow B e s v n xs)(hb:B'<=B):w.ownsRow B' e s v n xs:=by
 refine⟨h.1,?_⟩
 rcases h.2 with h2 | ⟨g,cap,cur,rfl,h3,r⟩
 ·exact Or.inl h2
 ·exact Or.inr ⟨g,cap,cur,rfl,by omega,r⟩
def qH (l:List (List UInt8×List UInt8)):List Value:=(l.map fun t=>[Value.string (R.str t.1),.string (R.str t.2)]).flatten
theorem jj (l:List (List UInt8×List UInt8))(t:List UInt8×List UInt8):qH (l++[t])=qH l++[Value.string (R.str t.1),.string (R.str t.2)]:=by simp[qH]
theorem yB (l:List (List UInt8))(t:List UInt8):zf (l++[t])=zf l++[Value.string (R.str t)]:=by simp[zf]
def xf:List UInt8:=[115,101,116]
def x7:List UInt8:=[100,114,111,112]
def kx (ts:List R.Tok)(st:R.St)(n:Nat)(am:List (List UInt8)):List UInt8×R.St:=
 R.headerS ts (R.notS (R.needS ts st xf) (decide ((n:Int)<3)) 3 (R.cur ts st).at_) am
def yb (ts:List R.Tok)(st:R.St)(acc:List (List UInt8×List UInt8)):R.St×List (List UInt8×List UInt8):=
 (R.needS ts (R.valueS ts (kx ts st acc.length (acc.map Prod.fst)).2).2 [59],acc++[((kx ts st acc.length (acc.map Prod.fst)).1,(R.valueS ts (kx ts st acc.length (acc.map Prod.fst)).2).1)])
def R.stLoop (ts:List R.Tok):Nat->R.St->List (List UInt8×List UInt8)->List (List UInt8×List UInt8)×R.St
 | 0,st,acc=>(acc,st)
 | n+1,st,acc=>if R.isB st (R.cur ts st) xf then R.stLoop ts n (yb ts st acc).1 (yb ts st acc).2 else (acc,st)
def uS (ts:List R.Tok)(st:R.St)(n:Nat)(am:List (List UInt8)):List UInt8×R.St:=
 R.headerS ts (R.notS (R.needS ts st x7) (decide ((n:Int)<3)) 3 (R.cur ts st).at_) am
def yY (ts:List R.Tok)(st:R.St)(sets acc:List (List UInt8)):R.St×List (List UInt8):=
 (R.needS ts (uS ts st acc.length (sets++acc)).2 [59],acc++[(uS ts st acc.length (sets++acc)).1])
def R.dpLoop (ts:List R.Tok)(sets:List (List UInt8)):Nat->R.St->List (List UInt8)->List (List UInt8)×R.St
 | 0,st,acc=>(acc,st)
 | n+1,st,acc=>if R.isB st (R.cur ts st) x7 then R.dpLoop ts sets n (yY ts st sets acc).1 (yY ts st sets acc).2 else (acc,st)
def R.editsS (ts : List R.Tok) (st : R.St) : (List (List UInt8 × List UInt8) × List (List UInt8)) × R.St :=
  (((R.stLoop ts (ts.length + 1) st []).1, (R.dpLoop ts ((R.stLoop ts (ts.length + 1) st []).1.map Prod.fst) (ts.length + 1) (R.stLoop ts (ts.length + 1) st []).2 []).1),
   (R.dpLoop ts ((R.stLoop ts (ts.length + 1) st []).1.map Prod.fst) (ts.length + 1) (R.stLoop ts (ts.length + 1) st []).2 []).2)
theorem uk (ts:List R.Tok)(st:R.St)(aa:List (List UInt8×List UInt8))(h:R.isB st (R.cur ts st) xf=true):st.K+1<=(yb ts st aa).1.K:=by
 have h1:=R.needS_yes h
 have h2:(R.needS ts st xf).K<=(kx ts st aa.length (aa.map Prod.fst)).2.K:=by
  have:=uv ts (R.notS (R.needS ts st xf) (decide ((aa.length:Int)<3)) 3 (R.cur ts st).at_) (aa.map Prod.fst)
  rwa[R.notS_K] at this
 have h5:(R.needS ts st xf).K=st.K+1:=by rw[h1]
 have h3:=zcS ts (kx ts st aa.length (aa.map Prod.fst)).2
 have h4:=R.needS_K ts (R.valueS ts (kx ts st aa.length (aa.map Prod.fst)).2).2 [59]
 unfold yb
 simp only
 omega
theorem uu (ts:List R.Tok)(st:R.St)(ab aa:List (List UInt8))(h:R.isB st (R.cur ts st) x7=true):st.K+1<=(yY ts st ab aa).1.K:=by
 have h1:=R.needS_yes h
 have h2:(R.needS ts st x7).K<=(uS ts st aa.length (ab++aa)).2.K:=by
  have:=uv ts (R.notS (R.needS ts st x7) (decide ((aa.length:Int)<3)) 3 (R.cur ts st).at_) (ab++aa)
  rwa[R.notS_K] at this
 have h5:(R.needS ts st x7).K=st.K+1:=by rw[h1]
 have h4:=R.needS_K ts (uS ts st aa.length (ab++aa)).2 [59]
 unfold yY
 simp only
 omega
theorem zm1:(Tryz.prog.info? 185).map (fun i=>(i.zero,i.size,i.bytes))=some (some (.agg #[.string ⟨#[]⟩,.string ⟨#[]⟩]),2,32):=by kernel_rfl
theorem fC:(Tryz.prog.info? 9).map (fun i=>(i.zero,i.size,i.bytes))=some (some (.string ⟨#[]⟩),1,16):=by kernel_rfl
theorem zeM {w:World}{rb g ax:Nat}{ts:List R.Tok}{st:R.St}{H:Value}(h:RInv w rb g ax ts st H)(ub:Nat)(c0 c1 c2 c3 c4 c5:Value)
  (hu:w.heap[ub]?=some (.cells #[c0,c1,c2,c3,c4,c5,.slice none 0 0,.slice none 0 0] 126 (0,0))) (eb:ub≠rb) (ec:ub≠g) :
  Calls Tryz.prog 136 #[.pointer (some ⟨rb,0,none⟩),.pointer (some ⟨ub,0,none⟩)] w fun e w'=>e = .returned (.tuple #[])/\RInv w' rb g ax ts (R.editsS ts st).2 H/\Kept2 w w' rb ub/\
   ∃vS vD,w'.heap[ub]?=some (.cells #[c0,c1,c2,c3,c4,c5,vS,vD] 126 (0,0))/\w'.ownsRow w.heap.size 185 2 vS (R.editsS ts st).1.1.length (qH (R.editsS ts st).1.1)/\w'.ownsRow w.heap.size 9 1 vD (R.editsS ts st).1.2.length (zf (R.editsS ts st).1.2):=by
 obtain⟨i0,hi,dA,dB,dC⟩:=info_parts zm1
 obtain⟨i1,hj,bv,bw,bx⟩:=info_parts fC
 have HP:Y (R.editsS ts st=(((R.stLoop ts (ts.length+1) st []).1,(R.dpLoop ts ((R.stLoop ts (ts.length+1) st []).1.map Prod.fst) (ts.length+1) (R.stLoop ts (ts.length+1) st []).2 []).1),
 (R.dpLoop ts ((R.stLoop ts (ts.length+1) st []).1.map Prod.fst) (ts.length+1) (R.stLoop ts (ts.length+1) st []).2 []).2)):=rfl
 have H0:Y _:=h
 have de:Y _:=hu
 have d0:=zI h.rd
 have d8:g<w.heap.size:=h.gl
 have ed:=zI hu
 generalize R.editsS ts st=r at*
 generalize hq:R.stLoop ts (ts.length+1) st []=q at*
 have HQ:Y _:=hq
 clear h hu hq
 go_enter Tryz.func136,Tryz.ntmps136
 go_wp2_with fail
 go_loopw [4,5] (fun v iv wr=>∃(n:Nat) (aa:List (List UInt8×List UInt8)) (s:R.St) (vS:Value),iv = .int .i64 aa.length/\aa.length<=s.K/\s.K<ts.length/\ts.length<n+s.K/\Y (R.stLoop ts n s aa=q)/\Y (RInv wr rb g ax ts s H)/\Y (Kept2 w wr rb ub)/\Y (wr.heap[ub]?=some (.cells #[c0,c1,c2,c3,c4,c5,vS,.slice none 0 0] 126 (0,0)))/\
   Y (wr.ownsRow w.heap.size 185 2 vS aa.length (qH aa))/\Y (wr.ownsRow w.heap.size 9 1 v aa.length (zf (aa.map Prod.fst)))) (fun _ iv _=>ts.length+1 - (intOf iv).toNat)
 case atStart=>exact⟨ts.length+1,[],st,_,rfl,zo _,H0.o.lt,by omega,HQ.o,H0,Kept2.refl _ _ _,de,xd _ _ _ _,xd _ _ _ _⟩
 case round=>
  obtain⟨n,aa,s,vS,rfl,d4,dx,hn,HL,IR,HR,HU,HS,HA⟩:=hrel
  have d1:=zI IR.o.rd
  have eV:=HR.o.size
  have ea:=IR.o.ok.len
  obtain⟨n,rfl⟩:∃m,n=m+1:=⟨n - 1,by omega⟩
  have ad:=HL.o
  rw[R.stLoop] at ad
  have di:Y _:=HU.o
  have c8:Y _:=HS.o
  have cG:Y _:=HA.o
  go_wp2_with fail
  refine(ky IR.o _).mono ?_
  rintro e aQ ⟨rfl,bi⟩
  have bp:=zb bi (some rb)
  have be:Y _:=(IR.o).keep bi
  have dR:=zI be.o.rd
  have ev:wr.heap.size+0<=aQ.heap.size:=by have h:=bp.size;simpa using h
  have aS:Y (wr.grownBy aQ (some rb)):=bp
  have a5:Y (Kept2 w aQ rb ub):=HR.o.step aS.o
  have eN:=a5.o.size
  have cp:=J (zF di.o aS.o (by simp;omega))
  have b0:Y _:=zS c8.o aS.o (by omega)
  have bP:Y _:=zS cG.o aS.o (by omega)
  clear bp bi
  rw[show(⟨#[115,101,116]⟩:ByteArray).data.toList=xf from rfl]
  cases hgo:R.isB s (R.cur ts s) xf
  ·rw[if_neg (by rw[hgo];simp)] at ad
   have cT:Y (q.1=aa):=by rw[<-ad];rfl
   have cU:Y (q.2=s):=by rw[<-ad];rfl
   clear ad HL
   rw[cT.o,cU.o] at HP
   generalize cw:R.dpLoop ts (aa.map Prod.fst) (ts.length+1) s []=q2 at*
   have cV:Y _:=cw
   clear cw
   go_wp2_with fail
   go_loopw [4,9] (fun v iv wx=>∃(n2:Nat) (ab:List (List UInt8)) (s2:R.St) (vD:Value),iv = .int .i64 ab.length/\ab.length<=s2.K/\s2.K<ts.length/\ts.length<n2+s2.K/\Y (R.dpLoop ts (aa.map Prod.fst) n2 s2 ab=q2)/\Y (RInv wx rb g ax ts s2 H)/\Y (Kept2 w wx rb ub)/\Y (wx.heap[ub]?=some (.cells #[c0,c1,c2,c3,c4,c5,vS,vD] 126 (0,0)))/\
     Y (wx.ownsRow w.heap.size 185 2 vS aa.length (qH aa))/\Y (wx.ownsRow w.heap.size 9 1 v (aa.length+ab.length) (zf (aa.map Prod.fst++ab)))/\Y (wx.ownsRow w.heap.size 9 1 vD ab.length (zf ab))/\Y (∀k,v.ownBlock=some k->vD.ownBlock≠some k)) (fun _ iv _=>ts.length+1 - (intOf iv).toNat)
   case atStart=>exact⟨ts.length+1,[],s,_,rfl,zo _,dx,by omega,cV.o,be,a5,cp,b0,by rw[zb3];exact bP.o,xd _ _ _ _,by intro k _ hk;simp[Value.ownBlock] at hk⟩
   case round=>
    obtain⟨n2,ab,s2,vD,rfl,d5,d3,d9,bV,IX,HX,df,cW,cA,cL,bL⟩:=hrel
    have d2:=zI IX.o.rd
    have eW:=HX.o.size
    obtain⟨n2,rfl⟩:∃m,n2=m+1:=⟨n2 - 1,by omega⟩
    have ad:=bV.o
    rw[R.dpLoop] at ad
    have dt:Y _:=df.o
    have cX:Y _:=cW.o
    have cB:Y _:=cA.o
    have cM:Y _:=cL.o
    go_wp2_with fail
    refine(ky IX.o _).mono ?_
    rintro e aO ⟨rfl,bh⟩
    have bk:=zb bh (some rb)
    have bc:Y _:=(IX.o).keep bh
    have dJ:=zI bc.o.rd
    have em:wr.heap.size+0<=aO.heap.size:=by have h:=bk.size;simpa using h
    have aD:Y (wr.grownBy aO (some rb)):=bk
    have a2:Y (Kept2 w aO rb ub):=HX.o.step aD.o
    have eG:=a2.o.size
    have cn:=J (zF dt.o aD.o (by simp;omega))
    have bW:Y _:=zS cX.o aD.o (by omega)
    have cC:Y _:=zS cB.o aD.o (by omega)
    have bS:Y _:=zS cM.o aD.o (by omega)
    clear bk bh
    rw[show(⟨#[100,114,111,112]⟩:ByteArray).data.toList=x7 from rfl]
    cases hgo2:R.isB s2 (R.cur ts s2) x7
    ·rw[if_neg (by rw[hgo2];simp)] at ad
     have cR:Y (q2.1=ab):=by rw[<-ad];rfl
     have cS:Y (q2.2=s2):=by rw[<-ad];rfl
     go_wp2
     go_end0
     exact⟨rfl,by rw[HP.o,cS.o];exact bc.o,a2.o,_,_,cn.o,by rw[HP.o];exact bW.o,by rw[HP.o,cR.o];exact bS.o⟩
    ·rw[if_pos (by rw[hgo2])] at ad
     have bj:=uu ts s2 (aa.map Prod.fst) ab hgo2
     have al:Y ((yY ts s2 (aa.map Prod.fst) ab).1=R.needS ts (uS ts s2 ab.length (aa.map Prod.fst++ab)).2 [59]):=rfl
     have ak:Y ((yY ts s2 (aa.map Prod.fst) ab).2=ab++[(uS ts s2 ab.length (aa.map Prod.fst++ab)).1]):=rfl
     have au:(yY ts s2 (aa.map Prod.fst) ab).2.length=ab.length+1:=by rw[ak.o];simp
     generalize yY ts s2 (aa.map Prod.fst) ab=rr at*
     obtain⟨s5,bg⟩:=rr
     simp only at ad bj al ak au
     have ba:Y _:=ad
     clear ad bV
     go_wp2_with fail
     refine(xK bc.o _).mono ?_
     rintro e aP ⟨rfl,b3,bl⟩
     have cc:Y _:=b3
     have dK:=zI cc.o.rd
     have en:aO.heap.size+0<=aP.heap.size:=by have h:=bl.size;simpa using h
     have aE:Y (aO.grownBy aP (some rb)):=bl
     have bC:Y (Kept2 w aP rb ub):=a2.o.step aE.o
     have eH:=bC.o.size
     have dj:=J (zF cn.o aE.o (by simp;omega))
     have cY:Y _:=zS bW.o aE.o (by omega)
     have cD:Y _:=zS cC.o aE.o (by omega)
     have cN:Y _:=zS bS.o aE.o (by omega)
     clear bl b3
     go_wp2_with fail
     refine(j8 (cc.o.keep (zL _ _ _)) _ _ _ _ _).mono ?_
     rintro e aA ⟨rfl,b4,bm⟩
     have cd:Y _:=b4
     have dL:=zI cd.o.rd
     have eo:aP.heap.size+1<=aA.heap.size:=by have h:=bm.size;simpa using h
     have aF:Y (aP.grownBy aA (some rb)):=(zD (zL _ _ _) bm)
     have bD:Y (Kept2 w aA rb ub):=bC.o.step aF.o
     have eI:=bD.o.size
     have dk:=J (zF dj.o aF.o (by simp;omega))
     have cZ:Y _:=zS cY.o aF.o (by omega)
     have a8:Y _:=zS cD.o aF.o (by omega)
     have cO:Y _:=zS cN.o aF.o (by omega)
     clear bm b4
     have bz:(aa.map Prod.fst++ab).length<=10000:=by rw[zh,xW];omega
     have bb:Y (StrRow aA u4 (aa.map Prod.fst++ab)):=by show World.ownsRow _ _ _ _ _ _ _;rw[zh,xW];exact qF a8.o (zo _)
     go_wp2_with fail
     refine(fZ cd.o u4 (aa.map Prod.fst++ab) bb.o bz (fun c=>by have:=(zx a8.o rb c).1;omega)).mono ?_
     rintro e am ⟨rfl,b5,bn⟩
     have ce:Y _:=b5
     have dM:=zI ce.o.rd
     have ep:aA.heap.size+0<=am.heap.size:=by have h:=bn.size;simpa using h
     have aG:Y (aA.grownBy am (some rb)):=bn
     have a3:Y (Kept2 w am rb ub):=bD.o.step aG.o
     have eJ:=a3.o.size
     have co:=J (zF dk.o aG.o (by simp;omega))
     have bX:Y _:=zS cZ.o aG.o (by omega)
     have aI:Y _:=zS a8.o aG.o (by omega)
     have bT:Y _:=zS cO.o aG.o (by omega)
     clear bn b5
     have JA:Y (RInv am rb g ax ts (uS ts s2 ab.length (aa.map Prod.fst++ab)).2 H):=ce
     rw[show(R.headerS ts (R.notS (R.needS ts s2 (⟨#[100,114,111,112]⟩:ByteArray).data.toList) (decide ((ab.length:Int)<3)) 3 ((R.cur ts s2).at_:Int)) (aa.map Prod.fst++ab)).1=(uS ts s2 ab.length (aa.map Prod.fst++ab)).1 from rfl]
     generalize uS ts s2 ab.length (aa.map Prod.fst++ab)=pa at*
     obtain⟨nm,s3⟩:=pa
     simp only at JA al ak ⊢
     go_wp2_with (at_builtin;refine wpList_append_lies _ rfl _ _ 22 rfl (w.heap.size) 9 i1 _ 1 16 Tryz.underlying22 hj bv bw bx rfl (by decide) _ _ _ rfl (qK aI.o _) ⟨am.heap.size,0,none⟩ 1 1 [.string (R.str nm)] rfl rfl ?c1 ?c2 (by decide) ?c3 ?c4 ?c5 (am.heap.size+1) (by simp) ?_)
     case c1=>exact zu _ #[_] _ _ (by simp)
     case c2=>intro u hu;simp at hu;subst hu;rfl
     case c3=>unfold maxLen;omega
     case c4=>omega
     case c5=>have:=a3.o.size;simp;omega
     intro dv cr an cs aq dy _
     have bN:Y (an.ownsRow w.heap.size 9 1 (.slice (some ⟨dv,0,none⟩) (aa.length+ab.length+1) cr) (aa.length+ab.length+1) (zf (aa.map Prod.fst++ab++[nm]))):=by rw[yB];exact cs
     have aY:∀k,(u4:Value).ownBlock=some k->w.heap.size<=k:=fun k hk=>(zx aI.o k hk).1
     have dD:∀k,(u4:Value).ownBlock=some k->k<am.heap.size:=fun k hk=>(zx aI.o k hk).2
     have cf:Y _:=(JA.o.keep (zL _ _ _)).away aq (fun k hk=>by have h1:=aY k hk;exact⟨by omega,by omega⟩)
     have a4:Y (Kept2 w an rb ub):=(a3.o.step (zL _ _ _)).far aq (fun k hk=>by have h1:=aY k hk;omega)
     have dN:=zI cf.o.rd
     have er:am.heap.size+1<=an.heap.size:=by have h:=aq.size;simpa using h
     have eK:=a4.o.size
     have aM:Y (an.heap[ub]?=some (.cells #[c0,c1,c2,c3,c4,c5,vS,vD] 126 (0,0))):=xJ (zF co.o (zL _ _ none) (by simp)) aq (fun k hk=>by have h1:=aY k hk;have h2:=dD k hk;exact zW co.o aI.o (by decide) k hk)
     have bY:Y _:=zV (qK bX.o _) aq (xF aI.o bX.o (by decide))
     have aK:Y _:=zV (qK bT.o _) aq (fun k hk c=>bL.o k c hk)
     clear cs aq aY
     have bM:Y _:=zjN (n:=aa.length+ab.length+1) (c:=cr) bL.o dy (fun k hk=>by have:=(zx bT.o k hk).2;omega)
     have dH:=zI aM.o
     have ef:=zu0 aM.o
     have eh:=zuG 7 aM.o
     go_wp2_with (at_builtin;refine wpList_append_lies _ rfl _ _ 22 rfl (w.heap.size) 9 i1 _ 1 16 Tryz.underlying22 hj bv bw bx rfl (by decide) _ _ _ rfl (qK aK.o _) ⟨an.heap.size,0,none⟩ 1 1 [.string (R.str nm)] rfl rfl ?c1 ?c2 (by decide) ?c3 ?c4 ?c5 (an.heap.size+1) (by simp) ?_)
     case c1=>exact zu _ #[_] _ _ (by simp)
     case c2=>intro u hu;simp at hu;subst hu;rfl
     case c3=>unfold maxLen;omega
     case c4=>omega
     case c5=>have:=a4.o.size;simp;omega
     intro ah ag ae ct ar dz _
     have bU:Y (ae.ownsRow w.heap.size 9 1 (.slice (some ⟨ah,0,none⟩) (ab.length+1) ag) (ab++[nm]).length (zf (ab++[nm]))):=by rw[yB,zh];exact ct
     have aZ:∀k,(vD:Value).ownBlock=some k->w.heap.size<=k:=fun k hk=>(zx aK.o k hk).1
     have dE:∀k,(vD:Value).ownBlock=some k->k<an.heap.size:=fun k hk=>(zx aK.o k hk).2
     have cg:Y _:=(cf.o.keep (zL _ _ _)).away ar (fun k hk=>by have h1:=aZ k hk;exact⟨by omega,by omega⟩)
     have bE:Y (Kept2 w ae rb ub):=(a4.o.step (zL _ _ _)).far ar (fun k hk=>by have h1:=aZ k hk;omega)
     have dO:=zI cg.o.rd
     have es:an.heap.size+1<=ae.heap.size:=by have h:=ar.size;simpa using h
     have eL:=bE.o.size
     have ap:Y (ae.heap[ub]?=some (.cells #[c0,c1,c2,c3,c4,c5,vS,vD] 126 (0,0))):=xJ (zF aM.o (zL _ _ none) (by simp)) ar (fun k hk=>by have h1:=aZ k hk;have h2:=dE k hk;exact zW aM.o aK.o (by decide) k hk)
     have bZ:Y _:=zV (qK bY.o _) ar (xF aK.o bY.o (by decide))
     have bO:Y _:=zV (qK bN.o _) ar (bM.o)
     clear ct ar aZ
     have cz:Y _:=zfD (n:=ab.length+1) (c:=ag) bM.o dz (fun k hk=>by have:=(zx bN.o k hk).2;omega)
     have dI:=zI ap.o
     have ej:=zu0 ap.o
     have el:=zuG 7 ap.o
     go_wp2_with fail
     have dg:Y _:=cg.o.other (zG ae ub 7 (.slice (some ⟨ah,0,none⟩) (ab.length+1) ag)) (by omega) (by omega)
     have cx:Y (Kept2 w (World.setCell ae ⟨ub,7,none⟩ (.slice (some ⟨ah,0,none⟩) (ab.length+1) ag)) rb ub):=bE.o.own (zG ae ub 7 (.slice (some ⟨ah,0,none⟩) (ab.length+1) ag))
     have dl:Y ((World.setCell ae ⟨ub,7,none⟩ (.slice (some ⟨ah,0,none⟩) (ab.length+1) ag)).heap[ub]?=some (.cells #[c0,c1,c2,c3,c4,c5,vS,.slice (some ⟨ah,0,none⟩) (ab.length+1) ag] 126 (0,0))):=zR ap.o (.slice (some ⟨ah,0,none⟩) (ab.length+1) ag)
     have c6:Y _:=zY bZ.o (zG ae ub 7 (.slice (some ⟨ah,0,none⟩) (ab.length+1) ag)) (zW ap.o bZ.o (by decide))
     have cE:Y _:=zY bO.o (zG ae ub 7 (.slice (some ⟨ah,0,none⟩) (ab.length+1) ag)) (zW ap.o bO.o (by decide))
     have cP:Y _:=zY bU.o (zG ae ub 7 (.slice (some ⟨ah,0,none⟩) (ab.length+1) ag)) (zW ap.o bU.o (by decide))
     have et:ae.heap.size<=(World.setCell ae ⟨ub,7,none⟩ (.slice (some ⟨ah,0,none⟩) (ab.length+1) ag)).heap.size:=by simp[World.setCell]
     have eE:(World.setCell ae ⟨ub,7,none⟩ (.slice (some ⟨ah,0,none⟩) (ab.length+1) ag)).heap.size<=ae.heap.size:=by simp[World.setCell]
     generalize(World.setCell ae ⟨ub,7,none⟩ (.slice (some ⟨ah,0,none⟩) (ab.length+1) ag))=wDy6 at*
     have dP:rb<wDy6.heap.size:=by omega
     refine(xK dg.o _).mono ?_
     rintro e bA ⟨rfl,b6,bo⟩
     have bd:Y _:=b6
     have dQ:=zI bd.o.rd
     have eu:wDy6.heap.size+0<=bA.heap.size:=by have h:=bo.size;simpa using h
     have aH:Y (wDy6.grownBy bA (some rb)):=bo
     have bF:Y (Kept2 w bA rb ub):=cx.o.step aH.o
     have eM:=bF.o.size
     have dm:=J (zF dl.o aH.o (by simp;omega))
     have c7:Y _:=zS c6.o aH.o (by omega)
     have cF:Y _:=zS cE.o aH.o (by omega)
     have cQ:Y _:=zS cP.o aH.o (by omega)
     clear bo b6
     go_wp2
     go_roundw
     case rel=>exact⟨n2,bg,s5,_,by rw[au];go_num,by omega,by rw[al.o];exact bd.o.lt,by omega,ba,by rw[al.o];exact bd.o,bF,dm,c7,by rw[au,ak.o,<-x4];exact cF.o,by rw[ak.o];exact cQ.o,cz⟩
     case measure=>simp[intOf];omega
  ·rw[if_pos (by rw[hgo])] at ad
   have bj:=uk ts s aa hgo
   have al:Y ((yb ts s aa).1=R.needS ts (R.valueS ts (kx ts s aa.length (aa.map Prod.fst)).2).2 [59]):=rfl
   have ak:Y ((yb ts s aa).2=aa++[((kx ts s aa.length (aa.map Prod.fst)).1,(R.valueS ts (kx ts s aa.length (aa.map Prod.fst)).2).1)]):=rfl
   have au:(yb ts s aa).2.length=aa.length+1:=by rw[ak.o];simp
   generalize yb ts s aa=rr at*
   obtain⟨s5,bg⟩:=rr
   simp only at ad bj al ak au
   have ba:Y _:=ad
   clear ad HL
   go_wp2_with fail
   refine(xK be.o _).mono ?_
   rintro e aR ⟨rfl,b7,bq⟩
   have ch:Y _:=b7
   have dS:=zI ch.o.rd
   have ew:aQ.heap.size+0<=aR.heap.size:=by have h:=bq.size;simpa using h
   have aT:Y (aQ.grownBy aR (some rb)):=bq
   have bG:Y (Kept2 w aR rb ub):=a5.o.step aT.o
   have eO:=bG.o.size
   have dn:=J (zF cp.o aT.o (by simp;omega))
   have c9:Y _:=zS b0.o aT.o (by omega)
   have cH:Y _:=zS bP.o aT.o (by omega)
   clear bq b7
   go_wp2_with fail
   refine(j8 (ch.o.keep (zL _ _ _)) _ _ _ _ _).mono ?_
   rintro e aB ⟨rfl,b8,br⟩
   have ci:Y _:=b8
   have dT:=zI ci.o.rd
   have ex:aR.heap.size+1<=aB.heap.size:=by have h:=br.size;simpa using h
   have aU:Y (aR.grownBy aB (some rb)):=(zD (zL _ _ _) br)
   have bH:Y (Kept2 w aB rb ub):=bG.o.step aU.o
   have eP:=bH.o.size
   have dp:=J (zF dn.o aU.o (by simp;omega))
   have da:Y _:=zS c9.o aU.o (by omega)
   have a9:Y _:=zS cH.o aU.o (by omega)
   clear br b8
   have bz:(aa.map Prod.fst).length<=10000:=by rw[xW];omega
   have bb:Y (StrRow aB u4 (aa.map Prod.fst)):=by show World.ownsRow _ _ _ _ _ _ _;rw[xW];exact qF a9.o (zo _)
   go_wp2_with fail
   refine(fZ ci.o u4 (aa.map Prod.fst) bb.o bz (fun c=>by have:=(zx a9.o rb c).1;omega)).mono ?_
   rintro e ao ⟨rfl,b9,bs⟩
   have cj:Y _:=b9
   have dU:=zI cj.o.rd
   have ey:aB.heap.size+0<=ao.heap.size:=by have h:=bs.size;simpa using h
   have aV:Y (aB.grownBy ao (some rb)):=bs
   have a6:Y (Kept2 w ao rb ub):=bH.o.step aV.o
   have eQ:=a6.o.size
   have cq:=J (zF dp.o aV.o (by simp;omega))
   have b1:Y _:=zS da.o aV.o (by omega)
   have aJ:Y _:=zS a9.o aV.o (by omega)
   clear bs b9
   have JA:Y (RInv ao rb g ax ts (kx ts s aa.length (aa.map Prod.fst)).2 H):=cj
   rw[show(R.headerS ts (R.notS (R.needS ts s (⟨#[115,101,116]⟩:ByteArray).data.toList) (decide ((aa.length:Int)<3)) 3 ((R.cur ts s).at_:Int)) (aa.map Prod.fst)).1=(kx ts s aa.length (aa.map Prod.fst)).1 from rfl]
   generalize kx ts s aa.length (aa.map Prod.fst)=pa at*
   obtain⟨nm,s3⟩:=pa
   simp only at JA al ak ⊢
   go_wp2_with (at_builtin;refine wpList_append_lies _ rfl _ _ 22 rfl (w.heap.size) 9 i1 _ 1 16 Tryz.underlying22 hj bv bw bx rfl (by decide) _ _ _ rfl (qK aJ.o _) ⟨ao.heap.size,0,none⟩ 1 1 [.string (R.str nm)] rfl rfl ?c1 ?c2 (by decide) ?c3 ?c4 ?c5 (ao.heap.size+1) (by simp) ?_)
   case c1=>exact zu _ #[_] _ _ (by simp)
   case c2=>intro u hu;simp at hu;subst hu;rfl
   case c3=>unfold maxLen;omega
   case c4=>omega
   case c5=>have:=a6.o.size;simp;omega
   intro dw du aC cu ay d6 _
   have cI:Y (aC.ownsRow w.heap.size 9 1 (.slice (some ⟨dw,0,none⟩) (aa.length+1) du) (aa.length+1) (zf (aa.map Prod.fst++[nm]))):=by rw[yB];exact cu
   have a0:∀k,(u4:Value).ownBlock=some k->w.heap.size<=k:=fun k hk=>(zx aJ.o k hk).1
   have dF:∀k,(u4:Value).ownBlock=some k->k<ao.heap.size:=fun k hk=>(zx aJ.o k hk).2
   have ck:Y _:=(JA.o.keep (zL _ _ _)).away ay (fun k hk=>by have h1:=a0 k hk;exact⟨by omega,by omega⟩)
   have bI:Y (Kept2 w aC rb ub):=(a6.o.step (zL _ _ _)).far ay (fun k hk=>by have h1:=a0 k hk;omega)
   have dV:=zI ck.o.rd
   have ez:ao.heap.size+1<=aC.heap.size:=by have h:=ay.size;simpa using h
   have eR:=bI.o.size
   have dq:Y (aC.heap[ub]?=some (.cells #[c0,c1,c2,c3,c4,c5,vS,.slice none 0 0] 126 (0,0))):=xJ (zF cq.o (zL _ _ none) (by simp)) ay (fun k hk=>by have h1:=a0 k hk;have h2:=dF k hk;exact zW cq.o aJ.o (by decide) k hk)
   have db:Y _:=zV (qK b1.o _) ay (xF aJ.o b1.o (by decide))
   clear cu ay a0
   go_wp2_with fail
   refine(zeU ck.o).mono ?_
   rintro e av ⟨rfl,ca,bt⟩
   have cl:Y _:=ca
   have dW:=zI cl.o.rd
   have eA:aC.heap.size+0<=av.heap.size:=by have h:=bt.size;simpa using h
   have aW:Y (aC.grownBy av (some rb)):=bt
   have a7:Y (Kept2 w av rb ub):=bI.o.step aW.o
   have eS:=a7.o.size
   have aN:=J (zF dq.o aW.o (by simp;omega))
   have aL:Y _:=zS db.o aW.o (by omega)
   have bQ:Y _:=zS cI.o aW.o (by omega)
   clear bt ca
   have dH:=zI aN.o
   have ee:=ztT aN.o
   have eg:=zuG 6 aN.o
   go_wp2_with (at_builtin;refine wpList_append_lies _ rfl _ _ 124 rfl (w.heap.size) 185 i0 _ 2 32 Tryz.underlying124 hi dA dB dC rfl (by decide) _ _ _ rfl (qK aL.o _) ⟨av.heap.size,0,none⟩ 1 1 [.string (R.str nm),.string (R.str (R.valueS ts s3).1)] rfl rfl ?c1 ?c2 (by decide) ?c3 ?c4 ?c5 (av.heap.size+1) (by simp) ?_)
   case c1=>exact zu _ #[_,_] _ _ (by simp)
   case c2=>intro u hu;simp at hu;rcases hu with rfl | rfl <;> rfl
   case c3=>unfold maxLen;omega
   case c4=>omega
   case c5=>have:=a7.o.size;simp;omega
   intro aj ai af cv az d7 _
   have b2:Y (af.ownsRow w.heap.size 185 2 (.slice (some ⟨aj,0,none⟩) (aa.length+1) ai) (aa++[(nm,(R.valueS ts s3).1)]).length (qH (aa++[(nm,(R.valueS ts s3).1)]))):=by rw[jj,zh];exact cv
   have a1:∀k,(vS:Value).ownBlock=some k->w.heap.size<=k:=fun k hk=>(zx aL.o k hk).1
   have dG:∀k,(vS:Value).ownBlock=some k->k<av.heap.size:=fun k hk=>(zx aL.o k hk).2
   have cm:Y _:=(cl.o.keep (zL _ _ _)).away az (fun k hk=>by have h1:=a1 k hk;exact⟨by omega,by omega⟩)
   have bJ:Y (Kept2 w af rb ub):=(a7.o.step (zL _ _ _)).far az (fun k hk=>by have h1:=a1 k hk;omega)
   have dX:=zI cm.o.rd
   have eB:av.heap.size+1<=af.heap.size:=by have h:=az.size;simpa using h
   have eT:=bJ.o.size
   have aw:Y (af.heap[ub]?=some (.cells #[c0,c1,c2,c3,c4,c5,vS,.slice none 0 0] 126 (0,0))):=xJ (zF aN.o (zL _ _ none) (by simp)) az (fun k hk=>by have h1:=a1 k hk;have h2:=dG k hk;exact zW aN.o aL.o (by decide) k hk)
   have bR:Y _:=zV (qK bQ.o _) az (xF aL.o bQ.o (by decide))
   clear cv az a1
   have dI:=zI aw.o
   have ei:=ztT aw.o
   have ek:=zuG 6 aw.o
   go_wp2_with fail
   have dh:Y _:=cm.o.other (zG af ub 6 (.slice (some ⟨aj,0,none⟩) (aa.length+1) ai)) (by omega) (by omega)
   have cy:Y (Kept2 w (World.setCell af ⟨ub,6,none⟩ (.slice (some ⟨aj,0,none⟩) (aa.length+1) ai)) rb ub):=bJ.o.own (zG af ub 6 (.slice (some ⟨aj,0,none⟩) (aa.length+1) ai))
   have dr:Y ((World.setCell af ⟨ub,6,none⟩ (.slice (some ⟨aj,0,none⟩) (aa.length+1) ai)).heap[ub]?=some (.cells #[c0,c1,c2,c3,c4,c5,.slice (some ⟨aj,0,none⟩) (aa.length+1) ai,.slice none 0 0] 126 (0,0))):=zR aw.o (.slice (some ⟨aj,0,none⟩) (aa.length+1) ai)
   have dc:Y _:=zY b2.o (zG af ub 6 (.slice (some ⟨aj,0,none⟩) (aa.length+1) ai)) (zW aw.o b2.o (by decide))
   have cJ:Y _:=zY bR.o (zG af ub 6 (.slice (some ⟨aj,0,none⟩) (aa.length+1) ai)) (zW aw.o bR.o (by decide))
   have eC:af.heap.size<=(World.setCell af ⟨ub,6,none⟩ (.slice (some ⟨aj,0,none⟩) (aa.length+1) ai)).heap.size:=by simp[World.setCell]
   have eF:(World.setCell af ⟨ub,6,none⟩ (.slice (some ⟨aj,0,none⟩) (aa.length+1) ai)).heap.size<=af.heap.size:=by simp[World.setCell]
   generalize(World.setCell af ⟨ub,6,none⟩ (.slice (some ⟨aj,0,none⟩) (aa.length+1) ai))=wLy7 at*
   have dY:rb<wLy7.heap.size:=by omega
   refine(xK dh.o _).mono ?_
   rintro e bB ⟨rfl,cb,bu⟩
   have bf:Y _:=cb
   have dZ:=zI bf.o.rd
   have eD:wLy7.heap.size+0<=bB.heap.size:=by have h:=bu.size;simpa using h
   have aX:Y (wLy7.grownBy bB (some rb)):=bu
   have bK:Y (Kept2 w bB rb ub):=cy.o.step aX.o
   have eU:=bK.o.size
   have ds:=J (zF dr.o aX.o (by simp;omega))
   have dd:Y _:=zS dc.o aX.o (by omega)
   have cK:Y _:=zS cJ.o aX.o (by omega)
   clear bu cb
   go_wp2
   go_roundw
   case rel=>exact⟨n,bg,s5,_,by rw[au];go_num,by omega,by rw[al.o];exact bf.o.lt,by omega,ba,by rw[al.o];exact bf.o,bK,ds,by rw[ak.o];exact dd.o,by rw[au,ak.o,fJ];exact cK.o⟩
   case measure=>simp[intOf];omega
end Go.Proofs.YtfocdefchbnkpaaGreatDoor
