/- A rule, as the program's reader reads it. -/
import Derived.Test.YtfocdefchbnkpaaGreatDoorAli
import Derived.Test.YtfocdefchbnkpaaGreatDoorProP
import Derived.Deep.RegionLaw
set_option maxRecDepth 100000
set_option maxHeartbeats 20000000
namespace Go.Proofs.YtfocdefchbnkpaaGreatDoor
open Go.RowKit
def atOf (w:World)(rb:Nat):Nat:=match w.cell? ⟨rb,2,none⟩ with | some v=>(intOf v).toNat | none=>0
theorem yT {w:World}{rb:Nat}{s:ByteArray}{st:P.St}(h:PInv w rb s st):atOf w rb=st.tok.at_:=by
 unfold atOf
 rw[show w.cell? ⟨rb,2,none⟩=some (.int .i64 st.tok.at_) from z8 h.rd]
 simp[intOf]
theorem zeO:(Tryz.prog.info? 276).map (fun i=>(i.zero,i.size,i.bytes))=some (some (.agg #[.string ⟨#[]⟩,.bool false,.string ⟨#[]⟩]),3,40):=by kernel_rfl
theorem zeM:(Tryz.prog.info? 280).map (fun i=>(i.zero,i.size,i.bytes))=some (some (.agg #[.string ⟨#[]⟩,.string ⟨#[]⟩]),2,32):=by kernel_rfl
theorem znL {w:World}{rb:Nat}{s:ByteArray}{st:P.St}(h:PInv w rb s st)(B:Nat)(v:Value)(rs:List P.Rl)(hR:PRulesRow w B v rs)(hn:rs.length<=2000000000000) :
  Calls Tryz.prog 208 #[.pointer (some ⟨rb,0,none⟩),v] w fun e w'=>∃cs,e = .returned (.agg cs.toArray)/\PInv w' rb s (qp s.data.toList st (rs.map P.Rl.number)).2/\w.grownBy w' (some rb)/\PRuleVal w' cs (qp s.data.toList st (rs.map P.Rl.number)).1:=by
 obtain⟨im,mi,dX,dY,dZ⟩:=info_parts zeO
 obtain⟨is,si,dn,dp,dq⟩:=info_parts zeM
 obtain⟨id,di,dg,dh,dj⟩:=info_parts fW
 have HP:Y (qp s.data.toList st (rs.map P.Rl.number)=vI s.data.toList (yJ s.data.toList st (rs.map P.Rl.number))):=rfl
 have HA:Y (yJ s.data.toList st (rs.map P.Rl.number)=xU s.data.toList (zH s.data.toList (zf st rs.length 6) qm) (rs.map P.Rl.number)):=by show _=_;unfold yJ;rw[qw]
 have H0:Y _:=h
 have et:=zE h.rd
 have eu:=h.len
 have HR:Y (PRulesRow w B v rs):=hR
 have HN:Y _:=hn
 obtain⟨va,vc,rfl⟩:∃a c,v = .slice a rs.length c:=by obtain⟨css,h1,_⟩:=hR;exact zP h1
 clear h hR hn
 generalize qp s.data.toList st (rs.map P.Rl.number)=res at*
 go_enter Tryz.func208,Tryz.ntmps208
 have C0:Y (w.grownBy w (some rb)):=zM _ _
 go_wp2_with fail
 refine(yx (H0.o.keep (zJ _ _ _)) _ _).mono ?_
 rintro e w1 ⟨rfl,I1,b7⟩
 have J1:Y _:=I1
 have b1:=zE J1.o.rd
 have s1:w.heap.size+1<=w1.heap.size:=by have h:=b7.size;simpa using h
 have G1:Y (w.grownBy w1 (some rb)):=(zA (zJ _ _ _) b7)
 have C1:=J (zA C0.o G1.o)
 have z1:=C1.o.size
 have dC:Y (w1.heap[w.heap.size]?=some (.cells #[.int .i64 0,.string ⟨#[]⟩,.slice none 0 0,.slice none 0 0,.string ⟨#[]⟩,.slice none 0 0,.slice none 0 0] 213)):=xc b7 (by simp;omega)
 clear b7 I1
 go_wp2_with fail
 refine(xK J1.o _).mono ?_
 rintro e w2 ⟨rfl,I2,cO⟩
 have J2:Y _:=I2
 have b2:=zE J2.o.rd
 have s2:w1.heap.size+0<=w2.heap.size:=by have h:=cO.size;simpa using h
 have G2:Y (w1.grownBy w2 (some rb)):=cO
 have C2:=J (zA C1.o G2.o)
 have z2:=C2.o.size
 have dD:=J (zB dC.o G2.o (by simp;omega))
 clear cO I2
 rw[show(⟨#[114,117,108,101]⟩:ByteArray).data.toList=qm from rfl] at J2
 go_wp2_with fail
 refine(fu J2.o B _ rs (HR.o.keep C2.o (H0.o.safe (by decide))) HN.o).mono ?_
 rintro e w3 ⟨rfl,I3,cP,dl,dm⟩
 have J3:Y _:=I3
 have b3:=zE J3.o.rd
 have s3:w2.heap.size+0<=w3.heap.size:=by have h:=cP.size;simpa using h
 have G3:Y (w2.grownBy w3 (some rb)):=cP
 have C3:=J (zA C2.o G3.o)
 have z3:=C3.o.size
 have dE:=J (zB dD.o G3.o (by simp;omega))
 clear cP I3
 rw[<-HA.o] at J3 dl dm
 rw[<-HA.o]
 clear HA
 generalize yJ s.data.toList st (rs.map P.Rl.number)=qa at*
 obtain⟨ak,sA⟩:=qa
 simp only at J3 dl dm HP ⊢
 go_wp2_with fail
 refine(xK (J3.o.keep (zJ _ _ _)) _).mono ?_
 rintro e w4 ⟨rfl,I4,b8⟩
 have J4:Y _:=I4
 have b4:=zE J4.o.rd
 have s4:w3.heap.size+1<=w4.heap.size:=by have h:=b8.size;simpa using h
 have G4:Y (w3.grownBy w4 (some rb)):=(zA (zJ _ _ _) b8)
 have C4:=J (zA C3.o G4.o)
 have z4:=C4.o.size
 have dF:=J (zB dE.o G4.o (by simp;omega))
 have dM:Y (w4.heap[w3.heap.size]?=some (.cells #[.int .i64 ak,.string ⟨#[]⟩,.slice none 0 0,.slice none 0 0,.string ⟨#[]⟩,.slice none 0 0,.slice none 0 0] 213)):=xc b8 (by simp;omega)
 clear b8 I4
 go_wp2_with fail
 refine(zfO J4.o _).mono ?_
 rintro e w5 ⟨rfl,I5,cQ⟩
 have J5:Y _:=I5
 have b5:=zE J5.o.rd
 have s5:w4.heap.size+0<=w5.heap.size:=by have h:=cQ.size;simpa using h
 have G5:Y (w4.grownBy w5 (some rb)):=cQ
 have C5:=J (zA C4.o G5.o)
 have z5:=C5.o.size
 have dG:=J (zB dF.o G5.o (by simp;omega))
 have bW:=J (zB dM.o G5.o (by simp;omega))
 clear cQ I5
 have JB:Y (PInv w5 rb s (yl s.data.toList sA).2):=J5
 rw[show(xL s.data.toList (zH s.data.toList sA (⟨#[123]⟩:ByteArray).data.toList) (⟨#[112,97,116,104]⟩:ByteArray).data.toList).1=(yl s.data.toList sA).1 from rfl]
 have cB:Y (res=vH s.data.toList ak (yl s.data.toList sA).1 (qZ s.data.toList (s.data.toList.length+1) (yl s.data.toList sA).2 [])):=HP.o
 clear HP
 generalize yl s.data.toList sA=qb at*
 obtain⟨ag,sB⟩:=qb
 simp only at JB cB ⊢
 have ex:=zE bW.o
 have ev:=zr5 bW.o
 have ew:=zrB 1 bW.o
 go_wp2_with fail
 have J6:Y _:=JB.o.other (zD w5 w3.heap.size 1 (.string (R.str ag))) (by omega)
 have C6:=J (zY C5.o (zD w5 w3.heap.size 1 (.string (R.str ag))) (by omega))
 have dH:=J (zB dG.o (zD w5 w3.heap.size 1 (.string (R.str ag))) (by simp;omega))
 have dN:Y ((World.setCell w5 ⟨w3.heap.size,1,none⟩ (.string (R.str ag))).heap[w3.heap.size]?=some (.cells #[.int .i64 ak,.string (R.str ag),.slice none 0 0,.slice none 0 0,.string ⟨#[]⟩,.slice none 0 0,.slice none 0 0] 213)):=zF bW.o (.string (R.str ag))
 have s6:w5.heap.size<=(World.setCell w5 ⟨w3.heap.size,1,none⟩ (.string (R.str ag))).heap.size:=by simp[World.setCell]
 have y6:(World.setCell w5 ⟨w3.heap.size,1,none⟩ (.string (R.str ag))).heap.size<=w5.heap.size:=by simp[World.setCell]
 generalize(World.setCell w5 ⟨w3.heap.size,1,none⟩ (.string (R.str ag)))=w6 at*
 have b6:rb<w6.heap.size:=by omega
 have cC:Y (res=vH s.data.toList ak ag (qZ s.data.toList (s.data.toList.length+1) sB [])):=cB.o
 clear cB
 generalize dk:qZ s.data.toList (s.data.toList.length+1) sB []=Qm at*
 have dz:Y _:=dk
 clear dk
 have em:=J6.o.bd
 go_loopw [] (fun wr=>∃(n:Nat) (acc:List P.Mt) (p:P.St) (vL:Value),acc.length<=p.tok.at_/\p.tok.at_<=s.size/\s.size<n+p.tok.at_/\Y (qZ s.data.toList n p acc=Qm)/\Y (PInv wr rb s p)/\Y (w.grownBy wr (some rb))/\Y (wr.heap[w.heap.size]?=some (.cells #[.int .i64 0,.string ⟨#[]⟩,.slice none 0 0,.slice none 0 0,.string ⟨#[]⟩,.slice none 0 0,.slice none 0 0] 213))/\Y (wr.heap[w3.heap.size]?=some (.cells #[.int .i64 ak,.string (R.str ag),vL,.slice none 0 0,.string ⟨#[]⟩,.slice none 0 0,.slice none 0 0] 213))/\Y (wr.ownsRow w.heap.size 276 3 vL acc.length (qY acc))) (fun wr=>s.size+1 - atOf wr rb)
 case atStart=>exact⟨s.data.toList.length+1,[],sB,_,zl _,by omega,by rw[R.size_eq];omega,dz.o,J6,C6,dH.o,dN.o,xS _ _ _ _⟩
 case round=>
  obtain⟨n,ab,pm,vL,bY,cb,ca,HL,IR,CR,a5,aG,aE⟩:=hrel
  have bX:=zE IR.o.rd
  have cv:=CR.o.size
  have cc:=zE aG.o
  obtain⟨n,rfl⟩:∃m,n=m+1:=⟨n - 1,by omega⟩
  have af:=HL.o
  rw[qZ] at af
  obtain⟨an,ao,rfl⟩:=zP aE.o
  go_wp2_with fail
  refine(yn IR.o _).mono ?_
  rintro e a9 ⟨rfl,cN⟩
  have cT:=zk cN (some rb)
  have cL:Y _:=(IR.o).keep cN
  have es:=zE cL.o.rd
  have eI:wr.heap.size+0<=a9.heap.size:=by have h:=cT.size;simpa using h
  have bU:Y (wr.grownBy a9 (some rb)):=cT
  have cx:=J (zA CR.o bU.o)
  have eN:=cx.o.size
  have de:=J (zB a5.o bU.o (by simp;omega))
  have aS:=J (zB aG.o bU.o (by simp;omega))
  have c6:Y _:=zn aE.o bU.o (by omega)
  clear cT cN
  rw[show(⟨#[104,101,97,100,101,114]⟩:ByteArray).data.toList=qA from rfl]
  cases hgo:zu pm qA
  ·rw[hgo] at af
   simp only[xO,if_false] at af
   have dv:Y (Qm=(ab,pm)):=af.symm
   clear af HL
   rw[dv.o] at cC
   have dy:Y _:=c6
   go_wp2_with fail
   refine(zfV cL.o).mono ?_
   rintro e wT ⟨vT,rfl,IT,bv,cU,dW⟩
   obtain⟨ta,tc,rfl⟩:=zP cU
   have JT:Y _:=IT
   have bT:=zE JT.o.rd
   have sT:a9.heap.size<=wT.heap.size:=bv.size
   have CT:=J (zA cx.o bv)
   have zT:=CT.o.size
   have dL:=J (zB de.o bv (by simp;omega))
   have bu:=J (zB aS.o bv (by simp;omega))
   have c5:Y _:=zn dy.o bv (by omega)
   have cJ:Y _:=qK cU (show w.heap.size<=a9.heap.size by omega)
   clear IT bv cU dW
   have cD:Y (res=yq s.data.toList ak ag ab (zz s.data.toList pm)):=cC.o
   clear cC
   generalize zz s.data.toList pm=pt at*
   obtain⟨tl,a8⟩:=pt
   simp only at JT cJ cD
   have bF:Y (res=jq s.data.toList ak ag ab tl (xq s.data.toList a8) (qP s.data.toList (s.data.toList.length+1) (xq s.data.toList a8).2 [])):=cD.o
   clear cD
   have eD:=zE bu.o
   have eB:=zr7 bu.o
   have eC:=zrB 3 bu.o
   go_wp2_with fail
   have db:Y _:=JT.o.other (zD wT w3.heap.size 3 (.slice ta tl.length tc)) (by omega)
   have dr:=J (zY CT.o (zD wT w3.heap.size 3 (.slice ta tl.length tc)) (by omega))
   have dI:=J (zB dL.o (zD wT w3.heap.size 3 (.slice ta tl.length tc)) (by simp;omega))
   have dO:Y ((World.setCell wT ⟨w3.heap.size,3,none⟩ (.slice ta tl.length tc)).heap[w3.heap.size]?=some (.cells #[.int .i64 ak,.string (R.str ag),.slice an ab.length ao,.slice ta tl.length tc,.string ⟨#[]⟩,.slice none 0 0,.slice none 0 0] 213)):=zF bu.o (.slice ta tl.length tc)
   have dw:Y _:=zS c5.o (zD wT w3.heap.size 3 (.slice ta tl.length tc)) (zV bu.o c5.o (by decide))
   have dA:Y _:=zS cJ.o (zD wT w3.heap.size 3 (.slice ta tl.length tc)) (zV bu.o cJ.o (by decide))
   have eE:wT.heap.size<=(World.setCell wT ⟨w3.heap.size,3,none⟩ (.slice ta tl.length tc)).heap.size:=by simp[World.setCell]
   have eJ:(World.setCell wT ⟨w3.heap.size,3,none⟩ (.slice ta tl.length tc)).heap.size<=wT.heap.size:=by simp[World.setCell]
   generalize(World.setCell wT ⟨w3.heap.size,3,none⟩ (.slice ta tl.length tc))=wEm1 at*
   have en:rb<wEm1.heap.size:=by omega
   refine(yn db.o _).mono ?_
   rintro e bw ⟨rfl,cM⟩
   have cR:=zk cM (some rb)
   have cK:Y _:=(db.o).keep cM
   have eo:=zE cK.o.rd
   have eF:wEm1.heap.size+0<=bw.heap.size:=by have h:=cR.size;simpa using h
   have bz:Y (wEm1.grownBy bw (some rb)):=cR
   have cw:=J (zA dr.o bz.o)
   have eL:=cw.o.size
   have dd:=J (zB dI.o bz.o (by simp;omega))
   have df:=J (zB dO.o bz.o (by simp;omega))
   have c3:Y _:=zn dw.o bz.o (by omega)
   have c7:Y _:=zn dA.o bz.o (by omega)
   clear cR cM
   rw[show(⟨#[114,101,112,108,97,99,101]⟩:ByteArray).data.toList=qR from rfl]
   have ba:Y (xq s.data.toList a8=if zu a8 qR then xL s.data.toList a8 qR else ([],a8)):=rfl
   generalize xq s.data.toList a8=pc at*
   obtain⟨aj,sC⟩:=pc
   simp only at bF
   cases hch:zu a8 qR
   ·rw[hch] at ba
    simp only[xO,if_false] at ba
    have dt:Y (aj=[]):=(Prod.mk.inj ba.o).1
    have du:Y (sC=a8):=(Prod.mk.inj ba.o).2
    have da:Y (PInv bw rb s sC):=by rw[du.o];exact cK.o
    have dQ:Y (bw.heap[w3.heap.size]?=some (.cells #[.int .i64 ak,.string (R.str ag),.slice an ab.length ao,.slice ta tl.length tc,.string (R.str aj),.slice none 0 0,.slice none 0 0] 213)):=by rw[dt.o];exact df.o
    go_wp2_with fail
    generalize bR:qP s.data.toList (s.data.toList.length+1) sC []=Qs at*
    have cF:Y _:=bR
    clear bR
    have dS:=da.o.bd
    go_loopw [] (fun wr=>∃(n:Nat) (acc:List (List UInt8×List UInt8)) (p:P.St) (vL:Value),acc.length<=p.tok.at_/\p.tok.at_<=s.size/\s.size<n+p.tok.at_/\Y (qP s.data.toList n p acc=Qs)/\Y (PInv wr rb s p)/\Y (w.grownBy wr (some rb))/\Y (wr.heap[w.heap.size]?=some (.cells #[.int .i64 0,.string ⟨#[]⟩,.slice none 0 0,.slice none 0 0,.string ⟨#[]⟩,.slice none 0 0,.slice none 0 0] 213))/\Y (wr.heap[w3.heap.size]?=some (.cells #[.int .i64 ak,.string (R.str ag),.slice an ab.length ao,.slice ta tl.length tc,.string (R.str aj),vL,.slice none 0 0] 213))/\Y (wr.ownsRow w.heap.size 280 2 vL acc.length (zb acc))/\Y (wr.ownsRow w.heap.size 276 3 (.slice an ab.length ao) ab.length (qY ab))/\Y (wr.ownsRow w.heap.size 285 2 (.slice ta tl.length tc) tl.length (zi tl))) (fun wr=>s.size+1 - atOf wr rb)
    case atStart=>exact⟨s.data.toList.length+1,[],sC,_,zl _,by omega,by rw[R.size_eq];omega,cF.o,da,cw,dd.o,dQ.o,xS _ _ _ _,c3.o,c7.o⟩
    case round=>
     obtain⟨n,aa,ps,vL,bY,cb,ca,HL,IR,CR,a5,aG,aE,bf,bk⟩:=hrel
     have bX:=zE IR.o.rd
     have cv:=CR.o.size
     have cc:=zE aG.o
     obtain⟨n,rfl⟩:∃m,n=m+1:=⟨n - 1,by omega⟩
     have af:=HL.o
     rw[qP] at af
     obtain⟨aq,ar,rfl⟩:=zP aE.o
     go_wp2_with fail
     refine(yn IR.o _).mono ?_
     rintro e aB ⟨rfl,bo⟩
     have br:=zk bo (some rb)
     have a2:Y _:=(IR.o).keep bo
     have dV:=zE a2.o.rd
     have ei:wr.heap.size+0<=aB.heap.size:=by have h:=br.size;simpa using h
     have aJ:Y (wr.grownBy aB (some rb)):=br
     have bc:=J (zA CR.o aJ.o)
     have el:=bc.o.size
     have bP:=J (zB a5.o aJ.o (by simp;omega))
     have av:=J (zB aG.o aJ.o (by simp;omega))
     have bh:Y _:=zn aE.o aJ.o (by omega)
     have bD:Y _:=zn bf.o aJ.o (by omega)
     have bL:Y _:=zn bk.o aJ.o (by omega)
     clear br bo
     rw[show(⟨#[115,101,116]⟩:ByteArray).data.toList=qy from rfl]
     cases hgo:zu ps qy
     ·rw[hgo] at af
      simp only[xO,if_false] at af
      have cz:Y (Qs=(aa,ps)):=af.symm
      clear af HL
      have a0:Y (res=(⟨ak,ag,ab,tl,aj,aa,(qJ s.data.toList (aa.map Prod.fst) (s.data.toList.length+1) ps []).1⟩,zH s.data.toList (qJ s.data.toList (aa.map Prod.fst) (s.data.toList.length+1) ps []).2 [125])):=by
       show _=_
       rw[bF.o,cz.o];rfl
      clear bF
      generalize bQ:qJ s.data.toList (aa.map Prod.fst) (s.data.toList.length+1) ps []=Qd at*
      have cE:Y _:=bQ
      clear bQ
      have bS:aa.length<=2000000000000:=by omega
      have cA:Y _:=bS
      clear bS
      have cG:Y _:=bh
      go_wp2_with fail
      have dR:=a2.o.bd
      go_loopw [] (fun wr=>∃(n:Nat) (acc:List (List UInt8)) (p:P.St) (vL:Value),acc.length<=p.tok.at_/\p.tok.at_<=s.size/\s.size<n+p.tok.at_/\Y (qJ s.data.toList (aa.map Prod.fst) n p acc=Qd)/\Y (PInv wr rb s p)/\Y (w.grownBy wr (some rb))/\Y (wr.heap[w.heap.size]?=some (.cells #[.int .i64 0,.string ⟨#[]⟩,.slice none 0 0,.slice none 0 0,.string ⟨#[]⟩,.slice none 0 0,.slice none 0 0] 213))/\Y (wr.heap[w3.heap.size]?=some (.cells #[.int .i64 ak,.string (R.str ag),.slice an ab.length ao,.slice ta tl.length tc,.string (R.str aj),.slice aq aa.length ar,vL] 213))/\Y (wr.ownsRow w.heap.size 9 1 vL acc.length (zh acc))/\Y (wr.ownsRow w.heap.size 276 3 (.slice an ab.length ao) ab.length (qY ab))/\Y (wr.ownsRow w.heap.size 285 2 (.slice ta tl.length tc) tl.length (zi tl))/\Y (wr.ownsRow w.heap.size 280 2 (.slice aq aa.length ar) aa.length (zb aa))) (fun wr=>s.size+1 - atOf wr rb)
      case atStart=>exact⟨s.data.toList.length+1,[],ps,_,zl _,by omega,by rw[R.size_eq];omega,cE.o,a2,bc,bP.o,av.o,xS _ _ _ _,bD.o,bL.o,cG.o⟩
      case round=>
       obtain⟨n,ae,pd,vL,bY,cb,ca,HL,IR,CR,a5,aG,aE,bf,bk,cI⟩:=hrel
       have bX:=zE IR.o.rd
       have cv:=CR.o.size
       have cc:=zE aG.o
       obtain⟨n,rfl⟩:∃m,n=m+1:=⟨n - 1,by omega⟩
       have af:=HL.o
       rw[qJ] at af
       obtain⟨aL,aM,rfl⟩:=zP aE.o
       go_wp2_with fail
       refine(yn IR.o _).mono ?_
       rintro e ax ⟨rfl,bn⟩
       have bq:=zk bn (some rb)
       have bm:Y _:=(IR.o).keep bn
       have dU:=zE bm.o.rd
       have eh:wr.heap.size+0<=ax.heap.size:=by have h:=bq.size;simpa using h
       have aA:Y (wr.grownBy ax (some rb)):=bq
       have bb:=J (zA CR.o aA.o)
       have ek:=bb.o.size
       have bO:=J (zB a5.o aA.o (by simp;omega))
       have au:=J (zB aG.o aA.o (by simp;omega))
       have bg:Y _:=zn aE.o aA.o (by omega)
       have bC:Y _:=zn bf.o aA.o (by omega)
       have bK:Y _:=zn bk.o aA.o (by omega)
       have bi:Y _:=zn cI.o aA.o (by omega)
       clear bq bn
       rw[show(⟨#[100,114,111,112]⟩:ByteArray).data.toList=qX from rfl]
       cases hgo:zu pd qX
       ·rw[hgo] at af
        simp only[xO,if_false] at af
        have cy:Y (Qd=(ae,pd)):=af.symm
        clear af HL
        rw[cy.o] at a0
        simp only at a0
        go_wp2_with fail
        refine(xK bm.o _).mono ?_
        rintro e bs ⟨rfl,bM,bp⟩
        have bl:Y _:=bM
        have dT:=zE bl.o.rd
        have eg:ax.heap.size+0<=bs.heap.size:=by have h:=bp.size;simpa using h
        have az:Y (ax.grownBy bs (some rb)):=bp
        have bx:=J (zA bb.o az.o)
        have ej:=bx.o.size
        have ah:=J (zB bO.o az.o (by simp;omega))
        have ay:=J (zB au.o az.o (by simp;omega))
        have bE:Y _:=zn bg.o az.o (by omega)
        have bB:Y _:=zn bC.o az.o (by omega)
        have bJ:Y _:=zn bK.o az.o (by omega)
        have bH:Y _:=zn bi.o az.o (by omega)
        clear bp bM
        rw[show(⟨#[125]⟩:ByteArray).data.toList=[125] from rfl] at bl
        have d7:=zE ay.o
        have d0:=zr4 ay.o
        have d1:=zr5 ay.o
        have d2:=zr6 ay.o
        have d3:=zr7 ay.o
        have d4:=zr8 ay.o
        have d5:=zr9 ay.o
        have d6:=zrA ay.o
        have ef:=zE ah.o
        have cV:=zr4 ah.o
        have d8:=zrB 0 ah.o
        have cW:=zr5 ah.o
        have d9:=zrB 1 ah.o
        have cX:=zr6 ah.o
        have ea:=zrB 2 ah.o
        have cY:=zr7 ah.o
        have eb:=zrB 3 ah.o
        have cZ:=zr8 ah.o
        have ec:=zrB 4 ah.o
        have c0:=zr9 ah.o
        have ed:=zrB 5 ah.o
        have c1:=zrA ah.o
        have ee:=zrB 6 ah.o
        go_wp2
        have aK:=zA (zA (zA (zA (zA (zA (zD bs w.heap.size 0 (.int .i64 ak)) (zD _ w.heap.size 1 (.string (R.str ag)))) (zD _ w.heap.size 2 (.slice an ab.length ao))) (zD _ w.heap.size 3 (.slice ta tl.length tc))) (zD _ w.heap.size 4 (.string (R.str aj)))) (zD _ w.heap.size 5 (.slice aq aa.length ar))) (zD _ w.heap.size 6 (.slice aL ae.length aM))
        refine bodyPost_ret (v:=.agg #[.int .i64 ak,.string (R.str ag),.slice an ab.length ao,.slice ta tl.length tc,.string (R.str aj),.slice aq aa.length ar,.slice aL ae.length aM]) (by simp[results,Tryz.results208,go_sem,cV,cW,cX,cY,cZ,c0,c1]) rfl ⟨[.int .i64 ak,.string (R.str ag),.slice an ab.length ao,.slice ta tl.length tc,.string (R.str aj),.slice aq aa.length ar,.slice aL ae.length aM],rfl,?_,zY bx.o aK (zZ _),?_⟩
        ·rw[a0.o];exact bl.o.other aK (by omega)
        ·rw[a0.o]
         refine⟨_,_,_,_,rfl,?_,?_,?_,?_⟩
         ·exact zS (qK bB.o (zl _)) aK (fun k hk=>zV ah.o bB.o (by decide) k hk)
         ·exact zS (qK bJ.o (zl _)) aK (fun k hk=>zV ah.o bJ.o (by decide) k hk)
         ·exact zS (qK bH.o (zl _)) aK (fun k hk=>zV ah.o bH.o (by decide) k hk)
         ·exact zS (qK bE.o (zl _)) aK (fun k hk=>zV ah.o bE.o (by decide) k hk)
       ·rw[hgo] at af
        simp only[if_true] at af
        have a7:=wn s.data.toList pd ae.length (aa.map Prod.fst++ae) hgo
        have aC:Y _:=af
        clear af HL
        have cl:=zE au.o
        have ce:=zr4 au.o
        have cf:=zr5 au.o
        have cg:=zr6 au.o
        have ch:=zr7 au.o
        have ci:=zr8 au.o
        have cj:=zr9 au.o
        have ck:=zrA au.o
        have HC:Y (∀w',ax.grownBy w' none->Calls Tryz.prog 275 #[.pointer (some ⟨rb,0,none⟩),.agg #[.int .i64 ak,.string (R.str ag),.slice an ab.length ao,.slice ta tl.length tc,.string (R.str aj),.slice aq aa.length ar,.slice aL ae.length aM]] w' fun e w''=>e = .returned (.string (R.str (qu s.data.toList pd ae.length (aa.map Prod.fst++ae)).1))/\PInv w'' rb s (qu s.data.toList pd ae.length (aa.map Prod.fst++ae)).2/\w'.grownBy w'' (some rb)):=fun w' hg=>zfH (bm.o.keep hg) _ _ _ _ _ _ _ aa ae (qK (zO bi.o hg (fun _ _=>by simp)) (zl _)) (qK (zO bg.o hg (fun _ _=>by simp)) (zl _)) cA.o (by omega)
        generalize qu s.data.toList pd ae.length (aa.map Prod.fst++ae)=qs at*
        obtain⟨nw,p2⟩:=qs
        simp only at aC a7 HC
        have aT:Y (∀u∈([.string (R.str nw)]:List Value),u.oneCell'=true):=by
         intro u hu
         simp only[List.mem_cons,List.mem_nil_iff,or_false] at hu
         subst hu;rfl
        have aV:Y (ae.length+1<=maxLen):=by show _<=_;unfold maxLen;omega
        go_wp2
        go_region_law (first | (refine step_append_lies _ rfl (.tmp 54) (.tmp 58) 22 rfl w.heap.size 9 id _ 1 16 Tryz.underlying22 di dg dh dj rfl (by decide) _ _ _ (by simp[Act.eval]) (xX al.o _) ⟨wN.heap.size,0,none⟩ 1 1 [.string (R.str nw)] (by simp[Act.eval]) rfl aY.o aT.o (by decide) aV.o (by omega) aU.o (wN.heap.size+1) a1.o ?_;intro g9 ap w9 aI ai bZ b9;have aw:∀k,(Value.slice aL ae.length aM).ownBlock=some k->w.heap.size<=k:=fun k hk=>(qh al.o k hk).1;have J9:Y (PInv w9 rb s p2):=(JN.o.keep (zJ _ _ _)).away ai (fun k hk=>by { have h1:=aw k hk;omega });have C9:Y (w.grownBy w9 (some rb)):=x9 (zA CN.o (zJ _ _ _)) ai aw;have a3:Y (w9.heap[w.heap.size]?=some (.cells #[.int .i64 0,.string ⟨#[]⟩,.slice none 0 0,.slice none 0 0,.string ⟨#[]⟩,.slice none 0 0,.slice none 0 0] 213)):=qM (zB aF.o (zJ _ _ none) (by simp)) ai (fun k hk=>zV aF.o al.o (by decide) k hk);have am:Y (w9.heap[w3.heap.size]?=some (.cells #[.int .i64 ak,.string (R.str ag),.slice an ab.length ao,.slice ta tl.length tc,.string (R.str aj),.slice aq aa.length ar,.slice aL ae.length aM] 213)):=qM (zB ad.o (zJ _ _ none) (by simp)) ai (fun k hk=>zV ad.o al.o (by decide) k hk);have aD:Y (w9.ownsRow w.heap.size 9 1 (.slice (some ⟨g9,0,none⟩) (ae.length+1) ap) (ae++[nw]).length (zh (ae++[nw]))):=by { show World.ownsRow _ _ _ _ _ _ _;rw[jN,zW];exact aI };have aO:Y _:=zO (xX aP.o _) ai (xW al.o aP.o (by decide));have aQ:Y _:=zO (xX aR.o _) ai (xW al.o aR.o (by decide));have bG:Y _:=zO (xX bI.o _) ai (xW al.o bI.o (by decide));have q9:=zrA am.o;have cd:=zrB 6 am.o;clear aI ai aw) | (go_simp;go_at_call 275;refine(HC.o _ (zQ ax)).mono ?_;rintro e wN ⟨rfl,IN,aH⟩;have GN:ax.grownBy wN (some rb):=zA (zk (zQ ax) _) aH;have JN:Y (PInv wN rb s p2):=IN;have CN:=J (zA bb.o GN);have sN:ax.heap.size<=wN.heap.size:=GN.size;have aF:=J (zB bO.o GN (by simp;omega));have ad:=J (zB au.o GN (by simp;omega));have al:Y _:=zn bg.o GN (by omega);have aP:Y _:=zn bC.o GN (by omega);have aR:Y _:=zn bK.o GN (by omega);have bI:Y _:=zn bi.o GN (by omega);have cm:=zr4 ad.o;have cn:=zr5 ad.o;have co:=zr6 ad.o;have cp:=zr7 ad.o;have cq:=zr8 ad.o;have cr:=zr9 ad.o;have ct:=zrA ad.o;have cu:=zE ad.o;have bN:=zE JN.o.rd;have aY:Y (∀j u,([.string (R.str nw)]:List Value)[j]?=some u->(wN.alloc (.cells #[.string (R.str nw)] 9)).cell? ((⟨wN.heap.size,0,none⟩:Addr).add j)=some u):=qI wN #[_] _ _ rfl;have aU:Y (w.heap.size<=(wN.alloc (.cells #[.string (R.str nw)] 9)).heap.size):=by { show _<=_;rw[show(wN.alloc (.cells #[.string (R.str nw)] 9)).heap.size=wN.heap.size+1 from by simp];omega };have a1:Y ((wN.alloc (.cells #[.string (R.str nw)] 9)).heap.size=wN.heap.size+1):=by { show _=_;simp };clear IN aH GN))
        all_goals
         have gS:=zD w9 w3.heap.size 6 (.slice (some ⟨g9,0,none⟩) (ae.length+1) ap)
         have JS:Y _:=J9.o.other gS (by omega)
         have CS:=J (zY C9.o gS (by omega))
         have a4:=J (zB a3.o gS (by simp;omega))
         have a6:Y ((w9.setCell ⟨w3.heap.size,6,none⟩ (.slice (some ⟨g9,0,none⟩) (ae.length+1) ap)).heap[w3.heap.size]?=some (.cells #[.int .i64 ak,.string (R.str ag),.slice an ab.length ao,.slice ta tl.length tc,.string (R.str aj),.slice aq aa.length ar,.slice (some ⟨g9,0,none⟩) (ae.length+1) ap] 213)):=zF am.o _
         have aZ:Y _:=zS aD.o gS (zV am.o aD.o (by decide))
         have be:Y _:=zS aO.o gS (zV am.o aO.o (by decide))
         have bj:Y _:=zS aQ.o gS (zV am.o aQ.o (by decide))
         have cH:Y _:=zS bG.o gS (zV am.o bG.o (by decide))
         have aX:Y (atOf (w9.setCell ⟨w3.heap.size,6,none⟩ (.slice (some ⟨g9,0,none⟩) (ae.length+1) ap)) rb=p2.tok.at_):=yT JS.o
         have aW:Y (atOf wr rb=pd.tok.at_):=yT IR.o
         have b0:=JS.o.bd
         clear gS
         go_wp2
         go_roundw
         case rel=>exact⟨n,ae++[nw],p2,_,by rw[zW];simp;omega,by omega,by omega,aC,JS,CS,a4,a6,aZ,be,bj,cH⟩
         case measure=>rw[aX.o,aW.o];omega
     ·rw[hgo] at af
      simp only[if_true] at af
      have a7:=uz s.data.toList ps aa.length (aa.map Prod.fst) hgo
      have aC:Y _:=af
      clear af HL
      have cl:=zE av.o
      have ce:=zr4 av.o
      have cf:=zr5 av.o
      have cg:=zr6 av.o
      have ch:=zr7 av.o
      have ci:=zr8 av.o
      have cj:=zr9 av.o
      have ck:=zrA av.o
      have HC:Y (∀w',aB.grownBy w' none->Calls Tryz.prog 274 #[.pointer (some ⟨rb,0,none⟩),.agg #[.int .i64 ak,.string (R.str ag),.slice an ab.length ao,.slice ta tl.length tc,.string (R.str aj),.slice aq aa.length ar,.slice none 0 0]] w' fun e w''=>e = .returned (.agg #[.string (R.str (xB s.data.toList ps aa.length (aa.map Prod.fst)).1.1),.string (R.str (xB s.data.toList ps aa.length (aa.map Prod.fst)).1.2)])/\PInv w'' rb s (xB s.data.toList ps aa.length (aa.map Prod.fst)).2/\w'.grownBy w'' (some rb)):=fun w' hg=>by
       have:=zj6 (a2.o.keep hg) (.int .i64 ak) (.string (R.str ag)) (.slice an ab.length ao) (.slice ta tl.length tc) (.string (R.str aj)) (.slice aq aa.length ar) (.slice none 0 0) aa [] (qK (zO bh.o hg (fun _ _=>by simp)) (zl _)) (xS _ _ _ _) (by omega) (by simp)
       rw[xn] at this;exact this
      generalize xB s.data.toList ps aa.length (aa.map Prod.fst)=qs at*
      obtain⟨nw,p2⟩:=qs
      simp only at aC a7 HC
      have aT:Y (∀u∈([.string (R.str nw.1),.string (R.str nw.2)]:List Value),u.oneCell'=true):=by
       intro u hu
       simp only[List.mem_cons,List.mem_nil_iff,or_false] at hu
       rcases hu with rfl | rfl <;> rfl
      have aV:Y (aa.length+1<=maxLen):=by show _<=_;unfold maxLen;omega
      go_wp2
      go_region_law (first | (refine step_append_lies _ rfl (.tmp 44) (.tmp 48) 211 rfl w.heap.size 280 is _ 2 32 Tryz.underlying211 si dn dp dq rfl (by decide) _ _ _ (by simp[Act.eval]) (xX al.o _) ⟨wN.heap.size,0,none⟩ 1 1 [.string (R.str nw.1),.string (R.str nw.2)] (by simp[Act.eval]) rfl aY.o aT.o (by decide) aV.o (by omega) aU.o (wN.heap.size+1) a1.o ?_;intro g9 ap w9 aI ai bZ b9;have aw:∀k,(Value.slice aq aa.length ar).ownBlock=some k->w.heap.size<=k:=fun k hk=>(qh al.o k hk).1;have J9:Y (PInv w9 rb s p2):=(JN.o.keep (zJ _ _ _)).away ai (fun k hk=>by { have h1:=aw k hk;omega });have C9:Y (w.grownBy w9 (some rb)):=x9 (zA CN.o (zJ _ _ _)) ai aw;have a3:Y (w9.heap[w.heap.size]?=some (.cells #[.int .i64 0,.string ⟨#[]⟩,.slice none 0 0,.slice none 0 0,.string ⟨#[]⟩,.slice none 0 0,.slice none 0 0] 213)):=qM (zB aF.o (zJ _ _ none) (by simp)) ai (fun k hk=>zV aF.o al.o (by decide) k hk);have am:Y (w9.heap[w3.heap.size]?=some (.cells #[.int .i64 ak,.string (R.str ag),.slice an ab.length ao,.slice ta tl.length tc,.string (R.str aj),.slice aq aa.length ar,.slice none 0 0] 213)):=qM (zB ad.o (zJ _ _ none) (by simp)) ai (fun k hk=>zV ad.o al.o (by decide) k hk);have aD:Y (w9.ownsRow w.heap.size 280 2 (.slice (some ⟨g9,0,none⟩) (aa.length+1) ap) (aa++[nw]).length (zb (aa++[nw]))):=by { show World.ownsRow _ _ _ _ _ _ _;rw[xN,zW];exact aI };have aO:Y _:=zO (xX aP.o _) ai (xW al.o aP.o (by decide));have aQ:Y _:=zO (xX aR.o _) ai (xW al.o aR.o (by decide));have q9:=zr9 am.o;have cd:=zrB 5 am.o;clear aI ai aw) | (go_simp;go_at_call 274;refine(HC.o _ (zQ aB)).mono ?_;rintro e wN ⟨rfl,IN,aH⟩;have GN:aB.grownBy wN (some rb):=zA (zk (zQ aB) _) aH;have JN:Y (PInv wN rb s p2):=IN;have CN:=J (zA bc.o GN);have sN:aB.heap.size<=wN.heap.size:=GN.size;have aF:=J (zB bP.o GN (by simp;omega));have ad:=J (zB av.o GN (by simp;omega));have al:Y _:=zn bh.o GN (by omega);have aP:Y _:=zn bD.o GN (by omega);have aR:Y _:=zn bL.o GN (by omega);have cm:=zr4 ad.o;have cn:=zr5 ad.o;have co:=zr6 ad.o;have cp:=zr7 ad.o;have cq:=zr8 ad.o;have cr:=zr9 ad.o;have ct:=zrA ad.o;have cu:=zE ad.o;have bN:=zE JN.o.rd;have aY:Y (∀j u,([.string (R.str nw.1),.string (R.str nw.2)]:List Value)[j]?=some u->(wN.alloc (.cells #[.string (R.str nw.1),.string (R.str nw.2)] 280)).cell? ((⟨wN.heap.size,0,none⟩:Addr).add j)=some u):=qI wN #[_,_] _ _ rfl;have aU:Y (w.heap.size<=(wN.alloc (.cells #[.string (R.str nw.1),.string (R.str nw.2)] 280)).heap.size):=by { show _<=_;rw[show(wN.alloc (.cells #[.string (R.str nw.1),.string (R.str nw.2)] 280)).heap.size=wN.heap.size+1 from by simp];omega };have a1:Y ((wN.alloc (.cells #[.string (R.str nw.1),.string (R.str nw.2)] 280)).heap.size=wN.heap.size+1):=by { show _=_;simp };clear IN aH GN))
      all_goals
       have gS:=zD w9 w3.heap.size 5 (.slice (some ⟨g9,0,none⟩) (aa.length+1) ap)
       have JS:Y _:=J9.o.other gS (by omega)
       have CS:=J (zY C9.o gS (by omega))
       have a4:=J (zB a3.o gS (by simp;omega))
       have a6:Y ((w9.setCell ⟨w3.heap.size,5,none⟩ (.slice (some ⟨g9,0,none⟩) (aa.length+1) ap)).heap[w3.heap.size]?=some (.cells #[.int .i64 ak,.string (R.str ag),.slice an ab.length ao,.slice ta tl.length tc,.string (R.str aj),.slice (some ⟨g9,0,none⟩) (aa.length+1) ap,.slice none 0 0] 213)):=zF am.o _
       have aZ:Y _:=zS aD.o gS (zV am.o aD.o (by decide))
       have be:Y _:=zS aO.o gS (zV am.o aO.o (by decide))
       have bj:Y _:=zS aQ.o gS (zV am.o aQ.o (by decide))
       have aX:Y (atOf (w9.setCell ⟨w3.heap.size,5,none⟩ (.slice (some ⟨g9,0,none⟩) (aa.length+1) ap)) rb=p2.tok.at_):=yT JS.o
       have aW:Y (atOf wr rb=ps.tok.at_):=yT IR.o
       have b0:=JS.o.bd
       clear gS
       go_wp2
       go_roundw
       case rel=>exact⟨n,aa++[nw],p2,_,by rw[zW];simp;omega,by omega,by omega,aC,JS,CS,a4,a6,aZ,be,bj⟩
       case measure=>rw[aX.o,aW.o];omega
   ·rw[hch] at ba
    simp only[if_true] at ba
    go_wp2_with fail
    refine(zfO cK.o _).mono ?_
    rintro e aN ⟨rfl,c9,cS⟩
    have bV:Y _:=c9
    have ep:=zE bV.o.rd
    have eG:bw.heap.size+0<=aN.heap.size:=by have h:=cS.size;simpa using h
    have bA:Y (bw.grownBy aN (some rb)):=cS
    have c2:=J (zA cw.o bA.o)
    have eM:=c2.o.size
    have dJ:=J (zB dd.o bA.o (by simp;omega))
    have bt:=J (zB df.o bA.o (by simp;omega))
    have c4:Y _:=zn c3.o bA.o (by omega)
    have c8:Y _:=zn c7.o bA.o (by omega)
    clear cS c9
    rw[show(⟨#[114,101,112,108,97,99,101]⟩:ByteArray).data.toList=qR from rfl,<-ba.o] at bV
    rw[show(⟨#[114,101,112,108,97,99,101]⟩:ByteArray).data.toList=qR from rfl,<-ba.o]
    simp only at bV ⊢
    have eA:=zE bt.o
    have ey:=zr8 bt.o
    have ez:=zrB 4 bt.o
    go_wp2_with fail
    have dc:Y _:=bV.o.other (zD aN w3.heap.size 4 (.string (R.str aj))) (by omega)
    have ds:=J (zY c2.o (zD aN w3.heap.size 4 (.string (R.str aj))) (by omega))
    have dK:=J (zB dJ.o (zD aN w3.heap.size 4 (.string (R.str aj))) (by simp;omega))
    have dP:Y ((World.setCell aN ⟨w3.heap.size,4,none⟩ (.string (R.str aj))).heap[w3.heap.size]?=some (.cells #[.int .i64 ak,.string (R.str ag),.slice an ab.length ao,.slice ta tl.length tc,.string (R.str aj),.slice none 0 0,.slice none 0 0] 213)):=zF bt.o (.string (R.str aj))
    have dx:Y _:=zS c4.o (zD aN w3.heap.size 4 (.string (R.str aj))) (zV bt.o c4.o (by decide))
    have dB:Y _:=zS c8.o (zD aN w3.heap.size 4 (.string (R.str aj))) (zV bt.o c8.o (by decide))
    have eH:aN.heap.size<=(World.setCell aN ⟨w3.heap.size,4,none⟩ (.string (R.str aj))).heap.size:=by simp[World.setCell]
    have eK:(World.setCell aN ⟨w3.heap.size,4,none⟩ (.string (R.str aj))).heap.size<=aN.heap.size:=by simp[World.setCell]
    generalize(World.setCell aN ⟨w3.heap.size,4,none⟩ (.string (R.str aj)))=wEmy2 at*
    have er:rb<wEmy2.heap.size:=by omega
    generalize bR:qP s.data.toList (s.data.toList.length+1) sC []=Qs at*
    have cF:Y _:=bR
    clear bR
    have dS:=dc.o.bd
    go_loopw [] (fun wr=>∃(n:Nat) (acc:List (List UInt8×List UInt8)) (p:P.St) (vL:Value),acc.length<=p.tok.at_/\p.tok.at_<=s.size/\s.size<n+p.tok.at_/\Y (qP s.data.toList n p acc=Qs)/\Y (PInv wr rb s p)/\Y (w.grownBy wr (some rb))/\Y (wr.heap[w.heap.size]?=some (.cells #[.int .i64 0,.string ⟨#[]⟩,.slice none 0 0,.slice none 0 0,.string ⟨#[]⟩,.slice none 0 0,.slice none 0 0] 213))/\Y (wr.heap[w3.heap.size]?=some (.cells #[.int .i64 ak,.string (R.str ag),.slice an ab.length ao,.slice ta tl.length tc,.string (R.str aj),vL,.slice none 0 0] 213))/\Y (wr.ownsRow w.heap.size 280 2 vL acc.length (zb acc))/\Y (wr.ownsRow w.heap.size 276 3 (.slice an ab.length ao) ab.length (qY ab))/\Y (wr.ownsRow w.heap.size 285 2 (.slice ta tl.length tc) tl.length (zi tl))) (fun wr=>s.size+1 - atOf wr rb)
    case atStart=>exact⟨s.data.toList.length+1,[],sC,_,zl _,by omega,by rw[R.size_eq];omega,cF.o,dc,ds,dK.o,dP.o,xS _ _ _ _,dx.o,dB.o⟩
    case round=>
     obtain⟨n,aa,ps,vL,bY,cb,ca,HL,IR,CR,a5,aG,aE,bf,bk⟩:=hrel
     have bX:=zE IR.o.rd
     have cv:=CR.o.size
     have cc:=zE aG.o
     obtain⟨n,rfl⟩:∃m,n=m+1:=⟨n - 1,by omega⟩
     have af:=HL.o
     rw[qP] at af
     obtain⟨aq,ar,rfl⟩:=zP aE.o
     go_wp2_with fail
     refine(yn IR.o _).mono ?_
     rintro e aB ⟨rfl,bo⟩
     have br:=zk bo (some rb)
     have a2:Y _:=(IR.o).keep bo
     have dV:=zE a2.o.rd
     have ei:wr.heap.size+0<=aB.heap.size:=by have h:=br.size;simpa using h
     have aJ:Y (wr.grownBy aB (some rb)):=br
     have bc:=J (zA CR.o aJ.o)
     have el:=bc.o.size
     have bP:=J (zB a5.o aJ.o (by simp;omega))
     have av:=J (zB aG.o aJ.o (by simp;omega))
     have bh:Y _:=zn aE.o aJ.o (by omega)
     have bD:Y _:=zn bf.o aJ.o (by omega)
     have bL:Y _:=zn bk.o aJ.o (by omega)
     clear br bo
     rw[show(⟨#[115,101,116]⟩:ByteArray).data.toList=qy from rfl]
     cases hgo:zu ps qy
     ·rw[hgo] at af
      simp only[xO,if_false] at af
      have cz:Y (Qs=(aa,ps)):=af.symm
      clear af HL
      have a0:Y (res=(⟨ak,ag,ab,tl,aj,aa,(qJ s.data.toList (aa.map Prod.fst) (s.data.toList.length+1) ps []).1⟩,zH s.data.toList (qJ s.data.toList (aa.map Prod.fst) (s.data.toList.length+1) ps []).2 [125])):=by
       show _=_
       rw[bF.o,cz.o];rfl
      clear bF
      generalize bQ:qJ s.data.toList (aa.map Prod.fst) (s.data.toList.length+1) ps []=Qd at*
      have cE:Y _:=bQ
      clear bQ
      have bS:aa.length<=2000000000000:=by omega
      have cA:Y _:=bS
      clear bS
      have cG:Y _:=bh
      go_wp2_with fail
      have dR:=a2.o.bd
      go_loopw [] (fun wr=>∃(n:Nat) (acc:List (List UInt8)) (p:P.St) (vL:Value),acc.length<=p.tok.at_/\p.tok.at_<=s.size/\s.size<n+p.tok.at_/\Y (qJ s.data.toList (aa.map Prod.fst) n p acc=Qd)/\Y (PInv wr rb s p)/\Y (w.grownBy wr (some rb))/\Y (wr.heap[w.heap.size]?=some (.cells #[.int .i64 0,.string ⟨#[]⟩,.slice none 0 0,.slice none 0 0,.string ⟨#[]⟩,.slice none 0 0,.slice none 0 0] 213))/\Y (wr.heap[w3.heap.size]?=some (.cells #[.int .i64 ak,.string (R.str ag),.slice an ab.length ao,.slice ta tl.length tc,.string (R.str aj),.slice aq aa.length ar,vL] 213))/\Y (wr.ownsRow w.heap.size 9 1 vL acc.length (zh acc))/\Y (wr.ownsRow w.heap.size 276 3 (.slice an ab.length ao) ab.length (qY ab))/\Y (wr.ownsRow w.heap.size 285 2 (.slice ta tl.length tc) tl.length (zi tl))/\Y (wr.ownsRow w.heap.size 280 2 (.slice aq aa.length ar) aa.length (zb aa))) (fun wr=>s.size+1 - atOf wr rb)
      case atStart=>exact⟨s.data.toList.length+1,[],ps,_,zl _,by omega,by rw[R.size_eq];omega,cE.o,a2,bc,bP.o,av.o,xS _ _ _ _,bD.o,bL.o,cG.o⟩
      case round=>
       obtain⟨n,ae,pd,vL,bY,cb,ca,HL,IR,CR,a5,aG,aE,bf,bk,cI⟩:=hrel
       have bX:=zE IR.o.rd
       have cv:=CR.o.size
       have cc:=zE aG.o
       obtain⟨n,rfl⟩:∃m,n=m+1:=⟨n - 1,by omega⟩
       have af:=HL.o
       rw[qJ] at af
       obtain⟨aL,aM,rfl⟩:=zP aE.o
       go_wp2_with fail
       refine(yn IR.o _).mono ?_
       rintro e ax ⟨rfl,bn⟩
       have bq:=zk bn (some rb)
       have bm:Y _:=(IR.o).keep bn
       have dU:=zE bm.o.rd
       have eh:wr.heap.size+0<=ax.heap.size:=by have h:=bq.size;simpa using h
       have aA:Y (wr.grownBy ax (some rb)):=bq
       have bb:=J (zA CR.o aA.o)
       have ek:=bb.o.size
       have bO:=J (zB a5.o aA.o (by simp;omega))
       have au:=J (zB aG.o aA.o (by simp;omega))
       have bg:Y _:=zn aE.o aA.o (by omega)
       have bC:Y _:=zn bf.o aA.o (by omega)
       have bK:Y _:=zn bk.o aA.o (by omega)
       have bi:Y _:=zn cI.o aA.o (by omega)
       clear bq bn
       rw[show(⟨#[100,114,111,112]⟩:ByteArray).data.toList=qX from rfl]
       cases hgo:zu pd qX
       ·rw[hgo] at af
        simp only[xO,if_false] at af
        have cy:Y (Qd=(ae,pd)):=af.symm
        clear af HL
        rw[cy.o] at a0
        simp only at a0
        go_wp2_with fail
        refine(xK bm.o _).mono ?_
        rintro e bs ⟨rfl,bM,bp⟩
        have bl:Y _:=bM
        have dT:=zE bl.o.rd
        have eg:ax.heap.size+0<=bs.heap.size:=by have h:=bp.size;simpa using h
        have az:Y (ax.grownBy bs (some rb)):=bp
        have bx:=J (zA bb.o az.o)
        have ej:=bx.o.size
        have ah:=J (zB bO.o az.o (by simp;omega))
        have ay:=J (zB au.o az.o (by simp;omega))
        have bE:Y _:=zn bg.o az.o (by omega)
        have bB:Y _:=zn bC.o az.o (by omega)
        have bJ:Y _:=zn bK.o az.o (by omega)
        have bH:Y _:=zn bi.o az.o (by omega)
        clear bp bM
        rw[show(⟨#[125]⟩:ByteArray).data.toList=[125] from rfl] at bl
        have d7:=zE ay.o
        have d0:=zr4 ay.o
        have d1:=zr5 ay.o
        have d2:=zr6 ay.o
        have d3:=zr7 ay.o
        have d4:=zr8 ay.o
        have d5:=zr9 ay.o
        have d6:=zrA ay.o
        have ef:=zE ah.o
        have cV:=zr4 ah.o
        have d8:=zrB 0 ah.o
        have cW:=zr5 ah.o
        have d9:=zrB 1 ah.o
        have cX:=zr6 ah.o
        have ea:=zrB 2 ah.o
        have cY:=zr7 ah.o
        have eb:=zrB 3 ah.o
        have cZ:=zr8 ah.o
        have ec:=zrB 4 ah.o
        have c0:=zr9 ah.o
        have ed:=zrB 5 ah.o
        have c1:=zrA ah.o
        have ee:=zrB 6 ah.o
        go_wp2
        have aK:=zA (zA (zA (zA (zA (zA (zD bs w.heap.size 0 (.int .i64 ak)) (zD _ w.heap.size 1 (.string (R.str ag)))) (zD _ w.heap.size 2 (.slice an ab.length ao))) (zD _ w.heap.size 3 (.slice ta tl.length tc))) (zD _ w.heap.size 4 (.string (R.str aj)))) (zD _ w.heap.size 5 (.slice aq aa.length ar))) (zD _ w.heap.size 6 (.slice aL ae.length aM))
        refine bodyPost_ret (v:=.agg #[.int .i64 ak,.string (R.str ag),.slice an ab.length ao,.slice ta tl.length tc,.string (R.str aj),.slice aq aa.length ar,.slice aL ae.length aM]) (by simp[results,Tryz.results208,go_sem,cV,cW,cX,cY,cZ,c0,c1]) rfl ⟨[.int .i64 ak,.string (R.str ag),.slice an ab.length ao,.slice ta tl.length tc,.string (R.str aj),.slice aq aa.length ar,.slice aL ae.length aM],rfl,?_,zY bx.o aK (zZ _),?_⟩
        ·rw[a0.o];exact bl.o.other aK (by omega)
        ·rw[a0.o]
         refine⟨_,_,_,_,rfl,?_,?_,?_,?_⟩
         ·exact zS (qK bB.o (zl _)) aK (fun k hk=>zV ah.o bB.o (by decide) k hk)
         ·exact zS (qK bJ.o (zl _)) aK (fun k hk=>zV ah.o bJ.o (by decide) k hk)
         ·exact zS (qK bH.o (zl _)) aK (fun k hk=>zV ah.o bH.o (by decide) k hk)
         ·exact zS (qK bE.o (zl _)) aK (fun k hk=>zV ah.o bE.o (by decide) k hk)
       ·rw[hgo] at af
        simp only[if_true] at af
        have a7:=wn s.data.toList pd ae.length (aa.map Prod.fst++ae) hgo
        have aC:Y _:=af
        clear af HL
        have cl:=zE au.o
        have ce:=zr4 au.o
        have cf:=zr5 au.o
        have cg:=zr6 au.o
        have ch:=zr7 au.o
        have ci:=zr8 au.o
        have cj:=zr9 au.o
        have ck:=zrA au.o
        have HC:Y (∀w',ax.grownBy w' none->Calls Tryz.prog 275 #[.pointer (some ⟨rb,0,none⟩),.agg #[.int .i64 ak,.string (R.str ag),.slice an ab.length ao,.slice ta tl.length tc,.string (R.str aj),.slice aq aa.length ar,.slice aL ae.length aM]] w' fun e w''=>e = .returned (.string (R.str (qu s.data.toList pd ae.length (aa.map Prod.fst++ae)).1))/\PInv w'' rb s (qu s.data.toList pd ae.length (aa.map Prod.fst++ae)).2/\w'.grownBy w'' (some rb)):=fun w' hg=>zfH (bm.o.keep hg) _ _ _ _ _ _ _ aa ae (qK (zO bi.o hg (fun _ _=>by simp)) (zl _)) (qK (zO bg.o hg (fun _ _=>by simp)) (zl _)) cA.o (by omega)
        generalize qu s.data.toList pd ae.length (aa.map Prod.fst++ae)=qs at*
        obtain⟨nw,p2⟩:=qs
        simp only at aC a7 HC
        have aT:Y (∀u∈([.string (R.str nw)]:List Value),u.oneCell'=true):=by
         intro u hu
         simp only[List.mem_cons,List.mem_nil_iff,or_false] at hu
         subst hu;rfl
        have aV:Y (ae.length+1<=maxLen):=by show _<=_;unfold maxLen;omega
        go_wp2
        go_region_law (first | (refine step_append_lies _ rfl (.tmp 54) (.tmp 58) 22 rfl w.heap.size 9 id _ 1 16 Tryz.underlying22 di dg dh dj rfl (by decide) _ _ _ (by simp[Act.eval]) (xX al.o _) ⟨wN.heap.size,0,none⟩ 1 1 [.string (R.str nw)] (by simp[Act.eval]) rfl aY.o aT.o (by decide) aV.o (by omega) aU.o (wN.heap.size+1) a1.o ?_;intro g9 ap w9 aI ai bZ b9;have aw:∀k,(Value.slice aL ae.length aM).ownBlock=some k->w.heap.size<=k:=fun k hk=>(qh al.o k hk).1;have J9:Y (PInv w9 rb s p2):=(JN.o.keep (zJ _ _ _)).away ai (fun k hk=>by { have h1:=aw k hk;omega });have C9:Y (w.grownBy w9 (some rb)):=x9 (zA CN.o (zJ _ _ _)) ai aw;have a3:Y (w9.heap[w.heap.size]?=some (.cells #[.int .i64 0,.string ⟨#[]⟩,.slice none 0 0,.slice none 0 0,.string ⟨#[]⟩,.slice none 0 0,.slice none 0 0] 213)):=qM (zB aF.o (zJ _ _ none) (by simp)) ai (fun k hk=>zV aF.o al.o (by decide) k hk);have am:Y (w9.heap[w3.heap.size]?=some (.cells #[.int .i64 ak,.string (R.str ag),.slice an ab.length ao,.slice ta tl.length tc,.string (R.str aj),.slice aq aa.length ar,.slice aL ae.length aM] 213)):=qM (zB ad.o (zJ _ _ none) (by simp)) ai (fun k hk=>zV ad.o al.o (by decide) k hk);have aD:Y (w9.ownsRow w.heap.size 9 1 (.slice (some ⟨g9,0,none⟩) (ae.length+1) ap) (ae++[nw]).length (zh (ae++[nw]))):=by { show World.ownsRow _ _ _ _ _ _ _;rw[jN,zW];exact aI };have aO:Y _:=zO (xX aP.o _) ai (xW al.o aP.o (by decide));have aQ:Y _:=zO (xX aR.o _) ai (xW al.o aR.o (by decide));have bG:Y _:=zO (xX bI.o _) ai (xW al.o bI.o (by decide));have q9:=zrA am.o;have cd:=zrB 6 am.o;clear aI ai aw) | (go_simp;go_at_call 275;refine(HC.o _ (zQ ax)).mono ?_;rintro e wN ⟨rfl,IN,aH⟩;have GN:ax.grownBy wN (some rb):=zA (zk (zQ ax) _) aH;have JN:Y (PInv wN rb s p2):=IN;have CN:=J (zA bb.o GN);have sN:ax.heap.size<=wN.heap.size:=GN.size;have aF:=J (zB bO.o GN (by simp;omega));have ad:=J (zB au.o GN (by simp;omega));have al:Y _:=zn bg.o GN (by omega);have aP:Y _:=zn bC.o GN (by omega);have aR:Y _:=zn bK.o GN (by omega);have bI:Y _:=zn bi.o GN (by omega);have cm:=zr4 ad.o;have cn:=zr5 ad.o;have co:=zr6 ad.o;have cp:=zr7 ad.o;have cq:=zr8 ad.o;have cr:=zr9 ad.o;have ct:=zrA ad.o;have cu:=zE ad.o;have bN:=zE JN.o.rd;have aY:Y (∀j u,([.string (R.str nw)]:List Value)[j]?=some u->(wN.alloc (.cells #[.string (R.str nw)] 9)).cell? ((⟨wN.heap.size,0,none⟩:Addr).add j)=some u):=qI wN #[_] _ _ rfl;have aU:Y (w.heap.size<=(wN.alloc (.cells #[.string (R.str nw)] 9)).heap.size):=by { show _<=_;rw[show(wN.alloc (.cells #[.string (R.str nw)] 9)).heap.size=wN.heap.size+1 from by simp];omega };have a1:Y ((wN.alloc (.cells #[.string (R.str nw)] 9)).heap.size=wN.heap.size+1):=by { show _=_;simp };clear IN aH GN))
        all_goals
         have gS:=zD w9 w3.heap.size 6 (.slice (some ⟨g9,0,none⟩) (ae.length+1) ap)
         have JS:Y _:=J9.o.other gS (by omega)
         have CS:=J (zY C9.o gS (by omega))
         have a4:=J (zB a3.o gS (by simp;omega))
         have a6:Y ((w9.setCell ⟨w3.heap.size,6,none⟩ (.slice (some ⟨g9,0,none⟩) (ae.length+1) ap)).heap[w3.heap.size]?=some (.cells #[.int .i64 ak,.string (R.str ag),.slice an ab.length ao,.slice ta tl.length tc,.string (R.str aj),.slice aq aa.length ar,.slice (some ⟨g9,0,none⟩) (ae.length+1) ap] 213)):=zF am.o _
         have aZ:Y _:=zS aD.o gS (zV am.o aD.o (by decide))
         have be:Y _:=zS aO.o gS (zV am.o aO.o (by decide))
         have bj:Y _:=zS aQ.o gS (zV am.o aQ.o (by decide))
         have cH:Y _:=zS bG.o gS (zV am.o bG.o (by decide))
         have aX:Y (atOf (w9.setCell ⟨w3.heap.size,6,none⟩ (.slice (some ⟨g9,0,none⟩) (ae.length+1) ap)) rb=p2.tok.at_):=yT JS.o
         have aW:Y (atOf wr rb=pd.tok.at_):=yT IR.o
         have b0:=JS.o.bd
         clear gS
         go_wp2
         go_roundw
         case rel=>exact⟨n,ae++[nw],p2,_,by rw[zW];simp;omega,by omega,by omega,aC,JS,CS,a4,a6,aZ,be,bj,cH⟩
         case measure=>rw[aX.o,aW.o];omega
     ·rw[hgo] at af
      simp only[if_true] at af
      have a7:=uz s.data.toList ps aa.length (aa.map Prod.fst) hgo
      have aC:Y _:=af
      clear af HL
      have cl:=zE av.o
      have ce:=zr4 av.o
      have cf:=zr5 av.o
      have cg:=zr6 av.o
      have ch:=zr7 av.o
      have ci:=zr8 av.o
      have cj:=zr9 av.o
      have ck:=zrA av.o
      have HC:Y (∀w',aB.grownBy w' none->Calls Tryz.prog 274 #[.pointer (some ⟨rb,0,none⟩),.agg #[.int .i64 ak,.string (R.str ag),.slice an ab.length ao,.slice ta tl.length tc,.string (R.str aj),.slice aq aa.length ar,.slice none 0 0]] w' fun e w''=>e = .returned (.agg #[.string (R.str (xB s.data.toList ps aa.length (aa.map Prod.fst)).1.1),.string (R.str (xB s.data.toList ps aa.length (aa.map Prod.fst)).1.2)])/\PInv w'' rb s (xB s.data.toList ps aa.length (aa.map Prod.fst)).2/\w'.grownBy w'' (some rb)):=fun w' hg=>by
       have:=zj6 (a2.o.keep hg) (.int .i64 ak) (.string (R.str ag)) (.slice an ab.length ao) (.slice ta tl.length tc) (.string (R.str aj)) (.slice aq aa.length ar) (.slice none 0 0) aa [] (qK (zO bh.o hg (fun _ _=>by simp)) (zl _)) (xS _ _ _ _) (by omega) (by simp)
       rw[xn] at this;exact this
      generalize xB s.data.toList ps aa.length (aa.map Prod.fst)=qs at*
      obtain⟨nw,p2⟩:=qs
      simp only at aC a7 HC
      have aT:Y (∀u∈([.string (R.str nw.1),.string (R.str nw.2)]:List Value),u.oneCell'=true):=by
       intro u hu
       simp only[List.mem_cons,List.mem_nil_iff,or_false] at hu
       rcases hu with rfl | rfl <;> rfl
      have aV:Y (aa.length+1<=maxLen):=by show _<=_;unfold maxLen;omega
      go_wp2
      go_region_law (first | (refine step_append_lies _ rfl (.tmp 44) (.tmp 48) 211 rfl w.heap.size 280 is _ 2 32 Tryz.underlying211 si dn dp dq rfl (by decide) _ _ _ (by simp[Act.eval]) (xX al.o _) ⟨wN.heap.size,0,none⟩ 1 1 [.string (R.str nw.1),.string (R.str nw.2)] (by simp[Act.eval]) rfl aY.o aT.o (by decide) aV.o (by omega) aU.o (wN.heap.size+1) a1.o ?_;intro g9 ap w9 aI ai bZ b9;have aw:∀k,(Value.slice aq aa.length ar).ownBlock=some k->w.heap.size<=k:=fun k hk=>(qh al.o k hk).1;have J9:Y (PInv w9 rb s p2):=(JN.o.keep (zJ _ _ _)).away ai (fun k hk=>by { have h1:=aw k hk;omega });have C9:Y (w.grownBy w9 (some rb)):=x9 (zA CN.o (zJ _ _ _)) ai aw;have a3:Y (w9.heap[w.heap.size]?=some (.cells #[.int .i64 0,.string ⟨#[]⟩,.slice none 0 0,.slice none 0 0,.string ⟨#[]⟩,.slice none 0 0,.slice none 0 0] 213)):=qM (zB aF.o (zJ _ _ none) (by simp)) ai (fun k hk=>zV aF.o al.o (by decide) k hk);have am:Y (w9.heap[w3.heap.size]?=some (.cells #[.int .i64 ak,.string (R.str ag),.slice an ab.length ao,.slice ta tl.length tc,.string (R.str aj),.slice aq aa.length ar,.slice none 0 0] 213)):=qM (zB ad.o (zJ _ _ none) (by simp)) ai (fun k hk=>zV ad.o al.o (by decide) k hk);have aD:Y (w9.ownsRow w.heap.size 280 2 (.slice (some ⟨g9,0,none⟩) (aa.length+1) ap) (aa++[nw]).length (zb (aa++[nw]))):=by { show World.ownsRow _ _ _ _ _ _ _;rw[xN,zW];exact aI };have aO:Y _:=zO (xX aP.o _) ai (xW al.o aP.o (by decide));have aQ:Y _:=zO (xX aR.o _) ai (xW al.o aR.o (by decide));have q9:=zr9 am.o;have cd:=zrB 5 am.o;clear aI ai aw) | (go_simp;go_at_call 274;refine(HC.o _ (zQ aB)).mono ?_;rintro e wN ⟨rfl,IN,aH⟩;have GN:aB.grownBy wN (some rb):=zA (zk (zQ aB) _) aH;have JN:Y (PInv wN rb s p2):=IN;have CN:=J (zA bc.o GN);have sN:aB.heap.size<=wN.heap.size:=GN.size;have aF:=J (zB bP.o GN (by simp;omega));have ad:=J (zB av.o GN (by simp;omega));have al:Y _:=zn bh.o GN (by omega);have aP:Y _:=zn bD.o GN (by omega);have aR:Y _:=zn bL.o GN (by omega);have cm:=zr4 ad.o;have cn:=zr5 ad.o;have co:=zr6 ad.o;have cp:=zr7 ad.o;have cq:=zr8 ad.o;have cr:=zr9 ad.o;have ct:=zrA ad.o;have cu:=zE ad.o;have bN:=zE JN.o.rd;have aY:Y (∀j u,([.string (R.str nw.1),.string (R.str nw.2)]:List Value)[j]?=some u->(wN.alloc (.cells #[.string (R.str nw.1),.string (R.str nw.2)] 280)).cell? ((⟨wN.heap.size,0,none⟩:Addr).add j)=some u):=qI wN #[_,_] _ _ rfl;have aU:Y (w.heap.size<=(wN.alloc (.cells #[.string (R.str nw.1),.string (R.str nw.2)] 280)).heap.size):=by { show _<=_;rw[show(wN.alloc (.cells #[.string (R.str nw.1),.string (R.str nw.2)] 280)).heap.size=wN.heap.size+1 from by simp];omega };have a1:Y ((wN.alloc (.cells #[.string (R.str nw.1),.string (R.str nw.2)] 280)).heap.size=wN.heap.size+1):=by { show _=_;simp };clear IN aH GN))
      all_goals
       have gS:=zD w9 w3.heap.size 5 (.slice (some ⟨g9,0,none⟩) (aa.length+1) ap)
       have JS:Y _:=J9.o.other gS (by omega)
       have CS:=J (zY C9.o gS (by omega))
       have a4:=J (zB a3.o gS (by simp;omega))
       have a6:Y ((w9.setCell ⟨w3.heap.size,5,none⟩ (.slice (some ⟨g9,0,none⟩) (aa.length+1) ap)).heap[w3.heap.size]?=some (.cells #[.int .i64 ak,.string (R.str ag),.slice an ab.length ao,.slice ta tl.length tc,.string (R.str aj),.slice (some ⟨g9,0,none⟩) (aa.length+1) ap,.slice none 0 0] 213)):=zF am.o _
       have aZ:Y _:=zS aD.o gS (zV am.o aD.o (by decide))
       have be:Y _:=zS aO.o gS (zV am.o aO.o (by decide))
       have bj:Y _:=zS aQ.o gS (zV am.o aQ.o (by decide))
       have aX:Y (atOf (w9.setCell ⟨w3.heap.size,5,none⟩ (.slice (some ⟨g9,0,none⟩) (aa.length+1) ap)) rb=p2.tok.at_):=yT JS.o
       have aW:Y (atOf wr rb=ps.tok.at_):=yT IR.o
       have b0:=JS.o.bd
       clear gS
       go_wp2
       go_roundw
       case rel=>exact⟨n,aa++[nw],p2,_,by rw[zW];simp;omega,by omega,by omega,aC,JS,CS,a4,a6,aZ,be,bj⟩
       case measure=>rw[aX.o,aW.o];omega
  ·rw[hgo] at af
   simp only[if_true] at af
   have a7:=uy s.data.toList pm ab.length hgo
   have aC:Y _:=af
   clear af HL
   have cl:=zE aS.o
   have ce:=zr4 aS.o
   have cf:=zr5 aS.o
   have cg:=zr6 aS.o
   have ch:=zr7 aS.o
   have ci:=zr8 aS.o
   have cj:=zr9 aS.o
   have ck:=zrA aS.o
   have HC:Y (∀w',a9.grownBy w' none->Calls Tryz.prog 272 #[.pointer (some ⟨rb,0,none⟩),.int .i64 ab.length] w' fun e w''=>e = .returned (.agg #[.string (R.str (qT s.data.toList pm ab.length).1.name),.bool (qT s.data.toList pm ab.length).1.ask,.string (R.str (qT s.data.toList pm ab.length).1.val)])/\PInv w'' rb s (qT s.data.toList pm ab.length).2/\w'.grownBy w'' (some rb)):=fun w' hg=>zl0 (cL.o.keep hg) ab.length
   generalize qT s.data.toList pm ab.length=qs at*
   obtain⟨nw,p2⟩:=qs
   simp only at aC a7 HC
   have aT:Y (∀u∈([.string (R.str nw.name),.bool nw.ask,.string (R.str nw.val)]:List Value),u.oneCell'=true):=by
    intro u hu
    simp only[List.mem_cons,List.mem_nil_iff,or_false] at hu
    rcases hu with rfl | rfl | rfl <;> rfl
   have aV:Y (ab.length+1<=maxLen):=by show _<=_;unfold maxLen;omega
   go_wp2
   go_region_law (first | (refine step_append_lies _ rfl (.tmp 24) (.tmp 30) 209 rfl w.heap.size 276 im _ 3 40 Tryz.underlying209 mi dX dY dZ rfl (by decide) _ _ _ (by simp[Act.eval]) (xX al.o _) ⟨wN.heap.size,0,none⟩ 1 1 [.string (R.str nw.name),.bool nw.ask,.string (R.str nw.val)] (by simp[Act.eval]) rfl aY.o aT.o (by decide) aV.o (by omega) aU.o (wN.heap.size+1) a1.o ?_;intro g9 ap w9 aI ai bZ b9;have aw:∀k,(Value.slice an ab.length ao).ownBlock=some k->w.heap.size<=k:=fun k hk=>(qh al.o k hk).1;have J9:Y (PInv w9 rb s p2):=(JN.o.keep (zJ _ _ _)).away ai (fun k hk=>by { have h1:=aw k hk;omega });have C9:Y (w.grownBy w9 (some rb)):=x9 (zA CN.o (zJ _ _ _)) ai aw;have a3:Y (w9.heap[w.heap.size]?=some (.cells #[.int .i64 0,.string ⟨#[]⟩,.slice none 0 0,.slice none 0 0,.string ⟨#[]⟩,.slice none 0 0,.slice none 0 0] 213)):=qM (zB aF.o (zJ _ _ none) (by simp)) ai (fun k hk=>zV aF.o al.o (by decide) k hk);have am:Y (w9.heap[w3.heap.size]?=some (.cells #[.int .i64 ak,.string (R.str ag),.slice an ab.length ao,.slice none 0 0,.string ⟨#[]⟩,.slice none 0 0,.slice none 0 0] 213)):=qM (zB ad.o (zJ _ _ none) (by simp)) ai (fun k hk=>zV ad.o al.o (by decide) k hk);have aD:Y (w9.ownsRow w.heap.size 276 3 (.slice (some ⟨g9,0,none⟩) (ab.length+1) ap) (ab++[nw]).length (qY (ab++[nw]))):=by { show World.ownsRow _ _ _ _ _ _ _;rw[vi,zW];exact aI };have q9:=zr6 am.o;have cd:=zrB 2 am.o;clear aI ai aw) | (go_simp;go_at_call 272;refine(HC.o _ (zQ a9)).mono ?_;rintro e wN ⟨rfl,IN,aH⟩;have GN:a9.grownBy wN (some rb):=zA (zk (zQ a9) _) aH;have JN:Y (PInv wN rb s p2):=IN;have CN:=J (zA cx.o GN);have sN:a9.heap.size<=wN.heap.size:=GN.size;have aF:=J (zB de.o GN (by simp;omega));have ad:=J (zB aS.o GN (by simp;omega));have al:Y _:=zn c6.o GN (by omega);have cm:=zr4 ad.o;have cn:=zr5 ad.o;have co:=zr6 ad.o;have cp:=zr7 ad.o;have cq:=zr8 ad.o;have cr:=zr9 ad.o;have ct:=zrA ad.o;have cu:=zE ad.o;have bN:=zE JN.o.rd;have aY:Y (∀j u,([.string (R.str nw.name),.bool nw.ask,.string (R.str nw.val)]:List Value)[j]?=some u->(wN.alloc (.cells #[.string (R.str nw.name),.bool nw.ask,.string (R.str nw.val)] 276)).cell? ((⟨wN.heap.size,0,none⟩:Addr).add j)=some u):=qI wN #[_,_,_] _ _ rfl;have aU:Y (w.heap.size<=(wN.alloc (.cells #[.string (R.str nw.name),.bool nw.ask,.string (R.str nw.val)] 276)).heap.size):=by { show _<=_;rw[show(wN.alloc (.cells #[.string (R.str nw.name),.bool nw.ask,.string (R.str nw.val)] 276)).heap.size=wN.heap.size+1 from by simp];omega };have a1:Y ((wN.alloc (.cells #[.string (R.str nw.name),.bool nw.ask,.string (R.str nw.val)] 276)).heap.size=wN.heap.size+1):=by { show _=_;simp };clear IN aH GN))
   all_goals
    have gS:=zD w9 w3.heap.size 2 (.slice (some ⟨g9,0,none⟩) (ab.length+1) ap)
    have JS:Y _:=J9.o.other gS (by omega)
    have CS:=J (zY C9.o gS (by omega))
    have a4:=J (zB a3.o gS (by simp;omega))
    have a6:Y ((w9.setCell ⟨w3.heap.size,2,none⟩ (.slice (some ⟨g9,0,none⟩) (ab.length+1) ap)).heap[w3.heap.size]?=some (.cells #[.int .i64 ak,.string (R.str ag),.slice (some ⟨g9,0,none⟩) (ab.length+1) ap,.slice none 0 0,.string ⟨#[]⟩,.slice none 0 0,.slice none 0 0] 213)):=zF am.o _
    have aZ:Y _:=zS aD.o gS (zV am.o aD.o (by decide))
    have aX:Y (atOf (w9.setCell ⟨w3.heap.size,2,none⟩ (.slice (some ⟨g9,0,none⟩) (ab.length+1) ap)) rb=p2.tok.at_):=yT JS.o
    have aW:Y (atOf wr rb=pm.tok.at_):=yT IR.o
    have b0:=JS.o.bd
    clear gS
    go_wp2
    go_roundw
    case rel=>exact⟨n,ab++[nw],p2,_,by rw[zW];simp;omega,by omega,by omega,aC,JS,CS,a4,a6,aZ⟩
    case measure=>rw[aX.o,aW.o];omega
end Go.Proofs.YtfocdefchbnkpaaGreatDoor
