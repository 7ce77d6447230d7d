/- A rule, as the program's reader reads it. -/
import Derived.Test.YtfocdefchbnkpaaGreatDoorAli
import Derived.Test.YtfocdefchbnkpaaGreatDoorProP
import Derived.Deep.RegionLaw
set_option maxRecDepth 100000
set_option maxHeartbeats 20000000
namespace Go.Proofs.YtfocdefchbnkpaaGreatDoor
open Go.RowKit
def atOf (w:World)(rb:Nat):Nat:=match w.cell? ⟨rb,2,none⟩ with | some v=>(intOf v).toNat | none=>0
theorem jf {w:World}{rb:Nat}{s:ByteArray}{st:P.St}(h:PInv w rb s st):atOf w rb=st.tok.at_:=by
 unfold atOf
 rw[show w.cell? ⟨rb,2,none⟩=some (.int .i64 st.tok.at_) from zB h.rd]
 simp[intOf]
theorem ziS:(Tryz.prog.info? 276).map (fun i=>(i.zero,i.size,i.bytes))=some (some (.agg #[.string ⟨#[]⟩,.bool false,.string ⟨#[]⟩]),3,40):=by kernel_rfl
theorem ziN:(Tryz.prog.info? 280).map (fun i=>(i.zero,i.size,i.bytes))=some (some (.agg #[.string ⟨#[]⟩,.string ⟨#[]⟩]),2,32):=by kernel_rfl
theorem zp7 {w:World}{rb:Nat}{s:ByteArray}{st:P.St}(h:PInv w rb s st)(B:Nat)(v:Value)(rs:List P.Rl)(hR:PRulesRow w B v rs)(hn:rs.length<=2000000000000) :
  Calls Tryz.prog 208 #[.pointer (some ⟨rb,0,none⟩),v] w fun e w'=>∃cs,e = .returned (.agg cs.toArray)/\PInv w' rb s (xg s.data.toList st (rs.map P.Rl.number)).2/\w.grownBy w' (some rb)/\PRuleVal w' cs (xg s.data.toList st (rs.map P.Rl.number)).1:=by
 obtain⟨im,mi,dX,dY,dZ⟩:=info_parts ziS
 obtain⟨is,si,dn,dp,dq⟩:=info_parts ziN
 obtain⟨id,di,dg,dh,dj⟩:=info_parts fC
 have HP:Y (xg s.data.toList st (rs.map P.Rl.number)=uC s.data.toList (jT s.data.toList st (rs.map P.Rl.number))):=rfl
 have HA:Y (jT s.data.toList st (rs.map P.Rl.number)=yX s.data.toList (zX s.data.toList (qE st rs.length 6) xH) (rs.map P.Rl.number)):=by show _=_;unfold jT;rw[xW]
 have H0:Y _:=h
 have et:=zI h.rd
 have eu:=h.len
 have HR:Y (PRulesRow w B v rs):=hR
 have HN:Y _:=hn
 obtain⟨va,vc,rfl⟩:∃a c,v = .slice a rs.length c:=by obtain⟨css,h1,_⟩:=hR;exact zO h1
 clear h hR hn
 generalize xg s.data.toList st (rs.map P.Rl.number)=res at*
 go_enter Tryz.func208,Tryz.ntmps208
 have C0:Y (w.grownBy w (some rb)):=ze _ _
 go_wp2_with fail
 refine(vd (H0.o.keep (zL _ _ _)) _ _).mono ?_
 rintro e w1 ⟨rfl,I1,b7⟩
 have J1:Y _:=I1
 have b1:=zI J1.o.rd
 have s1:w.heap.size+1<=w1.heap.size:=by have h:=b7.size;simpa using h
 have G1:Y (w.grownBy w1 (some rb)):=(zD (zL _ _ _) b7)
 have C1:=J (zD C0.o G1.o)
 have z1:=C1.o.size
 have dC:Y (w1.heap[w.heap.size]?=some (.cells #[.int .i64 0,.string ⟨#[]⟩,.slice none 0 0,.slice none 0 0,.string ⟨#[]⟩,.slice none 0 0,.slice none 0 0] 213)):=qz b7 (by simp;omega)
 clear b7 I1
 go_wp2_with fail
 refine(yF J1.o _).mono ?_
 rintro e w2 ⟨rfl,I2,cO⟩
 have J2:Y _:=I2
 have b2:=zI J2.o.rd
 have s2:w1.heap.size+0<=w2.heap.size:=by have h:=cO.size;simpa using h
 have G2:Y (w1.grownBy w2 (some rb)):=cO
 have C2:=J (zD C1.o G2.o)
 have z2:=C2.o.size
 have dD:=J (zF dC.o G2.o (by simp;omega))
 clear cO I2
 rw[show(⟨#[114,117,108,101]⟩:ByteArray).data.toList=xH from rfl] at J2
 go_wp2_with fail
 refine(zdJ J2.o B _ rs (HR.o.keep C2.o (H0.o.safe (by decide))) HN.o).mono ?_
 rintro e w3 ⟨rfl,I3,cP,dl,dm⟩
 have J3:Y _:=I3
 have b3:=zI J3.o.rd
 have s3:w2.heap.size+0<=w3.heap.size:=by have h:=cP.size;simpa using h
 have G3:Y (w2.grownBy w3 (some rb)):=cP
 have C3:=J (zD C2.o G3.o)
 have z3:=C3.o.size
 have dE:=J (zF dD.o G3.o (by simp;omega))
 clear cP I3
 rw[<-HA.o] at J3 dl dm
 rw[<-HA.o]
 clear HA
 generalize jT s.data.toList st (rs.map P.Rl.number)=qa at*
 obtain⟨ak,sA⟩:=qa
 simp only at J3 dl dm HP ⊢
 go_wp2_with fail
 refine(yF (J3.o.keep (zL _ _ _)) _).mono ?_
 rintro e w4 ⟨rfl,I4,b8⟩
 have J4:Y _:=I4
 have b4:=zI J4.o.rd
 have s4:w3.heap.size+1<=w4.heap.size:=by have h:=b8.size;simpa using h
 have G4:Y (w3.grownBy w4 (some rb)):=(zD (zL _ _ _) b8)
 have C4:=J (zD C3.o G4.o)
 have z4:=C4.o.size
 have dF:=J (zF dE.o G4.o (by simp;omega))
 have dM:Y (w4.heap[w3.heap.size]?=some (.cells #[.int .i64 ak,.string ⟨#[]⟩,.slice none 0 0,.slice none 0 0,.string ⟨#[]⟩,.slice none 0 0,.slice none 0 0] 213)):=qz b8 (by simp;omega)
 clear b8 I4
 go_wp2_with fail
 refine(zhL J4.o _).mono ?_
 rintro e w5 ⟨rfl,I5,cQ⟩
 have J5:Y _:=I5
 have b5:=zI J5.o.rd
 have s5:w4.heap.size+0<=w5.heap.size:=by have h:=cQ.size;simpa using h
 have G5:Y (w4.grownBy w5 (some rb)):=cQ
 have C5:=J (zD C4.o G5.o)
 have z5:=C5.o.size
 have dG:=J (zF dF.o G5.o (by simp;omega))
 have bW:=J (zF dM.o G5.o (by simp;omega))
 clear cQ I5
 have JB:Y (PInv w5 rb s (vH s.data.toList sA).2):=J5
 rw[show(yJ s.data.toList (zX s.data.toList sA (⟨#[123]⟩:ByteArray).data.toList) (⟨#[112,97,116,104]⟩:ByteArray).data.toList).1=(vH s.data.toList sA).1 from rfl]
 have cB:Y (res=uE s.data.toList ak (vH s.data.toList sA).1 (xL s.data.toList (s.data.toList.length+1) (vH s.data.toList sA).2 [])):=HP.o
 clear HP
 generalize vH s.data.toList sA=qb at*
 obtain⟨ag,sB⟩:=qb
 simp only at JB cB ⊢
 have ex:=zI bW.o
 have ev:=zu7 bW.o
 have ew:=zuG 1 bW.o
 go_wp2_with fail
 have J6:Y _:=JB.o.other (zG w5 w3.heap.size 1 (.string (R.str ag))) (by omega)
 have C6:=J (zm C5.o (zG w5 w3.heap.size 1 (.string (R.str ag))) (by omega))
 have dH:=J (zF dG.o (zG w5 w3.heap.size 1 (.string (R.str ag))) (by simp;omega))
 have dN:Y ((World.setCell w5 ⟨w3.heap.size,1,none⟩ (.string (R.str ag))).heap[w3.heap.size]?=some (.cells #[.int .i64 ak,.string (R.str ag),.slice none 0 0,.slice none 0 0,.string ⟨#[]⟩,.slice none 0 0,.slice none 0 0] 213)):=zR bW.o (.string (R.str ag))
 have s6:w5.heap.size<=(World.setCell w5 ⟨w3.heap.size,1,none⟩ (.string (R.str ag))).heap.size:=by simp[World.setCell]
 have y6:(World.setCell w5 ⟨w3.heap.size,1,none⟩ (.string (R.str ag))).heap.size<=w5.heap.size:=by simp[World.setCell]
 generalize(World.setCell w5 ⟨w3.heap.size,1,none⟩ (.string (R.str ag)))=w6 at*
 have b6:rb<w6.heap.size:=by omega
 have cC:Y (res=uE s.data.toList ak ag (xL s.data.toList (s.data.toList.length+1) sB [])):=cB.o
 clear cB
 generalize dk:xL s.data.toList (s.data.toList.length+1) sB []=Qm at*
 have dz:Y _:=dk
 clear dk
 have em:=J6.o.bd
 go_loopw [] (fun wr=>∃(n:Nat) (acc:List P.Mt) (p:P.St) (vL:Value),acc.length<=p.tok.at_/\p.tok.at_<=s.size/\s.size<n+p.tok.at_/\Y (xL s.data.toList n p acc=Qm)/\Y (PInv wr rb s p)/\Y (w.grownBy wr (some rb))/\Y (wr.heap[w.heap.size]?=some (.cells #[.int .i64 0,.string ⟨#[]⟩,.slice none 0 0,.slice none 0 0,.string ⟨#[]⟩,.slice none 0 0,.slice none 0 0] 213))/\Y (wr.heap[w3.heap.size]?=some (.cells #[.int .i64 ak,.string (R.str ag),vL,.slice none 0 0,.string ⟨#[]⟩,.slice none 0 0,.slice none 0 0] 213))/\Y (wr.ownsRow w.heap.size 276 3 vL acc.length (xO acc))) (fun wr=>s.size+1 - atOf wr rb)
 case atStart=>exact⟨s.data.toList.length+1,[],sB,_,zo _,by omega,by rw[R.size_eq];omega,dz.o,J6,C6,dH.o,dN.o,xd _ _ _ _⟩
 case round=>
  obtain⟨n,ab,pm,vL,bY,cb,ca,HL,IR,CR,a5,aG,aE⟩:=hrel
  have bX:=zI IR.o.rd
  have cv:=CR.o.size
  have cc:=zI aG.o
  obtain⟨n,rfl⟩:∃m,n=m+1:=⟨n - 1,by omega⟩
  have af:=HL.o
  rw[xL] at af
  obtain⟨an,ao,rfl⟩:=zO aE.o
  go_wp2_with fail
  refine(vE IR.o _).mono ?_
  rintro e a9 ⟨rfl,cN⟩
  have cT:=zb cN (some rb)
  have cL:Y _:=(IR.o).keep cN
  have es:=zI cL.o.rd
  have eI:wr.heap.size+0<=a9.heap.size:=by have h:=cT.size;simpa using h
  have bU:Y (wr.grownBy a9 (some rb)):=cT
  have cx:=J (zD CR.o bU.o)
  have eN:=cx.o.size
  have de:=J (zF a5.o bU.o (by simp;omega))
  have aS:=J (zF aG.o bU.o (by simp;omega))
  have c6:Y _:=zS aE.o bU.o (by omega)
  clear cT cN
  rw[show(⟨#[104,101,97,100,101,114]⟩:ByteArray).data.toList=qd from rfl]
  cases hgo:qX pm qd
  ·rw[hgo] at af
   simp only[zb2,if_false] at af
   have dv:Y (Qm=(ab,pm)):=af.symm
   clear af HL
   rw[dv.o] at cC
   have dy:Y _:=c6
   go_wp2_with fail
   refine(zi9 cL.o).mono ?_
   rintro e wT ⟨vT,rfl,IT,bv,cU,dW⟩
   obtain⟨ta,tc,rfl⟩:=zO cU
   have JT:Y _:=IT
   have bT:=zI JT.o.rd
   have sT:a9.heap.size<=wT.heap.size:=bv.size
   have CT:=J (zD cx.o bv)
   have zT:=CT.o.size
   have dL:=J (zF de.o bv (by simp;omega))
   have bu:=J (zF aS.o bv (by simp;omega))
   have c5:Y _:=zS dy.o bv (by omega)
   have cJ:Y _:=qF cU (show w.heap.size<=a9.heap.size by omega)
   clear IT bv cU dW
   have cD:Y (res=vN s.data.toList ak ag ab (qh s.data.toList pm)):=cC.o
   clear cC
   generalize qh s.data.toList pm=pt at*
   obtain⟨tl,a8⟩:=pt
   simp only at JT cJ cD
   have bF:Y (res=wH s.data.toList ak ag ab tl (j0 s.data.toList a8) (qy s.data.toList (s.data.toList.length+1) (j0 s.data.toList a8).2 [])):=cD.o
   clear cD
   have eD:=zI bu.o
   have eB:=ztQ bu.o
   have eC:=zuG 3 bu.o
   go_wp2_with fail
   have db:Y _:=JT.o.other (zG wT w3.heap.size 3 (.slice ta tl.length tc)) (by omega)
   have dr:=J (zm CT.o (zG wT w3.heap.size 3 (.slice ta tl.length tc)) (by omega))
   have dI:=J (zF dL.o (zG wT w3.heap.size 3 (.slice ta tl.length tc)) (by simp;omega))
   have dO:Y ((World.setCell wT ⟨w3.heap.size,3,none⟩ (.slice ta tl.length tc)).heap[w3.heap.size]?=some (.cells #[.int .i64 ak,.string (R.str ag),.slice an ab.length ao,.slice ta tl.length tc,.string ⟨#[]⟩,.slice none 0 0,.slice none 0 0] 213)):=zR bu.o (.slice ta tl.length tc)
   have dw:Y _:=zY c5.o (zG wT w3.heap.size 3 (.slice ta tl.length tc)) (zW bu.o c5.o (by decide))
   have dA:Y _:=zY cJ.o (zG wT w3.heap.size 3 (.slice ta tl.length tc)) (zW bu.o cJ.o (by decide))
   have eE:wT.heap.size<=(World.setCell wT ⟨w3.heap.size,3,none⟩ (.slice ta tl.length tc)).heap.size:=by simp[World.setCell]
   have eJ:(World.setCell wT ⟨w3.heap.size,3,none⟩ (.slice ta tl.length tc)).heap.size<=wT.heap.size:=by simp[World.setCell]
   generalize(World.setCell wT ⟨w3.heap.size,3,none⟩ (.slice ta tl.length tc))=wEm1 at*
   have en:rb<wEm1.heap.size:=by omega
   refine(vE db.o _).mono ?_
   rintro e bw ⟨rfl,cM⟩
   have cR:=zb cM (some rb)
   have cK:Y _:=(db.o).keep cM
   have eo:=zI cK.o.rd
   have eF:wEm1.heap.size+0<=bw.heap.size:=by have h:=cR.size;simpa using h
   have bz:Y (wEm1.grownBy bw (some rb)):=cR
   have cw:=J (zD dr.o bz.o)
   have eL:=cw.o.size
   have dd:=J (zF dI.o bz.o (by simp;omega))
   have df:=J (zF dO.o bz.o (by simp;omega))
   have c3:Y _:=zS dw.o bz.o (by omega)
   have c7:Y _:=zS dA.o bz.o (by omega)
   clear cR cM
   rw[show(⟨#[114,101,112,108,97,99,101]⟩:ByteArray).data.toList=qW from rfl]
   have ba:Y (j0 s.data.toList a8=if qX a8 qW then yJ s.data.toList a8 qW else ([],a8)):=rfl
   generalize j0 s.data.toList a8=pc at*
   obtain⟨aj,sC⟩:=pc
   simp only at bF
   cases hch:qX a8 qW
   ·rw[hch] at ba
    simp only[zb2,if_false] at ba
    have dt:Y (aj=[]):=(Prod.mk.inj ba.o).1
    have du:Y (sC=a8):=(Prod.mk.inj ba.o).2
    have da:Y (PInv bw rb s sC):=by rw[du.o];exact cK.o
    have dQ:Y (bw.heap[w3.heap.size]?=some (.cells #[.int .i64 ak,.string (R.str ag),.slice an ab.length ao,.slice ta tl.length tc,.string (R.str aj),.slice none 0 0,.slice none 0 0] 213)):=by rw[dt.o];exact df.o
    go_wp2_with fail
    generalize bR:qy s.data.toList (s.data.toList.length+1) sC []=Qs at*
    have cF:Y _:=bR
    clear bR
    have dS:=da.o.bd
    go_loopw [] (fun wr=>∃(n:Nat) (acc:List (List UInt8×List UInt8)) (p:P.St) (vL:Value),acc.length<=p.tok.at_/\p.tok.at_<=s.size/\s.size<n+p.tok.at_/\Y (qy s.data.toList n p acc=Qs)/\Y (PInv wr rb s p)/\Y (w.grownBy wr (some rb))/\Y (wr.heap[w.heap.size]?=some (.cells #[.int .i64 0,.string ⟨#[]⟩,.slice none 0 0,.slice none 0 0,.string ⟨#[]⟩,.slice none 0 0,.slice none 0 0] 213))/\Y (wr.heap[w3.heap.size]?=some (.cells #[.int .i64 ak,.string (R.str ag),.slice an ab.length ao,.slice ta tl.length tc,.string (R.str aj),vL,.slice none 0 0] 213))/\Y (wr.ownsRow w.heap.size 280 2 vL acc.length (qH acc))/\Y (wr.ownsRow w.heap.size 276 3 (.slice an ab.length ao) ab.length (xO ab))/\Y (wr.ownsRow w.heap.size 285 2 (.slice ta tl.length tc) tl.length (qB tl))) (fun wr=>s.size+1 - atOf wr rb)
    case atStart=>exact⟨s.data.toList.length+1,[],sC,_,zo _,by omega,by rw[R.size_eq];omega,cF.o,da,cw,dd.o,dQ.o,xd _ _ _ _,c3.o,c7.o⟩
    case round=>
     obtain⟨n,aa,ps,vL,bY,cb,ca,HL,IR,CR,a5,aG,aE,bf,bk⟩:=hrel
     have bX:=zI IR.o.rd
     have cv:=CR.o.size
     have cc:=zI aG.o
     obtain⟨n,rfl⟩:∃m,n=m+1:=⟨n - 1,by omega⟩
     have af:=HL.o
     rw[qy] at af
     obtain⟨aq,ar,rfl⟩:=zO aE.o
     go_wp2_with fail
     refine(vE IR.o _).mono ?_
     rintro e aB ⟨rfl,bo⟩
     have br:=zb bo (some rb)
     have a2:Y _:=(IR.o).keep bo
     have dV:=zI a2.o.rd
     have ei:wr.heap.size+0<=aB.heap.size:=by have h:=br.size;simpa using h
     have aJ:Y (wr.grownBy aB (some rb)):=br
     have bc:=J (zD CR.o aJ.o)
     have el:=bc.o.size
     have bP:=J (zF a5.o aJ.o (by simp;omega))
     have av:=J (zF aG.o aJ.o (by simp;omega))
     have bh:Y _:=zS aE.o aJ.o (by omega)
     have bD:Y _:=zS bf.o aJ.o (by omega)
     have bL:Y _:=zS bk.o aJ.o (by omega)
     clear br bo
     rw[show(⟨#[115,101,116]⟩:ByteArray).data.toList=xf from rfl]
     cases hgo:qX ps xf
     ·rw[hgo] at af
      simp only[zb2,if_false] at af
      have cz:Y (Qs=(aa,ps)):=af.symm
      clear af HL
      have a0:Y (res=(⟨ak,ag,ab,tl,aj,aa,(qp s.data.toList (aa.map Prod.fst) (s.data.toList.length+1) ps []).1⟩,zX s.data.toList (qp s.data.toList (aa.map Prod.fst) (s.data.toList.length+1) ps []).2 [125])):=by
       show _=_
       rw[bF.o,cz.o];rfl
      clear bF
      generalize bQ:qp s.data.toList (aa.map Prod.fst) (s.data.toList.length+1) ps []=Qd at*
      have cE:Y _:=bQ
      clear bQ
      have bS:aa.length<=2000000000000:=by omega
      have cA:Y _:=bS
      clear bS
      have cG:Y _:=bh
      go_wp2_with fail
      have dR:=a2.o.bd
      go_loopw [] (fun wr=>∃(n:Nat) (acc:List (List UInt8)) (p:P.St) (vL:Value),acc.length<=p.tok.at_/\p.tok.at_<=s.size/\s.size<n+p.tok.at_/\Y (qp s.data.toList (aa.map Prod.fst) n p acc=Qd)/\Y (PInv wr rb s p)/\Y (w.grownBy wr (some rb))/\Y (wr.heap[w.heap.size]?=some (.cells #[.int .i64 0,.string ⟨#[]⟩,.slice none 0 0,.slice none 0 0,.string ⟨#[]⟩,.slice none 0 0,.slice none 0 0] 213))/\Y (wr.heap[w3.heap.size]?=some (.cells #[.int .i64 ak,.string (R.str ag),.slice an ab.length ao,.slice ta tl.length tc,.string (R.str aj),.slice aq aa.length ar,vL] 213))/\Y (wr.ownsRow w.heap.size 9 1 vL acc.length (zf acc))/\Y (wr.ownsRow w.heap.size 276 3 (.slice an ab.length ao) ab.length (xO ab))/\Y (wr.ownsRow w.heap.size 285 2 (.slice ta tl.length tc) tl.length (qB tl))/\Y (wr.ownsRow w.heap.size 280 2 (.slice aq aa.length ar) aa.length (qH aa))) (fun wr=>s.size+1 - atOf wr rb)
      case atStart=>exact⟨s.data.toList.length+1,[],ps,_,zo _,by omega,by rw[R.size_eq];omega,cE.o,a2,bc,bP.o,av.o,xd _ _ _ _,bD.o,bL.o,cG.o⟩
      case round=>
       obtain⟨n,ae,pd,vL,bY,cb,ca,HL,IR,CR,a5,aG,aE,bf,bk,cI⟩:=hrel
       have bX:=zI IR.o.rd
       have cv:=CR.o.size
       have cc:=zI aG.o
       obtain⟨n,rfl⟩:∃m,n=m+1:=⟨n - 1,by omega⟩
       have af:=HL.o
       rw[qp] at af
       obtain⟨aL,aM,rfl⟩:=zO aE.o
       go_wp2_with fail
       refine(vE IR.o _).mono ?_
       rintro e ax ⟨rfl,bn⟩
       have bq:=zb bn (some rb)
       have bm:Y _:=(IR.o).keep bn
       have dU:=zI bm.o.rd
       have eh:wr.heap.size+0<=ax.heap.size:=by have h:=bq.size;simpa using h
       have aA:Y (wr.grownBy ax (some rb)):=bq
       have bb:=J (zD CR.o aA.o)
       have ek:=bb.o.size
       have bO:=J (zF a5.o aA.o (by simp;omega))
       have au:=J (zF aG.o aA.o (by simp;omega))
       have bg:Y _:=zS aE.o aA.o (by omega)
       have bC:Y _:=zS bf.o aA.o (by omega)
       have bK:Y _:=zS bk.o aA.o (by omega)
       have bi:Y _:=zS cI.o aA.o (by omega)
       clear bq bn
       rw[show(⟨#[100,114,111,112]⟩:ByteArray).data.toList=x7 from rfl]
       cases hgo:qX pd x7
       ·rw[hgo] at af
        simp only[zb2,if_false] at af
        have cy:Y (Qd=(ae,pd)):=af.symm
        clear af HL
        rw[cy.o] at a0
        simp only at a0
        go_wp2_with fail
        refine(yF bm.o _).mono ?_
        rintro e bs ⟨rfl,bM,bp⟩
        have bl:Y _:=bM
        have dT:=zI bl.o.rd
        have eg:ax.heap.size+0<=bs.heap.size:=by have h:=bp.size;simpa using h
        have az:Y (ax.grownBy bs (some rb)):=bp
        have bx:=J (zD bb.o az.o)
        have ej:=bx.o.size
        have ah:=J (zF bO.o az.o (by simp;omega))
        have ay:=J (zF au.o az.o (by simp;omega))
        have bE:Y _:=zS bg.o az.o (by omega)
        have bB:Y _:=zS bC.o az.o (by omega)
        have bJ:Y _:=zS bK.o az.o (by omega)
        have bH:Y _:=zS bi.o az.o (by omega)
        clear bp bM
        rw[show(⟨#[125]⟩:ByteArray).data.toList=[125] from rfl] at bl
        have d7:=zI ay.o
        have d0:=zu9 ay.o
        have d1:=zu7 ay.o
        have d2:=zuJ ay.o
        have d3:=ztQ ay.o
        have d4:=ztV ay.o
        have d5:=zu2 ay.o
        have d6:=zu6 ay.o
        have ef:=zI ah.o
        have cV:=zu9 ah.o
        have d8:=zuG 0 ah.o
        have cW:=zu7 ah.o
        have d9:=zuG 1 ah.o
        have cX:=zuJ ah.o
        have ea:=zuG 2 ah.o
        have cY:=ztQ ah.o
        have eb:=zuG 3 ah.o
        have cZ:=ztV ah.o
        have ec:=zuG 4 ah.o
        have c0:=zu2 ah.o
        have ed:=zuG 5 ah.o
        have c1:=zu6 ah.o
        have ee:=zuG 6 ah.o
        go_wp2
        have aK:=zD (zD (zD (zD (zD (zD (zG bs w.heap.size 0 (.int .i64 ak)) (zG _ w.heap.size 1 (.string (R.str ag)))) (zG _ w.heap.size 2 (.slice an ab.length ao))) (zG _ w.heap.size 3 (.slice ta tl.length tc))) (zG _ w.heap.size 4 (.string (R.str aj)))) (zG _ w.heap.size 5 (.slice aq aa.length ar))) (zG _ w.heap.size 6 (.slice aL ae.length aM))
        refine bodyPost_ret (v:=.agg #[.int .i64 ak,.string (R.str ag),.slice an ab.length ao,.slice ta tl.length tc,.string (R.str aj),.slice aq aa.length ar,.slice aL ae.length aM]) (by simp[results,Tryz.results208,go_sem,cV,cW,cX,cY,cZ,c0,c1]) rfl ⟨[.int .i64 ak,.string (R.str ag),.slice an ab.length ao,.slice ta tl.length tc,.string (R.str aj),.slice aq aa.length ar,.slice aL ae.length aM],rfl,?_,zm bx.o aK (zw _),?_⟩
        ·rw[a0.o];exact bl.o.other aK (by omega)
        ·rw[a0.o]
         refine⟨_,_,_,_,rfl,?_,?_,?_,?_⟩
         ·exact zY (qF bB.o (zo _)) aK (fun k hk=>zW ah.o bB.o (by decide) k hk)
         ·exact zY (qF bJ.o (zo _)) aK (fun k hk=>zW ah.o bJ.o (by decide) k hk)
         ·exact zY (qF bH.o (zo _)) aK (fun k hk=>zW ah.o bH.o (by decide) k hk)
         ·exact zY (qF bE.o (zo _)) aK (fun k hk=>zW ah.o bE.o (by decide) k hk)
       ·rw[hgo] at af
        simp only[if_true] at af
        have a7:=za4 s.data.toList pd ae.length (aa.map Prod.fst++ae) hgo
        have aC:Y _:=af
        clear af HL
        have cl:=zI au.o
        have ce:=zu9 au.o
        have cf:=zu7 au.o
        have cg:=zuJ au.o
        have ch:=ztQ au.o
        have ci:=ztV au.o
        have cj:=zu2 au.o
        have ck:=zu6 au.o
        have HC:Y (∀w',ax.grownBy w' none->Calls Tryz.prog 275 #[.pointer (some ⟨rb,0,none⟩),.agg #[.int .i64 ak,.string (R.str ag),.slice an ab.length ao,.slice ta tl.length tc,.string (R.str aj),.slice aq aa.length ar,.slice aL ae.length aM]] w' fun e w''=>e = .returned (.string (R.str (xm s.data.toList pd ae.length (aa.map Prod.fst++ae)).1))/\PInv w'' rb s (xm s.data.toList pd ae.length (aa.map Prod.fst++ae)).2/\w'.grownBy w'' (some rb)):=fun w' hg=>zhK (bm.o.keep hg) _ _ _ _ _ _ _ aa ae (qF (zV bi.o hg (fun _ _=>by simp)) (zo _)) (qF (zV bg.o hg (fun _ _=>by simp)) (zo _)) cA.o (by omega)
        generalize xm s.data.toList pd ae.length (aa.map Prod.fst++ae)=qs at*
        obtain⟨nw,p2⟩:=qs
        simp only at aC a7 HC
        have aT:Y (∀u∈([.string (R.str nw)]:List Value),u.oneCell'=true):=by
         intro u hu
         simp only[List.mem_cons,List.mem_nil_iff,or_false] at hu
         subst hu;rfl
        have aV:Y (ae.length+1<=maxLen):=by show _<=_;unfold maxLen;omega
        go_wp2
        go_region_law (first | (refine step_append_lies _ rfl (.tmp 54) (.tmp 58) 22 rfl w.heap.size 9 id _ 1 16 Tryz.underlying22 di dg dh dj rfl (by decide) _ _ _ (by simp[Act.eval]) (qK al.o _) ⟨wN.heap.size,0,none⟩ 1 1 [.string (R.str nw)] (by simp[Act.eval]) rfl aY.o aT.o (by decide) aV.o (by omega) aU.o (wN.heap.size+1) a1.o ?_;intro g9 ap w9 aI ai bZ b9;have aw:∀k,(Value.slice aL ae.length aM).ownBlock=some k->w.heap.size<=k:=fun k hk=>(zx al.o k hk).1;have J9:Y (PInv w9 rb s p2):=(JN.o.keep (zL _ _ _)).away ai (fun k hk=>by { have h1:=aw k hk;omega });have C9:Y (w.grownBy w9 (some rb)):=qV (zD CN.o (zL _ _ _)) ai aw;have a3:Y (w9.heap[w.heap.size]?=some (.cells #[.int .i64 0,.string ⟨#[]⟩,.slice none 0 0,.slice none 0 0,.string ⟨#[]⟩,.slice none 0 0,.slice none 0 0] 213)):=xJ (zF aF.o (zL _ _ none) (by simp)) ai (fun k hk=>zW aF.o al.o (by decide) k hk);have am:Y (w9.heap[w3.heap.size]?=some (.cells #[.int .i64 ak,.string (R.str ag),.slice an ab.length ao,.slice ta tl.length tc,.string (R.str aj),.slice aq aa.length ar,.slice aL ae.length aM] 213)):=xJ (zF ad.o (zL _ _ none) (by simp)) ai (fun k hk=>zW ad.o al.o (by decide) k hk);have aD:Y (w9.ownsRow w.heap.size 9 1 (.slice (some ⟨g9,0,none⟩) (ae.length+1) ap) (ae++[nw]).length (zf (ae++[nw]))):=by { show World.ownsRow _ _ _ _ _ _ _;rw[yB,zh];exact aI };have aO:Y _:=zV (qK aP.o _) ai (xF al.o aP.o (by decide));have aQ:Y _:=zV (qK aR.o _) ai (xF al.o aR.o (by decide));have bG:Y _:=zV (qK bI.o _) ai (xF al.o bI.o (by decide));have q9:=zu6 am.o;have cd:=zuG 6 am.o;clear aI ai aw) | (go_simp;go_at_call 275;refine(HC.o _ (zg ax)).mono ?_;rintro e wN ⟨rfl,IN,aH⟩;have GN:ax.grownBy wN (some rb):=zD (zb (zg ax) _) aH;have JN:Y (PInv wN rb s p2):=IN;have CN:=J (zD bb.o GN);have sN:ax.heap.size<=wN.heap.size:=GN.size;have aF:=J (zF bO.o GN (by simp;omega));have ad:=J (zF au.o GN (by simp;omega));have al:Y _:=zS bg.o GN (by omega);have aP:Y _:=zS bC.o GN (by omega);have aR:Y _:=zS bK.o GN (by omega);have bI:Y _:=zS bi.o GN (by omega);have cm:=zu9 ad.o;have cn:=zu7 ad.o;have co:=zuJ ad.o;have cp:=ztQ ad.o;have cq:=ztV ad.o;have cr:=zu2 ad.o;have ct:=zu6 ad.o;have cu:=zI ad.o;have bN:=zI JN.o.rd;have aY:Y (∀j u,([.string (R.str nw)]:List Value)[j]?=some u->(wN.alloc (.cells #[.string (R.str nw)] 9)).cell? ((⟨wN.heap.size,0,none⟩:Addr).add j)=some u):=zu wN #[_] _ _ rfl;have aU:Y (w.heap.size<=(wN.alloc (.cells #[.string (R.str nw)] 9)).heap.size):=by { show _<=_;rw[show(wN.alloc (.cells #[.string (R.str nw)] 9)).heap.size=wN.heap.size+1 from by simp];omega };have a1:Y ((wN.alloc (.cells #[.string (R.str nw)] 9)).heap.size=wN.heap.size+1):=by { show _=_;simp };clear IN aH GN))
        all_goals
         have gS:=zG w9 w3.heap.size 6 (.slice (some ⟨g9,0,none⟩) (ae.length+1) ap)
         have JS:Y _:=J9.o.other gS (by omega)
         have CS:=J (zm C9.o gS (by omega))
         have a4:=J (zF a3.o gS (by simp;omega))
         have a6:Y ((w9.setCell ⟨w3.heap.size,6,none⟩ (.slice (some ⟨g9,0,none⟩) (ae.length+1) ap)).heap[w3.heap.size]?=some (.cells #[.int .i64 ak,.string (R.str ag),.slice an ab.length ao,.slice ta tl.length tc,.string (R.str aj),.slice aq aa.length ar,.slice (some ⟨g9,0,none⟩) (ae.length+1) ap] 213)):=zR am.o _
         have aZ:Y _:=zY aD.o gS (zW am.o aD.o (by decide))
         have be:Y _:=zY aO.o gS (zW am.o aO.o (by decide))
         have bj:Y _:=zY aQ.o gS (zW am.o aQ.o (by decide))
         have cH:Y _:=zY bG.o gS (zW am.o bG.o (by decide))
         have aX:Y (atOf (w9.setCell ⟨w3.heap.size,6,none⟩ (.slice (some ⟨g9,0,none⟩) (ae.length+1) ap)) rb=p2.tok.at_):=jf JS.o
         have aW:Y (atOf wr rb=pd.tok.at_):=jf IR.o
         have b0:=JS.o.bd
         clear gS
         go_wp2
         go_roundw
         case rel=>exact⟨n,ae++[nw],p2,_,by rw[zh];simp;omega,by omega,by omega,aC,JS,CS,a4,a6,aZ,be,bj,cH⟩
         case measure=>rw[aX.o,aW.o];omega
     ·rw[hgo] at af
      simp only[if_true] at af
      have a7:=zc1 s.data.toList ps aa.length (aa.map Prod.fst) hgo
      have aC:Y _:=af
      clear af HL
      have cl:=zI av.o
      have ce:=zu9 av.o
      have cf:=zu7 av.o
      have cg:=zuJ av.o
      have ch:=ztQ av.o
      have ci:=ztV av.o
      have cj:=zu2 av.o
      have ck:=zu6 av.o
      have HC:Y (∀w',aB.grownBy w' none->Calls Tryz.prog 274 #[.pointer (some ⟨rb,0,none⟩),.agg #[.int .i64 ak,.string (R.str ag),.slice an ab.length ao,.slice ta tl.length tc,.string (R.str aj),.slice aq aa.length ar,.slice none 0 0]] w' fun e w''=>e = .returned (.agg #[.string (R.str (xy s.data.toList ps aa.length (aa.map Prod.fst)).1.1),.string (R.str (xy s.data.toList ps aa.length (aa.map Prod.fst)).1.2)])/\PInv w'' rb s (xy s.data.toList ps aa.length (aa.map Prod.fst)).2/\w'.grownBy w'' (some rb)):=fun w' hg=>by
       have:=zmI (a2.o.keep hg) (.int .i64 ak) (.string (R.str ag)) (.slice an ab.length ao) (.slice ta tl.length tc) (.string (R.str aj)) (.slice aq aa.length ar) (.slice none 0 0) aa [] (qF (zV bh.o hg (fun _ _=>by simp)) (zo _)) (xd _ _ _ _) (by omega) (by simp)
       rw[zb3] at this;exact this
      generalize xy s.data.toList ps aa.length (aa.map Prod.fst)=qs at*
      obtain⟨nw,p2⟩:=qs
      simp only at aC a7 HC
      have aT:Y (∀u∈([.string (R.str nw.1),.string (R.str nw.2)]:List Value),u.oneCell'=true):=by
       intro u hu
       simp only[List.mem_cons,List.mem_nil_iff,or_false] at hu
       rcases hu with rfl | rfl <;> rfl
      have aV:Y (aa.length+1<=maxLen):=by show _<=_;unfold maxLen;omega
      go_wp2
      go_region_law (first | (refine step_append_lies _ rfl (.tmp 44) (.tmp 48) 211 rfl w.heap.size 280 is _ 2 32 Tryz.underlying211 si dn dp dq rfl (by decide) _ _ _ (by simp[Act.eval]) (qK al.o _) ⟨wN.heap.size,0,none⟩ 1 1 [.string (R.str nw.1),.string (R.str nw.2)] (by simp[Act.eval]) rfl aY.o aT.o (by decide) aV.o (by omega) aU.o (wN.heap.size+1) a1.o ?_;intro g9 ap w9 aI ai bZ b9;have aw:∀k,(Value.slice aq aa.length ar).ownBlock=some k->w.heap.size<=k:=fun k hk=>(zx al.o k hk).1;have J9:Y (PInv w9 rb s p2):=(JN.o.keep (zL _ _ _)).away ai (fun k hk=>by { have h1:=aw k hk;omega });have C9:Y (w.grownBy w9 (some rb)):=qV (zD CN.o (zL _ _ _)) ai aw;have a3:Y (w9.heap[w.heap.size]?=some (.cells #[.int .i64 0,.string ⟨#[]⟩,.slice none 0 0,.slice none 0 0,.string ⟨#[]⟩,.slice none 0 0,.slice none 0 0] 213)):=xJ (zF aF.o (zL _ _ none) (by simp)) ai (fun k hk=>zW aF.o al.o (by decide) k hk);have am:Y (w9.heap[w3.heap.size]?=some (.cells #[.int .i64 ak,.string (R.str ag),.slice an ab.length ao,.slice ta tl.length tc,.string (R.str aj),.slice aq aa.length ar,.slice none 0 0] 213)):=xJ (zF ad.o (zL _ _ none) (by simp)) ai (fun k hk=>zW ad.o al.o (by decide) k hk);have aD:Y (w9.ownsRow w.heap.size 280 2 (.slice (some ⟨g9,0,none⟩) (aa.length+1) ap) (aa++[nw]).length (qH (aa++[nw]))):=by { show World.ownsRow _ _ _ _ _ _ _;rw[jj,zh];exact aI };have aO:Y _:=zV (qK aP.o _) ai (xF al.o aP.o (by decide));have aQ:Y _:=zV (qK aR.o _) ai (xF al.o aR.o (by decide));have q9:=zu2 am.o;have cd:=zuG 5 am.o;clear aI ai aw) | (go_simp;go_at_call 274;refine(HC.o _ (zg aB)).mono ?_;rintro e wN ⟨rfl,IN,aH⟩;have GN:aB.grownBy wN (some rb):=zD (zb (zg aB) _) aH;have JN:Y (PInv wN rb s p2):=IN;have CN:=J (zD bc.o GN);have sN:aB.heap.size<=wN.heap.size:=GN.size;have aF:=J (zF bP.o GN (by simp;omega));have ad:=J (zF av.o GN (by simp;omega));have al:Y _:=zS bh.o GN (by omega);have aP:Y _:=zS bD.o GN (by omega);have aR:Y _:=zS bL.o GN (by omega);have cm:=zu9 ad.o;have cn:=zu7 ad.o;have co:=zuJ ad.o;have cp:=ztQ ad.o;have cq:=ztV ad.o;have cr:=zu2 ad.o;have ct:=zu6 ad.o;have cu:=zI ad.o;have bN:=zI JN.o.rd;have aY:Y (∀j u,([.string (R.str nw.1),.string (R.str nw.2)]:List Value)[j]?=some u->(wN.alloc (.cells #[.string (R.str nw.1),.string (R.str nw.2)] 280)).cell? ((⟨wN.heap.size,0,none⟩:Addr).add j)=some u):=zu wN #[_,_] _ _ rfl;have aU:Y (w.heap.size<=(wN.alloc (.cells #[.string (R.str nw.1),.string (R.str nw.2)] 280)).heap.size):=by { show _<=_;rw[show(wN.alloc (.cells #[.string (R.str nw.1),.string (R.str nw.2)] 280)).heap.size=wN.heap.size+1 from by simp];omega };have a1:Y ((wN.alloc (.cells #[.string (R.str nw.1),.string (R.str nw.2)] 280)).heap.size=wN.heap.size+1):=by { show _=_;simp };clear IN aH GN))
      all_goals
       have gS:=zG w9 w3.heap.size 5 (.slice (some ⟨g9,0,none⟩) (aa.length+1) ap)
       have JS:Y _:=J9.o.other gS (by omega)
       have CS:=J (zm C9.o gS (by omega))
       have a4:=J (zF a3.o gS (by simp;omega))
       have a6:Y ((w9.setCell ⟨w3.heap.size,5,none⟩ (.slice (some ⟨g9,0,none⟩) (aa.length+1) ap)).heap[w3.heap.size]?=some (.cells #[.int .i64 ak,.string (R.str ag),.slice an ab.length ao,.slice ta tl.length tc,.string (R.str aj),.slice (some ⟨g9,0,none⟩) (aa.length+1) ap,.slice none 0 0] 213)):=zR am.o _
       have aZ:Y _:=zY aD.o gS (zW am.o aD.o (by decide))
       have be:Y _:=zY aO.o gS (zW am.o aO.o (by decide))
       have bj:Y _:=zY aQ.o gS (zW am.o aQ.o (by decide))
       have aX:Y (atOf (w9.setCell ⟨w3.heap.size,5,none⟩ (.slice (some ⟨g9,0,none⟩) (aa.length+1) ap)) rb=p2.tok.at_):=jf JS.o
       have aW:Y (atOf wr rb=ps.tok.at_):=jf IR.o
       have b0:=JS.o.bd
       clear gS
       go_wp2
       go_roundw
       case rel=>exact⟨n,aa++[nw],p2,_,by rw[zh];simp;omega,by omega,by omega,aC,JS,CS,a4,a6,aZ,be,bj⟩
       case measure=>rw[aX.o,aW.o];omega
   ·rw[hch] at ba
    simp only[if_true] at ba
    go_wp2_with fail
    refine(zhL cK.o _).mono ?_
    rintro e aN ⟨rfl,c9,cS⟩
    have bV:Y _:=c9
    have ep:=zI bV.o.rd
    have eG:bw.heap.size+0<=aN.heap.size:=by have h:=cS.size;simpa using h
    have bA:Y (bw.grownBy aN (some rb)):=cS
    have c2:=J (zD cw.o bA.o)
    have eM:=c2.o.size
    have dJ:=J (zF dd.o bA.o (by simp;omega))
    have bt:=J (zF df.o bA.o (by simp;omega))
    have c4:Y _:=zS c3.o bA.o (by omega)
    have c8:Y _:=zS c7.o bA.o (by omega)
    clear cS c9
    rw[show(⟨#[114,101,112,108,97,99,101]⟩:ByteArray).data.toList=qW from rfl,<-ba.o] at bV
    rw[show(⟨#[114,101,112,108,97,99,101]⟩:ByteArray).data.toList=qW from rfl,<-ba.o]
    simp only at bV ⊢
    have eA:=zI bt.o
    have ey:=ztV bt.o
    have ez:=zuG 4 bt.o
    go_wp2_with fail
    have dc:Y _:=bV.o.other (zG aN w3.heap.size 4 (.string (R.str aj))) (by omega)
    have ds:=J (zm c2.o (zG aN w3.heap.size 4 (.string (R.str aj))) (by omega))
    have dK:=J (zF dJ.o (zG aN w3.heap.size 4 (.string (R.str aj))) (by simp;omega))
    have dP:Y ((World.setCell aN ⟨w3.heap.size,4,none⟩ (.string (R.str aj))).heap[w3.heap.size]?=some (.cells #[.int .i64 ak,.string (R.str ag),.slice an ab.length ao,.slice ta tl.length tc,.string (R.str aj),.slice none 0 0,.slice none 0 0] 213)):=zR bt.o (.string (R.str aj))
    have dx:Y _:=zY c4.o (zG aN w3.heap.size 4 (.string (R.str aj))) (zW bt.o c4.o (by decide))
    have dB:Y _:=zY c8.o (zG aN w3.heap.size 4 (.string (R.str aj))) (zW bt.o c8.o (by decide))
    have eH:aN.heap.size<=(World.setCell aN ⟨w3.heap.size,4,none⟩ (.string (R.str aj))).heap.size:=by simp[World.setCell]
    have eK:(World.setCell aN ⟨w3.heap.size,4,none⟩ (.string (R.str aj))).heap.size<=aN.heap.size:=by simp[World.setCell]
    generalize(World.setCell aN ⟨w3.heap.size,4,none⟩ (.string (R.str aj)))=wEmy2 at*
    have er:rb<wEmy2.heap.size:=by omega
    generalize bR:qy s.data.toList (s.data.toList.length+1) sC []=Qs at*
    have cF:Y _:=bR
    clear bR
    have dS:=dc.o.bd
    go_loopw [] (fun wr=>∃(n:Nat) (acc:List (List UInt8×List UInt8)) (p:P.St) (vL:Value),acc.length<=p.tok.at_/\p.tok.at_<=s.size/\s.size<n+p.tok.at_/\Y (qy s.data.toList n p acc=Qs)/\Y (PInv wr rb s p)/\Y (w.grownBy wr (some rb))/\Y (wr.heap[w.heap.size]?=some (.cells #[.int .i64 0,.string ⟨#[]⟩,.slice none 0 0,.slice none 0 0,.string ⟨#[]⟩,.slice none 0 0,.slice none 0 0] 213))/\Y (wr.heap[w3.heap.size]?=some (.cells #[.int .i64 ak,.string (R.str ag),.slice an ab.length ao,.slice ta tl.length tc,.string (R.str aj),vL,.slice none 0 0] 213))/\Y (wr.ownsRow w.heap.size 280 2 vL acc.length (qH acc))/\Y (wr.ownsRow w.heap.size 276 3 (.slice an ab.length ao) ab.length (xO ab))/\Y (wr.ownsRow w.heap.size 285 2 (.slice ta tl.length tc) tl.length (qB tl))) (fun wr=>s.size+1 - atOf wr rb)
    case atStart=>exact⟨s.data.toList.length+1,[],sC,_,zo _,by omega,by rw[R.size_eq];omega,cF.o,dc,ds,dK.o,dP.o,xd _ _ _ _,dx.o,dB.o⟩
    case round=>
     obtain⟨n,aa,ps,vL,bY,cb,ca,HL,IR,CR,a5,aG,aE,bf,bk⟩:=hrel
     have bX:=zI IR.o.rd
     have cv:=CR.o.size
     have cc:=zI aG.o
     obtain⟨n,rfl⟩:∃m,n=m+1:=⟨n - 1,by omega⟩
     have af:=HL.o
     rw[qy] at af
     obtain⟨aq,ar,rfl⟩:=zO aE.o
     go_wp2_with fail
     refine(vE IR.o _).mono ?_
     rintro e aB ⟨rfl,bo⟩
     have br:=zb bo (some rb)
     have a2:Y _:=(IR.o).keep bo
     have dV:=zI a2.o.rd
     have ei:wr.heap.size+0<=aB.heap.size:=by have h:=br.size;simpa using h
     have aJ:Y (wr.grownBy aB (some rb)):=br
     have bc:=J (zD CR.o aJ.o)
     have el:=bc.o.size
     have bP:=J (zF a5.o aJ.o (by simp;omega))
     have av:=J (zF aG.o aJ.o (by simp;omega))
     have bh:Y _:=zS aE.o aJ.o (by omega)
     have bD:Y _:=zS bf.o aJ.o (by omega)
     have bL:Y _:=zS bk.o aJ.o (by omega)
     clear br bo
     rw[show(⟨#[115,101,116]⟩:ByteArray).data.toList=xf from rfl]
     cases hgo:qX ps xf
     ·rw[hgo] at af
      simp only[zb2,if_false] at af
      have cz:Y (Qs=(aa,ps)):=af.symm
      clear af HL
      have a0:Y (res=(⟨ak,ag,ab,tl,aj,aa,(qp s.data.toList (aa.map Prod.fst) (s.data.toList.length+1) ps []).1⟩,zX s.data.toList (qp s.data.toList (aa.map Prod.fst) (s.data.toList.length+1) ps []).2 [125])):=by
       show _=_
       rw[bF.o,cz.o];rfl
      clear bF
      generalize bQ:qp s.data.toList (aa.map Prod.fst) (s.data.toList.length+1) ps []=Qd at*
      have cE:Y _:=bQ
      clear bQ
      have bS:aa.length<=2000000000000:=by omega
      have cA:Y _:=bS
      clear bS
      have cG:Y _:=bh
      go_wp2_with fail
      have dR:=a2.o.bd
      go_loopw [] (fun wr=>∃(n:Nat) (acc:List (List UInt8)) (p:P.St) (vL:Value),acc.length<=p.tok.at_/\p.tok.at_<=s.size/\s.size<n+p.tok.at_/\Y (qp s.data.toList (aa.map Prod.fst) n p acc=Qd)/\Y (PInv wr rb s p)/\Y (w.grownBy wr (some rb))/\Y (wr.heap[w.heap.size]?=some (.cells #[.int .i64 0,.string ⟨#[]⟩,.slice none 0 0,.slice none 0 0,.string ⟨#[]⟩,.slice none 0 0,.slice none 0 0] 213))/\Y (wr.heap[w3.heap.size]?=some (.cells #[.int .i64 ak,.string (R.str ag),.slice an ab.length ao,.slice ta tl.length tc,.string (R.str aj),.slice aq aa.length ar,vL] 213))/\Y (wr.ownsRow w.heap.size 9 1 vL acc.length (zf acc))/\Y (wr.ownsRow w.heap.size 276 3 (.slice an ab.length ao) ab.length (xO ab))/\Y (wr.ownsRow w.heap.size 285 2 (.slice ta tl.length tc) tl.length (qB tl))/\Y (wr.ownsRow w.heap.size 280 2 (.slice aq aa.length ar) aa.length (qH aa))) (fun wr=>s.size+1 - atOf wr rb)
      case atStart=>exact⟨s.data.toList.length+1,[],ps,_,zo _,by omega,by rw[R.size_eq];omega,cE.o,a2,bc,bP.o,av.o,xd _ _ _ _,bD.o,bL.o,cG.o⟩
      case round=>
       obtain⟨n,ae,pd,vL,bY,cb,ca,HL,IR,CR,a5,aG,aE,bf,bk,cI⟩:=hrel
       have bX:=zI IR.o.rd
       have cv:=CR.o.size
       have cc:=zI aG.o
       obtain⟨n,rfl⟩:∃m,n=m+1:=⟨n - 1,by omega⟩
       have af:=HL.o
       rw[qp] at af
       obtain⟨aL,aM,rfl⟩:=zO aE.o
       go_wp2_with fail
       refine(vE IR.o _).mono ?_
       rintro e ax ⟨rfl,bn⟩
       have bq:=zb bn (some rb)
       have bm:Y _:=(IR.o).keep bn
       have dU:=zI bm.o.rd
       have eh:wr.heap.size+0<=ax.heap.size:=by have h:=bq.size;simpa using h
       have aA:Y (wr.grownBy ax (some rb)):=bq
       have bb:=J (zD CR.o aA.o)
       have ek:=bb.o.size
       have bO:=J (zF a5.o aA.o (by simp;omega))
       have au:=J (zF aG.o aA.o (by simp;omega))
       have bg:Y _:=zS aE.o aA.o (by omega)
       have bC:Y _:=zS bf.o aA.o (by omega)
       have bK:Y _:=zS bk.o aA.o (by omega)
       have bi:Y _:=zS cI.o aA.o (by omega)
       clear bq bn
       rw[show(⟨#[100,114,111,112]⟩:ByteArray).data.toList=x7 from rfl]
       cases hgo:qX pd x7
       ·rw[hgo] at af
        simp only[zb2,if_false] at af
        have cy:Y (Qd=(ae,pd)):=af.symm
        clear af HL
        rw[cy.o] at a0
        simp only at a0
        go_wp2_with fail
        refine(yF bm.o _).mono ?_
        rintro e bs ⟨rfl,bM,bp⟩
        have bl:Y _:=bM
        have dT:=zI bl.o.rd
        have eg:ax.heap.size+0<=bs.heap.size:=by have h:=bp.size;simpa using h
        have az:Y (ax.grownBy bs (some rb)):=bp
        have bx:=J (zD bb.o az.o)
        have ej:=bx.o.size
        have ah:=J (zF bO.o az.o (by simp;omega))
        have ay:=J (zF au.o az.o (by simp;omega))
        have bE:Y _:=zS bg.o az.o (by omega)
        have bB:Y _:=zS bC.o az.o (by omega)
        have bJ:Y _:=zS bK.o az.o (by omega)
        have bH:Y _:=zS bi.o az.o (by omega)
        clear bp bM
        rw[show(⟨#[125]⟩:ByteArray).data.toList=[125] from rfl] at bl
        have d7:=zI ay.o
        have d0:=zu9 ay.o
        have d1:=zu7 ay.o
        have d2:=zuJ ay.o
        have d3:=ztQ ay.o
        have d4:=ztV ay.o
        have d5:=zu2 ay.o
        have d6:=zu6 ay.o
        have ef:=zI ah.o
        have cV:=zu9 ah.o
        have d8:=zuG 0 ah.o
        have cW:=zu7 ah.o
        have d9:=zuG 1 ah.o
        have cX:=zuJ ah.o
        have ea:=zuG 2 ah.o
        have cY:=ztQ ah.o
        have eb:=zuG 3 ah.o
        have cZ:=ztV ah.o
        have ec:=zuG 4 ah.o
        have c0:=zu2 ah.o
        have ed:=zuG 5 ah.o
        have c1:=zu6 ah.o
        have ee:=zuG 6 ah.o
        go_wp2
        have aK:=zD (zD (zD (zD (zD (zD (zG bs w.heap.size 0 (.int .i64 ak)) (zG _ w.heap.size 1 (.string (R.str ag)))) (zG _ w.heap.size 2 (.slice an ab.length ao))) (zG _ w.heap.size 3 (.slice ta tl.length tc))) (zG _ w.heap.size 4 (.string (R.str aj)))) (zG _ w.heap.size 5 (.slice aq aa.length ar))) (zG _ w.heap.size 6 (.slice aL ae.length aM))
        refine bodyPost_ret (v:=.agg #[.int .i64 ak,.string (R.str ag),.slice an ab.length ao,.slice ta tl.length tc,.string (R.str aj),.slice aq aa.length ar,.slice aL ae.length aM]) (by simp[results,Tryz.results208,go_sem,cV,cW,cX,cY,cZ,c0,c1]) rfl ⟨[.int .i64 ak,.string (R.str ag),.slice an ab.length ao,.slice ta tl.length tc,.string (R.str aj),.slice aq aa.length ar,.slice aL ae.length aM],rfl,?_,zm bx.o aK (zw _),?_⟩
        ·rw[a0.o];exact bl.o.other aK (by omega)
        ·rw[a0.o]
         refine⟨_,_,_,_,rfl,?_,?_,?_,?_⟩
         ·exact zY (qF bB.o (zo _)) aK (fun k hk=>zW ah.o bB.o (by decide) k hk)
         ·exact zY (qF bJ.o (zo _)) aK (fun k hk=>zW ah.o bJ.o (by decide) k hk)
         ·exact zY (qF bH.o (zo _)) aK (fun k hk=>zW ah.o bH.o (by decide) k hk)
         ·exact zY (qF bE.o (zo _)) aK (fun k hk=>zW ah.o bE.o (by decide) k hk)
       ·rw[hgo] at af
        simp only[if_true] at af
        have a7:=za4 s.data.toList pd ae.length (aa.map Prod.fst++ae) hgo
        have aC:Y _:=af
        clear af HL
        have cl:=zI au.o
        have ce:=zu9 au.o
        have cf:=zu7 au.o
        have cg:=zuJ au.o
        have ch:=ztQ au.o
        have ci:=ztV au.o
        have cj:=zu2 au.o
        have ck:=zu6 au.o
        have HC:Y (∀w',ax.grownBy w' none->Calls Tryz.prog 275 #[.pointer (some ⟨rb,0,none⟩),.agg #[.int .i64 ak,.string (R.str ag),.slice an ab.length ao,.slice ta tl.length tc,.string (R.str aj),.slice aq aa.length ar,.slice aL ae.length aM]] w' fun e w''=>e = .returned (.string (R.str (xm s.data.toList pd ae.length (aa.map Prod.fst++ae)).1))/\PInv w'' rb s (xm s.data.toList pd ae.length (aa.map Prod.fst++ae)).2/\w'.grownBy w'' (some rb)):=fun w' hg=>zhK (bm.o.keep hg) _ _ _ _ _ _ _ aa ae (qF (zV bi.o hg (fun _ _=>by simp)) (zo _)) (qF (zV bg.o hg (fun _ _=>by simp)) (zo _)) cA.o (by omega)
        generalize xm s.data.toList pd ae.length (aa.map Prod.fst++ae)=qs at*
        obtain⟨nw,p2⟩:=qs
        simp only at aC a7 HC
        have aT:Y (∀u∈([.string (R.str nw)]:List Value),u.oneCell'=true):=by
         intro u hu
         simp only[List.mem_cons,List.mem_nil_iff,or_false] at hu
         subst hu;rfl
        have aV:Y (ae.length+1<=maxLen):=by show _<=_;unfold maxLen;omega
        go_wp2
        go_region_law (first | (refine step_append_lies _ rfl (.tmp 54) (.tmp 58) 22 rfl w.heap.size 9 id _ 1 16 Tryz.underlying22 di dg dh dj rfl (by decide) _ _ _ (by simp[Act.eval]) (qK al.o _) ⟨wN.heap.size,0,none⟩ 1 1 [.string (R.str nw)] (by simp[Act.eval]) rfl aY.o aT.o (by decide) aV.o (by omega) aU.o (wN.heap.size+1) a1.o ?_;intro g9 ap w9 aI ai bZ b9;have aw:∀k,(Value.slice aL ae.length aM).ownBlock=some k->w.heap.size<=k:=fun k hk=>(zx al.o k hk).1;have J9:Y (PInv w9 rb s p2):=(JN.o.keep (zL _ _ _)).away ai (fun k hk=>by { have h1:=aw k hk;omega });have C9:Y (w.grownBy w9 (some rb)):=qV (zD CN.o (zL _ _ _)) ai aw;have a3:Y (w9.heap[w.heap.size]?=some (.cells #[.int .i64 0,.string ⟨#[]⟩,.slice none 0 0,.slice none 0 0,.string ⟨#[]⟩,.slice none 0 0,.slice none 0 0] 213)):=xJ (zF aF.o (zL _ _ none) (by simp)) ai (fun k hk=>zW aF.o al.o (by decide) k hk);have am:Y (w9.heap[w3.heap.size]?=some (.cells #[.int .i64 ak,.string (R.str ag),.slice an ab.length ao,.slice ta tl.length tc,.string (R.str aj),.slice aq aa.length ar,.slice aL ae.length aM] 213)):=xJ (zF ad.o (zL _ _ none) (by simp)) ai (fun k hk=>zW ad.o al.o (by decide) k hk);have aD:Y (w9.ownsRow w.heap.size 9 1 (.slice (some ⟨g9,0,none⟩) (ae.length+1) ap) (ae++[nw]).length (zf (ae++[nw]))):=by { show World.ownsRow _ _ _ _ _ _ _;rw[yB,zh];exact aI };have aO:Y _:=zV (qK aP.o _) ai (xF al.o aP.o (by decide));have aQ:Y _:=zV (qK aR.o _) ai (xF al.o aR.o (by decide));have bG:Y _:=zV (qK bI.o _) ai (xF al.o bI.o (by decide));have q9:=zu6 am.o;have cd:=zuG 6 am.o;clear aI ai aw) | (go_simp;go_at_call 275;refine(HC.o _ (zg ax)).mono ?_;rintro e wN ⟨rfl,IN,aH⟩;have GN:ax.grownBy wN (some rb):=zD (zb (zg ax) _) aH;have JN:Y (PInv wN rb s p2):=IN;have CN:=J (zD bb.o GN);have sN:ax.heap.size<=wN.heap.size:=GN.size;have aF:=J (zF bO.o GN (by simp;omega));have ad:=J (zF au.o GN (by simp;omega));have al:Y _:=zS bg.o GN (by omega);have aP:Y _:=zS bC.o GN (by omega);have aR:Y _:=zS bK.o GN (by omega);have bI:Y _:=zS bi.o GN (by omega);have cm:=zu9 ad.o;have cn:=zu7 ad.o;have co:=zuJ ad.o;have cp:=ztQ ad.o;have cq:=ztV ad.o;have cr:=zu2 ad.o;have ct:=zu6 ad.o;have cu:=zI ad.o;have bN:=zI JN.o.rd;have aY:Y (∀j u,([.string (R.str nw)]:List Value)[j]?=some u->(wN.alloc (.cells #[.string (R.str nw)] 9)).cell? ((⟨wN.heap.size,0,none⟩:Addr).add j)=some u):=zu wN #[_] _ _ rfl;have aU:Y (w.heap.size<=(wN.alloc (.cells #[.string (R.str nw)] 9)).heap.size):=by { show _<=_;rw[show(wN.alloc (.cells #[.string (R.str nw)] 9)).heap.size=wN.heap.size+1 from by simp];omega };have a1:Y ((wN.alloc (.cells #[.string (R.str nw)] 9)).heap.size=wN.heap.size+1):=by { show _=_;simp };clear IN aH GN))
        all_goals
         have gS:=zG w9 w3.heap.size 6 (.slice (some ⟨g9,0,none⟩) (ae.length+1) ap)
         have JS:Y _:=J9.o.other gS (by omega)
         have CS:=J (zm C9.o gS (by omega))
         have a4:=J (zF a3.o gS (by simp;omega))
         have a6:Y ((w9.setCell ⟨w3.heap.size,6,none⟩ (.slice (some ⟨g9,0,none⟩) (ae.length+1) ap)).heap[w3.heap.size]?=some (.cells #[.int .i64 ak,.string (R.str ag),.slice an ab.length ao,.slice ta tl.length tc,.string (R.str aj),.slice aq aa.length ar,.slice (some ⟨g9,0,none⟩) (ae.length+1) ap] 213)):=zR am.o _
         have aZ:Y _:=zY aD.o gS (zW am.o aD.o (by decide))
         have be:Y _:=zY aO.o gS (zW am.o aO.o (by decide))
         have bj:Y _:=zY aQ.o gS (zW am.o aQ.o (by decide))
         have cH:Y _:=zY bG.o gS (zW am.o bG.o (by decide))
         have aX:Y (atOf (w9.setCell ⟨w3.heap.size,6,none⟩ (.slice (some ⟨g9,0,none⟩) (ae.length+1) ap)) rb=p2.tok.at_):=jf JS.o
         have aW:Y (atOf wr rb=pd.tok.at_):=jf IR.o
         have b0:=JS.o.bd
         clear gS
         go_wp2
         go_roundw
         case rel=>exact⟨n,ae++[nw],p2,_,by rw[zh];simp;omega,by omega,by omega,aC,JS,CS,a4,a6,aZ,be,bj,cH⟩
         case measure=>rw[aX.o,aW.o];omega
     ·rw[hgo] at af
      simp only[if_true] at af
      have a7:=zc1 s.data.toList ps aa.length (aa.map Prod.fst) hgo
      have aC:Y _:=af
      clear af HL
      have cl:=zI av.o
      have ce:=zu9 av.o
      have cf:=zu7 av.o
      have cg:=zuJ av.o
      have ch:=ztQ av.o
      have ci:=ztV av.o
      have cj:=zu2 av.o
      have ck:=zu6 av.o
      have HC:Y (∀w',aB.grownBy w' none->Calls Tryz.prog 274 #[.pointer (some ⟨rb,0,none⟩),.agg #[.int .i64 ak,.string (R.str ag),.slice an ab.length ao,.slice ta tl.length tc,.string (R.str aj),.slice aq aa.length ar,.slice none 0 0]] w' fun e w''=>e = .returned (.agg #[.string (R.str (xy s.data.toList ps aa.length (aa.map Prod.fst)).1.1),.string (R.str (xy s.data.toList ps aa.length (aa.map Prod.fst)).1.2)])/\PInv w'' rb s (xy s.data.toList ps aa.length (aa.map Prod.fst)).2/\w'.grownBy w'' (some rb)):=fun w' hg=>by
       have:=zmI (a2.o.keep hg) (.int .i64 ak) (.string (R.str ag)) (.slice an ab.length ao) (.slice ta tl.length tc) (.string (R.str aj)) (.slice aq aa.length ar) (.slice none 0 0) aa [] (qF (zV bh.o hg (fun _ _=>by simp)) (zo _)) (xd _ _ _ _) (by omega) (by simp)
       rw[zb3] at this;exact this
      generalize xy s.data.toList ps aa.length (aa.map Prod.fst)=qs at*
      obtain⟨nw,p2⟩:=qs
      simp only at aC a7 HC
      have aT:Y (∀u∈([.string (R.str nw.1),.string (R.str nw.2)]:List Value),u.oneCell'=true):=by
       intro u hu
       simp only[List.mem_cons,List.mem_nil_iff,or_false] at hu
       rcases hu with rfl | rfl <;> rfl
      have aV:Y (aa.length+1<=maxLen):=by show _<=_;unfold maxLen;omega
      go_wp2
      go_region_law (first | (refine step_append_lies _ rfl (.tmp 44) (.tmp 48) 211 rfl w.heap.size 280 is _ 2 32 Tryz.underlying211 si dn dp dq rfl (by decide) _ _ _ (by simp[Act.eval]) (qK al.o _) ⟨wN.heap.size,0,none⟩ 1 1 [.string (R.str nw.1),.string (R.str nw.2)] (by simp[Act.eval]) rfl aY.o aT.o (by decide) aV.o (by omega) aU.o (wN.heap.size+1) a1.o ?_;intro g9 ap w9 aI ai bZ b9;have aw:∀k,(Value.slice aq aa.length ar).ownBlock=some k->w.heap.size<=k:=fun k hk=>(zx al.o k hk).1;have J9:Y (PInv w9 rb s p2):=(JN.o.keep (zL _ _ _)).away ai (fun k hk=>by { have h1:=aw k hk;omega });have C9:Y (w.grownBy w9 (some rb)):=qV (zD CN.o (zL _ _ _)) ai aw;have a3:Y (w9.heap[w.heap.size]?=some (.cells #[.int .i64 0,.string ⟨#[]⟩,.slice none 0 0,.slice none 0 0,.string ⟨#[]⟩,.slice none 0 0,.slice none 0 0] 213)):=xJ (zF aF.o (zL _ _ none) (by simp)) ai (fun k hk=>zW aF.o al.o (by decide) k hk);have am:Y (w9.heap[w3.heap.size]?=some (.cells #[.int .i64 ak,.string (R.str ag),.slice an ab.length ao,.slice ta tl.length tc,.string (R.str aj),.slice aq aa.length ar,.slice none 0 0] 213)):=xJ (zF ad.o (zL _ _ none) (by simp)) ai (fun k hk=>zW ad.o al.o (by decide) k hk);have aD:Y (w9.ownsRow w.heap.size 280 2 (.slice (some ⟨g9,0,none⟩) (aa.length+1) ap) (aa++[nw]).length (qH (aa++[nw]))):=by { show World.ownsRow _ _ _ _ _ _ _;rw[jj,zh];exact aI };have aO:Y _:=zV (qK aP.o _) ai (xF al.o aP.o (by decide));have aQ:Y _:=zV (qK aR.o _) ai (xF al.o aR.o (by decide));have q9:=zu2 am.o;have cd:=zuG 5 am.o;clear aI ai aw) | (go_simp;go_at_call 274;refine(HC.o _ (zg aB)).mono ?_;rintro e wN ⟨rfl,IN,aH⟩;have GN:aB.grownBy wN (some rb):=zD (zb (zg aB) _) aH;have JN:Y (PInv wN rb s p2):=IN;have CN:=J (zD bc.o GN);have sN:aB.heap.size<=wN.heap.size:=GN.size;have aF:=J (zF bP.o GN (by simp;omega));have ad:=J (zF av.o GN (by simp;omega));have al:Y _:=zS bh.o GN (by omega);have aP:Y _:=zS bD.o GN (by omega);have aR:Y _:=zS bL.o GN (by omega);have cm:=zu9 ad.o;have cn:=zu7 ad.o;have co:=zuJ ad.o;have cp:=ztQ ad.o;have cq:=ztV ad.o;have cr:=zu2 ad.o;have ct:=zu6 ad.o;have cu:=zI ad.o;have bN:=zI JN.o.rd;have aY:Y (∀j u,([.string (R.str nw.1),.string (R.str nw.2)]:List Value)[j]?=some u->(wN.alloc (.cells #[.string (R.str nw.1),.string (R.str nw.2)] 280)).cell? ((⟨wN.heap.size,0,none⟩:Addr).add j)=some u):=zu wN #[_,_] _ _ rfl;have aU:Y (w.heap.size<=(wN.alloc (.cells #[.string (R.str nw.1),.string (R.str nw.2)] 280)).heap.size):=by { show _<=_;rw[show(wN.alloc (.cells #[.string (R.str nw.1),.string (R.str nw.2)] 280)).heap.size=wN.heap.size+1 from by simp];omega };have a1:Y ((wN.alloc (.cells #[.string (R.str nw.1),.string (R.str nw.2)] 280)).heap.size=wN.heap.size+1):=by { show _=_;simp };clear IN aH GN))
      all_goals
       have gS:=zG w9 w3.heap.size 5 (.slice (some ⟨g9,0,none⟩) (aa.length+1) ap)
       have JS:Y _:=J9.o.other gS (by omega)
       have CS:=J (zm C9.o gS (by omega))
       have a4:=J (zF a3.o gS (by simp;omega))
       have a6:Y ((w9.setCell ⟨w3.heap.size,5,none⟩ (.slice (some ⟨g9,0,none⟩) (aa.length+1) ap)).heap[w3.heap.size]?=some (.cells #[.int .i64 ak,.string (R.str ag),.slice an ab.length ao,.slice ta tl.length tc,.string (R.str aj),.slice (some ⟨g9,0,none⟩) (aa.length+1) ap,.slice none 0 0] 213)):=zR am.o _
       have aZ:Y _:=zY aD.o gS (zW am.o aD.o (by decide))
       have be:Y _:=zY aO.o gS (zW am.o aO.o (by decide))
       have bj:Y _:=zY aQ.o gS (zW am.o aQ.o (by decide))
       have aX:Y (atOf (w9.setCell ⟨w3.heap.size,5,none⟩ (.slice (some ⟨g9,0,none⟩) (aa.length+1) ap)) rb=p2.tok.at_):=jf JS.o
       have aW:Y (atOf wr rb=ps.tok.at_):=jf IR.o
       have b0:=JS.o.bd
       clear gS
       go_wp2
       go_roundw
       case rel=>exact⟨n,aa++[nw],p2,_,by rw[zh];simp;omega,by omega,by omega,aC,JS,CS,a4,a6,aZ,be,bj⟩
       case measure=>rw[aX.o,aW.o];omega
  ·rw[hgo] at af
   simp only[if_true] at af
   have a7:=zcL s.data.toList pm ab.length hgo
   have aC:Y _:=af
   clear af HL
   have cl:=zI aS.o
   have ce:=zu9 aS.o
   have cf:=zu7 aS.o
   have cg:=zuJ aS.o
   have ch:=ztQ aS.o
   have ci:=ztV aS.o
   have cj:=zu2 aS.o
   have ck:=zu6 aS.o
   have HC:Y (∀w',a9.grownBy w' none->Calls Tryz.prog 272 #[.pointer (some ⟨rb,0,none⟩),.int .i64 ab.length] w' fun e w''=>e = .returned (.agg #[.string (R.str (x8 s.data.toList pm ab.length).1.name),.bool (x8 s.data.toList pm ab.length).1.ask,.string (R.str (x8 s.data.toList pm ab.length).1.val)])/\PInv w'' rb s (x8 s.data.toList pm ab.length).2/\w'.grownBy w'' (some rb)):=fun w' hg=>zn9 (cL.o.keep hg) ab.length
   generalize x8 s.data.toList pm ab.length=qs at*
   obtain⟨nw,p2⟩:=qs
   simp only at aC a7 HC
   have aT:Y (∀u∈([.string (R.str nw.name),.bool nw.ask,.string (R.str nw.val)]:List Value),u.oneCell'=true):=by
    intro u hu
    simp only[List.mem_cons,List.mem_nil_iff,or_false] at hu
    rcases hu with rfl | rfl | rfl <;> rfl
   have aV:Y (ab.length+1<=maxLen):=by show _<=_;unfold maxLen;omega
   go_wp2
   go_region_law (first | (refine step_append_lies _ rfl (.tmp 24) (.tmp 30) 209 rfl w.heap.size 276 im _ 3 40 Tryz.underlying209 mi dX dY dZ rfl (by decide) _ _ _ (by simp[Act.eval]) (qK al.o _) ⟨wN.heap.size,0,none⟩ 1 1 [.string (R.str nw.name),.bool nw.ask,.string (R.str nw.val)] (by simp[Act.eval]) rfl aY.o aT.o (by decide) aV.o (by omega) aU.o (wN.heap.size+1) a1.o ?_;intro g9 ap w9 aI ai bZ b9;have aw:∀k,(Value.slice an ab.length ao).ownBlock=some k->w.heap.size<=k:=fun k hk=>(zx al.o k hk).1;have J9:Y (PInv w9 rb s p2):=(JN.o.keep (zL _ _ _)).away ai (fun k hk=>by { have h1:=aw k hk;omega });have C9:Y (w.grownBy w9 (some rb)):=qV (zD CN.o (zL _ _ _)) ai aw;have a3:Y (w9.heap[w.heap.size]?=some (.cells #[.int .i64 0,.string ⟨#[]⟩,.slice none 0 0,.slice none 0 0,.string ⟨#[]⟩,.slice none 0 0,.slice none 0 0] 213)):=xJ (zF aF.o (zL _ _ none) (by simp)) ai (fun k hk=>zW aF.o al.o (by decide) k hk);have am:Y (w9.heap[w3.heap.size]?=some (.cells #[.int .i64 ak,.string (R.str ag),.slice an ab.length ao,.slice none 0 0,.string ⟨#[]⟩,.slice none 0 0,.slice none 0 0] 213)):=xJ (zF ad.o (zL _ _ none) (by simp)) ai (fun k hk=>zW ad.o al.o (by decide) k hk);have aD:Y (w9.ownsRow w.heap.size 276 3 (.slice (some ⟨g9,0,none⟩) (ab.length+1) ap) (ab++[nw]).length (xO (ab++[nw]))):=by { show World.ownsRow _ _ _ _ _ _ _;rw[fD,zh];exact aI };have q9:=zuJ am.o;have cd:=zuG 2 am.o;clear aI ai aw) | (go_simp;go_at_call 272;refine(HC.o _ (zg a9)).mono ?_;rintro e wN ⟨rfl,IN,aH⟩;have GN:a9.grownBy wN (some rb):=zD (zb (zg a9) _) aH;have JN:Y (PInv wN rb s p2):=IN;have CN:=J (zD cx.o GN);have sN:a9.heap.size<=wN.heap.size:=GN.size;have aF:=J (zF de.o GN (by simp;omega));have ad:=J (zF aS.o GN (by simp;omega));have al:Y _:=zS c6.o GN (by omega);have cm:=zu9 ad.o;have cn:=zu7 ad.o;have co:=zuJ ad.o;have cp:=ztQ ad.o;have cq:=ztV ad.o;have cr:=zu2 ad.o;have ct:=zu6 ad.o;have cu:=zI ad.o;have bN:=zI JN.o.rd;have aY:Y (∀j u,([.string (R.str nw.name),.bool nw.ask,.string (R.str nw.val)]:List Value)[j]?=some u->(wN.alloc (.cells #[.string (R.str nw.name),.bool nw.ask,.string (R.str nw.val)] 276)).cell? ((⟨wN.heap.size,0,none⟩:Addr).add j)=some u):=zu wN #[_,_,_] _ _ rfl;have aU:Y (w.heap.size<=(wN.alloc (.cells #[.string (R.str nw.name),.bool nw.ask,.string (R.str nw.val)] 276)).heap.size):=by { show _<=_;rw[show(wN.alloc (.cells #[.string (R.str nw.name),.bool nw.ask,.string (R.str nw.val)] 276)).heap.size=wN.heap.size+1 from by simp];omega };have a1:Y ((wN.alloc (.cells #[.string (R.str nw.name),.bool nw.ask,.string (R.str nw.val)] 276)).heap.size=wN.heap.size+1):=by { show _=_;simp };clear IN aH GN))
   all_goals
    have gS:=zG w9 w3.heap.size 2 (.slice (some ⟨g9,0,none⟩) (ab.length+1) ap)
    have JS:Y _:=J9.o.other gS (by omega)
    have CS:=J (zm C9.o gS (by omega))
    have a4:=J (zF a3.o gS (by simp;omega))
    have a6:Y ((w9.setCell ⟨w3.heap.size,2,none⟩ (.slice (some ⟨g9,0,none⟩) (ab.length+1) ap)).heap[w3.heap.size]?=some (.cells #[.int .i64 ak,.string (R.str ag),.slice (some ⟨g9,0,none⟩) (ab.length+1) ap,.slice none 0 0,.string ⟨#[]⟩,.slice none 0 0,.slice none 0 0] 213)):=zR am.o _
    have aZ:Y _:=zY aD.o gS (zW am.o aD.o (by decide))
    have aX:Y (atOf (w9.setCell ⟨w3.heap.size,2,none⟩ (.slice (some ⟨g9,0,none⟩) (ab.length+1) ap)) rb=p2.tok.at_):=jf JS.o
    have aW:Y (atOf wr rb=pm.tok.at_):=jf IR.o
    have b0:=JS.o.bd
    clear gS
    go_wp2
    go_roundw
    case rel=>exact⟨n,ab++[nw],p2,_,by rw[zh];simp;omega,by omega,by omega,aC,JS,CS,a4,a6,aZ⟩
    case measure=>rw[aX.o,aW.o];omega
end Go.Proofs.YtfocdefchbnkpaaGreatDoor
