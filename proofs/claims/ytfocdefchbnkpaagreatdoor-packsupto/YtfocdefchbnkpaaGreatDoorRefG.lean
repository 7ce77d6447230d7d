/- The sum of the weights, and the targets of a rule, as the document's own reader reads them. -/
import Derived.Test.YtfocdefchbnkpaaGreatDoorAli
import Derived.Test.YtfocdefchbnkpaaGreatDoorRefE
set_option maxRecDepth 100000
set_option maxHeartbeats 20000000
namespace Go.Proofs.YtfocdefchbnkpaaGreatDoor
open Go.RowKit
theorem zS {w w':World}{B rb:Nat}{e:TypeId}{aa:Nat}{v:Value}{n:Nat}{xs:List Value}(h:w.ownsRow B e aa v n xs)(hg:w.grownBy w' (some rb))(hB:rb<B):w'.ownsRow B e aa v n xs:=by
 refine h.kept hg ?_
 cases hv:v.ownBlock with
 | none=>exact Or.inl rfl
 | some k=>right;have:=(h.lt k hv).1;simp;omega
def yN:List R.Tok->Int
 | a :: b :: r=>if a.k=34/\b.k=49 then R.num b.s+yN (r.drop 1) else 0
 | _=>0
 termination_by l=>l.length
 decreasing_by simp;omega
theorem zb8 (ts:List R.Tok)(k:Nat)(h:k+1<ts.length)(h1:ts[k].k=34)(h2:ts[k+1].k=49):yN (ts.drop k)=R.num ts[k+1].s+yN (ts.drop (k+3)):=by
 rw[List.drop_eq_getElem_cons (by omega),List.drop_eq_getElem_cons (i:=k+1) (by omega),yN,if_pos ⟨h1,h2⟩,List.drop_drop]
theorem um (ts:List R.Tok)(k:Nat)(h:¬∃h:k+1<ts.length,ts[k].k=34/\ts[k+1].k=49):yN (ts.drop k)=0:=by
 by_cases hk:k+1<ts.length
 ·rw[List.drop_eq_getElem_cons (by omega),List.drop_eq_getElem_cons (i:=k+1) (by omega),yN,if_neg (fun c=>h ⟨hk,c⟩)]
 ·by_cases aa:k<ts.length
  ·rw[List.drop_eq_getElem_cons aa,List.drop_of_length_le (by omega)];unfold yN;rfl
  ·rw[List.drop_of_length_le (by omega)];unfold yN;rfl
theorem zrF {w:World}{rb g ae:Nat}{ts:List R.Tok}{st:R.St}{H:Value}(h:RInv w rb g ae ts st H) :
  Calls Tryz.prog 192 #[.pointer (some ⟨rb,0,none⟩)] w fun e w'=>e = .returned (.int .i64 (yN (ts.drop st.K)))/\w.grownBy w' none:=by
 have c1:w.cell? ⟨rb,1,none⟩=some (.int .i64 st.K):=zB h.rd
 have aj:=h.lt
 have an:=h.ok.len
 have H0:Y _:=h
 clear h
 go_enter Tryz.func192,Tryz.ntmps192
 go_wp2
 go_loopw [3,4] (fun n i wr=>∃(k:Nat) (m:Int),st.K<=k/\k<=ts.length+3/\i = .int .i64 k/\n = .int .i64 m/\0<=m/\m<=100000*k/\Y (m+yN (ts.drop k)=yN (ts.drop st.K))/\Y (w.grownBy wr none)) (fun _ i _=>ts.length+3 - (intOf i).toNat)
 case atStart=>exact⟨st.K,0,zw _,by omega,rfl,rfl,by omega,by omega,by show _=_;omega,ze _ _⟩
 case round=>
  obtain⟨k,m,ah,ai,rfl,rfl,ak,al,HL,HR⟩:=hrel
  have IR:Y _:=H0.o.keep HR.o
  have d0:wr.cell? ⟨rb,0,none⟩=some (.slice (some ⟨g,0,none⟩) ts.length ae):=zB IR.o.rd
  by_cases ab:k+1<ts.length
  ·have t0:wr.cell? ⟨g,k*3,none⟩=some (.int .u8 ts[k].k):=IR.o.tok k (by omega) 0 (by omega)
   have u0:wr.cell? ⟨g,(k+1)*3,none⟩=some (.int .u8 ts[k+1].k):=IR.o.tok (k+1) ab 0 (by omega)
   have u1:wr.cell? ⟨g,(k+1)*3+1,none⟩=some (.string (R.str ts[k+1].s)):=IR.o.tok (k+1) ab 1 (by omega)
   have u2:wr.cell? ⟨g,(k+1)*3+2,none⟩=some (.int .i64 ts[k+1].at_):=IR.o.tok (k+1) ab 2 (by omega)
   have ag:(k:Int)+1<ts.length:=by omega
   by_cases aa:ts[k].k=34/\ts[k+1].k=49
   ·have g1:(ts[k].k == 34)=true:=by rw[aa.1];rfl
    have g2:(ts[k+1].k == 49)=true:=by rw[aa.2];rfl
    have am:=IR.o.ok.nums (k+1) ts[k+1] (by rw[xo ab]) aa.2
    have HS:Y ((R.str ts[k+1].s).size<=3000):=by rw[R.str_size];exact IR.o.ok.strs (k+1) ts[k+1] (by rw[xo ab])
    have H2:Y ((m+R.num ts[k+1].s)+yN (ts.drop (k+3))=yN (ts.drop st.K)):=by
     have:=HL.o;rw[zb8 ts k ab aa.1 aa.2] at this;show _=_;omega
    generalize ts[k]=ta at*
    generalize ts[k+1]=tb at*
    clear aa HL
    go_wp2_with (go_at_call 132;refine(fm _ _ _ _ HS.o).mono ?_;rintro e w5 ⟨rfl,af⟩;rw[R.str_toList])
    exact⟨⟨k+3,m+R.num tb.s,by omega,by omega,by go_num,rfl,by omega,by omega,H2,zD HR.o af⟩,by simp[intOf];omega⟩
   ·have H2:Y (m=yN (ts.drop st.K)):=by
     have:=HL.o;rw[um ts k (fun⟨_,c⟩=>aa c)] at this;show _=_;omega
    clear HL
    by_cases ad:ts[k].k=34
    ·have g1:(ts[k].k == 34)=true:=by rw[ad];rfl
     have g2:(ts[k+1].k == 49)=false:=by rw[beq_eq_false_iff_ne];exact fun c=>aa ⟨ad,c⟩
     generalize ts[k]=ta at*
     generalize ts[k+1]=tb at*
     clear aa ad
     go_wp2
     go_ret
     exact⟨by rw[<-H2.o];rfl,HR.o⟩
    ·have g1:(ts[k].k == 34)=false:=by rw[beq_eq_false_iff_ne];exact ad
     generalize ts[k]=ta at*
     generalize ts[k+1]=tb at*
     clear aa ad
     go_wp2
     go_ret
     exact⟨by rw[<-H2.o];rfl,HR.o⟩
  ·have H2:Y (m=yN (ts.drop st.K)):=by
    have:=HL.o;rw[um ts k (fun⟨c,_⟩=>ab c)] at this;show _=_;omega
   have ag:¬(k:Int)+1<ts.length:=by omega
   clear HL
   go_wp2
   go_ret
   exact⟨by rw[<-H2.o];rfl,HR.o⟩
theorem RInv.away {w w':World}{rb g ab:Nat}{ts:List R.Tok}{st:R.St}{H:Value}{aa:Option Nat}(h:RInv w rb g ab ts st H)(hg:w.grownBy w' aa)(hr:∀k,aa=some k->k≠rb/\k≠g):RInv w' rb g ab ts st H:=by
 cases aa with
 | none=>exact h.keep hg
 | some k=>exact h.other hg (hr k rfl).1 (hr k rfl).2
theorem qV {a b c:World}{ab aa:Option Nat}(h:a.grownBy b ab)(hk:b.grownBy c aa)(hn:∀k,aa=some k->a.heap.size<=k):a.grownBy c ab:=by
 cases aa with
 | none=>exact zD h (zb hk _)
 | some k=>exact zm h hk (hn k rfl)
def qB (l:List (List UInt8×Int)):List Value:=(l.map fun t=>[Value.string (R.str t.1),.int .i64 t.2]).flatten
theorem yv (l:List (List UInt8×Int))(t:List UInt8×Int):qB (l++[t])=qB l++[Value.string (R.str t.1),.int .i64 t.2]:=by simp[qB]
def qP (ts : List R.Tok) (st : R.St) (i : Nat) (acc : List (List UInt8 × Int)) : R.St × List (List UInt8 × Int) :=
  (R.notS (R.notS (R.notS (R.kindS ts (R.kindS ts st 34) 49) (decide ((i : Int) < 4)) 3 (R.cur ts st).at_) (R.upstream (R.cur ts st).s) 4 (R.cur ts st).at_) (decide (R.num (R.cur ts (R.kindS ts st 34)).s ≤ 1000)) 4 (R.cur ts (R.kindS ts st 34)).at_,
   if 0 < R.num (R.cur ts (R.kindS ts st 34)).s then acc ++ [((R.cur ts st).s, R.num (R.cur ts (R.kindS ts st 34)).s)] else acc)
def R.tgLoop (ts:List R.Tok):Nat->R.St->Nat->List (List UInt8×Int)->List (List UInt8×Int)×R.St
 | 0,st,_,acc=>(acc,st)
 | n+1,st,i,acc=>
  if st.bad<0 then
   if R.isB (qP ts st i acc).1 (R.cur ts (qP ts st i acc).1) [44] then R.tgLoop ts n (R.needS ts (qP ts st i acc).1 [44]) (i+1) (qP ts st i acc).2
   else ((qP ts st i acc).2,(qP ts st i acc).1)
  else (acc,st)
def R.targetsS (ts : List R.Tok) (st : R.St) : List (List UInt8 × Int) × R.St :=
  ((R.tgLoop ts (ts.length + 1) (R.notS (R.needS ts st [116, 111]) (decide (0 < yN (ts.drop (R.needS ts st [116, 111]).K))) 4 (R.cur ts st).at_) 0 []).1,
   R.needS ts (R.tgLoop ts (ts.length + 1) (R.notS (R.needS ts st [116, 111]) (decide (0 < yN (ts.drop (R.needS ts st [116, 111]).K))) 4 (R.cur ts st).at_) 0 []).2 [59])
theorem wy (t:R.Tok)(st:R.St)(ok:Bool):st.K<=(R.overS t st ok).K:=by
 unfold R.overS;split
 ·exact zw _
 ·split <;> simp
theorem R.notS_K (st:R.St)(ok:Bool)(e a:Int):(R.notS st ok e a).K=st.K:=by
 unfold R.notS;split <;> rfl
theorem ui (ts:List R.Tok)(st:R.St)(i:Nat)(aa:List (List UInt8×Int)):st.K<=(qP ts st i aa).1.K:=by
 unfold qP
 simp only[R.notS_K]
 exact qf (wy _ _ _) (wy _ _ _)
theorem R.needS_yes {ts:List R.Tok}{st:R.St}{s:List UInt8}(h:R.isB st (R.cur ts st) s=true):R.needS ts st s={ st with K:=st.K+1 }:=by
 unfold R.needS R.overS
 have hb:st.bad<0:=by unfold R.isB at h;simp at h;exact h.1
 rw[if_neg (by omega),if_pos h]
theorem zmK:(Tryz.prog.info? 183).map (fun i=>(i.zero,i.size,i.bytes))=some (some (.agg #[.string ⟨#[]⟩,.int .i64 0]),2,24):=by kernel_rfl
theorem zhP {w:World}{rb g aE:Nat}{ts:List R.Tok}{st:R.St}{H:Value}(h:RInv w rb g aE ts st H) :
  Calls Tryz.prog 135 #[.pointer (some ⟨rb,0,none⟩)] w fun e w'=>∃v,e = .returned v/\RInv w' rb g aE ts (R.targetsS ts st).2 H/\w.grownBy w' (some rb)/\w'.ownsRow w.heap.size 183 2 v (R.targetsS ts st).1.length (qB (R.targetsS ts st).1):=by
 obtain⟨i0,hi,ck,cl,cm⟩:=info_parts zmK
 have HP:Y (R.targetsS ts st=((R.tgLoop ts (ts.length+1) (R.notS (R.needS ts st [116,111]) (decide (0<yN (ts.drop (R.needS ts st [116,111]).K))) 4 (R.cur ts st).at_) 0 []).1,
 R.needS ts (R.tgLoop ts (ts.length+1) (R.notS (R.needS ts st [116,111]) (decide (0<yN (ts.drop (R.needS ts st [116,111]).K))) 4 (R.cur ts st).at_) 0 []).2 [59])):=rfl
 have H0:Y _:=h
 have cC:=zI h.rd
 generalize R.targetsS ts st=r at*
 clear h
 go_enter Tryz.func135,Tryz.ntmps135
 have C0:Y (w.grownBy w (some rb)):=ze _ _
 go_wp2_with fail
 refine(xK H0.o _).mono ?_
 rintro e w1 ⟨rfl,I1,aX⟩
 have J1:Y _:=I1
 have b1:=zI J1.o.rd
 have s1:w.heap.size+0<=w1.heap.size:=by have h:=aX.size;simpa using h
 have G1:Y (w.grownBy w1 (some rb)):=aX
 have C1:=J (zD C0.o G1.o)
 have z1:=C1.o.size
 clear aX I1
 go_wp2_with fail
 refine(zrF (J1.o.keep (zL _ _ _))).mono ?_
 rintro e w2 ⟨rfl,aT⟩
 have aF:=zb aT (some rb)
 have J2:Y _:=((J1.o.keep (zL _ _ _))).keep aT
 have b2:=zI J2.o.rd
 have s2:w1.heap.size+1<=w2.heap.size:=by have h:=aF.size;simpa using h
 have G2:Y (w1.grownBy w2 (some rb)):=(zD (zL _ _ _) aF)
 have C2:=J (zD C1.o G2.o)
 have z2:=C2.o.size
 have ao:Y (w2.heap[w1.heap.size]?=some (.cells #[.int .u8 (R.cur ts st).k,.string (R.str (R.cur ts st).s),.int .i64 (R.cur ts st).at_] 115)):=qz aF (by simp;omega)
 clear aF aT
 have cX:=zI ao.o
 have cU:=ztW ao.o
 have cV:=zuA ao.o
 have cW:=ztX ao.o
 go_wp2_with fail
 refine(j8 J2.o _ _ _ _ _).mono ?_
 rintro e w3 ⟨rfl,I3,aY⟩
 have J3:Y _:=I3
 have b3:=zI J3.o.rd
 have s3:w2.heap.size+0<=w3.heap.size:=by have h:=aY.size;simpa using h
 have G3:Y (w2.grownBy w3 (some rb)):=aY
 have C3:=J (zD C2.o G3.o)
 have z3:=C3.o.size
 have cr:=J (zF ao.o G3.o (by simp;omega))
 clear aY I3
 generalize R.notS (R.needS ts st [116,111]) (decide (0<yN (ts.drop (R.needS ts st [116,111]).K))) 4 (R.cur ts st).at_=st3 at*
 go_wp2_with fail
 go_loopw [3,6] (fun v iv wr=>∃(i n:Nat) (ab:List (List UInt8×Int)) (s:R.St),iv = .int .i64 i/\i<=s.K/\s.K<ts.length/\ab.length<=i/\ts.length<n+s.K/\Y (R.tgLoop ts n s i ab=R.tgLoop ts (ts.length+1) st3 0 [])/\Y (RInv wr rb g aE ts s H)/\Y (w.grownBy wr (some rb))/\Y (wr.ownsRow w.heap.size 183 2 v ab.length (qB ab))) (fun _ iv _=>ts.length+1 - (intOf iv).toNat)
 case atStart=>exact⟨0,ts.length+1,[],st3,rfl,zo _,J3.o.lt,zw _,by omega,rfl,J3,C3,xd _ _ _ _⟩
 case round=>
  obtain⟨i,n,ab,s,rfl,cJ,cH,cI,hn,HL,IR,HR,HO⟩:=hrel
  have cD:=zI IR.o.rd
  have c2:wr.cell? ⟨rb,2,none⟩=some (.int .i64 s.bad):=zB IR.o.rd
  have cL:=IR.o.ok.len
  obtain⟨n,rfl⟩:∃m,n=m+1:=⟨n - 1,by omega⟩
  have ad:=HL.o
  rw[R.tgLoop] at ad
  by_cases hb:s.bad<0
  ·rw[if_pos hb] at ad
   have cj:=ui ts s i ab
   have aO:Y (qP ts s i ab=(R.notS (R.notS (R.notS (R.kindS ts (R.kindS ts s 34) 49) (decide ((i:Int)<4)) 3 (R.cur ts s).at_) (R.upstream (R.cur ts s).s) 4 (R.cur ts s).at_) (decide (R.num (R.cur ts (R.kindS ts s 34)).s<=1000)) 4 (R.cur ts (R.kindS ts s 34)).at_,
    if 0<R.num (R.cur ts (R.kindS ts s 34)).s then ab++[((R.cur ts s).s,R.num (R.cur ts (R.kindS ts s 34)).s)] else ab)):=rfl
   generalize qP ts s i ab=rr at*
   obtain⟨s5,bN⟩:=rr
   simp only at ad cj
   have aa:Y _:=ad
   clear ad HL
   have HU:Y ((R.str (R.cur ts s).s).size<=3000):=IR.o.curlen
   have ce:Y ((R.str (R.cur ts s).s).size<=maxLen):=by have:=HU.o;show _<=_;unfold maxLen;omega
   have cd:Y _:=(Prod.mk.inj aO.o).1
   have ae:Y _:=(Prod.mk.inj aO.o).2
   clear aO
   have bZ:Y _:=HO.o
   go_wp2_with fail
   refine(vu IR.o 34 (by decide) (by decide)).mono ?_
   rintro e aq ⟨rfl,bu,a0⟩
   have aP:Y _:=bu
   have ct:=zI aP.o.rd
   have dg:wr.heap.size+0<=aq.heap.size:=by have h:=a0.size;simpa using h
   have bm:Y (wr.grownBy aq (some rb)):=a0
   have bc:=J (zD HR.o bm.o)
   have du:=bc.o.size
   have b0:Y _:=zS bZ.o bm.o (by omega)
   clear a0 bu
   have HW:Y ((R.str (R.cur ts (R.kindS ts s 34)).s).size<=3000):=aP.o.curlen
   go_wp2_with fail
   refine(vu (aP.o.keep (zL _ _ _)) 49 (by decide) (by decide)).mono ?_
   rintro e af ⟨rfl,bv,aG⟩
   have bF:Y _:=bv
   have cu:=zI bF.o.rd
   have dh:aq.heap.size+1<=af.heap.size:=by have h:=aG.size;simpa using h
   have bn:Y (aq.grownBy af (some rb)):=(zD (zL _ _ _) aG)
   have bd:=J (zD bc.o bn.o)
   have dv:=bd.o.size
   have b4:Y _:=zS b0.o bn.o (by omega)
   have aj:Y (af.heap[aq.heap.size]?=some (.cells #[.int .u8 (R.cur ts s).k,.string (R.str (R.cur ts s).s),.int .i64 (R.cur ts s).at_] 115)):=qz aG (by simp;omega)
   clear aG bv
   have cP:=zI aj.o
   have cM:=ztW aj.o
   have cN:=zuA aj.o
   have cO:=ztX aj.o
   go_wp2_with fail
   refine(tO _ _ ce.o).mono ?_
   rintro e wX ⟨rfl,bQ⟩
   rw[bQ]
   clear bQ wX
   rw[R.str_toList]
   go_wp2_with fail
   refine(j8 (bF.o.keep (zL _ _ _)) _ _ _ _ _).mono ?_
   rintro e ar ⟨rfl,bw,aH⟩
   have bG:Y _:=bw
   have cv:=zI bG.o.rd
   have di:af.heap.size+1<=ar.heap.size:=by have h:=aH.size;simpa using h
   have aM:Y (af.grownBy ar (some rb)):=(zD (zL _ _ _) aH)
   have be:=J (zD bd.o aM.o)
   have dw:=be.o.size
   have b5:Y _:=zS b4.o aM.o (by omega)
   have ak:=J (zF aj.o aM.o (by simp;omega))
   have ch:Y (ar.heap[af.heap.size]?=some (.cells #[.int .u8 (R.cur ts (R.kindS ts s 34)).k,.string (R.str (R.cur ts (R.kindS ts s 34)).s),.int .i64 (R.cur ts (R.kindS ts s 34)).at_] 115)):=qz aH (by simp;omega)
   clear aH bw
   have c6:=zI ak.o
   have cY:=ztW ak.o
   have cZ:=zuA ak.o
   have c0:=ztX ak.o
   go_wp2_with fail
   refine(j8 bG.o _ _ _ _ _).mono ?_
   rintro e aI ⟨rfl,bx,a1⟩
   have bH:Y _:=bx
   have cw:=zI bH.o.rd
   have dj:ar.heap.size+0<=aI.heap.size:=by have h:=a1.size;simpa using h
   have aw:Y (ar.grownBy aI (some rb)):=a1
   have bf:=J (zD be.o aw.o)
   have dx:=bf.o.size
   have b6:Y _:=zS b5.o aw.o (by omega)
   have cf:=J (zF ak.o aw.o (by simp;omega))
   have am:=J (zF ch.o aw.o (by simp;omega))
   clear a1 bx
   have cT:=zI am.o
   have cQ:=ztW am.o
   have cR:=zuA am.o
   have cS:=ztX am.o
   go_wp2_with fail
   refine(fm _ _ _ _ HW.o).mono ?_
   rintro e aJ ⟨rfl,aU⟩
   have a2:=zb aU (some rb)
   have bI:Y _:=(bH.o).keep aU
   have cx:=zI bI.o.rd
   have dk:aI.heap.size+0<=aJ.heap.size:=by have h:=a2.size;simpa using h
   have ax:Y (aI.grownBy aJ (some rb)):=a2
   have bg:=J (zD bf.o ax.o)
   have dy:=bg.o.size
   have b7:Y _:=zS b6.o ax.o (by omega)
   have cg:=J (zF cf.o ax.o (by simp;omega))
   have an:=J (zF am.o ax.o (by simp;omega))
   clear a2 aU
   rw[R.str_toList]
   have da:=zI an.o
   have c7:=ztW an.o
   have c8:=zuA an.o
   have c9:=ztX an.o
   go_wp2_with fail
   refine(j8 bI.o _ _ _ _ _).mono ?_
   rintro e au ⟨rfl,bz,a3⟩
   have ai:Y _:=bz
   have cy:=zI ai.o.rd
   have dl:aJ.heap.size+0<=au.heap.size:=by have h:=a3.size;simpa using h
   have ay:Y (aJ.grownBy au (some rb)):=a3
   have av:=J (zD bg.o ay.o)
   have dz:=av.o.size
   have aN:Y _:=zS b7.o ay.o (by omega)
   have al:=J (zF cg.o ay.o (by simp;omega))
   have ci:=J (zF an.o ay.o (by simp;omega))
   clear a3 bz
   rw[<-cd.o] at ai
   generalize cK:R.num (R.cur ts (R.kindS ts s 34)).s=num at*
   have de:=zI al.o
   have db:=ztW al.o
   have dc:=zuA al.o
   have dd:=ztX al.o
   by_cases bP:0<num
   ·rw[if_pos bP] at ae
    go_wp2_with (at_builtin;refine wpList_append_own _ rfl _ _ 123 rfl w.heap.size 183 i0 _ 2 24 Tryz.underlying123 hi ck cl cm rfl (by decide) _ _ _ rfl (qK aN.o _) ⟨au.heap.size,0,none⟩ 1 1 [.string (R.str (R.cur ts s).s),.int .i64 num] rfl rfl ?c1 ?c2 ?c3 ?c4 ?c5 ?_)
    case c1=>exact zu _ #[_,_] _ _ (by simp)
    case c2=>intro u hu;simp at hu;rcases hu with rfl | rfl <;> rfl
    case c3=>unfold maxLen;omega
    case c4=>omega
    case c5=>have:=av.o.size;simp;omega
    intro v9 w9 bO a7 _
    have bW:Y (w9.ownsRow w.heap.size 183 2 v9 (ab++[((R.cur ts s).s,num)]).length (qB (ab++[((R.cur ts s).s,num)]))):=by rw[yv,zh];exact bO
    have aS:∀k,(u3:Value).ownBlock=some k->w.heap.size<=k:=fun k hk=>(zx aN.o k hk).1
    have J9:Y (RInv w9 rb g aE ts s5 H):=(ai.o.keep (zL _ _ _)).away a7 (fun k hk=>by have h1:=aS k hk;have h2:=H0.o.gl;exact⟨by omega,by omega⟩)
    have C9:Y (w.grownBy w9 (some rb)):=qV (zD av.o (zL _ _ _)) a7 aS
    have b9:=zI J9.o.rd
    clear bO a7 aS
    go_wp2_with fail
    refine(ky J9.o _).mono ?_
    rintro e ag ⟨rfl,aV⟩
    have a4:=zb aV (some rb)
    have aQ:Y _:=(J9.o).keep aV
    have cz:=zI aQ.o.rd
    have dm:w9.heap.size+0<=ag.heap.size:=by have h:=a4.size;simpa using h
    have bo:Y (w9.grownBy ag (some rb)):=a4
    have aK:=J (zD C9.o bo.o)
    have dA:=aK.o.size
    have br:Y _:=zS bW.o bo.o (by omega)
    clear a4 aV
    cases hmore:R.isB s5 (R.cur ts s5) [44]
    ·rw[if_neg (by rw[hmore];simp)] at aa
     go_wp2_with fail
     refine(xK aQ.o _).mono ?_
     rintro e bS ⟨rfl,bA,a5⟩
     have bJ:Y _:=bA
     have cA:=zI bJ.o.rd
     have dn:ag.heap.size+0<=bS.heap.size:=by have h:=a5.size;simpa using h
     have bp:Y (ag.grownBy bS (some rb)):=a5
     have bh:=J (zD aK.o bp.o)
     have dB:=bh.o.size
     have b8:Y _:=zS br.o bp.o (by omega)
     clear a5 bA
     go_wp2
     go_ret
     exact⟨_,rfl,by rw[HP.o,<-aa.o];exact bJ.o,bh.o,by rw[HP.o,<-aa.o,ae.o];exact b8.o⟩
    ·rw[if_pos (by rw[hmore])] at aa
     have ap:=R.needS_yes hmore
     go_wp2_with fail
     refine(xK aQ.o _).mono ?_
     rintro e bT ⟨rfl,bB,a6⟩
     have aC:Y _:=bB
     have cB:=zI aC.o.rd
     have dp:ag.heap.size+0<=bT.heap.size:=by have h:=a6.size;simpa using h
     have bq:Y (ag.grownBy bT (some rb)):=a6
     have bi:=J (zD aK.o bq.o)
     have dC:=bi.o.size
     have ca:Y _:=zS br.o bq.o (by omega)
     clear a6 bB
     rw[show(⟨#[44]⟩:ByteArray).data.toList=[44] from rfl] at aC
     go_wp2
     go_roundw
     case rel=>exact⟨i+1,n,bN,_,by go_num,by rw[ap];simp;omega,aC.o.lt,by rw[ae.o];simp;omega,by rw[ap];simp;omega,aa,aC,bi,by rw[ae.o];exact ca.o⟩
     case measure=>simp[intOf];omega
   ·rw[if_neg bP] at ae
    go_wp2_with fail
    refine(ky ai.o _).mono ?_
    rintro e ah ⟨rfl,aW⟩
    have a8:=zb aW (some rb)
    have aR:Y _:=(ai.o).keep aW
    have cE:=zI aR.o.rd
    have dq:au.heap.size+0<=ah.heap.size:=by have h:=a8.size;simpa using h
    have az:Y (au.grownBy ah (some rb)):=a8
    have aL:=J (zD av.o az.o)
    have dD:=aL.o.size
    have bs:Y _:=zS aN.o az.o (by omega)
    have bL:=J (zF al.o az.o (by simp;omega))
    have bM:=J (zF ci.o az.o (by simp;omega))
    clear a8 aW
    cases hmore:R.isB s5 (R.cur ts s5) [44]
    ·rw[if_neg (by rw[hmore];simp)] at aa
     go_wp2_with fail
     refine(xK aR.o _).mono ?_
     rintro e bU ⟨rfl,bC,a9⟩
     have bK:Y _:=bC
     have cF:=zI bK.o.rd
     have dr:ah.heap.size+0<=bU.heap.size:=by have h:=a9.size;simpa using h
     have aA:Y (ah.grownBy bU (some rb)):=a9
     have bj:=J (zD aL.o aA.o)
     have dE:=bj.o.size
     have cb:Y _:=zS bs.o aA.o (by omega)
     have cn:=J (zF bL.o aA.o (by simp;omega))
     have cp:=J (zF bM.o aA.o (by simp;omega))
     clear a9 bC
     go_wp2
     go_ret
     exact⟨_,rfl,by rw[HP.o,<-aa.o];exact bK.o,bj.o,by rw[HP.o,<-aa.o,ae.o];exact cb.o⟩
    ·rw[if_pos (by rw[hmore])] at aa
     have ap:=R.needS_yes hmore
     go_wp2_with fail
     refine(xK aR.o _).mono ?_
     rintro e bV ⟨rfl,bD,ba⟩
     have aD:Y _:=bD
     have cG:=zI aD.o.rd
     have ds:ah.heap.size+0<=bV.heap.size:=by have h:=ba.size;simpa using h
     have aB:Y (ah.grownBy bV (some rb)):=ba
     have bk:=J (zD aL.o aB.o)
     have dF:=bk.o.size
     have cc:Y _:=zS bs.o aB.o (by omega)
     have co:=J (zF bL.o aB.o (by simp;omega))
     have cq:=J (zF bM.o aB.o (by simp;omega))
     clear ba bD
     rw[show(⟨#[44]⟩:ByteArray).data.toList=[44] from rfl] at aD
     go_wp2
     go_roundw
     case rel=>exact⟨i+1,n,bN,_,by go_num,by rw[ap];simp;omega,aD.o.lt,by rw[ae.o];omega,by rw[ap];simp;omega,aa,aD,bk,by rw[ae.o];exact cc.o⟩
     case measure=>simp[intOf];omega
  ·rw[if_neg hb] at ad
   have aa:Y _:=ad
   clear ad HL
   have bX:Y _:=HO.o
   go_wp2_with fail
   refine(xK IR.o _).mono ?_
   rintro e bR ⟨rfl,bt,aZ⟩
   have bE:Y _:=bt
   have cs:=zI bE.o.rd
   have df:wr.heap.size+0<=bR.heap.size:=by have h:=aZ.size;simpa using h
   have bl:Y (wr.grownBy bR (some rb)):=aZ
   have bb:=J (zD HR.o bl.o)
   have dt:=bb.o.size
   have bY:Y _:=zS bX.o bl.o (by omega)
   clear aZ bt
   go_wp2
   go_ret
   exact⟨_,rfl,by rw[HP.o,<-aa.o];exact bE.o,bb.o,by rw[HP.o,<-aa.o];exact bY.o⟩
theorem zj9 (c:UInt8):decide (0<=Lib.indexByte [123,125,59,61,44] c)=R.signI c.toNat:=by
 have:∀n:Fin 256,decide (0<=Lib.indexByte [123,125,59,61,44] (UInt8.ofNat n.val))=R.signI (UInt8.ofNat n.val).toNat:=by decide +kernel
 have h:=this ⟨c.toNat,UInt8.toNat_lt c⟩
 simp only[UInt8.ofNat_toNat] at h
 exact h
theorem zs6 (c:UInt8):((c.toNat:Int).toNat).toUInt8=c:=by simp
theorem zgX (s:ByteArray)(w:World)(hs:s.size<=1000000000000) :
  Calls Tryz.prog 204 #[.string s] w fun e w'=>e = .returned (.tuple #[.int .i64 (qU s.data.toList).1,.int .i64 (qU s.data.toList).2])/\w.grownBy w' none:=by
 have ae:s.size<=maxLen:=by unfold maxLen;omega
 by_cases h0:s.size=0
 ·have HM:Y (qU s.data.toList=(0,0)):=by
   have:s.data.toList=[]:=List.length_eq_zero_iff.1 (by rw[R.size_eq];exact h0)
   rw[this];rfl
  have ak:s=⟨#[]⟩:=by
   apply yz;exact List.length_eq_zero_iff.1 (by rw[R.size_eq];exact h0)
  subst ak
  clear h0 hs ae
  go_enter Tryz.func204,Tryz.ntmps204
  go_wp2
  go_ret2
  exact⟨by rw[HM.o];rfl,ze _ _⟩
 ·have h1:0<s.size:=by omega
  have ad:s.data.toList=s[0] :: s.data.toList.drop 1:=by
   have:=R.drop_cons s 0 h1;rw[List.drop_zero] at this;exact this
  have HM:Y (qU s.data.toList=if R.smallI s[0].toNat then (R.span R.smallI s.data.toList,(1:Int)) else if R.digitI s[0].toNat then yD s.data.toList else if s[0].toNat=34 then yO s.data.toList else if R.signI s[0].toNat then (1,4) else (0,5)):=by
   show qU _=_
   conv=>lhs;rw[ad]
   rw[qU,<-ad]
  have al:(s.toList == [])=false:=by
   rw[ByteArray.toList_eq,ad];rfl
  have ah:Y _:=fun w=>zeA s w ae
  have ag:Y _:=fun w=>fr s w ae
  have ai:Y _:=fun w=>tC s w hs h1
  have aa:=zj9 s[0]
  have af:Y (∀w,Calls Tryz.prog 264 #[.string ⟨#[123,125,59,61,44]⟩,.int .u8 s[0].toNat] w fun e w'=>e = .returned (.int .i64 (Lib.indexByte [123,125,59,61,44] s[0]))/\w'=w):=fun w=>by
   have:=Tryz.strings_IndexByte ⟨#[123,125,59,61,44]⟩ s[0].toNat w
   rw[zs6] at this;exact this
  clear ad
  generalize qU s.data.toList=m at*
  generalize yD s.data.toList=mn at*
  generalize yO s.data.toList=ms at*
  generalize R.span R.smallI s.data.toList=sp at*
  generalize Lib.indexByte [123,125,59,61,44] s[0]=ix at*
  cases ha:R.smallI s[0].toNat
  ·rw[ha] at HM
   simp only[zb2,if_false] at HM
   cases hd:R.digitI s[0].toNat
   ·rw[hd] at HM
    simp only[zb2,if_false] at HM
    by_cases ab:s[0].toNat=34
    ·rw[if_pos ab] at HM
     have aj:((s[0].toNat:Int) == 34)=true:=by rw[ab];rfl
     clear ab
     go_enter Tryz.func204,Tryz.ntmps204
     go_wp2_with (first
      | (go_at_call 260;refine(j5 _ _).mono ?_;rintro e w' ⟨rfl,rfl⟩)
      | (go_at_call 261;refine(jJ _ _).mono ?_;rintro e w' ⟨rfl,rfl⟩)
      | (go_at_call 263;refine(ai.o _).mono ?_;rintro e w1 ⟨rfl,hg⟩))
     go_ret2
     exact⟨by rw[HM.o];rfl,hg⟩
    ·rw[if_neg ab] at HM
     have aj:((s[0].toNat:Int) == 34)=false:=by rw[beq_eq_false_iff_ne];omega
     clear ab
     cases hsi:R.signI s[0].toNat
     ·rw[hsi] at HM aa
      simp only[zb2,if_false] at HM
      have am:¬0<=ix:=by simpa using aa
      clear aa
      go_enter Tryz.func204,Tryz.ntmps204
      go_wp2_with (first
       | (go_at_call 260;refine(j5 _ _).mono ?_;rintro e w' ⟨rfl,rfl⟩)
       | (go_at_call 261;refine(jJ _ _).mono ?_;rintro e w' ⟨rfl,rfl⟩)
       | (go_at_call 264;refine(af.o _).mono ?_;rintro e w' ⟨rfl,rfl⟩))
      go_ret2
      exact⟨by rw[HM.o];rfl,ze _ _⟩
     ·rw[hsi] at HM aa
      simp only[if_true] at HM
      have an:0<=ix:=by simpa using aa
      clear aa
      go_enter Tryz.func204,Tryz.ntmps204
      go_wp2_with (first
       | (go_at_call 260;refine(j5 _ _).mono ?_;rintro e w' ⟨rfl,rfl⟩)
       | (go_at_call 261;refine(jJ _ _).mono ?_;rintro e w' ⟨rfl,rfl⟩)
       | (go_at_call 264;refine(af.o _).mono ?_;rintro e w' ⟨rfl,rfl⟩))
      go_ret2
      exact⟨by rw[HM.o];rfl,ze _ _⟩
   ·rw[hd] at HM
    simp only[if_true] at HM
    go_enter Tryz.func204,Tryz.ntmps204
    go_wp2_with (first
     | (go_at_call 260;refine(j5 _ _).mono ?_;rintro e w' ⟨rfl,rfl⟩)
     | (go_at_call 261;refine(jJ _ _).mono ?_;rintro e w' ⟨rfl,rfl⟩)
     | (go_at_call 262;refine(ag.o _).mono ?_;rintro e w' ⟨rfl,rfl⟩))
    go_ret2
    exact⟨by rw[HM.o];rfl,ze _ _⟩
  ·rw[ha] at HM
   simp only[if_true] at HM
   go_enter Tryz.func204,Tryz.ntmps204
   go_wp2_with (first
    | (go_at_call 260;refine(j5 _ _).mono ?_;rintro e w' ⟨rfl,rfl⟩)
    | (go_at_call 202;refine(ah.o _).mono ?_;rintro e w' ⟨rfl,rfl⟩))
   go_ret2
   exact⟨by rw[HM.o];rfl,ze _ _⟩
theorem zd2 (l:List UInt8)(p:Nat)(hp:p<=l.length):qI l p<=l.length:=by
 have h:=R.span_le xn (l.drop p)
 rw[List.length_drop] at h
 unfold qI;omega
theorem zc7 (l:List UInt8)(p:Nat)(hp:p<=l.length):(zp l p).at_+(zp l p).raw.length<=l.length:=by
 have h1:=zd2 l p hp
 have h2:=kN (l.drop (qI l p))
 rw[List.length_drop] at h2
 unfold zp
 simp only[List.length_take,List.length_drop]
 omega
theorem fS (s:ByteArray)(p:Nat)(w:World)(hs:s.size<=1000000000000)(hp:p<=s.size) :
  Calls Tryz.prog 146 #[.string s,.int .i64 p] w fun e w'=>e = .returned (.agg #[.int .i64 (zp s.data.toList p).k,.int .i64 (zp s.data.toList p).at_,.string (R.str (zp s.data.toList p).raw)])/\w.grownBy w' none:=by
 have hx:(s.extract p s.size).data.toList=s.data.toList.drop p:=fs s p
 have af:(s.extract p s.size).size<=maxLen:=by rw[<-R.size_eq,hx,List.length_drop,R.size_eq];unfold maxLen;omega
 have HR:=fun w=>zeE (s.extract p s.size) w af
 rw[hx] at HR
 have ai:Y _:=HR
 have ad:=zd2 s.data.toList p (by rw[R.size_eq];exact hp)
 rw[R.size_eq] at ad
 have HT:Y (zp s.data.toList p=⟨(qU (s.data.toList.drop (qI s.data.toList p))).2,qI s.data.toList p,(s.data.toList.drop (qI s.data.toList p)).take (qU (s.data.toList.drop (qI s.data.toList p))).1⟩):=rfl
 have ab:qI s.data.toList p=p+R.span xn (s.data.toList.drop p):=rfl
 clear HR hx af
 generalize R.span xn (s.data.toList.drop p)=n at*
 rw[ab] at HT ad
 have hy:(s.extract (p+n) s.size).data.toList=s.data.toList.drop (p+n):=fs s (p+n)
 have ag:(s.extract (p+n) s.size).size<=1000000000000:=by rw[<-R.size_eq,hy,List.length_drop,R.size_eq];omega
 have HM:=fun w=>zgX (s.extract (p+n) s.size) w ag
 rw[hy] at HM
 have ah:Y _:=HM
 have aa:=kN (s.data.toList.drop (p+n))
 rw[List.length_drop,R.size_eq] at aa
 clear HM hy ag ab
 generalize qU (s.data.toList.drop (p+n))=m at*
 obtain⟨sz,kd⟩:=m
 simp only at HT aa
 go_enter Tryz.func146,Tryz.ntmps146
 go_wp2_with fail
 refine(ai.o _).mono ?_
 rintro e wX ⟨rfl,ae⟩
 rw[ae]
 clear ae wX
 go_wp2_with fail
 refine(ah.o _).mono ?_
 rintro e w1 ⟨rfl,hg⟩
 have n0:=qz hg (by simp)
 have b0:=zI n0
 have ak:w1.cell? ⟨w.heap.size,0,none⟩=some (.int .i64 0):=zB n0
 have al:w1.cell? ⟨w.heap.size,1,none⟩=some (.int .i64 0):=zB n0
 have am:w1.cell? ⟨w.heap.size,2,none⟩=some (.string ⟨#[]⟩):=zB n0
 have f0:=zuG 0 n0
 have f1:=zuG 1 n0
 have f2:=zuG 2 n0
 have HG:Y (w.grownBy w1 none):=zD (zL _ _ _) hg
 clear n0 hg
 go_wp2
 have aj:=zD (zD (zG w1 w.heap.size 0 (.int .i64 kd)) (zG _ w.heap.size 1 (.int .i64 (p+n)))) (zG _ w.heap.size 2 (.string (s.extract (p+n) (p+n+sz))))
 refine bodyPost_ret (v:=.agg #[.int .i64 kd,.int .i64 (p+n),.string (s.extract (p+n) (p+n+sz))]) (by simp[results,Tryz.results146,go_sem,ak,al,am]) rfl ⟨?_,zm HG.o aj (zw _)⟩
 rw[HT.o,fN,show p+n+sz - (p+n)=sz by omega]
 simp
structure P.St where
 tok:P.Tk
 broken:Bool
 err:Int
 fat:Int
structure PInv (w:World) (rb:Nat) (s:ByteArray) (st:P.St):Prop where
 rd:w.heap[rb]?=some (.cells #[.string s,.int .i64 st.tok.k,.int .i64 st.tok.at_,.string (R.str st.tok.raw),.bool st.broken,.int .i64 st.err,.int .i64 st.fat] 204 (0,0))
 len:s.size<=1000000000000
 tok:∃p,p<=s.size/\st.tok=zp s.data.toList p
theorem PInv.bd {w:World}{rb:Nat}{s:ByteArray}{st:P.St}(h:PInv w rb s st):st.tok.at_+st.tok.raw.length<=s.size:=by
 obtain⟨p,hp,e⟩:=h.tok
 rw[e,<-R.size_eq]
 exact zc7 _ _ (by rw[R.size_eq];exact hp)
theorem PInv.keep {w w':World}{rb:Nat}{s:ByteArray}{st:P.St}(h:PInv w rb s st)(hg:w.grownBy w' none):PInv w' rb s st:=
 ⟨by rw[hg.block rb (zI h.rd) (by simp)];exact h.rd,h.len,h.tok⟩
theorem PInv.other {w w':World}{rb b:Nat}{s:ByteArray}{st:P.St}(h:PInv w rb s st)(hg:w.grownBy w' (some b))(h1:b≠rb):PInv w' rb s st:=
 ⟨by rw[hg.block rb (zI h.rd) (by simpa using fun e=>h1 e.symm)];exact h.rd,h.len,h.tok⟩
theorem PInv.away {w w':World}{rb:Nat}{s:ByteArray}{st:P.St}{aa:Option Nat}(h:PInv w rb s st)(hg:w.grownBy w' aa)(hr:∀k,aa=some k->k≠rb):PInv w' rb s st:=by
 cases aa with
 | none=>exact h.keep hg
 | some k=>exact h.other hg (hr k rfl)
def uO (l:List UInt8)(st:P.St)(p:Nat):P.St:={ st with tok:=zp l p }
theorem zpU {w:World}{rb:Nat}{s:ByteArray}{st:P.St}(h:PInv w rb s st)(p:Nat)(hp:p<=s.size) :
  Calls Tryz.prog 100 #[.pointer (some ⟨rb,0,none⟩),.int .i64 p] w fun e w'=>e = .returned (.tuple #[])/\PInv w' rb s (uO s.data.toList st p)/\w.grownBy w' (some rb):=by
 have c0:w.cell? ⟨rb,0,none⟩=some (.string s):=zB h.rd
 have aa:=h.len
 have H0:Y _:=h
 have HT:Y _:=fun w=>fS s p w aa hp
 have HE:Y (uO s.data.toList st p={ st with tok:=zp s.data.toList p }):=rfl
 have ab:Y (∃q,q<=s.size/\zp s.data.toList p=zp s.data.toList q):=⟨p,hp,rfl⟩
 generalize zp s.data.toList p=t at*
 clear h
 go_enter Tryz.func100,Tryz.ntmps100
 go_wp2_with fail
 refine(HT.o _).mono ?_
 rintro e w1 ⟨rfl,hg⟩
 have I1:=H0.o.keep hg
 have c1:w1.cell? ⟨rb,1,none⟩=some (.int .i64 st.tok.k):=zB I1.rd
 have c2:w1.cell? ⟨rb,2,none⟩=some (.int .i64 st.tok.at_):=zB I1.rd
 have c3:w1.cell? ⟨rb,3,none⟩=some (.string (R.str st.tok.raw)):=zB I1.rd
 have f1:w1.frozen? ⟨rb,1,none⟩=false:=zH I1.rd
 have f2:w1.frozen? ⟨rb,2,none⟩=false:=zH I1.rd
 have f3:w1.frozen? ⟨rb,3,none⟩=false:=zH I1.rd
 have J1:Y _:=I1
 have HG:Y _:=hg
 clear I1 hg c0
 go_wp2
 go_end0
 have hg:w1.grownBy (((w1.setCell ⟨rb,1,none⟩ (.int .i64 t.k)).setCell ⟨rb,2,none⟩ (.int .i64 t.at_)).setCell ⟨rb,3,none⟩ (.string (R.str t.raw))) (some rb):=
  zD (zD (zG _ _ _ _) (zG _ _ _ _)) (zG _ _ _ _)
 refine⟨rfl,?_,zD (zb HG.o _) hg⟩
 rw[HE.o]
 exact⟨zR (zR (zR J1.o.rd _) _) _,aa,ab.o⟩
def qX (st:P.St)(r:List UInt8):Bool:=!st.broken && decide (st.tok.raw=r)
theorem vE {w:World}{rb:Nat}{s:ByteArray}{st:P.St}(h:PInv w rb s st)(r:ByteArray) :
  Calls Tryz.prog 147 #[.pointer (some ⟨rb,0,none⟩),.string r] w fun e w'=>e = .returned (.bool (qX st r.data.toList))/\w.grownBy w' none:=by
 have c3:w.cell? ⟨rb,3,none⟩=some (.string (R.str st.tok.raw)):=zB h.rd
 have c4:w.cell? ⟨rb,4,none⟩=some (.bool st.broken):=zB h.rd
 have HS:Y (qX st r.data.toList=(!st.broken && decide (st.tok.raw=r.data.toList))):=rfl
 have hq:((R.str st.tok.raw).toList == r.toList)=decide (st.tok.raw=r.data.toList):=by rw[ByteArray.toList_eq,ByteArray.toList_eq,R.str_toList,Bool.eq_iff_iff];simp
 generalize decide (st.tok.raw=r.data.toList)=b3 at*
 cases hb:st.broken
 all_goals
  rw[hb] at HS c4
  go_enter Tryz.func147,Tryz.ntmps147
  go_wp2
  go_ret
  exact⟨qN (by rw[HS.o];try rfl),ze _ _⟩
def qg (l:List UInt8)(st:P.St)(fits:Bool):P.St:=
 if fits=true/\st.broken=false then uO l st (st.tok.at_+st.tok.raw.length) else { st with broken:=true }
theorem tH {w:World}{rb:Nat}{s:ByteArray}{st:P.St}(h:PInv w rb s st)(aa:Bool) :
  Calls Tryz.prog 149 #[.pointer (some ⟨rb,0,none⟩),.bool aa] w fun e w'=>e = .returned (.bool (!(qg s.data.toList st aa).broken))/\PInv w' rb s (qg s.data.toList st aa)/\w.grownBy w' (some rb):=by
 have c2:w.cell? ⟨rb,2,none⟩=some (.int .i64 st.tok.at_):=zB h.rd
 have c3:w.cell? ⟨rb,3,none⟩=some (.string (R.str st.tok.raw)):=zB h.rd
 have c4:w.cell? ⟨rb,4,none⟩=some (.bool st.broken):=zB h.rd
 have f4:w.frozen? ⟨rb,4,none⟩=false:=zH h.rd
 have ab:=h.bd
 have ae:=h.len
 have af:(R.str st.tok.raw).size=st.tok.raw.length:=R.str_size _
 have HP:Y (qg s.data.toList st aa=if aa=true/\st.broken=false then uO s.data.toList st (st.tok.at_+st.tok.raw.length) else { st with broken:=true }):=rfl
 have H0:Y _:=h
 clear h
 generalize qg s.data.toList st aa=st' at*
 cases aa
 ·rw[if_neg (by simp)] at HP
  go_enter Tryz.func149,Tryz.ntmps149
  go_wp2
  go_ret
  rw[HP.o]
  exact⟨rfl,⟨zR H0.o.rd _,ae,H0.o.tok⟩,zG _ _ _ _⟩
 ·cases hb:st.broken
  ·rw[if_pos ⟨rfl,hb⟩] at HP
   rw[hb] at c4
   have HL:Y (∀w,PInv w rb s st->Calls Tryz.prog 100 #[.pointer (some ⟨rb,0,none⟩),.int .i64 (IntKind.i64.wrap ((st.tok.at_:Int)+(st.tok.raw.length:Int)))] w fun e w'=>e = .returned (.tuple #[])/\PInv w' rb s st'/\w.grownBy w' (some rb)):=fun w h=>by
    have:=zpU h (st.tok.at_+st.tok.raw.length) ab
    rw[<-HP.o,Int.natCast_add] at this
    rw[IntWalk.i64_in _ ⟨by omega,by omega⟩];exact this
   have HB:Y (st'.broken=false):=by rw[HP.o];exact hb
   clear hb
   go_enter Tryz.func149,Tryz.ntmps149
   go_wp2
   go_region_with (go_at_call 100;refine(HL.o _ (H0.o.keep (zg w))).mono ?_;rintro e w1 ⟨rfl,I1,ad⟩;have d4:w1.cell? ⟨rb,4,none⟩=some (.bool st'.broken):=zB I1.rd;rw[HB.o] at d4)
   all_goals
    go_wp2
    go_ret
    rw[HB.o]
    exact⟨rfl,I1,zD (zb (zg w) _) ad⟩
  ·rw[if_neg (by rw[hb];simp)] at HP
   rw[hb] at c4
   go_enter Tryz.func149,Tryz.ntmps149
   go_wp2
   go_ret
   have e:({ st with broken:=true }:P.St)=st:=by cases st;simp at hb ⊢;exact hb
   rw[HP.o,e,hb]
   exact⟨rfl,H0.o,ze _ _⟩
def zX (l:List UInt8)(st:P.St)(r:List UInt8):P.St:=qg l st (decide (st.tok.raw=r))
def jm (l:List UInt8)(st:P.St):P.St:=qg l st (st.tok.k == 0)
theorem yF {w:World}{rb:Nat}{s:ByteArray}{st:P.St}(h:PInv w rb s st)(r:ByteArray) :
  Calls Tryz.prog 206 #[.pointer (some ⟨rb,0,none⟩),.string r] w fun e w'=>e = .returned (.tuple #[])/\PInv w' rb s (zX s.data.toList st r.data.toList)/\w.grownBy w' (some rb):=by
 have c3:w.cell? ⟨rb,3,none⟩=some (.string (R.str st.tok.raw)):=zB h.rd
 have hq:((R.str st.tok.raw).toList == r.toList)=decide (st.tok.raw=r.data.toList):=by rw[ByteArray.toList_eq,ByteArray.toList_eq,R.str_toList,Bool.eq_iff_iff];simp
 have HT:Y (zX s.data.toList st r.data.toList=qg s.data.toList st (decide (st.tok.raw=r.data.toList))):=rfl
 have H0:Y _:=h
 clear h
 generalize decide (st.tok.raw=r.data.toList)=b3 at*
 go_enter Tryz.func206,Tryz.ntmps206
 go_wp2_with fail
 refine(tH H0.o b3).mono ?_
 rintro e w1 ⟨rfl,I1,aa⟩
 go_wp2
 go_end0
 exact⟨rfl,by rw[HT.o];exact I1,aa⟩
theorem zhN {w:World}{rb:Nat}{s:ByteArray}{st:P.St}(h:PInv w rb s st) :
  Calls Tryz.prog 102 #[.pointer (some ⟨rb,0,none⟩)] w fun e w'=>e = .returned (.tuple #[])/\PInv w' rb s (jm s.data.toList st)/\w.grownBy w' (some rb):=by
 have c1:w.cell? ⟨rb,1,none⟩=some (.int .i64 st.tok.k):=zB h.rd
 have HT:Y (jm s.data.toList st=qg s.data.toList st (st.tok.k == 0)):=rfl
 have H0:Y _:=h
 clear h
 go_enter Tryz.func102,Tryz.ntmps102
 go_wp2_with fail
 refine(tH H0.o (st.tok.k == 0)).mono ?_
 rintro e w1 ⟨rfl,I1,aa⟩
 go_wp2
 go_end0
 exact⟨rfl,by rw[HT.o];exact I1,aa⟩
theorem zbQ (l:List UInt8)(h:(qU l).2=3):2<=(qU l).1:=by
 unfold qU at h ⊢
 match l with
 | []=>simp at h
 | c :: r=>
  simp only at h ⊢
  split
  ·rename_i h1;rw[if_pos h1] at h;simp at h
  ·rename_i h1
   rw[if_neg h1] at h
   split
   ·rename_i h2
    rw[if_pos h2] at h
    unfold yD at h;split at h <;> simp at h
   ·rename_i h2
    rw[if_neg h2] at h
    split
    ·rename_i h3
     rw[if_pos h3] at h
     unfold yO at h ⊢
     split
     ·rename_i h4;rw[if_pos h4] at h;simp at h
     ·simp
    ·rename_i h3
     rw[if_neg h3] at h
     split at h <;> simp at h
theorem zh8 (l:List UInt8)(p:Nat)(h:(zp l p).k=3):2<=(zp l p).raw.length:=by
 unfold zp at h ⊢
 simp only at h ⊢
 have h1:=zbQ _ h
 have h2:=kN (l.drop (qI l p))
 rw[List.length_take];omega
theorem PInv.three {w:World}{rb:Nat}{s:ByteArray}{st:P.St}(h:PInv w rb s st)(hk:st.tok.k=3):2<=st.tok.raw.length:=by
 obtain⟨p,hp,e⟩:=h.tok
 rw[e] at hk ⊢
 exact zh8 _ _ hk
def qG (l:List UInt8)(st:P.St):List UInt8×P.St:=
 (if (qg l st (st.tok.k == 3)).broken then [] else (st.tok.raw.drop 1).take (st.tok.raw.length - 2),qg l st (st.tok.k == 3))
theorem ztB {a b:ByteArray}{c d:Int}(h:a=b)(h2:c=d):Ending.returned (.tuple #[.string a,.int .i64 c]) = .returned (.tuple #[.string b,.int .i64 d]):=by rw[h,h2]
theorem jk {w:World}{rb:Nat}{s:ByteArray}{st:P.St}(h:PInv w rb s st) :
  Calls Tryz.prog 266 #[.pointer (some ⟨rb,0,none⟩)] w fun e w'=>e = .returned (.tuple #[.string (R.str (qG s.data.toList st).1),.int .i64 st.tok.at_])/\PInv w' rb s (qG s.data.toList st).2/\w.grownBy w' (some rb):=by
 have c1:w.cell? ⟨rb,1,none⟩=some (.int .i64 st.tok.k):=zB h.rd
 have c2:w.cell? ⟨rb,2,none⟩=some (.int .i64 st.tok.at_):=zB h.rd
 have c3:w.cell? ⟨rb,3,none⟩=some (.string (R.str st.tok.raw)):=zB h.rd
 have ab:=zI h.rd
 have ad:=h.bd
 have ae:=h.len
 have af:(R.str st.tok.raw).size=st.tok.raw.length:=R.str_size _
 have HS:Y (qG s.data.toList st=(if (qg s.data.toList st (st.tok.k == 3)).broken then [] else (st.tok.raw.drop 1).take (st.tok.raw.length - 2),qg s.data.toList st (st.tok.k == 3))):=rfl
 have H3:Y ((qg s.data.toList st (st.tok.k == 3)).broken=false->2<=st.tok.raw.length):=fun hb=>by
  apply h.three
  apply Classical.byContradiction;intro hk
  unfold qg at hb
  rw[if_neg (by intro c;exact hk (by simpa using c.1))] at hb
  simp at hb
 have H0:Y _:=h
 clear h
 go_enter Tryz.func266,Tryz.ntmps266
 go_wp2_with fail
 refine(tH (H0.o.keep (zL _ _ _)) (st.tok.k == 3)).mono ?_
 rintro e w1 ⟨rfl,I1,aa⟩
 have n1:=qz aa (by simp;omega)
 have q1:w1.cell? ⟨w.heap.size,1,none⟩=some (.int .i64 st.tok.at_):=zB n1
 have q2:w1.cell? ⟨w.heap.size,2,none⟩=some (.string (R.str st.tok.raw)):=zB n1
 have HG:Y (w.grownBy w1 (some rb)):=zD (zL _ _ _) aa
 have J1:Y _:=I1
 have H4:=H3.o
 clear n1 aa I1 H3
 generalize qg s.data.toList st (st.tok.k == 3)=st' at*
 cases hb:st'.broken
 ·rw[hb] at HS
  simp only[zb2,if_false] at HS
  have h2:=H4 hb
  clear H4 hb
  go_wp2
  go_region
  go_wp2
  go_ret2
  refine⟨?_,by rw[HS.o];exact J1.o.keep (zg _),zD HG.o (zb (zg _) _)⟩
  rw[HS.o]
  exact ztB (by rw[fN,R.str_toList,show st.tok.raw.length - 1 - 1=st.tok.raw.length - 2 by omega]) rfl
 ·rw[hb] at HS
  simp only[if_true] at HS
  clear H4 hb
  go_wp2
  go_region
  go_wp2
  go_ret2
  exact⟨by rw[HS.o];rfl,by rw[HS.o];exact J1.o.keep (zg _),zD HG.o (zb (zg _) _)⟩
theorem zmQ:∀(l:List UInt8) (n:Nat),l.all (fun c=>R.digitI c.toNat)=true->(n:Int)*10 ^ l.length+10 ^ l.length<=1000000000000->∃m:Nat,Lib.decFrom n l=some m/\l.foldl R.numStep n=m/\(m:Int)<(n+1)*10 ^ l.length:=by
 intro l
 induction l with
 | nil=>intro n _ _;exact⟨n,rfl,rfl,by simp;omega⟩
 | cons c l ih=>
  intro n hd hb
  rw[List.all_cons,Bool.and_eq_true] at hd
  obtain⟨h1,h2⟩:=hd
  unfold R.digitI at h1
  simp only[Bool.and_eq_true,decide_eq_true_eq] at h1
  rw[zoF,Int.pow_succ] at hb
  have hp:(1:Int)<=10 ^ l.length:=Int.pow_pos (by decide)
  have aa:Lib.digitVal c=some (c.toNat - 48):=by unfold Lib.digitVal;rw[if_pos (by omega)]
  have af:(n:Int)<=100000000000:=by
   have:(n:Int)*10<=n*(10 ^ l.length*10):=by
    apply Int.mul_le_mul_of_nonneg_left <;> omega
   omega
  have ae:R.numStep n c=((n*10+(c.toNat - 48):Nat):Int):=by
   unfold R.numStep
   have e1:wrap64 (10*(n:Int))=10*n:=IntWalk.wrap64_in _ ⟨by omega,by omega⟩
   rw[e1,show((c.toNat:Int) - 48) % 256=c.toNat - 48 by omega,IntWalk.wrap64_in _ ⟨by omega,by omega⟩]
   omega
  have ad:((n*10+(c.toNat - 48):Nat):Int)+1<=(n+1)*10:=by omega
  have ab:((n*10+(c.toNat - 48):Nat):Int)*10 ^ l.length+10 ^ l.length<=(n+1)*10*10 ^ l.length:=by
   have:(((n*10+(c.toNat - 48):Nat):Int)+1)*10 ^ l.length<=((n+1)*10)*10 ^ l.length:=Int.mul_le_mul_of_nonneg_right ad (by omega)
   rw[Int.add_mul,Int.one_mul] at this;exact this
  have ag:((n:Int)+1)*10*10 ^ l.length=n*(10 ^ l.length*10)+10 ^ l.length*10:=by
   rw[Int.mul_assoc,Int.mul_comm 10,Int.add_mul,Int.one_mul]
  obtain⟨m,q1,q2,q3⟩:=ih (n*10+(c.toNat - 48)) h2 (by omega)
  refine⟨m,?_,?_,?_⟩
  ·rw[Lib.decFrom,aa];exact q1
  ·rw[List.foldl_cons,ae];exact q2
  ·rw[zoF,Int.pow_succ]
   have hq:(((n*10+(c.toNat - 48):Nat):Int)+1)*10 ^ l.length<=(n+1)*(10 ^ l.length*10):=by
    rw[Int.add_mul,Int.one_mul]
    have:((n:Int)+1)*(10 ^ l.length*10)=(n+1)*10*10 ^ l.length:=by rw[Int.mul_assoc,Int.mul_comm 10]
    rw[this];exact ab
   omega
theorem zkL (l:List UInt8)(hl:l.length<=5)(h1:1<=l.length)(hd:l.all (fun c=>R.digitI c.toNat)=true):Lib.atoi l=some (R.num l)/\0<=R.num l/\R.num l<=99999:=by
 have hp:(10:Int) ^ l.length<=100000:=by
  have:∀n:Fin 6,(10:Int) ^ n.val<=100000:=by decide
  exact this ⟨l.length,by omega⟩
 obtain⟨m,q1,q2,q3⟩:=zmQ l 0 hd (by simp;omega)
 have hn:R.num l=m:=q2
 refine⟨?_,by omega,by simp at q3;omega⟩
 match l,h1 with
 | c :: r,_=>
  have hc:R.digitI c.toNat=true:=by rw[List.all_cons,Bool.and_eq_true] at hd;exact hd.1
  unfold R.digitI at hc
  simp only[Bool.and_eq_true,decide_eq_true_eq] at hc
  have n1:(c == 45)=false:=by rw[beq_eq_false_iff_ne];intro e;subst e;exact absurd hc.1 (by decide)
  have n2:(c == 43)=false:=by rw[beq_eq_false_iff_ne];intro e;subst e;exact absurd hc.1 (by decide)
  unfold Lib.atoi
  simp only
  rw[n1,n2]
  simp only[zb2,if_false]
  unfold Lib.decNat
  simp only[List.isEmpty_cons,zb2,if_false]
  rw[q1,hn];rfl
theorem ze3 (l:List UInt8)(h:(qU l).2=2):(qU l).1=R.span R.digitI l/\1<=R.span R.digitI l/\R.span R.digitI l<=5:=by
 unfold qU at h ⊢
 match l with
 | []=>simp at h
 | c :: r=>
  simp only at h ⊢
  split
  ·rename_i h1;rw[if_pos h1] at h;simp at h
  ·rename_i h1
   rw[if_neg h1] at h
   split
   ·rename_i h2
    rw[if_pos h2] at h
    unfold yD at h ⊢
    split
    ·rename_i h3;rw[if_pos h3] at h;simp at h
    ·rename_i h3
     exact⟨rfl,by rw[R.span,if_pos h2];omega,by omega⟩
   ·rename_i h2
    rw[if_neg h2] at h
    split
    ·rename_i h3
     rw[if_pos h3] at h
     unfold yO at h;split at h <;> simp at h
    ·rename_i h3
     rw[if_neg h3] at h
     split at h <;> simp at h
theorem zbJ (p:Int->Bool)(l:List UInt8):(l.take (R.span p l)).all (fun c=>p c.toNat)=true:=by
 induction l with
 | nil=>rfl
 | cons c l ih=>
  rw[R.span]
  split
  ·rename_i h;rw[List.take_succ_cons,List.all_cons,h,ih];rfl
  ·simp
theorem PInv.two {w:World}{rb:Nat}{s:ByteArray}{st:P.St}(h:PInv w rb s st)(hk:st.tok.k=2):st.tok.raw.length<=5/\Lib.atoi st.tok.raw=some (R.num st.tok.raw)/\0<=R.num st.tok.raw/\R.num st.tok.raw<=99999:=by
 obtain⟨p,hp,e⟩:=h.tok
 rw[e] at hk ⊢
 unfold zp at hk ⊢
 simp only at hk ⊢
 obtain⟨h1,h2,h3⟩:=ze3 _ hk
 have h4:=kN (s.data.toList.drop (qI s.data.toList p))
 rw[h1] at h4 ⊢
 have hl:((s.data.toList.drop (qI s.data.toList p)).take (R.span R.digitI (s.data.toList.drop (qI s.data.toList p)))).length=R.span R.digitI (s.data.toList.drop (qI s.data.toList p)):=by rw[List.length_take];omega
 exact⟨by rw[hl];exact h3,zkL _ (by rw[hl];exact h3) (by rw[hl];exact h2) (zbJ _ _)⟩
def xB (l:List UInt8)(st:P.St):Int×P.St:=
 (if (qg l st (st.tok.k == 2)).broken then 0 else R.num st.tok.raw,qg l st (st.tok.k == 2))
theorem uX (w:World)(e:TypeId)(s:ByteArray):w.grownBy (Lib.bytesWorld w e s) none:=
 ⟨rfl,rfl,rfl,by rw[Lib.bytesWorld_size];omega,fun k hk _=>Lib.bytesWorld_at_old w e s k hk⟩
theorem ud {w:World}{rb:Nat}{s:ByteArray}{st:P.St}(h:PInv w rb s st) :
  Calls Tryz.prog 327 #[.pointer (some ⟨rb,0,none⟩)] w fun e w'=>e = .returned (.tuple #[.int .i64 (xB s.data.toList st).1,.int .i64 st.tok.at_])/\PInv w' rb s (xB s.data.toList st).2/\w.grownBy w' (some rb)/\0<=(xB s.data.toList st).1/\(xB s.data.toList st).1<=99999:=by
 have c1:w.cell? ⟨rb,1,none⟩=some (.int .i64 st.tok.k):=zB h.rd
 have c2:w.cell? ⟨rb,2,none⟩=some (.int .i64 st.tok.at_):=zB h.rd
 have c3:w.cell? ⟨rb,3,none⟩=some (.string (R.str st.tok.raw)):=zB h.rd
 have ah:=zI h.rd
 have aj:=h.len
 have ai:=h.bd
 have HS:Y (xB s.data.toList st=(if (qg s.data.toList st (st.tok.k == 2)).broken then 0 else R.num st.tok.raw,qg s.data.toList st (st.tok.k == 2))):=rfl
 have H3:Y ((qg s.data.toList st (st.tok.k == 2)).broken=false->st.tok.raw.length<=5/\Lib.atoi st.tok.raw=some (R.num st.tok.raw)/\0<=R.num st.tok.raw/\R.num st.tok.raw<=99999):=fun hb=>by
  apply h.two
  apply Classical.byContradiction;intro hk
  unfold qg at hb
  rw[if_neg (by intro c;exact hk (by simpa using c.1))] at hb
  simp at hb
 have H0:Y _:=h
 clear h
 go_enter Tryz.func327,Tryz.ntmps327
 go_wp2_with fail
 refine(tH (H0.o.keep (zL _ _ _)) (st.tok.k == 2)).mono ?_
 rintro e w1 ⟨rfl,I1,ab⟩
 have n1:=qz ab (by simp;omega)
 have q1:w1.cell? ⟨w.heap.size,1,none⟩=some (.int .i64 st.tok.at_):=zB n1
 have q2:w1.cell? ⟨w.heap.size,2,none⟩=some (.string (R.str st.tok.raw)):=zB n1
 have HN:Y _:=n1
 have HG:Y (w.grownBy w1 (some rb)):=zD (zL _ _ _) ab
 have J1:Y _:=I1
 have H4:=H3.o
 clear n1 ab I1 H3
 generalize qg s.data.toList st (st.tok.k == 2)=st' at*
 cases hb:st'.broken
 ·rw[hb] at HS
  simp only[zb2,if_false] at HS
  obtain⟨h5,ha,af,ag⟩:=H4 hb
  have HA:Y (∀w,Calls Tryz.prog 236 #[.string (R.str st.tok.raw)] w fun e w'=>e = .returned (.tuple #[.int .i64 (R.num st.tok.raw),.nilIface])/\∃t,w'=Lib.bytesWorld w 5 t):=fun w=>
   Tryz.strconv_Atoi (R.str st.tok.raw) _ (by rw[R.str_size];omega) (by rw[R.str_toList];exact ha) w
  clear H4 hb ha
  go_wp2_with fail
  refine(HA.o _).mono ?_
  rintro e w2 ⟨rfl,t,ad⟩
  have aa:w1.grownBy w2 none:=by rw[ad];exact uX _ _ _
  have p1:w2.cell? ⟨w.heap.size,1,none⟩=some (.int .i64 st.tok.at_):=zB (zF HN.o aa (by simp))
  have J2:Y _:=J1.o.keep aa
  have ae:Y _:=zD HG.o (zb aa _)
  clear ad aa
  go_wp2
  go_region
  go_wp2
  go_ret2
  exact⟨by rw[HS.o];rfl,by rw[HS.o];exact J2.o.keep (zg _),zD ae.o (zb (zg _) _),by rw[HS.o];exact af,by rw[HS.o];exact ag⟩
 ·rw[hb] at HS
  simp only[if_true] at HS
  clear H4 hb
  go_wp2
  go_region
  go_wp2
  go_ret2
  exact⟨by rw[HS.o];rfl,by rw[HS.o];exact J1.o.keep (zg _),zD HG.o (zb (zg _) _),by rw[HS.o];exact Int.le_refl _,by rw[HS.o];show(0:Int)<=99999;decide⟩
def xZ (st:P.St)(e a:Int):P.St:=
 if st.err=0\/a<st.fat\/(a=st.fat/\e<st.err) then { st with err:=e,fat:=a } else st
def zt (st:P.St)(b:Bool)(e a:Int):P.St:=if b then xZ st e a else st
def qE (st:P.St)(have_ most:Int):P.St:=zt st (decide (most<=have_)) 3 st.tok.at_
theorem PInv.noted {w w':World}{rb:Nat}{s:ByteArray}{st:P.St}{e a:Int}(h:PInv w rb s st)
  (hr:w'.heap[rb]?=some (.cells #[.string s,.int .i64 st.tok.k,.int .i64 st.tok.at_,.string (R.str st.tok.raw),.bool st.broken,.int .i64 e,.int .i64 a] 204 (0,0))):PInv w' rb s { st with err:=e,fat:=a }:=
 ⟨hr,h.len,h.tok⟩
theorem zpZ {w:World}{rb:Nat}{s:ByteArray}{st:P.St}(h:PInv w rb s st)(e0 a0:Int) :
  Calls Tryz.prog 324 #[.pointer (some ⟨rb,0,none⟩),.int .i64 e0,.int .i64 a0] w fun e w'=>e = .returned (.tuple #[])/\PInv w' rb s (xZ st e0 a0)/\w.grownBy w' (some rb):=by
 have c5:w.cell? ⟨rb,5,none⟩=some (.int .i64 st.err):=zB h.rd
 have c6:w.cell? ⟨rb,6,none⟩=some (.int .i64 st.fat):=zB h.rd
 have f5:w.frozen? ⟨rb,5,none⟩=false:=zH h.rd
 have f6:w.frozen? ⟨rb,6,none⟩=false:=zH h.rd
 have ad:=zI h.rd
 have ab:w.grownBy (w.alloc (.cells #[.int .i64 st.err,.int .i64 st.fat] 202)) none:=zL _ _ _
 have H0:Y _:=h
 clear h
 have ae:Y (∀w',w'.heap[rb]?=some (.cells #[.string s,.int .i64 st.tok.k,.int .i64 st.tok.at_,.string (R.str st.tok.raw),.bool st.broken,.int .i64 e0,.int .i64 a0] 204 (0,0))->PInv w' rb s { st with err:=e0,fat:=a0 }):=fun w' hr=>H0.o.noted hr
 by_cases hE:st.err=0
 ·have HN:Y (xZ st e0 a0={ st with err:=e0,fat:=a0 }):=by show xZ _ _ _=_;unfold xZ;rw[if_pos (Or.inl hE)]
  have g1:(st.err == 0)=true:=by rw[hE];rfl
  clear hE
  go_enter Tryz.func324,Tryz.ntmps324
  go_wp2
  go_end0
  have aa:w.grownBy (((w.setCell ⟨rb,5,none⟩ (.int .i64 e0)).setCell ⟨rb,6,none⟩ (.int .i64 a0)).alloc (.cells #[.int .i64 st.err,.int .i64 st.fat] 202)) (some rb):=zD (zD (zG _ _ _ _) (zG _ _ _ _)) (zL _ _ _)
  refine⟨rfl,?_,aa⟩
  rw[HN.o]
  apply ae.o
  rw[Below.heap_alloc _ _ _ (by simp[World.setCell];exact ad)]
  exact zR (zR H0.o.rd _) _
 ·have g1:(st.err == 0)=false:=by rw[beq_eq_false_iff_ne];exact hE
  by_cases ha:a0<st.fat
  ·have HN:Y (xZ st e0 a0={ st with err:=e0,fat:=a0 }):=by show xZ _ _ _=_;unfold xZ;rw[if_pos (Or.inr (Or.inl ha))]
   clear hE
   go_enter Tryz.func324,Tryz.ntmps324
   go_wp2
   go_end0
   have aa:w.grownBy (((w.setCell ⟨rb,5,none⟩ (.int .i64 e0)).setCell ⟨rb,6,none⟩ (.int .i64 a0)).alloc (.cells #[.int .i64 st.err,.int .i64 st.fat] 202)) (some rb):=zD (zD (zG _ _ _ _) (zG _ _ _ _)) (zL _ _ _)
   refine⟨rfl,?_,aa⟩
   rw[HN.o]
   apply ae.o
   rw[Below.heap_alloc _ _ _ (by simp[World.setCell];exact ad)]
   exact zR (zR H0.o.rd _) _
  ·by_cases hq:a0=st.fat
   ·have g2:(a0 == st.fat)=true:=by rw[hq];simp
    by_cases he:e0<st.err
    ·have HN:Y (xZ st e0 a0={ st with err:=e0,fat:=a0 }):=by show xZ _ _ _=_;unfold xZ;rw[if_pos (Or.inr (Or.inr ⟨hq,he⟩))]
     clear hE hq
     go_enter Tryz.func324,Tryz.ntmps324
     go_wp2
     go_end0
     have aa:w.grownBy (((w.setCell ⟨rb,5,none⟩ (.int .i64 e0)).setCell ⟨rb,6,none⟩ (.int .i64 a0)).alloc (.cells #[.int .i64 st.err,.int .i64 st.fat] 202)) (some rb):=zD (zD (zG _ _ _ _) (zG _ _ _ _)) (zL _ _ _)
     refine⟨rfl,?_,aa⟩
     rw[HN.o]
     apply ae.o
     rw[Below.heap_alloc _ _ _ (by simp[World.setCell];exact ad)]
     exact zR (zR H0.o.rd _) _
    ·have HN:Y (xZ st e0 a0=st):=by show xZ _ _ _=_;unfold xZ;rw[if_neg (by intro c;rcases c with c | c | c;exact hE c;exact ha c;exact he c.2)]
     clear hE hq
     go_enter Tryz.func324,Tryz.ntmps324
     go_wp2
     go_end0
     exact⟨rfl,by rw[HN.o];exact H0.o.keep ab,zb ab _⟩
   ·have g2:(a0 == st.fat)=false:=by rw[beq_eq_false_iff_ne];exact hq
    have HN:Y (xZ st e0 a0=st):=by show xZ _ _ _=_;unfold xZ;rw[if_neg (by intro c;rcases c with c | c | c;exact hE c;exact ha c;exact hq c.1)]
    clear hE hq
    go_enter Tryz.func324,Tryz.ntmps324
    go_wp2
    go_end0
    exact⟨rfl,by rw[HN.o];exact H0.o.keep ab,zb ab _⟩
theorem yW {w:World}{rb:Nat}{s:ByteArray}{st:P.St}(h:PInv w rb s st)(b:Bool)(e0 a0:Int) :
  Calls Tryz.prog 265 #[.pointer (some ⟨rb,0,none⟩),.bool b,.int .i64 e0,.int .i64 a0] w fun e w'=>e = .returned (.tuple #[])/\PInv w' rb s (zt st b e0 a0)/\w.grownBy w' (some rb):=by
 have HN:Y (zt st b e0 a0=if b then xZ st e0 a0 else st):=rfl
 have H0:Y _:=h
 clear h
 cases b
 ·simp only[zb2,if_false] at HN
  go_enter Tryz.func265,Tryz.ntmps265
  go_wp2
  go_end0
  exact⟨rfl,by rw[HN.o];exact H0.o,ze _ _⟩
 ·simp only[if_true] at HN
  go_enter Tryz.func265,Tryz.ntmps265
  go_wp2_with fail
  refine(zpZ H0.o _ _).mono ?_
  rintro e w1 ⟨rfl,I1,aa⟩
  go_wp2
  go_end0
  exact⟨rfl,by rw[HN.o];exact I1,aa⟩
theorem vd {w:World}{rb:Nat}{s:ByteArray}{st:P.St}(h:PInv w rb s st)(n m:Int) :
  Calls Tryz.prog 205 #[.pointer (some ⟨rb,0,none⟩),.int .i64 n,.int .i64 m] w fun e w'=>e = .returned (.tuple #[])/\PInv w' rb s (qE st n m)/\w.grownBy w' (some rb):=by
 have c2:w.cell? ⟨rb,2,none⟩=some (.int .i64 st.tok.at_):=zB h.rd
 have HN:Y (qE st n m=zt st (decide (m<=n)) 3 st.tok.at_):=rfl
 have H0:Y _:=h
 clear h
 go_enter Tryz.func205,Tryz.ntmps205
 go_wp2_with fail
 refine(yW H0.o _ _ _).mono ?_
 rintro e w1 ⟨rfl,I1,aa⟩
 go_wp2
 go_end0
 exact⟨rfl,by rw[HN.o];exact I1,aa⟩
end Go.Proofs.YtfocdefchbnkpaaGreatDoor
