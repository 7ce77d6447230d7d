/- Each request goes by the policy that the yard had when its head was at its end. -/
import Derived.Test.YtfocdefchbnkpaaGreatDoorAli
import Derived.Test.YtfocdefchbnkpaaGreatDoorKeA
set_option maxRecDepth 100000
set_option maxHeartbeats 20000000
namespace Go.Proofs.YtfocdefchbnkpaaGreatDoor
open Go.RowKit
def Yd.isNew (y:Yd):Bool:=decide (y.draws=[]) && (match y.conns with | [some (.hd h)]=>decide (h.size=0) && (decide (h.line=[]) && (decide (h.method=[]) && (decide (h.target=[]) && decide (h.headers=[])))) | _=>false)
theorem q2q {y:Yd}(h:y.isNew=true):y.told=Yd.new.opened:=by
 unfold Yd.isNew at h
 obtain⟨d,c,s⟩:=y
 simp only[Bool.and_eq_true,decide_eq_true_eq] at h
 obtain⟨h1,h2⟩:=h
 subst h1
 split at h2
 ·rename_i _ hh
  simp only[Bool.and_eq_true,decide_eq_true_eq] at h2
  obtain⟨q1,q2,q3,q4,q5⟩:=h2
  obtain⟨z1,z2,z3,z4,z5⟩:=hh
  simp only at q1 q2 q3 q4 q5
  subst q1;subst q2;subst q3;subst q4;subst q5
  rfl
 ·cases h2
def Sw.s:List UInt8:=[80,85,84,32,47,32,72,84,84,80,47,49,46,49,13,10,104,111,115,116,58,32,104,13,10,99,111,110,116,101,110,116,45,108,101,110,103,116,104,58,32,57,13,10,13,10,49,50,51,52,53,54,55,56,57]
def Sw.tA:List UInt8:=[104,111,115,116,34,42,34,123,114,117,108,101,32,49,123,112,97,116,104,34,47,34,59,116,111,34,97,34,49,59,125,125]
def Sw.tB:List UInt8:=[104,111,115,116,34,42,34,123,114,117,108,101,32,49,123,112,97,116,104,34,47,34,59,116,111,34,98,34,49,59,125,125]
def Sw.hA:List P.Hst:=[⟨[42],[⟨1,[47],[],[([97],1)],[],[],[]⟩]⟩]
theorem q57q:xm Sw.tA=(0,0):=by decide +kernel
theorem q66q:xG Sw.tA=qE Sw.hA:=by decide +kernel
theorem q69q:xr (xG Sw.tA)=Sw.hA:=by kernel_rfl
theorem q3q:VHs Sw.hA:=by have:=(zkA (l:=Sw.tA) (by rw[q57q])).1;rw[q69q] at this;exact this
theorem q7q:Fits Sw.hA:=zoX (by decide +kernel)
def Sw.hB:List P.Hst:=[⟨[42],[⟨1,[47],[],[([98],1)],[],[],[]⟩]⟩]
theorem q58q:xm Sw.tB=(0,0):=by decide +kernel
theorem q67q:xG Sw.tB=qE Sw.hB:=by decide +kernel
theorem q70q:xr (xG Sw.tB)=Sw.hB:=by kernel_rfl
theorem q4q:VHs Sw.hB:=by have:=(zkA (l:=Sw.tB) (by rw[q58q])).1;rw[q70q] at this;exact this
theorem q8q:Fits Sw.hB:=zoX (by decide +kernel)
def Sw.y0:Yd:=Yd.new.opened
def Sw.yk (k:Nat):Yd:=(Sw.y0.fedP Sw.hA 0 (Sw.s.take k)).told
theorem q71q:(Sw.y0.fed0 0 Sw.s).sent=[⟨1,[],Yd.noPolicy⟩]/\(Sw.y0.fed0 0 Sw.s).told=Sw.y0:=⟨by decide +kernel,q2q (by decide +kernel)⟩
theorem sw_a:(Sw.y0.fedP Sw.hA 0 Sw.s).sent=[⟨1,[97],Sw.s⟩]/\(Sw.y0.fedP Sw.hA 0 Sw.s).told=Sw.y0:=⟨by decide +kernel,q2q (by decide +kernel)⟩
theorem sw_b:(Sw.y0.fedP Sw.hB 0 Sw.s).sent=[⟨1,[98],Sw.s⟩]/\(Sw.y0.fedP Sw.hB 0 Sw.s).told=Sw.y0:=⟨by decide +kernel,q2q (by decide +kernel)⟩
theorem q47q:∀k,k<55->(Sw.y0.fedP Sw.hA 0 (Sw.s.take k)).sent=[]/\(Sw.yk k).isOpen 1=true/\(Sw.yk k).draws.length<=1000:=by decide +kernel
theorem q59q:∀k,k<55->((Sw.yk k).fedP Sw.hB 0 (Sw.s.drop k)).sent=[⟨1,if k<46 then [98] else [97],Sw.s⟩]/\((Sw.yk k).fedP Sw.hB 0 (Sw.s.drop k)).isNew=true:=by decide +kernel
theorem q54q (hs:List P.Hst):8<=(qE hs).length:=by
 unfold qE qo zL yW
 simp only[zW,zm,qi]
 omega
theorem q1q {w:World}{yb:Nat}{ps:List (Option Nat)}{a:Option Addr}{k:Nat}{e:Ev}(h:Held w yb ps (.slice a 1 k) [e]):∃g,a=some ⟨g,0,none⟩/\∀j,j<3->w.cell? ⟨g,j,none⟩=(Ev.cells e)[j]?:=by
 obtain⟨g,gc,e1,_,_⟩:=World.ownsRow.form h.row (by show 0<1;decide)
 simp only[qc] at e1
 obtain⟨rfl,_,_⟩:=e1
 refine⟨g,rfl,fun j hj=>?_⟩
 have:=xd h.row j (by show j<1*3;omega)
 rw[this]
 show(Ev.cells e++[])[j]?=_
 rw[xn]
theorem q46q {w:World}(G:G3 w)(n ak:Int)(hn:-9223372036854775808<=n/\n<=9223372036854775807)(bu:-9223372036854775808<=ak/\ak<=9223372036854775807) :
  Calls Tryz.prog 13 #[.int .i64 n,.int .i64 ak] w fun e w'=>e = .returned (.bool true)/\w.grownBy w' none:=by
 have bf:=hid (zkV G)
 have bg:Y (∀W,w.grownBy W none->Calls Tryz.prog 33 #[] W fun e w'=>∃yb,e = .returned (.pointer (some ⟨yb,0,none⟩))/\Y (KY W w' yb (.pointer none) [] Yd.new)):=fun W hW=>by
  refine(zpE W).mono ?_
  rintro e w' ⟨yb,q1,q2,q3,q4,_⟩
  exact⟨yb,q1,⟨q3,q4,rfl,YOk.new⟩⟩
 have bh:Y (∀w1 W yb,KY w1 W yb (.pointer none) [] Yd.new->Calls Tryz.prog 24 #[.pointer (some ⟨yb,0,none⟩)] W fun e w'=>e = .returned (.tuple #[.int .i64 1,.int .i64 0])/\Y (KY w1 w' yb (.pointer none) [some W.heap.size] Sw.y0)):=fun w1 W yb h=>by
  refine(znB h.inv rfl (by decide) h.gr.size).mono ?_
  rintro e w' ⟨q1,q2,q3⟩
  exact⟨q1,h.move q3 q2 rfl YOk.new.opened⟩
 have bk:Y (∀w1 W yb ps,w.grownBy w1 none->KY w1 W yb (.pointer none) ps Sw.y0->Calls Tryz.prog 18 #[.string (R.str Sw.tA)] W fun e w'=>∃a k,e = .returned (.tuple #[.slice a (qE Sw.hA).length k,.int .i64 0,.int .i64 0])/\Y (KY w1 w' yb (.pointer none) ps Sw.y0)/\Y (Kb w' yb ps (.slice a (qE Sw.hA).length k) (qE Sw.hA))):=fun w1 W yb ps hg hK=>by
  have h1:=fk (R.str Sw.tA) W (by rw[R.str_size];decide) (G.grown (zA hg hK.gr)).glob
  rw[R.str_toList,q57q,q66q] at h1
  refine h1.mono ?_
  rintro e w' ⟨a,k,q1,q2,q3⟩
  exact⟨a,k,q1,(hK.grown q3).1,Kb.fresh hK q3 q2⟩
 have bl:Y (∀w1 W yb ps,w.grownBy w1 none->KY w1 W yb (.pointer none) ps Sw.y0->Calls Tryz.prog 18 #[.string (R.str Sw.tB)] W fun e w'=>∃a k,e = .returned (.tuple #[.slice a (qE Sw.hB).length k,.int .i64 0,.int .i64 0])/\Y (KY w1 w' yb (.pointer none) ps Sw.y0)/\Y (Kb w' yb ps (.slice a (qE Sw.hB).length k) (qE Sw.hB))/\YMv W w' yb ps ps):=fun w1 W yb ps hg hK=>by
  have h1:=fk (R.str Sw.tB) W (by rw[R.str_size];decide) (G.grown (zA hg hK.gr)).glob
  rw[R.str_toList,q58q,q67q] at h1
  refine h1.mono ?_
  rintro e w' ⟨a,k,q1,q2,q3⟩
  exact⟨a,k,q1,(hK.grown q3).1,Kb.fresh hK q3 q2,(hK.grown q3).2⟩
 have bo:Y (∀w1 W yb ps,w.grownBy w1 none->KY w1 W yb (.pointer none) ps Sw.y0->ps.length<=1000000->Calls Tryz.prog 23 #[.pointer (some ⟨yb,0,none⟩),.string (R.str Sw.s)] W fun e w'=>∃a k ps',e = .returned (.slice a 1 k)/\Y (KY w1 w' yb (.pointer none) ps' Sw.y0)/\YMv W w' yb ps ps'/\Y (Held w' yb ps' (.slice a 1 k) [⟨1,[],Yd.noPolicy⟩])/\ps'.length=ps.length):=fun w1 W yb ps hg hK hl=>by
  refine(q55q (G.grown hg) hK Sw.s (by decide) (by decide) (by decide) hl).mono ?_
  rintro e w' ⟨a,k,ps',q1,q2,q3,q4,q5⟩
  rw[q71q.1] at q1 q4
  rw[q71q.2] at q2
  exact⟨a,k,ps',q1,q2,q3,q4,q5⟩
 have bp:Y (∀w1 W yb tv ps,w.grownBy w1 none->KY w1 W yb tv ps Sw.y0->TabAt W tv Sw.hA->ps.length<=1000000->Calls Tryz.prog 23 #[.pointer (some ⟨yb,0,none⟩),.string (R.str Sw.s)] W fun e w'=>∃a k ps',e = .returned (.slice a 1 k)/\Y (KY w1 w' yb tv ps' Sw.y0)/\TabAt w' tv Sw.hA/\YMv W w' yb ps ps'/\Y (Held w' yb ps' (.slice a 1 k) [⟨1,[97],Sw.s⟩])/\ps'.length=ps.length):=fun w1 W yb tv ps hg hK hT hl=>by
  refine(zkW (G.grown hg) hK hT q7q q3q.ok Sw.s (by decide) (by decide) (by decide) (by decide) hl).mono ?_
  rintro e w' ⟨a,k,ps',q1,q2,q3,q4,q5,q6⟩
  rw[sw_a.1] at q1 q5
  rw[sw_a.2] at q2
  exact⟨a,k,ps',q1,q2,q3,q4,q5,q6⟩
 have ao:Y (∀w1 W yb tv ps,w.grownBy w1 none->KY w1 W yb tv ps Sw.y0->TabAt W tv Sw.hB->ps.length<=1000000->Calls Tryz.prog 23 #[.pointer (some ⟨yb,0,none⟩),.string (R.str Sw.s)] W fun e w'=>∃a k ps',e = .returned (.slice a 1 k)/\Y (KY w1 w' yb tv ps' Sw.y0)/\TabAt w' tv Sw.hB/\YMv W w' yb ps ps'/\Y (Held w' yb ps' (.slice a 1 k) [⟨1,[98],Sw.s⟩])/\ps'.length=ps.length):=fun w1 W yb tv ps hg hK hT hl=>by
  refine(zkW (G.grown hg) hK hT q8q q4q.ok Sw.s (by decide) (by decide) (by decide) (by decide) hl).mono ?_
  rintro e w' ⟨a,k,ps',q1,q2,q3,q4,q5,q6⟩
  rw[sw_b.1] at q1 q5
  rw[sw_b.2] at q2
  exact⟨a,k,ps',q1,q2,q3,q4,q5,q6⟩
 have bq:Y (∀w1 W yb tv ps k,w.grownBy w1 none->KY w1 W yb tv ps Sw.y0->TabAt W tv Sw.hA->ps.length<=1000000->k<55->Calls Tryz.prog 23 #[.pointer (some ⟨yb,0,none⟩),.string ((R.str Sw.s).extract 0 k)] W fun e w'=>∃a k' ps',e = .returned (.slice a 0 k')/\Y (KY w1 w' yb tv ps' (Sw.yk k))/\YMv W w' yb ps ps'/\ps'.length=ps.length):=fun w1 W yb tv ps k hg hK hT hl hk=>by
  rw[q65q]
  refine(zkW (G.grown hg) hK hT q7q q3q.ok (Sw.s.take k) (by decide) (by rw[List.length_take];have:Sw.s.length=55:=rfl;omega) (by decide) (by decide) hl).mono ?_
  rintro e w' ⟨a,k',ps',q1,q2,q3,q4,q5,q6⟩
  rw[(q47q k hk).1] at q1
  exact⟨a,k',ps',q1,q2,q4,q6⟩
 have br:Y (∀w1 W yb tv ps k,w.grownBy w1 none->KY w1 W yb tv ps (Sw.yk k)->TabAt W tv Sw.hB->ps.length<=1000000->k<55->Calls Tryz.prog 23 #[.pointer (some ⟨yb,0,none⟩),.string ((R.str Sw.s).extract k 55)] W fun e w'=>∃a k' ps',e = .returned (.slice a 1 k')/\Y (KY w1 w' yb tv ps' Sw.y0)/\TabAt w' tv Sw.hB/\YMv W w' yb ps ps'/\Y (Held w' yb ps' (.slice a 1 k') [⟨1,if k<46 then [98] else [97],Sw.s⟩])/\ps'.length=ps.length):=fun w1 W yb tv ps k hg hK hT hl hk=>by
  have ed:(R.str Sw.s).extract k 55=R.str (Sw.s.drop k):=q64q Sw.s k
  rw[ed]
  refine(zkW (G.grown hg) hK hT q8q q4q.ok (Sw.s.drop k) (q47q k hk).2.1 (by rw[List.length_drop];have:Sw.s.length=55:=rfl;omega) (by show 0<=10000000;decide) (by have:=(q47q k hk).2.2;omega) hl).mono ?_
  rintro e w' ⟨a,k',ps',q1,q2,q3,q4,q5,q6⟩
  rw[(q59q k hk).1] at q1 q5
  rw[q2q (q59q k hk).2] at q2
  exact⟨a,k',ps',q1,q2,q3,q4,q5,q6⟩
 have bm:Y (∀w1 W yb tv ps y v,w.grownBy w1 none->KY w1 W yb tv ps y->Kb W yb ps v (qE Sw.hA)->Calls Tryz.prog 22 #[.pointer (some ⟨yb,0,none⟩),v] W fun e w'=>e = .returned (.int .i64 0)/\∃tv',Y (KY w1 w' yb tv' ps y)/\TabAt w' tv' Sw.hA/\YMv W w' yb ps ps):=fun w1 W yb tv ps y v hg hK hb=>hK.push (G.grown hg) hb q3q q7q
 have bn:Y (∀w1 W yb tv ps y v,w.grownBy w1 none->KY w1 W yb tv ps y->Kb W yb ps v (qE Sw.hB)->Calls Tryz.prog 22 #[.pointer (some ⟨yb,0,none⟩),v] W fun e w'=>e = .returned (.int .i64 0)/\∃tv',Y (KY w1 w' yb tv' ps y)/\TabAt w' tv' Sw.hB/\YMv W w' yb ps ps):=fun w1 W yb tv ps y v hg hK hb=>hK.push (G.grown hg) hb q4q q8q
 have aq:Y (∀w1 W yb tv ps v,w.grownBy w1 none->KY w1 W yb tv ps Sw.y0->Kb W yb ps v [83,89,49]->Calls Tryz.prog 22 #[.pointer (some ⟨yb,0,none⟩),v] W fun e w'=>e = .returned (.int .i64 6)/\Y (KY w1 w' yb tv ps Sw.y0)/\YMv W w' yb ps ps):=fun w1 W yb tv ps v hg hK hb=>by
  refine(hK.push_no (G.grown hg) hb (by decide) (fun hs _ e=>by have h1:=q54q hs;rw[e] at h1;exact absurd h1 (by decide))).mono ?_
  rintro e w' ⟨q1,q2,q3,_⟩
  exact⟨q1,q2,q3⟩
 have bi:Y (∀W,Calls Tryz.prog 21 #[.int .i64 ak,.int .i64 55] W fun e w'=>e = .returned (.int .i64 (Kp.pick ak 55:Nat))/\w'=W):=fun W=>q52q ak 55 W bu (by decide)
 have bj:Y (∀W,Calls Tryz.prog 21 #[.int .i64 n,.int .i64 2] W fun e w'=>e = .returned (.int .i64 (Kp.pick n 2:Nat))/\w'=W):=fun W=>q52q n 2 W hn (by decide)
 have hk:Kp.pick ak 55<55:=Kp.pick_lt ak (by decide)
 have hj:Kp.pick n 2<2:=Kp.pick_lt n (by decide)
 generalize Kp.pick ak 55=k at*
 generalize Kp.pick n 2=j at*
 have bV:(k:Int)<=55:=by omega
 clear hn bu
 go_enter Tryz.func13,Tryz.ntmps13
 go_wp2_with fail
 refine bf.o.mono ?_
 rintro e w1 ⟨rfl,g1⟩
 have G1:=hid g1
 have HC:=hid (bg.o w1 g1)
 clear bf bg g1
 go_wp2_with fail
 refine HC.o.mono ?_
 rintro e w2 ⟨yb,rfl,K2⟩
 have a6:=hid (bh.o w1 w2 yb K2.o)
 clear HC bh K2
 go_wp2_with fail
 refine a6.o.mono ?_
 rintro e w3 ⟨rfl,K3⟩
 have a7:=hid (bk.o w1 w3 yb _ G1.o K3.o)
 clear a6 bk K3
 generalize w2.heap.size=cb at*
 go_wp2_with fail
 refine a7.o.mono ?_
 rintro e w4 ⟨aA,kA,rfl,K4,BA⟩
 have a8:=hid (bl.o w1 w4 yb _ G1.o K4.o)
 clear a7 bl
 go_wp2_with fail
 refine a8.o.mono ?_
 rintro e w5 ⟨aB,kB,rfl,K5,BB,m5⟩
 replace BA:=hid (BA.o.moved m5)
 have ba:=hid (bo.o w1 w5 yb _ G1.o K5.o (by show 1<=1000000;decide))
 clear a8 bo K4 K5 m5
 go_wp2_with fail
 refine ba.o.mono ?_
 rintro e w6 ⟨a1,k1,bG,rfl,K6,m6,E1,l6⟩
 have bx:bG.length<=1000000:=by rw[l6];show 1<=1000000;decide
 replace BA:=hid (BA.o.moved m6)
 replace BB:=hid (BB.o.moved m6)
 have bb:=hid (bm.o w1 w6 yb _ _ _ _ G1.o K6.o BA.o)
 clear ba bm K6 m6 l6
 go_wp2_with fail
 refine bb.o.mono ?_
 rintro e w7 ⟨rfl,bM,K7,t7,m7⟩
 replace BB:=hid (BB.o.moved m7)
 replace E1:=hid (E1.o.moved m7)
 have bc:=hid (bp.o w1 w7 yb bM bG G1.o K7.o t7 bx)
 clear bb bp K7 m7 t7 BA
 go_wp2_with fail
 refine bc.o.mono ?_
 rintro e w8 ⟨a2,k2,bH,rfl,K8,t8,m8,E2,l8⟩
 have bz:bH.length<=1000000:=by rw[l8];exact bx
 have T8:=hid t8
 replace BB:=hid (BB.o.moved m8)
 replace E1:=hid (E1.o.moved m8)
 clear bc m8 l8 t8
 go_wp2_with fail
 refine(bi.o _).mono ?_
 rintro e W8 ⟨rfl,bB⟩
 obtain rfl:=bB.symm
 clear bB
 have bd:=hid (bq.o w1 w8 yb bM bH k G1.o K8.o T8.o bz hk)
 clear bi bq K8 T8
 go_wp2_with fail
 refine bd.o.mono ?_
 rintro e w9 ⟨a9,k9,bI,rfl,K9,m9,l9⟩
 have bA:bI.length<=1000000:=by rw[l9];exact bz
 replace BB:=hid (BB.o.moved m9)
 replace E1:=hid (E1.o.moved m9)
 replace E2:=hid (E2.o.moved m9)
 have be:=hid (bn.o w1 w9 yb _ _ _ _ G1.o K9.o BB.o)
 clear bd bn K9 m9 l9
 go_wp2_with fail
 refine be.o.mono ?_
 rintro e bT ⟨rfl,au,bs,bJ,aV⟩
 replace E1:=hid (E1.o.moved aV)
 replace E2:=hid (E2.o.moved aV)
 have aZ:=hid (br.o w1 bT yb au bI k G1.o bs.o bJ bA hk)
 clear be br bs aV bJ BB
 go_wp2_with fail
 refine aZ.o.mono ?_
 rintro e bU ⟨a3,k3,bF,rfl,bt,bK,aW,E3,bD⟩
 have bv:bF.length<=1000000:=by rw[bD];exact bA
 replace E1:=hid (E1.o.moved aW)
 replace E2:=hid (E2.o.moved aW)
 have a0:=hid (ao.o w1 bU yb au bF G1.o bt.o bK bv)
 clear aZ bt aW bD bK
 go_wp2_with fail
 refine a0.o.mono ?_
 rintro e aa ⟨a4,k4,ap,rfl,ad,bL,aF,E4,bE⟩
 have bw:ap.length<=1000000:=by rw[bE];exact bv
 have ar:=hid bL
 replace E1:=hid (E1.o.moved aF)
 replace E2:=hid (E2.o.moved aF)
 replace E3:=hid (E3.o.moved aF)
 clear a0 aF bE bL
 by_cases hh:k<46
 ·have bR:(k:Int)<46:=by omega
  rw[if_pos hh] at E3
  clear hh
  go_wp2_with fail
  refine(bj.o _).mono ?_
  rintro e bN ⟨rfl,aC⟩
  obtain rfl:=aC.symm
  clear aC
  by_cases az:j=1
  ·subst az
   have aS:(convert 32 32 (.slice (some ⟨aa.heap.size,0,none⟩) 3 3)).run Tryz.prog (aa.alloc (.cells #[.int .u8 83,.int .u8 89,.int .u8 49] 5)) = .ok (.slice (some ⟨aa.heap.size,0,none⟩) 3 3) (aa.alloc (.cells #[.int .u8 83,.int .u8 89,.int .u8 49] 5 (3,4))):=Lib.run_convert_bytes_const (P:=Tryz.prog) aa 32 5 #[.int .u8 83,.int .u8 89,.int .u8 49] 3 3 Tryz.underlying32 Tryz.underlying5
   have gC:=zJ aa (.cells #[.int .u8 83,.int .u8 89,.int .u8 49] 5 (3,4)) none
   obtain⟨kC,mC⟩:=ad.o.grown gC
   have al:=heap_alloc_new aa (.cells #[.int .u8 83,.int .u8 89,.int .u8 49] 5 (3,4))
   have bC:Kb (aa.alloc (.cells #[.int .u8 83,.int .u8 89,.int .u8 49] 5 (3,4))) yb ap (.slice (some ⟨aa.heap.size,0,none⟩) 3 3) [83,89,49]:=⟨Or.inr ⟨aa.heap.size,0,3,rfl,by decide,zE al,fun jj u hu=>by
     rw[z8 al,Nat.zero_add]
     match jj,hu with
     | 0,hu=>cases hu;rfl
     | 1,hu=>cases hu;rfl
     | 2,hu=>cases hu;rfl
     | jj+3,hu=>simp at hu⟩,fun kk hkk hF=>by
     have e9:kk=aa.heap.size:=(qk hkk).symm
     have h1:=(ad.o.inv.keep gC.size (fun k hF=>gC.block k (ad.o.inv.lt ad.o.own hF) (by simp))).2 kk hF
     have:=ad.o.inv.lt ad.o.own h1
     omega,fun kk hkk=>by have e9:kk=aa.heap.size:=(qk hkk).symm;rw[e9];exact zE al⟩
   have av:=hid (aq.o w1 _ yb au ap _ G1.o kC bC)
   have MC:=hid mC
   have KC:=hid kC
   clear aq gC kC mC al bC
   go_wp2_with fail
   refine av.o.mono ?_
   rintro e aY ⟨rfl,ax,aD⟩
   have ai:=MC.o.trans aD
   replace E1:=hid (E1.o.moved ai)
   replace E2:=hid (E2.o.moved ai)
   replace E3:=hid (E3.o.moved ai)
   replace E4:=hid (E4.o.moved ai)
   have aE:=ar.o.moved ai ad.o.inv ad.o.own
   have aw:=hid (ao.o w1 aY yb au ap G1.o ax.o aE bw)
   clear av ao aD ai aE MC KC aS ad ar
   go_wp2_with fail
   refine aw.o.mono ?_
   rintro e ab ⟨a5,k5,bS,rfl,ay,aX,aj,E5,aU⟩
   replace E1:=hid (E1.o.moved aj)
   replace E2:=hid (E2.o.moved aj)
   replace E3:=hid (E3.o.moved aj)
   replace E4:=hid (E4.o.moved aj)
   have an:=hid (zA G1.o ay.o.gr)
   clear aw aj aU aX
   obtain⟨g1,rfl,ae⟩:=q1q E1.o
   obtain⟨g2,rfl,af⟩:=q1q E2.o
   obtain⟨g3,rfl,ag⟩:=q1q E3.o
   obtain⟨g4,rfl,ah⟩:=q1q E4.o
   obtain⟨g5,rfl,am⟩:=q1q E5.o
   have aG:ab.cell? ⟨g1,0,none⟩=some (.int .i64 1):=(ae 0 (by decide)).trans rfl
   have aH:ab.cell? ⟨g1,1,none⟩=some (.string ⟨#[]⟩):=(ae 1 (by decide)).trans rfl
   have aI:ab.cell? ⟨g1,2,none⟩=some (.string ⟨#[72,84,84,80,47,49,46,49,32,53,48,51,32,83,101,114,118,105,99,101,32,85,110,97,118,97,105,108,97,98,108,101,13,10,99,111,110,116,101,110,116,45,108,101,110,103,116,104,58,32,48,13,10,13,10]⟩):=(ae 2 (by decide)).trans rfl
   have aJ:ab.cell? ⟨g2,0,none⟩=some (.int .i64 1):=(af 0 (by decide)).trans rfl
   have aK:ab.cell? ⟨g2,1,none⟩=some (.string ⟨#[97]⟩):=(af 1 (by decide)).trans rfl
   have aL:ab.cell? ⟨g2,2,none⟩=some (.string ⟨#[80,85,84,32,47,32,72,84,84,80,47,49,46,49,13,10,104,111,115,116,58,32,104,13,10,99,111,110,116,101,110,116,45,108,101,110,103,116,104,58,32,57,13,10,13,10,49,50,51,52,53,54,55,56,57]⟩):=(af 2 (by decide)).trans rfl
   have aM:ab.cell? ⟨g3,0,none⟩=some (.int .i64 1):=(ag 0 (by decide)).trans rfl
   have aN:ab.cell? ⟨g3,1,none⟩=some (.string ⟨#[98]⟩):=(ag 1 (by decide)).trans rfl
   have aO:ab.cell? ⟨g3,2,none⟩=some (.string ⟨#[80,85,84,32,47,32,72,84,84,80,47,49,46,49,13,10,104,111,115,116,58,32,104,13,10,99,111,110,116,101,110,116,45,108,101,110,103,116,104,58,32,57,13,10,13,10,49,50,51,52,53,54,55,56,57]⟩):=(ag 2 (by decide)).trans rfl
   have aP:ab.cell? ⟨g4,0,none⟩=some (.int .i64 1):=(ah 0 (by decide)).trans rfl
   have aQ:ab.cell? ⟨g4,1,none⟩=some (.string ⟨#[98]⟩):=(ah 1 (by decide)).trans rfl
   have aR:ab.cell? ⟨g4,2,none⟩=some (.string ⟨#[80,85,84,32,47,32,72,84,84,80,47,49,46,49,13,10,104,111,115,116,58,32,104,13,10,99,111,110,116,101,110,116,45,108,101,110,103,116,104,58,32,57,13,10,13,10,49,50,51,52,53,54,55,56,57]⟩):=(ah 2 (by decide)).trans rfl
   have bO:ab.cell? ⟨g5,0,none⟩=some (.int .i64 1):=(am 0 (by decide)).trans rfl
   have bP:ab.cell? ⟨g5,1,none⟩=some (.string ⟨#[98]⟩):=(am 1 (by decide)).trans rfl
   have bQ:ab.cell? ⟨g5,2,none⟩=some (.string ⟨#[80,85,84,32,47,32,72,84,84,80,47,49,46,49,13,10,104,111,115,116,58,32,104,13,10,99,111,110,116,101,110,116,45,108,101,110,103,116,104,58,32,57,13,10,13,10,49,50,51,52,53,54,55,56,57]⟩):=(am 2 (by decide)).trans rfl
   clear ae af ag ah am E1 E2 E3 E4 E5 ax ay
   go_wp2
   go_ret
   exact⟨rfl,an.o⟩
  ·have aT:j=0:=by omega
   subst aT
   have an:=hid (zA G1.o ad.o.gr)
   obtain⟨g1,rfl,ae⟩:=q1q E1.o
   obtain⟨g2,rfl,af⟩:=q1q E2.o
   obtain⟨g3,rfl,ag⟩:=q1q E3.o
   obtain⟨g4,rfl,ah⟩:=q1q E4.o
   have aG:aa.cell? ⟨g1,0,none⟩=some (.int .i64 1):=(ae 0 (by decide)).trans rfl
   have aH:aa.cell? ⟨g1,1,none⟩=some (.string ⟨#[]⟩):=(ae 1 (by decide)).trans rfl
   have aI:aa.cell? ⟨g1,2,none⟩=some (.string ⟨#[72,84,84,80,47,49,46,49,32,53,48,51,32,83,101,114,118,105,99,101,32,85,110,97,118,97,105,108,97,98,108,101,13,10,99,111,110,116,101,110,116,45,108,101,110,103,116,104,58,32,48,13,10,13,10]⟩):=(ae 2 (by decide)).trans rfl
   have aJ:aa.cell? ⟨g2,0,none⟩=some (.int .i64 1):=(af 0 (by decide)).trans rfl
   have aK:aa.cell? ⟨g2,1,none⟩=some (.string ⟨#[97]⟩):=(af 1 (by decide)).trans rfl
   have aL:aa.cell? ⟨g2,2,none⟩=some (.string ⟨#[80,85,84,32,47,32,72,84,84,80,47,49,46,49,13,10,104,111,115,116,58,32,104,13,10,99,111,110,116,101,110,116,45,108,101,110,103,116,104,58,32,57,13,10,13,10,49,50,51,52,53,54,55,56,57]⟩):=(af 2 (by decide)).trans rfl
   have aM:aa.cell? ⟨g3,0,none⟩=some (.int .i64 1):=(ag 0 (by decide)).trans rfl
   have aN:aa.cell? ⟨g3,1,none⟩=some (.string ⟨#[98]⟩):=(ag 1 (by decide)).trans rfl
   have aO:aa.cell? ⟨g3,2,none⟩=some (.string ⟨#[80,85,84,32,47,32,72,84,84,80,47,49,46,49,13,10,104,111,115,116,58,32,104,13,10,99,111,110,116,101,110,116,45,108,101,110,103,116,104,58,32,57,13,10,13,10,49,50,51,52,53,54,55,56,57]⟩):=(ag 2 (by decide)).trans rfl
   have aP:aa.cell? ⟨g4,0,none⟩=some (.int .i64 1):=(ah 0 (by decide)).trans rfl
   have aQ:aa.cell? ⟨g4,1,none⟩=some (.string ⟨#[98]⟩):=(ah 1 (by decide)).trans rfl
   have aR:aa.cell? ⟨g4,2,none⟩=some (.string ⟨#[80,85,84,32,47,32,72,84,84,80,47,49,46,49,13,10,104,111,115,116,58,32,104,13,10,99,111,110,116,101,110,116,45,108,101,110,103,116,104,58,32,57,13,10,13,10,49,50,51,52,53,54,55,56,57]⟩):=(ah 2 (by decide)).trans rfl
   clear ae af ag ah E1 E2 E3 E4 ad ar aq ao az
   go_wp2
   go_ret
   exact⟨rfl,an.o⟩
 ·have bR:¬(k:Int)<46:=by omega
  rw[if_neg hh] at E3
  clear hh
  go_wp2_with fail
  refine(bj.o _).mono ?_
  rintro e bN ⟨rfl,aC⟩
  obtain rfl:=aC.symm
  clear aC
  by_cases az:j=1
  ·subst az
   have aS:(convert 32 32 (.slice (some ⟨aa.heap.size,0,none⟩) 3 3)).run Tryz.prog (aa.alloc (.cells #[.int .u8 83,.int .u8 89,.int .u8 49] 5)) = .ok (.slice (some ⟨aa.heap.size,0,none⟩) 3 3) (aa.alloc (.cells #[.int .u8 83,.int .u8 89,.int .u8 49] 5 (3,4))):=Lib.run_convert_bytes_const (P:=Tryz.prog) aa 32 5 #[.int .u8 83,.int .u8 89,.int .u8 49] 3 3 Tryz.underlying32 Tryz.underlying5
   have gC:=zJ aa (.cells #[.int .u8 83,.int .u8 89,.int .u8 49] 5 (3,4)) none
   obtain⟨kC,mC⟩:=ad.o.grown gC
   have al:=heap_alloc_new aa (.cells #[.int .u8 83,.int .u8 89,.int .u8 49] 5 (3,4))
   have bC:Kb (aa.alloc (.cells #[.int .u8 83,.int .u8 89,.int .u8 49] 5 (3,4))) yb ap (.slice (some ⟨aa.heap.size,0,none⟩) 3 3) [83,89,49]:=⟨Or.inr ⟨aa.heap.size,0,3,rfl,by decide,zE al,fun jj u hu=>by
     rw[z8 al,Nat.zero_add]
     match jj,hu with
     | 0,hu=>cases hu;rfl
     | 1,hu=>cases hu;rfl
     | 2,hu=>cases hu;rfl
     | jj+3,hu=>simp at hu⟩,fun kk hkk hF=>by
     have e9:kk=aa.heap.size:=(qk hkk).symm
     have h1:=(ad.o.inv.keep gC.size (fun k hF=>gC.block k (ad.o.inv.lt ad.o.own hF) (by simp))).2 kk hF
     have:=ad.o.inv.lt ad.o.own h1
     omega,fun kk hkk=>by have e9:kk=aa.heap.size:=(qk hkk).symm;rw[e9];exact zE al⟩
   have av:=hid (aq.o w1 _ yb au ap _ G1.o kC bC)
   have MC:=hid mC
   have KC:=hid kC
   clear aq gC kC mC al bC
   go_wp2_with fail
   refine av.o.mono ?_
   rintro e aY ⟨rfl,ax,aD⟩
   have ai:=MC.o.trans aD
   replace E1:=hid (E1.o.moved ai)
   replace E2:=hid (E2.o.moved ai)
   replace E3:=hid (E3.o.moved ai)
   replace E4:=hid (E4.o.moved ai)
   have aE:=ar.o.moved ai ad.o.inv ad.o.own
   have aw:=hid (ao.o w1 aY yb au ap G1.o ax.o aE bw)
   clear av ao aD ai aE MC KC aS ad ar
   go_wp2_with fail
   refine aw.o.mono ?_
   rintro e ab ⟨a5,k5,bS,rfl,ay,aX,aj,E5,aU⟩
   replace E1:=hid (E1.o.moved aj)
   replace E2:=hid (E2.o.moved aj)
   replace E3:=hid (E3.o.moved aj)
   replace E4:=hid (E4.o.moved aj)
   have an:=hid (zA G1.o ay.o.gr)
   clear aw aj aU aX
   obtain⟨g1,rfl,ae⟩:=q1q E1.o
   obtain⟨g2,rfl,af⟩:=q1q E2.o
   obtain⟨g3,rfl,ag⟩:=q1q E3.o
   obtain⟨g4,rfl,ah⟩:=q1q E4.o
   obtain⟨g5,rfl,am⟩:=q1q E5.o
   have aG:ab.cell? ⟨g1,0,none⟩=some (.int .i64 1):=(ae 0 (by decide)).trans rfl
   have aH:ab.cell? ⟨g1,1,none⟩=some (.string ⟨#[]⟩):=(ae 1 (by decide)).trans rfl
   have aI:ab.cell? ⟨g1,2,none⟩=some (.string ⟨#[72,84,84,80,47,49,46,49,32,53,48,51,32,83,101,114,118,105,99,101,32,85,110,97,118,97,105,108,97,98,108,101,13,10,99,111,110,116,101,110,116,45,108,101,110,103,116,104,58,32,48,13,10,13,10]⟩):=(ae 2 (by decide)).trans rfl
   have aJ:ab.cell? ⟨g2,0,none⟩=some (.int .i64 1):=(af 0 (by decide)).trans rfl
   have aK:ab.cell? ⟨g2,1,none⟩=some (.string ⟨#[97]⟩):=(af 1 (by decide)).trans rfl
   have aL:ab.cell? ⟨g2,2,none⟩=some (.string ⟨#[80,85,84,32,47,32,72,84,84,80,47,49,46,49,13,10,104,111,115,116,58,32,104,13,10,99,111,110,116,101,110,116,45,108,101,110,103,116,104,58,32,57,13,10,13,10,49,50,51,52,53,54,55,56,57]⟩):=(af 2 (by decide)).trans rfl
   have aM:ab.cell? ⟨g3,0,none⟩=some (.int .i64 1):=(ag 0 (by decide)).trans rfl
   have aN:ab.cell? ⟨g3,1,none⟩=some (.string ⟨#[97]⟩):=(ag 1 (by decide)).trans rfl
   have aO:ab.cell? ⟨g3,2,none⟩=some (.string ⟨#[80,85,84,32,47,32,72,84,84,80,47,49,46,49,13,10,104,111,115,116,58,32,104,13,10,99,111,110,116,101,110,116,45,108,101,110,103,116,104,58,32,57,13,10,13,10,49,50,51,52,53,54,55,56,57]⟩):=(ag 2 (by decide)).trans rfl
   have aP:ab.cell? ⟨g4,0,none⟩=some (.int .i64 1):=(ah 0 (by decide)).trans rfl
   have aQ:ab.cell? ⟨g4,1,none⟩=some (.string ⟨#[98]⟩):=(ah 1 (by decide)).trans rfl
   have aR:ab.cell? ⟨g4,2,none⟩=some (.string ⟨#[80,85,84,32,47,32,72,84,84,80,47,49,46,49,13,10,104,111,115,116,58,32,104,13,10,99,111,110,116,101,110,116,45,108,101,110,103,116,104,58,32,57,13,10,13,10,49,50,51,52,53,54,55,56,57]⟩):=(ah 2 (by decide)).trans rfl
   have bO:ab.cell? ⟨g5,0,none⟩=some (.int .i64 1):=(am 0 (by decide)).trans rfl
   have bP:ab.cell? ⟨g5,1,none⟩=some (.string ⟨#[98]⟩):=(am 1 (by decide)).trans rfl
   have bQ:ab.cell? ⟨g5,2,none⟩=some (.string ⟨#[80,85,84,32,47,32,72,84,84,80,47,49,46,49,13,10,104,111,115,116,58,32,104,13,10,99,111,110,116,101,110,116,45,108,101,110,103,116,104,58,32,57,13,10,13,10,49,50,51,52,53,54,55,56,57]⟩):=(am 2 (by decide)).trans rfl
   clear ae af ag ah am E1 E2 E3 E4 E5 ax ay
   go_wp2
   go_ret
   exact⟨rfl,an.o⟩
  ·have aT:j=0:=by omega
   subst aT
   have an:=hid (zA G1.o ad.o.gr)
   obtain⟨g1,rfl,ae⟩:=q1q E1.o
   obtain⟨g2,rfl,af⟩:=q1q E2.o
   obtain⟨g3,rfl,ag⟩:=q1q E3.o
   obtain⟨g4,rfl,ah⟩:=q1q E4.o
   have aG:aa.cell? ⟨g1,0,none⟩=some (.int .i64 1):=(ae 0 (by decide)).trans rfl
   have aH:aa.cell? ⟨g1,1,none⟩=some (.string ⟨#[]⟩):=(ae 1 (by decide)).trans rfl
   have aI:aa.cell? ⟨g1,2,none⟩=some (.string ⟨#[72,84,84,80,47,49,46,49,32,53,48,51,32,83,101,114,118,105,99,101,32,85,110,97,118,97,105,108,97,98,108,101,13,10,99,111,110,116,101,110,116,45,108,101,110,103,116,104,58,32,48,13,10,13,10]⟩):=(ae 2 (by decide)).trans rfl
   have aJ:aa.cell? ⟨g2,0,none⟩=some (.int .i64 1):=(af 0 (by decide)).trans rfl
   have aK:aa.cell? ⟨g2,1,none⟩=some (.string ⟨#[97]⟩):=(af 1 (by decide)).trans rfl
   have aL:aa.cell? ⟨g2,2,none⟩=some (.string ⟨#[80,85,84,32,47,32,72,84,84,80,47,49,46,49,13,10,104,111,115,116,58,32,104,13,10,99,111,110,116,101,110,116,45,108,101,110,103,116,104,58,32,57,13,10,13,10,49,50,51,52,53,54,55,56,57]⟩):=(af 2 (by decide)).trans rfl
   have aM:aa.cell? ⟨g3,0,none⟩=some (.int .i64 1):=(ag 0 (by decide)).trans rfl
   have aN:aa.cell? ⟨g3,1,none⟩=some (.string ⟨#[97]⟩):=(ag 1 (by decide)).trans rfl
   have aO:aa.cell? ⟨g3,2,none⟩=some (.string ⟨#[80,85,84,32,47,32,72,84,84,80,47,49,46,49,13,10,104,111,115,116,58,32,104,13,10,99,111,110,116,101,110,116,45,108,101,110,103,116,104,58,32,57,13,10,13,10,49,50,51,52,53,54,55,56,57]⟩):=(ag 2 (by decide)).trans rfl
   have aP:aa.cell? ⟨g4,0,none⟩=some (.int .i64 1):=(ah 0 (by decide)).trans rfl
   have aQ:aa.cell? ⟨g4,1,none⟩=some (.string ⟨#[98]⟩):=(ah 1 (by decide)).trans rfl
   have aR:aa.cell? ⟨g4,2,none⟩=some (.string ⟨#[80,85,84,32,47,32,72,84,84,80,47,49,46,49,13,10,104,111,115,116,58,32,104,13,10,99,111,110,116,101,110,116,45,108,101,110,103,116,104,58,32,57,13,10,13,10,49,50,51,52,53,54,55,56,57]⟩):=(ah 2 (by decide)).trans rfl
   clear ae af ag ah E1 E2 E3 E4 ad ar aq ao az
   go_wp2
   go_ret
   exact⟨rfl,an.o⟩
end Go.Proofs.YtfocdefchbnkpaaGreatDoor
