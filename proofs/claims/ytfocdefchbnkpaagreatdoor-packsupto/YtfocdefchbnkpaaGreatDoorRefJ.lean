/- A rule, as the document's own reader reads it. -/
import Derived.Test.YtfocdefchbnkpaaGreatDoorAli
import Derived.Test.YtfocdefchbnkpaaGreatDoorRefH
import Derived.Deep.RegionLaw
import Derived.Test.YtfocdefchbnkpaaGreatDoorRefG
import Derived.Test.YtfocdefchbnkpaaGreatDoorRefE
import Derived.Lib.Split
import Derived.Lib.TrimByte
set_option maxRecDepth 100000
set_option maxHeartbeats 20000000
namespace Go.Proofs.YtfocdefchbnkpaaGreatDoor
open Go.RowKit
inductive All2 {α β:Type}(R:α->β->Prop):List α->List β->Prop
 | nil:All2 R [] []
 | cons {a:α}{b:β}{l:List α}{m:List β}(h:R a b) (t:All2 R l m):All2 R (a :: l) (b :: m)
structure R.Rl where
 number:Int
 path:List UInt8
 ms:List R.Mt
 tg:List (List UInt8×Int)
 change:Bool
 to:List UInt8
 sets:List (List UInt8×List UInt8)
 drops:List (List UInt8)
def RuleVal (w:World)(cells:List Value)(r:R.Rl):Prop:=
 ∃vM vT vS vD,cells=[.int .i64 r.number,.string (R.str r.path),vM,vT,.bool r.change,.string (R.str r.to),vS,vD]/\
  w.ownsRow 0 181 3 vM r.ms.length (xN r.ms)/\w.ownsRow 0 183 2 vT r.tg.length (qB r.tg)/\
  w.ownsRow 0 185 2 vS r.sets.length (qH r.sets)/\w.ownsRow 0 9 1 vD r.drops.length (zf r.drops)
def RulesRow (w:World)(v:Value)(rs:List R.Rl):Prop:=
 ∃css:List (List Value),w.ownsRow 0 126 8 v rs.length css.flatten/\All2 (RuleVal w) css rs
def xH:List UInt8:=[114,117,108,101]
def jC:List UInt8:=[112,97,116,104]
def qW:List UInt8:=[114,101,112,108,97,99,101]
def R.amongN (l:List Int)(n:Int)(p:Int)(st:R.St):R.St:=l.foldl (fun st a=>R.notS st (!decide (a=n)) 5 p) st
def R.rlA2 (ts:List R.Tok)(s2:R.St)(others:List Int):Int×R.St:=
 (R.num (R.cur ts s2).s,R.amongN others (R.num (R.cur ts s2).s) (R.cur ts s2).at_ (R.notS (R.kindS ts s2 49) (decide (R.num (R.cur ts s2).s<=65535)) 4 (R.cur ts s2).at_))
def R.rlA (ts:List R.Tok)(st:R.St)(i:Nat)(others:List Int):Int×R.St:=
 R.rlA2 ts (R.notS (R.needS ts st xH) (decide ((i:Int)<6)) 3 (R.cur ts st).at_) others
def R.rlB (ts:List R.Tok)(st:R.St):List UInt8×R.St:=
 ((R.pathS ts (R.needS ts (R.needS ts st [123]) jC)).1,R.needS ts (R.pathS ts (R.needS ts (R.needS ts st [123]) jC)).2 [59])
def R.rlC (ts:List R.Tok)(st:R.St):List UInt8×R.St:=
 if R.isB st (R.cur ts st) qW then ((R.pathS ts (R.needS ts st qW)).1,R.needS ts (R.pathS ts (R.needS ts st qW)).2 [59]) else ([],st)
def R.ruleE (ts:List R.Tok)(n:Int)(p:List UInt8)(m:List R.Mt)(t:List (List UInt8×Int)×R.St):R.Rl×R.St:=
 (⟨n,p,m,t.1,R.isB t.2 (R.cur ts t.2) qW,(R.rlC ts t.2).1,(R.editsS ts (R.rlC ts t.2).2).1.1,(R.editsS ts (R.rlC ts t.2).2).1.2⟩,R.needS ts (R.editsS ts (R.rlC ts t.2).2).2 [125])
def R.ruleT (ts:List R.Tok)(a:Int×R.St):R.Rl×R.St:=
 R.ruleE ts a.1 (R.rlB ts a.2).1 (R.matchesS ts (R.rlB ts a.2).2).1 (R.targetsS ts (R.matchesS ts (R.rlB ts a.2).2).2)
def R.ruleS (ts:List R.Tok)(st:R.St)(i:Nat)(others:List Int):R.Rl×R.St:=R.ruleT ts (R.rlA ts st i others)
theorem uJ {w:World}{aa:List (List Value)}{rs:List R.Rl}(h:All2 (RuleVal w) aa rs)(k:Nat)(hk:k<rs.length):aa.flatten[k*8]?=some (.int .i64 rs[k].number):=by
 induction h generalizing k with
 | nil=>simp at hk
 | @cons c r cs rs hc _ ih=>
  obtain⟨vM,vT,vS,vD,rfl,_⟩:=hc
  match k with
  | 0=>rfl
  | k+1=>
   rw[zf7,List.getElem?_append_right (by simp;omega)]
   have:=ih k (by simpa using hk)
   simp only[zoF,zmU]
   rw[show(k+1)*8 - (0+1+1+1+1+1+1+1+1)=k*8 by omega]
   exact this
theorem vV {w w':World}{a b B:Nat}{e:TypeId}{s:Nat}{v:Value}{n:Nat}{xs:List Value}(h:w.ownsRow B e s v n xs)(hk:Kept2 w w' a b)(h1:∀k,v.ownBlock=some k->k≠a/\k≠b):w'.ownsRow B e s v n xs:=by
 refine⟨h.1,?_⟩
 rcases h.2 with h2 | ⟨g,cap,cur,rfl,h3,h4,r⟩
 ·exact Or.inl h2
 ·have:=h1 g rfl
  exact Or.inr ⟨g,cap,cur,rfl,h3,by rw[hk.block g (zI h4) this.1 this.2];exact h4,r⟩
theorem wG {a b c:World}{x y:Nat}(h:a.grownBy b (some x))(hk:Kept2 b c x y)(hy:a.heap.size<=y):a.grownBy c (some x):=
 ⟨hk.os.trans h.os,hk.tape.trans h.tape,hk.output.trans h.output,qf h.size hk.size,fun i hi hr=>(hk.block i (vQ hi h.size) (by simpa using hr) (by omega)).trans (h.block i hi hr)⟩
theorem zqT {w:World}{rb g aj:Nat}{ts:List R.Tok}{st:R.St}{H:Value}(h:RInv w rb g aj ts st H)(i:Nat)(v:Value)(rs:List R.Rl)(hv:RulesRow w v rs)(ei:rs.length<=10000)(dC:v.ownBlock≠some rb) :
  Calls Tryz.prog 90 #[.pointer (some ⟨rb,0,none⟩),.int .i64 i,v] w fun e w'=>∃cs,e = .returned (.agg cs.toArray)/\RInv w' rb g aj ts (R.ruleS ts st i (rs.map R.Rl.number)).2 H/\w.grownBy w' (some rb)/\RuleVal w' cs (R.ruleS ts st i (rs.map R.Rl.number)).1:=by
 have HP:Y (R.ruleS ts st i (rs.map R.Rl.number)=R.ruleT ts (R.rlA ts st i (rs.map R.Rl.number))):=rfl
 have H0:Y _:=h
 have ec:=zI h.rd
 have ef:g<w.heap.size:=h.gl
 obtain⟨ee,bs,cy⟩:=hv
 have b6:Y _:=bs
 have cJ:Y _:=cy
 obtain⟨ua,uc,rfl⟩:=zO bs
 generalize R.ruleS ts st i (rs.map R.Rl.number)=r at*
 clear h bs cy
 go_enter Tryz.func90,Tryz.ntmps90
 have C0:Y (w.grownBy w (some rb)):=ze _ _
 go_wp2_with fail
 refine(xK (H0.o.keep (zL _ _ _)) _).mono ?_
 rintro e w1 ⟨rfl,I1,aM⟩
 have J1:Y _:=I1
 have b1:=zI J1.o.rd
 have s1:w.heap.size+1<=w1.heap.size:=by have h:=aM.size;simpa using h
 have G1:Y (w.grownBy w1 (some rb)):=(zD (zL _ _ _) aM)
 have C1:=J (zD C0.o G1.o)
 have z1:=C1.o.size
 have c2:Y (w1.heap[w.heap.size]?=some (.cells #[.int .i64 0,.string ⟨#[]⟩,.slice none 0 0,.slice none 0 0,.bool false,.string ⟨#[]⟩,.slice none 0 0,.slice none 0 0] 126)):=qz aM (by simp;omega)
 clear aM I1
 go_wp2_with fail
 refine(j8 (J1.o.keep (zL _ _ _)) _ _ _ _ _).mono ?_
 rintro e w2 ⟨rfl,I2,be⟩
 have J2:Y _:=I2
 have b2:=zI J2.o.rd
 have s2:w1.heap.size+1<=w2.heap.size:=by have h:=be.size;simpa using h
 have G2:Y (w1.grownBy w2 (some rb)):=(zD (zL _ _ _) be)
 have C2:=J (zD C1.o G2.o)
 have z2:=C2.o.size
 have c3:=J (zF c2.o G2.o (by simp;omega))
 clear be I2
 have JW:Y (RInv w2 rb g aj ts (R.notS (R.needS ts st xH) (decide ((i:Int)<6)) 3 (R.cur ts st).at_) H):=J2
 have bP:Y (R.rlA ts st i (rs.map R.Rl.number)=R.rlA2 ts (R.notS (R.needS ts st xH) (decide ((i:Int)<6)) 3 (R.cur ts st).at_) (rs.map R.Rl.number)):=rfl
 generalize R.notS (R.needS ts st xH) (decide ((i:Int)<6)) 3 (R.cur ts st).at_=st2 at*
 have cT:Y ((R.str (R.cur ts st2).s).size<=3000):=JW.o.curlen
 go_wp2_with fail
 refine(vu JW.o 49 (by decide) (by decide)).mono ?_
 rintro e w3 ⟨rfl,I3,bf⟩
 have J3:Y _:=I3
 have b3:=zI J3.o.rd
 have s3:w2.heap.size+0<=w3.heap.size:=by have h:=bf.size;simpa using h
 have G3:Y (w2.grownBy w3 (some rb)):=bf
 have C3:=J (zD C2.o G3.o)
 have z3:=C3.o.size
 have c4:=J (zF c3.o G3.o (by simp;omega))
 clear bf I3
 go_wp2_with fail
 refine(fm _ _ _ _ cT.o).mono ?_
 rintro e w4 ⟨rfl,bc⟩
 have aN:=zb bc (some rb)
 have J4:Y _:=((J3.o.keep (zL _ _ _))).keep bc
 have b4:=zI J4.o.rd
 have s4:w3.heap.size+1<=w4.heap.size:=by have h:=aN.size;simpa using h
 have G4:Y (w3.grownBy w4 (some rb)):=(zD (zL _ _ _) aN)
 have C4:=J (zD C3.o G4.o)
 have z4:=C4.o.size
 have c5:=J (zF c4.o G4.o (by simp;omega))
 have aE:Y (w4.heap[w3.heap.size]?=some (.cells #[.int .u8 (R.cur ts st2).k,.string (R.str (R.cur ts st2).s),.int .i64 (R.cur ts st2).at_] 115)):=qz aN (by simp;omega)
 clear aN bc
 rw[R.str_toList]
 have bR:Y (R.rlA2 ts st2 (rs.map R.Rl.number)=(R.num (R.cur ts st2).s,R.amongN (rs.map R.Rl.number) (R.num (R.cur ts st2).s) (R.cur ts st2).at_ (R.notS (R.kindS ts st2 49) (decide (R.num (R.cur ts st2).s<=65535)) 4 (R.cur ts st2).at_))):=rfl
 generalize eh:R.num (R.cur ts st2).s=num at*
 have er:=zI aE.o
 have en:=ztW aE.o
 have eo:=zuA aE.o
 have ep:=ztX aE.o
 go_wp2_with fail
 refine(j8 (J4.o.keep (zL _ _ _)) _ _ _ _ _).mono ?_
 rintro e w5 ⟨rfl,I5,aO⟩
 have J5:Y _:=I5
 have b5:=zI J5.o.rd
 have s5:w4.heap.size+1<=w5.heap.size:=by have h:=aO.size;simpa using h
 have G5:Y (w4.grownBy w5 (some rb)):=(zD (zL _ _ _) aO)
 have C5:=J (zD C4.o G5.o)
 have z5:=C5.o.size
 have c6:=J (zF c5.o G5.o (by simp;omega))
 have dr:=J (zF aE.o G5.o (by simp;omega))
 have cx:Y (w5.heap[w4.heap.size]?=some (.cells #[.int .i64 num,.string ⟨#[]⟩,.slice none 0 0,.slice none 0 0,.bool false,.string ⟨#[]⟩,.slice none 0 0,.slice none 0 0] 126)):=qz aO (by simp;omega)
 clear aO I5
 generalize ej:R.notS (R.kindS ts st2 49) (decide (num<=65535)) 4 (R.cur ts st2).at_=st4 at*
 generalize R.cur ts st2=t at*
 go_wp2_with fail
 go_loopw [10] (fun iv wr=>∃k:Nat,k<=rs.length/\iv = .int .i64 k/\Y (RInv wr rb g aj ts (R.amongN ((rs.map R.Rl.number).take k) num t.at_ st4) H)/\Y (w5.grownBy wr (some rb))) (fun iv _=>rs.length - (intOf iv).toNat)
 case atStart=>exact⟨0,zo _,rfl,J5,ze _ _⟩
 case round=>
  obtain⟨k,hk,rfl,IR,HR⟩:=hrel
  have ed:=zI IR.o.rd
  have eI:=HR.o.size
  by_cases cB:k<rs.length
  ·obtain⟨gv,gc,cA,_,_⟩:=World.ownsRow.form b6.o (by omega)
   simp only[qQ] at cA
   obtain⟨rfl,_,rfl⟩:=cA
   have c1:wr.cell? ⟨gv,k*8,none⟩=some (.int .i64 rs[k].number):=by
    have hc:=qR b6.o (k*8) (by omega)
    rw[uJ cJ.o k cB] at hc
    exact(zD C5.o HR.o).cell hc (by simpa[Value.ownBlock] using dC)
   have n8:=zF dr.o HR.o (by simp;omega)
   have nU:=zF cx.o HR.o (by simp;omega)
   have ek:wr.cell? ⟨w3.heap.size,0,none⟩=some (.int .u8 t.k):=zB n8
   have el:wr.cell? ⟨w3.heap.size,1,none⟩=some (.string (R.str t.s)):=zB n8
   have em:wr.cell? ⟨w3.heap.size,2,none⟩=some (.int .i64 t.at_):=zB n8
   have es:wr.cell? ⟨w4.heap.size,0,none⟩=some (.int .i64 num):=zB nU
   clear n8 nU
   have HA:Y (R.amongN ((rs.map R.Rl.number).take (k+1)) num t.at_ st4=R.notS (R.amongN ((rs.map R.Rl.number).take k) num t.at_ st4) (!decide (rs[k].number=num)) 5 t.at_):=by
    show R.amongN _ _ _ _=_
    unfold R.amongN;rw[uo (by rw[xW];exact cB),List.foldl_append,List.getElem_map];rfl
   generalize rs[k].number=nk at*
   generalize R.amongN ((rs.map R.Rl.number).take k) num t.at_ st4=stk at*
   go_wp2
   go_region_with (go_at_call 85;refine(j8 (IR.o.keep (zg wr)) _ _ _ _ _).mono ?_;rintro e wN ⟨rfl,IN,cz⟩)
   all_goals
    have JN:Y (RInv wN rb g aj ts (R.amongN ((rs.map R.Rl.number).take (k+1)) num t.at_ st4) H):=by rw[HA.o];exact IN
    have GN:Y (w5.grownBy wN (some rb)):=zD HR.o (zD (zb (zg wr) _) cz)
    clear IN cz
    go_wp2
    exact⟨⟨k+1,by omega,by go_num,JN,GN⟩,by simp[intOf];omega⟩
  ·rw[tW (by rw[xW];omega)] at IR
   have eg:k=rs.length:=by omega
   have dq:Y _:=zF c6.o HR.o (by simp;omega)
   have dB:Y _:=zF cx.o HR.o (by simp;omega)
   have CX:=J (zD C5.o HR.o)
   have ff:=CX.o.size
   have bQ:Y (R.rlA ts st i (rs.map R.Rl.number)=(num,R.amongN (rs.map R.Rl.number) num t.at_ st4)):=bP.o.trans bR.o
   have b0:Y (r=R.ruleT ts (num,R.amongN (rs.map R.Rl.number) num t.at_ st4)):=by rw[<-bQ.o];exact HP.o
   clear HP bP bR bQ J5 JW J1 J2 J3 J4
   generalize R.amongN (rs.map R.Rl.number) num t.at_ st4=sA at*
   go_wp2_with fail
   refine(xK IR.o _).mono ?_
   rintro e aP ⟨rfl,cc,bg⟩
   have cl:Y _:=cc
   have dW:=zI cl.o.rd
   have eJ:wr.heap.size+0<=aP.heap.size:=by have h:=bg.size;simpa using h
   have aV:Y (wr.grownBy aP (some rb)):=bg
   have bF:=J (zD CX.o aV.o)
   have e5:=bF.o.size
   have c9:=J (zF dq.o aV.o (by simp;omega))
   have ds:=J (zF dB.o aV.o (by simp;omega))
   clear bg cc
   go_wp2_with fail
   refine(xK cl.o _).mono ?_
   rintro e aQ ⟨rfl,cd,bh⟩
   have cm:Y _:=cd
   have dX:=zI cm.o.rd
   have eK:aP.heap.size+0<=aQ.heap.size:=by have h:=bh.size;simpa using h
   have aW:Y (aP.grownBy aQ (some rb)):=bh
   have bG:=J (zD bF.o aW.o)
   have e6:=bG.o.size
   have db:=J (zF c9.o aW.o (by simp;omega))
   have dt:=J (zF ds.o aW.o (by simp;omega))
   clear bh cd
   go_wp2_with fail
   refine(zjD cm.o).mono ?_
   rintro e ai ⟨rfl,ce,bi⟩
   have cn:Y _:=ce
   have dY:=zI cn.o.rd
   have eL:aQ.heap.size+0<=ai.heap.size:=by have h:=bi.size;simpa using h
   have aX:Y (aQ.grownBy ai (some rb)):=bi
   have bH:=J (zD bG.o aX.o)
   have e7:=bH.o.size
   have dd:=J (zF db.o aX.o (by simp;omega))
   have aL:=J (zF dt.o aX.o (by simp;omega))
   clear bi ce
   have HB:Y (R.rlB ts sA=((R.pathS ts (R.needS ts (R.needS ts sA [123]) jC)).1,R.needS ts (R.pathS ts (R.needS ts (R.needS ts sA [123]) jC)).2 [59])):=rfl
   have JB:Y (RInv ai rb g aj ts (R.pathS ts (R.needS ts (R.needS ts sA [123]) jC)).2 H):=cn
   rw[show(R.pathS ts (R.needS ts (R.needS ts sA (⟨#[123]⟩:ByteArray).data.toList) (⟨#[112,97,116,104]⟩:ByteArray).data.toList)).1=(R.pathS ts (R.needS ts (R.needS ts sA [123]) jC)).1 from rfl]
   generalize R.pathS ts (R.needS ts (R.needS ts sA [123]) jC)=pp at*
   obtain⟨ab,sP⟩:=pp
   simp only at JB HB ⊢
   have ev:=zI aL.o
   have et:=zu3 aL.o
   have eu:=zuG 1 aL.o
   go_wp2_with fail
   have cW:Y _:=JB.o.other (zG ai w4.heap.size 1 (.string (R.str ab))) (by omega) (by omega)
   have cD:=J (zm bH.o (zG ai w4.heap.size 1 (.string (R.str ab))) (by omega))
   have de:=J (zF dd.o (zG ai w4.heap.size 1 (.string (R.str ab))) (by simp;omega))
   have du:Y ((World.setCell ai ⟨w4.heap.size,1,none⟩ (.string (R.str ab))).heap[w4.heap.size]?=some (.cells #[.int .i64 num,.string (R.str ab),.slice none 0 0,.slice none 0 0,.bool false,.string ⟨#[]⟩,.slice none 0 0,.slice none 0 0] 126)):=zR aL.o (.string (R.str ab))
   have eM:ai.heap.size<=(World.setCell ai ⟨w4.heap.size,1,none⟩ (.string (R.str ab))).heap.size:=by simp[World.setCell]
   have eZ:(World.setCell ai ⟨w4.heap.size,1,none⟩ (.string (R.str ab))).heap.size<=ai.heap.size:=by simp[World.setCell]
   generalize(World.setCell ai ⟨w4.heap.size,1,none⟩ (.string (R.str ab)))=wX4 at*
   have dZ:rb<wX4.heap.size:=by omega
   refine(xK cW.o _).mono ?_
   rintro e aR ⟨rfl,cf,bj⟩
   have co:Y _:=cf
   have d0:=zI co.o.rd
   have eN:wX4.heap.size+0<=aR.heap.size:=by have h:=bj.size;simpa using h
   have aY:Y (wX4.grownBy aR (some rb)):=bj
   have bI:=J (zD cD.o aY.o)
   have e8:=bI.o.size
   have df:=J (zF de.o aY.o (by simp;omega))
   have dv:=J (zF du.o aY.o (by simp;omega))
   clear bj cf
   have JC:Y (RInv aR rb g aj ts (R.rlB ts sA).2 H):=by rw[HB.o];exact co.o
   have bS:Y ((R.rlB ts sA).1=ab):=by rw[HB.o];rfl
   have ar:Y (r=R.ruleE ts num (R.rlB ts sA).1 (R.matchesS ts (R.rlB ts sA).2).1 (R.targetsS ts (R.matchesS ts (R.rlB ts sA).2).2)):=b0.o
   clear b0 HB
   generalize R.rlB ts sA=pb at*
   obtain⟨p0,sB⟩:=pb
   simp only at JC bS ar
   rw[bS.o] at ar
   go_wp2_with fail
   refine(ziC JC.o).mono ?_
   rintro e wM ⟨vM,rfl,IM,aI,bq⟩
   obtain⟨ma,mc,rfl⟩:=zO bq
   have JM:Y _:=IM
   have bM:=zI JM.o.rd
   have sM:aR.heap.size<=wM.heap.size:=aI.size
   have CM:=J (zD bI.o aI)
   have zM:=CM.o.size
   have c7:=J (zF df.o aI (by simp;omega))
   have aG:=J (zF dv.o aI (by simp;omega))
   have a1:Y _:=bq
   clear IM aI bq
   generalize R.matchesS ts sB=pm at*
   obtain⟨ml,sM⟩:=pm
   simp only at JM a1 ar
   have ey:=zI aG.o
   have ew:=ztY aG.o
   have ex:=zuG 2 aG.o
   go_wp2_with fail
   have cX:Y _:=JM.o.other (zG wM w4.heap.size 2 (.slice ma ml.length mc)) (by omega) (by omega)
   have cE:=J (zm CM.o (zG wM w4.heap.size 2 (.slice ma ml.length mc)) (by omega))
   have dg:=J (zF c7.o (zG wM w4.heap.size 2 (.slice ma ml.length mc)) (by simp;omega))
   have dw:Y ((World.setCell wM ⟨w4.heap.size,2,none⟩ (.slice ma ml.length mc)).heap[w4.heap.size]?=some (.cells #[.int .i64 num,.string (R.str ab),.slice ma ml.length mc,.slice none 0 0,.bool false,.string ⟨#[]⟩,.slice none 0 0,.slice none 0 0] 126)):=zR aG.o (.slice ma ml.length mc)
   have cK:Y _:=zY a1.o (zG wM w4.heap.size 2 (.slice ma ml.length mc)) (zW aG.o a1.o (by decide))
   have eO:wM.heap.size<=(World.setCell wM ⟨w4.heap.size,2,none⟩ (.slice ma ml.length mc)).heap.size:=by simp[World.setCell]
   have e0:(World.setCell wM ⟨w4.heap.size,2,none⟩ (.slice ma ml.length mc)).heap.size<=wM.heap.size:=by simp[World.setCell]
   generalize(World.setCell wM ⟨w4.heap.size,2,none⟩ (.slice ma ml.length mc))=wX6 at*
   have d1:rb<wX6.heap.size:=by omega
   refine(zhP cX.o).mono ?_
   rintro e wT ⟨vT,rfl,IT,aw,br⟩
   obtain⟨ta,tc,rfl⟩:=zO br
   have JT:Y _:=IT
   have bT:=zI JT.o.rd
   have sT:wX6.heap.size<=wT.heap.size:=aw.size
   have CT:=J (zD cE.o aw)
   have zT:=CT.o.size
   have c8:=J (zF dg.o aw (by simp;omega))
   have au:=J (zF dw.o aw (by simp;omega))
   have bW:Y _:=zS cK.o aw (by omega)
   have a5:Y _:=br
   clear IT aw br
   generalize R.targetsS ts sM=pt at*
   obtain⟨tl,sT⟩:=pt
   simp only at JT a5 ar
   have ah:Y (r=(⟨num,ab,ml,tl,R.isB sT (R.cur ts sT) qW,(R.rlC ts sT).1,(R.editsS ts (R.rlC ts sT).2).1.1,(R.editsS ts (R.rlC ts sT).2).1.2⟩,R.needS ts (R.editsS ts (R.rlC ts sT).2).2 [125])):=ar.o
   clear ar
   have eB:=zI au.o
   have ez:=zuD au.o
   have eA:=zuG 3 au.o
   go_wp2_with fail
   have cp:Y _:=JT.o.other (zG wT w4.heap.size 3 (.slice ta tl.length tc)) (by omega) (by omega)
   have cF:=J (zm CT.o (zG wT w4.heap.size 3 (.slice ta tl.length tc)) (by omega))
   have dh:=J (zF c8.o (zG wT w4.heap.size 3 (.slice ta tl.length tc)) (by simp;omega))
   have dx:Y ((World.setCell wT ⟨w4.heap.size,3,none⟩ (.slice ta tl.length tc)).heap[w4.heap.size]?=some (.cells #[.int .i64 num,.string (R.str ab),.slice ma ml.length mc,.slice ta tl.length tc,.bool false,.string ⟨#[]⟩,.slice none 0 0,.slice none 0 0] 126)):=zR au.o (.slice ta tl.length tc)
   have cL:Y _:=zY bW.o (zG wT w4.heap.size 3 (.slice ta tl.length tc)) (zW au.o bW.o (by decide))
   have cP:Y _:=zY a5.o (zG wT w4.heap.size 3 (.slice ta tl.length tc)) (zW au.o a5.o (by decide))
   have eP:wT.heap.size<=(World.setCell wT ⟨w4.heap.size,3,none⟩ (.slice ta tl.length tc)).heap.size:=by simp[World.setCell]
   have e1:(World.setCell wT ⟨w4.heap.size,3,none⟩ (.slice ta tl.length tc)).heap.size<=wT.heap.size:=by simp[World.setCell]
   generalize(World.setCell wT ⟨w4.heap.size,3,none⟩ (.slice ta tl.length tc))=wX7 at*
   have d2:rb<wX7.heap.size:=by omega
   refine(ky cp.o _).mono ?_
   rintro e aa ⟨rfl,bd⟩
   have bk:=zb bd (some rb)
   have a8:Y _:=(cp.o).keep bd
   have d3:=zI a8.o.rd
   have eQ:wX7.heap.size+0<=aa.heap.size:=by have h:=bk.size;simpa using h
   have ax:Y (wX7.grownBy aa (some rb)):=bk
   have aU:=J (zD cF.o ax.o)
   have e9:=aU.o.size
   have cw:=J (zF dh.o ax.o (by simp;omega))
   have ak:=J (zF dx.o ax.o (by simp;omega))
   have aJ:Y _:=zS cL.o ax.o (by omega)
   have aK:Y _:=zS cP.o ax.o (by omega)
   clear bk bd
   rw[show(⟨#[114,101,112,108,97,99,101]⟩:ByteArray).data.toList=qW from rfl]
   have HC:Y (R.rlC ts sT=if R.isB sT (R.cur ts sT) qW then ((R.pathS ts (R.needS ts sT qW)).1,R.needS ts (R.pathS ts (R.needS ts sT qW)).2 [59]) else ([],sT)):=rfl
   generalize R.rlC ts sT=pc at*
   obtain⟨cC,sC⟩:=pc
   simp only at ah
   have eE:=zI ak.o
   have eC:=zuI ak.o
   have eD:=zuG 4 ak.o
   cases hch:R.isB sT (R.cur ts sT) qW
   ·rw[if_neg (by rw[hch];simp)] at HC
    have aZ:Y (cC=[]):=(Prod.mk.inj HC.o).1
    have aB:Y (sC=sT):=(Prod.mk.inj HC.o).2
    rw[hch,aZ.o] at ah
    rw[aB.o] at ah
    go_wp2_with fail
    have cY:Y _:=a8.o.other (zG aa w4.heap.size 4 (.bool false)) (by omega) (by omega)
    have cG:=J (zm aU.o (zG aa w4.heap.size 4 (.bool false)) (by omega))
    have di:=J (zF cw.o (zG aa w4.heap.size 4 (.bool false)) (by simp;omega))
    have ba:Y ((World.setCell aa ⟨w4.heap.size,4,none⟩ (.bool false)).heap[w4.heap.size]?=some (.cells #[.int .i64 num,.string (R.str ab),.slice ma ml.length mc,.slice ta tl.length tc,.bool false,.string ⟨#[]⟩,.slice none 0 0,.slice none 0 0] 126)):=zR ak.o (.bool false)
    have a2:Y _:=zY aJ.o (zG aa w4.heap.size 4 (.bool false)) (zW ak.o aJ.o (by decide))
    have a6:Y _:=zY aK.o (zG aa w4.heap.size 4 (.bool false)) (zW ak.o aK.o (by decide))
    have eR:aa.heap.size<=(World.setCell aa ⟨w4.heap.size,4,none⟩ (.bool false)).heap.size:=by simp[World.setCell]
    have e2:(World.setCell aa ⟨w4.heap.size,4,none⟩ (.bool false)).heap.size<=aa.heap.size:=by simp[World.setCell]
    generalize(World.setCell aa ⟨w4.heap.size,4,none⟩ (.bool false))=wXn1 at*
    have d4:rb<wXn1.heap.size:=by omega
    have cU:Y (RInv wXn1 rb g aj ts sC H):=by rw[aB.o];exact cY.o
    rw[<-aB.o] at ah
    refine(zeM cU.o w4.heap.size _ _ _ _ _ _ ba.o (by omega) (by omega)).mono ?_
    rintro e wE ⟨rfl,IE,KE,vS,vD,aH,aq,ap⟩
    obtain⟨sa,sc,rfl⟩:=zO aq
    obtain⟨da,dc,rfl⟩:=zO ap
    have JE:Y _:=IE
    have bE:=zI JE.o.rd
    have sE:wXn1.heap.size<=wE.heap.size:=KE.size
    have CE:Y (w.grownBy wE (some rb)):=wG cG.o KE (by omega)
    have zE:=CE.o.size
    have a9:Y _:=KE.keep di.o (by omega) (by omega)
    have a0:Y _:=vV a2.o KE (fun k hk=>⟨by have:=(zx a2.o k hk).1;omega,zW ba.o a2.o (by decide) k hk⟩)
    have a4:Y _:=vV a6.o KE (fun k hk=>⟨by have:=(zx a6.o k hk).1;omega,zW ba.o a6.o (by decide) k hk⟩)
    have aF:Y _:=aH
    have aD:Y _:=aq
    have aC:Y _:=ap
    clear IE KE aH aq ap
    generalize R.editsS ts sC=pe at*
    obtain⟨⟨sl,dl⟩,dV⟩:=pe
    simp only at JE aD aC aF ah
    go_wp2_with fail
    refine(xK JE.o _).mono ?_
    rintro e bC ⟨rfl,cg,bl⟩
    have cq:Y _:=cg
    have d5:=zI cq.o.rd
    have eS:wE.heap.size+0<=bC.heap.size:=by have h:=bl.size;simpa using h
    have an:Y (wE.grownBy bC (some rb)):=bl
    have bJ:=J (zD CE.o an.o)
    have fa:=bJ.o.size
    have ad:=J (zF a9.o an.o (by simp;omega))
    have al:=J (zF aF.o an.o (by simp;omega))
    have bX:Y _:=zS a0.o an.o (by omega)
    have b9:Y _:=zS a4.o an.o (by omega)
    have b7:Y _:=zS aD.o an.o (by omega)
    have bU:Y _:=zS aC.o an.o (by omega)
    clear bl cg
    have dL:=zI al.o
    have dD:=zuE al.o
    have dE:=zu3 al.o
    have dF:=ztY al.o
    have dG:=zuD al.o
    have dH:=zuI al.o
    have dI:=zu5 al.o
    have dJ:=ztT al.o
    have dK:=zu0 al.o
    have dU:=zI ad.o
    have bt:=zuE ad.o
    have dM:=zuG 0 ad.o
    have bu:=zu3 ad.o
    have dN:=zuG 1 ad.o
    have bv:=ztY ad.o
    have dO:=zuG 2 ad.o
    have bw:=zuD ad.o
    have dP:=zuG 3 ad.o
    have bx:=zuI ad.o
    have dQ:=zuG 4 ad.o
    have bz:=zu5 ad.o
    have dR:=zuG 5 ad.o
    have bA:=ztT ad.o
    have dS:=zuG 6 ad.o
    have bB:=zu0 ad.o
    have dT:=zuG 7 ad.o
    go_wp2
    have ag:=zD (zD (zD (zD (zD (zD (zD (zG bC w.heap.size 0 (.int .i64 num)) (zG _ w.heap.size 1 (.string (R.str ab)))) (zG _ w.heap.size 2 (.slice ma ml.length mc))) (zG _ w.heap.size 3 (.slice ta tl.length tc))) (zG _ w.heap.size 4 (.bool false))) (zG _ w.heap.size 5 (.string ⟨#[]⟩))) (zG _ w.heap.size 6 (.slice sa sl.length sc))) (zG _ w.heap.size 7 (.slice da dl.length dc))
    refine bodyPost_ret (v:=.agg #[.int .i64 num,.string (R.str ab),.slice ma ml.length mc,.slice ta tl.length tc,.bool false,.string ⟨#[]⟩,.slice sa sl.length sc,.slice da dl.length dc]) (by simp[results,Tryz.results90,go_sem,bt,bu,bv,bw,bx,bz,bA,bB]) rfl ⟨[.int .i64 num,.string (R.str ab),.slice ma ml.length mc,.slice ta tl.length tc,.bool false,.string ⟨#[]⟩,.slice sa sl.length sc,.slice da dl.length dc],rfl,?_,zm bJ.o ag (zw _),?_⟩
    ·rw[ah.o];exact cq.o.other ag (by omega) (by omega)
    ·rw[ah.o]
     refine⟨_,_,_,_,rfl,?_,?_,?_,?_⟩
     ·exact zY (qF bX.o (zo _)) ag (fun k hk=>zW ad.o bX.o (by decide) k hk)
     ·exact zY (qF b9.o (zo _)) ag (fun k hk=>zW ad.o b9.o (by decide) k hk)
     ·exact zY (qF b7.o (zo _)) ag (fun k hk=>zW ad.o b7.o (by decide) k hk)
     ·exact zY (qF bU.o (zo _)) ag (fun k hk=>zW ad.o bU.o (by decide) k hk)
   ·rw[if_pos (by rw[hch])] at HC
    rw[hch] at ah
    go_wp2_with fail
    have cZ:Y _:=a8.o.other (zG aa w4.heap.size 4 (.bool true)) (by omega) (by omega)
    have cH:=J (zm aU.o (zG aa w4.heap.size 4 (.bool true)) (by omega))
    have dj:=J (zF cw.o (zG aa w4.heap.size 4 (.bool true)) (by simp;omega))
    have dy:Y ((World.setCell aa ⟨w4.heap.size,4,none⟩ (.bool true)).heap[w4.heap.size]?=some (.cells #[.int .i64 num,.string (R.str ab),.slice ma ml.length mc,.slice ta tl.length tc,.bool true,.string ⟨#[]⟩,.slice none 0 0,.slice none 0 0] 126)):=zR ak.o (.bool true)
    have cM:Y _:=zY aJ.o (zG aa w4.heap.size 4 (.bool true)) (zW ak.o aJ.o (by decide))
    have cQ:Y _:=zY aK.o (zG aa w4.heap.size 4 (.bool true)) (zW ak.o aK.o (by decide))
    have eT:aa.heap.size<=(World.setCell aa ⟨w4.heap.size,4,none⟩ (.bool true)).heap.size:=by simp[World.setCell]
    have e3:(World.setCell aa ⟨w4.heap.size,4,none⟩ (.bool true)).heap.size<=aa.heap.size:=by simp[World.setCell]
    generalize(World.setCell aa ⟨w4.heap.size,4,none⟩ (.bool true))=wXy1 at*
    have d6:rb<wXy1.heap.size:=by omega
    refine(xK cZ.o _).mono ?_
    rintro e aS ⟨rfl,ch,bm⟩
    have cr:Y _:=ch
    have d7:=zI cr.o.rd
    have eU:wXy1.heap.size+0<=aS.heap.size:=by have h:=bm.size;simpa using h
    have ay:Y (wXy1.grownBy aS (some rb)):=bm
    have bK:=J (zD cH.o ay.o)
    have fb:=bK.o.size
    have dk:=J (zF dj.o ay.o (by simp;omega))
    have dz:=J (zF dy.o ay.o (by simp;omega))
    have cN:Y _:=zS cM.o ay.o (by omega)
    have cR:Y _:=zS cQ.o ay.o (by omega)
    clear bm ch
    go_wp2_with fail
    refine(zjD cr.o).mono ?_
    rintro e af ⟨rfl,ci,bn⟩
    have ct:Y _:=ci
    have d8:=zI ct.o.rd
    have eV:aS.heap.size+0<=af.heap.size:=by have h:=bn.size;simpa using h
    have az:Y (aS.grownBy af (some rb)):=bn
    have bL:=J (zD bK.o az.o)
    have fc:=bL.o.size
    have dm:=J (zF dk.o az.o (by simp;omega))
    have av:=J (zF dz.o az.o (by simp;omega))
    have bY:Y _:=zS cN.o az.o (by omega)
    have ca:Y _:=zS cR.o az.o (by omega)
    clear bn ci
    have JD:Y (RInv af rb g aj ts (R.pathS ts (R.needS ts sT qW)).2 H):=ct
    rw[show(R.pathS ts (R.needS ts sT (⟨#[114,101,112,108,97,99,101]⟩:ByteArray).data.toList)).1=(R.pathS ts (R.needS ts sT qW)).1 from rfl]
    generalize R.pathS ts (R.needS ts sT qW)=pq at*
    obtain⟨tq,sQ⟩:=pq
    simp only at JD HC ⊢
    have aZ:Y (cC=tq):=(Prod.mk.inj HC.o).1
    have aB:Y (sC=R.needS ts sQ [59]):=(Prod.mk.inj HC.o).2
    rw[aZ.o] at ah
    have eH:=zI av.o
    have eF:=zu5 av.o
    have eG:=zuG 5 av.o
    go_wp2_with fail
    have c0:Y _:=JD.o.other (zG af w4.heap.size 5 (.string (R.str tq))) (by omega) (by omega)
    have cI:=J (zm bL.o (zG af w4.heap.size 5 (.string (R.str tq))) (by omega))
    have dn:=J (zF dm.o (zG af w4.heap.size 5 (.string (R.str tq))) (by simp;omega))
    have dA:Y ((World.setCell af ⟨w4.heap.size,5,none⟩ (.string (R.str tq))).heap[w4.heap.size]?=some (.cells #[.int .i64 num,.string (R.str ab),.slice ma ml.length mc,.slice ta tl.length tc,.bool true,.string (R.str tq),.slice none 0 0,.slice none 0 0] 126)):=zR av.o (.string (R.str tq))
    have cO:Y _:=zY bY.o (zG af w4.heap.size 5 (.string (R.str tq))) (zW av.o bY.o (by decide))
    have cS:Y _:=zY ca.o (zG af w4.heap.size 5 (.string (R.str tq))) (zW av.o ca.o (by decide))
    have eW:af.heap.size<=(World.setCell af ⟨w4.heap.size,5,none⟩ (.string (R.str tq))).heap.size:=by simp[World.setCell]
    have e4:(World.setCell af ⟨w4.heap.size,5,none⟩ (.string (R.str tq))).heap.size<=af.heap.size:=by simp[World.setCell]
    generalize(World.setCell af ⟨w4.heap.size,5,none⟩ (.string (R.str tq)))=wXy4 at*
    have d9:rb<wXy4.heap.size:=by omega
    refine(xK c0.o _).mono ?_
    rintro e aT ⟨rfl,cj,bo⟩
    have cu:Y _:=cj
    have ea:=zI cu.o.rd
    have eX:wXy4.heap.size+0<=aT.heap.size:=by have h:=bo.size;simpa using h
    have aA:Y (wXy4.grownBy aT (some rb)):=bo
    have bN:=J (zD cI.o aA.o)
    have fd:=bN.o.size
    have dp:=J (zF dn.o aA.o (by simp;omega))
    have bb:=J (zF dA.o aA.o (by simp;omega))
    have a3:Y _:=zS cO.o aA.o (by omega)
    have a7:Y _:=zS cS.o aA.o (by omega)
    clear bo cj
    have cV:Y (RInv aT rb g aj ts sC H):=by rw[aB.o];exact cu.o
    go_wp2_with fail
    refine(zeM cV.o w4.heap.size _ _ _ _ _ _ bb.o (by omega) (by omega)).mono ?_
    rintro e wE ⟨rfl,IE,KE,vS,vD,aH,aq,ap⟩
    obtain⟨sa,sc,rfl⟩:=zO aq
    obtain⟨da,dc,rfl⟩:=zO ap
    have JE:Y _:=IE
    have bE:=zI JE.o.rd
    have sE:aT.heap.size<=wE.heap.size:=KE.size
    have CE:Y (w.grownBy wE (some rb)):=wG bN.o KE (by omega)
    have zE:=CE.o.size
    have a9:Y _:=KE.keep dp.o (by omega) (by omega)
    have a0:Y _:=vV a3.o KE (fun k hk=>⟨by have:=(zx a3.o k hk).1;omega,zW bb.o a3.o (by decide) k hk⟩)
    have a4:Y _:=vV a7.o KE (fun k hk=>⟨by have:=(zx a7.o k hk).1;omega,zW bb.o a7.o (by decide) k hk⟩)
    have aF:Y _:=aH
    have aD:Y _:=aq
    have aC:Y _:=ap
    clear IE KE aH aq ap
    generalize R.editsS ts sC=pe at*
    obtain⟨⟨sl,dl⟩,dV⟩:=pe
    simp only at JE aD aC aF ah
    go_wp2_with fail
    refine(xK JE.o _).mono ?_
    rintro e bD ⟨rfl,ck,bp⟩
    have cv:Y _:=ck
    have eb:=zI cv.o.rd
    have eY:wE.heap.size+0<=bD.heap.size:=by have h:=bp.size;simpa using h
    have ao:Y (wE.grownBy bD (some rb)):=bp
    have bO:=J (zD CE.o ao.o)
    have fe:=bO.o.size
    have ae:=J (zF a9.o ao.o (by simp;omega))
    have am:=J (zF aF.o ao.o (by simp;omega))
    have bZ:Y _:=zS a0.o ao.o (by omega)
    have cb:Y _:=zS a4.o ao.o (by omega)
    have b8:Y _:=zS aD.o ao.o (by omega)
    have bV:Y _:=zS aC.o ao.o (by omega)
    clear bp ck
    have dL:=zI am.o
    have dD:=zuE am.o
    have dE:=zu3 am.o
    have dF:=ztY am.o
    have dG:=zuD am.o
    have dH:=zuI am.o
    have dI:=zu5 am.o
    have dJ:=ztT am.o
    have dK:=zu0 am.o
    have dU:=zI ae.o
    have bt:=zuE ae.o
    have dM:=zuG 0 ae.o
    have bu:=zu3 ae.o
    have dN:=zuG 1 ae.o
    have bv:=ztY ae.o
    have dO:=zuG 2 ae.o
    have bw:=zuD ae.o
    have dP:=zuG 3 ae.o
    have bx:=zuI ae.o
    have dQ:=zuG 4 ae.o
    have bz:=zu5 ae.o
    have dR:=zuG 5 ae.o
    have bA:=ztT ae.o
    have dS:=zuG 6 ae.o
    have bB:=zu0 ae.o
    have dT:=zuG 7 ae.o
    go_wp2
    have ag:=zD (zD (zD (zD (zD (zD (zD (zG bD w.heap.size 0 (.int .i64 num)) (zG _ w.heap.size 1 (.string (R.str ab)))) (zG _ w.heap.size 2 (.slice ma ml.length mc))) (zG _ w.heap.size 3 (.slice ta tl.length tc))) (zG _ w.heap.size 4 (.bool true))) (zG _ w.heap.size 5 (.string (R.str tq)))) (zG _ w.heap.size 6 (.slice sa sl.length sc))) (zG _ w.heap.size 7 (.slice da dl.length dc))
    refine bodyPost_ret (v:=.agg #[.int .i64 num,.string (R.str ab),.slice ma ml.length mc,.slice ta tl.length tc,.bool true,.string (R.str tq),.slice sa sl.length sc,.slice da dl.length dc]) (by simp[results,Tryz.results90,go_sem,bt,bu,bv,bw,bx,bz,bA,bB]) rfl ⟨[.int .i64 num,.string (R.str ab),.slice ma ml.length mc,.slice ta tl.length tc,.bool true,.string (R.str tq),.slice sa sl.length sc,.slice da dl.length dc],rfl,?_,zm bO.o ag (zw _),?_⟩
    ·rw[ah.o];exact cv.o.other ag (by omega) (by omega)
    ·rw[ah.o]
     refine⟨_,_,_,_,rfl,?_,?_,?_,?_⟩
     ·exact zY (qF bZ.o (zo _)) ag (fun k hk=>zW ae.o bZ.o (by decide) k hk)
     ·exact zY (qF cb.o (zo _)) ag (fun k hk=>zW ae.o cb.o (by decide) k hk)
     ·exact zY (qF b8.o (zo _)) ag (fun k hk=>zW ae.o b8.o (by decide) k hk)
     ·exact zY (qF bV.o (zo _)) ag (fun k hk=>zW ae.o bV.o (by decide) k hk)
def Safe (w:World)(row:Option Nat)(l:List TypeId):Prop:=∀k c t f,row=some k->w.heap[k]?=some (.cells c t f)->t ∉ l
theorem zi (w:World)(l:List TypeId):Safe w none l:=by intro k c t f h;cases h
theorem xY {w:World}{b:Nat}{c:Array Value}{t:TypeId}{f:Nat×Nat}{l:List TypeId}(h:w.heap[b]?=some (.cells c t f))(hn:t ∉ l):Safe w (some b) l:=by
 intro k c' t' f' hk h'
 cases hk
 rw[h] at h'
 simp only[Option.some.injEq,Obj.cells.injEq] at h'
 rw[<-h'.2.1];exact hn
theorem xz {w:World}{B:Nat}{e:TypeId}{s:Nat}{v:Value}{n:Nat}{xs:List Value}{l:List TypeId}(h:w.ownsRow B e s v n xs)(hn:e ∉ l):Safe w v.ownBlock l:=by
 intro k c t f hk h'
 obtain⟨c',h2⟩:=kJ h k hk
 rw[h2] at h'
 simp only[Option.some.injEq,Obj.cells.injEq] at h'
 rw[<-h'.2.1];exact hn
theorem x6 {w w':World}{B:Nat}{e:TypeId}{s:Nat}{v:Value}{n:Nat}{xs:List Value}{aa:Option Nat}{l:List TypeId}(h:w.ownsRow B e s v n xs)(hg:w.grownBy w' aa)(hs:Safe w aa l)(he:e∈l):w'.ownsRow B e s v n xs:=by
 refine zV h hg ?_
 intro k hk hr
 obtain⟨c,h2⟩:=kJ h k hk
 exact hs k c e (0,0) hr h2 he
def leaves:List TypeId:=[181,183,185,9]
theorem RuleVal.keep {w w':World}{cs:List Value}{r:R.Rl}{aa:Option Nat}(h:RuleVal w cs r)(hg:w.grownBy w' aa)(hs:Safe w aa leaves):RuleVal w' cs r:=by
 obtain⟨vM,vT,vS,vD,e,h1,h2,h3,h4⟩:=h
 exact⟨vM,vT,vS,vD,e,x6 h1 hg hs (by decide),x6 h2 hg hs (by decide),x6 h3 hg hs (by decide),x6 h4 hg hs (by decide)⟩
theorem All2.map {α β:Type}{P Q:α->β->Prop}{l:List α}{m:List β}(h:All2 P l m)(aa:∀a b,P a b->Q a b):All2 Q l m:=by
 induction h with
 | nil=>exact .nil
 | cons h _ ih=>exact .cons (aa _ _ h) ih
theorem All2.snoc {α β:Type}{P:α->β->Prop}{l:List α}{m:List β}(h:All2 P l m){a:α}{b:β}(aa:P a b):All2 P (l++[a]) (m++[b]):=by
 induction h with
 | nil=>exact .cons aa .nil
 | cons h _ ih=>exact .cons h ih
def RulesRowB (w:World)(B:Nat)(v:Value)(rs:List R.Rl):Prop:=
 ∃css:List (List Value),w.ownsRow B 126 8 v rs.length css.flatten/\All2 (RuleVal w) css rs
def rtags:List TypeId:=126 :: leaves
theorem RulesRowB.keep {w w':World}{B:Nat}{v:Value}{rs:List R.Rl}{aa:Option Nat}(h:RulesRowB w B v rs)(hg:w.grownBy w' aa)(hs:Safe w aa rtags):RulesRowB w' B v rs:=by
 obtain⟨ab,h1,h2⟩:=h
 refine⟨ab,x6 h1 hg hs (by decide),h2.map fun a b hab=>hab.keep hg ?_⟩
 intro k c t f hk hb hm
 exact hs k c t f hk hb (List.mem_cons_of_mem _ hm)
theorem RulesRowB.zero {w:World}{B:Nat}{v:Value}{rs:List R.Rl}(h:RulesRowB w B v rs):RulesRow w v rs:=by
 obtain⟨aa,h1,h2⟩:=h
 exact⟨aa,qF h1 (zo _),h2⟩
structure R.Hst where
 name:List UInt8
 rules:List R.Rl
def HostVal (w:World)(cells:List Value)(h:R.Hst):Prop:=∃vR,cells=[.string (R.str h.name),vR]/\RulesRow w vR h.rules
def HostsRow (w:World)(B:Nat)(v:Value)(hs:List R.Hst):Prop:=
 ∃css:List (List Value),w.ownsRow B 119 2 v hs.length css.flatten/\All2 (HostVal w) css hs
def htags:List TypeId:=119 :: rtags
theorem RulesRow.keep {w w':World}{v:Value}{rs:List R.Rl}{aa:Option Nat}(h:RulesRow w v rs)(hg:w.grownBy w' aa)(hs:Safe w aa rtags):RulesRow w' v rs:=
 (RulesRowB.keep (B:=0) h hg hs)
theorem HostVal.keep {w w':World}{cs:List Value}{h:R.Hst}{aa:Option Nat}(hv:HostVal w cs h)(hg:w.grownBy w' aa)(hs:Safe w aa rtags):HostVal w' cs h:=by
 obtain⟨vR,e,h1⟩:=hv
 exact⟨vR,e,h1.keep hg hs⟩
theorem HostsRow.keep {w w':World}{B:Nat}{v:Value}{hs:List R.Hst}{ab:Option Nat}(h:HostsRow w B v hs)(hg:w.grownBy w' ab)(aa:Safe w ab htags):HostsRow w' B v hs:=by
 obtain⟨ad,h1,h2⟩:=h
 refine⟨ad,x6 h1 hg aa (by decide),h2.map fun a b hab=>hab.keep hg ?_⟩
 intro k c t f hk hb hm
 exact aa k c t f hk hb (List.mem_cons_of_mem _ hm)
theorem kn {w:World}{aa:List (List Value)}{hs:List R.Hst}(h:All2 (HostVal w) aa hs)(k:Nat)(hk:k<hs.length):aa.flatten[k*2]?=some (.string (R.str hs[k].name)):=by
 induction h generalizing k with
 | nil=>simp at hk
 | @cons c r cs rs hc _ ih=>
  obtain⟨vR,rfl,_⟩:=hc
  match k with
  | 0=>rfl
  | k+1=>
   rw[zf7,List.getElem?_append_right (by simp;omega)]
   have:=ih k (by simpa using hk)
   simp only[zoF,zmU]
   rw[show(k+1)*2 - (0+1+1)=k*2 by omega]
   exact this
def R.rlLoop (ts:List R.Tok):Nat->R.St->List R.Rl->List R.Rl×R.St
 | 0,st,acc=>(acc,st)
 | n+1,st,acc=>if R.isB st (R.cur ts st) xH then R.rlLoop ts n (R.ruleS ts st acc.length (acc.map R.Rl.number)).2 (acc++[(R.ruleS ts st acc.length (acc.map R.Rl.number)).1]) else (acc,st)
def R.wHost:List UInt8:=[104,111,115,116]
def R.hsA2 (ts:List R.Tok)(s2:R.St)(names:List (List UInt8)):List UInt8×R.St:=
 (R.lower (R.cur ts s2).s,R.among names (R.lower (R.cur ts s2).s) (R.cur ts s2).at_ (R.notS (R.kindS ts s2 34) (R.named (R.cur ts s2).s true) 4 (R.cur ts s2).at_))
def R.hsA (ts:List R.Tok)(st:R.St)(names:List (List UInt8)):List UInt8×R.St:=
 R.hsA2 ts (R.notS (R.needS ts st R.wHost) (decide ((names.length:Int)<4)) 3 (R.cur ts st).at_) names
def R.hsB (ts:List R.Tok)(a:List UInt8×R.St):R.Hst×R.St:=
 (⟨a.1,(R.rlLoop ts (ts.length+1) (R.needS ts a.2 [123]) []).1⟩,R.needS ts (R.rlLoop ts (ts.length+1) (R.needS ts a.2 [123]) []).2 [125])
def R.hostS (ts:List R.Tok)(st:R.St)(names:List (List UInt8)):R.Hst×R.St:=R.hsB ts (R.hsA ts st names)
theorem zf0 (ts:List R.Tok)(st:R.St):st.K<=(R.pathS ts st).2.K:=by
 unfold R.pathS;simp only[R.notS_K];exact R.kindS_K _ _ _
theorem zsN (ts:List R.Tok)(st:R.St):st.K<=(R.rlB ts st).2.K:=by
 unfold R.rlB;simp only
 exact qf (qf (qf (R.needS_K _ _ _) (R.needS_K _ _ _)) (zf0 _ _)) (R.needS_K _ _ _)
theorem zsI (ts:List R.Tok)(st:R.St):st.K<=(R.rlC ts st).2.K:=by
 unfold R.rlC;split
 ·exact qf (qf (R.needS_K _ _ _) (zf0 _ _)) (R.needS_K _ _ _)
 ·exact zw _
theorem zkD (ts:List R.Tok)(n:Nat):∀(st:R.St) (aa:List R.Mt),st.K<=(R.mtLoop ts n st aa).2.K:=by
 induction n with
 | zero=>intro st aa;exact zw _
 | succ n ih=>
  intro st aa;unfold R.mtLoop;split
  ·rename_i h;have:=uq ts st aa h;have:=ih (ya ts st aa).1 (ya ts st aa).2;omega
  ·exact zw _
theorem zkI (ts:List R.Tok)(n:Nat):∀(st:R.St) (i:Nat) (aa:List (List UInt8×Int)),st.K<=(R.tgLoop ts n st i aa).2.K:=by
 induction n with
 | zero=>intro st i aa;exact zw _
 | succ n ih=>
  intro st i aa;unfold R.tgLoop;split
  ·split
   ·have h1:=ui ts st i aa
    have h2:=R.needS_K ts (qP ts st i aa).1 [44]
    have:=ih (R.needS ts (qP ts st i aa).1 [44]) (i+1) (qP ts st i aa).2
    omega
   ·exact ui ts st i aa
  ·exact zw _
theorem zfU (ts:List R.Tok)(st:R.St):st.K<=(R.targetsS ts st).2.K:=by
 unfold R.targetsS;simp only
 have h1:=R.needS_K ts st [116,111]
 refine qf ?_ (R.needS_K _ _ _)
 refine qf ?_ (zkI _ _ _ _ _)
 rw[R.notS_K];exact h1
theorem zkH (ts:List R.Tok)(n:Nat):∀(st:R.St) (aa:List (List UInt8×List UInt8)),st.K<=(R.stLoop ts n st aa).2.K:=by
 induction n with
 | zero=>intro st aa;exact zw _
 | succ n ih=>
  intro st aa;unfold R.stLoop;split
  ·rename_i h;have:=uk ts st aa h;have:=ih (yb ts st aa).1 (yb ts st aa).2;omega
  ·exact zw _
theorem zkY (ts:List R.Tok)(ab:List (List UInt8))(n:Nat):∀(st:R.St) (aa:List (List UInt8)),st.K<=(R.dpLoop ts ab n st aa).2.K:=by
 induction n with
 | zero=>intro st aa;exact zw _
 | succ n ih=>
  intro st aa;unfold R.dpLoop;split
  ·rename_i h;have:=uu ts st ab aa h;have:=ih (yY ts st ab aa).1 (yY ts st ab aa).2;omega
  ·exact zw _
theorem zjX (ts:List R.Tok)(st:R.St):st.K<=(R.editsS ts st).2.K:=by
 unfold R.editsS;simp only
 exact qf (zkH _ _ _ _) (zkY _ _ _ _ _)
theorem zkX (l:List Int)(n p:Int)(st:R.St):(R.amongN l n p st).K=st.K:=by
 unfold R.amongN
 induction l generalizing st with
 | nil=>rfl
 | cons a l ih=>rw[List.foldl_cons,ih,R.notS_K]
theorem R.ruleS_K (ts:List R.Tok)(st:R.St)(i:Nat)(l:List Int)(h:R.isB st (R.cur ts st) xH=true):st.K+1<=(R.ruleS ts st i l).2.K:=by
 have h1:(R.needS ts st xH).K=st.K+1:=by rw[R.needS_yes h]
 have h2:(R.needS ts st xH).K<=(R.rlA ts st i l).2.K:=by
  unfold R.rlA R.rlA2;simp only[zkX,R.notS_K]
  have:=R.kindS_K ts (R.notS (R.needS ts st xH) (decide ((i:Int)<6)) 3 (R.cur ts st).at_) 49
  rwa[R.notS_K] at this
 have h3:=zsN ts (R.rlA ts st i l).2
 have h4:=zkD ts (ts.length+1) (R.rlB ts (R.rlA ts st i l).2).2 []
 have h5:=zfU ts (R.matchesS ts (R.rlB ts (R.rlA ts st i l).2).2).2
 have h6:=zsI ts (R.targetsS ts (R.matchesS ts (R.rlB ts (R.rlA ts st i l).2).2).2).2
 have h7:=zjX ts (R.rlC ts (R.targetsS ts (R.matchesS ts (R.rlB ts (R.rlA ts st i l).2).2).2).2).2
 have h8:=R.needS_K ts (R.editsS ts (R.rlC ts (R.targetsS ts (R.matchesS ts (R.rlB ts (R.rlA ts st i l).2).2).2).2).2).2 [125]
 unfold R.ruleS R.ruleT R.ruleE
 unfold R.matchesS at*
 simp only
 omega
def tD (s:List UInt8):Bool:=R.named s true
def xX (l : List UInt8) (st : P.St) (names : List (List UInt8)) : List UInt8 × P.St :=
  (R.lower (qG l st).1,
   zt (zt (qG l st).2 (!tD (qG l st).1) 4 st.tok.at_) (names.any fun n => decide (n = R.lower (qG l st).1)) 5 st.tok.at_)
def yJ (l:List UInt8)(st:P.St)(word:List UInt8):List UInt8×P.St:=
 ((qG l (zX l st word)).1,zX l (zt (qG l (zX l st word)).2 (!R.path (qG l (zX l st word)).1) 4 (zX l st word).tok.at_) [59])
def qj (l:List UInt8)(st:P.St):List UInt8×P.St:=
 (R.lower (qG l st).1,zt (qG l st).2 (!R.header (qG l st).1 true) 4 st.tok.at_)
def xQ (l:List UInt8)(st:P.St):List UInt8×P.St:=
 ((qG l (zX l st [61])).1,zt (qG l (zX l st [61])).2 (!R.value (qG l (zX l st [61])).1) 4 (zX l st [61]).tok.at_)
structure P.Mt where
 name:List UInt8
 ask:Bool
 val:List UInt8
def jH (l:List UInt8)(st:P.St)(n:Nat):List UInt8×P.St:=qj l (zX l (qE st n 3) qd)
def vo (l:List UInt8)(st:P.St):List UInt8×P.St:=if qX st [61] then xQ l st else ([],st)
def x8 (l:List UInt8)(st:P.St)(n:Nat):P.Mt×P.St:=
 (⟨(jH l st n).1,qX (jH l st n).2 [61],(vo l (jH l st n).2).1⟩,zX l (vo l (jH l st n).2).2 [59])
def xq (l:List UInt8)(st:P.St)(n:Nat):List UInt8×P.St:=
 ((qG l (qE st n 4)).1,zt (qG l (qE st n 4)).2 (!R.upstream (qG l (qE st n 4)).1) 4 (qE st n 4).tok.at_)
def zk (l : List UInt8) (st : P.St) (n : Nat) : (List UInt8 × Int) × P.St :=
  (((xq l st n).1, (xB l (xq l st n).2).1),
   zt (xB l (xq l st n).2).2 (decide (1000 < (xB l (xq l st n).2).1)) 4 (xq l st n).2.tok.at_)
def xc (l:List UInt8):Nat->P.St->List (List UInt8×Int)->List (List UInt8×Int)×P.St
 | 0,st,acc=>(acc,st)
 | n+1,st,acc=>if qX st [44] then xc l n (zk l (zX l st [44]) acc.length).2 (acc++[(zk l (zX l st [44]) acc.length).1]) else (acc,st)
def kL:List UInt8:=[116,111]
def yA (l:List UInt8)(st:P.St):List (List UInt8×Int)×P.St:=
 xc l (l.length+1) (zk l (zX l st kL) 0).2 [(zk l (zX l st kL) 0).1]
def qh (l : List UInt8) (st : P.St) : List (List UInt8 × Int) × P.St :=
  ((yA l st).1.filter fun t => !(t.2 == 0),
   zt (zX l (yA l st).2 [59]) (((yA l st).1.filter fun t => !(t.2 == 0)).isEmpty) 4 st.tok.at_)
structure P.Rl where
 number:Int
 path:List UInt8
 ms:List P.Mt
 tg:List (List UInt8×Int)
 rep:List UInt8
 sets:List (List UInt8×List UInt8)
 drops:List (List UInt8)
structure P.Hst where
 name:List UInt8
 rules:List P.Rl
def x3 (l:List UInt8)(st:P.St)(am:List (List UInt8)):List UInt8×P.St:=
 ((qj l st).1,zt (qj l st).2 (am.any fun n=>decide (n=(qj l st).1)) 5 st.tok.at_)
def jd (l:List UInt8)(st:P.St)(n:Nat)(am:List (List UInt8)):List UInt8×P.St:=x3 l (zX l (qE st n 3) xf) am
def xy (l:List UInt8)(st:P.St)(n:Nat)(am:List (List UInt8)):(List UInt8×List UInt8)×P.St:=
 (((jd l st n am).1,(xQ l (jd l st n am).2).1),zX l (xQ l (jd l st n am).2).2 [59])
def je (l:List UInt8)(st:P.St)(n:Nat)(am:List (List UInt8)):List UInt8×P.St:=x3 l (zX l (qE st n 3) x7) am
def xm (l:List UInt8)(st:P.St)(n:Nat)(am:List (List UInt8)):List UInt8×P.St:=((je l st n am).1,zX l (je l st n am).2 [59])
def xL (l:List UInt8):Nat->P.St->List P.Mt->List P.Mt×P.St
 | 0,st,acc=>(acc,st)
 | n+1,st,acc=>if qX st qd then xL l n (x8 l st acc.length).2 (acc++[(x8 l st acc.length).1]) else (acc,st)
def qy (l:List UInt8):Nat->P.St->List (List UInt8×List UInt8)->List (List UInt8×List UInt8)×P.St
 | 0,st,acc=>(acc,st)
 | n+1,st,acc=>if qX st xf then qy l n (xy l st acc.length (acc.map Prod.fst)).2 (acc++[(xy l st acc.length (acc.map Prod.fst)).1]) else (acc,st)
def qp (l:List UInt8)(sets:List (List UInt8)):Nat->P.St->List (List UInt8)->List (List UInt8)×P.St
 | 0,st,acc=>(acc,st)
 | n+1,st,acc=>if qX st x7 then qp l sets n (xm l st acc.length (sets++acc)).2 (acc++[(xm l st acc.length (sets++acc)).1]) else (acc,st)
def yX (l:List UInt8)(st:P.St)(others:List Int):Int×P.St:=
 ((xB l st).1,zt (zt (xB l st).2 (decide (65535<(xB l st).1)) 4 st.tok.at_) (others.any fun n=>decide (n=(xB l st).1)) 5 st.tok.at_)
def jT (l:List UInt8)(st:P.St)(others:List Int):Int×P.St:=yX l (zX l (qE st others.length 6) xH) others
def vH (l:List UInt8)(st:P.St):List UInt8×P.St:=yJ l (zX l st [123]) jC
def j0 (l:List UInt8)(st:P.St):List UInt8×P.St:=if qX st qW then yJ l st qW else ([],st)
def wH (l:List UInt8)(n:Int)(p:List UInt8)(m:List P.Mt)(t:List (List UInt8×Int))(c:List UInt8×P.St)(s:List (List UInt8×List UInt8)×P.St):P.Rl×P.St:=
 (⟨n,p,m,t,c.1,s.1,(qp l (s.1.map Prod.fst) (l.length+1) s.2 []).1⟩,zX l (qp l (s.1.map Prod.fst) (l.length+1) s.2 []).2 [125])
def vN (l:List UInt8)(n:Int)(p:List UInt8)(m:List P.Mt)(t:List (List UInt8×Int)×P.St):P.Rl×P.St:=
 wH l n p m t.1 (j0 l t.2) (qy l (l.length+1) (j0 l t.2).2 [])
def uE (l:List UInt8)(n:Int)(p:List UInt8)(m:List P.Mt×P.St):P.Rl×P.St:=vN l n p m.1 (qh l m.2)
def uC (l:List UInt8)(a:Int×P.St):P.Rl×P.St:=uE l a.1 (vH l a.2).1 (xL l (l.length+1) (vH l a.2).2 [])
def xg (l:List UInt8)(st:P.St)(others:List Int):P.Rl×P.St:=uC l (jT l st others)
def xR (l:List UInt8):Nat->P.St->List P.Rl->List P.Rl×P.St
 | 0,st,acc=>(acc,st)
 | n+1,st,acc=>if qX st xH then xR l n (xg l st (acc.map P.Rl.number)).2 (acc++[(xg l st (acc.map P.Rl.number)).1]) else (acc,st)
def kI (l:List UInt8)(st:P.St)(names:List (List UInt8)):List UInt8×P.St:=xX l (zX l (qE st names.length 4) R.wHost) names
def ziB (l:List UInt8)(a:List UInt8×P.St):P.Hst×P.St:=
 (⟨a.1,(xR l (l.length+1) (zX l a.2 [123]) []).1⟩,zX l (xR l (l.length+1) (zX l a.2 [123]) []).2 [125])
def xj (l:List UInt8)(st:P.St)(names:List (List UInt8)):P.Hst×P.St:=ziB l (kI l st names)
def qn (l:List UInt8):Nat->P.St->List P.Hst->List P.Hst×P.St
 | 0,st,acc=>(acc,st)
 | n+1,st,acc=>if qX st R.wHost then qn l n (xj l st (acc.map P.Hst.name)).2 (acc++[(xj l st (acc.map P.Hst.name)).1]) else (acc,st)
def vr (l:List UInt8):P.St:=⟨zp l 0,false,0,0⟩
def qD (l:List UInt8):List P.Hst×P.St:=((qn l (l.length+1) (vr l) []).1,jm l (qn l (l.length+1) (vr l) []).2)
theorem zfF (l:List UInt8)(p:Nat):p<=(zp l p).at_:=by unfold zp qI;simp
theorem tn (l:List UInt8)(st:P.St)(b:Bool):st.tok.at_<=(qg l st b).tok.at_:=by
 unfold qg;split
 ·have:=zfF l (st.tok.at_+st.tok.raw.length)
  show st.tok.at_<=(zp l (st.tok.at_+st.tok.raw.length)).at_
  omega
 ·exact zw _
theorem yk (l:List UInt8)(st:P.St)(r:List UInt8):st.tok.at_<=(zX l st r).tok.at_:=tn _ _ _
theorem ke (l:List UInt8)(st:P.St)(r:List UInt8)(h:qX st r=true)(hr:1<=r.length):st.tok.at_+1<=(zX l st r).tok.at_:=by
 unfold qX at h
 simp only[Bool.and_eq_true,Bool.not_eq_true',decide_eq_true_eq] at h
 unfold zX qg
 rw[if_pos ⟨decide_eq_true h.2,h.1⟩]
 have:=zfF l (st.tok.at_+st.tok.raw.length)
 show st.tok.at_+1<=(zp l (st.tok.at_+st.tok.raw.length)).at_
 rw[h.2] at this ⊢
 omega
theorem jA (st:P.St)(b:Bool)(e a:Int):(zt st b e a).tok=st.tok:=by
 unfold zt xZ;split
 ·split <;> rfl
 ·rfl
theorem kA (st:P.St)(a b:Int):(qE st a b).tok=st.tok:=jA _ _ _ _
theorem fE (l:List UInt8)(st:P.St):st.tok.at_<=(qG l st).2.tok.at_:=tn _ _ _
theorem zhA (l:List UInt8)(st:P.St):st.tok.at_<=(xB l st).2.tok.at_:=tn _ _ _
theorem zbI (l:List UInt8)(st:P.St):st.tok.at_<=(qj l st).2.tok.at_:=by unfold qj;simp only[jA];exact fE _ _
theorem zdK (l:List UInt8)(st:P.St):st.tok.at_<=(xQ l st).2.tok.at_:=by
 unfold xQ;simp only[jA];exact qf (yk _ _ _) (fE _ _)
theorem zf9 (l:List UInt8)(st:P.St)(w:List UInt8):(zX l st w).tok.at_<=(yJ l st w).2.tok.at_:=by
 unfold yJ;simp only
 refine qf ?_ (yk _ _ _)
 rw[jA];exact fE _ _
theorem zbC (l:List UInt8)(st:P.St)(am:List (List UInt8)):st.tok.at_<=(x3 l st am).2.tok.at_:=by unfold x3;simp only[jA];exact zbI _ _
theorem uw (l:List UInt8)(st:P.St)(n:Nat):st.tok.at_<=(zk l st n).2.tok.at_:=by
 unfold zk;simp only[jA]
 refine qf ?_ (zhA _ _)
 unfold xq;simp only[jA]
 have:=fE l (qE st n 4)
 rwa[kA] at this
theorem kj {st:P.St}{r:List UInt8}{a b:Int}(h:qX st r=true):qX (qE st a b) r=true:=by
 have hb:(qE st a b).broken=st.broken:=by unfold qE zt xZ;split;split <;> rfl;rfl
 unfold qX at h ⊢;rw[kA,hb];exact h
theorem zcL (l:List UInt8)(st:P.St)(n:Nat)(h:qX st qd=true):st.tok.at_+1<=(x8 l st n).2.tok.at_:=by
 unfold x8;simp only
 refine qf ?_ (yk _ _ _)
 have h1:=ke l (qE st n 3) qd (kj h) (by decide)
 rw[kA] at h1
 have h2:(zX l (qE st n 3) qd).tok.at_<=(jH l st n).2.tok.at_:=zbI _ _
 have h3:(jH l st n).2.tok.at_<=(vo l (jH l st n).2).2.tok.at_:=by
  unfold vo;split
  ·exact zdK _ _
  ·exact zw _
 omega
theorem zc1 (l:List UInt8)(st:P.St)(n:Nat)(am:List (List UInt8))(h:qX st xf=true):st.tok.at_+1<=(xy l st n am).2.tok.at_:=by
 unfold xy;simp only
 refine qf ?_ (yk _ _ _)
 have h1:=ke l (qE st n 3) xf (kj h) (by decide)
 rw[kA] at h1
 have h2:(zX l (qE st n 3) xf).tok.at_<=(jd l st n am).2.tok.at_:=zbC _ _ _
 have h3:=zdK l (jd l st n am).2
 omega
theorem za4 (l:List UInt8)(st:P.St)(n:Nat)(am:List (List UInt8))(h:qX st x7=true):st.tok.at_+1<=(xm l st n am).2.tok.at_:=by
 unfold xm;simp only
 refine qf ?_ (yk _ _ _)
 have h1:=ke l (qE st n 3) x7 (kj h) (by decide)
 rw[kA] at h1
 have h2:(zX l (qE st n 3) x7).tok.at_<=(je l st n am).2.tok.at_:=zbC _ _ _
 omega
theorem zi0 (l : List UInt8) (n : Nat) : ∀ (st : P.St) (acc : List P.Mt), st.tok.at_ ≤ (xL l n st acc).2.tok.at_ := by
  induction n with
  | zero => intro st acc; exact zw _
  | succ n ih => intro st acc; rw [xL]; split
                 · rename_i h; have := zcL l st acc.length h; have := ih (x8 l st acc.length).2 (acc ++ [(x8 l st acc.length).1]); omega
                 · exact zw _
theorem ziH (l : List UInt8) (n : Nat) : ∀ (st : P.St) (acc : List (List UInt8 × List UInt8)), st.tok.at_ ≤ (qy l n st acc).2.tok.at_ := by
  induction n with
  | zero => intro st acc; exact zw _
  | succ n ih => intro st acc; rw [qy]; split
                 · rename_i h; have := zc1 l st acc.length (acc.map Prod.fst) h; have := ih (xy l st acc.length (acc.map Prod.fst)).2 (acc ++ [(xy l st acc.length (acc.map Prod.fst)).1]); omega
                 · exact zw _
theorem zhJ (l : List UInt8) (sets : List (List UInt8)) (n : Nat) : ∀ (st : P.St) (acc : List (List UInt8)), st.tok.at_ ≤ (qp l sets n st acc).2.tok.at_ := by
  induction n with
  | zero => intro st acc; exact zw _
  | succ n ih => intro st acc; rw [qp]; split
                 · rename_i h; have := za4 l st acc.length (sets ++ acc) h; have := ih (xm l st acc.length (sets ++ acc)).2 (acc ++ [(xm l st acc.length (sets ++ acc)).1]); omega
                 · exact zw _
theorem zgW (l : List UInt8) (n : Nat) : ∀ (st : P.St) (acc : List (List UInt8 × Int)), st.tok.at_ ≤ (xc l n st acc).2.tok.at_ := by
  induction n with
  | zero => intro st acc; exact zw _
  | succ n ih => intro st acc; rw [xc]; split
                 · have := yk l st [44]; have := uw l (zX l st [44]) acc.length; have := ih (zk l (zX l st [44]) acc.length).2 (acc ++ [(zk l (zX l st [44]) acc.length).1]); omega
                 · exact zw _
theorem zg0 (l:List UInt8)(st:P.St):st.tok.at_<=(qh l st).2.tok.at_:=by
 unfold qh;simp only[jA]
 refine qf ?_ (yk _ _ _)
 unfold yA
 exact qf (qf (yk _ _ _) (uw _ _ _)) (zgW _ _ _ _)
theorem zpK (l:List UInt8)(st:P.St):st.tok.at_<=(j0 l st).2.tok.at_:=by
 unfold j0;split
 ·exact qf (yk _ _ _) (zf9 _ _ _)
 ·exact zw _
theorem zfH (l:List UInt8)(st:P.St)(o:List Int)(h:qX st xH=true):st.tok.at_+1<=(xg l st o).2.tok.at_:=by
 have h1:=ke l (qE st o.length 6) xH (kj h) (by decide)
 rw[kA] at h1
 have h2:(zX l (qE st o.length 6) xH).tok.at_<=(jT l st o).2.tok.at_:=by
  unfold jT yX;simp only[jA];exact zhA _ _
 have h3:(jT l st o).2.tok.at_<=(vH l (jT l st o).2).2.tok.at_:=by
  unfold vH;exact qf (qf (yk _ _ _) (yk _ _ _)) (zf9 _ _ _)
 have h4:=zi0 l (l.length+1) (vH l (jT l st o).2).2 []
 unfold xg uC uE vN wH
 simp only
 refine qf ?_ (yk _ _ _)
 refine qf ?_ (zhJ _ _ _ _ _)
 refine qf ?_ (ziH _ _ _ _)
 refine qf ?_ (zpK _ _)
 refine qf ?_ (zg0 _ _)
 omega
theorem zhB (l : List UInt8) (n : Nat) : ∀ (st : P.St) (acc : List P.Rl), st.tok.at_ ≤ (xR l n st acc).2.tok.at_ := by
  induction n with
  | zero => intro st acc; exact zw _
  | succ n ih => intro st acc; rw [xR]; split
                 · rename_i h; have := zfH l st (acc.map P.Rl.number) h; have := ih (xg l st (acc.map P.Rl.number)).2 (acc ++ [(xg l st (acc.map P.Rl.number)).1]); omega
                 · exact zw _
theorem zoR (l:List UInt8)(st:P.St)(o:List (List UInt8))(h:qX st R.wHost=true):st.tok.at_+1<=(xj l st o).2.tok.at_:=by
 have h1:=ke l (qE st o.length 4) R.wHost (kj h) (by decide)
 rw[kA] at h1
 have h2:(zX l (qE st o.length 4) R.wHost).tok.at_<=(kI l st o).2.tok.at_:=by
  unfold kI xX;simp only[jA];exact fE _ _
 unfold xj ziB
 simp only
 refine qf ?_ (yk _ _ _)
 refine qf ?_ (zhB _ _ _ _)
 refine qf ?_ (yk _ _ _)
 omega
def uG (n:Nat)(pcs:List (List UInt8)):Bool:=
 match pcs with
 | []=>false
 | p :: ps=>R.allB (fun c=>R.partI c true) p && (decide (0<n+p.length) && ps.all fun x=>R.word x true)
theorem tV (a r:List UInt8)(n:Nat)(h:∀c∈a,c≠46):R.labelsGo true (a++r) n=(R.allB (fun c=>R.partI c true) a && R.labelsGo true r (n+a.length)):=by
 induction a generalizing n with
 | nil=>simp[R.allB]
 | cons c a ih=>
  have hc:=h c (by simp)
  have aa:¬(c.toNat:Int)=46:=by
   intro e;apply hc;apply UInt8.toNat_inj.1;show c.toNat=46;omega
  rw[List.cons_append,R.labelsGo,if_neg (fun x=>aa x.1),ih (n+1) (fun d hd=>h d (by simp[hd]))]
  have ha:R.allB (fun c=>R.partI c true) (c :: a)=(R.partI c.toNat true && R.allB (fun c=>R.partI c true) a):=by simp[R.allB]
  rw[ha,zoF,show n+1+a.length=n+(a.length+1) by omega]
  cases R.partI (↑c.toNat) true <;> simp
theorem zh5 (l:List UInt8)(x:UInt8):(Lib.index l [x] = -1/\∀c∈l,c≠x)\/∃i:Nat,Lib.index l [x]=i/\i<l.length/\l=l.take i++x :: l.drop (i+1)/\∀c∈l.take i,c≠x:=by
 induction l with
 | nil=>left;exact⟨rfl,by simp⟩
 | cons c r ih=>
  rw[jW]
  by_cases h:c=x
  ·right;exact⟨0,by rw[if_pos h];rfl,by simp,by simp[h],by simp⟩
  ·rw[if_neg h]
   rcases ih with ⟨h1,h2⟩ | ⟨i,h1,h2,h3,h4⟩
   ·left;refine⟨by rw[if_pos h1],?_⟩
    intro d hd
    rcases List.mem_cons.1 hd with rfl | hd
    ·exact h
    ·exact h2 d hd
   ·right
    refine⟨i+1,by rw[if_neg (by omega),h1];rfl,by simp;omega,?_,?_⟩
    ·rw[List.take_succ_cons,List.drop_succ_cons,List.cons_append,<-h3]
    ·intro d hd
     rw[List.take_succ_cons] at hd
     rcases List.mem_cons.1 hd with rfl | hd
     ·exact h
     ·exact h4 d hd
theorem zcG:∀(m:Nat) (l:List UInt8) (n:Nat),l.length<=m->uG n (Lib.splitK [46] 0 (Lib.count l [46]) l)=R.labelsGo true l n:=by
 intro m
 induction m with
 | zero=>
  intro l n h
  have:l=[]:=List.length_eq_zero_iff.1 (by omega)
  subst this
  rw[show Lib.count [] [46]=0 from rfl]
  simp[Lib.splitK,uG,R.labelsGo,R.allB]
 | succ m ih=>
  intro l n h
  rcases zh5 l 46 with ⟨h1,h2⟩ | ⟨i,h1,h2,h3,h4⟩
  ·have hc:Lib.count l [46]=0:=Lib.count_miss h1
   rw[hc]
   have:=tV l [] n h2
   rw[zb3] at this
   rw[this]
   simp[Lib.splitK,uG,R.labelsGo]
  ·have hc:Lib.count l [46]=1+Lib.count (l.drop (i+1)) [46]:=Lib.count_hit (by simp) h1
   rw[hc,Nat.add_comm,Lib.splitK,if_neg (by rw[h1];simp)]
   have ad:=ih (l.drop (i+1)) 0 (by rw[List.length_drop];omega)
   have aa:=tV (l.take i) (46 :: l.drop (i+1)) n h4
   rw[<-h3] at aa
   rw[aa,R.labelsGo]
   have hl:(l.take i).length=i:=by rw[List.length_take];omega
   rw[hl,h1]
   simp only[Int.toNat_natCast,Nat.add_zero,zoF,zmU]
   rw[uG]
   rw[hl]
   have ab:((Lib.splitK [46] 0 (Lib.count (l.drop (i+1)) [46]) (l.drop (i+1))).all fun x=>R.word x true)=uG 0 (Lib.splitK [46] 0 (Lib.count (l.drop (i+1)) [46]) (l.drop (i+1))):=by
    generalize hs:Lib.splitK [46] 0 (Lib.count (l.drop (i+1)) [46]) (l.drop (i+1))=sp
    cases sp with
    | nil=>exfalso;revert hs;cases Lib.count (l.drop (i+1)) [46] with
     | zero=>simp[Lib.splitK]
     | succ k=>rw[Lib.splitK];split <;> simp
    | cons p ps=>rw[List.all_cons,uG];unfold R.word;simp[Bool.and_assoc]
   rw[ab,ad]
   by_cases h0:0<n+i
   ·rw[decide_eq_true h0,Bool.true_and,if_pos ⟨by decide,h0⟩]
   ·rw[decide_eq_false h0,if_neg (fun x=>h0 x.2)];simp[R.partI,R.smallI,R.digitI,R.largeI]
def zgK (l:List UInt8):Bool:=(Lib.splitK [46] 0 (Lib.count l [46]) l).all fun x=>R.word x true
theorem zaW (l:List UInt8):zgK l=R.labels l true:=by
 unfold zgK R.labels
 rw[<-zcG l.length l 0 (zw _)]
 generalize hs:Lib.splitK [46] 0 (Lib.count l [46]) l=sp
 cases sp with
 | nil=>exfalso;revert hs;cases Lib.count l [46] with
  | zero=>simp[Lib.splitK]
  | succ k=>rw[Lib.splitK];split <;> simp
 | cons p ps=>rw[List.all_cons,uG];unfold R.word;simp[Bool.and_assoc]
theorem znB (l:List UInt8):(decide (l=[42]) || zgK (Lib.trimPrefix l [42,46]))=R.named l true:=by
 rw[zaW]
 unfold R.named Lib.trimPrefix Lib.hasPrefix
 by_cases h1:l=[42]
 ·rw[if_pos h1,decide_eq_true h1];rfl
 ·rw[if_neg h1,decide_eq_false h1,Bool.false_or]
  by_cases hp:([42,46]:List UInt8).isPrefixOf l=true
  ·rw[if_pos hp]
   rw[List.isPrefixOf_iff_prefix] at hp
   obtain⟨r,rfl⟩:=hp
   by_cases hr:0<r.length
   ·rw[if_pos (by constructor;rfl;simp;omega)];rfl
   ·have:r=[]:=List.length_eq_zero_iff.1 (by omega)
    subst this
    rw[if_neg (by simp)]
    decide
  ·rw[if_neg hp,if_neg]
   intro⟨c,_⟩
   apply hp
   rw[List.isPrefixOf_iff_prefix]
   exact⟨l.drop 2,by rw[<-c,List.take_append_drop]⟩
theorem znX (l:List UInt8):decide (Lib.trimB l 32=l)=(decide (l.length=0) || (decide (l.head?≠some 32) && decide (l.getLast?≠some 32))):=by
 unfold Lib.trimB Lib.trimLeftB Lib.trimRightB
 have dw:∀(m:List UInt8),(m.dropWhile (· == 32)).length<=m.length:=fun m=>List.IsSuffix.length_le (List.dropWhile_suffix _)
 have aa:∀(m:List UInt8),m.dropWhile (· == 32)=m↔m.head?≠some 32:=by
  intro m
  cases m with
  | nil=>simp
  | cons c m=>
   rw[List.dropWhile_cons]
   by_cases hc:c=32
   ·subst hc
    rw[if_pos (by simp)]
    constructor
    ·intro e;have:=dw m;rw[e,zoF] at this;omega
    ·intro e;simp at e
   ·rw[if_neg (by simpa using hc)];simpa using hc
 rw[Bool.eq_iff_iff]
 simp only[decide_eq_true_eq,Bool.or_eq_true,Bool.and_eq_true]
 constructor
 ·intro h
  by_cases h0:l.length=0
  ·exact Or.inl h0
  ·right
   have l1:(l.reverse.dropWhile (· == 32)).reverse.length<=l.length:=by rw[List.length_reverse];have:=dw l.reverse;rwa[List.length_reverse] at this
   have l2:=dw (l.reverse.dropWhile (· == 32)).reverse
   rw[h] at l2
   have e1:l.reverse.dropWhile (· == 32)=l.reverse:=by
    apply List.IsSuffix.eq_of_length (List.dropWhile_suffix _)
    rw[List.length_reverse] at *;omega
   rw[e1,List.reverse_reverse] at h
   have a:=(aa l).1 h
   have b:=(aa l.reverse).1 e1
   rw[List.head?_reverse] at b
   exact⟨a,b⟩
 ·intro h
  rcases h with h | ⟨a,b⟩
  ·have:l=[]:=List.length_eq_zero_iff.1 h
   subst this;rfl
  ·have e1:l.reverse.dropWhile (· == 32)=l.reverse:=(aa l.reverse).2 (by rw[List.head?_reverse];exact b)
   rw[e1,List.reverse_reverse]
   exact(aa l).2 a
end Go.Proofs.YtfocdefchbnkpaaGreatDoor
