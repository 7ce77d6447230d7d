/- Taking packed policies apart, as the document's own functions do it: all of it (ref.Unpack). -/
import Derived.Test.YtfocdefchbnkpaaGreatDoorAli
import Derived.Test.YtfocdefchbnkpaaGreatDoorTkE
import Derived.Test.YtfocdefchbnkpaaGreatDoorUnC
import Derived.Test.YtfocdefchbnkpaaGreatDoorPrB
import Derived.StillTailTactics
import Derived.Laws.BitsLemmas
import Derived.Test.YtfocdefchbnkpaaGreatDoorRefS
import Derived.Lib.SliceRun
import Derived.Deep.QuietTactic
import Derived.BigQuiet
import Derived.Test.YtfocdefchbnkpaaGreatDoorPkE
set_option maxRecDepth 100000
set_option maxHeartbeats 20000000
namespace Go.Proofs.YtfocdefchbnkpaaGreatDoor
open Go.RowKit
theorem TInv.safe {w:World}{tb:Nat}{v:Value}{b:List UInt8}{s:T.St}{l:List TypeId}(h:TInv w tb v b s)(hn:257 ∉ l):Safe w (some tb) l:=by
 obtain⟨p,_,_,h1⟩:=h.ex;exact xY h1 hn
theorem TInv.bad {w:World}{tb:Nat}{v:Value}{b:List UInt8}{s:T.St}(h:TInv w tb v b s):w.cell? ⟨tb,2,none⟩=some (.bool s.bad):=by
 obtain⟨p,_,_,h1⟩:=h.ex;exact zB h1
theorem zhZ {w:World}{aa:List (List Value)}{hs:List R.Hst}(h:All2 (HostVal w) aa hs)(k:Nat)(hk:k<hs.length):aa.flatten[k*2]?=some (.string (R.str hs[k].name)):=by
 induction h generalizing k with
 | nil=>simp at hk
 | @cons c r cs rs hc _ ih=>
  obtain⟨vR,rfl,_⟩:=hc
  match k with
  | 0=>rfl
  | k+1=>
   have:=ih k (by simpa using hk)
   rw[zf7,List.getElem?_append_right (by simp;omega)]
   simp only[zoF,zmU]
   rw[show(k+1)*2 - (0+1+1)=k*2 by omega]
   exact this
theorem zeG (m:Nat)(s:T.St):(zy m s).1<=m:=by
 unfold zy
 split
 ·simp
 ·omega
theorem zfZ (n:Nat)(aa:List R.Rl)(s:T.St)(h:s.bad=false):yM (n+1) aa s=yM n (aa++[(j1 s).1]) (qT (j1 s).2 (match aa.getLast? with | none=>true | some x=>decide (x.number<(j1 s).1.number))):=by
 rw[yM,h];rfl
theorem zgH (n:Nat)(aa:List R.Hst)(s:T.St)(h:s.bad=false):yt (n+1) aa s=yt n (aa++[⟨(yL s aa).1,(yM (zy 6 (yL s aa).2).1 [] (zy 6 (yL s aa).2).2).1⟩]) (yM (zy 6 (yL s aa).2).1 [] (zy 6 (yL s aa).2).2).2:=by
 rw[yt,h];rfl
theorem zr0 {x:P.Hst}(h:VHst x):BH (toR x) where
 nl:=h.nl
 rl:=by show(x.rules.map toRl).length<=6;rw[xW];exact h.rl
 rules:=fun r hr=>by
  obtain⟨y,hy,rfl⟩:=List.mem_map.1 (show r∈x.rules.map toRl from hr)
  have hv:=h.rules y hy
  exact⟨hv.num,hv.pl,⟨by show(y.ms.map mtOf).length<=3;rw[xW];exact hv.ml,fun m hm=>by
   obtain⟨z,hz,rfl⟩:=List.mem_map.1 (show m∈y.ms.map mtOf from hm)
   exact⟨(hv.ms z hz).nl,(hv.ms z hz).vl⟩⟩,⟨hv.tl,fun t ht=>⟨(hv.tg t ht).ul,by have:=(hv.tg t ht).lo;omega,by have:=(hv.tg t ht).hi;omega⟩⟩,by show y.rep.length<=24;rcases hv.rep with e | e;rw[e];simp;exact e.2,
   ⟨hv.sl,fun t ht=>⟨(hv.sets t ht).nl,(hv.sets t ht).vl⟩⟩,⟨hv.dl,fun t ht=>(hv.drops t ht).nl⟩⟩
theorem zqZ {x y:P.Rl}(h:toRl x=toRl y):x=y:=by
 obtain⟨n,p,ms,tg,rp,st,dp⟩:=x
 obtain⟨n',p',ab,ag,ae,af,ad⟩:=y
 simp only[toRl,rlOf,R.Rl.mk.injEq] at h
 obtain⟨h1,h2,h3,h4,_,h5,h6,h7⟩:=h
 have aa:ms=ab:=List.map_inj_right (fun a b e=>by
  obtain⟨a1,a2,a3⟩:=a
  obtain⟨b1,b2,b3⟩:=b
  simp only[mtOf,R.Mt.mk.injEq] at e
  obtain⟨e1,e2,e3⟩:=e
  rw[e1,e2,e3]) |>.1 h3
 rw[h1,h2,aa,h4,h5,h6,h7]
theorem zsT {a b:List P.Hst}(h:a.map toR=b.map toR):a=b:=
 List.map_inj_right (fun x y e=>by
  obtain⟨n,rs⟩:=x
  obtain⟨n',aa⟩:=y
  simp only[toR,R.Hst.mk.injEq] at e
  rw[e.1,List.map_inj_right (fun _ _ h=>zqZ h) |>.1 e.2]) |>.1 h
theorem zdE {w:World}{v:Value}{b:List UInt8}(hr:RdO w v b)(hv:b≠[]->∀g o n c,v = .slice (some ⟨g,o,none⟩) n c->g<w.heap.size)(hl:b.length<=140737488355328) :
  Calls Tryz.prog 96 #[v] w fun e w'=>w.grownBy w' none/\((∃hs u,VHs hs/\x9 hs=b/\e = .returned (.tuple #[u,.bool true])/\HostsRow w' 0 u (hs.map toR))\/((∀hs,VHs hs->x9 hs≠b)/\∃u,e = .returned (.tuple #[u,.bool false]))):=by
 obtain⟨i0,hi,bY,bZ,b0⟩:=info_parts zm8
 obtain⟨i1,hj,bx,bz,bA⟩:=info_parts zmC
 obtain⟨va,vc,rfl,cu⟩:=hr.form
 have gA:w.grownBy (w.alloc (.cells #[.slice va b.length vc,.int .i64 0,.bool false] 257)) none:=zL _ _ none
 have bX:(w.alloc (.cells #[.slice va b.length vc,.int .i64 0,.bool false] 257)).heap.size=w.heap.size+1:=by simp
 have I0:Y (TInv (w.alloc (.cells #[.slice va b.length vc,.int .i64 0,.bool false] 257)) w.heap.size (.slice va b.length vc) b ⟨b,false⟩):=⟨⟨0,zo _,rfl,heap_alloc_new _ _⟩,hr.keep gA (fun g o n c e c2=>by cases c2),fun h0 g o n c e=>by have:=hv h0 g o n c e;omega,hl⟩
 have aY:Y (w.grownBy (w.alloc (.cells #[.slice va b.length vc,.int .i64 0,.bool false] 257)) none):=gA
 have a4:Y (RdO (w.alloc (.cells #[.slice va b.length vc,.int .i64 0,.bool false] 257)) (.slice va b.length vc) b):=hr.keep gA (fun g o n c e c2=>by cases c2)
 have aS:Y (tU b=yt (zy 4 (wQ ⟨b,false⟩)).1 [] (zy 4 (wQ ⟨b,false⟩)).2):=rfl
 have bl:Y (wQ ⟨b,false⟩=qT (qq (qq (qq ⟨b,false⟩).2).2).2 (decide ((qq ⟨b,false⟩).1=83) && (decide ((qq (qq ⟨b,false⟩).2).1=89) && decide ((qq (qq (qq ⟨b,false⟩).2).2).1=49)))):=rfl
 clear hr hv gA
 obtain⟨au,aH⟩:∃au,Y (au=tU b):=⟨_,rfl⟩
 rw[<-aH.o] at aS
 generalize wQ ⟨b,false⟩=hd at*
 generalize(⟨b,false⟩:T.St)=s0 at*
 go_enter Tryz.func96,Tryz.ntmps96
 go_wp2_with fail
 generalize(w.alloc (.cells #[.slice va b.length vc,.int .i64 0,.bool false] 257))=wa at*
 generalize bv:w.heap.size=tb at*
 have a5:Y (w.heap.size=tb):=bv
 have ct:tb<wa.heap.size:=by omega
 clear bv bX
 have aF:Y (∀(wu w1:World) (s1:T.St) (row:Option Nat),TInv wu tb (.slice va b.length vc) b s1->wu.grownBy w1 row->(∀k,row=some k->wa.heap.size<=k)->TInv w1 tb (.slice va b.length vc) b s1):=fun wu w1 s1 row h1 h2 h3=>I0.o.far h1 h2 h3
 have G0:Y (wa.grownBy wa (some tb)):=ze _ _
 refine(wl I0.o).mono ?_
 rintro e w1 ⟨rfl,i1,g1⟩
 have I1:Y (TInv w1 tb (.slice va b.length vc) b (qq s0).2):=i1
 have G1:=J (zD G0.o g1)
 clear i1 g1 I0 G0
 generalize qq (s0)=o1 at*
 go_wp2_with fail
 refine(wl I1.o).mono ?_
 rintro e w2 ⟨rfl,i2,g2⟩
 have I2:Y (TInv w2 tb (.slice va b.length vc) b (qq (o1.2)).2):=i2
 have G2:=J (zD G1.o g2)
 clear i2 g2 I1 G1
 generalize qq ((o1.2))=o2 at*
 go_wp2_with fail
 refine(wl I2.o).mono ?_
 rintro e w3 ⟨rfl,i3,g3⟩
 have I3:Y (TInv w3 tb (.slice va b.length vc) b (qq (o2.2)).2):=i3
 have G3:=J (zD G2.o g3)
 clear i3 g3 I2 G2
 generalize qq ((o2.2))=o3 at*
 have HM:Y (∀bb,bb=(decide (o1.1=83) && (decide (o2.1=89) && decide (o3.1=49)))->Calls Tryz.prog 141 #[.pointer (some ⟨tb,0,none⟩),.bool bb] w3 fun e w'=>e = .returned (.tuple #[])/\TInv w' tb (.slice va b.length vc) b hd/\wa.grownBy w' (some tb)):=fun bb hb=>by
  rw[bl.o,hb]
  exact(yZ I3.o _).mono fun e w' ⟨q1,q2,q3⟩=>⟨q1,q2,zD G3.o q3⟩
 clear bl I3 G3
 go_upto_region 5 with fail
 go_cut [] from 5 (fun wx=>Y (TInv wx tb (.slice va b.length vc) b hd)/\Y (wa.grownBy wx (some tb)))
 case first=>
  go_wp2_with fail
  all_goals
   refine(HM.o _ ?_).mono ?_
   rotate_left 1
   ·rintro e w4 ⟨rfl,i4,g4⟩
    have I4:Y (TInv w4 tb (.slice va b.length vc) b hd):=i4
    have G4:Y (wa.grownBy w4 (some tb)):=g4
    clear i4 g4 HM
    go_wp2_with fail
    go_meet
    case rel=>exact⟨I4,G4⟩
   ·by_cases q1:o1.1=83 <;> by_cases q2:o2.1=89 <;> simp only[q1,q2,decide_true,decide_false,Bool.true_and,Bool.false_and] <;> first
     | rfl
     | (exfalso;omega)
     | (rw[Bool.eq_iff_iff];simp;omega)
 case rest=>
  obtain⟨I4,G4⟩:=hcut
  clear HM
  have hN:(zy 4 hd).1<=4:=zeG 4 hd
  have HF:Y (Calls Tryz.prog 142 #[.pointer (some ⟨tb,0,none⟩),.int .i64 (4:Nat)] wc fun e w'=>e = .returned (.int .i64 ((zy 4 hd).1:Nat))/\TInv w' tb (.slice va b.length vc) b (zy 4 hd).2/\wc.grownBy w' (some tb)):=vh I4.o 4
  generalize zy 4 hd=fw at*
  obtain⟨N,s5⟩:=fw
  simp only at HF hN aS
  go_wp2_with fail
  refine HF.o.mono ?_
  rintro e w5 ⟨rfl,i5,g5⟩
  have I5:Y (TInv w5 tb (.slice va b.length vc) b s5):=i5
  have G5:=J (zD G4.o g5)
  clear i5 g5 I4 G4 HF
  go_wp2_with fail
  go_loopw [8,10] (fun u iv wr=>∃(aa:List R.Hst) (st:T.St) (ai:List (List Value)),aa.length<=N/\iv = .int .i64 aa.length/\Y (au=yt (N - aa.length) aa st)/\Y (TInv wr tb (.slice va b.length vc) b st)/\Y (wa.grownBy wr (some tb))/\Y (wr.ownsRow wa.heap.size 119 2 u aa.length ai.flatten)/\Y (All2 (HostVal wr) ai aa)) (fun _ iv _=>N - (intOf iv).toNat)
  case atStart=>exact⟨[],s5,[],zo _,rfl,by show _=_;rw[aS.o];rfl,I5,G5,xd _ _ _ _,.nil⟩
  case round=>
   obtain⟨aa,st,ai,cl,rfl,HL,IR,GR,HO,HA⟩:=hrel
   clear I5 G5 aS
   have cb:=IR.o.bad
   obtain⟨ua,uc,rfl⟩:=zO HO.o
   by_cases co:aa.length<N
   ·have bw:(aa.length:Int)<N:=by omega
    cases hbad:st.bad
    ·rw[hbad] at cb
     have ax:Y (au=yt (N - (aa.length+1)) (aa++[⟨(yL st aa).1,(yM (zy 6 (yL st aa).2).1 [] (zy 6 (yL st aa).2).2).1⟩]) (yM (zy 6 (yL st aa).2).1 [] (zy 6 (yL st aa).2).2).2):=by show _=_;rw[HL.o,show N - aa.length=N - (aa.length+1)+1 by omega];exact zgH _ _ _ hbad
     have aO:Y (yL st aa=((zr st).1,qT (qT (zr st).2 (R.named (zr st).1 false)) (match aa.getLast? with | none=>true | some x=>qu x.name (zr st).1))):=rfl
     have bU:=jB st
     have CW:Y (wr.grownBy wr (some tb)):=ze _ _
     have cv:=GR.o.size
     have a7:Y (TInv wr tb (.slice va b.length vc) b st):=IR
     have bk:Y (∀(wu w':World) (s1:T.St) (row:Option Nat),TInv wu tb (.slice va b.length vc) b s1->wu.grownBy w' row->(∀k,row=some k->wr.heap.size<=k)->TInv w' tb (.slice va b.length vc) b s1):=fun wu w' s1 row h1 h2 h3=>IR.o.far h1 h2 h3
     clear HL
     generalize yL st aa=ha at*
     go_wp2_with fail
     refine(jr IR.o).mono ?_
     rintro e ab ⟨rfl,br,ba⟩
     have a8:Y _:=br
     have cd:tb<ab.heap.size:=a8.o.tlt
     have cA:wr.heap.size+0<=ab.heap.size:=by have h:=ba.size;simpa using h
     have bE:Y (wr.grownBy ab (some tb)):=ba
     have bg:=J (zD CW.o bE.o)
     have cE:=bg.o.size
     clear ba br
     generalize zr st=tx at*
     obtain⟨nm,s1⟩:=tx
     simp only at a8 aO bU
     go_wp2_with fail
     have bL:Y _:=a8.o.keep (zL ab (.cells #[.string (R.str nm),.slice none 0 0] 119) none)
     have bh:Y (wr.grownBy (World.alloc ab (.cells #[.string (R.str nm),.slice none 0 0] 119)) (some tb)):=zD bg.o (zL ab (.cells #[.string (R.str nm),.slice none 0 0] 119) _)
     have bF:Y ((World.alloc ab (.cells #[.string (R.str nm),.slice none 0 0] 119)).heap[ab.heap.size]?=some (.cells #[.string (R.str nm),.slice none 0 0] 119)):=heap_alloc_new _ _
     have cB:ab.heap.size+1<=(World.alloc ab (.cells #[.string (R.str nm),.slice none 0 0] 119)).heap.size:=by simp
     have cD:(World.alloc ab (.cells #[.string (R.str nm),.slice none 0 0] 119)).heap.size<=ab.heap.size+1:=by simp
     generalize(World.alloc ab (.cells #[.string (R.str nm),.slice none 0 0] 119))=wL2 at*
     have ce:tb<wL2.heap.size:=by omega
     have cF:=bh.o.size
     have hv:=zeZ (R.str nm) false wL2 (by rw[R.str_size];unfold maxLen;omega)
     rw[R.str_toList] at hv
     have HV:Y (Calls Tryz.prog 87 #[.string (R.str nm),.bool false] wL2 fun e w'=>e = .returned (.bool (R.named nm false))/\w'=wL2):=hv
     clear hv
     refine HV.o.mono ?_
     rintro e wX ⟨rfl,bD⟩
     rw[bD]
     clear bD wX HV
     generalize R.named nm false=nd at*
     go_wp2_with fail
     refine(yZ bL.o nd).mono ?_
     rintro e av ⟨rfl,bs,bc⟩
     have bt:Y _:=bs
     have cf:tb<av.heap.size:=bt.o.tlt
     have cC:wL2.heap.size+0<=av.heap.size:=by have h:=bc.size;simpa using h
     have bi:Y (wL2.grownBy av (some tb)):=bc
     have aN:=J (zD bh.o bi.o)
     have cG:=aN.o.size
     have aQ:=J (zF bF.o bi.o (by simp;omega))
     clear bc bs
     generalize qT s1 nd=s2 at*
     have cy:=zI aQ.o
     have cx:=zuH aQ.o
     go_upto_region 14 with fail
     go_cut [] from 61 to 76 (fun wx=>Y (TInv wx tb (.slice va b.length vc) b (ha.2))/\Y (wr.grownBy wx (some tb))/\Y (wx.heap[ab.heap.size]?=some (.cells #[.string (R.str nm),.slice none 0 0] 119)))
     case first=>
      have ak:Y (∀bb,bb=(match aa.getLast? with | none=>true | some x=>qu x.name nm)->Calls Tryz.prog 141 #[.pointer (some ⟨tb,0,none⟩),.bool bb] av.drew fun e w'=>e = .returned (.tuple #[])/\TInv w' tb (.slice va b.length vc) b ha.2/\av.grownBy w' (some tb)):=fun bb hb=>by
       rw[aO.o,<-hb]
       exact(yZ (bt.o.keep (zg _)) bb).mono fun e w' ⟨q1,q2,q3⟩=>⟨q1,q2,zD (zb (zg _) _) q3⟩
      generalize aj:aa.length=n1 at*
      have ca:Y (aa.length=n1):=aj
      by_cases an:n1=0
      ·have HZ:Y (n1=0):=an
       have h0:aa=[]:=List.length_eq_zero_iff.1 (by omega)
       have aq:Y (true=(match aa.getLast? with | none=>true | some x=>qu x.name nm)):=by show _=_;rw[h0];rfl
       clear h0 aj an
       refine wp_region_still_tail 15 (by kernel_rfl) (by kernel_rfl) ?_
       simp only[List.take_succ_cons,List.take_zero,List.drop_succ_cons,List.drop_zero]
       iterate 4 still_step
       iterate 10 (refine wpStill_step (fun K hK=>?_);go_simp;rw[if_pos HZ.o];refine hK _ ?_;clear hK K)
       refine wpStill_step (fun K hK=>?_)
       go_simp
       rw[if_pos HZ.o]
       refine hK _ ?_
       clear hK K
       refine wpStill_nil ?_
       go_wp2_with fail
       show Calls _ _ _ (World.drew av) _
       refine(ak.o _ aq.o).mono ?_
       rintro e w6 ⟨rfl,i6,g6⟩
       have I6:Y (TInv w6 tb (.slice va b.length vc) b ha.2):=i6
       have G6:=J (zD aN.o g6)
       have B6:=J (zF aQ.o g6 (fun c=>by have:=x5 c;omega))
       clear i6 g6 ak aq
       go_wp2_with fail
       go_meet
       case rel=>exact⟨I6,G6,B6⟩
      ·have bV:0<n1:=by omega
       have HZ:Y (¬n1=0):=an
       obtain⟨m,ae⟩:∃m,Y (n1=m+1):=⟨n1 - 1,by show _=_;omega⟩
       have ay:m<aa.length:=by rw[aj,ae.o];omega
       have bT:(m:Int)<n1:=by rw[ae.o];omega
       have cp:(n1:Int) - 1=(m:Int):=by rw[ae.o];omega
       have hw:IntKind.i64.wrap (m:Int)=(m:Int):=by rw[IntKind.wrap_i64];omega
       obtain⟨gu,cj,e1,_,_⟩:=World.ownsRow.form HO.o (by omega)
       simp only[qQ,true_and] at e1
       obtain⟨rfl,rfl⟩:=e1
       have cN:av.cell? ⟨gu,m*2,none⟩=some (.string (R.str aa[m].name)):=by
        have bW:=x6 HO.o aN.o (a7.o.safe (l:=htags) (by decide)) (by decide)
        rw[qR bW (m*2) (by rw[ae.o];omega)]
        exact zhZ HA.o m ay
       have aq:Y (((n1:Int) == 0 || Op.bytesLess (R.str aa[m].name).toList (R.str nm).toList)=(match aa.getLast? with | none=>true | some x=>qu x.name nm)):=by
        show _=_
        have e:aa.getLast?=some aa[m]:=by rw[List.getLast?_eq_getElem?,aj,ae.o,Nat.add_sub_cancel,xo ay]
        rw[wC,e,show((n1:Int) == 0)=false from(by rw[beq_eq_false_iff_ne];omega),Bool.false_or]
       generalize aa[m]=hl' at*
       clear aj ay ae an
       refine wp_region_still_tail 15 (by kernel_rfl) (by kernel_rfl) ?_
       simp only[List.take_succ_cons,List.take_zero,List.drop_succ_cons,List.drop_zero]
       iterate 4 still_step
       iterate 10 (refine wpStill_step (fun K hK=>?_);go_simp;rw[if_neg HZ.o];refine hK _ ?_;clear hK K)
       refine wpStill_step (fun K hK=>?_)
       go_simp
       refine hK _ ?_
       clear hK K
       refine wpStill_nil ?_
       go_wp2_with fail
       show Calls _ _ _ (World.drew av) _
       refine(ak.o _ aq.o).mono ?_
       rintro e w6 ⟨rfl,i6,g6⟩
       have I6:Y (TInv w6 tb (.slice va b.length vc) b ha.2):=i6
       have G6:=J (zD aN.o g6)
       have B6:=J (zF aQ.o g6 (fun c=>by have:=x5 c;omega))
       clear i6 g6 ak aq
       go_wp2_with fail
       go_meet
       case rel=>exact⟨I6,G6,B6⟩
     case rest=>
      obtain⟨I7,G7,B7⟩:=hcut
      have bJ:(zy 6 ha.2).1<=6:=zeG 6 ha.2
      have aX:Y (Calls Tryz.prog 142 #[.pointer (some ⟨tb,0,none⟩),.int .i64 (6:Nat)] wc fun e w'=>e = .returned (.int .i64 ((zy 6 ha.2).1:Nat))/\TInv w' tb (.slice va b.length vc) b (zy 6 ha.2).2/\wc.grownBy w' (some tb)):=vh I7.o 6
      have bB:ha.1=nm:=by rw[aO.o]
      rw[bB] at ax
      have zc:=G7.o.size
      clear aO bB
      generalize zy 6 ha.2=fk at*
      obtain⟨Kn,s7⟩:=fk
      simp only at aX ax bJ
      generalize bC:yM Kn [] s7=rr at*
      have bm:Y (rr=yM Kn [] s7):=bC.symm
      clear bC
      go_wp2_with fail
      refine aX.o.mono ?_
      rintro e w8 ⟨rfl,i8,g8⟩
      have I8:Y (TInv w8 tb (.slice va b.length vc) b s7):=i8
      have G8:=J (zD G7.o g8)
      have B8:=J (zF B7.o g8 (fun c=>by have:=x5 c;omega))
      clear i8 g8 aX I7 G7 B7
      generalize wr=wo at*
      go_wp2_with fail
      go_loopw [14] (fun iv wz=>∃(rs:List R.Rl) (s9:T.St) (vR:Value) (af:List (List Value)),rs.length<=Kn/\iv = .int .i64 rs.length/\Y (rr=yM (Kn - rs.length) rs s9)/\Y (TInv wz tb (.slice va b.length vc) b s9)/\Y (wo.grownBy wz (some tb))/\Y (wz.heap[ab.heap.size]?=some (.cells #[.string (R.str nm),vR] 119))/\Y (wz.ownsRow wo.heap.size 126 8 vR rs.length af.flatten)/\Y (All2 (RuleVal wz) af rs)) (fun iv _=>Kn - (intOf iv).toNat)
      case atStart=>exact⟨[],s7,_,[],zo _,rfl,bm,I8,G8,B8,xd _ _ _ _,.nil⟩
      case round=>
       obtain⟨rs,s9,vR,af,ck,rfl,HQ,IZ,GZ,BZ,RZ,AZ⟩:=hrel
       clear I8 G8 B8 bm
       have cz:=IZ.o.bad
       have zz:=GZ.o.size
       obtain⟨ra,rc,rfl⟩:=zO RZ.o
       have bQ:wr.cell? ⟨ab.heap.size,0,none⟩=some (.string (R.str nm)):=zB BZ.o
       have bR:wr.cell? ⟨ab.heap.size,1,none⟩=some (.slice ra rs.length rc):=zB BZ.o
       have cn:=zI BZ.o
       by_cases bS:rs.length<Kn
       ·have bu:(rs.length:Int)<Kn:=by omega
        cases hbd:s9.bad
        ·rw[hbd] at cz
         have aR:Y (rr=yM (Kn - (rs.length+1)) (rs++[(j1 s9).1]) (qT (j1 s9).2 (match rs.getLast? with | none=>true | some x=>decide (x.number<(j1 s9).1.number)))):=by show _=_;rw[HQ.o,show Kn - rs.length=Kn - (rs.length+1)+1 by omega];exact zfZ _ _ _ hbd
         have a6:Y (Calls Tryz.prog 144 #[.pointer (some ⟨tb,0,none⟩)] wr fun e w'=>∃cs,e = .returned (.agg cs.toArray)/\RuleVal w' cs (j1 s9).1/\TInv w' tb (.slice va b.length vc) b (j1 s9).2/\wr.grownBy w' (some tb)):=zn4 IZ.o
         have cc:Y (TInv wr tb (.slice va b.length vc) b s9):=IZ
         clear HQ
         generalize j1 s9=tr at*
         obtain⟨rl,be⟩:=tr
         simp only at a6 aR
         go_wp2_with fail
         refine a6.o.mono ?_
         rintro e wA ⟨cs,rfl,bd,iA,gA⟩
         have bf:=IZ.o.safe (l:=rtags) (by decide)
         obtain⟨vM,vT,vS,vD,rfl,hM,hT,hS,hD⟩:=id bd
         obtain⟨m1,m2,rfl⟩:=zO hM
         obtain⟨t1,t2,rfl⟩:=zO hT
         obtain⟨x1,x2,rfl⟩:=zO hS
         obtain⟨d1,d2,rfl⟩:=zO hD
         have bn:Y (RuleVal wA [.int .i64 rl.number,.string (R.str rl.path),.slice m1 rl.ms.length m2,.slice t1 rl.tg.length t2,.bool rl.change,.string (R.str rl.to),.slice x1 rl.sets.length x2,.slice d1 rl.drops.length d2] rl):=bd
         have IA:Y (TInv wA tb (.slice va b.length vc) b be):=iA
         have GA:=J (zD GZ.o gA)
         have BA:=J (zF BZ.o gA (fun c=>by have:=x5 c;omega))
         have RA:=J (x6 RZ.o gA bf (by decide))
         have AA:Y (All2 (RuleVal wA) af rs):=AZ.o.map fun a b hab=>hab.keep gA (jV bf)
         have zA:wr.heap.size<=wA.heap.size:=gA.size
         clear bd iA gA bf hM hT hS hD a6 IZ GZ BZ RZ AZ cz bQ bR
         have gU:wA.grownBy (wA.alloc (.cells #[.int .i64 rl.number,.string (R.str rl.path),.slice m1 rl.ms.length m2,.slice t1 rl.tg.length t2,.bool rl.change,.string (R.str rl.to),.slice x1 rl.sets.length x2,.slice d1 rl.drops.length d2] 126)) none:=zL _ _ none
         have IU:Y (TInv (wA.alloc (.cells #[.int .i64 rl.number,.string (R.str rl.path),.slice m1 rl.ms.length m2,.slice t1 rl.tg.length t2,.bool rl.change,.string (R.str rl.to),.slice x1 rl.sets.length x2,.slice d1 rl.drops.length d2] 126)) tb (.slice va b.length vc) b be):=IA.o.keep gU
         have GU:Y (wo.grownBy (wA.alloc (.cells #[.int .i64 rl.number,.string (R.str rl.path),.slice m1 rl.ms.length m2,.slice t1 rl.tg.length t2,.bool rl.change,.string (R.str rl.to),.slice x1 rl.sets.length x2,.slice d1 rl.drops.length d2] 126)) (some tb)):=zD GA.o (zb gU _)
         have BU:=J (zF BA.o gU (by simp))
         have UU:Y ((wA.alloc (.cells #[.int .i64 rl.number,.string (R.str rl.path),.slice m1 rl.ms.length m2,.slice t1 rl.tg.length t2,.bool rl.change,.string (R.str rl.to),.slice x1 rl.sets.length x2,.slice d1 rl.drops.length d2] 126)).heap[wA.heap.size]?=some (.cells #[.int .i64 rl.number,.string (R.str rl.path),.slice m1 rl.ms.length m2,.slice t1 rl.tg.length t2,.bool rl.change,.string (R.str rl.to),.slice x1 rl.sets.length x2,.slice d1 rl.drops.length d2] 126)):=heap_alloc_new _ _
         have RU:Y ((wA.alloc (.cells #[.int .i64 rl.number,.string (R.str rl.path),.slice m1 rl.ms.length m2,.slice t1 rl.tg.length t2,.bool rl.change,.string (R.str rl.to),.slice x1 rl.sets.length x2,.slice d1 rl.drops.length d2] 126)).ownsRow wo.heap.size 126 8 (.slice ra rs.length rc) rs.length af.flatten):=qK RA.o _
         have AU:Y (All2 (RuleVal (wA.alloc (.cells #[.int .i64 rl.number,.string (R.str rl.path),.slice m1 rl.ms.length m2,.slice t1 rl.tg.length t2,.bool rl.change,.string (R.str rl.to),.slice x1 rl.sets.length x2,.slice d1 rl.drops.length d2] 126))) af rs):=AA.o.map fun a b hab=>hab.keep gU (zi _ _)
         have VU:Y (RuleVal (wA.alloc (.cells #[.int .i64 rl.number,.string (R.str rl.path),.slice m1 rl.ms.length m2,.slice t1 rl.tg.length t2,.bool rl.change,.string (R.str rl.to),.slice x1 rl.sets.length x2,.slice d1 rl.drops.length d2] 126)) [.int .i64 rl.number,.string (R.str rl.path),.slice m1 rl.ms.length m2,.slice t1 rl.tg.length t2,.bool rl.change,.string (R.str rl.to),.slice x1 rl.sets.length x2,.slice d1 rl.drops.length d2] rl):=bn.o.keep gU (zi _ _)
         have bM:Y (∀k,(Value.slice ra rs.length rc).ownBlock=some k->k<wA.heap.size):=fun k hk=>(zx RA.o k hk).2
         have zU:wA.heap.size<(wA.alloc (.cells #[.int .i64 rl.number,.string (R.str rl.path),.slice m1 rl.ms.length m2,.slice t1 rl.tg.length t2,.bool rl.change,.string (R.str rl.to),.slice x1 rl.sets.length x2,.slice d1 rl.drops.length d2] 126)).heap.size:=by simp
         clear gU IA GA BA RA AA bn
         go_upto_region 20 with fail
         generalize wA.alloc (.cells #[.int .i64 rl.number,.string (R.str rl.path),.slice m1 rl.ms.length m2,.slice t1 rl.tg.length t2,.bool rl.change,.string (R.str rl.to),.slice x1 rl.sets.length x2,.slice d1 rl.drops.length d2] 126)=wU at*
         obtain⟨ap,aT⟩:∃ap,Y (ap=qT be (match rs.getLast? with | none=>true | some x=>decide (x.number<rl.number))):=⟨_,rfl⟩
         rw[<-aT.o] at aR
         go_cut [] from 93 to 108 (fun wx=>Y (TInv wx tb (.slice va b.length vc) b ap)/\Y (wU.grownBy wx (some tb)))
         case first=>
          have ak:Y (∀bb,bb=(match rs.getLast? with | none=>true | some x=>decide (x.number<rl.number))->Calls Tryz.prog 141 #[.pointer (some ⟨tb,0,none⟩),.bool bb] wU.drew fun e w'=>e = .returned (.tuple #[])/\TInv w' tb (.slice va b.length vc) b ap/\wU.grownBy w' (some tb)):=fun bb hb=>by
           rw[aT.o,<-hb]
           exact(yZ (IU.o.keep (zg _)) bb).mono fun e w' ⟨q1,q2,q3⟩=>⟨q1,q2,zD (zb (zg _) _) q3⟩
          have cH:=zuB BU.o
          have cU:=zuE UU.o
          have cr:rs.length<=6:=by omega
          clear aR ax aT bu bS
          generalize aj:rs.length=n2 at*
          by_cases an:n2=0
          ·have HZ:Y (n2=0):=an
           have h0:rs=[]:=List.length_eq_zero_iff.1 (by omega)
           have aq:Y (true=(match rs.getLast? with | none=>true | some x=>decide (x.number<rl.number))):=by show _=_;rw[h0];rfl
           clear h0 aj an
           refine wp_region_still_tail 15 (by kernel_rfl) (by kernel_rfl) ?_
           simp only[List.take_succ_cons,List.take_zero,List.drop_succ_cons,List.drop_zero]
           iterate 4 still_step
           iterate 10 (refine wpStill_step (fun K hK=>?_);go_simp;rw[if_pos HZ.o];refine hK _ ?_;clear hK K)
           refine wpStill_step (fun K hK=>?_)
           go_simp
           rw[if_pos HZ.o]
           refine hK _ ?_
           clear hK K
           refine wpStill_nil ?_
           go_wp2_with fail
           show Calls _ _ _ (World.drew wU) _
           refine(ak.o _ aq.o).mono ?_
           rintro e w6 ⟨rfl,i6,g6⟩
           have I6:Y (TInv w6 tb (.slice va b.length vc) b ap):=i6
           have G6:Y (wU.grownBy w6 (some tb)):=g6
           clear i6 g6 ak aq
           go_wp2_with fail
           go_meet
           case rel=>exact⟨I6,G6⟩
          ·have HZ:Y (¬n2=0):=an
           obtain⟨m,ae⟩:∃m,Y (n2=m+1):=⟨n2 - 1,by show _=_;omega⟩
           have ay:m<rs.length:=by rw[aj,ae.o];omega
           have bT:(m:Int)<n2:=by rw[ae.o];omega
           have cq:(n2:Int) - 1=(m:Int):=by rw[ae.o];omega
           have hw:IntKind.i64.wrap (m:Int)=(m:Int):=by rw[IntKind.wrap_i64];omega
           obtain⟨gr,ci,e1,_,_⟩:=World.ownsRow.form RU.o (by omega)
           simp only[qQ,true_and] at e1
           obtain⟨rfl,rfl⟩:=e1
           have cN:wU.cell? ⟨gr,m*8,none⟩=some (.int .i64 rs[m].number):=by
            rw[qR RU.o (m*8) (by rw[ae.o];omega)]
            obtain⟨cs,h1,h2⟩:=uZ AU.o m ay
            obtain⟨q1,q2,q3,q4,rfl,_⟩:=h1
            exact h2 0 (by omega)
           have bG:Y (rs.getLast?=some rs[m]):=by show _=_;rw[List.getLast?_eq_getElem?,aj,ae.o,Nat.add_sub_cancel,xo ay]
           generalize rs[m]=rl' at*
           clear aj ay ae
           have bV:0<n2:=by omega
           clear an
           refine wp_region_still_tail 15 (by kernel_rfl) (by kernel_rfl) ?_
           simp only[List.take_succ_cons,List.take_zero,List.drop_succ_cons,List.drop_zero]
           iterate 4 still_step
           iterate 10 (refine wpStill_step (fun K hK=>?_);go_simp;rw[if_neg HZ.o];refine hK _ ?_;clear hK K)
           refine wpStill_step (fun K hK=>?_)
           go_simp
           refine hK _ ?_
           clear hK K
           refine wpStill_nil ?_
           go_wp2_with fail
           show Calls _ _ _ (World.drew wU) _
           refine(ak.o _ (by rw[bG.o];show _=decide (rl'.number<rl.number);rw[show((n2:Int) == 0)=false from(by rw[beq_eq_false_iff_ne];omega),Bool.false_or])).mono ?_
           rintro e w6 ⟨rfl,i6,g6⟩
           have I6:Y (TInv w6 tb (.slice va b.length vc) b ap):=i6
           have G6:Y (wU.grownBy w6 (some tb)):=g6
           clear i6 g6 ak
           go_wp2_with fail
           go_meet
           case rel=>exact⟨I6,G6⟩
         case rest=>
          obtain⟨IX,GX⟩:=hcut
          have aW:=IU.o.safe (l:=rtags) (by decide)
          have BC:=J (zF BU.o GX.o (fun c=>by have:=x5 c;omega))
          have UC:=J (zF UU.o GX.o (fun c=>by have:=x5 c;omega))
          have RC:=J (x6 RU.o GX.o aW (by decide))
          have AC:Y (All2 (RuleVal wc) af rs):=AU.o.map fun a b hab=>hab.keep GX.o (jV aW)
          have VC:Y (RuleVal wc [.int .i64 rl.number,.string (R.str rl.path),.slice m1 rl.ms.length m2,.slice t1 rl.tg.length t2,.bool rl.change,.string (R.str rl.to),.slice x1 rl.sets.length x2,.slice d1 rl.drops.length d2] rl):=VU.o.keep GX.o (jV aW)
          have GC:=J (zD GU.o GX.o)
          have zC:=GC.o.size
          have bP:=zuB BC.o
          have cm:=zI BC.o
          have b1:=zuE UC.o
          have b2:=zu3 UC.o
          have b3:=ztY UC.o
          have b4:=zuD UC.o
          have b5:=zuI UC.o
          have b6:=zu5 UC.o
          have b7:=ztT UC.o
          have b8:=zu0 UC.o
          clear aW GX IU GU BU UU RU AU VU bM aT
          go_wp2_with (at_builtin;refine wpList_append_own _ rfl _ _ 117 rfl wo.heap.size 126 i0 _ 8 144 Tryz.underlying117 hi bY bZ b0 rfl (by decide) _ _ _ rfl (qK RC.o _) ⟨wc.heap.size,0,none⟩ 1 1 [.int .i64 rl.number,.string (R.str rl.path),.slice m1 rl.ms.length m2,.slice t1 rl.tg.length t2,.bool rl.change,.string (R.str rl.to),.slice x1 rl.sets.length x2,.slice d1 rl.drops.length d2] rfl rfl ?c1 ?c2 ?c3 ?c4 ?c5 ?_)
          case c1=>exact zu _ #[_,_,_,_,_,_,_,_] _ _ (by simp)
          case c2=>intro u hu;simp only[List.mem_cons,List.mem_nil_iff,or_false] at hu;rcases hu with rfl | rfl | rfl | rfl | rfl | rfl | rfl | rfl <;> rfl
          case c3=>unfold maxLen;omega
          case c4=>omega
          case c5=>simp;omega
          intro v9 w9 ao ad _
          obtain⟨aC,aD,rfl⟩:=zO ao
          have gO:wc.grownBy (wc.alloc (.cells #[.int .i64 rl.number,.string (R.str rl.path),.slice m1 rl.ms.length m2,.slice t1 rl.tg.length t2,.bool rl.change,.string (R.str rl.to),.slice x1 rl.sets.length x2,.slice d1 rl.drops.length d2] 126)) none:=zL _ _ none
          have ar:Safe (wc.alloc (.cells #[.int .i64 rl.number,.string (R.str rl.path),.slice m1 rl.ms.length m2,.slice t1 rl.tg.length t2,.bool rl.change,.string (R.str rl.to),.slice x1 rl.sets.length x2,.slice d1 rl.drops.length d2] 126)) (Value.slice ra rs.length rc).ownBlock leaves:=xz (qK RC.o _) (by decide)
          have ah:∀k,(Value.slice ra rs.length rc).ownBlock=some k->wo.heap.size<=k:=fun k hk=>(zx RC.o k hk).1
          have I9:Y (TInv w9 tb (.slice va b.length vc) b ap):=bk.o _ _ _ _ (IX.o.keep gO) ad ah
          have G9:Y (wo.grownBy w9 (some tb)):=qV (zD GC.o (zb gO _)) ad ah
          have B9:Y (w9.heap[ab.heap.size]?=some (.cells #[.string (R.str nm),.slice ra rs.length rc] 119)):=xJ (zF BC.o gO (by simp)) ad (zW (zF BC.o gO (by simp)) (qK RC.o _) (by decide))
          have O9:Y (w9.ownsRow wo.heap.size 126 8 (.slice aC (rs.length+1) aD) (rs++[rl]).length (af++([[.int .i64 rl.number,.string (R.str rl.path),.slice m1 rl.ms.length m2,.slice t1 rl.tg.length t2,.bool rl.change,.string (R.str rl.to),.slice x1 rl.sets.length x2,.slice d1 rl.drops.length d2]]:List (List Value))).flatten):=by rw[zh,yj];exact ao
          have A9:Y (All2 (RuleVal w9) (af++([[.int .i64 rl.number,.string (R.str rl.path),.slice m1 rl.ms.length m2,.slice t1 rl.tg.length t2,.bool rl.change,.string (R.str rl.to),.slice x1 rl.sets.length x2,.slice d1 rl.drops.length d2]]:List (List Value))) (rs++[rl])):=(AC.o.snoc VC.o).map fun a b hab=>(hab.keep gO (zi _ _)).keep ad ar
          have q9:=zuB B9.o
          have cw:=zuG 1 B9.o
          have z9:=G9.o.size
          clear ao ad gO ar ah IX BC UC RC AC VC GC bP b1 b2 b3 b4 b5 b6 b7 b8
          have gS:=zG w9 (ab.heap.size) 1 (.slice aC (rs.length+1) aD)
          have IS:Y (TInv (w9.setCell ⟨ab.heap.size,1,none⟩ (.slice aC (rs.length+1) aD)) tb (.slice va b.length vc) b ap):=bk.o _ _ _ _ I9.o gS (fun k hk=>by have:=x5 hk;omega)
          have GS:=J (zm G9.o gS (by omega))
          have BS:Y ((w9.setCell ⟨ab.heap.size,1,none⟩ (.slice aC (rs.length+1) aD)).heap[ab.heap.size]?=some (.cells #[.string (R.str nm),.slice aC (rs.length+1) aD] 119)):=zR B9.o _
          have OS:Y _:=zY O9.o gS (zW B9.o O9.o (by decide))
          have AS:Y (All2 (RuleVal (w9.setCell ⟨ab.heap.size,1,none⟩ (.slice aC (rs.length+1) aD))) (af++([[.int .i64 rl.number,.string (R.str rl.path),.slice m1 rl.ms.length m2,.slice t1 rl.tg.length t2,.bool rl.change,.string (R.str rl.to),.slice x1 rl.sets.length x2,.slice d1 rl.drops.length d2]]:List (List Value))) (rs++[rl])):=A9.o.map fun a b hab=>hab.keep gS (xY B9.o (by decide))
          clear gS I9 G9 B9 O9 A9
          go_wp2_with fail
          go_roundw
          case rel=>exact⟨rs++[rl],ap,_,_,by simp;omega,by simp,by rw[zh];exact aR,IS,GS,BS,OS,AS⟩
          case measure=>simp[intOf];omega
        ·rw[hbd] at cz
         have ag:Y (rr=(rs,s9)):=by show _=_;rw[HQ.o,show Kn - rs.length=Kn - (rs.length+1)+1 by omega,yM,hbd];rfl
         clear HQ
         have a0:Y (au=yt (N - (aa.length+1)) (aa++[⟨nm,rs⟩]) s9):=by show _=_;rw[ax.o,ag.o]
         clear ax ag
         have az:=a7.o.safe (l:=htags) (by decide)
         have al:=J (x6 HO.o GZ.o az (by decide))
         have aE:Y (All2 (HostVal wr) ai aa):=HA.o.map fun a b hab=>hab.keep GZ.o (jV az)
         have aG:Y (HostVal wr [.string (R.str nm),.slice ra rs.length rc] ⟨nm,rs⟩):=⟨_,rfl,RulesRowB.zero ⟨af,RZ.o,AZ.o⟩⟩
         have aw:=J (zD GR.o GZ.o)
         have b9:=aw.o.size
         clear az HO HA GR RZ AZ
         have aI:Y (∀j u,([.string (R.str nm),.slice ra rs.length rc]:List Value)[j]?=some u->(wr.alloc (.cells #[.string (R.str nm),.slice ra rs.length rc] 119)).cell? ((⟨wr.heap.size,0,none⟩:Addr).add j)=some u):=zu wr #[_,_] _ _ rfl
         have aJ:Y (∀u∈([.string (R.str nm),.slice ra rs.length rc]:List Value),u.oneCell'=true):=by intro u hu;simp only[List.mem_cons,List.mem_nil_iff,or_false] at hu;rcases hu with rfl | rfl <;> rfl
         have aK:Y (aa.length+1<=maxLen):=by show _<=_;unfold maxLen;omega
         have aL:Y ((aa.length+1)*40<=140737488355328):=by show _<=_;omega
         have aM:Y (wa.heap.size<=(wr.alloc (.cells #[.string (R.str nm),.slice ra rs.length rc] 119)).heap.size):=by show _<=_;simp;omega
         go_upto_region 22 with fail
         go_wp2_with (at_builtin;refine wpList_append_own _ rfl _ _ 67 rfl wa.heap.size 119 i1 _ 2 40 Tryz.underlying67 hj bx bz bA rfl (by decide) _ _ _ rfl (qK al.o _) ⟨wr.heap.size,0,none⟩ 1 1 [.string (R.str nm),.slice ra rs.length rc] rfl rfl aI.o aJ.o aK.o aL.o aM.o ?_)
         intro v9 w9 ao ad _
         have gO:wr.grownBy (wr.alloc (.cells #[.string (R.str nm),.slice ra rs.length rc] 119)) none:=zL _ _ none
         have ar:Safe (wr.alloc (.cells #[.string (R.str nm),.slice ra rs.length rc] 119)) (Value.slice ua aa.length uc).ownBlock rtags:=xz (qK al.o _) (by decide)
         have ah:∀k,(Value.slice ua aa.length uc).ownBlock=some k->wa.heap.size<=k:=fun k hk=>(zx al.o k hk).1
         have I9:Y (TInv w9 tb (.slice va b.length vc) b s9):=aF.o _ _ _ _ (IZ.o.keep gO) ad ah
         have G9:Y (wa.grownBy w9 (some tb)):=qV (zD aw.o (zb gO _)) ad ah
         have O9:Y (w9.ownsRow wa.heap.size 119 2 v9 (aa++[(⟨nm,rs⟩:R.Hst)]).length (ai++([[.string (R.str nm),.slice ra rs.length rc]]:List (List Value))).flatten):=by rw[zh,yj];exact ao
         have A9:Y (All2 (HostVal w9) (ai++([[.string (R.str nm),.slice ra rs.length rc]]:List (List Value))) (aa++[(⟨nm,rs⟩:R.Hst)])):=(aE.o.snoc aG.o).map fun a b hab=>(hab.keep gO (zi _ _)).keep ad ar
         clear ao ad gO ar ah IZ al aE aG aw GZ BZ aI aJ aK aL aM
         go_wp2_with fail
         go_roundw
         case rel=>exact⟨aa++[⟨nm,rs⟩],s9,_,by simp;omega,by simp,by rw[zh];exact a0,I9,G9,O9,A9⟩
         case measure=>simp[intOf];omega
       ·have bu:¬(rs.length:Int)<Kn:=by omega
        have ag:Y (rr=(rs,s9)):=by show _=_;rw[HQ.o,show Kn - rs.length=0 by omega];rfl
        clear HQ
        have a0:Y (au=yt (N - (aa.length+1)) (aa++[⟨nm,rs⟩]) s9):=by show _=_;rw[ax.o,ag.o]
        clear ax ag
        have az:=a7.o.safe (l:=htags) (by decide)
        have al:=J (x6 HO.o GZ.o az (by decide))
        have aE:Y (All2 (HostVal wr) ai aa):=HA.o.map fun a b hab=>hab.keep GZ.o (jV az)
        have aG:Y (HostVal wr [.string (R.str nm),.slice ra rs.length rc] ⟨nm,rs⟩):=⟨_,rfl,RulesRowB.zero ⟨af,RZ.o,AZ.o⟩⟩
        have aw:=J (zD GR.o GZ.o)
        have b9:=aw.o.size
        clear az HO HA GR RZ AZ
        have aI:Y (∀j u,([.string (R.str nm),.slice ra rs.length rc]:List Value)[j]?=some u->(wr.alloc (.cells #[.string (R.str nm),.slice ra rs.length rc] 119)).cell? ((⟨wr.heap.size,0,none⟩:Addr).add j)=some u):=zu wr #[_,_] _ _ rfl
        have aJ:Y (∀u∈([.string (R.str nm),.slice ra rs.length rc]:List Value),u.oneCell'=true):=by intro u hu;simp only[List.mem_cons,List.mem_nil_iff,or_false] at hu;rcases hu with rfl | rfl <;> rfl
        have aK:Y (aa.length+1<=maxLen):=by show _<=_;unfold maxLen;omega
        have aL:Y ((aa.length+1)*40<=140737488355328):=by show _<=_;omega
        have aM:Y (wa.heap.size<=(wr.alloc (.cells #[.string (R.str nm),.slice ra rs.length rc] 119)).heap.size):=by show _<=_;simp;omega
        go_upto_region 22 with fail
        go_wp2_with (at_builtin;refine wpList_append_own _ rfl _ _ 67 rfl wa.heap.size 119 i1 _ 2 40 Tryz.underlying67 hj bx bz bA rfl (by decide) _ _ _ rfl (qK al.o _) ⟨wr.heap.size,0,none⟩ 1 1 [.string (R.str nm),.slice ra rs.length rc] rfl rfl aI.o aJ.o aK.o aL.o aM.o ?_)
        intro v9 w9 ao ad _
        have gO:wr.grownBy (wr.alloc (.cells #[.string (R.str nm),.slice ra rs.length rc] 119)) none:=zL _ _ none
        have ar:Safe (wr.alloc (.cells #[.string (R.str nm),.slice ra rs.length rc] 119)) (Value.slice ua aa.length uc).ownBlock rtags:=xz (qK al.o _) (by decide)
        have ah:∀k,(Value.slice ua aa.length uc).ownBlock=some k->wa.heap.size<=k:=fun k hk=>(zx al.o k hk).1
        have I9:Y (TInv w9 tb (.slice va b.length vc) b s9):=aF.o _ _ _ _ (IZ.o.keep gO) ad ah
        have G9:Y (wa.grownBy w9 (some tb)):=qV (zD aw.o (zb gO _)) ad ah
        have O9:Y (w9.ownsRow wa.heap.size 119 2 v9 (aa++[(⟨nm,rs⟩:R.Hst)]).length (ai++([[.string (R.str nm),.slice ra rs.length rc]]:List (List Value))).flatten):=by rw[zh,yj];exact ao
        have A9:Y (All2 (HostVal w9) (ai++([[.string (R.str nm),.slice ra rs.length rc]]:List (List Value))) (aa++[(⟨nm,rs⟩:R.Hst)])):=(aE.o.snoc aG.o).map fun a b hab=>(hab.keep gO (zi _ _)).keep ad ar
        clear ao ad gO ar ah IZ al aE aG aw GZ BZ aI aJ aK aL aM
        go_wp2_with fail
        go_roundw
        case rel=>exact⟨aa++[⟨nm,rs⟩],s9,_,by simp;omega,by simp,by rw[zh];exact a0,I9,G9,O9,A9⟩
        case measure=>simp[intOf];omega
    ·rw[hbad] at cb
     have ag:Y (au=(aa,st)):=by show _=_;rw[HL.o,show N - aa.length=N - (aa.length+1)+1 by omega,yt,hbad];rfl
     have am:Y (tU b=(aa,st)):=by show _=_;rw[<-aH.o];exact ag.o
     clear HL aH ag
     have aB:st.bad=true:=hbad
     by_cases bO:False
     ·exact bO.elim
     ·have a1:Y (∀hs,VHs hs->x9 hs≠b):=fun hs h1 h2=>by
       have h3:=(zcQ hs h1).2
       rw[h2,am.o] at h3
       rw[aB] at h3;cases h3
      have aA:Y (w.grownBy wr none):=zm aY.o GR.o (by rw[a5.o];exact zw _)
      clear HO HA am GR IR aF a4
      go_wp2
      go_ret2
      exact⟨aA.o,Or.inr ⟨a1.o,_,rfl⟩⟩
   ·have bw:¬(aa.length:Int)<N:=by omega
    have ag:Y (au=(aa,st)):=by show _=_;rw[HL.o,show N - aa.length=0 by omega];rfl
    have am:Y (tU b=(aa,st)):=by show _=_;rw[<-aH.o];exact ag.o
    clear HL aH ag
    cases aB:st.bad
    ·rw[aB] at cb
     obtain⟨hs,aV,a9⟩:=zq5 (b:=b) (by rw[am.o];exact aB)
     have bK:Y (VHs hs):=aV
     have bN:aa=hs.map toR:=by rw[am.o] at a9;exact a9
     subst bN
     simp only[xW] at bw
     have aZ:Y (HostsRow wr 0 (.slice ua hs.length uc) (hs.map toR)):=by
      have h:=HO.o
      rw[xW] at h
      exact⟨ai,by rw[xW];exact qF h (zo _),HA.o⟩
     have a3:Y (Calls Tryz.prog 92 #[.slice ua hs.length uc] wr (Gives wr (x9 hs))):=by
      have h:=zcE _ (hs.map toR) aZ.o (by rw[xW];have:=aV.hl;omega) (fun x hx=>by obtain⟨y,hy,rfl⟩:=List.mem_map.1 hx;exact zr0 (aV.hosts y hy))
      rw[tE] at h
      exact h
     have HU:Y (∀q,VHs q->x9 q=b->q=hs):=fun q h1 h2=>by
      have h3:=(zcQ q h1).1
      rw[h2,am.o] at h3
      exact zsT h3.symm
     have aA:Y (w.grownBy wr none):=zm aY.o GR.o (by rw[a5.o];exact zw _)
     have bo:Y (RdO wr (.slice va b.length vc) b):=IR.o.rd
     clear aV a9 HO HA am GR IR aF a4
     obtain⟨pk,a2⟩:∃pk,Y (pk=x9 hs):=⟨_,rfl⟩
     rw[<-a2.o] at a3
     go_wp2_with fail
     refine a3.o.mono ?_
     rintro e wP ⟨aP,kP,rfl,hP,gP⟩
     have bq:Y (RdO wP (.slice aP pk.length kP) pk):=RdO.of_row hP
     have bp:Y (RdO wP (.slice va b.length vc) b):=bo.o.keep gP (fun g o n c e c2=>by cases c2)
     have GP:=J (zD aA.o gP)
     have bI:Y (HostsRow wP 0 (.slice ua hs.length uc) (hs.map toR)):=aZ.o.keep gP (zi _ _)
     have cg:(convert 32 9 (.slice aP pk.length kP)).run Tryz.prog wP.drew = .ok (.string (R.str pk)) wP.drew:=vO (bq.o.keep (zg _) (fun g o n c e c2=>by cases c2))
     have ch:(convert 32 9 (.slice va b.length vc)).run Tryz.prog wP.drew = .ok (.string (R.str b)) wP.drew:=vO (bp.o.keep (zg _) (fun g o n c e c2=>by cases c2))
     clear hP gP a3 bq bp bo aA aZ
     go_wp2
     go_region
     all_goals
      go_wp2
      go_ret2
      have GD:w.grownBy wP.drew none:=zD GP.o (zg _)
      have bH:HostsRow wP.drew 0 (.slice ua hs.length uc) (hs.map toR):=bI.o.keep (zg _) (zi _ _)
      have bj:((R.str pk).toList == (R.str b).toList)=decide (pk=b):=by
       rw[ByteArray.toList_eq,ByteArray.toList_eq,R.str_toList,R.str_toList,Bool.eq_iff_iff]
       simp
      refine⟨GD,?_⟩
      by_cases aU:pk=b
      ·refine Or.inl ⟨hs,.slice ua hs.length uc,bK.o,a2.o.symm.trans aU,?_,bH⟩
       show Ending.returned (Value.tuple #[.slice ua hs.length uc,.bool ((R.str pk).toList == (R.str b).toList)])=_
       rw[bj];simp[aU]
      ·refine Or.inr ⟨fun q h1 h2=>aU (by rw[a2.o,<-HU.o q h1 h2];exact h2),.slice ua hs.length uc,?_⟩
       show Ending.returned (Value.tuple #[.slice ua hs.length uc,.bool ((R.str pk).toList == (R.str b).toList)])=_
       rw[bj];simp[aU]
    ·rw[aB] at cb
     have a1:Y (∀hs,VHs hs->x9 hs≠b):=fun hs h1 h2=>by
      have h3:=(zcQ hs h1).2
      rw[h2,am.o] at h3
      rw[aB] at h3;cases h3
     have aA:Y (w.grownBy wr none):=zm aY.o GR.o (by rw[a5.o];exact zw _)
     clear HO HA am GR IR aF a4
     go_wp2
     go_ret2
     exact⟨aA.o,Or.inr ⟨a1.o,_,rfl⟩⟩
theorem zmL {α:Type}(lt:α->α->Bool)(hi:∀x,lt x x=false)(ht:∀x y z,lt x y=true->lt y z=true->lt x z=true)(hn:∀x y z,lt x y=false->lt y z=false->lt x z=false)(l:List α) :
  ∃p:List α,p.Perm l/\p.Pairwise (fun x y=>lt y x=false):=by
 refine⟨l.mergeSort (fun x y=>!lt y x),List.mergeSort_perm _ _,?_⟩
 have h:=List.pairwise_mergeSort (le:=fun x y=>!lt y x) (fun a b c h1 h2=>by
  simp only[Bool.not_eq_true'] at h1 h2 ⊢
  exact hn c b a h2 h1) (fun a b=>by
  cases h1:lt b a with
  | false=>simp
  | true=>
   cases h2:lt a b with
   | false=>simp
   | true=>have:=ht a b a h2 h1;rw[hi a] at this;cases this) l
 exact h.imp (fun h=>by simpa using h)
theorem zjY (hs:List P.Hst):∃hs',SrtH hs hs':=by
 obtain⟨p,h1,h2⟩:=zmL (fun x y:P.Hst=>Go.Sort.ltStr x.name y.name) (fun x=>Go.Sort.swo_ltStr.irrefl _) (fun x y z=>Go.Sort.swo_ltStr.trans _ _ _) (fun x y z=>Go.Sort.swo_ltStr.ntrans _ _ _) hs
 have hr:∀rs:List P.Rl,∃q:List P.Rl,q.Perm rs/\q.Pairwise (fun x y=>Go.Sort.ltInt y.number x.number=false):=fun rs=>
  zmL (fun x y:P.Rl=>Go.Sort.ltInt x.number y.number) (fun x=>Go.Sort.swo_ltInt.irrefl _) (fun x y z=>Go.Sort.swo_ltInt.trans _ _ _) (fun x y z=>Go.Sort.swo_ltInt.ntrans _ _ _) rs
 refine⟨p.map fun h=>⟨h.name,(hr h.rules).choose⟩,p,h1,h2,by simp,fun j a1 a2=>?_⟩
 rw[List.getElem_map]
 exact⟨rfl,(hr p[j].rules).choose_spec.1,(hr p[j].rules).choose_spec.2⟩
theorem zlX {l:List UInt8}(h:(xU l).1=0):∃hs,VHs hs/\xI (R.readS l).1=hs.map toR/\yc l=x9 hs:=by
 have h':(xV l).1=0:=by rw[vU];exact h
 obtain⟨h1,h2,h3⟩:=tM h'
 obtain⟨hg,e⟩:=tK l h1 h2 h3
 rw[e] at hg
 obtain⟨hs,aa⟩:=zjY (qD l).1
 obtain⟨a1,a2,a3⟩:=zbZ l h2 h3
 exact⟨hs,zaO aa a1 a2 a3,by rw[e];exact(zjV aa hg).symm,(zmE h' aa).1⟩
def L.st (l:List UInt8)(i:Nat):List Value:=Lib.byteCells l++(List.replicate i (.int .u8 77)++List.replicate (8 - i) (.int .u8 0))
theorem zqE (l:List UInt8)(i:Nat)(h:i<=8):(L.st l i).length=l.length+8:=by unfold L.st;rw[zh,zh,xh];simp;omega
theorem zsG (l:List UInt8)(X mc:List Value)(hX:X=Lib.byteCells l)(hm:mc=(madeCells #[Value.int .u8 0] (l.length+8)).toList):splice mc 0 X=L.st l 0:=by
 have hl:X.length=l.length:=by rw[hX,xh]
 unfold splice L.st
 rw[List.take_zero,List.nil_append,hm,zgU,List.drop_replicate,Nat.zero_add,hl,hX]
 simp
theorem ztK (l:List UInt8)(i:Nat)(h:i<8):(L.st l i).set (l.length+i) (.int .u8 77)=L.st l (i+1):=by
 unfold L.st
 rw[List.set_append_right _ _ (by rw[xh];omega),xh,Nat.add_sub_cancel_left,List.set_append_right _ _ (by simp),List.length_replicate,Nat.sub_self,show 8 - i=(8 - (i+1))+1 by omega,List.replicate_succ,List.set_cons_zero,List.replicate_succ']
 simp
theorem zoZ {w:World}{sa:Option Addr}{sc:Nat}{l:List UInt8}(hr:RdO w (.slice sa l.length sc) l)(hl:l.length<=1000000000000)(aD:sa=none->l=[]) :
  Calls Tryz.prog 94 #[.slice sa l.length sc] w fun e w'=>∃g vin,e = .returned (.tuple #[.slice (some ⟨g,0,none⟩) (l.length+8) (l.length+8),vin])/\w.heap.size<=g/\w'.heap[g]?=some (.cells (L.st l 8).toArray 5 (0,0))/\w.grownBy w' none/\RdO w' vin l/\∀g' o n c,vin = .slice (some ⟨g',o,none⟩) n c->g'=g:=by
 obtain⟨i0,hi,aF,aq,aG⟩:=info_parts js
 have av:Y (RdO w (.slice sa l.length sc) l):=hr
 have aE:(Tryz.prog.info? 5).map (·.size)=some 1:=by rw[hi];simp[aq]
 obtain⟨mc,ae⟩:∃mc,Y (mc=(madeCells #[Value.int .u8 0] (l.length+8)).toList):=⟨_,rfl⟩
 have aC:mc.length=l.length+8:=by rw[ae.o];simp[madeCells]
 obtain⟨X,HX⟩:∃X,Y (X=Lib.byteCells l):=⟨_,rfl⟩
 have ak:Y (X.length=Nat.min l.length (l.length+8)):=by show _=_;rw[HX.o,xh];exact(Nat.min_eq_left (by omega)).symm
 have ax:X.length=l.length:=by rw[HX.o,xh]
 clear hr
 go_enter Tryz.func94,Tryz.ntmps94
 go_wp2_with (at_make;refine wpList_make_full _ rfl _ _ 32 rfl w.heap.size 5 i0 (.int .u8 0) 1 Tryz.underlying32 hi aF aq _ _ _ _ (l.length+8) rfl rfl rfl rfl ?b2 ?b3 (zw _) ?_)
 case b2=>rw[aG];omega
 case b3=>unfold maxLen;omega
 intro w1 ao an
 have af:Y (w.grownBy w1 none):=an
 have ah:Y (w1.heap[w.heap.size]?=some (.cells mc.toArray 5 (0,0))):=zcJ ao ae.o
 clear ao an
 go_wp2_with (refine wpList_copy_splice rfl _ _ 32 32 rfl 5 Tryz.underlying32 aE _ _ (l.length+8) (l.length+8) l.length sc rfl rfl w.heap.size 0 mc 5 ah.o X ak.o ?hpos ?hfit ?h1 w.heap.size w (qr af.o) (zw _) ?_)
 case hpos=>
  intro hp
  rcases av.o with ⟨_,_,_,h2⟩ | ⟨g,o,c',e1,_,_,h3⟩
  ·rw[h2] at hp;simp at hp
  ·simp only[qQ] at e1
   obtain⟨rfl,_,_⟩:=e1
   refine⟨_,rfl,fun j u hu=>?_⟩
   rw[HX.o] at hu
   unfold Lib.byteCells at hu
   rw[List.getElem?_map,Option.map_eq_some_iff] at hu
   obtain⟨x,hx,rfl⟩:=hu
   rw[fu]
   exact(af.o.cell (h3 j x hx) (by simp))
 case hfit=>omega
 case h1=>rw[HX.o];exact vf _
 intro w2 am al
 have ai:Y (w2.heap[w.heap.size]?=some (.cells (L.st l 0).toArray 5 (0,0))):=by rw[<-zsG l X mc HX.o ae.o];exact am
 have aj:=J (qJ al)
 clear am al ah af HX ak ax ae aC
 go_wp2_with fail
 go_loopw [5] (fun iv wr=>∃j:Nat,j<=8/\iv = .int .i64 (l.length+j:Nat)/\Y (wr.heap[w.heap.size]?=some (.cells (L.st l j).toArray 5 (0,0)))/\Y (w.grownBy wr none)) (fun iv _=>l.length+8 - (intOf iv).toNat)
 case atStart=>exact⟨0,by omega,rfl,ai,aj⟩
 case round=>
  obtain⟨j,hj,rfl,aa,ab⟩:=hrel
  clear ai aj
  have aA:=zqE l j hj
  by_cases aB:j<8
  ·have aI:((l.length+j:Nat):Int)<((l.length+8:Nat):Int):=by omega
   have aJ:(l.length:Int)+j<l.length+8:=by omega
   obtain⟨u0,ap⟩:∃u0,(L.st l j)[l.length+j]?=some u0:=⟨_,xo (by omega)⟩
   have cj:wr.cell? ⟨w.heap.size,l.length+j,none⟩=some u0:=by rw[zB aa.o];simpa using ap
   have fj:wr.frozen? ⟨w.heap.size,l.length+j,none⟩=false:=zH aa.o
   have ar:Y ((wr.setCell ⟨w.heap.size,l.length+j,none⟩ (.int .u8 77)).heap[w.heap.size]?=some (.cells (L.st l (j+1)).toArray 5 (0,0))):=by
    have h:=zR aa.o (i:=l.length+j) (.int .u8 77)
    show _=_
    rw[<-ztK l j aB]
    simpa using h
   have au:Y (w.grownBy (wr.setCell ⟨w.heap.size,l.length+j,none⟩ (.int .u8 77)) none):=zm ab.o (zG _ _ _ _) (zw _)
   clear aa ab ap aA
   go_wp2_with fail
   go_roundw
   case rel=>exact⟨j+1,by omega,by go_num,ar,au⟩
   case measure=>simp[intOf];omega
  ·have ay:j=8:=by omega
   subst ay
   have aw:Y (∀W:World,W.heap[w.heap.size]?=some (.cells (L.st l 8).toArray 5 (0,0))->∀j u,l[j]?=some u->W.cell? ⟨w.heap.size,0+j,none⟩=some (.int .u8 u.toNat)):=fun W hW j u hu=>by
    have az:j<l.length:=(List.getElem?_eq_some_iff.1 hu).1
    rw[zB hW,Nat.zero_add]
    have:(L.st l 8)[j]?=some (.int .u8 u.toNat):=by
     unfold L.st
     rw[List.getElem?_append_left (by rw[xh];exact az)]
     unfold Lib.byteCells
     rw[List.getElem?_map,hu];rfl
    simpa using this
   cases sa with
   | none=>
    obtain rfl:=aD rfl
    have hq:∀W,(binOp .eql 32 (.slice none 0 sc) (.slice none 0 0)).run Tryz.prog W = .ok (.bool true) W:=fun W=>Lib.run_eql_slice_nil W _ _ none 0 sc 0 0 Tryz.underlying32
    go_wp2
    go_ret2
    exact⟨w.heap.size,.slice none 0 0,rfl,zw _,aa.o,ab.o,Or.inl ⟨none,0,rfl,rfl⟩,fun g' o n c e=>by cases e⟩
   | some ad=>
    have aH:l.length<=l.length+8:=by omega
    have hq:∀W,(binOp .eql 32 (.slice (some ad) l.length sc) (.slice none 0 0)).run Tryz.prog W = .ok (.bool false) W:=fun W=>Lib.run_eql_slice_nil W _ _ (some ad) l.length sc 0 0 Tryz.underlying32
    go_wp2
    go_region
    all_goals
     go_wp2
     go_ret2
     have ag:wr.drew.heap[w.heap.size]?=some (.cells (L.st l 8).toArray 5 (0,0)):=zF aa.o (zg wr) (by simp)
     refine⟨w.heap.size,.slice (some ⟨w.heap.size,0,none⟩) l.length (l.length+8),rfl,zw _,ag,zD ab.o (zg _),Or.inr ⟨w.heap.size,0,l.length+8,rfl,by omega,zI ag,aw.o _ ag⟩,fun g' o n c e=>?_⟩
     simp only[qQ,Option.some.injEq,Addr.mk.injEq] at e
     exact e.1.1.symm
def L.cl (l:List UInt8)(i:Nat):List Value:=List.replicate i (.int .u8 99)++(L.st l 8).drop i
theorem ztN (l:List UInt8)(i:Nat):(L.cl l i)[i]?=(L.st l 8)[i]?:=by
 unfold L.cl
 rw[List.getElem?_append_right (by simp),List.length_replicate,Nat.sub_self,List.getElem?_drop];rfl
theorem ztE (l:List UInt8)(i:Nat)(h:i<l.length+8):(L.cl l i).set i (.int .u8 99)=L.cl l (i+1):=by
 unfold L.cl
 rw[List.set_append_right _ _ (by simp),List.length_replicate,Nat.sub_self,List.drop_eq_getElem_cons (i:=i) (by rw[zqE l 8 (by omega)];exact h),List.set_cons_zero,List.replicate_succ']
 simp
theorem zt6 (l:List UInt8)(i:Nat)(h:i<l.length):(L.st l 8)[i]?=some (.int .u8 l[i].toNat):=by
 unfold L.st
 rw[List.getElem?_append_left (by rw[xh];exact h)]
 unfold Lib.byteCells
 rw[List.getElem?_map,xo h];rfl
theorem zs2 (l:List UInt8)(i:Nat)(h1:l.length<=i)(h2:i<l.length+8):(L.st l 8)[i]?=some (.int .u8 77):=by
 unfold L.st
 rw[List.getElem?_append_right (by rw[xh];exact h1),xh,List.getElem?_append_left (by simp;omega),List.getElem?_replicate,if_pos (by omega)]
theorem zoD {w:World}{g:Nat}{sa:Option Addr}{sc:Nat}{l:List UInt8}(hg:w.heap[g]?=some (.cells (L.st l 8).toArray 5 (0,0)))(hr:RdO w (.slice sa l.length sc) l)(aj:l=[]\/∀g' o,sa=some ⟨g',o,none⟩->g'≠g)(hl:l.length<=1000000000000) :
  Calls Tryz.prog 95 #[.slice (some ⟨g,0,none⟩) (l.length+8) (l.length+8),.slice sa l.length sc] w fun e w'=>e = .returned (.bool true)/\w.grownBy w' (some g):=by
 have af:Y (RdO w (.slice sa l.length sc) l):=hr
 have ae:Y (l=[]\/∀g' o,sa=some ⟨g',o,none⟩->g'≠g):=aj
 have ag:Y (w.heap[g]?=some (.cells (L.cl l 0).toArray 5 (0,0))):=hg
 clear hg hr aj
 go_enter Tryz.func95,Tryz.ntmps95
 go_wp2_with fail
 go_loopw [5,6] (fun ov iv wr=>∃i:Nat,i<=l.length+8/\ov = .bool true/\iv = .int .i64 i/\Y (wr.heap[g]?=some (.cells (L.cl l i).toArray 5 (0,0)))/\Y (w.grownBy wr (some g))) (fun _ iv _=>l.length+8 - (intOf iv).toNat)
 case atStart=>exact⟨0,zo _,rfl,rfl,ag,ze _ _⟩
 case round=>
  obtain⟨i,ar,rfl,rfl,ab,ad⟩:=hrel
  clear ag
  by_cases al:i<l.length+8
  ·have ap:(i:Int)<l.length+8:=by omega
   have aq:(i:Int)<((l.length+8:Nat):Int):=by omega
   have ak:wr.cell? ⟨g,i,none⟩=(L.st l 8)[i]?:=by rw[zB ab.o,<-ztN l i];simp
   have fi:wr.frozen? ⟨g,i,none⟩=false:=zH ab.o
   have ah:Y (∀W,wr.grownBy W none->(W.setCell ⟨g,i,none⟩ (.int .u8 99)).heap[g]?=some (.cells (L.cl l (i+1)).toArray 5 (0,0))):=fun W hW=>by
    have h:=zR (zF ab.o hW (by simp)) (i:=i) (.int .u8 99)
    rw[<-ztE l i al]
    simpa using h
   have ai:Y (∀W,wr.grownBy W none->w.grownBy (W.setCell ⟨g,i,none⟩ (.int .u8 99)) (some g)):=fun W hW=>zD (zD ad.o (zb hW _)) (zG _ _ _ _)
   by_cases aa:i<l.length
   ·have an:(i:Int)<l.length:=by omega
    obtain⟨g',o,rfl,au,ao⟩:∃g' o,sa=some ⟨g',o,none⟩/\g'≠g/\wr.cell? ⟨g',o+i,none⟩=some (.int .u8 l[i].toNat):=by
     rcases af.o with ⟨_,_,_,h2⟩ | ⟨g',o,c',e1,_,_,h3⟩
     ·rw[h2] at aa;simp at aa
     ·simp only[qQ,true_and] at e1
      have hn:g'≠g:=by
       rcases ae.o with q | q
       ·rw[q] at aa;simp at aa
       ·exact q g' o e1.1
      exact⟨g',o,e1.1,hn,ad.o.cell (h3 i _ (xo aa)) (by simpa using hn)⟩
    rw[zt6 l i aa] at ak
    generalize l[i]=x at*
    clear ab ad af ae
    go_wp2_with fail
    go_quiet (fail)
    go_wp2_with fail
    exact⟨⟨i+1,by omega,rfl,by go_num,ah.o _ (yG _ _),ai.o _ (yG _ _)⟩,by simp[intOf];omega⟩
   ·have an:¬(i:Int)<l.length:=by omega
    rw[zs2 l i (by omega) al] at ak
    clear ab ad af ae
    go_wp2_with fail
    go_roundw
    case rel=>exact⟨i+1,by omega,rfl,by go_num,ah.o _ (ze _ _),ai.o _ (ze _ _)⟩
    case measure=>simp[intOf];omega
  ·have am:i=l.length+8:=by omega
   subst am
   have av:¬(((l.length+8:Nat):Int)<((l.length+8:Nat):Int)):=by omega
   go_wp2
   go_ret
   exact⟨rfl,ad.o⟩
theorem VRl.ub {r:P.Rl}(h:VRl r):UBr r where
 num:=h.num
 path:=by have:=h.pl;omega
 ml:=by have:=h.ml;omega
 ms:=fun m hm=>⟨by have:=(h.ms m hm).nl;omega,by have:=(h.ms m hm).vl;omega⟩
 tl:=by have:=h.tl;omega
 tg:=fun t ht=>⟨by have:=(h.tg t ht).ul;omega,by have:=(h.tg t ht).lo;omega,by have:=(h.tg t ht).hi;omega⟩
 rep:=by rcases h.rep with e | e;rw[e];simp;omega
 sl:=by have:=h.sl;omega
 sets:=fun t ht=>⟨by have:=(h.sets t ht).nl;omega,by have:=(h.sets t ht).vl;omega⟩
 dl:=by have:=h.dl;omega
 drops:=fun t ht=>by have:=(h.drops t ht).nl;omega
theorem VHst.ub {x:P.Hst}(h:VHst x):UBh x:=⟨by have:=h.nl;omega,by have:=h.rl;omega,fun r hr=>(h.rules r hr).ub⟩
theorem VHs.lines {hs:List P.Hst}(h:VHs hs):(hs.map fun h=>R.hostLines (toR h)).flatten.length<=70000000000:=by
 have h1:=h.hl
 have h2:=R.flat_len (fun h:P.Hst=>R.hostLines (toR h)) 256000000 hs (fun x hx=>(h.hosts x hx).ub.lines)
 omega
theorem zlB {w:World}{v:Value}{b:List UInt8}(hr:RdO w v b)(hv:∀g o n c,v = .slice (some ⟨g,o,none⟩) n c->g<w.heap.size)(hl:b.length<=140737488355328)(hG:Glob w)(hT:GT w) :
  Calls Tryz.prog 19 #[v] w fun e w'=>w.grownBy w' none/\((∃hs,VHs hs/\x9 hs=b/\e = .returned (.tuple #[.string (R.str (R.plain (hs.map toR))),.int .i64 0]))\/((∀hs,VHs hs->x9 hs≠b)/\e = .returned (.tuple #[.string ⟨#[]⟩,.int .i64 6]))):=by
 have HR:Y (Calls Tryz.prog 44 #[v] w fun e w'=>w.grownBy w' none/\((∃hs a c,VHs hs/\x9 hs=b/\e = .returned (.tuple #[.agg #[.slice a hs.length c],.bool true])/\PHostsRow w' 0 (.slice a hs.length c) hs)\/((∀hs,VHs hs->x9 hs≠b)/\e = .returned (.tuple #[.agg #[.slice none 0 0],.bool false])))):=zo5 hr hv hl hG hT
 have HT:Y (GT w):=hT
 clear hr hv hl hG hT
 go_enter Tryz.func19,Tryz.ntmps19
 go_wp2_with fail
 refine HR.o.mono ?_
 rintro e w1 ⟨g1,⟨hs,a,c,hv,hp,rfl,ab⟩ | ⟨aa,rfl⟩⟩
 ·have gA:w1.grownBy (w1.alloc (.cells #[.slice a hs.length c] 88)) none:=zL _ _ none
  have HP:Y (Calls Tryz.prog 42 #[.agg #[.slice a hs.length c]] (w1.alloc (.cells #[.slice a hs.length c] 88)) fun e w'=>e = .returned (.string (R.str (R.plain (hs.map toR))))/\w.grownBy w' none):=by
   refine(ff _ hs (ab.keep gA (zi _ _)) (by have:=hv.hl;omega) (by have:=hv.lines;omega) (fun x hx=>(hv.hosts x hx).ub.small) (HT.o.grown (zD g1 gA))).mono ?_
   rintro e w' ⟨q1,q2⟩
   exact⟨q1,zD (zD g1 gA) q2⟩
  have HV:Y (VHs hs):=hv
  have ad:Y (x9 hs=b):=hp
  have q0:(w1.alloc (.cells #[.slice a hs.length c] 88)).cell? ⟨w1.heap.size,0,none⟩=some (.slice a hs.length c):=zB (heap_alloc_new _ _)
  clear ab gA hv hp g1 HR HT
  go_wp2_with fail
  refine HP.o.mono ?_
  rintro e w2 ⟨rfl,g2⟩
  have G2:Y (w.grownBy w2 none):=g2
  clear g2 HP q0
  go_wp2
  go_ret2
  exact⟨G2.o,Or.inl ⟨hs,HV.o,ad.o,rfl⟩⟩
 ·have HN:Y (∀hs,VHs hs->x9 hs≠b):=aa
  have G2:Y (w.grownBy w1 none):=g1
  clear aa g1 HR HT
  go_wp2
  go_ret2
  exact⟨zD G2.o (zL _ _ none),Or.inr ⟨HN.o,rfl⟩⟩
theorem zbH {w:World}{sa:Option Addr}{sc:Nat}{l:List UInt8}(hr:RdO w (.slice sa l.length sc) l)(hv:l≠[]->∀g o,sa=some ⟨g,o,none⟩->g<w.heap.size)(ar:sa=none->l=[])(hl:l.length<=1000000000000)(hG:Glob w)(hT:GT w) :
  Calls Tryz.prog 57 #[.slice sa l.length sc] w fun e w'=>e = .returned (.bool true)/\w.grownBy w' none:=by
 have ao:Y (RdO w (.slice sa l.length sc) l):=hr
 have ad:Y (l≠[]->∀g o,sa=some ⟨g,o,none⟩->g<w.heap.size):=hv
 have HG:Y (Glob w):=hG
 have HT:Y (GT w):=hT
 have H1:Y (Calls Tryz.prog 94 #[.slice sa l.length sc] w fun e w'=>∃g af,e = .returned (.tuple #[.slice (some ⟨g,0,none⟩) (l.length+8) (l.length+8),af])/\w.heap.size<=g/\w'.heap[g]?=some (.cells (L.st l 8).toArray 5 (0,0))/\w.grownBy w' none/\RdO w' af l/\∀g' o n c,af = .slice (some ⟨g',o,none⟩) n c->g'=g):=zoZ hr hl ar
 clear hr hv hG hT
 go_enter Tryz.func57,Tryz.ntmps57
 go_wp2_with fail
 refine H1.o.mono ?_
 rintro e w1 ⟨g,af,rfl,am,aj,g1,ak,an⟩
 have G1:Y (w.grownBy w1 none):=g1
 have al:Y (w1.heap[g]?=some (.cells (L.st l 8).toArray 5 (0,0))):=aj
 have aq:=zI aj
 obtain⟨ia,ic,rfl,_⟩:=ak.form
 have H2:Y (Calls Tryz.prog 19 #[.slice ia l.length ic] w1 fun e w'=>w1.grownBy w' none/\((∃hs,VHs hs/\x9 hs=l/\e = .returned (.tuple #[.string (R.str (R.plain (hs.map toR))),.int .i64 0]))\/((∀hs,VHs hs->x9 hs≠l)/\e = .returned (.tuple #[.string ⟨#[]⟩,.int .i64 6])))):=zlB ak (fun g' o n c e=>by rw[an g' o n c e];exact aq) (by omega) (HG.o.grown g1) (HT.o.grown g1)
 clear H1 aj g1 ak an
 go_wp2_with fail
 refine H2.o.mono ?_
 rintro e w2 ⟨g2,ap⟩
 have ag:=J (zF al.o g2 (by simp))
 have G2:=J (zD G1.o g2)
 have aa:Y (RdO w2 (.slice sa l.length sc) l):=ao.o.keep G2.o (fun g o n c e c2=>by cases c2)
 have H3:Y (Calls Tryz.prog 95 #[.slice (some ⟨g,0,none⟩) (l.length+8) (l.length+8),.slice sa l.length sc] w2 fun e w'=>e = .returned (.bool true)/\w2.grownBy w' (some g)):=zoD ag.o aa.o (by
  by_cases h0:l=[]
  ·exact Or.inl h0
  ·exact Or.inr fun g' o e=>by have:=ad.o h0 g' o e;omega) hl
 clear g2 H2 G1 al
 rcases ap with ⟨hs,hvs,hpk,rfl⟩ | ⟨hno,rfl⟩
 ·go_wp2_with fail
  refine H3.o.mono ?_
  rintro e w3 ⟨rfl,g3⟩
  have G3:=J (zm G2.o g3 am)
  have ab:RdO w3 (.slice sa l.length sc) l:=by
   by_cases ae:l=[]
   ·subst ae;exact Or.inl ⟨sa,sc,rfl,rfl⟩
   ·exact aa.o.keep g3 (fun g' o n c e c2=>by
     simp only[qQ] at e
     have:=ad.o ae g' o e.1;have:=x5 c2;omega)
  have H4:Y (Calls Tryz.prog 96 #[.slice sa l.length sc] w3 fun e w'=>w3.grownBy w' none/\((∃hs u,VHs hs/\x9 hs=l/\e = .returned (.tuple #[u,.bool true])/\HostsRow w' 0 u (hs.map toR))\/((∀hs,VHs hs->x9 hs≠l)/\∃u,e = .returned (.tuple #[u,.bool false])))):=zdE ab (fun h0 g' o n c e=>by
   simp only[qQ] at e
   have:=ad.o h0 g' o e.1
   exact vQ this G3.o.size) (by omega)
  clear g3 H3 ab aa ag G2
  go_wp2_with fail
  refine H4.o.mono ?_
  rintro e w4 ⟨g4,ai⟩
  have G4:=J (zD G3.o g4)
  clear H4 g4 G3
  have HN:Y (∀n W,Calls Tryz.prog 36 #[.int .i64 n] W fun e w'=>e = .returned (.int .i64 n)/\w'=W):=fun n W=>zbX n W
  rcases ai with ⟨hs2,u,hv2,hp2,rfl,hrow⟩ | ⟨hno,_⟩
  ·have he:hs2=hs:=by rw[<-zd4 hs2 hv2,<-zd4 hs hvs,hp2,hpk]
   subst he
   obtain⟨ua,uc,rfl⟩:∃ua uc,u = .slice ua (hs2.map toR).length uc:=by obtain⟨css,h1,_⟩:=hrow;exact zO h1
   have ah:Y (Calls Tryz.prog 35 #[.slice ua (hs2.map toR).length uc] w4 fun e w'=>e = .returned (.string (R.str (R.plain (hs2.map toR))))/\w.grownBy w' none):=(zeK _ (hs2.map toR) hrow (by rw[xW];have:=hvs.hl;omega) (fun x hx=>by obtain⟨y,hy,rfl⟩:=List.mem_map.1 hx;exact(hvs.hosts y hy).ub.small)).mono fun e w' ⟨q1,q2⟩=>⟨q1,zD G4.o q2⟩
   rw[xW] at ah ⊢
   clear hrow hvs hv2 hpk hp2
   generalize R.plain (hs2.map toR)=pl at*
   go_wp2_with fail
   refine ah.o.mono ?_
   rintro e w5 ⟨rfl,g5⟩
   have G5:Y (w.grownBy w5 none):=g5
   clear g5 ah G4
   go_wp2_with (go_at_call 36;refine(HN.o _ _).mono ?_;rintro e w' ⟨rfl,rfl⟩)
   go_ret
   exact⟨rfl,G5.o⟩
  ·exact absurd hpk (hno hs hvs)
 ·go_wp2_with fail
  refine H3.o.mono ?_
  rintro e w3 ⟨rfl,g3⟩
  have G3:=J (zm G2.o g3 am)
  have ab:RdO w3 (.slice sa l.length sc) l:=by
   by_cases ae:l=[]
   ·subst ae;exact Or.inl ⟨sa,sc,rfl,rfl⟩
   ·exact aa.o.keep g3 (fun g' o n c e c2=>by
     simp only[qQ] at e
     have:=ad.o ae g' o e.1;have:=x5 c2;omega)
  have H4:Y (Calls Tryz.prog 96 #[.slice sa l.length sc] w3 fun e w'=>w3.grownBy w' none/\((∃hs u,VHs hs/\x9 hs=l/\e = .returned (.tuple #[u,.bool true])/\HostsRow w' 0 u (hs.map toR))\/((∀hs,VHs hs->x9 hs≠l)/\∃u,e = .returned (.tuple #[u,.bool false])))):=zdE ab (fun h0 g' o n c e=>by
   simp only[qQ] at e
   have:=ad.o h0 g' o e.1
   exact vQ this G3.o.size) (by omega)
  clear g3 H3 ab aa ag G2
  go_wp2_with fail
  refine H4.o.mono ?_
  rintro e w4 ⟨g4,ai⟩
  have G4:=J (zD G3.o g4)
  clear H4 g4 G3
  have HN:Y (∀n W,Calls Tryz.prog 36 #[.int .i64 n] W fun e w'=>e = .returned (.int .i64 n)/\w'=W):=fun n W=>zbX n W
  rcases ai with ⟨hs2,u,hv2,hp2,_,_⟩ | ⟨_,u,rfl⟩
  ·exact absurd hp2 (hno hs2 hv2)
  ·clear hno
   go_wp2_with (go_at_call 36;refine(HN.o _ _).mono ?_;rintro e w' ⟨rfl,rfl⟩)
   go_ret
   exact⟨rfl,G4.o⟩
theorem zdG (hs:List P.Hst):(x9 hs).length=(xE hs).length+4:=by unfold x9 xM;simp
end Go.Proofs.YtfocdefchbnkpaaGreatDoor
