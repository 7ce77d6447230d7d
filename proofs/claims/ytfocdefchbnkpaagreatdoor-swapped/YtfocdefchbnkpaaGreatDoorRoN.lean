/- Routes, as the program finds them: the host of a request. -/
import Derived.Test.YtfocdefchbnkpaaGreatDoorAli
import Derived.Test.YtfocdefchbnkpaaGreatDoorRoM
set_option maxRecDepth 100000
set_option maxHeartbeats 20000000
namespace Go.Proofs.YtfocdefchbnkpaaGreatDoor
open Go.RowKit
theorem HostV.form {w:World}{v:Value}{h:P.Hst}(hv:HostV w v h):∃a n k b m q,v = .agg #[.slice a n k,.slice b m q]:=by
 obtain⟨ra,rk,pa,pk,e,_⟩:=hv;exact⟨_,_,_,_,_,_,e⟩
theorem HostV.stored {w:World}{v x y:Value}{h:P.Hst}{b:Nat}{cs:Array Value}{f:Nat×Nat}(hv:HostV w v h)(hb:w.heap[b]?=some (.cells cs 161 f)):HostV ((w.setCell ⟨b,0,none⟩ x).setCell ⟨b,1,none⟩ y) v h:=by
 have h1:=hv.keep (zD w b 0 x) (qx hb (by decide))
 exact h1.keep (zD _ b 1 y) (qx (zF (i:=0) hb x) (by decide))
theorem zlG {w:World}{tb mb:Nat}{l:List (HKey×Value)}{hs:List P.Hst}(hb:w.heap[tb]?=some (.cells #[.map (some mb)] 166 (0,0)))(ht:TabM w mb l hs)(hf:Fits hs)(aa:List UInt8)(hn:aa.length<=3000) :
  Calls Tryz.prog 179 #[.pointer (some ⟨tb,0,none⟩),.string (R.str aa)] w fun e w'=>w.grownBy w' none/\((Tr.hostOf hs aa=none/\e = .returned (.tuple #[.agg #[.slice none 0 0,.slice none 0 0],.bool false]))\/∃x v,Tr.hostOf hs aa=some x/\HostV w' v x/\e = .returned (.tuple #[v,.bool true])):=by
 have aw:=hid hb
 have GW:=hid (zJ w (.cells #[.slice none 0 0,.slice none 0 0] 161) none)
 have av:=hid (heap_alloc_new w (.cells #[.slice none 0 0,.slice none 0 0] 161))
 have ae:Y (∀W,(w.alloc (.cells #[.slice none 0 0,.slice none 0 0] 161)).grownBy W none->W.cell? ⟨tb,0,none⟩=some (.map (some mb))):=fun W hW=>z8 (zB hb (zA GW.o hW) (by simp))
 have ag:Y (∀(k:HKey),k.1.length<=3000->∃a1 n1 k1 b1 m1 q1 fl,(∀W,(w.alloc (.cells #[.slice none 0 0,.slice none 0 0] 161)).grownBy W none->((Instr.lookup 156 (.map (some mb)) (.agg #[.string (R.str k.1),.bool k.2]) true).run Tryz.prog W = .ok (.tuple #[.agg #[.slice a1 n1 k1,.slice b1 m1 q1],.bool fl]) W))/\Y ((Tr.byKey hs k=none/\fl=false/\.agg #[.slice a1 n1 k1,.slice b1 m1 q1]=Value.agg #[.slice none 0 0,.slice none 0 0])\/∃x,Tr.byKey hs k=some x/\fl=true/\HostV w (.agg #[.slice a1 n1 k1,.slice b1 m1 q1]) x)):=fun k hk=>by
  obtain⟨a1,n1,k1,b1,m1,q1,fl,h1,h2⟩:=ht.ask hf k (by unfold maxLen;omega)
  exact⟨a1,n1,k1,b1,m1,q1,fl,fun W hW=>h1 W ((zA GW.o hW).block mb ht.map.lt (by simp)),h2⟩
 have HO:Y (Tr.hostOf hs aa=Tr.or2 (Tr.byKey hs (aa,false)) (Tr.or2 (Tr.wild hs (aa.length+1) aa) (Tr.byKey hs (Tr.key [42])))):=rfl
 have ak:Y (∀(l:List UInt8) W,l.length<=3000->Calls Tryz.prog 238 #[.string (R.str l),.string ⟨#[46]⟩] W fun e w'=>e = .returned (.tuple #[.string (R.str (Lib.cut l [46]).1),.string (R.str (Lib.cut l [46]).2.1),.bool (Lib.cut l [46]).2.2])/\W.grownBy w' none):=fun l W hl=>vz l 46 W (by omega)
 have ao:Y (∀W,Calls Tryz.prog 78 #[.string ⟨#[42]⟩] W fun e w'=>e = .returned (.agg #[.string (R.str [42]),.bool false])/\W.grownBy w' none):=fun W=>zaP [42] W (by decide)
 have ay:=hid (Wl.start hs aa)
 have t0:=ae.o (w.alloc (.cells #[.slice none 0 0,.slice none 0 0] 161)) (zM _ _)
 clear hb ht hf
 generalize Tr.hostOf hs aa=res at*
 generalize Tr.wild hs (aa.length+1) aa=wres at*
 go_enter Tryz.func179,Tryz.ntmps179
 go_upto_region 1 with fail
 generalize(w.alloc (.cells #[.slice none 0 0,.slice none 0 0] 161))=w1 at*
 obtain⟨a1,n1,k1,b1,m1,q1,fl,ad,HL⟩:=ag.o (aa,false) hn
 have h2:=ad w1 (zM _ _)
 clear ad
 rcases HL.o with ⟨h1,rfl,hz⟩ | ⟨x,h1,rfl,hv⟩
 rotate_left
 ·clear HL
  have HE:Y (res=some x):=by show _=_;rw[HO.o,h1];rfl
  have hv:=hv.keep GW.o (zv _ _)
  have gb:=zJ w1 (.cells #[.slice a1 n1 k1,.slice b1 m1 q1] 161) none
  have HQ:=hid (zB av.o (zA (zM _ _) gb) (by simp))
  have af:=hid (heap_alloc_new w1 (.cells #[.slice a1 n1 k1,.slice b1 m1 q1] 161))
  have v0:(w1.alloc (.cells #[.slice a1 n1 k1,.slice b1 m1 q1] 161)).cell? ⟨w1.heap.size,0,none⟩=some (.slice a1 n1 k1):=z8 af.o
  have v1:(w1.alloc (.cells #[.slice a1 n1 k1,.slice b1 m1 q1] 161)).cell? ⟨w1.heap.size,1,none⟩=some (.slice b1 m1 q1):=z8 af.o
  have r0:(w1.alloc (.cells #[.slice a1 n1 k1,.slice b1 m1 q1] 161)).cell? ⟨w.heap.size,0,none⟩=some (.slice none 0 0):=z8 HQ.o
  have r1:(w1.alloc (.cells #[.slice a1 n1 k1,.slice b1 m1 q1] 161)).cell? ⟨w.heap.size,1,none⟩=some (.slice none 0 0):=z8 HQ.o
  have s0:=zrB 0 HQ.o
  have s1:=zrB 1 HQ.o
  have al:Y (w.grownBy (((w1.alloc (.cells #[.slice a1 n1 k1,.slice b1 m1 q1] 161)).setCell ⟨w.heap.size,0,none⟩ (.slice a1 n1 k1)).setCell ⟨w.heap.size,1,none⟩ (.slice b1 m1 q1)) none):=zY (zY (zA (zA GW.o (zM _ _)) gb) (zD _ _ _ _) (zZ _)) (zD _ _ _ _) (zZ _)
  have an:Y (HostV (((w1.alloc (.cells #[.slice a1 n1 k1,.slice b1 m1 q1] 161)).setCell ⟨w.heap.size,0,none⟩ (.slice a1 n1 k1)).setCell ⟨w.heap.size,1,none⟩ (.slice b1 m1 q1)) (.agg #[.slice a1 n1 k1,.slice b1 m1 q1]) x):=(hv.keep gb (zv _ _)).stored HQ.o
  have ab:=hid (zF (i:=1) (zF (i:=0) HQ.o (.slice a1 n1 k1)) (.slice b1 m1 q1))
  have z0:(((w1.alloc (.cells #[.slice a1 n1 k1,.slice b1 m1 q1] 161)).setCell ⟨w.heap.size,0,none⟩ (.slice a1 n1 k1)).setCell ⟨w.heap.size,1,none⟩ (.slice b1 m1 q1)).cell? ⟨w.heap.size,0,none⟩=some (.slice a1 n1 k1):=z8 ab.o
  have z1:(((w1.alloc (.cells #[.slice a1 n1 k1,.slice b1 m1 q1] 161)).setCell ⟨w.heap.size,0,none⟩ (.slice a1 n1 k1)).setCell ⟨w.heap.size,1,none⟩ (.slice b1 m1 q1)).cell? ⟨w.heap.size,1,none⟩=some (.slice b1 m1 q1):=z8 ab.o
  clear gb ab
  have ax:=hid an.o
  clear h1 hv ag HO ao ak ay ae aw HQ af an
  go_wp2
  (try simp only[Exit.inBlock,Exit.then])
  refine bodyPost_ret (v:=.tuple #[.agg #[.slice a1 n1 k1,.slice b1 m1 q1],.bool true]) (by simp[results,Tryz.results179,go_sem,z0,z1]) rfl ?_
  exact⟨al.o,Or.inr ⟨x,HE.o,_,ax.o,rfl⟩⟩
 ·have HE:Y (res=Tr.or2 wres (Tr.byKey hs (Tr.key [42]))):=by show _=_;rw[HO.o,h1];rfl
  rw[hz] at h2
  clear hz HL
  have aj:=hid (ak.o aa)
  have am:Y (w1.grownBy (w1.alloc (.cells #[.slice none 0 0,.slice none 0 0] 161)) none):=zJ _ _ none
  clear h1 HO
  go_wp2_with fail
  refine(aj.o _ hn).mono ?_
  rintro e w2 ⟨rfl,g2⟩
  have G2:=hid (zA am.o g2)
  have aD:=(jW aa 46).2
  clear aj g2 am h2 t0
  generalize(Lib.cut aa [46]).1=c1 at*
  generalize(Lib.cut aa [46]).2.1=r1 at*
  generalize(Lib.cut aa [46]).2.2=mo at*
  go_wp2_with fail
  go_loopw [9,10] (fun rv mv wr=>∃rest ar,rv = .string (R.str rest)/\mv = .bool ar/\rest.length<=3000/\Y (w1.grownBy wr none)/\Y (Wl hs wres rest ar)) (fun rv mv _=>Tr.meas rv mv)
  case atStart=>exact⟨r1,mo,rfl,rfl,by omega,G2,ay⟩
  case round=>
   obtain⟨rest,ar,rfl,rfl,aA,HG,ah⟩:=hrel
   clear ay G2
   have t0:=ae.o wr HG.o
   cases ar
   ·have HN:=hid ah.o.no
    have aq:Y (res=Tr.byKey hs (Tr.key [42])):=by show _=_;rw[HE.o,HN.o];rfl
    clear HE ah ak
    obtain⟨a1,n1,k1,b1,m1,q1,fl,ad,HL⟩:=ag.o ([42],false) (by decide)
    have tA:=ae.o (wr.alloc (.cells #[.slice none 0 0,.slice none 0 0] 161)) (zA HG.o (zJ _ _ none))
    go_upto_region 10 with fail
    go_cut [13,14] (fun bv fv wz=>∃ap,bv = .pointer (some ⟨ap,0,none⟩)/\fv = .bool fl/\Y (wz.heap[ap]?=some (.cells #[.slice a1 n1 k1,.slice b1 m1 q1] 161))/\Y (w1.grownBy wz none))
    case first=>
     go_region_law (go_simp;go_at_call 78;refine(ao.o _).mono ?_;rintro e wK ⟨rfl,gK⟩;have GK:Y (w1.grownBy wK none):=(by first | exact zA HG.o (zA (zQ wr) gK) | exact zA HG.o (zA (zJ wr (.cells #[.slice none 0 0,.slice none 0 0] 161) none) (zA (zQ _) gK)));(try (have ai:=hid (zB (zB (heap_alloc_new wr (.cells #[.slice none 0 0,.slice none 0 0] 161)) (zQ _) (by simp)) gK (by simp));have y0:wK.cell? ⟨wr.heap.size,0,none⟩=some (.slice none 0 0):=z8 ai.o;have y1:wK.cell? ⟨wr.heap.size,1,none⟩=some (.slice none 0 0):=z8 ai.o;have aG:=zrB 0 ai.o;have aH:=zrB 1 ai.o));have tK:=ae.o wK GK.o;have h2:=ad wK GK.o;have h3:=ad (wK.alloc (.cells #[.slice none 0 0,.slice none 0 0] 161)) (zA GK.o (zJ _ _ none));have aF:=ae.o (wK.alloc (.cells #[.slice none 0 0,.slice none 0 0] 161)) (zA GK.o (zJ _ _ none));clear gK)
     all_goals
      go_wp2_with fail
      go_meet
      case rel=>first | exact⟨wK.heap.size,rfl,rfl,heap_alloc_new wK (.cells #[.slice a1 n1 k1,.slice b1 m1 q1] 161),zA GK.o (zJ _ _ none)⟩ | exact⟨wr.heap.size,rfl,rfl,zF (i:=1) (zF (i:=0) ai.o _) _,zY (zY GK.o (zD _ _ _ _) HG.o.size) (zD _ _ _ _) HG.o.size⟩
    case rest=>
     obtain⟨ap,rfl,rfl,au,GZ⟩:=hcut
     generalize wc=wz at*
     have v0:wz.cell? ⟨ap,0,none⟩=some (.slice a1 n1 k1):=z8 au.o
     have v1:wz.cell? ⟨ap,1,none⟩=some (.slice b1 m1 q1):=z8 au.o
     have HQ:=hid (zB av.o GZ.o (by simp))
     have r0:wz.cell? ⟨w.heap.size,0,none⟩=some (.slice none 0 0):=z8 HQ.o
     have r1:wz.cell? ⟨w.heap.size,1,none⟩=some (.slice none 0 0):=z8 HQ.o
     have s0:=zrB 0 HQ.o
     have s1:=zrB 1 HQ.o
     have ab:=hid (zF (i:=1) (zF (i:=0) HQ.o (.slice a1 n1 k1)) (.slice b1 m1 q1))
     have z0:((wz.setCell ⟨w.heap.size,0,none⟩ (.slice a1 n1 k1)).setCell ⟨w.heap.size,1,none⟩ (.slice b1 m1 q1)).cell? ⟨w.heap.size,0,none⟩=some (.slice a1 n1 k1):=z8 ab.o
     have z1:((wz.setCell ⟨w.heap.size,0,none⟩ (.slice a1 n1 k1)).setCell ⟨w.heap.size,1,none⟩ (.slice b1 m1 q1)).cell? ⟨w.heap.size,1,none⟩=some (.slice b1 m1 q1):=z8 ab.o
     have al:Y (w.grownBy ((wz.setCell ⟨w.heap.size,0,none⟩ (.slice a1 n1 k1)).setCell ⟨w.heap.size,1,none⟩ (.slice b1 m1 q1)) none):=zY (zY (zA GW.o GZ.o) (zD _ _ _ _) (zZ _)) (zD _ _ _ _) (zZ _)
     have aC:Y (∀x,HostV w (.agg #[.slice a1 n1 k1,.slice b1 m1 q1]) x->HostV ((wz.setCell ⟨w.heap.size,0,none⟩ (.slice a1 n1 k1)).setCell ⟨w.heap.size,1,none⟩ (.slice b1 m1 q1)) (.agg #[.slice a1 n1 k1,.slice b1 m1 q1]) x):=fun x hv=>(hv.keep (zA GW.o GZ.o) (zv _ _)).stored HQ.o
     clear ag ao ae aw HQ au ab ad tA t0
     go_wp2
     (try simp only[Exit.inBlock,Exit.then])
     refine bodyPost_ret (v:=.tuple #[.agg #[.slice a1 n1 k1,.slice b1 m1 q1],.bool fl]) (by simp[results,Tryz.results179,go_sem,z0,z1]) rfl ?_
     refine⟨al.o,?_⟩
     rcases HL.o with ⟨p1,p2,p3⟩ | ⟨x,p1,p2,hv⟩
     ·exact Or.inl ⟨by rw[aq.o];exact p1,by rw[p2,p3]⟩
     ·exact Or.inr ⟨x,_,by rw[aq.o];exact p1,aC.o x hv,by rw[p2]⟩
   ·obtain⟨a1,n1,k1,b1,m1,q1,fl,ad,HL⟩:=ag.o (rest,true) aA
    have h2:=ad wr HG.o
    clear ad
    rcases HL.o with ⟨h1,rfl,hz⟩ | ⟨x,h1,rfl,hv⟩
    rotate_left
    ·have hv:=hv.keep (zA GW.o HG.o) (zv _ _)
     clear HL
     have HN:=hid (ah.o.hit h1)
     have aq:Y (res=some x):=by show _=_;rw[HE.o,HN.o];rfl
     have gb:=zJ wr (.cells #[.slice a1 n1 k1,.slice b1 m1 q1] 161) none
     have HQ:=hid (zB av.o (zA HG.o gb) (by simp))
     have af:=hid (heap_alloc_new wr (.cells #[.slice a1 n1 k1,.slice b1 m1 q1] 161))
     have v0:(wr.alloc (.cells #[.slice a1 n1 k1,.slice b1 m1 q1] 161)).cell? ⟨wr.heap.size,0,none⟩=some (.slice a1 n1 k1):=z8 af.o
     have v1:(wr.alloc (.cells #[.slice a1 n1 k1,.slice b1 m1 q1] 161)).cell? ⟨wr.heap.size,1,none⟩=some (.slice b1 m1 q1):=z8 af.o
     have r0:(wr.alloc (.cells #[.slice a1 n1 k1,.slice b1 m1 q1] 161)).cell? ⟨w.heap.size,0,none⟩=some (.slice none 0 0):=z8 HQ.o
     have r1:(wr.alloc (.cells #[.slice a1 n1 k1,.slice b1 m1 q1] 161)).cell? ⟨w.heap.size,1,none⟩=some (.slice none 0 0):=z8 HQ.o
     have s0:=zrB 0 HQ.o
     have s1:=zrB 1 HQ.o
     have al:Y (w.grownBy (((wr.alloc (.cells #[.slice a1 n1 k1,.slice b1 m1 q1] 161)).setCell ⟨w.heap.size,0,none⟩ (.slice a1 n1 k1)).setCell ⟨w.heap.size,1,none⟩ (.slice b1 m1 q1)) none):=zY (zY (zA (zA GW.o HG.o) gb) (zD _ _ _ _) (zZ _)) (zD _ _ _ _) (zZ _)
     have an:Y (HostV (((wr.alloc (.cells #[.slice a1 n1 k1,.slice b1 m1 q1] 161)).setCell ⟨w.heap.size,0,none⟩ (.slice a1 n1 k1)).setCell ⟨w.heap.size,1,none⟩ (.slice b1 m1 q1)) (.agg #[.slice a1 n1 k1,.slice b1 m1 q1]) x):=(hv.keep gb (zv _ _)).stored HQ.o
     have ab:=hid (zF (i:=1) (zF (i:=0) HQ.o (.slice a1 n1 k1)) (.slice b1 m1 q1))
     have z0:(((wr.alloc (.cells #[.slice a1 n1 k1,.slice b1 m1 q1] 161)).setCell ⟨w.heap.size,0,none⟩ (.slice a1 n1 k1)).setCell ⟨w.heap.size,1,none⟩ (.slice b1 m1 q1)).cell? ⟨w.heap.size,0,none⟩=some (.slice a1 n1 k1):=z8 ab.o
     have z1:(((wr.alloc (.cells #[.slice a1 n1 k1,.slice b1 m1 q1] 161)).setCell ⟨w.heap.size,0,none⟩ (.slice a1 n1 k1)).setCell ⟨w.heap.size,1,none⟩ (.slice b1 m1 q1)).cell? ⟨w.heap.size,1,none⟩=some (.slice b1 m1 q1):=z8 ab.o
     clear gb ab
     have ax:=hid an.o
     clear h1 hv ag ao ak ae aw HQ af an HE HN ah
     go_wp2
     (try simp only[Exit.inBlock,Exit.then])
     refine bodyPost_ret (v:=.tuple #[.agg #[.slice a1 n1 k1,.slice b1 m1 q1],.bool true]) (by simp[results,Tryz.results179,go_sem,z0,z1]) rfl ?_
     exact⟨al.o,Or.inr ⟨x,aq.o,_,ax.o,rfl⟩⟩
    ·rw[hz] at h2
     clear hz HL
     have HN:=hid (ah.o.go h1)
     have aj:=hid (ak.o rest)
     have am:Y (wr.grownBy (wr.alloc (.cells #[.slice none 0 0,.slice none 0 0] 161)) none):=zJ _ _ none
     have az:=ze9 rest 46
     have aE:=(jW rest 46).2
     clear h1 HE ah ao
     go_wp2_with fail
     refine(aj.o _ aA).mono ?_
     rintro e w3 ⟨rfl,g3⟩
     have G3:=hid (zA (zA HG.o am.o) g3)
     clear aj g3 am h2 t0 HG
     generalize(Lib.cut rest [46]).1=c2 at*
     generalize(Lib.cut rest [46]).2.1=r2 at*
     generalize(Lib.cut rest [46]).2.2=mo2 at*
     have aB:Y (Tr.meas (.string (R.str r2)) (.bool mo2)<Tr.meas (.string (R.str rest)) (.bool true)):=by
      show _<_
      rw[Tr.meas_yes]
      cases mo2
      ·rw[Tr.meas_no];omega
      ·rw[Tr.meas_yes];have:=az rfl;omega
     clear az
     go_wp2_with fail
     go_roundw
     case rel=>exact⟨r2,mo2,rfl,rfl,by omega,G3,HN⟩
     case measure=>exact aB.o
def Tr.firstRule (rs:List P.Rl)(hd:List Hd):List Nat->Option P.Rl
 | []=>none
 | i :: t=>
  match rs[i]? with
  | none=>Tr.firstRule rs hd t
  | some r=>if Rq.meets r.ms hd=true then some r else Tr.firstRule rs hd t
def Tr.ruleOf (h:P.Hst)(path:List UInt8)(hd:List Hd):Option P.Rl:=Tr.firstRule h.rules hd (Tr.isort (Tr.run (Tr.prog (h.rules.map (·.path))) path))
theorem Tr.mach_all {p:List Tr.Ins}{path:List UInt8}{Q:Nat->Prop}(hp:∀x∈p,x.kind=0->Q x.rule)(f:Nat):∀a h aa,(∀k∈aa,Q k)->∀k∈Tr.mach p path f a h aa,Q k:=by
 induction f with
 | zero=>intro a h aa ha;exact ha
 | succ f ih=>
  intro a h aa ha
  rw[Tr.mach]
  split
  ·exact ha
  ·rename_i x hx
   split
   ·rename_i hk
    refine ih _ _ _ (fun k hk2=>?_)
    rcases List.mem_append.1 hk2 with q | q
    ·exact ha k q
    ·simp at q;subst q;exact hp x (List.mem_of_getElem? hx) hk
   ·split
    ·exact ih _ _ _ ha
    ·exact ih _ _ _ ha
theorem Fit.small {h:P.Hst}(hf:Fit h)(path:List UInt8):∀k∈Tr.isort (Tr.run (Tr.prog (h.rules.map (·.path))) path),k<h.rules.length:=fun k hk=>by
 refine Tr.mach_all (Q:=fun k=>k<h.rules.length) (fun x hx hk=>?_) _ _ _ _ (fun k hk=>by simp at hk) k ((Tr.isort_perm _).mem_iff.1 hk)
 have:=List.all_eq_true.1 hf.notes x hx
 simp only[Bool.or_eq_true,decide_eq_true_eq] at this
 rcases this with q | q
 ·exact absurd hk q
 ·exact q
theorem Tr.mach_len {p:List Tr.Ins}{path:List UInt8}(f:Nat):∀a h aa,(Tr.mach p path f a h aa).length<=aa.length+f:=by
 induction f with
 | zero=>intro a h aa;exact zZ _
 | succ f ih=>
  intro a h aa
  rw[Tr.mach]
  split
  ·omega
  ·split
   ·refine zp (ih _ _ _) ?_
    rw[zW];show aa.length+1+f<=_;omega
   ·split
    ·exact zp (ih _ _ _) (by omega)
    ·exact zp (ih _ _ _) (by omega)
theorem Tr.run_len (p:List Tr.Ins)(path:List UInt8):(Tr.run p path).length<=p.length:=by have:=Tr.mach_len (p:=p) (path:=path) p.length 0 0 [];simpa[Tr.run] using this
theorem vJ {w W:World}{b:Nat}{u0 u1 u2 u3 u4 u5 u6:Value}(h:w.grownBy W none)(hb:w.heap.size<=b):w.grownBy (((((((W.setCell ⟨b,0,none⟩ u0).setCell ⟨b,1,none⟩ u1).setCell ⟨b,2,none⟩ u2).setCell ⟨b,3,none⟩ u3).setCell ⟨b,4,none⟩ u4).setCell ⟨b,5,none⟩ u5).setCell ⟨b,6,none⟩ u6) none:=zY (zY (zY (zY (zY (zY (zY h (zD _ _ _ _) hb) (zD _ _ _ _) hb) (zD _ _ _ _) hb) (zD _ _ _ _) hb) (zD _ _ _ _) hb) (zD _ _ _ _) hb) (zD _ _ _ _) hb
theorem vO {W:World}{b:Nat}{c0 c1 c2 c3 c4 c5 c6 u0 u1 u2 u3 u4 u5 u6:Value}{t:TypeId}{f:Nat×Nat}(h:W.heap[b]?=some (.cells #[c0,c1,c2,c3,c4,c5,c6] t f)):(((((((W.setCell ⟨b,0,none⟩ u0).setCell ⟨b,1,none⟩ u1).setCell ⟨b,2,none⟩ u2).setCell ⟨b,3,none⟩ u3).setCell ⟨b,4,none⟩ u4).setCell ⟨b,5,none⟩ u5).setCell ⟨b,6,none⟩ u6).heap[b]?=some (.cells #[u0,u1,u2,u3,u4,u5,u6] t f):=by
 have h0:(W.setCell ⟨b,0,none⟩ u0).heap[b]?=some (.cells #[u0,c1,c2,c3,c4,c5,c6] t f):=zF (i:=0) h u0
 have h1:((W.setCell ⟨b,0,none⟩ u0).setCell ⟨b,1,none⟩ u1).heap[b]?=some (.cells #[u0,u1,c2,c3,c4,c5,c6] t f):=zF (i:=1) h0 u1
 have h2:(((W.setCell ⟨b,0,none⟩ u0).setCell ⟨b,1,none⟩ u1).setCell ⟨b,2,none⟩ u2).heap[b]?=some (.cells #[u0,u1,u2,c3,c4,c5,c6] t f):=zF (i:=2) h1 u2
 have h3:((((W.setCell ⟨b,0,none⟩ u0).setCell ⟨b,1,none⟩ u1).setCell ⟨b,2,none⟩ u2).setCell ⟨b,3,none⟩ u3).heap[b]?=some (.cells #[u0,u1,u2,u3,c4,c5,c6] t f):=zF (i:=3) h2 u3
 have h4:(((((W.setCell ⟨b,0,none⟩ u0).setCell ⟨b,1,none⟩ u1).setCell ⟨b,2,none⟩ u2).setCell ⟨b,3,none⟩ u3).setCell ⟨b,4,none⟩ u4).heap[b]?=some (.cells #[u0,u1,u2,u3,u4,c5,c6] t f):=zF (i:=4) h3 u4
 have h5:((((((W.setCell ⟨b,0,none⟩ u0).setCell ⟨b,1,none⟩ u1).setCell ⟨b,2,none⟩ u2).setCell ⟨b,3,none⟩ u3).setCell ⟨b,4,none⟩ u4).setCell ⟨b,5,none⟩ u5).heap[b]?=some (.cells #[u0,u1,u2,u3,u4,u5,c6] t f):=zF (i:=5) h4 u5
 have h6:(((((((W.setCell ⟨b,0,none⟩ u0).setCell ⟨b,1,none⟩ u1).setCell ⟨b,2,none⟩ u2).setCell ⟨b,3,none⟩ u3).setCell ⟨b,4,none⟩ u4).setCell ⟨b,5,none⟩ u5).setCell ⟨b,6,none⟩ u6).heap[b]?=some (.cells #[u0,u1,u2,u3,u4,u5,u6] t f):=zF (i:=6) h5 u6
 exact h6
theorem PRuleVal.set7 {W:World}{b:Nat}{cs:List Value}{r:P.Rl}{u0 u1 u2 u3 u4 u5 u6:Value}{c:Array Value}{f:Nat×Nat}(h:PRuleVal W cs r)(hb:W.heap[b]?=some (.cells c 213 f)):PRuleVal (((((((W.setCell ⟨b,0,none⟩ u0).setCell ⟨b,1,none⟩ u1).setCell ⟨b,2,none⟩ u2).setCell ⟨b,3,none⟩ u3).setCell ⟨b,4,none⟩ u4).setCell ⟨b,5,none⟩ u5).setCell ⟨b,6,none⟩ u6) cs r:=by
 have q0:=h.keep (zD W b 0 u0) (qx hb (by decide))
 have b0:=zF (i:=0) hb u0
 have q1:=q0.keep (zD _ b 1 u1) (qx b0 (by decide))
 have b1:=zF (i:=1) b0 u1
 have q2:=q1.keep (zD _ b 2 u2) (qx b1 (by decide))
 have b2:=zF (i:=2) b1 u2
 have q3:=q2.keep (zD _ b 3 u3) (qx b2 (by decide))
 have b3:=zF (i:=3) b2 u3
 have q4:=q3.keep (zD _ b 4 u4) (qx b3 (by decide))
 have b4:=zF (i:=4) b3 u4
 have q5:=q4.keep (zD _ b 5 u5) (qx b4 (by decide))
 have b5:=zF (i:=5) b4 u5
 exact q5.keep (zD _ b 6 u6) (qx b5 (by decide))
theorem zkT {w:World}{cb B:Nat}{wt v:Value}{hd:Rq.Head}{x:P.Hst}(hI:HInv w cb B wt hd)(hv:HostV w v x)(hf:Fit x)(ht:hd.target.length<=3000)(hn:hd.headers.length<=100000)(aL:∀r∈x.rules,r.ms.length<=1000) :
  Calls Tryz.prog 181 #[v,.pointer (some ⟨cb,0,none⟩)] w fun e w'=>w.grownBy w' none/\((Tr.ruleOf x (Rq.path hd) hd.headers=none/\e = .returned (.tuple #[.agg #[.int .i64 0,.string ⟨#[]⟩,.slice none 0 0,.slice none 0 0,.string ⟨#[]⟩,.slice none 0 0,.slice none 0 0],.bool false]))\/∃r cs,Tr.ruleOf x (Rq.path hd) hd.headers=some r/\PRuleVal w' cs r/\e = .returned (.tuple #[.agg cs.toArray,.bool true])):=by
 obtain⟨ra,rk,pa,pk,rfl,hr,hp⟩:=hv
 obtain⟨aQ,aM,aG⟩:=hr
 have al:=hid aM
 have ao:=hid aG
 have az:(Tr.prog (x.rules.map (·.path))).length<=10000000:=by rw[Tr.prog_len];exact hf.flat
 have aw:=hid (hf.small (Rq.path hd))
 have aT:=hf.few
 have aY:(Tr.run (Tr.prog (x.rules.map (·.path))) (Rq.path hd)).length<=10000000:=zp (Tr.run_len _ _) az
 have au:=hid aL
 have aX:(Rq.path hd).length<=3000:=zp (jW hd.target 63).1 ht
 have aB:Y (∀W,w.grownBy W none->Calls Tryz.prog 241 #[.pointer (some ⟨cb,0,none⟩)] W fun e w'=>e = .returned (.string (R.str (Rq.path hd)))/\W.grownBy w' none):=fun W hW=>znC (hI.keep hW) ht
 have aD:Y (∀W,w.grownBy W none->Calls Tryz.prog 240 #[.slice pa (Tr.prog (x.rules.map (·.path))).length pk,.string (R.str (Rq.path hd))] W fun e w'=>∃a k,e = .returned (.slice a (Tr.run (Tr.prog (x.rules.map (·.path))) (Rq.path hd)).length k)/\Y (Rw W w' 3 1 a k (Tr.run (Tr.prog (x.rules.map (·.path))) (Rq.path hd)).length (Tr.ruCells (Tr.run (Tr.prog (x.rules.map (·.path))) (Rq.path hd))))):=fun W hW=>by
  have hc:=znP (zO hp hW (fun k hk c=>by cases c)) (Tr.fwd_ok hf.fwd) az (R.str (Rq.path hd)) (by rw[R.str_size];omega)
  rw[R.str_toList] at hc;exact hc
 have aE:Y (∀W0 W a k,Rw W0 W 3 1 a k (Tr.run (Tr.prog (x.rules.map (·.path))) (Rq.path hd)).length (Tr.ruCells (Tr.run (Tr.prog (x.rules.map (·.path))) (Rq.path hd)))->Calls Tryz.prog 242 #[.slice a (Tr.run (Tr.prog (x.rules.map (·.path))) (Rq.path hd)).length k] W fun e w'=>e = .returned (.tuple #[])/\Y (Rw W0 w' 3 1 a k (Tr.run (Tr.prog (x.rules.map (·.path))) (Rq.path hd)).length (Tr.ruCells (Tr.isort (Tr.run (Tr.prog (x.rules.map (·.path))) (Rq.path hd)))))):=fun W0 W a k h=>zlC h (by omega)
 have av:Y (∀W (r:P.Rl) ma mk,w.grownBy W none->r.ms.length<=1000->W.ownsRow 0 276 3 (.slice ma r.ms.length mk) r.ms.length (qY r.ms)->Calls Tryz.prog 243 #[.pointer (some ⟨cb,0,none⟩),.slice ma r.ms.length mk] W fun e w'=>e = .returned (.bool (Rq.meets r.ms hd.headers))/\W.grownBy w' none):=fun W r ma mk hW hl ho=>zkE (hI.keep hW) r.ms ho (by omega) hn
 have HL:=hid (Tr.isort_len (Tr.run (Tr.prog (x.rules.map (·.path))) (Rq.path hd)))
 have HE:Y (Tr.ruleOf x (Rq.path hd) hd.headers=Tr.firstRule x.rules hd.headers (Tr.isort (Tr.run (Tr.prog (x.rules.map (·.path))) (Rq.path hd)))):=rfl
 clear hI aM aG hp hf aL ht
 generalize Tr.ruleOf x (Rq.path hd) hd.headers=res at*
 generalize Tr.run (Tr.prog (x.rules.map (·.path))) (Rq.path hd)=rn at*
 generalize Tr.prog (x.rules.map (·.path))=pg at*
 generalize Tr.isort rn=so at*
 generalize Rq.path hd=pth at*
 have GB:=hid (zA (zJ w (.cells #[.slice ra x.rules.length rk,.slice pa pg.length pk] 161) none) (zJ (w.alloc (.cells #[.slice ra x.rules.length rk,.slice pa pg.length pk] 161)) (.cells #[.int .i64 0,.string ⟨#[]⟩,.slice none 0 0,.slice none 0 0,.string ⟨#[]⟩,.slice none 0 0,.slice none 0 0] 213) none))
 have ah:=hid (zB (heap_alloc_new w (.cells #[.slice ra x.rules.length rk,.slice pa pg.length pk] 161)) (zJ (w.alloc (.cells #[.slice ra x.rules.length rk,.slice pa pg.length pk] 161)) (.cells #[.int .i64 0,.string ⟨#[]⟩,.slice none 0 0,.slice none 0 0,.string ⟨#[]⟩,.slice none 0 0,.slice none 0 0] 213) none) (by simp))
 have aj:Y (((w.alloc (.cells #[.slice ra x.rules.length rk,.slice pa pg.length pk] 161)).alloc (.cells #[.int .i64 0,.string ⟨#[]⟩,.slice none 0 0,.slice none 0 0,.string ⟨#[]⟩,.slice none 0 0,.slice none 0 0] 213)).heap[w.heap.size+1]?=some (.cells #[.int .i64 0,.string ⟨#[]⟩,.slice none 0 0,.slice none 0 0,.string ⟨#[]⟩,.slice none 0 0,.slice none 0 0] 213 (0,0))):=by
  have:=heap_alloc_new (w.alloc (.cells #[.slice ra x.rules.length rk,.slice pa pg.length pk] 161)) (.cells #[.int .i64 0,.string ⟨#[]⟩,.slice none 0 0,.slice none 0 0,.string ⟨#[]⟩,.slice none 0 0,.slice none 0 0] 213)
  have e:(w.alloc (.cells #[.slice ra x.rules.length rk,.slice pa pg.length pk] 161)).heap.size=w.heap.size+1:=by simp
  rw[e] at this;exact this
 go_enter Tryz.func181,Tryz.ntmps181
 go_upto_region 1 with fail
 generalize((w.alloc (.cells #[.slice ra x.rules.length rk,.slice pa pg.length pk] 161)).alloc (.cells #[.int .i64 0,.string ⟨#[]⟩,.slice none 0 0,.slice none 0 0,.string ⟨#[]⟩,.slice none 0 0,.slice none 0 0] 213))=wb at*
 have b1:wb.cell? ⟨w.heap.size,1,none⟩=some (.slice pa pg.length pk):=z8 ah.o
 go_cut [6] (fun pv wz=>∃a k,pv = .slice a rn.length k/\Y (wb.grownBy wz none)/\Y (Rw wb wz 3 1 a k rn.length (Tr.ruCells rn)))
 case first=>
  go_region_law (first | (go_simp;go_at_call 241;refine(aB.o _ (zA GB.o (zQ wb))).mono ?_;rintro e wP ⟨rfl,gP⟩;have GP:=hid (zA (zQ wb) gP);have p1:wP.cell? ⟨w.heap.size,1,none⟩=some (.slice pa pg.length pk):=z8 (zB ah.o GP.o (by simp));clear gP) | (go_simp;go_at_call 240;refine(aD.o _ (zA GB.o GP.o)).mono ?_;rintro e wR ⟨a,k,rfl,RR⟩))
  all_goals
   go_wp2_with fail
   go_meet
   case rel=>exact⟨a,k,rfl,zA GP.o RR.o.gr,⟨qK RR.o.own GP.o.size,zA GP.o RR.o.gr⟩⟩
 case rest=>
  obtain⟨a,k,rfl,G2,R2⟩:=hcut
  clear aB aD b1
  have HC:=hid (aE.o wb wc a k R2.o)
  clear aE R2 G2
  go_wp2_with fail
  refine HC.o.mono ?_
  rintro e w3 ⟨rfl,R3⟩
  clear HC
  have HZ:Y (wb.grownBy w3 none):=R3.o.gr
  have aA:Y (res=Tr.firstRule x.rules hd.headers (so.drop 0)):=HE.o
  clear HE
  go_wp2_with fail
  go_loopw [19] (fun iv wr=>∃j:Nat,j<=rn.length/\iv = .int .i64 j/\Y (Rw wb wr 3 1 a k rn.length (Tr.ruCells so))/\Y (res=Tr.firstRule x.rules hd.headers (so.drop j))) (fun iv _=>rn.length - (intOf iv).toNat)
  case atStart=>exact⟨0,zl _,rfl,R3,aA⟩
  case round=>
   obtain⟨j,aV,rfl,HW,HD⟩:=hrel
   clear HZ aA R3
   by_cases aJ:j<rn.length
   ·have aU:(j:Int)<rn.length:=by omega
    obtain⟨g,gc,e1,_,_⟩:=World.ownsRow.form HW.o.own (by omega)
    simp only[qc,true_and] at e1
    obtain⟨rfl,rfl⟩:=e1
    have an:j<so.length:=by rw[HL.o];exact aJ
    have c0:wr.cell? ⟨g,j,none⟩=some (.int .i64 (so[j]:Int)):=by
     rw[xd HW.o.own j (by omega)]
     unfold Tr.ruCells
     rw[List.getElem?_map,qN an];rfl
    have am:=aw.o so[j] (List.getElem_mem an)
    have aI:so.drop j=so[j] :: so.drop (j+1):=List.drop_eq_getElem_cons an
    rw[aI] at HD
    clear aI
    generalize so[j]=pl at*
    have aW:(pl:Int)<x.rules.length:=by omega
    obtain⟨cs,aS,ay⟩:=ku ao.o pl am
    obtain⟨g2,aZ,e2,_,_⟩:=World.ownsRow.form al.o (by omega)
    simp only[qc,true_and] at e2
    obtain⟨rfl,rfl⟩:=e2
    have gw:=zA GB.o HW.o.gr
    obtain⟨vM,vT,vS,vD,aH,m1,m2,m3,m4⟩:=aS
    obtain⟨ma,mk,rfl⟩:=zP m1
    obtain⟨ta,tk,rfl⟩:=zP m2
    obtain⟨sa,sk,rfl⟩:=zP m3
    obtain⟨da,dk,rfl⟩:=zP m4
    have af:∀i,i<7->wr.cell? ⟨g2,pl*7+i,none⟩=cs[i]?:=fun i hi=>by
     have hx:∃u,aQ.flatten[pl*7+i]?=some u:=by
      rw[ay i hi,aH]
      match i,hi with
      | 0,_=>exact⟨_,rfl⟩
      | 1,_=>exact⟨_,rfl⟩
      | 2,_=>exact⟨_,rfl⟩
      | 3,_=>exact⟨_,rfl⟩
      | 4,_=>exact⟨_,rfl⟩
      | 5,_=>exact⟨_,rfl⟩
      | 6,_=>exact⟨_,rfl⟩
     obtain⟨u,hu⟩:=hx
     have h0:w.cell? ⟨g2,pl*7+i,none⟩=some u:=(xd al.o (pl*7+i) (by omega)).trans hu
     rw[gw.cell (a:=⟨g2,pl*7+i,none⟩) h0 (by simp),<-hu,ay i hi]
    subst aH
    have aN:x.rules[pl]?=some x.rules[pl]:=qN am
    have aK:=au.o x.rules[pl] (List.getElem_mem am)
    have ag:Y (res=if Rq.meets x.rules[pl].ms hd.headers=true then some x.rules[pl] else Tr.firstRule x.rules hd.headers (so.drop (j+1))):=by
     show _=_;rw[HD.o,Tr.firstRule,aN]
    clear aN HD ay
    generalize x.rules[pl]=r at*
    have d0:wr.cell? ⟨g2,pl*7,none⟩=some (.int .i64 r.number):=af 0 (by omega)
    have d1:wr.cell? ⟨g2,pl*7+1,none⟩=some (.string (R.str r.path)):=af 1 (by omega)
    have d2:wr.cell? ⟨g2,pl*7+2,none⟩=some (.slice ma r.ms.length mk):=af 2 (by omega)
    have d3:wr.cell? ⟨g2,pl*7+3,none⟩=some (.slice ta r.tg.length tk):=af 3 (by omega)
    have d4:wr.cell? ⟨g2,pl*7+4,none⟩=some (.string (R.str r.rep)):=af 4 (by omega)
    have d5:wr.cell? ⟨g2,pl*7+5,none⟩=some (.slice sa r.sets.length sk):=af 5 (by omega)
    have d6:wr.cell? ⟨g2,pl*7+6,none⟩=some (.slice da r.drops.length dk):=af 6 (by omega)
    have aC:Y (PRuleVal w [.int .i64 r.number,.string (R.str r.path),.slice ma r.ms.length mk,.slice ta r.tg.length tk,.string (R.str r.rep),.slice sa r.sets.length sk,.slice da r.drops.length dk] r):=⟨_,_,_,_,rfl,m1,m2,m3,m4⟩
    have GA:=zJ wr (.cells #[.int .i64 r.number,.string (R.str r.path),.slice ma r.ms.length mk,.slice ta r.tg.length tk,.string (R.str r.rep),.slice sa r.sets.length sk,.slice da r.drops.length dk] 213) none
    have ap:=hid (heap_alloc_new wr (.cells #[.int .i64 r.number,.string (R.str r.path),.slice ma r.ms.length mk,.slice ta r.tg.length tk,.string (R.str r.rep),.slice sa r.sets.length sk,.slice da r.drops.length dk] 213))
    have ak:=hid (zA gw GA)
    have aR:wr.cell? ⟨w.heap.size,0,none⟩=some (.slice (some ⟨g2,0,none⟩) x.rules.length rk):=z8 (zB ah.o HW.o.gr (by simp))
    have aF:=hid (HW.o.keep GA)
    have x2:(wr.alloc (.cells #[.int .i64 r.number,.string (R.str r.path),.slice ma r.ms.length mk,.slice ta r.tg.length tk,.string (R.str r.rep),.slice sa r.sets.length sk,.slice da r.drops.length dk] 213)).cell? ⟨wr.heap.size,2,none⟩=some (.slice ma r.ms.length mk):=z8 ap.o
    have HC:=hid (av.o _ r ma mk ak.o aK (zO m1 ak.o (fun k hk c=>by cases c)))
    clear af gw GA HW m1 m2 m3 m4
    go_upto_region 7 with fail
    generalize wr.alloc (.cells #[.int .i64 r.number,.string (R.str r.path),.slice ma r.ms.length mk,.slice ta r.tg.length tk,.string (R.str r.rep),.slice sa r.sets.length sk,.slice da r.drops.length dk] 213)=wx at*
    generalize wr.heap.size=bx at*
    clear d0 d1 d2 d3 d4 d5 d6 aR c0
    go_wp2_with fail
    refine HC.o.mono ?_
    rintro e w4 ⟨rfl,g4⟩
    have ae:=hid (zB ap.o g4 (by simp))
    have ax:=hid (aF.o.keep g4)
    have ar:=hid (zA ak.o g4)
    have aa:=hid (zB aj.o (ax.o.gr) (by simp))
    clear HC g4 x2 aF ak ap
    cases hmt:Rq.meets r.ms hd.headers
    ·rw[hmt] at ag
     have ai:Y (res=Tr.firstRule x.rules hd.headers (so.drop (j+1))):=ag.o
     clear hmt ag ae aa
     go_wp2_with fail
     go_roundw
     case rel=>exact⟨j+1,by omega,by go_num,ax,ai⟩
     case measure=>simp[intOf];omega
    ·rw[hmt] at ag
     have ai:Y (res=some r):=ag.o
     have x0:w4.cell? ⟨bx,0,none⟩=some (.int .i64 r.number):=z8 ae.o
     have x1:w4.cell? ⟨bx,1,none⟩=some (.string (R.str r.path)):=z8 ae.o
     have x2:w4.cell? ⟨bx,2,none⟩=some (.slice ma r.ms.length mk):=z8 ae.o
     have x3:w4.cell? ⟨bx,3,none⟩=some (.slice ta r.tg.length tk):=z8 ae.o
     have x4:w4.cell? ⟨bx,4,none⟩=some (.string (R.str r.rep)):=z8 ae.o
     have x5:w4.cell? ⟨bx,5,none⟩=some (.slice sa r.sets.length sk):=z8 ae.o
     have x6:w4.cell? ⟨bx,6,none⟩=some (.slice da r.drops.length dk):=z8 ae.o
     have q0:w4.cell? ⟨w.heap.size+1,0,none⟩=some (.int .i64 0):=z8 aa.o
     have q1:w4.cell? ⟨w.heap.size+1,1,none⟩=some (.string ⟨#[]⟩):=z8 aa.o
     have q2:w4.cell? ⟨w.heap.size+1,2,none⟩=some (.slice none 0 0):=z8 aa.o
     have q3:w4.cell? ⟨w.heap.size+1,3,none⟩=some (.slice none 0 0):=z8 aa.o
     have q4:w4.cell? ⟨w.heap.size+1,4,none⟩=some (.string ⟨#[]⟩):=z8 aa.o
     have q5:w4.cell? ⟨w.heap.size+1,5,none⟩=some (.slice none 0 0):=z8 aa.o
     have q6:w4.cell? ⟨w.heap.size+1,6,none⟩=some (.slice none 0 0):=z8 aa.o
     have f0:=zrB 0 aa.o
     have f1:=zrB 1 aa.o
     have f2:=zrB 2 aa.o
     have f3:=zrB 3 aa.o
     have f4:=zrB 4 aa.o
     have f5:=zrB 5 aa.o
     have f6:=zrB 6 aa.o
     have aq:Y (w.grownBy (((((((w4.setCell ⟨w.heap.size+1,0,none⟩ (.int .i64 r.number)).setCell ⟨w.heap.size+1,1,none⟩ (.string (R.str r.path))).setCell ⟨w.heap.size+1,2,none⟩ (.slice ma r.ms.length mk)).setCell ⟨w.heap.size+1,3,none⟩ (.slice ta r.tg.length tk)).setCell ⟨w.heap.size+1,4,none⟩ (.string (R.str r.rep))).setCell ⟨w.heap.size+1,5,none⟩ (.slice sa r.sets.length sk)).setCell ⟨w.heap.size+1,6,none⟩ (.slice da r.drops.length dk)) none):=vJ ar.o (by omega)
     have aO:Y (PRuleVal (((((((w4.setCell ⟨w.heap.size+1,0,none⟩ (.int .i64 r.number)).setCell ⟨w.heap.size+1,1,none⟩ (.string (R.str r.path))).setCell ⟨w.heap.size+1,2,none⟩ (.slice ma r.ms.length mk)).setCell ⟨w.heap.size+1,3,none⟩ (.slice ta r.tg.length tk)).setCell ⟨w.heap.size+1,4,none⟩ (.string (R.str r.rep))).setCell ⟨w.heap.size+1,5,none⟩ (.slice sa r.sets.length sk)).setCell ⟨w.heap.size+1,6,none⟩ (.slice da r.drops.length dk)) [.int .i64 r.number,.string (R.str r.path),.slice ma r.ms.length mk,.slice ta r.tg.length tk,.string (R.str r.rep),.slice sa r.sets.length sk,.slice da r.drops.length dk] r):=(aC.o.grown ar.o).set7 aa.o
     have ab:Y ((((((((w4.setCell ⟨w.heap.size+1,0,none⟩ (.int .i64 r.number)).setCell ⟨w.heap.size+1,1,none⟩ (.string (R.str r.path))).setCell ⟨w.heap.size+1,2,none⟩ (.slice ma r.ms.length mk)).setCell ⟨w.heap.size+1,3,none⟩ (.slice ta r.tg.length tk)).setCell ⟨w.heap.size+1,4,none⟩ (.string (R.str r.rep))).setCell ⟨w.heap.size+1,5,none⟩ (.slice sa r.sets.length sk)).setCell ⟨w.heap.size+1,6,none⟩ (.slice da r.drops.length dk)).heap[w.heap.size+1]?=some (.cells #[.int .i64 r.number,.string (R.str r.path),.slice ma r.ms.length mk,.slice ta r.tg.length tk,.string (R.str r.rep),.slice sa r.sets.length sk,.slice da r.drops.length dk] 213 (0,0))):=vO aa.o
     have z0:=zr4 ab.o
     have z1:=zr5 ab.o
     have z2:=zr6 ab.o
     have z3:=zr7 ab.o
     have z4:=zr8 ab.o
     have z5:=zr9 ab.o
     have z6:=zrA ab.o
     have aP:=hid (And.intro z0 (And.intro z1 (And.intro z2 (And.intro z3 (And.intro z4 (And.intro z5 z6))))))
     clear hmt ag ae aa ar ax aC ao al aw au av ah aj GB ab z0 z1 z2 z3 z4 z5 z6 aK am aW aU aT aY az aV an aJ aX hn HL
     generalize w.heap.size+1=rb at*
     go_wp2
     obtain⟨z0,z1,z2,z3,z4,z5,z6⟩:=aP.o
     (try simp only[Exit.inBlock,Exit.then])
     refine bodyPost_ret (v:=.tuple #[.agg #[.int .i64 r.number,.string (R.str r.path),.slice ma r.ms.length mk,.slice ta r.tg.length tk,.string (R.str r.rep),.slice sa r.sets.length sk,.slice da r.drops.length dk],.bool true]) (by simp[results,Tryz.results181,go_sem,z0,z1,z2,z3,z4,z5,z6]) rfl ?_
     exact⟨aq.o,Or.inr ⟨r,_,ai.o,aO.o,rfl⟩⟩
   ·have hE:j=rn.length:=by omega
    subst hE
    have ai:Y (res=none):=by
     show _=_;rw[HD.o,List.drop_eq_nil_of_le (by rw[HL.o];exact zZ _)];rfl
    have ad:=hid (zB aj.o HW.o.gr (by simp))
    have q0:wr.cell? ⟨w.heap.size+1,0,none⟩=some (.int .i64 0):=z8 ad.o
    have q1:wr.cell? ⟨w.heap.size+1,1,none⟩=some (.string ⟨#[]⟩):=z8 ad.o
    have q2:wr.cell? ⟨w.heap.size+1,2,none⟩=some (.slice none 0 0):=z8 ad.o
    have q3:wr.cell? ⟨w.heap.size+1,3,none⟩=some (.slice none 0 0):=z8 ad.o
    have q4:wr.cell? ⟨w.heap.size+1,4,none⟩=some (.string ⟨#[]⟩):=z8 ad.o
    have q5:wr.cell? ⟨w.heap.size+1,5,none⟩=some (.slice none 0 0):=z8 ad.o
    have q6:wr.cell? ⟨w.heap.size+1,6,none⟩=some (.slice none 0 0):=z8 ad.o
    have f0:=zrB 0 ad.o
    have f1:=zrB 1 ad.o
    have f2:=zrB 2 ad.o
    have f3:=zrB 3 ad.o
    have f4:=zrB 4 ad.o
    have f5:=zrB 5 ad.o
    have f6:=zrB 6 ad.o
    have aq:Y (w.grownBy (((((((wr.setCell ⟨w.heap.size+1,0,none⟩ (.int .i64 0)).setCell ⟨w.heap.size+1,1,none⟩ (.string ⟨#[]⟩)).setCell ⟨w.heap.size+1,2,none⟩ (.slice none 0 0)).setCell ⟨w.heap.size+1,3,none⟩ (.slice none 0 0)).setCell ⟨w.heap.size+1,4,none⟩ (.string ⟨#[]⟩)).setCell ⟨w.heap.size+1,5,none⟩ (.slice none 0 0)).setCell ⟨w.heap.size+1,6,none⟩ (.slice none 0 0)) none):=vJ (zA GB.o HW.o.gr) (by omega)
    have ab:Y ((((((((wr.setCell ⟨w.heap.size+1,0,none⟩ (.int .i64 0)).setCell ⟨w.heap.size+1,1,none⟩ (.string ⟨#[]⟩)).setCell ⟨w.heap.size+1,2,none⟩ (.slice none 0 0)).setCell ⟨w.heap.size+1,3,none⟩ (.slice none 0 0)).setCell ⟨w.heap.size+1,4,none⟩ (.string ⟨#[]⟩)).setCell ⟨w.heap.size+1,5,none⟩ (.slice none 0 0)).setCell ⟨w.heap.size+1,6,none⟩ (.slice none 0 0)).heap[w.heap.size+1]?=some (.cells #[.int .i64 0,.string ⟨#[]⟩,.slice none 0 0,.slice none 0 0,.string ⟨#[]⟩,.slice none 0 0,.slice none 0 0] 213 (0,0))):=vO ad.o
    have z0:=zr4 ab.o
    have z1:=zr5 ab.o
    have z2:=zr6 ab.o
    have z3:=zr7 ab.o
    have z4:=zr8 ab.o
    have z5:=zr9 ab.o
    have z6:=zrA ab.o
    clear ao al aw au av ah aj GB HW HD ad ab
    go_wp2
    (try simp only[Exit.inBlock,Exit.then])
    refine bodyPost_ret (v:=.tuple #[.agg #[.int .i64 0,.string ⟨#[]⟩,.slice none 0 0,.slice none 0 0,.string ⟨#[]⟩,.slice none 0 0,.slice none 0 0],.bool false]) (by simp[results,Tryz.results181,go_sem,z0,z1,z2,z3,z4,z5,z6]) rfl ?_
    exact⟨aq.o,Or.inl ⟨ai.o,rfl⟩⟩
end Go.Proofs.YtfocdefchbnkpaaGreatDoor
