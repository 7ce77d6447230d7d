/- What the keeper's own functions do: a yard with a policy, bytes that are sent to it. -/
import Derived.Test.YtfocdefchbnkpaaGreatDoorAli
import Derived.Test.YtfocdefchbnkpaaGreatDoorYpD
import Derived.Test.YtfocdefchbnkpaaGreatDoorPkG
set_option maxRecDepth 100000
set_option maxHeartbeats 20000000
namespace Go.Proofs.YtfocdefchbnkpaaGreatDoor
open Go.RowKit
structure G3 (w:World):Prop where
 glob:Glob w
 ge:GE w
 gt:GT w
theorem ziV {w:World}{a:Addr}{v:Value}(h:w.cell? a=some v):a.block<w.heap.size:=by
 rcases Nat.lt_or_ge a.block w.heap.size with q | q
 ·exact q
 ·simp[World.cell?,Array.getElem?_eq_none q] at h
theorem G3.grown {w w':World}(h:G3 w)(g:w.grownBy w' none):G3 w':=⟨h.glob.keep g (by simp),h.ge.grown g,h.gt.grown g⟩
theorem G3.low {w:World}(h:G3 w):0<w.heap.size/\Tryz.laysC172_ren.g 15<w.heap.size/\GTB w.heap.size:=by
 obtain⟨m,h1⟩:=h.glob
 obtain⟨ev,h2,_⟩:=h.ge
 exact⟨ziV h1,ziV h2,h.gt.bound⟩
structure KY (w0 w:World) (yb:Nat) (tv:Value) (ps:List (Option Nat)) (y:Yd):Prop where
 inv:YInv w yb w0.heap.size tv ps y
 gr:w0.grownBy w none
 own:tv.ownBlock=none
 ok:YOk y
theorem KY.move {w0 w w':World}{yb:Nat}{tv tv':Value}{ps ps':List (Option Nat)}{y y':Yd}(h:KY w0 w yb tv ps y)(m:YMv w w' yb ps ps')(i:YInv w' yb w0.heap.size tv' ps' y')(o:tv'.ownBlock=none)(k:YOk y'):KY w0 w' yb tv' ps' y':=
 ⟨i,⟨m.turn.os.trans h.gr.os,m.turn.tape.trans h.gr.tape,m.turn.output.trans h.gr.output,zp h.gr.size m.turn.size,fun j hj _=>(m.keep h.inv h.own hj (yU hj h.gr.size)).trans (h.gr.block j hj (by simp))⟩,o,k⟩
theorem KY.grown {w0 w w':World}{yb:Nat}{tv:Value}{ps:List (Option Nat)}{y:Yd}(h:KY w0 w yb tv ps y)(g:w.grownBy w' none):KY w0 w' yb tv ps y/\YMv w w' yb ps ps:=by
 obtain⟨h1,h2⟩:=h.inv.grown h.own g
 exact⟨h.move h2 h1 h.own h.ok,h2⟩
structure Held (w:World) (yb:Nat) (ps:List (Option Nat)) (v:Value) (l:List Ev):Prop where
 row:w.ownsRow 0 44 3 v l.length (evCells l)
 apart:∀k,v.ownBlock=some k->¬YF w yb ps k
theorem Held.moved {w w':World}{yb:Nat}{ps ps':List (Option Nat)}{v:Value}{l:List Ev}(h:Held w yb ps v l)(m:YMv w w' yb ps ps'):Held w' yb ps' v l:=by
 have aa:∀k,v.ownBlock=some k->k<w.heap.size:=fun k hk=>(qh h.row k hk).2
 exact⟨xA h.row (fun k hk=>m.turn.block k (aa k hk) (h.apart k hk)),fun k hk hF=>by
  rcases m.foot k hF with q | q
  ·exact h.apart k hk q
  ·have:=aa k hk;omega⟩
theorem YOk.opened {y:Yd}(h:YOk y):YOk y.opened:=fun m c hm=>by
 have e:y.opened.conns=y.conns++[some (.hd Rq.zero)]:=rfl
 rw[e] at hm
 by_cases aa:m<y.conns.length
 ·rw[List.getElem?_append_left aa] at hm;exact h m c hm
 ·rw[List.getElem?_append_right (by omega)] at hm
  have h9:=(List.getElem?_eq_some_iff.1 hm).1
  have e2:m - y.conns.length=0:=by simpa using h9
  rw[e2] at hm
  simp at hm
  subst hm
  exact HOk.zero
theorem zhQ (hs:List P.Hst):0<(qE hs).length:=by
 unfold qE qo
 simp
theorem zkX {w:World}(G:G3 w){t:List UInt8}{hs:List P.Hst}(ht:t.length<=1000000)(he:xm t=(0,0))(hp:xG t=qE hs)(hV:VHs hs)(hF:Fits hs)(hl:(qE hs).length<=1000000) :
  Calls Tryz.prog 20 #[.string (R.str t)] w fun e w'=>∃yb tv cb,e = .returned (.pointer (some ⟨yb,0,none⟩))/\KY w w' yb tv [some cb] Yd.new.opened/\TabAt w' tv hs:=by
 have HN:=hid (zpE w)
 have ae:Y (∀W,w.grownBy W none->Calls Tryz.prog 18 #[.string (R.str t)] W fun e w'=>∃a k,e = .returned (.tuple #[.slice a (qE hs).length k,.int .i64 0,.int .i64 0])/\Y (w'.ownsRow W.heap.size 5 1 (.slice a (qE hs).length k) (qE hs).length (Lib.byteCells (qE hs)))/\Y (W.grownBy w' none)):=fun W hW=>by
  have h1:=fk (R.str t) W (by rw[R.str_size];unfold maxLen;omega) (G.glob.keep hW (by simp))
  rw[R.str_toList,he,hp] at h1
  exact h1
 have af:Y (∀W yb B a k,YInv W yb B (.pointer none) [] Yd.new->w.grownBy W none->W.ownsRow B 5 1 (.slice a (qE hs).length k) (qE hs).length (Lib.byteCells (qE hs))->Calls Tryz.prog 22 #[.pointer (some ⟨yb,0,none⟩),.slice a (qE hs).length k] W fun e w'=>e = .returned (.int .i64 0)/\∃tv',Y (TabAt w' tv' hs)/\Y (YInv w' yb B tv' [] Yd.new)/\Y (YMv W w' yb [] [])):=fun W yb B a k hI hW hr=>
  znD hI rfl (RdO.of_row hr) (fun g o n c e=>by have:=(qh hr g (by rw[e];rfl)).2;exact this) (by omega) (G.glob.keep hW (by simp)) (G.gt.grown hW) hV hF
 have al:(0:Int)<(qE hs).length:=by have:=zhQ hs;omega
 have am:¬((qE hs).length:Int)=0:=by omega
 clear he hp hV hF ht hl
 generalize qE hs=pk at*
 go_enter Tryz.func20,Tryz.ntmps20
 go_wp2_with fail
 refine HN.o.mono ?_
 rintro e w1 ⟨yb,rfl,ak,i1,g1,_⟩
 have I1:=hid i1
 have G1:=hid g1
 have HC:=hid (ae.o w1 g1)
 clear HN ae i1 g1 ak
 go_wp2_with fail
 refine HC.o.mono ?_
 rintro e w2 ⟨a,k,rfl,R2,g2⟩
 obtain⟨I2,M2⟩:=I1.o.grown rfl g2.o
 have G2:=hid (zA G1.o g2.o)
 have aa:=hid (af.o w2 yb w.heap.size a k I2 G2.o (qK R2.o G1.o.size))
 have ai:=hid M2
 have ab:=hid I2
 clear HC af I1 I2 M2 R2 g2
 go_wp2_with fail
 refine aa.o.mono ?_
 rintro e w3 ⟨rfl,tv,T3,I3,M3⟩
 have ag:KY w w2 yb (.pointer none) [] Yd.new:=⟨ab.o,G2.o,rfl,YOk.new⟩
 have ad:=hid (ag.move M3.o I3.o T3.o.own YOk.new)
 have HO:=hid (znB I3.o T3.o.own (by decide) (zp G2.o.size M3.o.turn.size))
 clear aa ag ab ai G2
 go_wp2_with fail
 refine HO.o.mono ?_
 rintro e w4 ⟨rfl,i4,m4⟩
 have ah:=hid (ad.o.move m4 i4 T3.o.own YOk.new.opened)
 have aj:=hid (T3.o.moved m4 I3.o T3.o.own)
 clear HO i4 m4 ad T3 I3 M3
 go_wp2
 go_ret
 exact⟨yb,tv,_,rfl,ah.o,aj.o⟩
theorem ze5 {w:World}{yb B:Nat}{tv:Value}{ps:List (Option Nat)}{y:Yd}(h:YInv w yb B tv ps y)(ht:tv.ownBlock=none)(l:List UInt8):YInv (Lib.bytesWorld w 5 (R.str l)) yb B tv ps y/\YMv w (Lib.bytesWorld w 5 (R.str l)) yb ps ps/\RdO (Lib.bytesWorld w 5 (R.str l)) (.slice (some ⟨w.heap.size,0,none⟩) l.length (grownCap w l.length 0 5)) l/\Apart (Lib.bytesWorld w 5 (R.str l)) yb ps (.slice (some ⟨w.heap.size,0,none⟩) l.length (grownCap w l.length 0 5)):=by
 obtain⟨h1,h2⟩:=h.grown ht (xk w 5 (R.str l))
 have hg:=GRow.bytes w l
 have hb:=Lib.bytesWorld_at_new w 5 (R.str l)
 refine⟨h1,h2,Or.inr ⟨w.heap.size,0,_,rfl,grownCap_ge w l.length 0 _,zE hb,fun j u hu=>?_⟩,fun k hk hF=>?_⟩
 ·rw[Nat.zero_add]
  exact(BytesAt.new w (R.str l)).cell (by rw[R.str_toList];exact hu)
 ·have e:k=w.heap.size:=(qk hk).symm
  subst e
  have aa:∀j,YF w yb ps j->j<w.heap.size:=fun j q=>h.lt ht q
  have ab:∀j,YF w yb ps j->(Lib.bytesWorld w 5 (R.str l)).heap[j]?=w.heap[j]?:=fun j q=>(xk w 5 (R.str l)).block j (aa j q) (by simp)
  have:=(h.keep (xk w 5 (R.str l)).size ab).2 _ hF
  have:=aa _ this
  omega
theorem YOk.told {y:Yd}(h:YOk y):YOk y.told:=h
theorem zkW {w0 w:World}(G:G3 w0){yb:Nat}{tv:Value}{ps:List (Option Nat)}{y:Yd}{hs:List P.Hst}(h:KY w0 w yb tv ps y)(hT:TabAt w tv hs)(hF:Fits hs)(hO:HsOk hs)(l:List UInt8)(ho:y.isOpen 1=true)(af:l.length<=1000000)(ag:y.sent.length<=10000000)(ae:y.draws.length<=1000000000)(hl:ps.length<=1000000) :
  Calls Tryz.prog 23 #[.pointer (some ⟨yb,0,none⟩),.string (R.str l)] w fun e w'=>∃a k ps',e = .returned (.slice a (y.fedP hs 0 l).sent.length k)/\KY w0 w' yb tv ps' (y.fedP hs 0 l).told/\TabAt w' tv hs/\YMv w w' yb ps ps'/\Held w' yb ps' (.slice a (y.fedP hs 0 l).sent.length k) (y.fedP hs 0 l).sent/\ps'.length=ps.length:=by
 have ah:∀w,(convert 9 32 (.string (R.str l))).run Tryz.prog w = .ok (.slice (some ⟨w.heap.size,0,none⟩) l.length (grownCap w l.length 0 5)) (Lib.bytesWorld w 5 (R.str l)):=fun w=>by
  have:=Lib.run_convert_string_bytes (P:=Tryz.prog) (u:=.string) w 9 32 5 (R.str l) (by kernel_rfl) (by kernel_rfl) (by kernel_rfl)
  rw[R.str_size] at this;exact this
 have ad:Y (Calls Tryz.prog 26 #[.pointer (some ⟨yb,0,none⟩),.int .i64 1,(.slice (some ⟨w.heap.size,0,none⟩) l.length (grownCap w l.length 0 5))] (Lib.bytesWorld w 5 (R.str l)) fun e w'=>e = .returned (.int .i64 0)/\∃ps',FdP (Lib.bytesWorld w 5 (R.str l)) w' yb w0.heap.size 0 tv hs ps ps' y (y.fedP hs 0 l) l.length):=by
  obtain⟨i1,m1,r1,a1⟩:=ze5 h.inv h.own l
  have g1:=xk w 5 (R.str l)
  have g:=zA h.gr g1
  exact zkD (m:=0) i1 (hT.grown g1) hF hO h.ok ho r1 a1 af ag ae hl g.size (G.grown g).glob (G.grown g).ge (G.grown g).gt G.low
 have aa:=hid (h.grown (xk w 5 (R.str l)))
 have ab:Y (∀W ps',FdP (Lib.bytesWorld w 5 (R.str l)) W yb w0.heap.size 0 tv hs ps ps' y (y.fedP hs 0 l) l.length->Calls Tryz.prog 28 #[.pointer (some ⟨yb,0,none⟩)] W fun e w'=>∃a k,e = .returned (.slice a (y.fedP hs 0 l).sent.length k)/\Y (KY w0 w' yb tv ps' (y.fedP hs 0 l).told)/\Y (TabAt w' tv hs)/\Y (YMv w w' yb ps ps')/\Y (Held w' yb ps' (.slice a (y.fedP hs 0 l).sent.length k) (y.fedP hs 0 l).sent)/\Y (ps'.length=ps.length)):=fun W ps' hf=>by
  refine(zhU hf.inv hT.own).mono ?_
  rintro e w' ⟨v,rfl,q1,q2,q3,q4⟩
  obtain⟨a,k,rfl⟩:=zP q3
  have k1:=aa.o.1.move hf.mv hf.inv hT.own hf.ok
  exact⟨a,k,rfl,k1.move q2 q1 hT.own hf.ok.told,hf.tab.moved q2 hf.inv hT.own,(aa.o.2.trans hf.mv).trans q2,⟨qK q3 (zl _),q4⟩,hf.len⟩
 clear h hT hF hO ho af ag ae hl
 generalize y.fedP hs 0 l=y1 at*
 go_enter Tryz.func23,Tryz.ntmps23
 go_wp2_with fail
 refine ad.o.mono ?_
 rintro e w1 ⟨rfl,ps',hf⟩
 have HC:=hid (ab.o w1 ps' hf)
 clear ad ab hf ah aa
 go_wp2_with fail
 refine HC.o.mono ?_
 rintro e w2 ⟨a,k,rfl,K2,T2,M2,H2,L2⟩
 clear HC
 go_wp2
 go_ret
 exact⟨a,k,ps',rfl,K2.o,T2.o,M2.o,H2.o,L2.o⟩
theorem zlY (a b:List UInt8):(!Go.Sort.ltStr b a || !Go.Sort.ltStr a b)=true:=by
 cases h:Go.Sort.ltStr b a with
 | false=>rfl
 | true=>rw[Go.Sort.SWO.asymmA Go.Sort.swo_ltStr h];rfl
theorem zd3 (a b c:List UInt8)(h1:(!Go.Sort.ltStr b a)=true)(h2:(!Go.Sort.ltStr c b)=true):(!Go.Sort.ltStr c a)=true:=by
 simp only[Bool.not_eq_true'] at h1 h2 ⊢
 cases h:Go.Sort.ltStr c a with
 | false=>rfl
 | true=>
  cases h3:Go.Sort.ltStr a b with
  | true=>rw[Go.Sort.swo_ltStr.trans _ _ _ h h3] at h2;cases h2
  | false=>
   have e:=wj a b h3 h1
   subst e
   rw[h] at h2;cases h2
theorem zo2 (hs:List P.Hst):∃hs',SrtH hs hs':=by
 refine⟨(hs.mergeSort fun x y=>!Go.Sort.ltStr y.name x.name).map fun h=>⟨h.name,h.rules.mergeSort fun x y=>!Go.Sort.ltInt y.number x.number⟩,hs.mergeSort fun x y=>!Go.Sort.ltStr y.name x.name,List.mergeSort_perm _ _,?_,by rw[qw],fun j h1 h2=>?_⟩
 ·have:=List.pairwise_mergeSort (le:=fun x y:P.Hst=>!Go.Sort.ltStr y.name x.name) (fun a b c=>zd3 a.name b.name c.name) (fun a b=>zlY a.name b.name) hs
  exact this.imp fun h=>by simpa using h
 ·rw[List.getElem_map]
  refine⟨rfl,List.mergeSort_perm _ _,?_⟩
  have:=List.pairwise_mergeSort (le:=fun x y:P.Rl=>!Go.Sort.ltInt y.number x.number) (fun a b c h1 h2=>by simp[Go.Sort.ltInt] at h1 h2 ⊢;omega) (fun a b=>by simp[Go.Sort.ltInt];omega) (hs.mergeSort fun x y=>!Go.Sort.ltStr y.name x.name)[j].rules
  exact this.imp fun h=>by simpa using h
theorem uV {l:List UInt8}(h:(xm l).1=0):∃hs,VHs hs/\xG l=qE hs/\xu l=R.plain (hs.map toR)/\l.length<=3000:=by
 have h':(qd l).1=0:=by rw[yw];exact h
 obtain⟨h1,h2,h3⟩:=uo h'
 obtain⟨hs,hq⟩:=zo2 (ze l).1
 obtain⟨a1,a2,a3⟩:=uu l h2 h3
 exact⟨hs,uI hq a1 a2 a3,(zc7 h' hq).1,(ff h' hq).1,h1⟩
theorem zkA {l:List UInt8}(h:(xm l).1=0):VHs (xr (xG l))/\xG l=qE (xr (xG l))/\xu l=R.plain ((xr (xG l)).map toR):=by
 obtain⟨hs,h1,h2,h3,_⟩:=uV h
 have e:=v8 hs h1
 rw[<-h2] at e
 rw[e]
 exact⟨h1,h2,h3⟩
theorem VRl.ok {r:P.Rl}(h:VRl r):RlOk r where
 ms:=by have:=h.ml;omega
 tg:=⟨by have:=h.tl;omega,fun t ht=>⟨by have:=(h.tg t ht).lo;omega,by have:=(h.tg t ht).hi;omega⟩⟩
 pos:=by
  have h0:=h.t0
  have ht:=h.tg
  cases e:r.tg with
  | nil=>exact absurd e h0
  | cons a t=>
   have:=(ht a (by rw[e];exact List.mem_cons_self)).lo
   unfold Tr.sum
   rw[xi,List.sum_cons]
   omega
 rep:=by rcases h.rep with e | e;rw[e];simp;omega
 dl:=by have:=h.dl;omega
 sl:=by have:=h.sl;omega
 st:=fun t ht=>⟨by have:=(h.sets t ht).nl;omega,by have:=(h.sets t ht).vl;omega,fun e=>by have:=(h.sets t ht).name;rw[e] at this;revert this;decide +kernel⟩
theorem VHs.ok {hs:List P.Hst}(h:VHs hs):HsOk hs:=fun x hx r hr=>((h.hosts x hx).rules r hr).ok
theorem fb {hs:List P.Hst}(h:VHs hs):(qE hs).length<=40000:=by
 have h1:=yK zx 8000 hs (fun x hx=>ziZ ⟨(h.hosts x hx).nl,(h.hosts x hx).rl,(h.hosts x hx).rules⟩)
 have h2:=h.hl
 unfold qE qo yW
 simp only[zW,zm,qi]
 omega
def fitB (h:P.Hst):Bool:=decide (h.name.length<=1000) && (decide (h.rules.length<=1000) && (h.rules.all (fun r=>decide (r.path.length<=50)) && (decide ((Tr.flat (h.rules.map (·.path))).length<=10000000) && (Tr.fwd (Tr.prog (h.rules.map (·.path))) && (Tr.prog (h.rules.map (·.path))).all (fun x=>decide (x.kind≠0) || decide (x.rule<h.rules.length))))))
theorem zqB {h:P.Hst}(e:fitB h=true):Fit h:=by
 unfold fitB at e
 simp only[Bool.and_eq_true,decide_eq_true_eq] at e
 obtain⟨e1,e2,e3,e4,e5,e6⟩:=e
 exact⟨e1,e2,fun r hr=>by have:=List.all_eq_true.1 e3 r hr;exact of_decide_eq_true this,e4,e5,e6⟩
def fitsB (hs:List P.Hst):Bool:=decide (hs.length<=1000) && (decide ((hs.map fun h=>Tr.key h.name).Pairwise (·≠·)) && hs.all fitB)
theorem zoX {hs:List P.Hst}(e:fitsB hs=true):Fits hs:=by
 unfold fitsB at e
 simp only[Bool.and_eq_true,decide_eq_true_eq] at e
 exact⟨e.1,e.2.1,fun h hh=>zqB (List.all_eq_true.1 e.2.2 h hh)⟩
def Kp.t0:List UInt8:=[104,111,115,116,32,34,65,46,98,34,123,114,117,108,101,32,55,123,112,97,116,104,34,47,120,34,59,116,111,34,117,34,49,44,34,118,34,50,59,114,101,112,108,97,99,101,34,47,34,59,125,114,117,108,101,32,57,123,112,97,116,104,34,47,34,59,116,111,34,117,34,49,44,34,118,34,48,59,125,125]
def Kp.t1:List UInt8:=[104,111,115,116,32,34,97,46,98,34,32,123,10,32,32,114,117,108,101,32,55,32,123,10,32,32,32,32,112,97,116,104,32,34,47,120,34,59,10,32,32,32,32,116,111,32,34,117,34,32,49,44,32,34,118,34,32,50,59,10,32,32,32,32,114,101,112,108,97,99,101,32,34,47,34,59,10,32,32,125,10,32,32,114,117,108,101,32,57,32,123,10,32,32,32,32,112,97,116,104,32,34,47,34,59,10,32,32,32,32,116,111,32,34,117,34,32,49,59,10,32,32,125,10,125,10]
def Kp.rq:List UInt8:=[71,69,84,32,47,120,121,32,72,84,84,80,47,49,46,49,13,10,72,111,115,116,58,32,97,46,66,13,10,13,10,71,69,84,32,47,121,32,72,84,84,80,47,49,46,49,13,10,104,111,115,116,58,97,46,98,13,10,13,10]
def Kp.d:List UInt8:=[71,69,84,32,47,121,32,72,84,84,80,47,49,46,49,13,10,104,111,115,116,58,32,97,46,98,13,10,13,10]
def Kp.hs:List P.Hst:=[⟨[97,46,98],[⟨7,[47,120],[],[([117],1),([118],2)],[47],[],[]⟩,⟨9,[47],[],[([117],1)],[],[],[]⟩]⟩]
theorem zpA:xm Kp.t0=(0,0):=by decide +kernel
theorem zmO:xu Kp.t0=Kp.t1:=by decide +kernel
theorem zj0:xm Kp.t1=(0,0):=by decide +kernel
theorem zpB:xG Kp.t1=qE Kp.hs:=by decide +kernel
def Kp.ev:List Ev:=[⟨1,[118],Kp.d⟩,⟨1,[117],Kp.d⟩]
theorem zmN:((Yd.new.opened.draw 4).fedP Kp.hs 0 Kp.rq).sent=Kp.ev:=by kernel_rfl
theorem zpR (l:List UInt8):(R.str l).toList=l:=by rw[ByteArray.toList_eq,R.str_toList]
theorem zqE:xr (xG Kp.t1)=Kp.hs:=by kernel_rfl
theorem fX:VHs Kp.hs:=by have:=(zkA (l:=Kp.t1) (by rw[zj0])).1;rw[zqE] at this;exact this
theorem zj1:Fits Kp.hs:=zoX (by decide +kernel)
theorem zkV {w:World}(G:G3 w):Calls Tryz.prog 16 #[] w fun e w'=>e = .returned (.bool true)/\w.grownBy w' none:=by
 have aa:Y (Calls Tryz.prog 17 #[.string (R.str Kp.t0)] w fun e w'=>e = .returned (.tuple #[.string (R.str Kp.t1),.int .i64 0,.int .i64 0])/\w.grownBy w' none):=by
  have h1:=uG (R.str Kp.t0) w (by rw[R.str_size];decide) G.glob G.gt
  rw[R.str_toList,zpA,zmO] at h1
  exact h1
 have ab:Y (∀W,w.grownBy W none->Calls Tryz.prog 20 #[.string (R.str Kp.t1)] W fun e w'=>∃yb tv cb,e = .returned (.pointer (some ⟨yb,0,none⟩))/\KY W w' yb tv [some cb] Yd.new.opened/\TabAt w' tv Kp.hs):=fun W hW=>
  zkX (G.grown hW) (by decide) zj0 zpB fX zj1 (by have:=fb fX;omega)
 have q1:((R.str Kp.t1).toList == [104,111,115,116,32,34,97,46,98,34,32,123,10,32,32,114,117,108,101,32,55,32,123,10,32,32,32,32,112,97,116,104,32,34,47,120,34,59,10,32,32,32,32,116,111,32,34,117,34,32,49,44,32,34,118,34,32,50,59,10,32,32,32,32,114,101,112,108,97,99,101,32,34,47,34,59,10,32,32,125,10,32,32,114,117,108,101,32,57,32,123,10,32,32,32,32,112,97,116,104,32,34,47,34,59,10,32,32,32,32,116,111,32,34,117,34,32,49,59,10,32,32,125,10,125,10])=true:=by rw[zpR];decide +kernel
 go_enter Tryz.func16,Tryz.ntmps16
 go_wp2_with fail
 refine aa.o.mono ?_
 rintro e w1 ⟨rfl,g1⟩
 have G1:=hid g1
 have HC:=hid (ab.o w1 g1)
 clear aa ab g1
 go_wp2_with fail
 refine HC.o.mono ?_
 rintro e w2 ⟨yb,tv,cb,rfl,k2,t2⟩
 have ad:=k2.inv.low
 have HD:Y (Calls Tryz.prog 32 #[.pointer (some ⟨yb,0,none⟩),.int .u64 4] w2 fun e w'=>e = .returned (.tuple #[])/\YInv w' yb w1.heap.size tv [some cb] (Yd.new.opened.draw 4)/\YMv w2 w' yb [some cb] [some cb]):=zn8 k2.inv k2.own 4 (by decide) k2.gr.size
 have K2:=hid k2
 have T2:=hid t2
 clear HC k2 t2 q1
 go_wp2_with fail
 refine HD.o.mono ?_
 rintro e w3 ⟨rfl,i3,m3⟩
 have k3:=K2.o.move m3 i3 K2.o.own YOk.new.opened
 have t3:=T2.o.moved m3 K2.o.inv K2.o.own
 have HS:Y (Calls Tryz.prog 23 #[.pointer (some ⟨yb,0,none⟩),.string (R.str Kp.rq)] w3 fun e w'=>∃a k,e = .returned (.slice a 2 k)/\Y (w'.ownsRow 0 44 3 (.slice a 2 k) 2 (evCells Kp.ev))/\Y (w1.grownBy w' none)):=by
  refine(zkW (G.grown G1.o) k3 t3 zj1 fX.ok Kp.rq (by decide) (by decide) (by decide) (by decide) (by show 1<=1000000;decide)).mono ?_
  rintro e w' ⟨a,k,ps',rfl,q1,q2,q3,q4,_⟩
  rw[zmN] at q4
  exact⟨a,k,by rw[zmN];rfl,q4.row,q1.gr⟩
 clear HD k3 t3 i3 m3 K2 T2
 go_wp2_with fail
 refine HS.o.mono ?_
 rintro e w4 ⟨a,k,rfl,R4,G4⟩
 obtain⟨g,gc,e1,_,_⟩:=World.ownsRow.form R4.o (by decide)
 simp only[qc,true_and] at e1
 obtain⟨rfl,rfl⟩:=e1
 have hc:=fun j hj=>xd R4.o j hj
 have c0:w4.cell? ⟨g,0,none⟩=some (.int .i64 1):=(hc 0 (by decide)).trans rfl
 have c1:w4.cell? ⟨g,1,none⟩=some (.string ⟨#[118]⟩):=(hc 1 (by decide)).trans rfl
 have c2:w4.cell? ⟨g,2,none⟩=some (.string ⟨#[71,69,84,32,47,121,32,72,84,84,80,47,49,46,49,13,10,104,111,115,116,58,32,97,46,98,13,10,13,10]⟩):=(hc 2 (by decide)).trans rfl
 have c3:w4.cell? ⟨g,3,none⟩=some (.int .i64 1):=(hc 3 (by decide)).trans rfl
 have c4:w4.cell? ⟨g,4,none⟩=some (.string ⟨#[117]⟩):=(hc 4 (by decide)).trans rfl
 have c5:w4.cell? ⟨g,5,none⟩=some (.string ⟨#[71,69,84,32,47,121,32,72,84,84,80,47,49,46,49,13,10,104,111,115,116,58,32,97,46,98,13,10,13,10]⟩):=(hc 5 (by decide)).trans rfl
 clear HS hc
 go_wp2
 go_ret
 exact⟨rfl,zA G1.o G4.o⟩
def Kp.raw (c:Int):Nat:=if c<0 then (-(c+1)).toNat else c.toNat
def Kp.pick (c:Int)(n:Nat):Nat:=Kp.raw c % n
theorem Kp.pick_lt (c:Int){n:Nat}(h:0<n):Kp.pick c n<n:=Nat.mod_lt _ h
theorem q52q (c:Int)(n:Nat)(w:World)(hc:-9223372036854775808<=c/\c<=9223372036854775807)(hn:0<n/\n<=4611686018427387904) :
  Calls Tryz.prog 21 #[.int .i64 c,.int .i64 n] w fun e w'=>e = .returned (.int .i64 (Kp.pick c n:Nat))/\w'=w:=by
 have ab:¬(n:Int)=0:=by omega
 obtain⟨h1,h2⟩:=hc
 have HE:Y (Kp.pick c n=Kp.raw c % n):=rfl
 have HR:Y (Kp.raw c=if c<0 then (-(c+1)).toNat else c.toNat):=rfl
 generalize Kp.pick c n=res at*
 by_cases aa:c<0
 ·rw[if_pos aa] at HR
  have e1:((Kp.raw c:Nat):Int) = -(c+1):=by rw[HR.o];omega
  generalize Kp.raw c=r at*
  go_enter Tryz.func21,Tryz.ntmps21
  go_wp2
  go_ret
  exact⟨by show Ending.returned (.int .i64 (-(c+1).tmod n))=_;rw[HE.o,<-Int.neg_tmod,<-e1,<-Int.ofNat_tmod],rfl⟩
 ·rw[if_neg aa] at HR
  have e1:((Kp.raw c:Nat):Int)=c:=by rw[HR.o];omega
  generalize Kp.raw c=r at*
  go_enter Tryz.func21,Tryz.ntmps21
  go_wp2
  go_ret
  exact⟨by show Ending.returned (.int .i64 (c % n))=_;rw[HE.o,<-e1,<-Int.natCast_emod],rfl⟩
theorem q65q (l:List UInt8)(k:Nat):(R.str l).extract 0 k=R.str (l.take k):=by
 apply ByteArray.ext
 apply Array.toList_inj.1
 rw[q63q,R.str_toList,R.str_toList]
theorem q64q (l:List UInt8)(k:Nat):(R.str l).extract k (R.str l).size=R.str (l.drop k):=by
 apply ByteArray.ext
 apply Array.toList_inj.1
 rw[fQ,R.str_toList,R.str_toList]
instance:DecidableEq Ev:=fun a b=>decidable_of_iff (a.conn=b.conn/\a.dst=b.dst/\a.data=b.data) ⟨fun⟨h1,h2,h3⟩=>by cases a;cases b;simp at h1 h2 h3;subst h1;subst h2;subst h3;rfl,fun h=>by subst h;exact⟨rfl,rfl,rfl⟩⟩
structure Kb (w:World) (yb:Nat) (ps:List (Option Nat)) (v:Value) (l:List UInt8):Prop where
 rd:RdO w v l
 ap:Apart w yb ps v
 lt:∀k,v.ownBlock=some k->k<w.heap.size
theorem Kb.moved {w w':World}{yb:Nat}{ps ps':List (Option Nat)}{v:Value}{l:List UInt8}(h:Kb w yb ps v l)(m:YMv w w' yb ps ps'):Kb w' yb ps' v l:=
 ⟨h.rd.moved m h.ap,fun k hk hF=>by
  rcases m.foot k hF with q | q
  ·exact h.ap k hk q
  ·have:=h.lt k hk;omega,fun k hk=>yU (h.lt k hk) m.turn.size⟩
theorem Kb.fresh {w0 w w':World}{yb:Nat}{tv:Value}{ps:List (Option Nat)}{y:Yd}{v:Value}{l:List UInt8}(h:KY w0 w yb tv ps y)(g:w.grownBy w' none)(hr:w'.ownsRow w.heap.size 5 1 v l.length (Lib.byteCells l)):Kb w' yb ps v l:=
 ⟨RdO.of_row hr,fun k hk hF=>by
  rcases(h.grown g).2.foot k hF with q | q
  ·have:=h.inv.lt h.own q
   have:=(qh hr k hk).1
   omega
  ·have h1:=(h.inv.keep g.size (fun k hF=>g.block k (h.inv.lt h.own hF) (by simp))).2 k hF
   have:=h.inv.lt h.own h1
   omega,fun k hk=>(qh hr k hk).2⟩
theorem KY.push {w0 w:World}(G:G3 w0){yb:Nat}{tv v:Value}{ps:List (Option Nat)}{y:Yd}{hs:List P.Hst}(h:KY w0 w yb tv ps y)(hb:Kb w yb ps v (qE hs))(hV:VHs hs)(hF:Fits hs) :
  Calls Tryz.prog 22 #[.pointer (some ⟨yb,0,none⟩),v] w fun e w'=>e = .returned (.int .i64 0)/\∃tv',KY w0 w' yb tv' ps y/\TabAt w' tv' hs/\YMv w w' yb ps ps:=by
 have G':=G.grown h.gr
 refine(znD h.inv h.own hb.rd (fun g o n c e=>hb.lt g (by rw[e];rfl)) (by have:=fb hV;omega) G'.glob G'.gt hV hF).mono ?_
 rintro e w' ⟨q1,tv',q2,q3,q4⟩
 exact⟨q1,tv',h.move q4 q3 q2.own h.ok,q2,q4⟩
theorem KY.push_no {w0 w:World}(G:G3 w0){yb:Nat}{tv v:Value}{ps:List (Option Nat)}{y:Yd}{b:List UInt8}(h:KY w0 w yb tv ps y)(hb:Kb w yb ps v b)(hl:b.length<=140737488355328)(aa:∀hs,VHs hs->qE hs≠b) :
  Calls Tryz.prog 22 #[.pointer (some ⟨yb,0,none⟩),v] w fun e w'=>e = .returned (.int .i64 6)/\KY w0 w' yb tv ps y/\YMv w w' yb ps ps/\w.grownBy w' none:=by
 have G':=G.grown h.gr
 refine(q50q hb.rd (fun g o n c e=>hb.lt g (by rw[e];rfl)) hl G'.glob G'.gt aa).mono ?_
 rintro e w' ⟨q1,q2⟩
 exact⟨q1,(h.grown q2).1,(h.grown q2).2,q2⟩
theorem q55q {w0 w:World}(G:G3 w0){yb:Nat}{ps:List (Option Nat)}{y:Yd}(h:KY w0 w yb (.pointer none) ps y)(l:List UInt8)(ho:y.isOpen 1=true)(af:l.length<=1000000)(ag:y.sent.length<=10000000)(hl:ps.length<=1000000) :
  Calls Tryz.prog 23 #[.pointer (some ⟨yb,0,none⟩),.string (R.str l)] w fun e w'=>∃a k ps',e = .returned (.slice a (y.fed0 0 l).sent.length k)/\KY w0 w' yb (.pointer none) ps' (y.fed0 0 l).told/\YMv w w' yb ps ps'/\Held w' yb ps' (.slice a (y.fed0 0 l).sent.length k) (y.fed0 0 l).sent/\ps'.length=ps.length:=by
 have ah:∀w,(convert 9 32 (.string (R.str l))).run Tryz.prog w = .ok (.slice (some ⟨w.heap.size,0,none⟩) l.length (grownCap w l.length 0 5)) (Lib.bytesWorld w 5 (R.str l)):=fun w=>by
  have:=Lib.run_convert_string_bytes (P:=Tryz.prog) (u:=.string) w 9 32 5 (R.str l) (by kernel_rfl) (by kernel_rfl) (by kernel_rfl)
  rw[R.str_size] at this;exact this
 have ae:Y (Calls Tryz.prog 26 #[.pointer (some ⟨yb,0,none⟩),.int .i64 1,(.slice (some ⟨w.heap.size,0,none⟩) l.length (grownCap w l.length 0 5))] (Lib.bytesWorld w 5 (R.str l)) fun e w'=>e = .returned (.int .i64 0)/\∃ps',YInv w' yb w0.heap.size (.pointer none) ps' (y.fed0 0 l)/\YMv (Lib.bytesWorld w 5 (R.str l)) w' yb ps ps'/\ps'.length=ps.length):=by
  obtain⟨i1,m1,r1,a1⟩:=ze5 h.inv h.own l
  have g1:=xk w 5 (R.str l)
  have g:=zA h.gr g1
  exact q62q (m:=0) i1 h.ok ho r1 a1 af ag hl g.size (G.grown g).glob (G.grown g).ge ⟨G.low.1,G.low.2.1⟩
 have aa:=hid (h.grown (xk w 5 (R.str l)))
 have ab:=hid (q68q h.ok 0 l).1
 have ad:Y (∀W ps',YInv W yb w0.heap.size (.pointer none) ps' (y.fed0 0 l)->YMv (Lib.bytesWorld w 5 (R.str l)) W yb ps ps'->ps'.length=ps.length->Calls Tryz.prog 28 #[.pointer (some ⟨yb,0,none⟩)] W fun e w'=>∃a k,e = .returned (.slice a (y.fed0 0 l).sent.length k)/\Y (KY w0 w' yb (.pointer none) ps' (y.fed0 0 l).told)/\Y (YMv w w' yb ps ps')/\Y (Held w' yb ps' (.slice a (y.fed0 0 l).sent.length k) (y.fed0 0 l).sent)/\Y (ps'.length=ps.length)):=fun W ps' f1 f2 f3=>by
  refine(zhU f1 rfl).mono ?_
  rintro e w' ⟨v,rfl,q1,q2,q3,q4⟩
  obtain⟨a,k,rfl⟩:=zP q3
  have k1:=aa.o.1.move f2 f1 rfl ab.o
  exact⟨a,k,rfl,k1.move q2 q1 rfl ab.o,(aa.o.2.trans f2).trans q2,⟨qK q3 (zl _),q4⟩,f3⟩
 clear h ho af ag hl
 generalize y.fed0 0 l=y1 at*
 go_enter Tryz.func23,Tryz.ntmps23
 go_wp2_with fail
 refine ae.o.mono ?_
 rintro e w1 ⟨rfl,ps',f1,f2,f3⟩
 have HC:=hid (ad.o w1 ps' f1 f2 f3)
 clear ae ad f1 f2 f3 ah aa ab
 go_wp2_with fail
 refine HC.o.mono ?_
 rintro e w2 ⟨a,k,rfl,K2,M2,H2,L2⟩
 clear HC
 go_wp2
 go_ret
 exact⟨a,k,ps',rfl,K2.o,M2.o,H2.o,L2.o⟩
end Go.Proofs.YtfocdefchbnkpaaGreatDoor
