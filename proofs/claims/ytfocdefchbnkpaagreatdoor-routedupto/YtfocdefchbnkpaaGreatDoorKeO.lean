/- Headers are set and dropped, paths replaced, as the rule says. -/
import Derived.Test.YtfocdefchbnkpaaGreatDoorAli
import Derived.Test.YtfocdefchbnkpaaGreatDoorRuC
import Derived.Test.YtfocdefchbnkpaaGreatDoorKeG
import Derived.Deep.DeepCutAuto
import Derived.Deep.RegionHeld3
set_option maxRecDepth 100000
set_option maxHeartbeats 20000000
namespace Go.Proofs.YtfocdefchbnkpaaGreatDoor
open Go.RowKit
def Zs (w:World)(ao:Option Addr)(zs:List Int):Prop:=∀i (h:i<zs.length),∃b o,ao=some ⟨b,o,none⟩/\w.cell? ⟨b,o+i,none⟩=some (.int .i64 zs[i])/\-9223372036854775808<=zs[i]/\zs[i]<=9223372036854775807
def Ed.A3 (f:Nat->Value):Array Value:=#[f 0,f 1,f 2]
theorem at3 (f:Nat->Value):∀n,n<3->(Ed.A3 f)[n]?=some (f n)
 | 0,_=>rfl
 | 1,_=>rfl
 | 2,_=>rfl
 | n+3,h=>by omega
structure Ed.Blk (w2 wr:World) (gn gs gd gz:Nat) (se:Nat->List UInt8) (dr dn:Nat->Bool):Prop where
 gr:w2.grownBy wr none
 nm:wr.heap[gn]?=some (.cells (Ed.A3 fun n=>.string (R.str (Ed.nm n))) 9)
 st:wr.heap[gs]?=some (.cells (Ed.A3 fun n=>.string (R.str (se n))) 9)
 dr:wr.heap[gd]?=some (.cells (Ed.A3 fun n=>.bool (dr n)) 4)
 dn:wr.heap[gz]?=some (.cells (Ed.A3 fun n=>.bool (dn n)) 4)
def Ed.objs (s:Nat):List Obj:=[.cells #[.string ⟨#[47,111,108,100,47,49,63,47,111,108,100]⟩,.string ⟨#[47,110,101,119,47,49,63,47,111,108,100]⟩,.string ⟨#[47,111,108,100,47,49,63,47,111,108,100]⟩,.string ⟨#[47,47,49,63,47,111,108,100]⟩] 9,.cells #[.string ⟨#[97]⟩,.string ⟨#[98]⟩,.string ⟨#[99]⟩] 9,.cells #[.string ⟨#[]⟩,.string ⟨#[57]⟩,.string ⟨#[]⟩] 9,.cells #[.string ⟨#[]⟩,.string ⟨#[]⟩,.string ⟨#[]⟩] 9,.cells #[.string ⟨#[]⟩,.string ⟨#[]⟩,.string ⟨#[]⟩] 9,.cells #[.string ⟨#[120,32,121]⟩,.string ⟨#[]⟩,.string ⟨#[55]⟩] 9,.cells #[.slice (some ⟨s+1+1,0,none⟩) 3 3,.slice (some ⟨s+1+1+1,0,none⟩) 3 3,.slice (some ⟨s+1+1+1+1,0,none⟩) 3 3,.slice (some ⟨s+1+1+1+1+1,0,none⟩) 3 3] 22,.cells #[.bool false,.bool false,.bool true] 4,.cells #[.bool false,.bool false,.bool false] 4,.cells #[.bool true,.bool true,.bool false] 4,.cells #[.bool false,.bool false,.bool false] 4,.cells #[.slice (some ⟨s+1+1+1+1+1+1+1,0,none⟩) 3 3,.slice (some ⟨s+1+1+1+1+1+1+1+1,0,none⟩) 3 3,.slice (some ⟨s+1+1+1+1+1+1+1+1+1,0,none⟩) 3 3,.slice (some ⟨s+1+1+1+1+1+1+1+1+1+1,0,none⟩) 3 3] 63,.cells #[.bool false,.bool false,.bool false] 4]
structure Ed.Pol (k:Nat) (t:List UInt8) (h:List P.Hst) (dr:Nat->Bool) (se:Nat->List UInt8) (ob x:List UInt8) (rep ed pa:ByteArray):Prop where
 err:xm t=(0,0)
 pack:xG t=qE h
 valid:VHs h
 fits:Fits h
 sent:∀ns:List Nat,(∀n∈ns,n<3)->ns.length<=11->(Ed.y0.fedP h 0 (Ed.inb++Ed.txt 0 ns++[13,10])).sent=[⟨1,[117],ob++(Ed.run dr se ns).1++Ed.end se (Ed.run dr se ns).2.1 3++x++[13,10]⟩]
 tl:t.length<=1000000
 obl:ob.length<=40
 sel:∀n,n<3->(se n).length<=3
 zr:rep.size<=20
 ze:ed.size<=40
 zp:pa.size<=20
 tx:(⟨#[104,111,115,116,34,42,34,123,114,117,108,101,32,49,123,112,97,116,104,34,47,111,108,100,34,59,116,111,34,117,34,49,59]⟩:ByteArray)++rep++ed++⟨#[125,125]⟩=R.str t
 op:(⟨#[71,69,84,32]⟩:ByteArray)++pa++⟨#[32,72,84,84,80,47,49,46,49,13,10,104,111,115,116,58,32,104,13,10]⟩=R.str ob
 xe:x=if k=1 then [110,58,32,13,10] else []
 cr:(#[.string ⟨#[]⟩,.string ⟨#[114,101,112,108,97,99,101,34,47,110,101,119,34,59]⟩,.string ⟨#[]⟩,.string ⟨#[114,101,112,108,97,99,101,34,47,34,59]⟩]:Array Value)[k]?=some (.string rep)
 ce:(#[.string ⟨#[115,101,116,34,66,34,61,34,57,34,59,100,114,111,112,34,99,34,59]⟩,.string ⟨#[115,101,116,34,110,34,61,34,34,59]⟩,.string ⟨#[100,114,111,112,34,65,34,59,100,114,111,112,34,98,34,59]⟩,.string ⟨#[115,101,116,34,97,34,61,34,120,32,121,34,59,115,101,116,34,99,34,61,34,55,34,59]⟩]:Array Value)[k]?=some (.string ed)
 cp:(#[.string ⟨#[47,111,108,100,47,49,63,47,111,108,100]⟩,.string ⟨#[47,110,101,119,47,49,63,47,111,108,100]⟩,.string ⟨#[47,111,108,100,47,49,63,47,111,108,100]⟩,.string ⟨#[47,47,49,63,47,111,108,100]⟩]:Array Value)[k]?=some (.string pa)
 cs:∀s:Nat,(#[.slice (some ⟨s+1+1,0,none⟩) 3 3,.slice (some ⟨s+1+1+1,0,none⟩) 3 3,.slice (some ⟨s+1+1+1+1,0,none⟩) 3 3,.slice (some ⟨s+1+1+1+1+1,0,none⟩) 3 3]:Array Value)[k]?=some (.slice (some ⟨s+(2+k),0,none⟩) 3 3)
 cd:∀s:Nat,(#[.slice (some ⟨s+1+1+1+1+1+1+1,0,none⟩) 3 3,.slice (some ⟨s+1+1+1+1+1+1+1+1,0,none⟩) 3 3,.slice (some ⟨s+1+1+1+1+1+1+1+1+1,0,none⟩) 3 3,.slice (some ⟨s+1+1+1+1+1+1+1+1+1+1,0,none⟩) 3 3]:Array Value)[k]?=some (.slice (some ⟨s+(7+k),0,none⟩) 3 3)
 os:∀s:Nat,(Ed.objs s)[2+k]?=some (.cells (Ed.A3 fun n=>.string (R.str (se n))) 9)
 od:∀s:Nat,(Ed.objs s)[7+k]?=some (.cells (Ed.A3 fun n=>.bool (dr n)) 4)
theorem ztL (l:List UInt8):((R.str l).toList == [])=decide (l=[]):=by
 rw[ByteArray.toList_eq,R.str_toList,Bool.eq_iff_iff];simp
def Sp.A4 (f:Nat->Value):Array Value:=#[f 0,f 1,f 2,f 3]
def Sp.row (f:Nat->Nat)(i:Nat):List Value:=(List.range i).map fun j=>.int .i64 (f j:Nat)
structure Sp.L (wA wr:World) (f:Nat->Nat) (v:Value) (i:Nat):Prop where
 gr:wA.grownBy wr none
 row:wr.ownsRow wA.heap.size 3 1 v i (Sp.row f i)
structure Sp.I (w0 w2 wr:World) (yb gz:Nat) (tv:Value) (ps0 ps:List (Option Nat)) (y:Yd) (c:Nat->Nat):Prop where
 ky:KY w0 wr yb tv ps y
 mv:YMv w2 wr yb ps0 ps
 len:ps.length=1
 blk:wr.heap[gz]?=some (.cells (Sp.A4 fun n=>.int .i64 (c n:Nat)) 3)
 ap:¬YF wr yb ps gz
 low:w2.heap.size<=gz
 le:w0.heap.size<=w2.heap.size
theorem q103q (l:List Ak)(a:Ak):Ru.txts (l++[a])=Ru.txts l++Ru.txt a:=by unfold Ru.txts;simp
theorem q68q {a:Ak}(ok:a.Ok):(Ru.txt a).length<=160:=by
 obtain⟨sz,_,e⟩:∃x:Nat,x=0/\True:=⟨0,rfl,trivial⟩
 have h1:=q5q a.p
 have h2:(Ru.host a.h).length<=6:=by unfold Ru.host;split <;> decide
 have h3:=q69q a.e
 have h4:(R.dec a.n).length<=2:=R.dec_len a.n 1 (by have:=ok.n;omega)
 have h5:=ok.n
 have c2:Ru.c.length=2:=rfl
 have a0:(Ru.tx0 a).length<=40:=by
  unfold Ru.tx0 Ru.l0 Ru.l1
  simp only[zW]
  have:Ru.pre.length=5:=rfl
  have:Ru.ver.length=9:=rfl
  have:Ru.hL.length=6:=rfl
  omega
 have a1:(Ru.tx1 a).length<=20:=by
  unfold Ru.tx1 Ru.l2
  split
  ·exact zl _
  ·simp only[zW]
   have:Ru.eL.length=8:=rfl
   simp only[zm,qi];omega
 have a2:(Ru.tx2 a).length<=18:=by
  unfold Ru.tx2
  split
  ·decide
  ·exact zl _
 have a3:(Ru.tx3 a).length<=70:=by
  unfold Ru.tx3 Ru.l5
  split
  ·decide
  ·simp only[zW,List.length_replicate]
   have:Ru.cL.length=17:=rfl
   omega
 unfold Ru.txt
 simp only[zW]
 omega
theorem q70q:∀l:List Ak,(∀a∈l,a.Ok)->(Ru.txts l).length<=160*l.length
 | [],_=>zZ _
 | a :: l,h=>by
  have h1:=q68q (h a List.mem_cons_self)
  have h2:=q70q l (fun x hx=>h x (List.mem_cons_of_mem _ hx))
  show(Ru.txt a++Ru.txts l).length<=160*(l.length+1)
  rw[zW]
  omega
theorem zsZ (l:List Ev):∀u∈evCells l,u.oneCell'=true:=fun u hu=>by
 unfold evCells at hu
 obtain⟨e,_,h⟩:=List.mem_flatMap.1 hu
 unfold Ev.cells at h
 simp at h
 rcases h with rfl | rfl | rfl <;> rfl
theorem zsM:∀(l:List Ev) (i:Nat) (e:Ev) (j:Nat),l[i]?=some e->j<3->(evCells l)[i*3+j]?=e.cells[j]?
 | [],_,_,_,h,_=>by cases h
 | a :: l,0,e,j,h,hj=>by
  cases h
  show(a.cells++evCells l)[0*3+j]?=_
  rw[List.getElem?_append_left (by show 0*3+j<3;omega),Nat.zero_mul,Nat.zero_add]
 | a :: l,i+1,e,j,h,hj=>by
  have h2:=zsM l i e j h hj
  show(a.cells++evCells l)[(i+1)*3+j]?=_
  rw[List.getElem?_append_right (by show 3<=(i+1)*3+j;omega),show(i+1)*3+j - a.cells.length=i*3+j by show(i+1)*3+j - 3=_;omega]
  exact h2
theorem q97q:((List.range 6).all fun h=>(List.range 4).all fun e=>(List.range 2).all fun d=>(List.range 40).all fun n=>decide ((Rq.lines (Ru.hd h e d++Ru.cl n)).length<=150))=true:=by decide +kernel
theorem q96q {a:Ak}(ok:a.Ok):(Rq.lines (Ru.hd a.h a.e a.d++Ru.cl a.n)).length<=150:=by
 have h1:=List.all_eq_true.1 q97q a.h (List.mem_range.2 ok.h)
 have h2:=List.all_eq_true.1 h1 a.e (List.mem_range.2 ok.e)
 have h3:=List.all_eq_true.1 h2 a.d (List.mem_range.2 ok.d)
 have h4:=List.all_eq_true.1 h3 a.n (List.mem_range.2 ok.n)
 exact of_decide_eq_true h4
theorem q105q {a:Ak}(ok:a.Ok):(Ru.ev a).data.length<=300/\(Ru.to a=[]->(Ru.ev a).data=Yd.noRoute)/\(Ru.to a≠[]->20+a.n<=(Ru.ev a).data.length/\(Ru.ev a).data.take (5+(Ru.path a.p).length)=Ru.pre++Ru.path a.p/\∀k,k<a.n->(Ru.ev a).data[(Ru.ev a).data.length - 1 - k]?=some 10):=by
 have e:(Ru.ev a).data=if Ru.to a=[] then Yd.noRoute else Ru.data a++List.replicate a.n 10:=rfl
 have hn:=ok.n
 have hl:(Ru.data a).length<=200:=by
  unfold Ru.data Rq.line
  have h1:=q96q ok
  have h2:=q5q a.p
  have h3:Ru.post.length=4:=rfl
  have h4:Rq.sVersion.length=8:=rfl
  simp only[zW,xP,List.flatten_nil,zm,qi]
  omega
 obtain⟨d1,d2⟩:=zs2 a
 rw[e]
 refine⟨?_,fun h=>if_pos h,fun h=>?_⟩
 ·split
  ·decide
  ·rw[zW,List.length_replicate];omega
 ·rw[if_neg h]
  have hp:=q5q a.p
  have aa:5+(Ru.path a.p).length<=(Ru.data a).length:=by omega
  refine⟨by rw[zW,List.length_replicate];omega,?_,fun k hk=>?_⟩
  ·rw[List.take_append_of_le_length aa,d2]
  ·rw[zW,List.length_replicate,List.getElem?_append_right (by omega),List.getElem?_replicate,if_pos (by omega)]
theorem q61q {x:Int}(h:0<=x/\x<=1000000):IntKind.i64.wrap x=x:=by
 simp[IntKind.wrap,IntKind.bits,IntKind.signed];omega
def Ru.aks (qs:List Aw)(i:Nat):List Ak:=(qs.take i).map Aw.ak
theorem q104q (qs:List Aw)(i:Nat)(h:i<qs.length):Ru.aks qs (i+1)=Ru.aks qs i++[qs[i].ak]:=by
 unfold Ru.aks
 rw[List.take_add_one,qN h,xy]
 rfl
theorem q83q (qs:List Aw)(i:Nat):∀a∈Ru.aks qs i,a.Ok:=fun a ha=>by
 unfold Ru.aks at ha
 obtain⟨q,_,rfl⟩:=List.mem_map.1 ha
 exact q.ak_ok
theorem q56q (qs:List Aw)(i:Nat)(h:i<=qs.length):(Ru.aks qs i).length=i:=by
 unfold Ru.aks
 rw[qw,List.length_take];omega
theorem q75q {w:World}(G:G3 w)(ao bo:Option Addr)(ca cc:Nat)(qs:List Aw)(zs:List Int)(hq:Qs w ao qs)(hz:Zs w bo zs)(hn:qs.length<=400000)(hm:zs.length<=10000000) :
  Calls Tryz.prog 10 #[.slice ao qs.length ca,.slice bo zs.length cc] w fun e w'=>e = .returned (.bool true)/\w.grownBy w' none:=by
 obtain⟨i0,a5,bl,bm,bn⟩:=info_parts zp6
 have aQ:=hid (zkV G)
 have aZ:Y (∀W,w.grownBy W none->Calls Tryz.prog 20 #[.string (R.str Ru.t)] W fun e w'=>∃yb tv cb,e = .returned (.pointer (some ⟨yb,0,none⟩))/\KY W w' yb tv [some cb] Yd.new.opened/\TabAt w' tv Ru.hs):=fun W hW=>zkX (G.grown hW) (by decide) q85q q10q.2 q10q.1 q90q (by have:=fb q10q.1;omega)
 have HQ:Y (∀i (h:i<qs.length) W,w.grownBy W none->∃b o,ao=some ⟨b,o,none⟩/\b<W.heap.size/\W.cell? ⟨b,o+i*5,none⟩=some (.int .i64 qs[i].h)/\W.cell? ⟨b,o+i*5+1,none⟩=some (.int .i64 qs[i].p)/\W.cell? ⟨b,o+i*5+2,none⟩=some (.int .i64 qs[i].e)/\W.cell? ⟨b,o+i*5+3,none⟩=some (.int .i64 qs[i].d)/\W.cell? ⟨b,o+i*5+4,none⟩=some (.int .i64 qs[i].b)):=fun i h W g=>by
  obtain⟨b,o,e1,e2,e3,_⟩:=hq i h
  exact⟨b,o,e1,yU e2 g.size,g.cell (e3 0 _ rfl) (by simp),g.cell (e3 1 _ rfl) (by simp),g.cell (e3 2 _ rfl) (by simp),g.cell (e3 3 _ rfl) (by simp),g.cell (e3 4 _ rfl) (by simp)⟩
 have af:Y (∀i (h:i<qs.length),qs[i].Ok):=fun i h=>by
  obtain⟨b,o,e1,e2,e3,e4⟩:=hq i h
  exact e4
 have aq:Y (∀i (h:i<zs.length) W,w.grownBy W none->∃b o,bo=some ⟨b,o,none⟩/\W.cell? ⟨b,o+i,none⟩=some (.int .i64 zs[i])/\-9223372036854775808<=zs[i]/\zs[i]<=9223372036854775807):=fun i h W g=>by
  obtain⟨b,o,e1,e2,e3⟩:=hz i h
  exact⟨b,o,e1,g.cell e2 (by simp),e3⟩
 have HG:=hid G
 clear hq hz G
 go_enter Tryz.func10,Tryz.ntmps10
 go_wp2_with fail
 refine aQ.o.mono ?_
 rintro e w1 ⟨rfl,g1⟩
 have HC:=hid (aZ.o w1 g1)
 have G1:=hid g1
 clear aQ aZ g1
 go_wp2_with fail
 refine HC.o.mono ?_
 rintro e w2 ⟨yb,tv,cb,rfl,k2,t2⟩
 have K2:=hid k2
 have T2:=hid t2
 have G2:=hid (zA G1.o k2.gr)
 clear HC k2 t2
 go_wp2_with fail
 go_loopw [7,8] (fun sv iv wr=>∃i:Nat,i<=qs.length/\iv = .int .i64 i/\sv = .string (R.str (Ru.txts (Ru.aks qs i)))/\Y (w2.grownBy wr none)) (fun _ iv _=>qs.length - (intOf iv).toNat)
 case atStart=>exact⟨0,zl _,rfl,rfl,zM _ _⟩
 case round=>
  obtain⟨i,hi,rfl,rfl,GI⟩:=hrel
  by_cases aa:i<qs.length
  ·have aD:(i:Int)<qs.length:=by omega
   obtain⟨b,o,rfl,ar,y0,y1,y2,y3,y4⟩:=HQ.o i aa wr (zA G2.o GI.o)
   have HC:=hid (q78q qs[i] (af.o i aa) wr)
   have ai:=q70q (Ru.aks qs i) (q83q qs i)
   rw[q56q qs i hi] at ai
   have a1:=q68q qs[i].ak_ok
   have z1:(R.str (Ru.txts (Ru.aks qs i))).size<=64000000:=by rw[R.str_size];omega
   have z2:(R.str (Ru.txt qs[i].ak)).size<=160:=by rw[R.str_size];exact a1
   have HE:Y (R.str (Ru.txts (Ru.aks qs i))++R.str (Ru.txt qs[i].ak)=R.str (Ru.txts (Ru.aks qs (i+1)))):=by show _=_;rw[q2q,q104q qs i aa,q103q]
   clear HQ af ai a1
   generalize Ru.txts (Ru.aks qs i)=tx at*
   generalize qs[i]=q at*
   go_wp2_with fail
   refine HC.o.mono ?_
   rintro e w3 ⟨rfl,g3⟩
   have G3:=hid (zA GI.o g3)
   clear HC g3 GI y0 y1 y2 y3 y4 ar
   go_wp2_with fail
   rw[HE.o]
   go_roundw
   case rel=>exact⟨i+1,by omega,by go_num,rfl,G3⟩
   case measure=>simp[intOf];omega
  ·obtain rfl:i=qs.length:=by omega
   clear hi aa
   obtain⟨T,hT⟩:∃T,T=Ru.txts (Ru.aks qs qs.length):=⟨_,rfl⟩
   have ap:Y (Ru.Y T=Ru.y ((Ru.aks qs qs.length).map Ru.ev) Rq.zero):=by show _=_;rw[hT];exact q88q _ [] (q83q qs _)
   have bw:T.length<=64000000:=by
    have h1:=q70q (Ru.aks qs qs.length) (q83q qs qs.length)
    rw[q56q qs _ (zZ _)] at h1
    rw[hT];omega
   rw[<-hT]
   clear hT
   have aM:=hid (HG.o.grown G1.o)
   have ay:=hid (K2.o.grown GI.o).1
   have aX:=hid (T2.o.grown GI.o)
   have aO:Y (Ru.I w1 wr wr yb tv [some cb] [some cb] (Ru.Y []).told (.slice none 0 0) (Ru.Y []).sent):=Ru.I.start ay.o
   clear K2 T2 GI G2
   generalize wr=w3 at*
   have aw:Y (∀wr ps lv ls p l,Ru.I w1 w3 wr yb tv [some cb] ps (Ru.Y p).told lv ls->(Ru.Y p).told.isOpen 1=true->l.length<=80000000->Calls Tryz.prog 26 #[.pointer (some ⟨yb,0,none⟩),.int .i64 1,(.slice (some ⟨wr.heap.size,0,none⟩) l.length (grownCap wr l.length 0 5))] (Lib.bytesWorld wr 5 (R.str l)) fun e w'=>e = .returned (.int .i64 0)/\∃ps',Y (Ru.I w1 w3 w' yb tv [some cb] ps' ((Ru.Y p).told.fedP Ru.hs 0 l) lv ls)):=fun wr ps lv ls p l h ho hl=>zs4 aM.o ay.o aX.o p l h ho hl
   have am:Y (∀(z:Int) W,-9223372036854775808<=z/\z<=9223372036854775807->Calls Tryz.prog 21 #[.int .i64 z,.int .i64 50] W fun e w'=>e = .returned (.int .i64 (Kp.pick z 50:Nat))/\w'=W):=fun z W hz=>q3q z 50 W hz (by decide)
   go_wp2_with fail
   go_loopw [7,10,11] (fun sv lv iv wr=>∃(i:Nat) (p r:List UInt8),i<=zs.length+1/\iv = .int .i64 i/\sv = .string (R.str r)/\p++r=T/\(r≠[]->i<=zs.length)/\∃la lk ps,lv = .slice la (Ru.Y p).sent.length lk/\Y (Ru.I w1 w3 wr yb tv [some cb] ps (Ru.Y p).told (.slice la (Ru.Y p).sent.length lk) (Ru.Y p).sent)) (fun _ _ iv _=>zs.length+1 - (intOf iv).toNat)
   case atStart=>exact⟨0,[],T,zl _,rfl,rfl,rfl,fun _=>zl _,none,0,[some cb],rfl,aO⟩
   case round=>
    obtain⟨i,p,r,hi,rfl,rfl,ag,aF,la,lk,ps,rfl,HI⟩:=hrel
    clear aO
    have bi:r.length<=64000000:=by
     have:=congrArg List.length ag
     rw[zW] at this;omega
    have z1:(R.str r).size=r.length:=R.str_size r
    by_cases aE:r=[]
    ·subst aE
     rw[xn] at ag
     subst ag
     have HL:Y ((Ru.Y p).sent=(Ru.aks qs qs.length).map Ru.ev):=by show _=_;rw[ap.o];rfl
     have a6:(Ru.Y p).sent.length=qs.length:=by rw[HL.o,qw,q56q qs _ (zZ _)]
     have aL:Y (∀i (h:i<qs.length),(Ru.Y p).sent[i]?=some (Ru.ev qs[i].ak)):=fun i h=>by
      rw[HL.o,List.getElem?_map]
      unfold Ru.aks
      rw[List.take_length,List.getElem?_map,qN h]
      rfl
     have an:=hid HI.o.row
     have GW:=hid (zA G1.o HI.o.ky.gr)
     rw[a6] at an ⊢
     clear HL a6 HI aw am aq ap bi z1 aF hi
     generalize(Ru.Y p).sent=evs at*
     generalize wr=w4 at*
     go_wp2_with fail
     go_loopw [15] (fun iv wr=>∃i:Nat,i<=qs.length/\iv = .int .i64 i/\Y (w4.grownBy wr none)) (fun iv _=>qs.length - (intOf iv).toNat)
     case atStart=>exact⟨0,zl _,rfl,zM _ _⟩
     case round=>
      obtain⟨i,hi,rfl,GI⟩:=hrel
      by_cases aa:i<qs.length
      ·have aD:(i:Int)<qs.length:=by omega
       obtain⟨b,o,rfl,ar,y0,y1,y2,y3,y4⟩:=HQ.o i aa wr (zA GW.o GI.o)
       have aN:=hid (q77q qs[i] (af.o i aa) wr)
       have aV:Y (∀W,Calls Tryz.prog 21 #[.int .i64 qs[i].b,.int .i64 40] W fun e w'=>e = .returned (.int .i64 (qs[i].ak.n:Nat))/\w'=W):=fun W=>q3q qs[i].b 40 W (af.o i aa).b (by decide)
       have aU:=hid (q7q qs[i] (af.o i aa))
       obtain⟨gl,bp,e1,_,_⟩:=World.ownsRow.form an.o (by omega)
       simp only[qc,true_and] at e1
       obtain⟨rfl,rfl⟩:=e1
       have aG:=zO an.o GI.o (fun k hk c=>by cases c)
       have au:∀j,j<3->wr.cell? ⟨gl,i*3+j,none⟩=(Ru.ev qs[i].ak).cells[j]?:=fun j hj=>(xd aG (i*3+j) (by omega)).trans (zsM evs i _ j (aL.o i aa) hj)
       have v0:wr.cell? ⟨gl,i*3,none⟩=some (.int .i64 1):=au 0 (by decide)
       have v1:wr.cell? ⟨gl,i*3+1,none⟩=some (.string (R.str (Ru.to qs[i].ak))):=au 1 (by decide)
       have v2:wr.cell? ⟨gl,i*3+2,none⟩=some (.string (R.str (Ru.ev qs[i].ak).data)):=au 2 (by decide)
       have a3:gl<wr.heap.size:=(qh aG gl rfl).2
       have ok:=qs[i].ak_ok
       clear aG au
       go_wp2_with fail
       refine aN.o.mono ?_
       rintro e w5 ⟨rfl,g5⟩
       have G5:=hid (zA GI.o g5)
       have x0:w5.cell? ⟨b,o+i*5,none⟩=some (.int .i64 qs[i].h):=g5.cell y0 (by simp)
       have x1:w5.cell? ⟨b,o+i*5+1,none⟩=some (.int .i64 qs[i].p):=g5.cell y1 (by simp)
       have x2:w5.cell? ⟨b,o+i*5+2,none⟩=some (.int .i64 qs[i].e):=g5.cell y2 (by simp)
       have x3:w5.cell? ⟨b,o+i*5+3,none⟩=some (.int .i64 qs[i].d):=g5.cell y3 (by simp)
       have x4:w5.cell? ⟨b,o+i*5+4,none⟩=some (.int .i64 qs[i].b):=g5.cell y4 (by simp)
       have u0:w5.cell? ⟨gl,i*3,none⟩=some (.int .i64 1):=g5.cell v0 (by simp)
       have u1:w5.cell? ⟨gl,i*3+1,none⟩=some (.string (R.str (Ru.to qs[i].ak))):=g5.cell v1 (by simp)
       have u2:w5.cell? ⟨gl,i*3+2,none⟩=some (.string (R.str (Ru.ev qs[i].ak).data)):=g5.cell v2 (by simp)
       have bf:b<w5.heap.size:=yU ar g5.size
       have bh:gl<w5.heap.size:=yU a3 g5.size
       clear aN g5 y0 y1 y2 y3 y4 v0 v1 v2 ar a3
       go_wp2_with fail
       refine(aV.o _).mono ?_
       rintro e W1 ⟨rfl,ah⟩
       obtain rfl:=ah.symm
       clear aV ah
       obtain⟨f1,f2,f3⟩:=q105q ok
       have bF:=q5q qs[i].ak.p
       have bB:=ok.n
       have aj:=hid f2
       have ad:=hid f3
       have bJ:(R.str (Ru.ev qs[i].ak).data).size=(Ru.ev qs[i].ak).data.length:=R.str_size _
       clear f2 f3 ok
       generalize Ru.path qs[i].ak.p=pa at*
       generalize(Ru.ev qs[i].ak).data=D at*
       generalize Ru.to qs[i].ak=tt at*
       generalize qs[i].ak.n=n at*
       generalize qs[i]=q at*
       have q1:((R.str tt).toList == (R.str tt).toList)=true:=by simp
       have q2:=ztL tt
       go_upto_region 32 with fail
       go_cut [125] (fun bv wz=>bv = .bool false/\wz=w5)
       case first=>
        by_cases ht:tt=[]
        ·have hD:=aj.o ht
         subst hD
         rw[decide_eq_true ht] at q2
         rw[show R.str Yd.noRoute=⟨#[72,84,84,80,47,49,46,49,32,52,48,52,32,78,111,116,32,70,111,117,110,100,13,10,99,111,110,116,101,110,116,45,108,101,110,103,116,104,58,32,48,13,10,13,10]⟩ from rfl]
         clear ht
         go_wp2_with fail
         go_meet
         case rel=>exact⟨by first | rfl | simp,rfl⟩
        ·rw[decide_eq_false ht] at q2
         clear ht
         go_wp2_with fail
         go_meet
         case rel=>exact⟨by first | rfl | simp,rfl⟩
       case rest=>
        obtain⟨rfl,rfl⟩:=hcut
        generalize wc=w5 at*
        have al:Y (∀W,w5.grownBy W none->Calls Tryz.prog 31 #[.agg #[.int .i64 q.h,.int .i64 q.p,.int .i64 q.e,.int .i64 q.d,.int .i64 q.b]] W fun e w'=>e = .returned (.string (R.str pa))/\Y (w5.grownBy w' none)/\w'.cell? ⟨b,o+i*5,none⟩=some (.int .i64 q.h)/\w'.cell? ⟨b,o+i*5+1,none⟩=some (.int .i64 q.p)/\w'.cell? ⟨b,o+i*5+2,none⟩=some (.int .i64 q.e)/\w'.cell? ⟨b,o+i*5+3,none⟩=some (.int .i64 q.d)/\w'.cell? ⟨b,o+i*5+4,none⟩=some (.int .i64 q.b)):=fun W hW=>(aU.o W).mono fun e w' ⟨h1,h2⟩=>⟨h1,zA hW h2,(zA hW h2).cell x0 (by simp),(zA hW h2).cell x1 (by simp),(zA hW h2).cell x2 (by simp),(zA hW h2).cell x3 (by simp),(zA hW h2).cell x4 (by simp)⟩
        clear aU q1 u0 u1 u2
        go_upto_region 34 with fail
        go_cut [152] (fun bv wz=>bv = .bool false/\Y (w5.grownBy wz none))
        case first=>
         by_cases ht:tt=[]
         ·rw[decide_eq_true ht] at q2
          clear ht al x0 x1 x2 x3 x4 aj ad
          go_quiet (fail)
          have GQ:=hid (vu w5 nq)
          go_wp2_with fail
          go_meet
          case rel=>exact⟨by first | rfl | simp,GQ⟩
         ·obtain⟨be,a0,_⟩:=ad.o ht
          obtain⟨PP,aB⟩:∃l,l=Ru.pre++pa:=⟨_,rfl⟩
          have e1:(⟨#[80,79,83,84,32]⟩:ByteArray)++R.str pa=R.str PP:=by rw[aB];exact q2q Ru.pre pa
          have bb:(R.str D).extract 0 (5+pa.length)=R.str PP:=by rw[q81q,a0,aB]
          have bG:(R.str pa).size=pa.length:=R.str_size pa
          have n1:¬(9223372036854775807<5+pa.length):=by omega
          have q4:((R.str PP).toList == (R.str PP).toList)=true:=by simp
          have bs:decide (((D.length:Nat):Int)<20+(n:Int))=false:=decide_eq_false (by omega)
          have bL:IntKind.i64.wrap (20+(n:Int))=20+n:=q61q (by omega)
          have bM:IntKind.i64.wrap (5+(pa.length:Int))=5+pa.length:=q61q (by omega)
          have br:(0:Int)<=5+(pa.length:Int):=by omega
          have bu:5+pa.length<=D.length:=by omega
          have bt:(5:Int)+pa.length<=D.length:=by omega
          rw[decide_eq_false ht] at q2
          clear ht aj ad a0 aB HQ af aL an GW aM ay aX HG GI G5 be
          go_region_held3 (fun W=>W.cell? ⟨b,o+i*5,none⟩=some (.int .i64 q.h)/\W.cell? ⟨b,o+i*5+1,none⟩=some (.int .i64 q.p)/\W.cell? ⟨b,o+i*5+2,none⟩=some (.int .i64 q.e)/\W.cell? ⟨b,o+i*5+3,none⟩=some (.int .i64 q.d)/\W.cell? ⟨b,o+i*5+4,none⟩=some (.int .i64 q.b)) (go_keep) (first | (go_at_call 31;refine(al.o _ (zQ w5)).mono ?_;rintro e w6 ⟨rfl,G6,p0,p1,p2,p3,p4⟩) | (go_at_call 31;refine(al.o _ G6.o).mono ?_;rintro e w7 ⟨rfl,G7,r0,r1,r2,r3,r4⟩))
          all_goals
           go_wp2_with fail
           go_meet
           case rel=>
            have bk:((5:Int)+pa.length).toNat=5+pa.length:=by omega
            exact⟨by rw[bk,bb,q4];rfl,G7⟩
        case rest=>
         obtain⟨rfl,G6⟩:=hcut
         have av:=hid (zA G5.o G6.o)
         generalize wc=w6 at*
         clear al x0 x1 x2 x3 x4 G5 G6 bf bh aj
         go_wp2_with fail
         go_loopw [19] (fun kv wr=>∃k:Nat,k<=n/\kv = .int .i64 k/\wr=w6) (fun kv _=>n - (intOf kv).toNat)
         case atStart=>exact⟨0,zl _,rfl,rfl⟩
         case round=>
          obtain⟨k,hk,rfl,rfl⟩:=hrel
          by_cases ht:tt=[]
          ·rw[decide_eq_true ht] at q2
           clear ht ad
           rcases Nat.lt_or_ge k n with hkn | hkn
           ·have aC:(k:Int)<n:=by omega
            go_wp2_with fail
            go_roundw
            case rel=>
             repeat apply Exists.intro
             exact⟨⟨i+1,by omega,by go_num,av⟩,rfl⟩
            case measure=>simp[intOf];omega
           ·have aC:¬(k:Int)<n:=by omega
            go_wp2_with fail
            go_roundw
            case rel=>
             repeat apply Exists.intro
             exact⟨⟨i+1,by omega,by go_num,av⟩,rfl⟩
            case measure=>simp[intOf];omega
          ·have h3:=ad.o ht
           rw[decide_eq_false ht] at q2
           clear ht ad
           rcases Nat.lt_or_ge k n with hkn | hkn
           ·have aC:(k:Int)<n:=by omega
            obtain⟨j,hj⟩:∃j,D.length=j+1+k:=⟨D.length - 1 - k,by omega⟩
            have bx:∀h:j<(R.str D).size,(R.str D)[j]'h=10:=fun h=>by
             have h4:=h3.2.2 k hkn
             rw[show D.length - 1 - k=j by omega] at h4
             have h5:=(List.getElem?_eq_some_iff.1 h4).2
             exact h5
            have bA:j<D.length:=by omega
            have bz:((D.length:Nat):Int) - 1 - (k:Int)=(j:Nat):=by omega
            clear h3 hj
            go_wp2_with fail
            exact⟨⟨k+1,by omega,by go_num,trivial⟩,by simp[intOf];omega⟩
           ·have aC:¬(k:Int)<n:=by omega
            clear h3
            go_wp2_with fail
            go_roundw
            case rel=>
             repeat apply Exists.intro
             exact⟨⟨i+1,by omega,by go_num,av⟩,rfl⟩
            case measure=>simp[intOf];omega
      ·have bc:=hid (zA GW.o GI.o)
       obtain rfl:i=qs.length:=by omega
       clear GI
       go_wp2
       go_ret
       exact⟨rfl,bc.o⟩
    ·have bH:0<r.length:=List.length_pos_iff.2 aE
     have bI:(0:Int)<r.length:=by omega
     have aF:=aF aE
     go_upto_if 52 with fail
     go_cut [12] (fun nv wz=>∃n:Nat,nv = .int .i64 n/\n<=r.length/\(i=zs.length->n=r.length)/\wz=wr)
     case first=>
      by_cases aa:i<zs.length
      ·have aD:(i:Int)<zs.length:=by omega
       obtain⟨b,o,rfl,hc,hb⟩:=aq.o i aa wr (zA G1.o HI.o.ky.gr)
       have HC:=hid (am.o zs[i] wr hb)
       have bE:=Kp.pick_lt zs[i] (n:=50) (by decide)
       generalize Kp.pick zs[i] 50=k at*
       generalize zs[i]=z at*
       clear aq am
       go_wp2_with fail
       refine HC.o.mono ?_
       rintro e W1 ⟨rfl,ah⟩
       obtain rfl:=ah.symm
       clear HC ah
       go_wp2_with fail
       go_meet
       case rel=>exact⟨min r.length k,congrArg (Value.int .i64) (by omega),by omega,fun e=>by omega,rfl⟩
      ·have aD:¬(i:Int)<zs.length:=by omega
       go_wp2_with fail
       go_meet
       case rel=>exact⟨r.length,rfl,zZ _,fun _=>rfl,rfl⟩
     case rest=>
      obtain⟨n,rfl,bD,a7,rfl⟩:=hcut
      generalize wc=wr at*
      have bC:((n:Nat):Int)<=r.length:=by omega
      have bb:=q81q r n
      have bj:=q117q r n
      rw[z1] at bj
      have ai:(r.take n).length=n:=by rw[List.length_take];omega
      have bg:=zs1 (r.take n)
      have HC:=hid (aw.o wr ps _ _ p (r.take n) HI.o (zsW (by rw[ag];exact ap.o)) (by omega))
      rw[ai] at HC bg
      have ab:Y ((Ru.Y (p++r.take n)).sent=(Ru.Y p).sent++((Ru.Y p).told.fedP Ru.hs 0 (r.take n)).sent/\(Ru.Y (p++r.take n)).told=((Ru.Y p).told.fedP Ru.hs 0 (r.take n)).told):=by
       constructor
       ·rw[q82q];rfl
       ·rw[q82q];rfl
      have az:Y ((p++r.take n)++r.drop n=T):=by show _=_;rw[xY,List.take_append_drop];exact ag
      have aW:Y (r.drop n≠[]->i+1<=zs.length):=fun h=>by
       rcases Nat.lt_or_ge i zs.length with q | q
       ·omega
       ·exact absurd (List.drop_of_length_le (by have:=a7 (by omega);omega)) h
      have bK:(Ru.Y p).sent.length+((Ru.Y p).told.fedP Ru.hs 0 (r.take n)).sent.length<=64000000:=by
       have h1:=congrArg (fun y=>y.sent.length) ap.o
       rw[<-az.o,q82q] at h1
       have h2:((Ru.Y (p++r.take n)).sent++((Ru.Y (p++r.take n)).told.fedP Ru.hs 0 (r.drop n)).sent).length=((Ru.aks qs qs.length).map Ru.ev).length:=h1
       rw[zW,qw,q56q qs _ (zZ _),ab.o.1,zW] at h2
       omega
      clear aw HI aq am ag a7 ai
      generalize(Ru.Y p).told.fedP Ru.hs 0 (r.take n)=y1 at*
      generalize(Ru.Y p).sent=ls at*
      go_wp2_with fail
      refine HC.o.mono ?_
      rintro e w4 ⟨rfl,aH,aP⟩
      have aK:=hid (q101q aP.o)
      clear HC aP
      go_wp2_with fail
      refine aK.o.mono ?_
      rintro e w5 ⟨ma,mk,rfl,ae,HM⟩
      clear aK
      generalize y1.told=y2 at*
      generalize y1.sent=es at*
      have aA:=hid ae.o.row
      cases es with
      | nil=>
       have ax:Y (Ru.I w1 w3 w5 yb tv [some cb] aH y2 (.slice la ls.length lk) ls):=ae
       clear ae
       go_wp2_with (at_builtin;refine q12q rfl (.tmp 70) (.tmp 71) 41 rfl w3.heap.size 44 i0 3 Tryz.underlying41 a5 _ _ _ rfl aA.o ma mk rfl ?_)
       go_roundw
       case rel=>exact⟨i+1,p++r.take n,r.drop n,by omega,by go_num,rfl,az.o,aW.o,la,lk,aH,by rw[ab.o.1,xn],by rw[ab.o.1,ab.o.2,xn];exact ax⟩
       case measure=>simp[intOf];omega
      | cons e0 er=>
       have a9:0<(e0 :: er).length:=Nat.succ_pos _
       generalize e0 :: er=es at*
       obtain⟨gm,bq,e1,_,_⟩:=World.ownsRow.form HM.o a9
       simp only[qc,true_and] at e1
       obtain⟨rfl,rfl⟩:=e1
       have aT:Y (∀q u,(evCells es)[q]?=some u->w5.cell? ((⟨gm,0,none⟩:Addr).add q)=some u):=fun q u hu=>by
        have ba:=(List.getElem?_eq_some_iff.1 hu).1
        rw[q6q] at ba
        have h1:=xd HM.o q ba
        have e9:(⟨gm,0,none⟩:Addr).add q=⟨gm,q,none⟩:=by cases q <;> simp[Addr.add]
        rw[e9]
        exact h1.trans hu
       have aI:Y (∀u∈evCells es,u.oneCell'=true):=zsZ es
       have aR:Y ((evCells es).length=es.length*3):=q6q es
       have aS:Y (ls.length+es.length<=maxLen):=by show _<=_;unfold maxLen;omega
       have aY:Y ((ls.length+es.length)*40<=140737488355328):=by show _<=_;omega
       have aJ:Y (w3.heap.size<=w5.heap.size):=ae.o.mv.turn.size
       clear HM
       go_wp2_with (at_builtin;refine wpList_append_lies _ rfl (.tmp 70) (.tmp 71) 41 rfl w3.heap.size 44 i0 _ 3 40 Tryz.underlying41 a5 bl bm bn rfl (by decide) _ _ _ rfl aA.o ⟨gm,0,none⟩ es.length _ (evCells es) rfl aR.o aT.o aI.o a9 aS.o aY.o aJ.o w5.heap.size rfl ?_)
       intro g9 bd w9 a8 a4 a2 _
       have ax:=hid (ae.o.more a8 a4 a2)
       clear a8 a4 a2 ae aT aI aR aS aY aJ aA
       go_wp2_with fail
       go_roundw
       case rel=>exact⟨i+1,p++r.take n,r.drop n,by omega,by go_num,rfl,az.o,aW.o,some ⟨g9,0,none⟩,bd,aH,by rw[ab.o.1,zW],by rw[ab.o.1,ab.o.2,zW];exact ax⟩
       case measure=>simp[intOf];omega
end Go.Proofs.YtfocdefchbnkpaaGreatDoor
