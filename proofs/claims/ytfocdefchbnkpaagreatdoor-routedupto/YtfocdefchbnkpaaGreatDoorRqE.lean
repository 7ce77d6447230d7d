/- Heads of requests, as the program takes them: the head in memory, and its first line. -/
import Derived.Test.YtfocdefchbnkpaaGreatDoorAli
import Derived.Test.YtfocdefchbnkpaaGreatDoorRqC
import Derived.Deep.AppendLies
import Derived.Deep.DeepCutAuto
import Derived.Test.YtfocdefchbnkpaaGreatDoorPkG
import Derived.Laws.BytesArg
import Derived.Laws.CopyOwn
import Derived.Deep.OwnRows
set_option maxRecDepth 100000
set_option maxHeartbeats 20000000
namespace Go.Proofs.YtfocdefchbnkpaaGreatDoor
open Go.RowKit
structure Rq.Head where
 size:Nat
 line:List UInt8
 method:List UInt8
 target:List UInt8
 headers:List Hd
structure HInv (w:World) (cb B:Nat) (wt:Value) (h:Rq.Head):Prop where
 ex:∃vl vh,w.heap[cb]?=some (.cells #[.int .i64 h.size,vl,.string (R.str h.method),.string (R.str h.target),vh,wt] 106 (0,0))/\w.ownsRow B 5 1 vl h.line.length (Lib.byteCells h.line)/\w.ownsRow B 346 2 vh h.headers.length (zb h.headers)
 low:B<=cb
def HF (w:World)(cb k:Nat):Prop:=k=cb\/∃i v,w.cell? ⟨cb,i,none⟩=some v/\v.ownBlock=some k
structure HMv (w w':World) (cb:Nat):Prop where
 turn:Turn w w' (HF w cb)
 foot:∀k,HF w' cb k->HF w cb k\/w.heap.size<=k
theorem jA {w w':World}{b:Nat}(h:w'.heap[b]?=w.heap[b]?)(i:Nat):w'.cell? ⟨b,i,none⟩=w.cell? ⟨b,i,none⟩:=by
 simp only[World.cell?,h]
theorem jo {w w':World}{cb k:Nat}(h:w'.heap[cb]?=w.heap[cb]?)(hk:HF w' cb k):HF w cb k:=by
 rcases hk with hk | ⟨i,v,h1,h2⟩
 ·exact Or.inl hk
 ·exact Or.inr ⟨i,v,by rw[<-jA h];exact h1,h2⟩
theorem HMv.of_grown {w w':World}{cb:Nat}(hc:cb<w.heap.size)(g:w.grownBy w' none):HMv w w' cb:=
 ⟨⟨g.os,g.tape,g.output,g.size,fun k hk _=>g.block k hk (by simp)⟩,fun _ hk=>Or.inl (jo (g.block cb hc (by simp)) hk)⟩
theorem HMv.trans {w x y:World}{cb:Nat}(h1:HMv w x cb)(h2:HMv x y cb):HMv w y cb:=by
 refine⟨⟨h2.turn.os.trans h1.turn.os,h2.turn.tape.trans h1.turn.tape,h2.turn.output.trans h1.turn.output,zp h1.turn.size h2.turn.size,fun k hk hn=>(h2.turn.block k (yU hk h1.turn.size) (fun hF=>?_)).trans (h1.turn.block k hk hn)⟩,fun k hk=>?_⟩
 ·rcases h1.foot k hF with h | h
  ·exact hn h
  ·omega
 ·rcases h2.foot k hk with h | h
  ·exact h1.foot k h
  ·exact Or.inr (zp h1.turn.size h)
theorem HMv.set {w:World}{cb i:Nat}{x v:Value}(hx:w.cell? ⟨cb,i,none⟩=some x)(hv:∀k,v.ownBlock=some k->HF w cb k\/w.heap.size<=k):HMv w (w.setCell ⟨cb,i,none⟩ v) cb:=by
 have g:=zD w cb i v
 refine⟨⟨g.os,g.tape,g.output,g.size,fun k hk hn=>g.block k hk (fun e=>hn (Or.inl (qk e)))⟩,fun k hk=>?_⟩
 rcases hk with hk | ⟨j,u,h1,h2⟩
 ·exact Or.inl (Or.inl hk)
 ·by_cases hj:j=i
  ·subst hj
   rw[World.cell?_setCell_same _ _ _ hx] at h1
   exact hv k (by rw[qk h1];exact h2)
  ·rw[World.cell?_setCell_other _ _ _ _ (by simp;try omega)] at h1
   exact Or.inl (Or.inr ⟨j,u,h1,h2⟩)
theorem HMv.row {w w':World}{cb i:Nat}{v:Value}(hx:w.cell? ⟨cb,i,none⟩=some v)(hc:cb<w.heap.size)(g:w.grownBy w' v.ownBlock)(ha:∀k,v.ownBlock=some k->k≠cb):HMv w w' cb:=
 ⟨⟨g.os,g.tape,g.output,g.size,fun k hk hn=>g.block k hk (fun e=>hn (Or.inr ⟨i,v,hx,e.symm⟩))⟩,fun _ hk=>Or.inl (jo (g.block cb hc (fun e=>ha cb e.symm rfl)) hk)⟩
theorem HInv.lt {w:World}{cb B:Nat}{wt:Value}{h:Rq.Head}(hI:HInv w cb B wt h):cb<w.heap.size:=by obtain⟨_,_,h1,_⟩:=hI.ex;exact zE h1
theorem HInv.keep {w w':World}{cb B:Nat}{wt:Value}{h:Rq.Head}(hI:HInv w cb B wt h)(g:w.grownBy w' none):HInv w' cb B wt h:=by
 obtain⟨vl,vh,h1,h2,h3⟩:=hI.ex
 exact⟨⟨vl,vh,zB h1 g (by simp),zO h2 g (fun _ _ c=>by cases c),zO h3 g (fun _ _ c=>by cases c)⟩,hI.low⟩
theorem HInv.setn {w:World}{cb B:Nat}{wt:Value}{h:Rq.Head}(hI:HInv w cb B wt h)(x:Nat):HInv (w.setCell ⟨cb,0,none⟩ (.int .i64 (x:Nat))) cb B wt { h with size:=x }/\HMv w (w.setCell ⟨cb,0,none⟩ (.int .i64 (x:Nat))) cb:=by
 obtain⟨vl,vh,h1,h2,h3⟩:=hI.ex
 have g:=zD w cb 0 (.int .i64 (x:Nat))
 exact⟨⟨⟨vl,vh,zF (i:=0) h1 _,zS h2 g (zV h1 h2 (by decide)),zS h3 g (zV h1 h3 (by decide))⟩,hI.low⟩,HMv.set (z8 h1) (fun k hk=>by cases hk)⟩
theorem HInv.setm {w:World}{cb B:Nat}{wt:Value}{h:Rq.Head}(hI:HInv w cb B wt h)(x:List UInt8):HInv (w.setCell ⟨cb,2,none⟩ (.string (R.str x))) cb B wt { h with method:=x }/\HMv w (w.setCell ⟨cb,2,none⟩ (.string (R.str x))) cb:=by
 obtain⟨vl,vh,h1,h2,h3⟩:=hI.ex
 have g:=zD w cb 2 (.string (R.str x))
 exact⟨⟨⟨vl,vh,zF (i:=2) h1 _,zS h2 g (zV h1 h2 (by decide)),zS h3 g (zV h1 h3 (by decide))⟩,hI.low⟩,HMv.set (z8 h1) (fun k hk=>by cases hk)⟩
theorem HInv.sett {w:World}{cb B:Nat}{wt:Value}{h:Rq.Head}(hI:HInv w cb B wt h)(x:List UInt8):HInv (w.setCell ⟨cb,3,none⟩ (.string (R.str x))) cb B wt { h with target:=x }/\HMv w (w.setCell ⟨cb,3,none⟩ (.string (R.str x))) cb:=by
 obtain⟨vl,vh,h1,h2,h3⟩:=hI.ex
 have g:=zD w cb 3 (.string (R.str x))
 exact⟨⟨⟨vl,vh,zF (i:=3) h1 _,zS h2 g (zV h1 h2 (by decide)),zS h3 g (zV h1 h3 (by decide))⟩,hI.low⟩,HMv.set (z8 h1) (fun k hk=>by cases hk)⟩
def Rq.parts (l:List UInt8):List (List UInt8):=Lib.splitK [32] 0 (Lib.count l [32]) l
theorem zo5 (s:ByteArray):s=R.str s.data.toList:=by rw[R.str_of]
theorem zlE (l:List UInt8){w:World}(hG:Glob w)(hl:l.length<=3000) :
  Calls Tryz.prog 301 #[.string (R.str l),.string ⟨#[32]⟩] w fun e w'=>∃g,e = .returned (.slice (some ⟨g,0,none⟩) (Rq.parts l).length (Rq.parts l).length)/\w.grownBy w' none/\∀i p,(Rq.parts l)[i]?=some p->w'.cell? ⟨g,i,none⟩=some (.string (R.str p)):=by
 obtain⟨m,hm⟩:=hG
 have hz:(R.str l).size=l.length:=R.str_size l
 have hp:Rq.parts l=(Lib.splitB ⟨#[32]⟩ 0 (Lib.countB (R.str l) ⟨#[32]⟩) (R.str l)).map (·.data.toList):=by
  rw[Lib.splitB_data,R.str_toList];rfl
 have aa:(Lib.splitB ⟨#[32]⟩ 0 (Lib.countB (R.str l) ⟨#[32]⟩) (R.str l)).length=Lib.countB (R.str l) ⟨#[32]⟩+1:=Lib.splitB_all _ (by decide) 0 _ _ rfl
 refine(Tryz.strings_Split (R.str l) ⟨#[32]⟩ m w (by omega) hm (by decide)).mono ?_
 rintro e w' ⟨rfl,rfl⟩
 generalize Lib.splitB ⟨#[32]⟩ 0 (Lib.countB (R.str l) ⟨#[32]⟩) (R.str l)=sp at*
 refine⟨w.heap.size,by rw[hp,qw,aa],zJ _ _ none,fun i p hi=>?_⟩
 rw[hp,List.getElem?_map,Option.map_eq_some_iff] at hi
 obtain⟨q,hq,rfl⟩:=hi
 obtain⟨ab,rfl⟩:=List.getElem?_eq_some_iff.1 hq
 rw[ud w sp i ab,<-zo5]
def Rq.beginOk (l:List UInt8):Bool:=
 match Rq.parts l with
 | [m,t,v]=>Rq.isMethod m && (Rq.isTarget t && decide (v=Rq.sVersion))
 | _=>false
def Rq.begin (h:Rq.Head)(l:List UInt8):Rq.Head:=
 match Rq.parts l with
 | [m,t,v]=>if Rq.isMethod m && (Rq.isTarget t && decide (v=Rq.sVersion)) then { h with method:=m,target:=t } else h
 | _=>h
theorem zf0 (l:List UInt8)(hl:l.length<=3000):∀p∈Rq.parts l,p.length<=3000:=by
 have aa:∀(k:Nat) (t:List UInt8),t.length<=3000->∀p∈Lib.splitK [32] 0 k t,p.length<=3000:=by
  intro k
  induction k with
  | zero=>intro t ht p hp;rw[Lib.splitK] at hp;simp at hp;subst hp;exact ht
  | succ k ih=>
   intro t ht p hp
   rw[Lib.splitK] at hp
   split at hp
   ·simp at hp;subst hp;exact ht
   ·rcases List.mem_cons.1 hp with rfl | hp
    ·rw[List.length_take];omega
    ·exact ih _ (by rw[List.length_drop];omega) p hp
 exact aa _ l hl
theorem zkF {w:World}{cb B:Nat}{wt:Value}{h:Rq.Head}(hI:HInv w cb B wt h)(l:List UInt8)(hl:l.length<=3000)(hG:Glob w) :
  Calls Tryz.prog 233 #[.pointer (some ⟨cb,0,none⟩),.string (R.str l)] w fun e w'=>e = .returned (.bool (Rq.beginOk l))/\HInv w' cb B wt (Rq.begin h l)/\HMv w w' cb:=by
 have HS:=hid (zlE l hG hl)
 have HI:=hid hI
 have HL:=hid (zf0 l hl)
 have HO:Y (Rq.beginOk l=match Rq.parts l with | [m,t,v]=>Rq.isMethod m && (Rq.isTarget t && decide (v=Rq.sVersion)) | _=>false):=rfl
 have aa:Y (Rq.begin h l=match Rq.parts l with | [m,t,v]=>if Rq.isMethod m && (Rq.isTarget t && decide (v=Rq.sVersion)) then { h with method:=m,target:=t } else h | _=>h):=rfl
 have ae:=hI.lt
 clear hI hG
 generalize Rq.parts l=ps at*
 generalize Rq.beginOk l=ok at*
 generalize Rq.begin h l=h' at*
 go_enter Tryz.func233,Tryz.ntmps233
 go_wp2_with fail
 refine HS.o.mono ?_
 rintro e w1 ⟨g,rfl,g1,hc⟩
 have G1:=hid g1
 have I1:=hid (HI.o.keep g1)
 have HC:=hid hc
 clear HS g1 hc
 have ad:Y (ok=false->h'=h->w.grownBy w1 none->HInv w1 cb B wt h'/\HMv w w1 cb):=fun _ e hg=>⟨by rw[e];exact HI.o.keep hg,HMv.of_grown ae hg⟩
 match ps,HO,aa,HL,HC with
 | [m,t,v],HO,aa,HL,HC=>
  have c0:w1.cell? ⟨g,0,none⟩=some (.string (R.str m)):=HC.o 0 m rfl
  have c1:w1.cell? ⟨g,1,none⟩=some (.string (R.str t)):=HC.o 1 t rfl
  have c2:w1.cell? ⟨g,2,none⟩=some (.string (R.str v)):=HC.o 2 v rfl
  have HM:Y (∀W,Calls Tryz.prog 302 #[.string (R.str m)] W fun e w'=>e = .returned (.bool (Rq.isMethod m))/\w'=W):=fun W=>zcM m W (by have:=HL.o m (by simp);omega)
  have HT:Y (∀W,Calls Tryz.prog 303 #[.string (R.str t)] W fun e w'=>e = .returned (.bool (Rq.isTarget t))/\w'=W):=fun W=>zcN t W (by have:=HL.o t (by simp);omega)
  have e3:((R.str v).toList == [72,84,84,80,47,49,46,49])=decide (v=Rq.sVersion):=jd v _
  simp only at HO aa
  generalize Rq.isMethod m=b1 at*
  generalize Rq.isTarget t=b2 at*
  generalize decide (v=Rq.sVersion)=b3 at*
  clear HC HL
  cases b1
  ·go_wp2_with fail
   refine(HM.o _).mono ?_
   rintro e wX ⟨rfl,ab⟩
   rw[ab]
   clear ab wX
   go_wp2
   go_ret
   exact⟨za (by rw[HO.o];rfl),ad.o (by rw[HO.o];rfl) (by rw[aa.o];rfl) G1.o⟩
  ·go_wp2_with fail
   refine(HM.o _).mono ?_
   rintro e wX ⟨rfl,ab⟩
   rw[ab]
   clear ab wX
   cases b2
   ·go_wp2_with fail
    refine(HT.o _).mono ?_
    rintro e wX ⟨rfl,ab⟩
    rw[ab]
    clear ab wX
    go_wp2
    go_ret
    exact⟨za (by rw[HO.o];rfl),ad.o (by rw[HO.o];rfl) (by rw[aa.o];rfl) G1.o⟩
   ·go_wp2_with fail
    refine(HT.o _).mono ?_
    rintro e wX ⟨rfl,ab⟩
    rw[ab]
    clear ab wX
    cases b3
    ·go_wp2
     go_ret
     exact⟨za (by rw[HO.o];rfl),ad.o (by rw[HO.o];rfl) (by rw[aa.o];rfl) G1.o⟩
    ·obtain⟨vl,vh,q1,q2,q3⟩:=I1.o.ex
     have HQ:=hid q1
     have k2:w1.cell? ⟨cb,2,none⟩=some (.string (R.str h.method)):=z8 q1
     have k3:w1.cell? ⟨cb,3,none⟩=some (.string (R.str h.target)):=z8 q1
     have f2:=zrB 2 q1
     have f3:=zrB 3 q1
     clear q1
     clear q2 q3 HQ
     have af:Y (HInv (((w1.setCell ⟨cb,2,none⟩ (.string (R.str m))).setCell ⟨cb,3,none⟩ (.string (R.str t))).drew) cb B wt { h with method:=m,target:=t }/\HMv w (((w1.setCell ⟨cb,2,none⟩ (.string (R.str m))).setCell ⟨cb,3,none⟩ (.string (R.str t))).drew) cb):=by
      obtain⟨i2,m2⟩:=I1.o.setm m
      obtain⟨i3,m3⟩:=i2.sett t
      exact⟨i3.keep (zQ _),(((HMv.of_grown ae G1.o).trans m2).trans m3).trans (HMv.of_grown i3.lt (zQ _))⟩
     go_upto_region 4 with fail
     go_region
     go_wp2
     go_ret
     exact⟨za (by rw[HO.o];rfl),by rw[aa.o];exact af.o⟩
 | [],HO,aa,HL,HC=>
  go_wp2
  go_ret
  exact⟨za (by rw[HO.o]),ad.o HO.o aa.o G1.o⟩
 | [a],HO,aa,HL,HC=>
  go_wp2
  go_ret
  exact⟨za (by rw[HO.o]),ad.o HO.o aa.o G1.o⟩
 | [a,b],HO,aa,HL,HC=>
  go_wp2
  go_ret
  exact⟨za (by rw[HO.o]),ad.o HO.o aa.o G1.o⟩
 | a :: b :: c :: d :: r,HO,aa,HL,HC=>
  have ag:¬((r.length:Int)+1+1+1+1=3):=by omega
  go_wp2
  go_ret
  exact⟨za (by rw[HO.o]),ad.o HO.o aa.o G1.o⟩
theorem HMv.append {w w9:World}{cb i g n c:Nat}{v:Value}(hx:w.cell? ⟨cb,i,none⟩=some v)(hc:cb<w.heap.size)(gr:w.grownBy w9 v.ownBlock)(ha:∀k,v.ownBlock=some k->k≠cb)(aa:v.ownBlock=some g\/g=w.heap.size):HMv w (w9.setCell ⟨cb,i,none⟩ (.slice (some ⟨g,0,none⟩) n c)) cb:=by
 have h1:HMv w w9 cb:=HMv.row hx hc gr ha
 have gs:=zD w9 cb i (.slice (some ⟨g,0,none⟩) n c)
 have ab:w9.cell? ⟨cb,i,none⟩=some v:=by rw[jA (gr.block cb hc (fun e=>ha cb e.symm rfl))];exact hx
 refine⟨⟨gs.os.trans h1.turn.os,gs.tape.trans h1.turn.tape,gs.output.trans h1.turn.output,zp h1.turn.size gs.size,fun k hk hn=>(gs.block k (yU hk h1.turn.size) (fun e=>hn (Or.inl (qk e)))).trans (h1.turn.block k hk hn)⟩,fun k hk=>?_⟩
 rcases hk with hk | ⟨j,u,q1,q2⟩
 ·exact Or.inl (Or.inl hk)
 ·by_cases hj:j=i
  ·subst hj
   rw[World.cell?_setCell_same _ _ _ ab] at q1
   obtain rfl:=qk q1
   have hg:g=k:=by simpa[Value.ownBlock] using q2
   subst hg
   rcases aa with h | h
   ·exact Or.inl (Or.inr ⟨j,v,hx,h⟩)
   ·exact Or.inr (by omega)
  ·rw[World.cell?_setCell_other _ _ _ _ (by simp;try omega)] at q1
   exact h1.foot k (Or.inr ⟨j,u,q1,q2⟩)
def Rq.add (h:Rq.Head)(l:List UInt8):Rq.Head:=if Rq.readOk l then { h with headers:=h.headers++[Rq.readHd l] } else h
def Rq.addOut (h:Rq.Head)(l:List UInt8):List UInt8:=if Rq.readOk l then Rq.refusal (Rq.readHd l) h.headers else Rq.bad
theorem zaR (l:List UInt8)(h:l.length<=3000):(Rq.readHd l).2.length<=3000:=by
 have h1:=(jW l 58).2
 have h2:(Lib.trimB (Lib.cut l [58]).2.1 32).length<=(Lib.cut l [58]).2.1.length:=by
  unfold Lib.trimB Lib.trimLeftB Lib.trimRightB
  refine zp (List.dropWhile_suffix _).length_le ?_
  rw[List.length_reverse]
  exact zp (List.dropWhile_suffix _).length_le (by rw[List.length_reverse];exact zZ _)
 unfold Rq.readHd
 simp only
 omega
theorem zpF {w:World}{cb B:Nat}{wt:Value}{h:Rq.Head}(hI:HInv w cb B wt h)(l:List UInt8)(hl:l.length<=3000)(hn:h.headers.length<=100000)(hB:B<=w.heap.size)(hG:Glob w)(hE:GE w) :
  Calls Tryz.prog 235 #[.pointer (some ⟨cb,0,none⟩),.string (R.str l)] w fun e w'=>e = .returned (.string (R.str (Rq.addOut h l)))/\HInv w' cb B wt (Rq.add h l)/\HMv w w' cb:=by
 have ao:=hid (ft l w hl)
 have HI:=hid hI
 have ar:=hI.lt
 have HA:Y (Rq.add h l=if Rq.readOk l then { h with headers:=h.headers++[Rq.readHd l] } else h):=rfl
 have HO:Y (Rq.addOut h l=if Rq.readOk l then Rq.refusal (Rq.readHd l) h.headers else Rq.bad):=rfl
 have aB:Y (Rq.readIf l=if Rq.readOk l then Rq.readHd l else ([],[])):=rfl
 have aM:=zaR l hl
 have am:=hid hG
 have al:=hid hE
 clear hI hG hE
 generalize Rq.readOk l=ok at*
 generalize Rq.readIf l=y at*
 generalize Rq.readHd l=x at*
 generalize Rq.add h l=h' at*
 generalize Rq.addOut h l=o' at*
 go_enter Tryz.func235,Tryz.ntmps235
 go_wp2_with fail
 refine ao.o.mono ?_
 rintro e w1 ⟨rfl,g1⟩
 have gA:=zJ w1 (.cells #[.string (R.str y.1),.string (R.str y.2)] 346) none
 have GA:=hid (zA g1 gA)
 have ab:=hid (heap_alloc_new w1 (.cells #[.string (R.str y.1),.string (R.str y.2)] 346))
 have aS:=g1.size
 clear ao g1 gA
 cases ok
 ·go_wp2
  go_ret
  exact⟨by rw[HO.o];rfl,by rw[HA.o];exact HI.o.keep GA.o,HMv.of_grown ar GA.o⟩
 ·have hy:y=x:=by rw[aB.o];rfl
  subst hy
  go_upto_region 4 with fail
  generalize w1.alloc (.cells #[.string (R.str y.1),.string (R.str y.2)] 346)=wa at*
  obtain⟨vl,vh,q1,q2,q3⟩:=(HI.o.keep GA.o).ex
  obtain⟨va,vk,rfl⟩:=zP q3
  have HQ:=hid q1
  have HV:=hid q3
  have aD:=hid q2
  have b0:wa.cell? ⟨w1.heap.size,0,none⟩=some (.string (R.str y.1)):=z8 ab.o
  have b1:wa.cell? ⟨w1.heap.size,1,none⟩=some (.string (R.str y.2)):=z8 ab.o
  have k4:wa.cell? ⟨cb,4,none⟩=some (.slice va h.headers.length vk):=z8 HQ.o
  have ap:Y (∀W,wa.grownBy W none->Calls Tryz.prog 305 #[.agg #[.string (R.str y.1),.string (R.str y.2)],.slice va h.headers.length vk] W fun e w'=>e = .returned (.string (R.str (Rq.refusal y h.headers)))/\W.grownBy w' none):=fun W hW=>zfR y h.headers (zO HV.o hW (fun k hk c=>by cases c)) (by omega) aM (am.o.grown (zA GA.o hW)) (al.o.grown (zA GA.o hW))
  clear q1 q2 q3 am al
  have aU:=zE ab.o
  go_cut [4] (fun rv wx=>rv = .string (R.str (Rq.refusal y h.headers))/\Y (wa.grownBy wx none))
  case first=>
   go_region_law (go_simp;go_at_call 305;refine(ap.o _ (zQ wa)).mono ?_;rintro e w3 ⟨rfl,g3⟩;have G3:=hid (zA (zQ wa) g3);clear g3)
   all_goals
    go_wp2_with fail
    go_meet
    case rel=>exact⟨rfl,G3⟩
  case rest=>
   obtain⟨rfl,G3⟩:=hcut
   generalize wc=w3 at*
   have ag:=hid (zB HQ.o G3.o (by simp))
   have aH:=hid (zO HV.o G3.o (fun k hk c=>by cases c))
   have ak:=hid (zB ab.o G3.o (by simp))
   clear HQ HV ab b0 b1 k4 ap
   have b0:w3.cell? ⟨w1.heap.size,0,none⟩=some (.string (R.str y.1)):=z8 ak.o
   have b1:w3.cell? ⟨w1.heap.size,1,none⟩=some (.string (R.str y.2)):=z8 ak.o
   have k4:w3.cell? ⟨cb,4,none⟩=some (.slice va h.headers.length vk):=z8 ag.o
   obtain⟨i0,hi,aN,aO,aP⟩:=info_parts kD
   have aT:=G3.o.size
   have gX:=hid (zA (zJ w3 (.cells #[.string (R.str y.1),.string (R.str y.2)] 346) none) (zQ (w3.alloc (.cells #[.string (R.str y.1),.string (R.str y.2)] 346))))
   have af:=J (zO aH.o gX.o (fun k hk c=>by cases c))
   have aE:Y (∀j u,([.string (R.str y.1),.string (R.str y.2)]:List Value)[j]?=some u->(w3.alloc (.cells #[.string (R.str y.1),.string (R.str y.2)] 346)).drew.cell? ((⟨w3.heap.size,0,none⟩:Addr).add j)=some u):=qI w3 #[_,_] _ _ rfl
   have ax:Y (∀u∈([.string (R.str y.1),.string (R.str y.2)]:List Value),u.oneCell'=true):=fun u hu=>by simp at hu;rcases hu with rfl | rfl <;> rfl
   have aC:Y (h.headers.length+1<=maxLen):=by show _<=_;unfold maxLen;omega
   have aI:Y ((h.headers.length+1)*32<=140737488355328):=by show _<=_;omega
   have ah:Y ((w3.alloc (.cells #[.string (R.str y.1),.string (R.str y.2)] 346)).drew.heap.size=w3.heap.size+1):=by show _=_;simp
   have ay:Y (B<=(w3.alloc (.cells #[.string (R.str y.1),.string (R.str y.2)] 346)).drew.heap.size):=by show _<=_;rw[ah.o];have:=GA.o.size;omega
   have ad:=hid (zB ag.o gX.o (by simp))
   have ae:=hid (zV ad.o af.o (by decide))
   have kX:(w3.alloc (.cells #[.string (R.str y.1),.string (R.str y.2)] 346)).drew.cell? ⟨cb,4,none⟩=some (.slice va h.headers.length vk):=z8 ad.o
   have aJ:=zE ad.o
   have kA:(w3.alloc (.cells #[.string (R.str y.1),.string (R.str y.2)] 346)).cell? ⟨cb,4,none⟩=some (.slice va h.headers.length vk):=kX
   have aQ:(w3.alloc (.cells #[.string (R.str y.1),.string (R.str y.2)] 346)).cell? ⟨w1.heap.size,0,none⟩=some (.string (R.str y.1)):=gX.o.cell b0 (by simp)
   have aR:(w3.alloc (.cells #[.string (R.str y.1),.string (R.str y.2)] 346)).cell? ⟨w1.heap.size,1,none⟩=some (.string (R.str y.2)):=gX.o.cell b1 (by simp)
   have az:Y (∀g9 aa w9,w9.ownsRow B 346 2 (.slice (some ⟨g9,0,none⟩) (h.headers.length+1) aa) (h.headers.length+1) (zb h.headers++[.string (R.str y.1),.string (R.str y.2)])->((w3.alloc (.cells #[.string (R.str y.1),.string (R.str y.2)] 346)).drew).grownBy w9 (Value.slice va h.headers.length vk).ownBlock->((Value.slice va h.headers.length vk).ownBlock=some g9\/g9=w3.heap.size+1)->HInv (w9.setCell ⟨cb,4,none⟩ (.slice (some ⟨g9,0,none⟩) (h.headers.length+1) aa)) cb B wt { h with headers:=h.headers++[y] }/\HMv w (w9.setCell ⟨cb,4,none⟩ (.slice (some ⟨g9,0,none⟩) (h.headers.length+1) aa)) cb):=fun g9 aa w9 ho hg hat=>by
    have ai:=qM ad.o hg ae.o
    have gs:=zD w9 cb 4 (.slice (some ⟨g9,0,none⟩) (h.headers.length+1) aa)
    have aK:=zO aD.o G3.o (fun k hk c=>by cases c)
    have av:=zO aK gX.o (fun k hk c=>by cases c)
    have au:=zO av hg (xW af.o av (by decide))
    refine⟨⟨⟨vl,.slice (some ⟨g9,0,none⟩) (h.headers.length+1) aa,zF (i:=4) ai _,zS au gs (zV ai au (by decide)),?_⟩,HI.o.low⟩,?_⟩
    ·have:=zS ho gs (zV ai ho (by decide))
     simp only[zW,zm,qi,xN]
     exact this
    ·exact((HMv.of_grown ar (zA GA.o G3.o)).trans (HMv.of_grown (zE ag.o) gX.o)).trans (HMv.append kX aJ hg ae.o (by rcases hat with h | h;exact Or.inl h;exact Or.inr (by rw[h,ah.o])))
   go_upto_region 5 with fail
   go_region_law (refine step_append_lies _ rfl (.tmp 24) (.tmp 26) 101 rfl B 346 i0 _ 2 32 Tryz.underlying101 hi aN aO aP rfl (by decide) _ _ _ (by simp[Act.eval]) af.o ⟨w3.heap.size,0,none⟩ 1 1 [.string (R.str y.1),.string (R.str y.2)] (by simp[Act.eval]) rfl aE.o ax.o (by decide) aC.o aI.o ay.o (w3.heap.size+1) ah.o ?_;intro g9 aa w9 aw aj aq aL;have aF:=hid aw;have aA:=hid aj;have aG:=hid aq;have an:=hid (qM ad.o aj ae.o);have q9:w9.cell? ⟨cb,4,none⟩=some (.slice va h.headers.length vk):=z8 an.o;have f9:=zrB 4 an.o;clear aw aj aq aL)
   all_goals
    go_wp2
    go_ret
    exact⟨by rw[HO.o];rfl,by rw[HA.o];exact az.o _ _ _ aF.o aA.o aG.o⟩
def RdO (w:World)(v:Value)(l:List UInt8):Prop:=
 (∃a c,v = .slice a 0 c/\l=[])\/∃g o c,v = .slice (some ⟨g,o,none⟩) l.length c/\l.length<=c/\g<w.heap.size/\∀j u,l[j]?=some u->w.cell? ⟨g,o+j,none⟩=some (.int .u8 u.toNat)
theorem RdO.keep {w w':World}{v:Value}{l:List UInt8}{row:Option Nat}(h:RdO w v l)(hg:w.grownBy w' row)(hr:∀g o n c,v = .slice (some ⟨g,o,none⟩) n c->row≠some g):RdO w' v l:=by
 rcases h with h | ⟨g,o,c,h1,hc,h2,h3⟩
 ·exact Or.inl h
 ·exact Or.inr ⟨g,o,c,h1,hc,yU h2 hg.size,fun j u hu=>hg.cell (a:=⟨g,o+j,none⟩) (h3 j u hu) (fun e=>hr g o _ c h1 e.symm)⟩
theorem RdO.form {w:World}{v:Value}{l:List UInt8}(h:RdO w v l):∃a c,v = .slice a l.length c/\l.length<=c:=by
 rcases h with ⟨a,c,h1,h2⟩ | ⟨g,o,c,h1,hc,_⟩
 ·exact⟨a,c,by rw[h1,h2];rfl,by rw[h2];exact zl _⟩
 ·exact⟨_,_,h1,hc⟩
structure TInv (w:World) (tb:Nat) (v:Value) (b:List UInt8) (s:T.St):Prop where
 ex:∃p:Nat,p<=b.length/\s.rest=b.drop p/\w.heap[tb]?=some (.cells #[v,.int .i64 p,.bool s.bad] 257 (0,0))
 rd:RdO w v b
 ap:b≠[]->∀g o n c,v = .slice (some ⟨g,o,none⟩) n c->g≠tb
 len:b.length<=140737488355328
theorem za4 (W:World)(a:Option Addr)(c:Nat):(convert 32 9 (.slice a 0 c)).run Tryz.prog W = .ok (.string ⟨#[]⟩) W:=by
 cases a with
 | none=>exact run_convert_bytes_nil W _ _ Tryz.underlying32 Tryz.underlying5 _ _ _ Tryz.underlying9
 | some a=>exact run_convert_bytes_back W _ _ _ a c [] Tryz.underlying32 Tryz.underlying5 Tryz.underlying9 (fun j hj=>by cases hj)
structure UInv (w:World) (rb B:Nat) (r:List UInt8):Prop where
 ex:∃v,w.heap[rb]?=some (.cells #[v] 223 (0,0))/\RdO w v r/\∀g o n c,v = .slice (some ⟨g,o,none⟩) n c->g≠rb/\g<B
 len:r.length<=140737488355328
 low:rb<B
 top:B<=w.heap.size
theorem UInv.far {w w':World}{rb B:Nat}{r:List UInt8}{row:Option Nat}(h:UInv w rb B r)(hg:w.grownBy w' row)(hr:∀k,row=some k->B<=k):UInv w' rb B r:=by
 obtain⟨v,h1,h2,h3⟩:=h.ex
 have hl:=h.low
 refine⟨⟨v,zB h1 hg (fun c=>by have:=hr rb c.symm;omega),h2.keep hg (fun g o n c e e2=>by have:=hr g e2;have:=(h3 g o n c e).2;omega),h3⟩,h.len,hl,zp h.top hg.size⟩
theorem UInv.keep {w w':World}{rb B:Nat}{r:List UInt8}(h:UInv w rb B r)(hg:w.grownBy w' none):UInv w' rb B r:=h.far hg (fun k c=>by cases c)
theorem zhL {w w1:World}{n:Nat}{mc:List Value}{xs:List Value}(h:w1.ownsRow w.heap.size 5 1 (.slice (some ⟨w.heap.size,0,none⟩) n n) n xs)(e:mc=xs):w1.heap[w.heap.size]?=some (.cells mc.toArray 5 (0,0)):=by
 obtain⟨hl,⟨h1,_⟩ | ⟨g,aa,ab,h1,_,h3,_,_,h6,h7⟩⟩:=h
 ·cases h1
 ·simp only[qc,Option.some.injEq,Addr.mk.injEq,and_true,true_and] at h1
  obtain⟨rfl,rfl⟩:=h1
  rw[h3,e,<-h7,jS (by simp[h6])]
theorem zmS (z:Value)(n:Nat):(madeCells #[z] n).toList=List.replicate n z:=by
 apply List.ext_getElem
 ·simp[madeCells]
 ·intro i h1 h2;simp[madeCells,Nat.mod_one]
theorem zjS (k:Nat):Lib.byteCells (List.replicate k 0)=List.replicate k (.int .u8 0):=by
 unfold Lib.byteCells;rw[List.map_replicate];rfl
theorem zmX (n:Nat)(r:List UInt8)(X mc:List Value)(hX:X=Lib.byteCells (r.take n))(hm:mc=(madeCells #[Value.int .u8 0] n).toList):splice mc 0 X=Lib.byteCells (xt n r).1:=by
 have hl:X.length=min n r.length:=by rw[hX,j9,List.length_take]
 unfold splice xt
 rw[List.take_zero,List.nil_append,Lib.byteCells_append,<-hX,zjS,hm,zmS,List.drop_replicate,Nat.zero_add,hl]
 congr 2;omega
theorem fL (g o m:Nat):(⟨g,o,none⟩:Addr).add m=⟨g,o+m,none⟩:=by unfold Addr.add;by_cases h:m=0 <;> simp[h]
theorem UInv.next {w w2:World}{rb B:Nat}{r:List UInt8}{a:Option Addr}{c m n:Nat}(ae:RdO w (.slice a r.length c) r)(hb:w.heap[rb]?=some (.cells #[.slice a r.length c] 223 (0,0)))
  (aa:∀g o n' c',Value.slice a r.length c = .slice (some ⟨g,o,none⟩) n' c'->g≠rb/\g<B) (hl:r.length<=140737488355328) (ag:rb<B) (al:B<=w.heap.size) (hg:w.grownBy w2 none) (hm:m=Nat.min r.length n) (v':Value)
  (hv:(v' = .slice a (r.length - m) 0/\m=c/\r.length<=c)\/v' = .slice (a.map fun x=>x.add m) (r.length - m) (c - m)):UInv (w2.setCell ⟨rb,0,none⟩ v') rb B (r.drop n):=by
 have ai:m=min r.length n:=hm
 have ak:=ae
 have ab:=zD w2 rb 0 v'
 have af:(r.drop n).length=r.length - m:=by rw[List.length_drop];omega
 refine⟨⟨v',zF (zB hb hg (by simp)) v',?_,?_⟩,by omega,ag,zp al (zp hg.size ab.size)⟩
 ·by_cases h0:r.length - m=0
  ·refine Or.inl ?_
   have ad:r.drop n=[]:=List.eq_nil_of_length_eq_zero (by omega)
   rcases hv with ⟨e,_⟩ | e
   ·exact⟨_,_,by rw[e,h0],ad⟩
   ·exact⟨_,_,by rw[e,h0],ad⟩
  ·rcases ae with ⟨_,_,_,h2⟩ | ⟨g,o,c',e1,hc,hlt,h3⟩
   ·rw[h2] at h0;simp at h0
   ·simp only[qc,true_and] at e1
    obtain⟨rfl,rfl⟩:=e1
    have aj:g≠rb:=(aa g o _ _ rfl).1
    rcases hv with ⟨_,q1,q2⟩ | e
    ·omega
    ·refine Or.inr ⟨g,o+m,c - m,by rw[e,af,Option.map_some,fL],by omega,?_,fun j u hu=>?_⟩
     ·have:=hg.size;have:=ab.size;omega
     ·rw[List.getElem?_drop] at hu
      have h4:=ab.cell (hg.cell (h3 _ u hu) (by simp)) (fun c=>aj (by have:=qk c;first | exact this | exact this.symm))
      rw[show o+m+j=o+(n+j) by omega];exact h4
 ·intro g o n' c' e
  rcases hv with ⟨q,_⟩ | q
  ·rw[q] at e
   simp only[qc] at e
   obtain⟨rfl,_⟩:=e
   exact aa g o _ _ rfl
  ·rw[q] at e
   rcases ak with ⟨_,_,_,h2⟩ | ⟨g0,o0,c0,e1,_⟩
   ·have ah:m=0:=by rw[ai,h2];simp
    cases a with
    | none=>simp at e
    | some x=>
     rw[ah] at e
     simp only[Option.map_some,qc,Option.some.injEq] at e
     obtain⟨e1,_⟩:=e
     have ex:x=⟨g,o,none⟩:=by rw[<-e1];simp[Addr.add]
     rw[ex] at aa
     exact aa g o _ _ rfl
   ·simp only[qc,true_and] at e1
    obtain⟨rfl,rfl⟩:=e1
    rw[Option.map_some,fL] at e
    simp only[qc,Option.some.injEq,Addr.mk.injEq] at e
    obtain⟨⟨rfl,_⟩,_⟩:=e
    exact aa _ _ _ _ rfl
theorem fs {w:World}{rb B:Nat}{r:List UInt8}(h:UInv w rb B r)(n:Nat)(hn:n<=255) :
  Calls Tryz.prog 113 #[.pointer (some ⟨rb,0,none⟩),.int .i64 n] w fun e w'=>∃a k,e = .returned (.slice a n k)/\w'.ownsRow w.heap.size 5 1 (.slice a n k) n (Lib.byteCells (xt n r).1)/\UInv w' rb B (xt n r).2/\w.grownBy w' (some rb):=by
 obtain⟨i0,hi,aB,ay,aC⟩:=info_parts ja
 obtain⟨v,ai,aj,an⟩:=h.ex
 obtain⟨a,c,rfl,aH⟩:=aj.form
 have ap:=h.len
 have aq:=h.low
 have ax:=h.top
 have aI:=zE ai
 have ag:Y (RdO w (.slice a r.length c) r):=aj
 have HB:Y (w.heap[rb]?=some (.cells #[.slice a r.length c] 223 (0,0))):=ai
 have ak:Y (∀g o n' c',Value.slice a r.length c = .slice (some ⟨g,o,none⟩) n' c'->g≠rb/\g<B):=an
 obtain⟨X,HX⟩:∃X,Y (X=Lib.byteCells (r.take n)):=⟨_,rfl⟩
 have aa:Y (X.length=Nat.min r.length n):=by show _=_;rw[HX.o,j9,List.length_take];exact Nat.min_comm _ _
 have aG:X.length<=r.length:=by rw[aa.o];exact Nat.min_le_left _ _
 have aF:X.length<=n:=by rw[aa.o];exact Nat.min_le_right _ _
 have aA:(Tryz.prog.info? 5).map (·.size)=some 1:=by rw[hi];simp[ay]
 obtain⟨mc,ad⟩:∃mc,Y (mc=(madeCells #[Value.int .u8 0] n).toList):=⟨_,rfl⟩
 have ar:mc.length=n:=by rw[ad.o];simp[madeCells]
 clear h ai aj an
 go_enter Tryz.func113,Tryz.ntmps113
 go_wp2_with (at_make;refine wpList_make_full _ rfl _ _ 32 rfl w.heap.size 5 i0 (.int .u8 0) 1 Tryz.underlying32 hi aB ay _ _ _ _ n rfl rfl rfl rfl ?b2 ?b3 (zZ _) ?_)
 case b2=>rw[aC];omega
 case b3=>unfold maxLen;omega
 intro w1 av ao
 have ab:Y (w.grownBy w1 none):=ao
 have al:Y (w1.heap[w.heap.size]?=some (.cells mc.toArray 5 (0,0))):=zhL av ad.o
 clear av ao
 have u1:w1.cell? ⟨rb,0,none⟩=some (.slice a r.length c):=z8 (zB HB.o ab.o (by simp))
 go_wp2_with (refine wpList_copy_splice rfl _ _ 32 32 rfl 5 Tryz.underlying32 aA _ _ n n r.length c rfl rfl w.heap.size 0 mc 5 al.o X aa.o ?hpos ?hfit ?h1 w.heap.size w (fN ab.o) (zZ _) ?_)
 case hpos=>
  intro hp
  have aw:0<r.length:=by omega
  rcases ag.o with ⟨_,_,_,h2⟩ | ⟨g,o,c',e1,_,_,h3⟩
  ·rw[h2] at aw;simp at aw
  ·simp only[qc] at e1
   obtain⟨rfl,_,_⟩:=e1
   refine⟨_,rfl,fun j u hu=>?_⟩
   rw[HX.o] at hu
   unfold Lib.byteCells at hu
   rw[List.getElem?_map,Option.map_eq_some_iff] at hu
   obtain⟨x,hx,rfl⟩:=hu
   rw[fL]
   exact(ab.o.cell (h3 j x (by rw[List.getElem?_take] at hx;split at hx;exact hx;cases hx)) (by simp))
 case hfit=>omega
 case h1=>rw[HX.o];exact zaG _
 intro w2 am ae
 have u2:w2.cell? ⟨rb,0,none⟩=some (.slice a r.length c):=z8 (zB HB.o (xD ae) (by simp))
 have f2:w2.frozen? ⟨rb,0,none⟩=false:=zC (zB HB.o (xD ae) (by simp))
 have af:Y (Below w.heap.size w w2):=ae
 have aD:(X.length:Int)<=r.length:=by omega
 have aE:X.length<=c:=by omega
 clear ae u1 al ab
 have ah:Y (splice mc 0 X=Lib.byteCells (xt n r).1):=zmX n r X mc HX.o ad.o
 have au:(Lib.byteCells (xt n r).1).length=n:=by rw[<-ah.o];rw[length_splice _ _ _ (by omega)];exact ar
 have az:Y (w2.heap[w.heap.size]?=some (.cells (Lib.byteCells (xt n r).1).toArray 5 (0,0))):=by rw[<-ah.o];exact am
 clear ah am HX ad ar
 generalize X.length=m at*
 go_wp2
 all_goals
  go_ret
  refine⟨_,_,rfl,⟨by omega,Or.inr ⟨w.heap.size,n,_,rfl,zZ _,zB az.o (zD w2 rb 0 _) (fun c=>by have:=qk c;omega),zZ _,by unfold maxLen;omega,by simp[au],by rw[jS (by simp[au])]⟩⟩,?_,zA (zk (xD af.o) _) (zD w2 rb 0 _)⟩
 ·exact UInv.next ag.o HB.o ak.o ap aq ax (xD af.o) aa.o _ (Or.inl ⟨rfl,by omega,by omega⟩)
 ·exact UInv.next ag.o HB.o ak.o ap aq ax (xD af.o) aa.o _ (Or.inr rfl)
theorem zmW (r:List UInt8):(xt 1 r).1=[r.headD 0]:=by
 cases r with
 | nil=>rfl
 | cons x r=>simp[xt]
theorem yo {w:World}{rb B:Nat}{r:List UInt8}(h:UInv w rb B r) :
  Calls Tryz.prog 170 #[.pointer (some ⟨rb,0,none⟩)] w fun e w'=>e = .returned (.int .i64 ((zw r).1:Nat))/\UInv w' rb B (zw r).2/\w.grownBy w' (some rb):=by
 have H1:Y (Calls Tryz.prog 113 #[.pointer (some ⟨rb,0,none⟩),.int .i64 (1:Nat)] w fun e w'=>∃a k,e = .returned (.slice a 1 k)/\w'.ownsRow w.heap.size 5 1 (.slice a 1 k) 1 (Lib.byteCells (xt 1 r).1)/\UInv w' rb B (xt 1 r).2/\w.grownBy w' (some rb)):=fs h 1 (by omega)
 clear h
 go_enter Tryz.func170,Tryz.ntmps170
 go_wp2_with fail
 refine H1.o.mono ?_
 rintro e w1 ⟨a,k,rfl,ho,hu,hg⟩
 have HU:Y (UInv w1 rb B (r.drop 1)):=hu
 have HG:Y (w.grownBy w1 (some rb)):=hg
 obtain⟨g,c,e1,_,_⟩:=World.ownsRow.form ho (by omega)
 simp only[qc,true_and] at e1
 obtain⟨rfl,rfl⟩:=e1
 have c0:w1.cell? ⟨g,0,none⟩=some (.int .u8 (r.headD 0).toNat):=by
  have h:=xd ho 0 (by omega)
  rw[zmW] at h;exact h
 have hb:=(r.headD 0).toNat_lt
 have HV:Y ((zw r).1=(r.headD 0).toNat):=rfl
 have HD:Y ((zw r).2=r.drop 1):=rfl
 clear ho hu hg H1
 generalize r.headD 0=x at*
 go_wp2
 go_ret
 rw[HV.o,HD.o]
 exact⟨rfl,HU.o,HG.o⟩
theorem xv (r:List UInt8):(zw r).1<=255:=by have:=(r.headD 0).toNat_lt;show(r.headD 0).toNat<=255;omega
theorem fJ (n:Nat)(r:List UInt8):(xt n r).1.length=n:=by unfold xt;simp;omega
theorem ya (r:List UInt8):(zc r).1.length<=255:=by unfold zc;rw[fJ];exact xv r
theorem zdO (r:List UInt8):0<=(xg r).1/\(xg r).1<=65535:=by
 have h1:=xv r
 have h2:=xv (zw r).2
 unfold xg
 constructor <;> simp only <;> omega
theorem zg1 {w:World}{rb B:Nat}{r:List UInt8}(h:UInv w rb B r) :
  Calls Tryz.prog 221 #[.pointer (some ⟨rb,0,none⟩)] w fun e w'=>e = .returned (.int .i64 (xg r).1)/\UInv w' rb B (xg r).2/\w.grownBy w' (some rb):=by
 have h1:=xv r
 have h2:=xv (zw r).2
 have HT:Y (xg r=((((zw r).1+(zw (zw r).2).1*256:Nat):Int),(zw (zw r).2).2)):=rfl
 have H1:Y (Calls Tryz.prog 170 #[.pointer (some ⟨rb,0,none⟩)] w fun e w'=>e = .returned (.int .i64 ((zw r).1:Nat))/\UInv w' rb B (zw r).2/\w.grownBy w' (some rb)):=yo h
 clear h
 generalize xg r=tw at*
 generalize zw r=p at*
 obtain⟨lo,r1⟩:=p
 simp only at h1 h2 HT H1
 go_enter Tryz.func221,Tryz.ntmps221
 go_wp2_with fail
 refine H1.o.mono ?_
 rintro e w1 ⟨rfl,i1,g1⟩
 have H2:Y (Calls Tryz.prog 170 #[.pointer (some ⟨rb,0,none⟩)] w1 fun e w'=>e = .returned (.int .i64 ((zw r1).1:Nat))/\UInv w' rb B (zw r1).2/\w1.grownBy w' (some rb)):=yo i1
 have G1:Y (w.grownBy w1 (some rb)):=g1
 clear H1 i1 g1
 generalize zw r1=p at*
 obtain⟨hi,r2⟩:=p
 simp only at h2 HT H2
 go_wp2_with fail
 refine H2.o.mono ?_
 rintro e w2 ⟨rfl,i2,g2⟩
 have I2:Y (UInv w2 rb B r2):=i2
 have G2:=J (zA G1.o g2)
 clear H2 i2 g2 G1
 go_wp2
 go_ret
 rw[HT.o]
 refine⟨?_,I2.o,G2.o⟩
 show Ending.returned (Value.int .i64 ((lo:Int)+hi*256))=_
 go_num
theorem yz {w:World}{rb B:Nat}{r:List UInt8}(h:UInv w rb B r) :
  Calls Tryz.prog 171 #[.pointer (some ⟨rb,0,none⟩)] w fun e w'=>e = .returned (.string (R.str (zc r).1))/\UInv w' rb B (zc r).2/\w.grownBy w' (some rb):=by
 have h1:=xv r
 have HT:Y (zc r=xt (zw r).1 (zw r).2):=rfl
 have H1:Y (Calls Tryz.prog 170 #[.pointer (some ⟨rb,0,none⟩)] w fun e w'=>e = .returned (.int .i64 ((zw r).1:Nat))/\UInv w' rb B (zw r).2/\w.grownBy w' (some rb)):=yo h
 clear h
 generalize zc r=tx at*
 generalize zw r=p at*
 obtain⟨n,r1⟩:=p
 simp only at h1 HT H1
 go_enter Tryz.func171,Tryz.ntmps171
 go_wp2_with fail
 refine H1.o.mono ?_
 rintro e w1 ⟨rfl,i1,g1⟩
 have H2:Y (Calls Tryz.prog 113 #[.pointer (some ⟨rb,0,none⟩),.int .i64 n] w1 fun e w'=>∃a k,e = .returned (.slice a n k)/\w'.ownsRow w1.heap.size 5 1 (.slice a n k) n (Lib.byteCells (xt n r1).1)/\UInv w' rb B (xt n r1).2/\w1.grownBy w' (some rb)):=fs i1 n h1
 have G1:Y (w.grownBy w1 (some rb)):=g1
 have aa:=fJ n r1
 clear H1 i1 g1
 generalize xt n r1=p at*
 obtain⟨bs,r2⟩:=p
 simp only at H2 aa
 go_wp2_with fail
 refine H2.o.mono ?_
 rintro e w2 ⟨a,k,rfl,o2,i2,g2⟩
 have I2:Y (UInv w2 rb B r2):=i2
 have G2:=J (zA G1.o g2)
 have ab:(convert 32 9 (.slice a n k)).run Tryz.prog w2 = .ok (.string (R.str bs)) w2:=by
  by_cases h0:n=0
  ·subst h0
   obtain rfl:bs=[]:=List.eq_nil_of_length_eq_zero aa
   exact za4 w2 a k
  ·obtain⟨g,c,e1,_,_⟩:=World.ownsRow.form o2 (by omega)
   simp only[qc,true_and] at e1
   obtain⟨rfl,rfl⟩:=e1
   have h:=run_convert_bytes_back (P:=Tryz.prog) w2 32 9 5 ⟨g,0,none⟩ k bs Tryz.underlying32 Tryz.underlying5 Tryz.underlying9 (fun j hj=>by
    have h3:=xd o2 j (by omega)
    rw[jL,Nat.zero_add,h3]
    unfold Lib.byteCells
    simp[hj])
   rw[aa] at h
   exact h
 clear H2 i2 g2 G1 o2
 go_wp2
 go_ret
 rw[HT.o]
 exact⟨rfl,I2.o,G2.o⟩
theorem wW {w:World}{rb B:Nat}{r:List UInt8}(h:UInv w rb B r) :
  Calls Tryz.prog 299 #[.pointer (some ⟨rb,0,none⟩)] w fun e w'=>e = .returned (.tuple #[.string (R.str (qL r).1.1),.bool (qL r).1.2])/\UInv w' rb B (qL r).2/\w.grownBy w' (some rb):=by
 have h1:=xv r
 have HT:Y (qL r=if (zw r).1=0 then (([],false),(zw r).2) else (((zc (zw r).2).1,true),(zc (zw r).2).2)):=rfl
 have H1:Y (Calls Tryz.prog 170 #[.pointer (some ⟨rb,0,none⟩)] w fun e w'=>e = .returned (.int .i64 ((zw r).1:Nat))/\UInv w' rb B (zw r).2/\w.grownBy w' (some rb)):=yo h
 clear h
 generalize qL r=pp at*
 generalize zw r=p at*
 obtain⟨n,r1⟩:=p
 simp only at h1 HT H1
 go_enter Tryz.func299,Tryz.ntmps299
 go_wp2_with fail
 refine H1.o.mono ?_
 rintro e w1 ⟨rfl,i1,g1⟩
 have I1:Y (UInv w1 rb B r1):=i1
 have G1:Y (w.grownBy w1 (some rb)):=g1
 clear H1 i1 g1
 by_cases h0:n=0
 ·subst h0
  rw[if_pos rfl] at HT
  go_wp2
  go_ret2
  rw[HT.o]
  exact⟨rfl,I1.o,G1.o⟩
 ·rw[if_neg h0] at HT
  have hI:¬((n:Int)=0):=by omega
  go_wp2_with fail
  refine(yz I1.o).mono ?_
  rintro e w2 ⟨rfl,i2,g2⟩
  have I2:Y (UInv w2 rb B (zc r1).2):=i2
  have G2:=J (zA G1.o g2)
  clear i2 g2 I1 G1
  go_wp2
  go_ret2
  rw[HT.o]
  exact⟨rfl,I2.o,G2.o⟩
end Go.Proofs.YtfocdefchbnkpaaGreatDoor
