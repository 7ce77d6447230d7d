/- Heads of requests, as the program sends them: headers dropped and set. -/
import Derived.Test.YtfocdefchbnkpaaGreatDoorAli
import Derived.Test.YtfocdefchbnkpaaGreatDoorUnH
import Derived.Test.YtfocdefchbnkpaaGreatDoorProZ5
import Derived.Test.YtfocdefchbnkpaaGreatDoorProZ6
import Derived.Test.YtfocdefchbnkpaaGreatDoorShelfC
import Derived.Shelf.Strings.BuilderK
import Derived.Below
set_option maxRecDepth 100000
set_option maxHeartbeats 20000000
namespace Go.Proofs.YtfocdefchbnkpaaGreatDoor
open Go.RowKit
def Rq.without (nm:List UInt8)(l:List Hd):List Hd:=l.filter fun h=>!decide (h.1=nm)
def Rq.wo (nm:List UInt8)(l:List Hd)(i:Nat):List Hd:=Rq.without nm (l.take i)
theorem Rq.wo_yes (nm:List UInt8)(l:List Hd)(i:Nat)(h:i<l.length)(he:l[i].1≠nm):Rq.wo nm l (i+1)=Rq.wo nm l i++[l[i]]:=by
 unfold Rq.wo Rq.without;rw[List.take_add_one,qN h,List.filter_append];simp[he]
theorem Rq.wo_no (nm:List UInt8)(l:List Hd)(i:Nat)(h:i<l.length)(he:l[i].1=nm):Rq.wo nm l (i+1)=Rq.wo nm l i:=by
 unfold Rq.wo Rq.without;rw[List.take_add_one,qN h,List.filter_append];simp[he]
theorem Rq.wo_all (nm:List UInt8)(l:List Hd):Rq.wo nm l l.length=Rq.without nm l:=by unfold Rq.wo;rw[List.take_length]
theorem Rq.wo_le (nm:List UInt8)(l:List Hd)(i:Nat):(Rq.wo nm l i).length<=l.length:=by
 unfold Rq.wo Rq.without;exact zp (List.length_filter_le _ _) (by rw[List.length_take];omega)
def Rq.withK (nx:Hd):List Hd->Bool->List Hd
 | [],_=>[]
 | x :: r,t=>if x.1=nx.1 then (if t then Rq.withK nx r t else nx :: Rq.withK nx r true) else x :: Rq.withK nx r t
def Rq.has1 (nx:Hd)(l:List Hd):Bool:=l.any fun x=>decide (x.1=nx.1)
def Rq.with (nx:Hd)(l:List Hd):List Hd:=Rq.withK nx l false++(if Rq.has1 nx l then [] else [nx])
theorem Rq.withK_le (nx:Hd):∀(l:List Hd) (t:Bool),(Rq.withK nx l t).length<=l.length
 | [],_=>zZ _
 | x :: r,t=>by
  have h1:=Rq.withK_le nx r t
  have h2:=Rq.withK_le nx r true
  rw[Rq.withK];split
  ·split <;> simp only[zm] <;> omega
  ·simp only[zm];omega
theorem zg3 (nm:List UInt8)(l:List Hd){w:World}{B:Nat}{v:Value}(hr:w.ownsRow B 346 2 v l.length (zb l))(hn:l.length<=1000000) :
  Calls Tryz.prog 246 #[.string (R.str nm),v] w fun e w'=>∃a k,e = .returned (.slice a (Rq.without nm l).length k)/\Rw w w' 346 2 a k (Rq.without nm l).length (zb (Rq.without nm l)):=by
 obtain⟨va,vk,rfl⟩:=zP hr
 have HR:=hid hr
 have HZ:Y (Rw w w 346 2 none 0 (Rq.wo nm l 0).length (zb (Rq.wo nm l 0))):=⟨xS _ _ _ _,zM _ _⟩
 have HA:=hid (Rq.wo_all nm l)
 clear hr
 go_enter Tryz.func246,Tryz.ntmps246
 go_wp2_with fail
 go_loopw [5,10] (fun sv iv wr=>∃i:Nat,i<=l.length/\iv = .int .i64 i/\∃a k,sv = .slice a (Rq.wo nm l i).length k/\Y (Rw w wr 346 2 a k (Rq.wo nm l i).length (zb (Rq.wo nm l i)))) (fun _ iv _=>l.length - (intOf iv).toNat)
 case atStart=>exact⟨0,zl _,rfl,none,0,rfl,HZ⟩
 case round=>
  obtain⟨i,ag,rfl,a,k,rfl,HW⟩:=hrel
  clear HZ
  by_cases aa:i<l.length
  ·have af:(i:Int)<l.length:=by omega
   obtain⟨g,gc,e1,_,_⟩:=World.ownsRow.form HR.o (by omega)
   simp only[qc,true_and] at e1
   obtain⟨rfl,rfl⟩:=e1
   have d0:wr.cell? ⟨g,i*2,none⟩=some (.string (R.str l[i].1)):=qO (fun t:Hd=>[Value.string (R.str t.1),.string (R.str t.2)]) 2 (fun _=>rfl) HR.o HW.o.gr i 0 aa (by omega) rfl
   have d1:wr.cell? ⟨g,i*2+1,none⟩=some (.string (R.str l[i].2)):=qO (fun t:Hd=>[Value.string (R.str t.1),.string (R.str t.2)]) 2 (fun _=>rfl) HR.o HW.o.gr i 1 aa (by omega) rfl
   have HY:=hid (Rq.wo_yes nm l i aa)
   have HN:=hid (Rq.wo_no nm l i aa)
   have ah:=Rq.wo_le nm l i
   have ae:=wl l[i].1 nm
   generalize l[i]=x at*
   have HB:=hid (heap_alloc_new wr (.cells #[.string (R.str x.1),.string (R.str x.2)] 346))
   have ab:=hid (HW.o.keep (zJ wr (.cells #[.string (R.str x.1),.string (R.str x.2)] 346) none))
   have q0:(wr.alloc (.cells #[.string (R.str x.1),.string (R.str x.2)] 346)).cell? ⟨wr.heap.size,0,none⟩=some (.string (R.str x.1)):=z8 HB.o
   have q1:(wr.alloc (.cells #[.string (R.str x.1),.string (R.str x.2)] 346)).cell? ⟨wr.heap.size,1,none⟩=some (.string (R.str x.2)):=z8 HB.o
   go_upto_region 5 with fail
   generalize wr.alloc (.cells #[.string (R.str x.1),.string (R.str x.2)] 346)=wa at*
   clear d0 d1 HW HB
   by_cases he:x.1=nm
   ·rw[decide_eq_true he] at ae
    go_wp2_with fail
    go_roundw
    case rel=>exact⟨i+1,by omega,by go_num,a,k,by rw[HN.o he],by rw[HN.o he];exact ab⟩
    case measure=>simp[intOf];omega
   ·rw[decide_eq_false he] at ae
    have HE:=hid he
    have HC:=hid (qI wa #[.string (R.str x.1),.string (R.str x.2)] 346 _ rfl)
    have ad:=hid (ab.o.keep (zJ wa (.cells #[.string (R.str x.1),.string (R.str x.2)] 346) none))
    clear he HN
    go_wp2_with (at_builtin;refine @xl _ _ _ _ _ _ _ rfl _ _ 101 346 rfl _ _ _ Tryz.underlying101 kD rfl (by decide) (by decide) _ _ _ _ rfl ad.o ⟨wa.heap.size,0,none⟩ _ [.string (R.str x.1),.string (R.str x.2)] rfl rfl HC.o (fun u hu=>by simp at hu;rcases hu with rfl | rfl <;> rfl) (by omega) ?_)
    intro a' k' w' hh
    clear HC ab ad q0 q1
    go_wp2_with fail
    go_roundw
    case rel=>exact⟨i+1,by omega,by go_num,a',k',by rw[HY.o HE.o,zW];rfl,by rw[HY.o HE.o,xN,zW];exact hh⟩
    case measure=>simp[intOf];omega
  ·have hE:i=l.length:=by omega
   subst hE
   rw[HA.o] at HW ⊢
   go_wp2
   go_ret
   exact⟨a,k,rfl,HW.o⟩
theorem znS (nx:Hd)(l:List Hd){w:World}{B:Nat}{v:Value}(hr:w.ownsRow B 346 2 v l.length (zb l))(hn:l.length<=1000000) :
  Calls Tryz.prog 247 #[.agg #[.string (R.str nx.1),.string (R.str nx.2)],v] w fun e w'=>∃a k,e = .returned (.slice a (Rq.with nx l).length k)/\Rw w w' 346 2 a k (Rq.with nx l).length (zb (Rq.with nx l)):=by
 obtain⟨va,vk,rfl⟩:=zP hr
 have GA:=hid (zJ w (.cells #[.string (R.str nx.1),.string (R.str nx.2)] 346) none)
 have HB:=hid (heap_alloc_new w (.cells #[.string (R.str nx.1),.string (R.str nx.2)] 346))
 have HR:=hid (zO hr GA.o (fun k hk c=>by cases c))
 have HZ:Y (∀W,Rw W W 346 2 none 0 0 []):=fun W=>⟨xS _ _ _ _,zM _ _⟩
 have HP:Y (Rq.with nx l=[]++Rq.withK nx (l.drop 0) false++(if Rq.has1 nx (l.drop 0) || false then [] else [nx])):=by
  show _=_
  rw[List.drop_zero,Bool.or_false];rfl
 clear hr
 generalize Rq.with nx l=res at*
 go_enter Tryz.func247,Tryz.ntmps247
 go_upto_region 1 with fail
 generalize w.alloc (.cells #[.string (R.str nx.1),.string (R.str nx.2)] 346)=wb at*
 go_wp2_with fail
 go_loopw [5,6,11] (fun sv tv iv wr=>∃(i:Nat) (aa:List Hd) (t:Bool),i<=l.length/\iv = .int .i64 i/\tv = .bool t/\aa.length<=i/\Y (res=aa++Rq.withK nx (l.drop i) t++(if Rq.has1 nx (l.drop i) || t then [] else [nx]))/\∃a k,sv = .slice a aa.length k/\Y (Rw wb wr 346 2 a k aa.length (zb aa))) (fun _ _ iv _=>l.length - (intOf iv).toNat)
 case atStart=>exact⟨0,[],false,zl _,rfl,rfl,zZ _,HP,none,0,rfl,HZ.o wb⟩
 case round=>
  obtain⟨i,aa,t,an,rfl,rfl,al,ab,a,k,rfl,HW⟩:=hrel
  have Gb:=hid HW.o.gr
  clear HZ HP
  by_cases ai:i<l.length
  ·have am:(i:Int)<l.length:=by omega
   obtain⟨g,gc,e1,_,_⟩:=World.ownsRow.form HR.o (by omega)
   simp only[qc,true_and] at e1
   obtain⟨rfl,rfl⟩:=e1
   have d0:wr.cell? ⟨g,i*2,none⟩=some (.string (R.str l[i].1)):=qO (fun t:Hd=>[Value.string (R.str t.1),.string (R.str t.2)]) 2 (fun _=>rfl) HR.o Gb.o i 0 ai (by omega) rfl
   have d1:wr.cell? ⟨g,i*2+1,none⟩=some (.string (R.str l[i].2)):=qO (fun t:Hd=>[Value.string (R.str t.1),.string (R.str t.2)]) 2 (fun _=>rfl) HR.o Gb.o i 1 ai (by omega) rfl
   have aj:=wl l[i].1 nx.1
   rw[List.drop_eq_getElem_cons ai] at ab
   generalize l[i]=x at*
   have ah:=hid (heap_alloc_new wr (.cells #[.string (R.str x.1),.string (R.str x.2)] 346))
   have gX:=hid (zJ wr (.cells #[.string (R.str x.1),.string (R.str x.2)] 346) none)
   have ag:=hid (HW.o.keep gX.o)
   have G1:=hid (zA Gb.o gX.o)
   have af:=hid (zB HB.o G1.o (by simp))
   have q0:(wr.alloc (.cells #[.string (R.str x.1),.string (R.str x.2)] 346)).cell? ⟨wr.heap.size,0,none⟩=some (.string (R.str x.1)):=z8 ah.o
   have q1:(wr.alloc (.cells #[.string (R.str x.1),.string (R.str x.2)] 346)).cell? ⟨wr.heap.size,1,none⟩=some (.string (R.str x.2)):=z8 ah.o
   have n0:(wr.alloc (.cells #[.string (R.str x.1),.string (R.str x.2)] 346)).cell? ⟨w.heap.size,0,none⟩=some (.string (R.str nx.1)):=z8 af.o
   have n1:(wr.alloc (.cells #[.string (R.str x.1),.string (R.str x.2)] 346)).cell? ⟨w.heap.size,1,none⟩=some (.string (R.str nx.2)):=z8 af.o
   go_upto_region 6 with fail
   generalize wr.alloc (.cells #[.string (R.str x.1),.string (R.str x.2)] 346)=wa at*
   clear d0 d1 HW ah Gb gX af
   by_cases he:x.1=nx.1
   ·rw[decide_eq_true he] at aj
    have HE:=hid he
    clear he
    cases t
    ·have HC:=hid (qI wa #[.string (R.str nx.1),.string (R.str nx.2)] 346 _ rfl)
     have ae:=hid (ag.o.keep (zJ wa (.cells #[.string (R.str nx.1),.string (R.str nx.2)] 346) none))
     have ad:Y (res=(aa++[nx])++Rq.withK nx (l.drop (i+1)) true++(if Rq.has1 nx (l.drop (i+1)) || true then [] else [nx])):=by
      show _=_
      rw[ab.o,Rq.withK,if_pos HE.o];simp[Rq.has1,HE.o]
     clear ab
     go_wp2_with (at_builtin;refine @xl _ _ _ _ _ _ _ rfl _ _ 101 346 rfl _ _ _ Tryz.underlying101 kD rfl (by decide) (by decide) _ _ _ _ rfl ae.o ⟨wa.heap.size,0,none⟩ _ [.string (R.str nx.1),.string (R.str nx.2)] rfl rfl HC.o (fun u hu=>by simp at hu;rcases hu with rfl | rfl <;> rfl) (by omega) ?_)
     intro a' k' w' hh
     clear HC ag ae q0 q1 n0 n1 G1
     go_wp2_with fail
     go_roundw
     case rel=>exact⟨i+1,aa++[nx],true,by omega,by go_num,rfl,by simp;omega,ad,a',k',by rw[zW];rfl,by rw[xN,zW];exact hh⟩
     case measure=>simp[intOf];omega
    ·have ad:Y (res=aa++Rq.withK nx (l.drop (i+1)) true++(if Rq.has1 nx (l.drop (i+1)) || true then [] else [nx])):=by
      show _=_
      rw[ab.o,Rq.withK,if_pos HE.o];simp
     clear ab
     go_wp2_with fail
     go_roundw
     case rel=>exact⟨i+1,aa,true,by omega,by go_num,rfl,by omega,ad,a,k,rfl,ag⟩
     case measure=>simp[intOf];omega
   ·rw[decide_eq_false he] at aj
    have HC:=hid (qI wa #[.string (R.str x.1),.string (R.str x.2)] 346 _ rfl)
    have ae:=hid (ag.o.keep (zJ wa (.cells #[.string (R.str x.1),.string (R.str x.2)] 346) none))
    have ad:Y (res=(aa++[x])++Rq.withK nx (l.drop (i+1)) t++(if Rq.has1 nx (l.drop (i+1)) || t then [] else [nx])):=by
     show _=_
     rw[ab.o,Rq.withK,if_neg he];unfold Rq.has1;rw[List.any_cons,decide_eq_false he,Bool.false_or];simp only[xY,List.cons_append,List.nil_append]
    clear ab he
    go_wp2_with (at_builtin;refine @xl _ _ _ _ _ _ _ rfl _ _ 101 346 rfl _ _ _ Tryz.underlying101 kD rfl (by decide) (by decide) _ _ _ _ rfl ae.o ⟨wa.heap.size,0,none⟩ _ [.string (R.str x.1),.string (R.str x.2)] rfl rfl HC.o (fun u hu=>by simp at hu;rcases hu with rfl | rfl <;> rfl) (by omega) ?_)
    intro a' k' w' hh
    clear HC ag ae q0 q1 n0 n1 G1
    go_wp2_with fail
    go_roundw
    case rel=>exact⟨i+1,aa++[x],t,by omega,by go_num,rfl,by simp;omega,ad,a',k',by rw[zW];rfl,by rw[xN,zW];exact hh⟩
    case measure=>simp[intOf];omega
  ·have hE:i=l.length:=by omega
   subst hE
   rw[List.drop_length] at ab
   have af:=hid (zB HB.o Gb.o (by simp))
   have n0:wr.cell? ⟨w.heap.size,0,none⟩=some (.string (R.str nx.1)):=z8 af.o
   have n1:wr.cell? ⟨w.heap.size,1,none⟩=some (.string (R.str nx.2)):=z8 af.o
   have ak:=GA.o.size
   cases t
   ·have ad:Y (res=aa++[nx]):=by show _=_;rw[ab.o];simp[Rq.withK,Rq.has1]
    have HC:=hid (qI wr #[.string (R.str nx.1),.string (R.str nx.2)] 346 _ rfl)
    have ae:=hid (HW.o.keep (zJ wr (.cells #[.string (R.str nx.1),.string (R.str nx.2)] 346) none))
    clear ab
    go_wp2_with (at_builtin;refine @xl _ _ _ _ _ _ _ rfl _ _ 101 346 rfl _ _ _ Tryz.underlying101 kD rfl (by decide) (by decide) _ _ _ _ rfl ae.o ⟨wr.heap.size,0,none⟩ _ [.string (R.str nx.1),.string (R.str nx.2)] rfl rfl HC.o (fun u hu=>by simp at hu;rcases hu with rfl | rfl <;> rfl) (by omega) ?_)
    intro a' k' w' hh
    clear HC HW ae n0 n1
    go_wp2
    go_ret
    refine⟨a',k',by rw[ad.o,zW];rfl,?_⟩
    rw[ad.o,xN,zW]
    exact⟨qK hh.o.own ak,zA GA.o hh.o.gr⟩
   ·have ad:Y (res=aa):=by show _=_;rw[ab.o];simp[Rq.withK]
    clear ab
    go_wp2
    go_ret
    rw[ad.o]
    exact⟨a,k,rfl,qK HW.o.own ak,zA GA.o HW.o.gr⟩
def Rq.dropK (ns:List (List UInt8))(l:List Hd):List Hd:=ns.foldl (fun l n=>Rq.without n l) l
def Rq.setK (ss:List Hd)(l:List Hd):List Hd:=ss.foldl (fun l s=>Rq.with s l) l
def Rq.edited (r:P.Rl)(l:List Hd):List Hd:=Rq.setK r.sets (Rq.dropK r.drops l)
theorem ziS (nm:List UInt8)(l:List Hd):(Rq.without nm l).length<=l.length:=List.length_filter_le _ _
theorem zpY (nx:Hd)(l:List Hd):(Rq.with nx l).length<=l.length+1:=by
 have:=Rq.withK_le nx l false
 unfold Rq.with;rw[zW];split <;> simp <;> omega
theorem fO:∀(ns:List (List UInt8)) (l:List Hd),(Rq.dropK ns l).length<=l.length
 | [],_=>zZ _
 | n :: r,l=>zp (fO r (Rq.without n l)) (ziS n l)
def DropAt (ns:List (List UInt8))(l:List Hd)(i:Nat):List Hd:=Rq.dropK (ns.take i) l
def SetAt (ss:List Hd)(l:List Hd)(i:Nat):List Hd:=Rq.setK (ss.take i) l
theorem zeA (ns:List (List UInt8))(l:List Hd)(i:Nat)(h:i<ns.length):DropAt ns l (i+1)=Rq.without ns[i] (DropAt ns l i):=by
 unfold DropAt Rq.dropK;rw[j6 h,List.foldl_append];rfl
theorem tE (ss:List Hd)(l:List Hd)(i:Nat)(h:i<ss.length):SetAt ss l (i+1)=Rq.with ss[i] (SetAt ss l i):=by
 unfold SetAt Rq.setK;rw[j6 h,List.foldl_append];rfl
theorem zjW (ns:List (List UInt8))(l:List Hd)(i:Nat):(DropAt ns l i).length<=l.length:=fO _ _
theorem tD (ss:List Hd)(l:List Hd):∀(i:Nat),i<=ss.length->(SetAt ss l i).length<=l.length+i
 | 0,_=>zZ _
 | i+1,h=>by
  rw[tE ss l i (by omega)]
  have h1:=zpY ss[i] (SetAt ss l i)
  have h2:=tD ss l i (by omega)
  omega
theorem zfJ {w:World}(cs:List Value)(r:P.Rl)(hr:PRuleVal w cs r)(l:List Hd){v:Value}(hv:w.ownsRow 0 346 2 v l.length (zb l))(hn:l.length<=100000)(hd:r.drops.length<=1000)(hs:r.sets.length<=1000) :
  Calls Tryz.prog 187 #[.agg cs.toArray,v] w fun e w'=>∃a k,e = .returned (.slice a (Rq.edited r l).length k)/\w'.ownsRow 0 346 2 (.slice a (Rq.edited r l).length k) (Rq.edited r l).length (zb (Rq.edited r l))/\w.grownBy w' none:=by
 obtain⟨vM,vT,vS,vD,rfl,_,_,hS,hD⟩:=hr
 obtain⟨x1,x2,rfl⟩:=zP hS
 obtain⟨d1,d2,rfl⟩:=zP hD
 obtain⟨va,vk,rfl⟩:=zP hv
 have GA:=hid (zJ w (.cells #[.int .i64 r.number,.string (R.str r.path),vM,vT,.string (R.str r.rep),.slice x1 r.sets.length x2,.slice d1 r.drops.length d2] 213) none)
 have HB:=hid (heap_alloc_new w (.cells #[.int .i64 r.number,.string (R.str r.path),vM,vT,.string (R.str r.rep),.slice x1 r.sets.length x2,.slice d1 r.drops.length d2] 213))
 have HV:=hid (zO hv GA.o (fun k hk c=>by cases c))
 have HS:=hid (zO hS GA.o (fun k hk c=>by cases c))
 have HD:=hid (strRow1 (zO hD GA.o (fun k hk c=>by cases c)))
 have HE:Y (Rq.edited r l=SetAt r.sets (DropAt r.drops l r.drops.length) r.sets.length):=by show _=_;unfold SetAt DropAt;rw[List.take_length,List.take_length];rfl
 have b6:(w.alloc (.cells #[.int .i64 r.number,.string (R.str r.path),vM,vT,.string (R.str r.rep),.slice x1 r.sets.length x2,.slice d1 r.drops.length d2] 213)).cell? ⟨w.heap.size,6,none⟩=some (.slice d1 r.drops.length d2):=z8 HB.o
 clear hv hS hD
 generalize Rq.edited r l=res at*
 go_enter Tryz.func187,Tryz.ntmps187
 go_upto_region 1 with fail
 generalize w.alloc (.cells #[.int .i64 r.number,.string (R.str r.path),vM,vT,.string (R.str r.rep),.slice x1 r.sets.length x2,.slice d1 r.drops.length d2] 213)=wb at*
 go_wp2_with fail
 go_loopw [1,12] (fun sv iv wr=>∃i:Nat,i<=r.drops.length/\iv = .int .i64 i/\Y (wb.grownBy wr none)/\∃a k,sv = .slice a (DropAt r.drops l i).length k/\Y (wr.ownsRow 0 346 2 (.slice a (DropAt r.drops l i).length k) (DropAt r.drops l i).length (zb (DropAt r.drops l i)))) (fun _ iv _=>r.drops.length - (intOf iv).toNat)
 case atStart=>exact⟨0,zl _,rfl,zM _ _,va,vk,rfl,HV⟩
 case round=>
  obtain⟨i,ag,rfl,HG,a,k,rfl,HW⟩:=hrel
  clear HV
  have aj:=zjW r.drops l i
  by_cases ab:i<r.drops.length
  ·have ai:(i:Int)<r.drops.length:=by omega
   obtain⟨g,gc,e1,_,_⟩:=World.ownsRow.form HD.o (by omega)
   simp only[qc,true_and] at e1
   obtain⟨rfl,rfl⟩:=e1
   have d0:wr.cell? ⟨g,i,none⟩=some (.string (R.str r.drops[i])):=by have h:=qO (fun s=>[Value.string (R.str s)]) 1 (fun _=>rfl) HD.o HG.o i 0 ab (by omega) rfl;rw[Nat.mul_one] at h;exact h
   have aa:=hid (zg3 r.drops[i] (DropAt r.drops l i) HW.o (by omega))
   rw[<-zeA r.drops l i ab] at aa
   generalize r.drops[i]=nm at*
   go_wp2_with fail
   refine aa.o.mono ?_
   rintro e w2 ⟨a',k',rfl,hh⟩
   have HO:=hid (qK hh.own (zl _))
   have G2:=hid (zA HG.o hh.gr)
   clear hh aa HW HG d0
   go_wp2_with fail
   go_roundw
   case rel=>exact⟨i+1,by omega,by go_num,G2,a',k',rfl,HO⟩
   case measure=>simp[intOf];omega
  ·have hE:i=r.drops.length:=by omega
   subst hE
   generalize DropAt r.drops l r.drops.length=m at*
   generalize wr=w1 at*
   have ah:=hid (zB HB.o HG.o (by simp))
   have b5:w1.cell? ⟨w.heap.size,5,none⟩=some (.slice x1 r.sets.length x2):=z8 ah.o
   have ae:=hid (zO HS.o HG.o (fun k hk c=>by cases c))
   clear b6 HD ab HB HS
   go_wp2_with fail
   go_loopw [1,23] (fun sv iv wr=>∃i:Nat,i<=r.sets.length/\iv = .int .i64 i/\Y (w1.grownBy wr none)/\∃a k,sv = .slice a (SetAt r.sets m i).length k/\Y (wr.ownsRow 0 346 2 (.slice a (SetAt r.sets m i).length k) (SetAt r.sets m i).length (zb (SetAt r.sets m i)))) (fun _ iv _=>r.sets.length - (intOf iv).toNat)
   case atStart=>exact⟨0,zl _,rfl,zM _ _,a,k,rfl,HW⟩
   case round=>
    obtain⟨i,ag,rfl,ad,a,k,rfl,aa⟩:=hrel
    clear HW
    have ak:=tD r.sets m i ag
    by_cases ab:i<r.sets.length
    ·have ai:(i:Int)<r.sets.length:=by omega
     obtain⟨g,gc,e1,_,_⟩:=World.ownsRow.form ae.o (by omega)
     simp only[qc,true_and] at e1
     obtain⟨rfl,rfl⟩:=e1
     have d0:wr.cell? ⟨g,i*2,none⟩=some (.string (R.str r.sets[i].1)):=qO (fun t:Hd=>[Value.string (R.str t.1),.string (R.str t.2)]) 2 (fun _=>rfl) ae.o ad.o i 0 ab (by omega) rfl
     have d1:wr.cell? ⟨g,i*2+1,none⟩=some (.string (R.str r.sets[i].2)):=qO (fun t:Hd=>[Value.string (R.str t.1),.string (R.str t.2)]) 2 (fun _=>rfl) ae.o ad.o i 1 ab (by omega) rfl
     have af:=hid (tE r.sets m i ab)
     generalize r.sets[i]=s at*
     have gX:=hid (zJ wr (.cells #[.string (R.str s.1),.string (R.str s.2)] 280) none)
     have HX:=hid (heap_alloc_new wr (.cells #[.string (R.str s.1),.string (R.str s.2)] 280))
     have HC:=hid (znS s (SetAt r.sets m i) (zO aa.o gX.o (fun k hk c=>by cases c)) (by omega))
     rw[<-af.o] at HC
     go_upto_region 9 with fail
     generalize wr.alloc (.cells #[.string (R.str s.1),.string (R.str s.2)] 280)=wx at*
     have y0:wx.cell? ⟨wr.heap.size,0,none⟩=some (.string (R.str s.1)):=z8 HX.o
     have y1:wx.cell? ⟨wr.heap.size,1,none⟩=some (.string (R.str s.2)):=z8 HX.o
     go_wp2_with fail
     refine HC.o.mono ?_
     rintro e w2 ⟨a',k',rfl,hh⟩
     have HO:=hid (qK hh.own (zl _))
     have G2:=hid (zA (zA ad.o gX.o) hh.gr)
     clear hh HC aa ad d0 d1 gX HX y0 y1 af
     go_wp2_with fail
     go_roundw
     case rel=>exact⟨i+1,by omega,by go_num,G2,a',k',rfl,HO⟩
     case measure=>simp[intOf];omega
    ·have hE:i=r.sets.length:=by omega
     subst hE
     rw[<-HE.o] at aa ⊢
     go_wp2
     go_ret
     exact⟨a,k,rfl,aa.o,zA (zA GA.o HG.o) ad.o⟩
theorem uC:∀(l:List (List UInt8)),Lib.join l []=l.flatten
 | []=>rfl
 | [x]=>by rw[Lib.join_one];simp
 | x :: y :: r=>by
  have h:=uC (y :: r)
  unfold Lib.join List.intercalate at h ⊢
  rw[List.intersperse_cons_cons,xP,xP,List.nil_append,h];rfl
def Rq.line (ps:List (List UInt8)):List UInt8:=ps.flatten++[13,10]
theorem zo4 (l:List UInt8):R.str l++(⟨#[13,10]⟩:ByteArray)=R.str (l++[13,10]):=by
 apply ByteArray.ext;simp[R.str]
theorem zaN {w:World}(g c:Nat)(ps:List (List UInt8))(hp:w.heap[g]?=some (.cells (zh ps).toArray 9 (0,0)))(hc:ps.length<=c)(hn:ps.length<=1000)(hl:ps.flatten.length<=1000000) :
  Calls Tryz.prog 184 #[.slice (some ⟨g,0,none⟩) ps.length c] w fun e w'=>e = .returned (.string (R.str (Rq.line ps)))/\w.grownBy w' none:=by
 have HJ:Y (Calls Tryz.prog 220 #[.slice (some ⟨g,0,none⟩) ps.length c,.string ⟨#[]⟩] w fun e w'=>e = .returned (.string (R.str ps.flatten))/\w.grownBy w' none):=by
  have e1:(ps.map R.str).map (fun b=>b.data.toList)=ps:=by
   rw[List.map_map]
   have:((fun b:ByteArray=>b.data.toList) ∘ R.str)=id:=by funext x;exact R.str_toList x
   rw[this,List.map_id]
  have h:=Tryz.strings_Join g 0 c (ps.map R.str) ⟨#[]⟩ w (fun j x hx=>by
   rw[Nat.zero_add,z8 hp]
   unfold zh
   rw[List.getElem?_map] at hx
   simp only[List.getElem?_toArray,List.getElem?_map]
   cases hq:ps[j]? with
   | none=>rw[hq] at hx;cases hx
   | some y=>rw[hq] at hx;simp at hx ⊢;exact hx) (zE hp) (by simp;omega) (by simpa using hc) (by
    rw[e1];show(Lib.join ps []).length<=_;rw[uC];omega)
  rw[e1,show(⟨#[]⟩:ByteArray).data.toList=[] from rfl,uC,qw] at h
  exact Calls.mono h fun e w' ⟨h1,h2⟩=>⟨h1,xD h2⟩
 have HL:Y (Rq.line ps=ps.flatten++[13,10]):=rfl
 have hz:(R.str ps.flatten).size<=1000000:=by rw[R.str_size];exact hl
 have aa:=zo4 ps.flatten
 clear hp
 generalize ps.flatten=fl at*
 go_enter Tryz.func184,Tryz.ntmps184
 go_wp2_with fail
 refine HJ.o.mono ?_
 rintro e w1 ⟨rfl,g1⟩
 have G1:=hid g1
 clear g1 HJ
 go_wp2
 go_ret
 exact⟨by rw[HL.o];rfl,G1.o⟩
theorem zi3 (w:World):Calls Tryz.prog 184 #[.slice none 0 0] w fun e w'=>e = .returned (.string (R.str [13,10]))/\w'=w:=by
 have HJ:Y (Calls Tryz.prog 220 #[.slice none 0 0,.string ⟨#[]⟩] w fun e w'=>e = .returned (.string ⟨#[]⟩)/\w'=w):=by
  show Calls _ _ _ _ _
  go_enter Tryz.func220,Tryz.ntmps220
  go_wp2
  go_ret
  exact⟨rfl,rfl⟩
 go_enter Tryz.func184,Tryz.ntmps184
 go_wp2_with fail
 refine HJ.o.mono ?_
 rintro e wX ⟨rfl,aa⟩
 rw[aa]
 clear aa wX HJ
 go_wp2
 go_ret
 exact⟨rfl,rfl⟩
def Rq.sentValue (x:Hd):List UInt8:=if x.1=Rq.sHost then R.lower x.2 else if x.1=Rq.sCl then R.decI (Rq.num x.2) else x.2
theorem tf (x:Hd){w:World}(hx:x.2.length<=3000)(hc:x.1=Rq.sCl->Rq.isNumber x.2=true)(hE:GE w)(hT:GT w) :
  Calls Tryz.prog 245 #[.agg #[.string (R.str x.1),.string (R.str x.2)]] w fun e w'=>e = .returned (.string (R.str (Rq.sentValue x)))/\w.grownBy w' none:=by
 have GA:=hid (zJ w (.cells #[.string (R.str x.1),.string (R.str x.2)] 346) none)
 have HB:=hid (heap_alloc_new w (.cells #[.string (R.str x.1),.string (R.str x.2)] 346))
 have HV:Y (Rq.sentValue x=if x.1=Rq.sHost then R.lower x.2 else if x.1=Rq.sCl then R.decI (Rq.num x.2) else x.2):=rfl
 have aa:Y (∀b,decide (x.1=Rq.sHost)=b->((R.str x.1).toList == [104,111,115,116])=b):=fun b hb=>by rw[jd];exact hb
 have ab:Y (∀b,decide (x.1=Rq.sCl)=b->((R.str x.1).toList == [99,111,110,116,101,110,116,45,108,101,110,103,116,104])=b):=fun b hb=>by rw[jd];exact hb
 have HS:Y (∀W,Calls Tryz.prog 239 #[.string (R.str x.2)] W fun e w'=>e = .returned (.string (R.str (R.lower x.2)))/\W.grownBy w' none):=fun W=>by
  have h:=jc (R.str x.2) W (by have:(R.str x.2).size=x.2.length:=R.str_size x.2;omega)
  rw[R.str_toList] at h;exact h
 have HN:Y (x.1=Rq.sCl->∀W,w.grownBy W none->Calls Tryz.prog 177 #[.string (R.str x.2)] W fun e w'=>e = .returned (.int .i64 (Rq.num x.2))/\w.grownBy w' none):=fun h W hW=>(ke x.2 W (Or.inr (hc h)) (hE.grown hW)).mono fun e w' ⟨q1,q2⟩=>⟨q1,zA hW q2⟩
 have HI:Y (x.1=Rq.sCl->∀W,w.grownBy W none->Calls Tryz.prog 159 #[.int .i64 (Rq.num x.2)] W fun e w'=>e = .returned (.string (R.str (R.decI (Rq.num x.2))))/\w.grownBy w' none):=fun h W hW=>(fr (hT.grown hW) _ ⟨(Rq.num_ok (hc h)).2.1,(Rq.num_ok (hc h)).2.2.1⟩).mono fun e w' ⟨q1,q2⟩=>⟨q1,zA hW q2⟩
 have q0:(w.alloc (.cells #[.string (R.str x.1),.string (R.str x.2)] 346)).cell? ⟨w.heap.size,0,none⟩=some (.string (R.str x.1)):=z8 HB.o
 have q1:(w.alloc (.cells #[.string (R.str x.1),.string (R.str x.2)] 346)).cell? ⟨w.heap.size,1,none⟩=some (.string (R.str x.2)):=z8 HB.o
 clear hc hE hT
 go_enter Tryz.func245,Tryz.ntmps245
 go_upto_region 1 with fail
 generalize w.alloc (.cells #[.string (R.str x.1),.string (R.str x.2)] 346)=wa at*
 by_cases c1:x.1=Rq.sHost
 ·have d1:=aa.o true (decide_eq_true c1)
  rw[if_pos c1] at HV
  clear c1
  go_wp2_with fail
  refine(HS.o _).mono ?_
  rintro e w2 ⟨rfl,g2⟩
  have G2:=hid (zA GA.o g2)
  clear g2
  go_wp2
  go_ret
  exact⟨by rw[HV.o];rfl,G2.o⟩
 ·have d1:=aa.o false (decide_eq_false c1)
  rw[if_neg c1] at HV
  by_cases c2:x.1=Rq.sCl
  ·have d2:=ab.o true (decide_eq_true c2)
   rw[if_pos c2] at HV
   have ae:=hid (HN.o c2)
   have ad:=hid (HI.o c2)
   clear c1 c2 HN HI
   go_wp2_with fail
   refine(ae.o _ GA.o).mono ?_
   rintro e w2 ⟨rfl,g2⟩
   have G2:=hid g2
   clear g2 ae
   go_wp2_with fail
   refine(ad.o _ G2.o).mono ?_
   rintro e w3 ⟨rfl,g3⟩
   have G3:=hid g3
   clear g3 ad
   go_wp2
   go_ret
   exact⟨by rw[HV.o];rfl,G3.o⟩
  ·have d2:=ab.o false (decide_eq_false c2)
   rw[if_neg c2] at HV
   clear c1 c2
   go_wp2
   go_ret
   exact⟨by rw[HV.o];rfl,GA.o⟩
end Go.Proofs.YtfocdefchbnkpaaGreatDoor
namespace Go.Proofs
open Go.Shelf Go.RowKit Go.Lib
theorem Tryz.Builder_WriteString (B b : Nat) (bs : List Value) (s : ByteArray) (w : World) (h : Lib.IsBuilderF 141 5 B b bs w) (hlen : bs.length + s.size ≤ 140737488355328) (hBw : B ≤ w.heap.size) :
    Calls Tryz.prog 156 #[.pointer (some ⟨b, 0, none⟩), .string s] w fun e w' => (∃ n, e = .returned (.tuple #[.int .i64 n, .nilIface])) ∧ Lib.IsBuilderF 141 5 B b (bs ++ Lib.strCells s) w' ∧ Below B w w' :=
  (Any.Builder_WriteString_k (ρ := Tryz.lays156_ren) { Tryz.lays156 with } Tryz.extra156 B b bs s w h hlen hBw).mono fun _ _ ⟨h1, h2, h3, _⟩ => ⟨⟨_, h1⟩, Or.inr h2, h3⟩
theorem Tryz.Builder_String (B b : Nat) (l : List UInt8) (w : World) (h : Lib.IsBuilderF 141 5 B b (Lib.byteCells l) w) (hBw : B ≤ w.heap.size) :
    Calls Tryz.prog 69 #[.pointer (some ⟨b, 0, none⟩)] w fun e w' => e = .returned (.string ⟨l.toArray⟩) ∧ Below B w w' :=
  (Any.Builder_String_any_k (ρ := Tryz.lays156_ren) { Tryz.lays156 with } Tryz.extra156 B b l w h hBw).mono fun _ _ ⟨h1, _, h3, _⟩ => ⟨h1, h3⟩
end Go.Proofs
namespace Go.Proofs.YtfocdefchbnkpaaGreatDoor
open Go.RowKit
theorem IsBuilderF.keep {T e:TypeId}{B b:Nat}{bs:List Value}{w w':World}(h:Lib.IsBuilderF T e B b bs w)(g:w.grownBy w' none):Lib.IsBuilderF T e B b bs w':=by
 have aa:∀p,Lib.BuilderAtF T e B b p bs w->Lib.BuilderAtF T e B b p bs w':=fun p ⟨h1,v,h2,h3,h4⟩=>⟨h1,v,zB h2 g (by simp),h3.kept g (by cases hv:v.ownBlock with | none=>exact Or.inl rfl | some k=>exact Or.inr (by simp)),h4⟩
 rcases h with h | h
 ·exact Or.inl (aa _ h)
 ·exact Or.inr (aa _ h)
def Rq.ln (x:Hd):List UInt8:=Rq.line [x.1,[58,32],Rq.sentValue x]
def Rq.lines (l:List Hd):List UInt8:=(l.map Rq.ln).flatten
def LnAt (l:List Hd)(i:Nat):List UInt8:=Rq.lines (l.take i)
theorem zaD (l:List Hd)(i:Nat)(h:i<l.length):LnAt l (i+1)=LnAt l i++Rq.ln l[i]:=by
 unfold LnAt Rq.lines;rw[j6 h,xy,jt];simp
theorem fZ (l:List Hd):LnAt l l.length=Rq.lines l:=by unfold LnAt;rw[List.take_length]
theorem ziM (l:List UInt8):Lib.strCells (R.str l)=Lib.byteCells l:=by
 unfold Lib.strCells Lib.byteCells;first | rfl | simp[R.str]
structure SOk (x:Hd):Prop where
 n:x.1.length<=3000
 v:x.2.length<=3000
 c:x.1=Rq.sCl->Rq.isNumber x.2=true
theorem zoU (n:Int)(h:0<=n/\n<=99999):(R.decI n).length<=5:=R.decI_len n h
theorem zq4 {x:Hd}(h:SOk x):(Rq.sentValue x).length<=3000:=by
 unfold Rq.sentValue
 split
 ·unfold R.lower;rw[qw];exact h.v
 ·split
  ·rename_i _ hc
   have:=Rq.num_ok (h.c hc)
   have:=zoU _ ⟨this.2.1,this.2.2.1⟩
   omega
  ·exact h.v
theorem zq1 {x:Hd}(h:SOk x):(Rq.ln x).length<=7000:=by
 have h1:=zq4 h;have h2:=h.n
 unfold Rq.ln Rq.line;simp only[xP,List.flatten_nil,zW,zm,qi];omega
theorem uq (l:List Hd)(h:∀x∈l,SOk x):∀i,i<=l.length->(LnAt l i).length<=7000*i
 | 0,_=>zZ _
 | i+1,hi=>by
  rw[zaD l i (by omega),zW]
  have h1:=uq l h i (by omega)
  have h2:=zq1 (h l[i] (List.getElem_mem _))
  omega
theorem zkY (l:List Hd){w:World}{v:Value}(hr:w.ownsRow 0 346 2 v l.length (zb l))(hn:l.length<=100000)(ad:∀x∈l,SOk x)(hE:GE w)(hT:GT w) :
  Calls Tryz.prog 186 #[v] w fun e w'=>e = .returned (.string (R.str (Rq.lines l)))/\w.grownBy w' none:=by
 obtain⟨va,vk,rfl⟩:=zP hr
 have GA:=hid (zJ w (.cells #[.pointer none,.slice none 0 0] 141) none)
 have ae:Y (Lib.IsBuilderF 141 5 w.heap.size w.heap.size (Lib.byteCells (LnAt l 0)) (w.alloc (.cells #[.pointer none,.slice none 0 0] 141))):=Or.inl ⟨zZ _,.slice none 0 0,heap_alloc_new _ _,World.ownsRowF_nil _ _ _ _,by simp[Value.ownBlock]⟩
 have HR:=hid hr
 have ai:=hid ad
 have af:=hid hE
 have ag:=hid hT
 have HA:=hid (fZ l)
 have an:=hid (uq l ad)
 clear hr ad hE hT
 go_enter Tryz.func186,Tryz.ntmps186
 go_wp2_with fail
 go_loopw [8] (fun iv wr=>∃i:Nat,i<=l.length/\iv = .int .i64 i/\Y (w.grownBy wr none)/\Y (Lib.IsBuilderF 141 5 w.heap.size w.heap.size (Lib.byteCells (LnAt l i)) wr)) (fun iv _=>l.length - (intOf iv).toNat)
 case atStart=>exact⟨0,zl _,rfl,GA,ae⟩
 case round=>
  obtain⟨i,au,rfl,HG,aa⟩:=hrel
  clear ae GA
  by_cases ab:i<l.length
  ·have av:(i:Int)<l.length:=by omega
   obtain⟨g,gc,e1,_,_⟩:=World.ownsRow.form HR.o (by omega)
   simp only[qc,true_and] at e1
   obtain⟨rfl,rfl⟩:=e1
   have d0:wr.cell? ⟨g,i*2,none⟩=some (.string (R.str l[i].1)):=qO (fun t:Hd=>[Value.string (R.str t.1),.string (R.str t.2)]) 2 (fun _=>rfl) HR.o HG.o i 0 ab (by omega) rfl
   have d1:wr.cell? ⟨g,i*2+1,none⟩=some (.string (R.str l[i].2)):=qO (fun t:Hd=>[Value.string (R.str t.1),.string (R.str t.2)]) 2 (fun _=>rfl) HR.o HG.o i 1 ab (by omega) rfl
   have ah:=hid (zaD l i ab)
   have aw:=an.o i au
   have HO:=hid (ai.o l[i] (List.getElem_mem ab))
   generalize l[i]=x at*
   have gX:=hid (zJ wr (.cells #[.string (R.str x.1),.string (R.str x.2)] 346) none)
   have HX:=hid (heap_alloc_new wr (.cells #[.string (R.str x.1),.string (R.str x.2)] 346))
   have G2:=hid (zA HG.o gX.o)
   have al:=hid (IsBuilderF.keep aa.o gX.o)
   go_upto_region 5 with fail
   generalize wr.alloc (.cells #[.string (R.str x.1),.string (R.str x.2)] 346)=wx at*
   clear d0 d1 HG gX aa
   have x0:wx.cell? ⟨wr.heap.size,0,none⟩=some (.string (R.str x.1)):=z8 HX.o
   have x1:wx.cell? ⟨wr.heap.size,1,none⟩=some (.string (R.str x.2)):=z8 HX.o
   have ap:=hid (tf x (w:=wx.drew) HO.o.v HO.o.c (af.o.grown (zA G2.o (zQ wx))) (ag.o.grown (zA G2.o (zQ wx))))
   have az:=zq4 HO.o
   have ay:=HO.o.n
   have ao:Y (∀wS:World,Calls Tryz.prog 184 #[.slice (some ⟨wS.heap.size,0,none⟩) 3 3] (wS.alloc (.cells #[.string (R.str x.1),.string ⟨#[58,32]⟩,.string (R.str (Rq.sentValue x))] 9)) fun e w'=>e = .returned (.string (R.str (Rq.ln x)))/\wS.grownBy w' none):=fun wS=>(zaN wS.heap.size 3 [x.1,[58,32],Rq.sentValue x] (heap_alloc_new wS (.cells #[.string (R.str x.1),.string ⟨#[58,32]⟩,.string (R.str (Rq.sentValue x))] 9)) (by simp) (by simp) (by simp only[xP,List.flatten_nil,zW,zm,qi];omega)).mono fun e w' ⟨q1,q2⟩=>⟨q1,zA (zJ _ _ none) q2⟩
   have ax:=zq1 HO.o
   have aq:Y (∀W,wx.grownBy W none->Calls Tryz.prog 156 #[.pointer (some ⟨w.heap.size,0,none⟩),.string (R.str (Rq.ln x))] W fun e w'=>(∃n,e = .returned (.tuple #[.int .i64 n,.nilIface]))/\Lib.IsBuilderF 141 5 w.heap.size w.heap.size (Lib.byteCells (LnAt l (i+1))) w'/\w.grownBy w' none):=fun W hW=>by
    have hg:=zA G2.o hW
    refine(Tryz.Builder_WriteString w.heap.size w.heap.size _ (R.str (Rq.ln x)) W (IsBuilderF.keep al.o hW) (by rw[j9,R.str_size];omega) hg.size).mono fun e w' ⟨q1,q2,q3⟩=>⟨q1,?_,?_⟩
    ·rw[ah.o,Lib.byteCells_append,<-ziM];exact q2
    ·exact⟨q3.os.trans hg.os,q3.tape.trans hg.tape,q3.output.trans hg.output,zp hg.size q3.size,fun k hk _=>(q3.block k hk).trans (hg.block k hk (by simp))⟩
   clear HO ah ai af ag
   generalize Rq.ln x=lx at*
   generalize Rq.sentValue x=sx at*
   go_region_law (first | (go_simp;go_at_call 245;refine ap.o.mono ?_;rintro e wS ⟨rfl,gS⟩;have GS:=hid (zA (zQ wx) gS);have ar:=hid (zB HX.o GS.o (by simp));have y0:wS.cell? ⟨wr.heap.size,0,none⟩=some (.string (R.str x.1)):=z8 ar.o;clear gS) | (go_simp;go_at_call 184;refine(ao.o wS).mono ?_;rintro e wL ⟨rfl,gL⟩;have GL:=hid (zA GS.o gL);clear gL) | (go_simp;go_at_call 156;refine(aq.o _ GL.o).mono ?_;rintro e wT ⟨⟨nT,rfl⟩,hT,gT⟩;have am:=hid hT;have ak:=hid gT;clear hT gT))
   all_goals
    go_wp2_with fail
    go_roundw
    case rel=>exact⟨i+1,by omega,by go_num,ak,am⟩
    case measure=>simp[intOf];omega
  ·have hE:i=l.length:=by omega
   subst hE
   rw[HA.o] at aa
   have aj:=hid (Tryz.Builder_String w.heap.size w.heap.size (Rq.lines l) wr aa.o HG.o.size)
   go_wp2_with fail
   refine aj.o.mono ?_
   rintro e w9 ⟨rfl,b9⟩
   have G9:Y (w.grownBy w9 none):=⟨b9.os.trans HG.o.os,b9.tape.trans HG.o.tape,b9.output.trans HG.o.output,zp HG.o.size b9.size,fun k hk _=>(b9.block k hk).trans (HG.o.block k hk (by simp))⟩
   clear b9 aj
   go_wp2
   go_ret
   exact⟨rfl,G9.o⟩
end Go.Proofs.YtfocdefchbnkpaaGreatDoor
