/- Requests as an argument: what their reading says of their cells. -/
import Derived.Test.YtfocdefchbnkpaaGreatDoorAli
import Derived.Test.YtfocdefchbnkpaaGreatDoorRows
import Derived.Test.YtfocdefchbnkpaaGreatDoorKeO
import Derived.Deep.Strs
import Derived.ChangeSlices
set_option maxRecDepth 100000
set_option maxHeartbeats 20000000
namespace Go.Proofs.YtfocdefchbnkpaaGreatDoor
open Go.ChangeShapes Go.WideShapes Go.RowKit Go.Deep
theorem q9q {n:Int}(h:(Lit.int .i64 n).wf=true):-9223372036854775808<=n/\n<=9223372036854775807:=by
 have h2:(decide (IntKind.i64.min<=n) && decide (n<=IntKind.i64.max))=true:=h
 simp only[Bool.and_eq_true,decide_eq_true_eq] at h2
 have e1:IntKind.i64.min = -9223372036854775808:=by decide
 have e2:IntKind.i64.max=9223372036854775807:=by decide
 rw[e1,e2] at h2
 exact h2
theorem q72q {H:Type}:∀(l:List (DataW H)),(∀d∈l,6<=Rows.uptoBulk d)->6*l.length<=Rows.uptoBulkAll l
 | [],_=>zl _
 | x :: r,h=>by
  rw[Rows.uptoBulkAll,zm]
  have h1:=h x List.mem_cons_self
  have h2:=q72q r (fun d hd=>h d (List.mem_cons_of_mem _ hd))
  omega
theorem q62q {H:Type}(k:IntKind):∀zs:List Int,Rows.uptoBulkAll (lits (H:=H) k zs)=zs.length
 | []=>rfl
 | z :: r=>by
  have h:=q62q (H:=H) k r
  show Rows.uptoBulk (DataW.lit (H:=H) (.int k z))+Rows.uptoBulkAll (lits (H:=H) k r)=r.length+1
  rw[h]
  simp only[Rows.uptoBulk]
  omega
theorem q98q {H:Type}{enc:TypeId×Value->H}{W:World}{a0:Option Addr}{aa ad ag:Nat}{x:DataW H×List MemPlace}(hf:DataW.trod enc Tryz.prog W 0 (fun _=>true) true ag 54 [.slice a0 aa ad]=some x)(hb:Rows.uptoBulk x.1<=1048576) :
  ∃qs:List Aw,qs.length=aa/\Qs W a0 qs/\aa<=400000:=by
 rcases open_slice Tryz.underlying54 hf with ⟨hcs,_⟩ | ⟨a,len',cap',m,n,D,Pl,hcs,_,hl,hm,hmm,rfl,hx⟩
 ·simp at hcs
  obtain⟨rfl,rfl,rfl⟩:=hcs
  exact⟨[],rfl,fun i hi=>(by cases hi),by omega⟩
 ·simp at hcs
  obtain⟨rfl,rfl,rfl⟩:=hcs
  simp only[if_true] at hmm
  obtain rfl:ad=m:=hmm.symm
  have aq:Rows.uptoBulkAll ((List.range aa).map D)<=1048576:=by
   have h:=hb
   simp only[Rows.uptoBulk] at h
   omega
  have af:∀i,i<aa->6<=Rows.uptoBulk (D i)/\∃q:Aw,q.Ok/\∃b o,some a=some ⟨b,o,none⟩/\b<W.heap.size/\(∀j v,q.cells[j]?=some v->W.cell? ⟨b,o+i*5+j,none⟩=some v):=fun i hi=>by
   obtain⟨b,ao,ap⟩:=a
   have ak:ap=none:=by
    obtain⟨cs,h1,_⟩:=hx 0 (by omega)
    rw[show(Tryz.prog).cellsOf 57=5 by kernel_rfl] at h1
    obtain⟨_,ar,hc⟩:=World.cells?_some h1
    have h:=hc 0 (by omega)
    rw[qN (by omega)] at h
    have h2:=World.cell?_spot h
    simpa[Addr.add] using h2
   subst ak
   obtain⟨cs,h1,h2⟩:=hx i (by omega)
   rw[show(Tryz.prog).cellsOf 57=5 by kernel_rfl] at h1
   obtain⟨_,ai,ae⟩:=World.cells?_some h1
   obtain⟨xs,k,_,an,_,am,ab⟩:=DataW.trod_struct Tryz.underlying57 h2
   have al:D i = .agg (xs.map (·.1)):=(Prod.mk.inj an).1
   obtain⟨y0,y1,y2,y3,y4,rfl⟩:∃y0 y1 y2 y3 y4,xs=[y0,y1,y2,y3,y4]:=by
    match xs,am with
    | [y0,y1,y2,y3,y4],_=>exact⟨_,_,_,_,_,rfl⟩
   obtain⟨v0,v1,v2,v3,v4,rfl⟩:∃v0 v1 v2 v3 v4,cs=[v0,v1,v2,v3,v4]:=by
    match cs,ai with
    | [v0,v1,v2,v3,v4],_=>exact⟨_,_,_,_,_,rfl⟩
   have ci:(Tryz.prog).cellsOf 3=1:=by kernel_rfl
   have g0:=ab 0 _ rfl
   have g1:=ab 1 _ rfl
   have g2:=ab 2 _ rfl
   have g3:=ab 3 _ rfl
   have g4:=ab 4 _ rfl
   simp[ci] at g0 g1 g2 g3 g4
   obtain⟨n0,e0,f0,w0⟩:=DataW.trod_int Tryz.underlying3 g0
   obtain⟨n1,e1,f1,w1⟩:=DataW.trod_int Tryz.underlying3 g1
   obtain⟨n2,e2,f2,w2⟩:=DataW.trod_int Tryz.underlying3 g2
   obtain⟨n3,e3,f3,w3⟩:=DataW.trod_int Tryz.underlying3 g3
   obtain⟨n4,e4,f4,w4⟩:=DataW.trod_int Tryz.underlying3 g4
   simp only[List.cons.injEq,and_true] at e0 e1 e2 e3 e4
   subst e0 e1 e2 e3 e4
   refine⟨?_,⟨n0,n1,n2,n3,n4⟩,⟨q9q w0,q9q w1,q9q w2,q9q w3,q9q w4⟩,b,ao,rfl,?_,fun j v hv=>?_⟩
   ·rw[al,f0,f1,f2,f3,f4]
    simp[Rows.uptoBulk,Rows.uptoBulkAll]
   ·have h9:=ae 0 (by decide)
    rw[add_plain,add_plain] at h9
    exact World.block_lt_of_cell? W _ (h9.trans rfl)
   ·have hj:j<5:=(List.getElem?_eq_some_iff.1 hv).1
    have h:=ae j hj
    rw[add_plain,add_plain] at h
    rw[h]
    exact hv
  have h6:=q72q ((List.range aa).map D) (fun d hd=>by
   obtain⟨i,hi,rfl⟩:=List.mem_map.1 hd
   exact(af i (List.mem_range.1 hi)).1)
  rw[qw,List.length_range] at h6
  have ex:∀i,∃q:Aw,i<aa->q.Ok/\∃b o,some a=some ⟨b,o,none⟩/\b<W.heap.size/\(∀j v,q.cells[j]?=some v->W.cell? ⟨b,o+i*5+j,none⟩=some v):=fun i=>by
   by_cases hi:i<aa
   ·obtain⟨q,hq⟩:=(af i hi).2
    exact⟨q,fun _=>hq⟩
   ·exact⟨⟨0,0,0,0,0⟩,fun h=>absurd h hi⟩
  refine⟨(List.range aa).map fun i=>(ex i).choose,by rw[qw,List.length_range],fun i hi=>?_,by omega⟩
  have ah:i<aa:=by simpa using hi
  obtain⟨aj,b,o,e1,e2,e3⟩:=(ex i).choose_spec ah
  refine⟨b,o,e1,e2,fun j v hv=>e3 j v ?_,?_⟩
  ·rw[List.getElem_map,List.getElem_range] at hv
   exact hv
  ·rw[List.getElem_map,List.getElem_range]
   exact aj
theorem q99q {H:Type}{enc:TypeId×Value->H}{W:World}{a0:Option Addr}{aa ad ae:Nat}{x:DataW H×List MemPlace}(hf:DataW.trod enc Tryz.prog W 0 (fun _=>true) true ae 55 [.slice a0 aa ad]=some x)(hb:Rows.uptoBulk x.1<=1048576) :
  ∃zs:List Int,zs.length=aa/\Zs W a0 zs/\aa<=10000000:=by
 rcases open_ints Tryz.underlying55 Tryz.underlying3 (by kernel_rfl) hf with ⟨hcs,_⟩ | ⟨a,len',cap',zs,hcs,_,hl,hmx,hzl,rfl,hcell,hwf⟩
 ·simp at hcs
  obtain⟨rfl,rfl,rfl⟩:=hcs
  exact⟨[],rfl,fun i h=>(by cases h),by omega⟩
 ·simp at hcs
  obtain⟨rfl,rfl,rfl⟩:=hcs
  simp only[if_true] at hzl
  have ab:(zs.take aa).length=aa:=by rw[List.length_take];omega
  have ai:aa<=1048576:=by
   have h:=hb
   simp only[Rows.uptoBulk] at h
   rw[q62q,ab] at h
   omega
  refine⟨zs.take aa,ab,fun i h=>?_,by omega⟩
  have hi:i<zs.length:=by rw[ab] at h;omega
  have hc:=hcell i hi
  obtain⟨b,ag,ah⟩:=a
  have af:ah=none:=by simpa[Addr.add] using World.cell?_spot (hcell 0 (by omega))
  subst af
  refine⟨b,ag,rfl,?_,?_⟩
  ·rw[add_plain] at hc
   rw[hc,List.getElem_take]
   simp[hi]
  ·rw[List.getElem_take]
   exact q9q (hwf _ (List.getElem_mem hi))
end Go.Proofs.YtfocdefchbnkpaaGreatDoor
