/- A script as an argument: what its reading says of its cells. -/
import Derived.Test.YtfocdefchbnkpaaGreatDoorAli
import Derived.Test.YtfocdefchbnkpaaGreatDoorRows
import Derived.Test.YtfocdefchbnkpaaGreatDoorLwI
import Derived.Deep.Strs
set_option maxRecDepth 100000
set_option maxHeartbeats 20000000
namespace Go.Proofs.YtfocdefchbnkpaaGreatDoor
open Go.ChangeShapes Go.WideShapes Go.RowKit Go.Deep
theorem zcF {H:Type}{d:DataW H}:∀{l:List (DataW H)},d∈l->Rows.uptoBulk d<=Rows.uptoBulkAll l
 | [],h=>by cases h
 | x :: r,h=>by
  rw[Rows.uptoBulkAll]
  rcases List.mem_cons.1 h with rfl | h
  ·omega
  ·have:=zcF h;omega
theorem zr6 {H:Type}(d:DataW H):0<Rows.uptoBulk d:=by
 cases d with
 | lit x=>cases x <;> simp[Rows.uptoBulk]
 | _=>simp[Rows.uptoBulk]
theorem zcB {H:Type}:∀(l:List (DataW H)),l.length<=Rows.uptoBulkAll l
 | []=>zo _
 | x :: r=>by
  rw[Rows.uptoBulkAll,zoF]
  have h1:=zr6 x
  have h2:=zcB r
  omega
def zrO (W:World)(v:Value)(n:Nat):Prop:=∃(sa:Option Addr) (sc:Nat) (l:List UInt8),v = .slice sa l.length sc/\l.length<=n/\RdO W (.slice sa l.length sc) l/\(l≠[]->∀g o,sa=some ⟨g,o,none⟩->g<W.heap.size)/\(sa=none->l=[])
theorem zlS {H:Type}{enc:TypeId×Value->H}{W:World}{v:Value}{ad:Nat}{x:DataW H×List MemPlace}(hf:DataW.trod enc Tryz.prog W 0 (fun _=>true) true ad 32 [v]=some x)(hb:Rows.uptoBulk x.1<=1048576):zrO W v 1048576:=by
 rcases open_ints Tryz.underlying32 Tryz.underlying5 (by kernel_rfl) hf with ⟨hcs,_⟩ | ⟨a,len,cap,zs,hcs,_,hl,hm,hz,rfl,hcell,hwf⟩
 ·simp at hcs
  exact⟨none,0,[],hcs,by simp,Or.inl ⟨none,0,rfl,rfl⟩,fun h=>absurd rfl h,fun _=>rfl⟩
 ·simp at hcs
  simp only[if_true] at hz
  have ab:(zs.take len).length=len:=by rw[List.length_take];omega
  have ah:len<=1048576:=by
   have h:=hb
   simp only[Rows.uptoBulk] at h
   have h2:=zcB (lits (H:=H) .u8 (zs.take len))
   have h3:(lits (H:=H) .u8 (zs.take len)).length=len:=by unfold lits;rw[xW,ab]
   omega
  have aa:((zs.take len).map fun z=>UInt8.ofNat z.toNat).length=len:=by rw[xW,ab]
  refine⟨some a,cap,(zs.take len).map fun z=>UInt8.ofNat z.toNat,by rw[aa];exact hcs,by omega,?_,?_,fun h=>by cases h⟩
  ·by_cases h0:len=0
   ·exact Or.inl ⟨some a,cap,by rw[aa,h0],List.length_eq_zero_iff.1 (by rw[aa,h0])⟩
   ·obtain⟨b,af,ag⟩:=a
    have ae:ag=none:=by simpa[Addr.add] using World.cell?_spot (hcell 0 (by omega))
    subst ae
    refine Or.inr ⟨b,af,cap,rfl,by omega,World.block_lt_of_cell? W _ (hcell 0 (by omega)),fun j u hu=>?_⟩
    have hj:j<len:=by
     have:=(List.getElem?_eq_some_iff.1 hu).1
     omega
    have h:=hcell j (by omega)
    rw[add_plain] at h
    rw[h]
    rw[List.getElem?_map,List.getElem?_take_of_lt hj,xo (by omega),Option.map_some,Option.some.injEq] at hu
    have hw:=hwf zs[j] (List.getElem_mem _)
    simp only[Lit.wf,Bool.and_eq_true,decide_eq_true_eq] at hw
    have h1:(0:Int)<=zs[j]:=hw.1
    have h2:zs[j]<=255:=hw.2
    rw[<-hu,UInt8.toNat_ofNat',List.getD_eq_getElem?_getD,xo (by omega),Option.getD_some]
    congr 2
    omega
  ·intro h0 g o e
   have ai:0<len:=by
    rcases Nat.eq_zero_or_pos len with hz | hz
    ·exact absurd (List.length_eq_zero_iff.1 (by rw[aa,hz])) h0
    ·exact hz
   have h:=World.block_lt_of_cell? W _ (hcell 0 (by omega))
   cases e
   simpa[Addr.add] using h
theorem zk5 {H:Type}{enc:TypeId×Value->H}{W:World}{a0:Option Addr}{ab ad ah:Nat}{x:DataW H×List MemPlace}(hf:DataW.trod enc Tryz.prog W 0 (fun _=>true) true ah 25 [.slice a0 ab ad]=some x)(hb:Rows.uptoBulk x.1<=1048576) :
  ft W a0 ab/\ab<=1100000:=by
 rcases open_slice Tryz.underlying25 hf with ⟨hcs,_⟩ | ⟨a,len',cap',m,n,D,Pl,hcs,_,hl,hm,hmm,rfl,hx⟩
 ·simp at hcs
  obtain⟨rfl,rfl,rfl⟩:=hcs
  exact⟨fun i hi=>by omega,by omega⟩
 ·simp at hcs
  obtain⟨rfl,rfl,rfl⟩:=hcs
  simp only[if_true] at hmm
  obtain rfl:ad=m:=hmm.symm
  have ak:Rows.uptoBulkAll ((List.range ab).map D)<=1048576:=by
   have h:=hb
   simp only[Rows.uptoBulk] at h
   omega
  have ay:ab<=1048576:=by
   have:=zcB ((List.range ab).map D)
   rw[xW,List.length_range] at this
   omega
  refine⟨fun i hi=>?_,by omega⟩
  obtain⟨b,af,aw⟩:=a
  have ap:aw=none:=by
   obtain⟨cs,h1,_⟩:=hx 0 (by omega)
   rw[show(Tryz.prog).cellsOf 80=6 by kernel_rfl] at h1
   obtain⟨_,ax,hc⟩:=World.cells?_some h1
   have h:=hc 0 (by omega)
   rw[xo (by omega)] at h
   have h2:=World.cell?_spot h
   simpa[Addr.add] using h2
  subst ap
  have ae:Rows.uptoBulk (D i)<=1048576:=qf (zcF (List.mem_map_of_mem (List.mem_range.2 hi))) ak
  obtain⟨cs,h1,h2⟩:=hx i (by omega)
  rw[show(Tryz.prog).cellsOf 80=6 by kernel_rfl] at h1
  obtain⟨_,al,aj⟩:=World.cells?_some h1
  obtain⟨xs,k,_,au,_,ar,aa⟩:=DataW.trod_struct Tryz.underlying80 h2
  have aq:D i = .agg (xs.map (·.1)):=(Prod.mk.inj au).1
  obtain⟨y0,y1,y2,y3,y4,y5,rfl⟩:∃y0 y1 y2 y3 y4 y5,xs=[y0,y1,y2,y3,y4,y5]:=by
   match xs,ar with
   | [y0,y1,y2,y3,y4,y5],_=>exact⟨_,_,_,_,_,_,rfl⟩
  obtain⟨v0,v1,v2,v3,v4,v5,rfl⟩:∃v0 v1 v2 v3 v4 v5,cs=[v0,v1,v2,v3,v4,v5]:=by
   match cs,al with
   | [v0,v1,v2,v3,v4,v5],_=>exact⟨_,_,_,_,_,_,rfl⟩
  have ci:(Tryz.prog).cellsOf 3=1:=by kernel_rfl
  have cu:(Tryz.prog).cellsOf 60=1:=by kernel_rfl
  have ag:(Tryz.prog).cellsOf 9=1:=by kernel_rfl
  have cb:(Tryz.prog).cellsOf 32=1:=by kernel_rfl
  have g0:=aa 0 _ rfl
  have g1:=aa 1 _ rfl
  have g2:=aa 2 _ rfl
  have g3:=aa 3 _ rfl
  have g4:=aa 4 _ rfl
  have g5:=aa 5 _ rfl
  simp[ci] at g0 g1 g2
  simp[cu] at g3
  simp[ag] at g4
  simp[cb] at g5
  obtain⟨n0,e0,_,_⟩:=DataW.trod_int Tryz.underlying3 g0
  obtain⟨n1,e1,_,_⟩:=DataW.trod_int Tryz.underlying3 g1
  obtain⟨n2,e2,_,_⟩:=DataW.trod_int Tryz.underlying3 g2
  obtain⟨n3,e3,_,_⟩:=DataW.trod_int Tryz.underlying60 g3
  obtain⟨s4,e4,_,ao⟩:=DataW.trod_string Tryz.underlying9 g4
  have av:Rows.uptoBulk y5.1<=1048576:=by
   have h:Rows.uptoBulk y5.1<=Rows.uptoBulkAll [y0.1,y1.1,y2.1,y3.1,y4.1,y5.1]:=zcF (by simp)
   rw[aq] at ae
   simp only[xl,List.map_nil,Rows.uptoBulk] at ae
   omega
  obtain⟨sa,sc,l,e5,az,an,ai,am⟩:=zlS g5 av
  simp only[List.cons.injEq,and_true] at e0 e1 e2 e3 e4
  subst e0 e1 e2 e3 e4 e5
  have hc:∀j,j<6->W.cell? ⟨b,af+i*6+j,none⟩=[Value.int .i64 n0,.int .i64 n1,.int .i64 n2,.int .u64 n3,.string s4,.slice sa l.length sc][j]?:=fun j hj=>by
   have h:=aj j hj
   rw[add_plain,add_plain] at h
   exact h
  exact⟨b,af,rfl,n0,n1,n2,n3,s4,sa,sc,l,hc 0 (by omega),hc 1 (by omega),hc 2 (by omega),hc 3 (by omega),hc 4 (by omega),hc 5 (by omega),ao,an,ai,am,by omega⟩
end Go.Proofs.YtfocdefchbnkpaaGreatDoor
