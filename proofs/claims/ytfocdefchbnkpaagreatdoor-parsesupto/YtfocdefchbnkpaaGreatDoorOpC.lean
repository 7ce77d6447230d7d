import Derived.Test.YtfocdefchbnkpaaGreatDoorOpA
import Derived.Test.YtfocdefchbnkpaaGreatDoorLyI
set_option maxRecDepth 100000
set_option maxHeartbeats 20000000
open Go.Addr renaming add->Qp
open Go.World renaming block_lt_of_cell?->Mk
open List renaming range->Xs
open UInt8 renaming ofNat->Cb
namespace Go.Proofs.YtfocdefchbnkpaaGreatDoor
open Go.ChangeShapes Go.WideShapes Go.RowKit Go.Deep Proofs.Tryz
theorem ro {n:Int}(h:(Lit.int .i64 n).wf=true):-9223372036854775808<=n/\n<9223372036854775808:=by
 simp only[Lit.wf,Ez,Gd] at h;have a:IntKind.i64.min = -9223372036854775808:=by decide
 have b:IntKind.i64.max=9223372036854775807:=by decide
 rw[a,b] at h
 omega
theorem iQ {H:Type}(D:Nat->DataW H):∀n,vy (fun i=>Rows.uptoBulk (D i)) n=Rows.uptoBulkAll ((Xs n).map D)
 | 0=>rfl
 | n+1=>by
  have b:∀(l:List (DataW H)) (x:DataW H),Rows.uptoBulkAll (l++[x])=Rows.uptoBulkAll l+Rows.uptoBulk x:=fun l x=>by
   induction l with
   | nil=>simp[Rows.uptoBulkAll]
   | cons a t ih=>rw[Of,Rows.uptoBulkAll,Rows.uptoBulkAll,ih];omega
  rw[List.range_succ,Ef,Er,Fa,b,<-iQ D n];rfl
theorem lI {H:Type}{enc:TypeId×Value->H}{W:World}{v:Value}{f M:Nat}{x:DataW H×List MemPlace}(r:DataW.trod enc prog W 0 (fun _=>true) true f 32 [v]=some x)(q:Rows.uptoBulk x.1<=M):zjG W v M:=by
 rcases open_ints underlying32 underlying5 (by kernel_rfl) r with ⟨hcs,_⟩ | ⟨a,len,cap,zs,hcs,_,hl,hm,hz,rfl,hcell,hwf⟩
 ·simp at hcs
  exact⟨none,0,[],hcs,by simp,Or.inl ⟨none,0,rfl,rfl⟩,fun h=>absurd rfl h,fun _=>rfl⟩
 ·simp at hcs
  simp only[Gq] at hz;have i:(zs.take len).length=len:=by rw[Cq];omega
  have t:len<=M:=by
   have h:=q;simp only[Rows.uptoBulk] at h;have p:=mp (lits (H:=H) .u8 (zs.take len));have B:(lits (H:=H) .u8 (zs.take len)).length=len:=by unfold lits;rw[Bv,i]
   omega
  have c:((zs.take len).map fun z=>Cb z.toNat).length=len:=by rw[Bv,i]
  refine⟨some a,cap,(zs.take len).map fun z=>Cb z.toNat,by rw[c];exact hcs,by omega,?_,?_,fun h=>by cases h⟩
  ·by_cases l:len=0
   ·exact Or.inl ⟨some a,cap,by rw[c,l],Ep.1 (by rw[c,l])⟩
   ·obtain⟨b,n,k⟩:=a
    have d:k=none:=by simpa[Qp] using World.cell?_spot (hcell 0 (by omega))
    subst d;refine Or.inr ⟨b,n,cap,rfl,by omega,Mk W _ (hcell 0 (by omega)),fun j u hu=>?_⟩;have s:j<len:=by
     have:=(Bo.1 hu).1
     omega
    have h:=hcell j (by omega);rw[add_plain] at h;rw[h];rw[Fq,List.getElem?_take_of_lt s,Bd (by omega),Xo,Ey] at hu;have m:=hwf zs[j] (Cr _);simp only[Lit.wf,Ez,Gd] at m;have y:(0:Int)<=zs[j]:=m.1;have p:zs[j]<=255:=m.2;rw[<-hu,Qc,Gf,Bd (by omega),Option.getD_some]
    congr 2
    omega
  ·intro l g o e
   have w:0<len:=by
    rcases Sh len with hz | hz
    ·exact absurd (Ep.1 (by rw[c,hz])) l
    ·exact hz
   have h:=Mk W _ (hcell 0 (by omega))
   cases e
   simpa[Qp] using h
theorem lJ {H:Type}{enc:TypeId×Value->H}{W:World}{a0:Option Addr}{c s t:Nat}{x:DataW H×List MemPlace}(hf:DataW.trod enc prog W 0 (fun _=>true) true t 25 [.slice a0 c s]=some x)(hb:Rows.uptoBulk x.1<=1048576) :
  ∃f,dD W a0 c f/\vy f c<=1048576/\c<=1100000:=by
 rcases open_slice underlying25 hf with ⟨hcs,_⟩ | ⟨a,len',cap',m,n,D,Pl,hcs,_,hl,hm,hmm,rfl,hx⟩
 ·simp at hcs
  obtain⟨rfl,rfl,rfl⟩:=hcs;exact⟨fun _=>0,fun i hi=>by omega,Ax _,by omega⟩
 ·simp at hcs
  obtain⟨rfl,rfl,rfl⟩:=hcs;simp only[Gq] at hmm;obtain rfl:s=m:=hmm.symm;have v:Rows.uptoBulkAll ((Xs c).map D)<=1048576:=by
   have h:=hb;simp only[Rows.uptoBulk] at h
   omega
  have al:c<=1048576:=by
   have:=mp ((Xs c).map D);rw[Bv,List.length_range] at this
   omega
  refine⟨fun i=>Rows.uptoBulk (D i),fun i hi=>?_,by rw[iQ];exact v,by omega⟩;obtain⟨b,y,z⟩:=a;have q:z=none:=by
   obtain⟨N,u,_⟩:=hx 0 (by omega);rw[show(prog).cellsOf 80=6 by kernel_rfl] at u;obtain⟨_,ak,g⟩:=World.cells?_some u;have h:=g 0 (by omega);rw[Bd (by omega)] at h;have h2:=World.cell?_spot h
   simpa[Qp] using h2
  subst q;have aj:Rows.uptoBulk (D i)<=1048576:=Bi (mq (Hh (List.mem_range.2 hi))) v;obtain⟨N,u,h2⟩:=hx i (by omega);rw[show(prog).cellsOf 80=6 by kernel_rfl] at u;obtain⟨_,p,o⟩:=World.cells?_some u;obtain⟨xs,k,_,ah,_,ag,d⟩:=DataW.trod_struct underlying80 h2;have af:D i = .agg (xs.map (·.1)):=(Nn ah).1;obtain⟨B,y1,C,E,F,r,rfl⟩:∃B y1 C E F r,xs=[B,y1,C,E,F,r]:=by
   match xs,ag with
   | [B,y1,C,E,F,r],_=>exact⟨_,_,_,_,_,_,rfl⟩
  obtain⟨v0,v1,v2,v3,v4,v5,rfl⟩:∃v0 v1 v2 v3 v4 v5,N=[v0,v1,v2,v3,v4,v5]:=by
   match N,p with
   | [v0,v1,v2,v3,v4,v5],_=>exact⟨_,_,_,_,_,_,rfl⟩
  have ci:(prog).cellsOf 3=1:=by kernel_rfl
  have cu:(prog).cellsOf 60=1:=by kernel_rfl
  have Q:(prog).cellsOf 9=1:=by kernel_rfl
  have cb:(prog).cellsOf 32=1:=by kernel_rfl
  have g0:=d 0 _ rfl;have g1:=d 1 _ rfl;have g2:=d 2 _ rfl;have g3:=d 3 _ rfl;have g4:=d 4 _ rfl;have g5:=d 5 _ rfl;simp[ci] at g0 g1 g2;simp[cu] at g3;simp[Q] at g4;simp[cb] at g5;obtain⟨n0,e0,_,_⟩:=DataW.trod_int underlying3 g0;obtain⟨n1,e1,_,w1⟩:=DataW.trod_int underlying3 g1;obtain⟨n2,e2,_,_⟩:=DataW.trod_int underlying3 g2;obtain⟨n3,e3,_,_⟩:=DataW.trod_int underlying60 g3;obtain⟨s4,e4,_,ae⟩:=DataW.trod_string underlying9 g4;have ai:Rows.uptoBulk r.1<=Rows.uptoBulk (D i):=by
   have h:Rows.uptoBulk r.1<=Rows.uptoBulkAll [B.1,y1.1,C.1,E.1,F.1,r.1]:=mq (by simp);rw[af];simp only[Er,Fa,Rows.uptoBulk]
   omega
  obtain⟨sa,sc,l,e5,ab,ad,aa,w⟩:=lI g5 ai;simp only[List.cons.injEq,and_true] at e0 e1 e2 e3 e4;subst e0 e1 e2 e3 e4 e5;have g:∀j,j<6->W.cell? ⟨b,y+i*6+j,none⟩=[Value.int .i64 n0,.int .i64 n1,.int .i64 n2,.int .u64 n3,.string s4,.slice sa l.length sc][j]?:=fun j hj=>by
   have h:=o j hj;rw[add_plain,add_plain] at h;exact h
  exact⟨b,y,rfl,n0,n1,n2,n3,s4,sa,sc,l,g 0 (by omega),g 1 (by omega),g 2 (by omega),g 3 (by omega),g 4 (by omega),g 5 (by omega),⟨ae,ad,aa,w,by omega⟩,ab,(ro w1).1,(ro w1).2⟩
end Go.Proofs.YtfocdefchbnkpaaGreatDoor
