/- Rules and hosts in memory; a rule's number and a host's name, as the program's reader reads them. -/
import Derived.Test.YtfocdefchbnkpaaGreatDoorAli
import Derived.Test.YtfocdefchbnkpaaGreatDoorProI
import Derived.Test.YtfocdefchbnkpaaGreatDoorRefJ
import Derived.Lib.SliceRun
import Derived.Deep.AppendLies
set_option maxRecDepth 100000
set_option maxHeartbeats 20000000
namespace Go.Proofs.YtfocdefchbnkpaaGreatDoor
open Go.RowKit
def qY (l:List P.Mt):List Value:=(l.map P.Mt.cells).flatten
theorem vi (l:List P.Mt)(m:P.Mt):qY (l++[m])=qY l++m.cells:=by simp[qY]
def PRuleVal (w:World)(cells:List Value)(r:P.Rl):Prop:=
 ∃vM vT vS vD,cells=[.int .i64 r.number,.string (R.str r.path),vM,vT,.string (R.str r.rep),vS,vD]/\
  w.ownsRow 0 276 3 vM r.ms.length (qY r.ms)/\w.ownsRow 0 285 2 vT r.tg.length (zi r.tg)/\
  w.ownsRow 0 280 2 vS r.sets.length (zb r.sets)/\w.ownsRow 0 9 1 vD r.drops.length (zh r.drops)
def PRulesRow (w:World)(B:Nat)(v:Value)(rs:List P.Rl):Prop:=
 ∃css:List (List Value),w.ownsRow B 213 7 v rs.length css.flatten/\All2 (PRuleVal w) css rs
def PHostVal (w:World)(cells:List Value)(h:P.Hst):Prop:=∃vR,cells=[.string (R.str h.name),vR]/\PRulesRow w 0 vR h.rules
def PHostsRow (w:World)(B:Nat)(v:Value)(hs:List P.Hst):Prop:=
 ∃css:List (List Value),w.ownsRow B 146 2 v hs.length css.flatten/\All2 (PHostVal w) css hs
def pleaves:List TypeId:=[276,285,280,9]
def prtags:List TypeId:=213 :: pleaves
def phtags:List TypeId:=146 :: prtags
theorem jM {w:World}{row:Option Nat}{a:TypeId}{l:List TypeId}(h:Safe w row (a :: l)):Safe w row l:=fun k c t f hk hb hm=>h k c t f hk hb (List.mem_cons_of_mem _ hm)
theorem PRuleVal.keep {w w':World}{cs:List Value}{r:P.Rl}{row:Option Nat}(h:PRuleVal w cs r)(hg:w.grownBy w' row)(hs:Safe w row pleaves):PRuleVal w' cs r:=by
 obtain⟨vM,vT,vS,vD,e,h1,h2,h3,h4⟩:=h
 exact⟨vM,vT,vS,vD,e,xE h1 hg hs (by decide),xE h2 hg hs (by decide),xE h3 hg hs (by decide),xE h4 hg hs (by decide)⟩
theorem PRulesRow.keep {w w':World}{B:Nat}{v:Value}{rs:List P.Rl}{row:Option Nat}(h:PRulesRow w B v rs)(hg:w.grownBy w' row)(hs:Safe w row prtags):PRulesRow w' B v rs:=by
 obtain⟨aa,h1,h2⟩:=h
 exact⟨aa,xE h1 hg hs (by decide),h2.map fun a b hab=>hab.keep hg (jM hs)⟩
theorem PRulesRow.base {w:World}{B B':Nat}{v:Value}{rs:List P.Rl}(h:PRulesRow w B v rs)(hb:B'<=B):PRulesRow w B' v rs:=by
 obtain⟨aa,h1,h2⟩:=h;exact⟨aa,qK h1 hb,h2⟩
theorem PHostVal.keep {w w':World}{cs:List Value}{h:P.Hst}{row:Option Nat}(hv:PHostVal w cs h)(hg:w.grownBy w' row)(hs:Safe w row prtags):PHostVal w' cs h:=by
 obtain⟨vR,e,h1⟩:=hv;exact⟨vR,e,h1.keep hg hs⟩
theorem PHostsRow.keep {w w':World}{B:Nat}{v:Value}{hs:List P.Hst}{row:Option Nat}(h:PHostsRow w B v hs)(hg:w.grownBy w' row)(aa:Safe w row phtags):PHostsRow w' B v hs:=by
 obtain⟨ab,h1,h2⟩:=h
 exact⟨ab,xE h1 hg aa (by decide),h2.map fun a b hab=>hab.keep hg (jM aa)⟩
theorem PInv.safe {w:World}{rb:Nat}{s:ByteArray}{st:P.St}{l:List TypeId}(h:PInv w rb s st)(hn:204 ∉ l):Safe w (some rb) l:=qx h.rd hn
theorem ku {w:World}{aa:List (List Value)}{rs:List P.Rl}(h:All2 (PRuleVal w) aa rs)(k:Nat)(hk:k<rs.length):∃cs,PRuleVal w cs rs[k]/\∀j,j<7->aa.flatten[k*7+j]?=cs[j]?:=by
 induction h generalizing k with
 | nil=>simp at hk
 | @cons c r cs rs hc _ ih=>
  have e:c.length=7:=by obtain⟨vM,vT,vS,vD,rfl,_⟩:=hc;rfl
  match k with
  | 0=>exact⟨c,hc,fun j hj=>by rw[xP,List.getElem?_append_left (by omega)];simp⟩
  | k+1=>
   obtain⟨d,h1,h2⟩:=ih k (by simpa using hk)
   refine⟨d,h1,fun j hj=>?_⟩
   rw[xP,List.getElem?_append_right (by omega),e,show(k+1)*7+j - 7=k*7+j by omega,h2 j hj]
theorem kv {w:World}{aa:List (List Value)}{hs:List P.Hst}(h:All2 (PHostVal w) aa hs)(k:Nat)(hk:k<hs.length):∃cs,PHostVal w cs hs[k]/\∀j,j<2->aa.flatten[k*2+j]?=cs[j]?:=by
 induction h generalizing k with
 | nil=>simp at hk
 | @cons c r cs rs hc _ ih=>
  have e:c.length=2:=by obtain⟨vR,rfl,_⟩:=hc;rfl
  match k with
  | 0=>exact⟨c,hc,fun j hj=>by rw[xP,List.getElem?_append_left (by omega)];simp⟩
  | k+1=>
   obtain⟨d,h1,h2⟩:=ih k (by simpa using hk)
   refine⟨d,h1,fun j hj=>?_⟩
   rw[xP,List.getElem?_append_right (by omega),e,show(k+1)*2+j - 2=k*2+j by omega,h2 j hj]
theorem zcI (b:Nat)(n:Int)(w:World)(B:Nat)(v:Value)(rs:List P.Rl)(hR:PRulesRow w B v rs)(hn:rs.length<=2000000000000)(hc:w.cell? ⟨b,0,none⟩=some (.int .i64 n)) :
  Calls Tryz.prog 329 #[v,.func (.func 328) #[] #[.pointer (some ⟨b,0,none⟩)]] w fun e w'=>e = .returned (.bool ((rs.map P.Rl.number).any fun m=>decide (m=n)))/\w.grownBy w' none:=by
 obtain⟨aa,h1,h2⟩:=hR
 have h:=vZ b n w v (rs.map P.Rl.number) aa (by rw[qw];exact qK h1 (zl _)) (by rw[qw];exact hn) hc (fun k hk j hj=>by
  rw[qw] at hk
  obtain⟨cs,⟨vM,vT,vS,vD,e,_⟩,ha⟩:=ku h2 k hk
  subst e
  have:=ha j hj
  match j,hj with
  | 0,_=>exact⟨_,this,fun _=>by rw[List.getElem_map]⟩
  | 1,_=>exact⟨_,this,fun h=>absurd h (by decide)⟩
  | 2,_=>exact⟨_,this,fun h=>absurd h (by decide)⟩
  | 3,_=>exact⟨_,this,fun h=>absurd h (by decide)⟩
  | 4,_=>exact⟨_,this,fun h=>absurd h (by decide)⟩
  | 5,_=>exact⟨_,this,fun h=>absurd h (by decide)⟩
  | 6,_=>exact⟨_,this,fun h=>absurd h (by decide)⟩)
 have e:(fun x:Int=>x == n)=fun m=>decide (m=n):=by funext x;rw[Bool.eq_iff_iff];simp
 rw[e] at h;exact h
theorem zcH (b:Nat)(nm:List UInt8)(w:World)(B:Nat)(v:Value)(hs:List P.Hst)(hR:PHostsRow w B v hs)(hn:hs.length<=2000000000000)(hc:w.cell? ⟨b,0,none⟩=some (.string (R.str nm))) :
  Calls Tryz.prog 269 #[v,.func (.func 267) #[] #[.pointer (some ⟨b,0,none⟩)]] w fun e w'=>e = .returned (.bool ((hs.map P.Hst.name).any fun m=>decide (m=nm)))/\w.grownBy w' none:=by
 obtain⟨aa,h1,h2⟩:=hR
 have h:=vY b (R.str nm) w v (hs.map fun h=>R.str h.name) aa (by rw[qw];exact qK h1 (zl _)) (by rw[qw];exact hn) hc (fun k hk j hj=>by
  rw[qw] at hk
  obtain⟨cs,⟨vR,e,_⟩,ha⟩:=kv h2 k hk
  subst e
  have:=ha j hj
  match j,hj with
  | 0,_=>exact⟨_,this,fun _=>by rw[List.getElem_map]⟩
  | 1,_=>exact⟨_,this,fun h=>absurd h (by decide)⟩)
 rw[List.any_map] at h
 simp only[Function.comp_def,zj9] at h
 rw[List.any_map];exact h
theorem fu {w:World}{rb:Nat}{s:ByteArray}{st:P.St}(h:PInv w rb s st)(B:Nat)(v:Value)(rs:List P.Rl)(hR:PRulesRow w B v rs)(hn:rs.length<=2000000000000) :
  Calls Tryz.prog 270 #[.pointer (some ⟨rb,0,none⟩),v] w fun e w'=>e = .returned (.int .i64 (xU s.data.toList st (rs.map P.Rl.number)).1)/\PInv w' rb s (xU s.data.toList st (rs.map P.Rl.number)).2/\w.grownBy w' (some rb)/\0<=(xU s.data.toList st (rs.map P.Rl.number)).1/\(xU s.data.toList st (rs.map P.Rl.number)).1<=99999:=by
 have HP:Y (xU s.data.toList st (rs.map P.Rl.number)=((qU s.data.toList st).1,zX (zX (qU s.data.toList st).2 (decide (65535<(qU s.data.toList st).1)) 4 st.tok.at_) ((rs.map P.Rl.number).any fun n=>decide (n=(qU s.data.toList st).1)) 5 st.tok.at_)):=rfl
 have H0:Y _:=h
 have an:=zE h.rd
 have HR:Y (PRulesRow w B v rs):=hR
 have HN:Y _:=hn
 clear h hR hn
 go_enter Tryz.func270,Tryz.ntmps270
 have C0:Y (w.grownBy w (some rb)):=zM _ _
 go_wp2_with fail
 refine(kB H0.o).mono ?_
 rintro e w1 ⟨rfl,I1,ad,aj,ak⟩
 have J1:Y _:=I1
 have b1:=zE J1.o.rd
 have s1:w.heap.size+0<=w1.heap.size:=by have h:=ad.size;simpa using h
 have G1:Y (w.grownBy w1 (some rb)):=ad
 have C1:=J (zA C0.o G1.o)
 have z1:=C1.o.size
 clear ad I1
 generalize qU s.data.toList st=q at*
 obtain⟨aa,aq⟩:=q
 simp only at J1 HP aj ak ⊢
 go_wp2_with fail
 have J2:Y _:=J1.o.keep (zJ w1 (.cells #[.int .i64 aa] 3) none)
 have C2:Y (w.grownBy (World.alloc w1 (.cells #[.int .i64 aa] 3)) (some rb)):=zA C1.o (zJ w1 (.cells #[.int .i64 aa] 3) _)
 have al:Y ((World.alloc w1 (.cells #[.int .i64 aa] 3)).heap[w1.heap.size]?=some (.cells #[.int .i64 aa] 3)):=heap_alloc_new _ _
 have s2:w1.heap.size+1<=(World.alloc w1 (.cells #[.int .i64 aa] 3)).heap.size:=by simp
 have t2:(World.alloc w1 (.cells #[.int .i64 aa] 3)).heap.size<=w1.heap.size+1:=by simp
 generalize(World.alloc w1 (.cells #[.int .i64 aa] 3))=w2 at*
 have b2:rb<w2.heap.size:=by omega
 have z2:=C2.o.size
 refine(xV J2.o _ _ _).mono ?_
 rintro e w3 ⟨rfl,I3,ae⟩
 have J3:Y _:=I3
 have b3:=zE J3.o.rd
 have s3:w2.heap.size+0<=w3.heap.size:=by have h:=ae.size;simpa using h
 have G3:Y (w2.grownBy w3 (some rb)):=ae
 have C3:=J (zA C2.o G3.o)
 have z3:=C3.o.size
 have ah:=J (zB al.o G3.o (by simp;omega))
 clear ae I3
 go_wp2_with fail
 refine(zcI w1.heap.size aa _ B v rs (HR.o.keep C3.o (H0.o.safe (by decide))) HN.o (z8 ah.o)).mono ?_
 rintro e w4 ⟨rfl,ab⟩
 have af:=zk ab (some rb)
 have J4:Y _:=(J3.o).keep ab
 have b4:=zE J4.o.rd
 have s4:w3.heap.size+0<=w4.heap.size:=by have h:=af.size;simpa using h
 have G4:Y (w3.grownBy w4 (some rb)):=af
 have C4:=J (zA C3.o G4.o)
 have z4:=C4.o.size
 have am:=J (zB ah.o G4.o (by simp;omega))
 clear af ab
 go_wp2_with fail
 refine(xV J4.o _ _ _).mono ?_
 rintro e w5 ⟨rfl,I5,ag⟩
 have J5:Y _:=I5
 have b5:=zE J5.o.rd
 have s5:w4.heap.size+0<=w5.heap.size:=by have h:=ag.size;simpa using h
 have G5:Y (w4.grownBy w5 (some rb)):=ag
 have C5:=J (zA C4.o G5.o)
 have z5:=C5.o.size
 have ai:=J (zB am.o G5.o (by simp;omega))
 clear ag I5
 have ap:=zE ai.o
 have ao:=zqV ai.o
 go_wp2
 go_ret
 exact⟨by rw[HP.o];rfl,by rw[HP.o,List.any_map];exact J5.o,C5.o,by rw[HP.o];exact aj,by rw[HP.o];exact ak⟩
theorem zcJ {w:World}{rb:Nat}{s:ByteArray}{st:P.St}(h:PInv w rb s st)(B:Nat)(v:Value)(hs:List P.Hst)(hR:PHostsRow w B v hs)(hn:hs.length<=2000000000000)(hG:Glob w)(aw:rb≠0) :
  Calls Tryz.prog 207 #[.pointer (some ⟨rb,0,none⟩),v] w fun e w'=>e = .returned (.string (R.str (qj s.data.toList st (hs.map P.Hst.name)).1))/\PInv w' rb s (qj s.data.toList st (hs.map P.Hst.name)).2/\w.grownBy w' (some rb):=by
 have HP:Y (qj s.data.toList st (hs.map P.Hst.name)=(R.lower (zg s.data.toList st).1,
 zX (zX (zg s.data.toList st).2 (!R.named (zg s.data.toList st).1 true) 4 st.tok.at_) ((hs.map P.Hst.name).any fun n=>decide (n=R.lower (zg s.data.toList st).1)) 5 st.tok.at_)):=rfl
 have H0:Y _:=h
 have ax:=zE h.rd
 have HR:Y (PHostsRow w B v hs):=hR
 have HN:Y _:=hn
 have HG:Y (Glob w):=hG
 have HL:Y ((R.str (zg s.data.toList st).1).size<=24):=h.slen
 clear h hR hn hG
 go_enter Tryz.func207,Tryz.ntmps207
 have C0:Y (w.grownBy w (some rb)):=zM _ _
 go_wp2_with fail
 refine(yd H0.o).mono ?_
 rintro e w1 ⟨rfl,I1,af⟩
 have J1:Y _:=I1
 have b1:=zE J1.o.rd
 have s1:w.heap.size+0<=w1.heap.size:=by have h:=af.size;simpa using h
 have G1:Y (w.grownBy w1 (some rb)):=af
 have C1:=J (zA C0.o G1.o)
 have z1:=C1.o.size
 clear af I1
 generalize zg s.data.toList st=q at*
 obtain⟨aa,aA⟩:=q
 simp only at J1 HP HL ⊢
 have ap:Y ((R.str aa).size<=1000000000000):=by have:=HL.o;show _<=_;omega
 have aq:Y ((R.str aa).size<=3000):=by have:=HL.o;show _<=_;omega
 go_wp2_with fail
 refine(jc _ _ ap.o).mono ?_
 rintro e w2 ⟨rfl,ab⟩
 have ag:=zk ab (some rb)
 have J2:Y _:=(J1.o).keep ab
 have b2:=zE J2.o.rd
 have s2:w1.heap.size+0<=w2.heap.size:=by have h:=ag.size;simpa using h
 have G2:Y (w1.grownBy w2 (some rb)):=ag
 have C2:=J (zA C1.o G2.o)
 have z2:=C2.o.size
 clear ag ab
 rw[R.str_toList]
 go_wp2_with fail
 have J3:Y _:=J2.o.keep (zJ w2 (.cells #[.string (R.str (R.lower aa))] 9) none)
 have C3:Y (w.grownBy (World.alloc w2 (.cells #[.string (R.str (R.lower aa))] 9)) (some rb)):=zA C2.o (zJ w2 (.cells #[.string (R.str (R.lower aa))] 9) _)
 have ar:Y ((World.alloc w2 (.cells #[.string (R.str (R.lower aa))] 9)).heap[w2.heap.size]?=some (.cells #[.string (R.str (R.lower aa))] 9)):=heap_alloc_new _ _
 have s3:w2.heap.size+1<=(World.alloc w2 (.cells #[.string (R.str (R.lower aa))] 9)).heap.size:=by simp
 have t3:(World.alloc w2 (.cells #[.string (R.str (R.lower aa))] 9)).heap.size<=w2.heap.size+1:=by simp
 generalize(World.alloc w2 (.cells #[.string (R.str (R.lower aa))] 9))=w3 at*
 have b3:rb<w3.heap.size:=by omega
 have z3:=C3.o.size
 obtain⟨gm,an⟩:=HG.o.keep C3.o (by simpa using aw)
 have ao:Y _:=an
 clear an
 refine(zhV _ _ gm ao.o aq.o).mono ?_
 rintro e w4 ⟨rfl,ad⟩
 have ah:=zk ad (some rb)
 have J4:Y _:=(J3.o).keep ad
 have b4:=zE J4.o.rd
 have s4:w3.heap.size+0<=w4.heap.size:=by have h:=ah.size;simpa using h
 have G4:Y (w3.grownBy w4 (some rb)):=ah
 have C4:=J (zA C3.o G4.o)
 have z4:=C4.o.size
 have au:=J (zB ar.o G4.o (by simp;omega))
 clear ah ad
 rw[R.str_toList]
 go_wp2_with fail
 refine(xV J4.o _ _ _).mono ?_
 rintro e w5 ⟨rfl,I5,ai⟩
 have J5:Y _:=I5
 have b5:=zE J5.o.rd
 have s5:w4.heap.size+0<=w5.heap.size:=by have h:=ai.size;simpa using h
 have G5:Y (w4.grownBy w5 (some rb)):=ai
 have C5:=J (zA C4.o G5.o)
 have z5:=C5.o.size
 have al:=J (zB au.o G5.o (by simp;omega))
 clear ai I5
 go_wp2_with fail
 refine(zcH w2.heap.size (R.lower aa) _ B v hs (HR.o.keep C5.o (H0.o.safe (by decide))) HN.o (z8 al.o)).mono ?_
 rintro e w6 ⟨rfl,ae⟩
 have aj:=zk ae (some rb)
 have J6:Y _:=(J5.o).keep ae
 have b6:=zE J6.o.rd
 have s6:w5.heap.size+0<=w6.heap.size:=by have h:=aj.size;simpa using h
 have G6:Y (w5.grownBy w6 (some rb)):=aj
 have C6:=J (zA C5.o G6.o)
 have z6:=C6.o.size
 have av:=J (zB al.o G6.o (by simp;omega))
 clear aj ae
 go_wp2_with fail
 refine(xV J6.o _ _ _).mono ?_
 rintro e w7 ⟨rfl,I7,ak⟩
 have J7:Y _:=I7
 have b7:=zE J7.o.rd
 have s7:w6.heap.size+0<=w7.heap.size:=by have h:=ak.size;simpa using h
 have G7:Y (w6.grownBy w7 (some rb)):=ak
 have C7:=J (zA C6.o G7.o)
 have z7:=C7.o.size
 have am:=J (zB av.o G7.o (by simp;omega))
 clear ak I7
 have az:=zE am.o
 have ay:=zqV am.o
 go_wp2
 go_ret
 exact⟨by rw[HP.o];rfl,by rw[HP.o,List.any_map];exact J7.o,C7.o⟩
theorem zj5 (x:Value)(n:Int)(w:World) :
  Calls Tryz.prog 335 #[.agg #[x,.int .i64 n]] w fun e w'=>e = .returned (.bool (n == 0))/\w.grownBy w' none:=by
 go_enter Tryz.func335,Tryz.ntmps335
 go_wp2
 go_ret
 exact⟨rfl,zJ _ _ _⟩
theorem uF (w:World)(g n c:Nat)(xs:Nat->Value)(ws:Nat->Int)(hn:n<=2000000000000)
  (h0:∀k,k<n->w.cell? ⟨g,k*2,none⟩=some (xs k)) (h1:∀k,k<n->w.cell? ⟨g,k*2+1,none⟩=some (.int .i64 (ws k))) :
  Calls Tryz.prog 381 #[.slice (some ⟨g,0,none⟩) n c,.func (.func 335) #[] #[]] w fun e w'=>e = .returned (.int .i64 (firstAt (fun k=>ws k == 0) n 0))/\w.grownBy w' none:=by
 have H0:Y _:=h0
 have H1:Y _:=h1
 clear h0 h1
 go_enter Tryz.func381,Tryz.ntmps381
 go_wp2
 go_loopw [8] (fun iv wr=>∃k:Nat,k<=n/\iv = .int .i64 k/\Y (firstAt (fun k=>ws k == 0) n 0=firstAt (fun k=>ws k == 0) (n - k) k)/\Y (w.grownBy wr none)) (fun iv _=>n - (intOf iv).toNat)
 case atStart=>exact⟨0,zl _,rfl,rfl,zM _ _⟩
 case round=>
  obtain⟨k,hk,rfl,HF,HG⟩:=hrel
  by_cases ad:k<n
  ·have c0:=HG.o.cell (H0.o k ad) (by simp)
   have c1:=HG.o.cell (H1.o k ad) (by simp)
   have aa:Y (firstAt (fun k=>ws k == 0) n 0=if (ws k == 0)=true then (k:Int) else firstAt (fun k=>ws k == 0) (n - (k+1)) (k+1)):=by
    show _=_
    rw[HF.o,show n - k=(n - (k+1))+1 by omega,firstAt]
   clear HF
   have HS:Y _:=fun(w':World)=>zj5 (xs k) (ws k) w'
   cases hb:(ws k == 0)
   ·rw[hb] at aa HS
    simp only[xO,if_false] at aa
    clear hb
    go_wp2_with fail
    refine(HS.o _).mono ?_
    rintro e w1 ⟨rfl,hg⟩
    have ab:Y _:=zA HG.o hg
    clear hg
    go_wp2
    exact⟨⟨k+1,by omega,by go_num,aa,ab⟩,by simp[intOf];omega⟩
   ·rw[hb] at aa HS
    simp only[if_true] at aa
    clear hb
    go_wp2_with fail
    refine(HS.o _).mono ?_
    rintro e w1 ⟨rfl,hg⟩
    have ab:Y _:=zA HG.o hg
    clear hg
    go_wp2
    go_ret
    exact⟨by rw[aa.o];rfl,ab.o⟩
  ·have ae:k=n:=by omega
   subst ae
   rw[Nat.sub_self,firstAt] at HF
   go_wp2
   go_ret
   exact⟨by rw[HF.o];rfl,HG.o⟩
def nz (l:List (List UInt8×Int)):List (List UInt8×Int):=l.filter fun t=>!(t.2 == 0)
theorem kr (l:List (List UInt8×Int))(k:Nat)(hk:k<l.length):(zi l)[k*2]?=some (.string (R.str l[k].1))/\(zi l)[k*2+1]?=some (.int .i64 l[k].2):=by
 induction l generalizing k with
 | nil=>simp at hk
 | cons t l ih=>
  have e:zi (t :: l)=[Value.string (R.str t.1),.int .i64 t.2]++zi l:=by simp[zi]
  rw[e]
  match k with
  | 0=>exact⟨rfl,rfl⟩
  | k+1=>
   have:=ih k (by simpa using hk)
   rw[List.getElem?_append_right (by simp;omega),List.getElem?_append_right (by simp;omega)]
   simp only[zm,qi]
   rw[show(k+1)*2 - (0+1+1)=k*2 by omega,show(k+1)*2+1 - (0+1+1)=k*2+1 by omega]
   exact this
theorem zdM (l:List (List UInt8×Int)):(zi l).length=l.length*2:=by
 induction l with
 | nil=>rfl
 | cons t l ih=>
  have e:zi (t :: l)=[Value.string (R.str t.1),.int .i64 t.2]++zi l:=by simp[zi]
  rw[e,zW,ih];simp;omega
theorem zhC (l:List (List UInt8×Int)):∀(n k:Nat),n+k=l.length->nz (l.take k)=l.take k->
  (firstAt (fun j=>(l[j]?.map Prod.snd).getD 1 == 0) n k = -1/\nz l=l)\/∃i:Nat,firstAt (fun j=>(l[j]?.map Prod.snd).getD 1 == 0) n k=i/\i<l.length/\nz (l.take (i+1))=l.take i:=by
 intro n
 induction n with
 | zero=>intro k h hz;left;rw[jS (by omega)] at hz;exact⟨rfl,hz⟩
 | succ n ih=>
  intro k h hz
  have hk:k<l.length:=by omega
  rw[firstAt]
  have e:(l[k]?.map Prod.snd).getD 1=l[k].2:=by rw[qN hk];rfl
  rw[e]
  have ht:nz (l.take (k+1))=l.take k++(if (l[k].2 == 0)=true then [] else [l[k]]):=by
   rw[j6 hk]
   unfold nz at hz ⊢
   rw[List.filter_append,hz]
   congr 1
   by_cases h0:(l[k].2 == 0)=true
   ·rw[if_pos h0,List.filter_cons,if_neg (by rw[h0];simp)];rfl
   ·rw[if_neg h0,List.filter_cons,if_pos (by simpa using h0)];rfl
  by_cases h0:(l[k].2 == 0)=true
  ·rw[if_pos h0] at ht ⊢
   right;exact⟨k,rfl,hk,by rw[ht,xn]⟩
  ·rw[if_neg h0] at ht ⊢
   exact ih (k+1) (by omega) (by rw[ht,j6 hk])
def DelAt (w:World)(g cap:Nat)(l:List (List UInt8×Int))(i j:Nat):Prop:=
 ∃cur:Array Value,w.heap[g]?=some (.cells cur 285 (0,0))/\cur.size=cap*2/\cur.toList.take (i*2)=zi (nz (l.take j))/\
  ∀(k:Nat) (hk:k<l.length),j<=k->cur[k*2]?=some (Value.string (R.str l[k].1))/\cur[k*2+1]?=some (Value.int .i64 l[k].2)
theorem DelAt.keep {w w':World}{g aa i j:Nat}{l:List (List UInt8×Int)}(h:DelAt w g aa l i j)(hg:w.grownBy w' none):DelAt w' g aa l i j:=by
 obtain⟨ab,h1,h2⟩:=h
 exact⟨ab,zB h1 hg (by simp),h2⟩
theorem DelAt.skip {w:World}{g aa i j:Nat}{l:List (List UInt8×Int)}(h:DelAt w g aa l i j)(hj:j<l.length)(h0:l[j].2=0):DelAt w g aa l i (j+1):=by
 obtain⟨ab,h1,h2,h3,h4⟩:=h
 refine⟨ab,h1,h2,?_,fun k hk hjk=>h4 k hk (by omega)⟩
 rw[h3,j6 hj]
 unfold nz;rw[List.filter_append,List.filter_cons,if_neg (by simp[h0])];simp
theorem DelAt.take {w:World}{g aa i j:Nat}{l:List (List UInt8×Int)}(h:DelAt w g aa l i j)(hj:j<l.length)(ag:i<j)(hc:l.length<=aa)(h0:l[j].2≠0) :
  DelAt ((w.setCell ⟨g,i*2,none⟩ (.string (R.str l[j].1))).setCell ⟨g,i*2+1,none⟩ (.int .i64 l[j].2)) g aa l (i+1) (j+1):=by
 obtain⟨ab,h1,h2,h3,h4⟩:=h
 refine⟨_,zF (zF h1 _) _,by simp[h2],?_,fun k hk hjk=>?_⟩
 ·have e:nz (l.take (j+1))=nz (l.take j)++[l[j]]:=by
   rw[j6 hj]
   unfold nz;rw[List.filter_append,List.filter_cons,if_pos (by simpa using h0)];rfl
  rw[e,ji,<-h3]
  have hl:i*2+1<ab.toList.length:=by rw[Array.length_toList,h2];omega
  rw[Array.toList_setIfInBounds,Array.toList_setIfInBounds]
  generalize ab.toList=cl at*
  apply List.ext_getElem?
  intro m
  rw[List.getElem?_take,List.getElem?_set,List.getElem?_set]
  by_cases hm:m<i*2
  ·rw[if_pos (by omega),if_neg (by omega),if_neg (by omega),List.getElem?_append_left (by rw[List.length_take];omega),List.getElem?_take,if_pos hm]
  ·have ad:(cl.take (i*2)).length=i*2:=by rw[List.length_take];omega
   rw[List.getElem?_append_right (by omega),ad]
   by_cases ae:m=i*2
   ·subst ae
    rw[if_pos (by omega),if_neg (by omega),if_pos rfl,if_pos (by omega),Nat.sub_self];rfl
   ·by_cases af:m=i*2+1
    ·subst af
     rw[if_pos (by omega),if_pos rfl,if_pos (by simp;omega),show i*2+1 - i*2=1 by omega];rfl
    ·rw[if_neg (by omega),List.getElem?_eq_none (by simp;omega)]
 ·have:=h4 k hk (by omega)
  rw[Array.getElem?_setIfInBounds,Array.getElem?_setIfInBounds,if_neg (by omega),if_neg (by omega),Array.getElem?_setIfInBounds,Array.getElem?_setIfInBounds,if_neg (by omega),if_neg (by omega)]
  exact this
theorem DelAt.cells {w:World}{g aa i j:Nat}{l:List (List UInt8×Int)}(h:DelAt w g aa l i j)(k:Nat)(hk:k<l.length)(hj:j<=k):w.cell? ⟨g,k*2,none⟩=some (.string (R.str l[k].1))/\w.cell? ⟨g,k*2+1,none⟩=some (.int .i64 l[k].2):=by
 obtain⟨ab,h1,h2,h3,h4⟩:=h
 rw[z8 h1,z8 h1];exact h4 k hk hj
theorem DelAt.any {w:World}{g aa i j:Nat}{l:List (List UInt8×Int)}(h:DelAt w g aa l i j)(k:Nat)(hk:k<aa*2):(∃x,w.cell? ⟨g,k,none⟩=some x)/\w.frozen? ⟨g,k,none⟩=false:=by
 obtain⟨ab,h1,h2,h3,h4⟩:=h
 refine⟨?_,zC h1⟩
 rw[z8 h1]
 exact⟨ab[k]'(by omega),Array.getElem?_eq_getElem (by omega)⟩
theorem tF (b:Nat):∀(vs:List Value) (o:Nat) (w:World) (aa:Array Value) (t:TypeId) (f:Nat×Nat),w.heap[b]?=some (.cells aa t f)->
  ∃ab:Array Value,(w.setCells b o vs).heap[b]?=some (.cells ab t f)/\ab.size=aa.size/\∀j,j<o->ab[j]?=aa[j]?:=by
 intro vs
 induction vs with
 | nil=>intro o w aa t f h;exact⟨aa,h,rfl,fun _ _=>rfl⟩
 | cons v vs ih=>
  intro o w aa t f h
  rw[World.setCells]
  obtain⟨ab,h1,h2,h3⟩:=ih (o+1) (w.setCell ⟨b,o,none⟩ v) (aa.setIfInBounds o v) t f (zF h v)
  refine⟨ab,h1,by rw[h2];simp,fun j hj=>?_⟩
  rw[h3 j (by omega),Array.getElem?_setIfInBounds,if_neg (by omega)]
theorem fT (b:Nat):∀(vs:List Value) (o:Nat) (w:World),w.grownBy (w.setCells b o vs) (some b):=by
 intro vs
 induction vs with
 | nil=>intro o w;exact zM _ _
 | cons v vs ih=>intro o w;rw[World.setCells];exact zA (zD _ _ _ _) (ih _ _)
theorem DelAt.done {w:World}{g aa i j B n:Nat}{l:List (List UInt8×Int)}(h:DelAt w g aa l i j)(hj:j=l.length)(hi:(nz l).length=i)(hB:B<=g)(af:i<=aa)(ae:aa<=maxLen)(vs:List Value)(hn:i*2<=n) :
  (w.setCells g n vs).ownsRow B 285 2 (.slice (some ⟨g,0,none⟩) i aa) i (zi (nz l)):=by
 obtain⟨ab,h1,h2,h3,_⟩:=h
 obtain⟨ad,q1,q2,q3⟩:=tF g vs n w ab _ _ h1
 subst hj
 rw[show l.take l.length=l from jS (zZ _)] at h3
 refine⟨by rw[zdM,hi],Or.inr ⟨g,aa,ad,rfl,hB,q1,af,ae,by rw[q2,h2],?_⟩⟩
 rw[<-h3]
 apply List.ext_getElem?
 intro m
 rw[List.getElem?_take,List.getElem?_take]
 by_cases hm:m<i*2
 ·rw[if_pos hm,if_pos hm,Array.getElem?_toList,Array.getElem?_toList,q3 m (by omega)]
 ·rw[if_neg hm,if_neg hm]
theorem zoG (n:Nat):(Builtin.zeroCells #[Value.string ⟨#[]⟩,.int .i64 0] n).toList.length=n*2:=by simp[Builtin.zeroCells]
theorem zqR (n:Nat):∀v∈(Builtin.zeroCells #[Value.string ⟨#[]⟩,.int .i64 0] n).toList,v.oneCell'=true:=by
 intro v hv
 unfold Builtin.zeroCells at hv
 simp at hv
 obtain⟨i,hi,rfl⟩:=hv
 have:i % 2=0\/i % 2=1:=by omega
 rcases this with h | h <;> simp[h] <;> rfl
theorem zcZ (w:World)(g o n c:Nat)(hn:0<n)(hc:∀j,j<n*2->(w.cell? ⟨g,o+j,none⟩).isSome=true)(hf:∀j,j<n*2->w.frozen? ⟨g,o+j,none⟩=false)(ty:TypeId) :
  (Builtin.clear_ #[210] ty #[.slice (some ⟨g,o,none⟩) n c]).run Tryz.prog w = .ok (.tuple #[]) (w.setCells g o (Builtin.zeroCells #[Value.string ⟨#[]⟩,.int .i64 0] n).toList):=by
 have aa:=run_storeCells_cells (P:=Tryz.prog) g o (Builtin.zeroCells #[Value.string ⟨#[]⟩,.int .i64 0] n).toList 0 w (by rw[zoG];simpa using hc) (by rw[zoG];simpa using hf) (zqR n)
 simp only[Nat.add_zero] at aa
 have ht:Tryz.prog.underlying 210=some (.slice 285):=by kernel_rfl
 obtain⟨m,rfl⟩:∃m,n=m+1:=⟨n - 1,by omega⟩
 have ab:(Value.agg #[.string ⟨#[]⟩,.int .i64 0]).cells=#[.string ⟨#[]⟩,.int .i64 0]:=rfl
 simp[Builtin.clear_,run_underlying ht,ab,aa]
theorem fh (w:World)(B:Nat)(v:Value)(l:List (List UInt8×Int))(hv:w.ownsRow B 285 2 v l.length (zi l))(hn:l.length<=2000000000000)(ax:0<l.length) :
  Calls Tryz.prog 334 #[v,.func (.func 335) #[] #[]] w fun e w'=>∃v',e = .returned v'/\w'.ownsRow B 285 2 v' (nz l).length (zi (nz l))/\w.grownBy w' v.ownBlock:=by
 obtain⟨g,ab,rfl,aA,aB⟩:=World.ownsRow.form hv ax
 have ak:∀j,j<l.length*2->w.cell? ⟨g,j,none⟩=(zi l)[j]?:=fun j hj=>xd hv j (by omega)
 have HI:Y _:=fun(_:Unit)=>uF w g l.length ab (fun k=>.string (R.str ((l[k]?.map Prod.fst).getD []))) (fun k=>(l[k]?.map Prod.snd).getD 1) hn
  (fun k hk=>by rw[ak (k*2) (by omega),(kr l k hk).1,qN hk];rfl)
  (fun k hk=>by rw[ak (k*2+1) (by omega),(kr l k hk).2,qN hk];rfl)
 have HR:Y _:=hv
 clear ak hv
 rcases zhC l l.length 0 (by omega) (by rfl) with ⟨h1,h2⟩ | ⟨i,h1,h2,h3⟩
 ·rw[h1] at HI
  have HZ:Y (nz l=l):=h2
  clear h1 h2
  go_enter Tryz.func334,Tryz.ntmps334
  go_wp2_with fail
  refine(HI.o ()).mono ?_
  rintro e w1 ⟨rfl,hg⟩
  go_wp2
  go_ret
  exact⟨_,rfl,by rw[HZ.o];exact World.ownsRow.kept HR.o hg (Or.inr (by simp[Value.ownBlock])),zk hg _⟩
 ·rw[h1] at HI
  have HZ:Y (nz (l.take (i+1))=l.take i):=h3
  have aE:((i:Int) == -1)=false:=by rw[beq_eq_false_iff_ne];omega
  clear h1 h3
  go_enter Tryz.func334,Tryz.ntmps334
  go_wp2_with fail
  refine(HI.o ()).mono ?_
  rintro e w1 ⟨rfl,hg⟩
  obtain⟨aw,ay⟩:=HR.o
  rcases ay with ⟨hbad,_⟩ | ⟨g',cap',ag,hve,hB,hblk,hnc,hcm,hcs,htk⟩
  ·cases hbad
  simp only[qc,Option.some.injEq,Addr.mk.injEq] at hve
  obtain⟨⟨rfl,_⟩,_,rfl⟩:=hve
  have am:Y (DelAt w1 g ab l i (i+1)):=by
   refine DelAt.keep ⟨ag,hblk,hcs,?_,fun k hk hik=>?_⟩ hg
   ·rw[HZ.o]
    have:ag.toList.take (i*2)=(ag.toList.take (l.length*2)).take (i*2):=by rw[List.take_take,Nat.min_eq_left (by omega)]
    rw[this,htk]
    apply List.ext_getElem?
    intro m
    rw[List.getElem?_take]
    by_cases hm:m<i*2
    ·rw[if_pos hm]
     have hk:m / 2<l.length:=by omega
     have av:m / 2<(l.take i).length:=by rw[List.length_take];omega
     have a1:=kr l (m / 2) hk
     have a2:=kr (l.take i) (m / 2) av
     rw[List.getElem_take] at a2
     have:m % 2=0\/m % 2=1:=by omega
     rcases this with h | h
     ·have e:m=m / 2*2:=by omega
      rw[e,a1.1,a2.1]
     ·have e:m=m / 2*2+1:=by omega
      rw[e,a1.2,a2.2]
    ·rw[if_neg hm,List.getElem?_eq_none (by rw[zdM,List.length_take];omega)]
   ·have a:=kr l k hk
    rw[<-htk,List.getElem?_take,List.getElem?_take,if_pos (by omega),if_pos (by omega),Array.getElem?_toList,Array.getElem?_toList] at a
    exact a
  have aq:Y ((nz (l.take (i+1))).length=i):=by show _=_;rw[HZ.o,List.length_take];omega
  have ao:Y (w.grownBy w1 (some g)):=zk hg _
  clear aw hblk hcs htk hg HZ
  go_wp2
  go_loopw [5,6] (fun iv jv wr=>∃i j:Nat,i<j/\j<=l.length/\iv = .int .i64 i/\jv = .int .i64 j/\Y ((nz (l.take j)).length=i)/\Y (DelAt wr g ab l i j)/\Y (w.grownBy wr (some g))) (fun _ jv _=>l.length - (intOf jv).toNat)
  case atStart=>exact⟨i,i+1,by omega,by omega,rfl,by go_num,aq,am,ao⟩
  case round=>
   obtain⟨i,j,ar,aD,rfl,rfl,ae,HD,HG⟩:=hrel
   by_cases af:j<l.length
   ·obtain⟨d0,d1⟩:=HD.o.cells j af (zZ _)
    have HS:Y _:=fun(w':World)=>zj5 (.string (R.str l[j].1)) l[j].2 w'
    have aC:g<wr.heap.size:=by obtain⟨ag,h,_⟩:=HD.o;exact zE h
    by_cases h0:l[j].2=0
    ·have an:Y (DelAt wr g ab l i (j+1)):=HD.o.skip af h0
     have aj:Y ((nz (l.take (j+1))).length=i):=by
      show _=_
      rw[j6 af];unfold nz;rw[List.filter_append,List.filter_cons,if_neg (by simp[h0])];simpa[nz] using ae.o
     have hb:(l[j].2 == 0)=true:=by rw[h0];rfl
     rw[hb] at HS
     clear hb h0
     generalize l[j]=t at*
     go_wp2_with fail
     refine(HS.o _).mono ?_
     rintro e w2 ⟨rfl,ad⟩
     have aa:wr.grownBy w2 none:=zA (zJ _ _ _) ad
     have ah:Y _:=an.o.keep aa
     have ai:Y _:=zA HG.o (zk aa _)
     clear ad aa
     go_wp2
     exact⟨⟨i,j+1,by omega,by omega,rfl,by go_num,aj,ah,ai⟩,by simp[intOf];omega⟩
    ·have HT:Y (∀w2,wr.grownBy w2 none->DelAt ((w2.setCell ⟨g,i*2,none⟩ (.string (R.str l[j].1))).setCell ⟨g,i*2+1,none⟩ (.int .i64 l[j].2)) g ab l (i+1) (j+1)):=fun w2 hg=>(HD.o.keep hg).take af ar hnc h0
     have aj:Y ((nz (l.take (j+1))).length=i+1):=by
      show _=_
      rw[j6 af];unfold nz;rw[List.filter_append,List.filter_cons,if_pos (by simpa using h0)];simpa[nz] using ae.o
     have hb:(l[j].2 == 0)=false:=by rw[beq_eq_false_iff_ne];exact h0
     rw[hb] at HS
     clear hb h0
     generalize l[j]=t at*
     go_wp2_with fail
     refine(HS.o _).mono ?_
     rintro e w2 ⟨rfl,ad⟩
     have aa:wr.grownBy w2 none:=zA (zJ _ _ _) ad
     have al:=HD.o.keep aa
     obtain⟨⟨x0,k0⟩,f0⟩:=al.any (i*2) (by omega)
     obtain⟨⟨x1,k1⟩,f1⟩:=al.any (i*2+1) (by omega)
     have nb:=xc ad (by simp)
     have v0:w2.cell? ⟨wr.heap.size,0,none⟩=some (.string (R.str t.1)):=z8 nb
     have v1:w2.cell? ⟨wr.heap.size,1,none⟩=some (.int .i64 t.2):=z8 nb
     have ah:Y _:=HT.o w2 aa
     have ai:Y (w.grownBy ((w2.setCell ⟨g,i*2,none⟩ (.string (R.str t.1))).setCell ⟨g,i*2+1,none⟩ (.int .i64 t.2)) (some g)):=zA (zA (zA HG.o (zk aa _)) (zD _ _ _ _)) (zD _ _ _ _)
     clear ad aa al nb HT
     go_wp2
     exact⟨⟨i+1,j+1,by omega,by omega,by go_num,by go_num,aj,ah,ai⟩,by simp[intOf];omega⟩
   ·have au:j=l.length:=by omega
    subst au
    rw[show l.take l.length=l from jS (zZ _)] at ae
    have az:=zcZ wr g (i*2) (l.length - i) (ab - i) (by omega)
     (fun m hm=>by obtain⟨⟨x,hx⟩,_⟩:=HD.o.any (i*2+m) (by omega);rw[hx];rfl)
     (fun m hm=>(HD.o.any (i*2+m) (by omega)).2)
    have HO:Y _:=HD.o.done (n:=i*2) rfl ae.o hB (by omega) hcm (Builtin.zeroCells #[Value.string ⟨#[]⟩,.int .i64 0] (l.length - i)).toList (zZ _)
    have ap:Y _:=zA HG.o (fT g (Builtin.zeroCells #[Value.string ⟨#[]⟩,.int .i64 0] (l.length - i)).toList (i*2) wr)
    generalize(Builtin.zeroCells #[Value.string ⟨#[]⟩,.int .i64 0] (l.length - i)).toList=zs at*
    generalize World.setCells wr g (i*2) zs=wz at*
    go_wp2
    go_ret
    exact⟨_,rfl,by rw[ae.o];exact HO.o,ap.o⟩
theorem zeQ:(Tryz.prog.info? 285).map (fun i=>(i.zero,i.size,i.bytes))=some (some (.agg #[.string ⟨#[]⟩,.int .i64 0]),2,24):=by kernel_rfl
theorem zfV {w:World}{rb:Nat}{s:ByteArray}{st:P.St}(h:PInv w rb s st) :
  Calls Tryz.prog 273 #[.pointer (some ⟨rb,0,none⟩)] w fun e w'=>∃v,e = .returned v/\PInv w' rb s (zz s.data.toList st).2/\w.grownBy w' (some rb)/\w'.ownsRow w.heap.size 285 2 v (zz s.data.toList st).1.length (zi (zz s.data.toList st).1)/\∀t∈(zz s.data.toList st).1,0<=t.2/\t.2<=99999:=by
 obtain⟨i0,hi,bm,bn,bo⟩:=info_parts zeQ
 have c2:w.cell? ⟨rb,2,none⟩=some (.int .i64 st.tok.at_):=z8 h.rd
 have HP:Y (zz s.data.toList st=(nz (xF s.data.toList st).1,zX (zH s.data.toList (xF s.data.toList st).2 [59]) ((nz (xF s.data.toList st).1).isEmpty) 4 st.tok.at_)):=rfl
 have HA:Y (xF s.data.toList st=qn s.data.toList (s.data.toList.length+1) (zR s.data.toList (zH s.data.toList st jP) 0).2 [(zR s.data.toList (zH s.data.toList st jP) 0).1]):=rfl
 have H0:Y _:=h
 have bw:=zE h.rd
 clear h
 go_enter Tryz.func273,Tryz.ntmps273
 have C0:Y (w.grownBy w (some rb)):=zM _ _
 go_wp2_with fail
 refine(xK H0.o _).mono ?_
 rintro e w1 ⟨rfl,I1,aw⟩
 have J1:Y _:=I1
 have b1:=zE J1.o.rd
 have s1:w.heap.size+0<=w1.heap.size:=by have h:=aw.size;simpa using h
 have G1:Y (w.grownBy w1 (some rb)):=aw
 have C1:=J (zA C0.o G1.o)
 have z1:=C1.o.size
 clear aw I1
 rw[show(⟨#[116,111]⟩:ByteArray).data.toList=jP from rfl] at J1
 generalize zH s.data.toList st jP=st1 at*
 have aU:Y (∀w,PInv w rb s st1->Calls Tryz.prog 333 #[.pointer (some ⟨rb,0,none⟩),.int .i64 0] w fun e w'=>e = .returned (.agg #[.string (R.str (zR s.data.toList st1 0).1.1),.int .i64 (zR s.data.toList st1 0).1.2])/\PInv w' rb s (zR s.data.toList st1 0).2/\w.grownBy w' (some rb)/\0<=(zR s.data.toList st1 0).1.2/\(zR s.data.toList st1 0).1.2<=99999):=fun w h=>fw h 0
 go_wp2_with fail
 refine(aU.o _ J1.o).mono ?_
 rintro e w2 ⟨rfl,I2,ax,a4,a5⟩
 have J2:Y _:=I2
 have b2:=zE J2.o.rd
 have s2:w1.heap.size+0<=w2.heap.size:=by have h:=ax.size;simpa using h
 have G2:Y (w1.grownBy w2 (some rb)):=ax
 have C2:=J (zA C1.o G2.o)
 have z2:=C2.o.size
 clear ax I2
 clear aU
 generalize zR s.data.toList st1 0=q at*
 obtain⟨⟨nm,wt⟩,a8⟩:=q
 simp only at J2 HA a4 a5 ⊢
 go_wp2_with fail
 have bj:Y ((World.alloc w2 (.cells #[.string (R.str nm),.int .i64 wt] 285)).ownsRow w.heap.size 285 2 (.slice (some ⟨w2.heap.size,0,none⟩) 1 1) [(nm,wt)].length (zi [(nm,wt)])):=by
  refine⟨rfl,Or.inr ⟨w2.heap.size,1,#[.string (R.str nm),.int .i64 wt],rfl,z2,heap_alloc_new _ _,zZ _,by unfold maxLen;omega,rfl,rfl⟩⟩
 have JA:Y (PInv (World.alloc w2 (.cells #[.string (R.str nm),.int .i64 wt] 285)) rb s a8):=J2.o.keep (zJ _ _ _)
 have CA:Y (w.grownBy (World.alloc w2 (.cells #[.string (R.str nm),.int .i64 wt] 285)) (some rb)):=zA C2.o (zJ _ _ _)
 have ba:Y (∀t∈[(nm,wt)],(0:Int)<=t.2/\t.2<=99999):=by intro t ht;simp at ht;subst ht;exact⟨a4,a5⟩
 have bE:=J2.o.len
 go_loopw [4] (fun v wr=>∃(n:Nat) (aa:List (List UInt8×Int)) (p:P.St),0<aa.length/\aa.length<=p.tok.at_+1/\p.tok.at_<=s.size/\s.size<n+p.tok.at_/\Y (qn s.data.toList n p aa=xF s.data.toList st)/\Y (PInv wr rb s p)/\Y (w.grownBy wr (some rb))/\Y (wr.ownsRow w.heap.size 285 2 v aa.length (zi aa))/\Y (∀t∈aa,(0:Int)<=t.2/\t.2<=99999)) (fun v _=>s.size+2 - lenOf v)
 case atStart=>exact⟨s.data.toList.length+1,[(nm,wt)],a8,by simp,by simp,by have:=J2.o.bd;omega,by rw[R.size_eq];omega,HA.o.symm,JA,CA,bj,ba⟩
 case round=>
  obtain⟨n,aa,p,bk,bz,bF,hn,HL,IR,HR,HO,aQ⟩:=hrel
  have bx:=zE IR.o.rd
  have bU:=HR.o.size
  obtain⟨n,rfl⟩:∃m,n=m+1:=⟨n - 1,by omega⟩
  have ab:=HL.o
  rw[qn] at ab
  have bp:Y (lenOf u4=aa.length):=zaC HO.o
  obtain⟨ua,uc,rfl⟩:=zP HO.o
  have be:Y _:=HO.o
  go_wp2_with fail
  refine(yn IR.o _).mono ?_
  rintro e ad ⟨rfl,av⟩
  have az:=zk av (some rb)
  have ao:Y _:=(IR.o).keep av
  have bq:=zE ao.o.rd
  have bI:wr.heap.size+0<=ad.heap.size:=by have h:=az.size;simpa using h
  have aL:Y (wr.grownBy ad (some rb)):=az
  have ak:=J (zA HR.o aL.o)
  have bO:=ak.o.size
  have aS:Y _:=zn be.o aL.o (by omega)
  clear az av
  rw[show(⟨#[44]⟩:ByteArray).data.toList=[44] from rfl]
  cases hgo:zu p [44]
  ·rw[hgo] at ab
   simp only[xO,if_false] at ab
   have HT:Y (xF s.data.toList st=(aa,p)):=ab.symm
   clear ab HL
   rw[HT.o] at HP
   simp only at HP
   go_wp2_with fail
   refine(xK ao.o _).mono ?_
   rintro e aF ⟨rfl,aV,aA⟩
   have ap:Y _:=aV
   have br:=zE ap.o.rd
   have bJ:ad.heap.size+0<=aF.heap.size:=by have h:=aA.size;simpa using h
   have aM:Y (ad.grownBy aF (some rb)):=aA
   have aH:=J (zA ak.o aM.o)
   have bP:=aH.o.size
   have am:Y _:=zn aS.o aM.o (by omega)
   clear aA aV
   rw[show(⟨#[59]⟩:ByteArray).data.toList=[59] from rfl] at ap
   go_wp2_with fail
   refine(fh aF w.heap.size _ aa am.o (by omega) bk).mono ?_
   rintro e wD ⟨vD,rfl,aE,ay⟩
   have JD:Y _:=ap.o.away ay (fun k hk=>by have h1:=(qh am.o k hk).1;omega)
   have CD:=J (x9 aH.o ay (fun k hk=>(qh am.o k hk).1))
   obtain⟨da,dc,rfl⟩:=zP aE
   have bg:Y _:=aE
   have bD:=zE JD.o.rd
   clear aE ay
   have bb:Y ((((nz aa).length:Int) == 0)=(nz aa).isEmpty):=by show _=_;cases nz aa with | nil=>rfl | cons a b=>simp;omega
   have bh:Y _:=bg.o
   have bG:=CD.o.size
   generalize a2:(nz aa).length=nzl at*
   have bc:Y _:=a2
   clear a2
   go_wp2_with fail
   refine(xV JD.o _ _ _).mono ?_
   rintro e a9 ⟨rfl,aW,aB⟩
   have aq:Y _:=aW
   have bs:=zE aq.o.rd
   have bK:wD.heap.size+0<=a9.heap.size:=by have h:=aB.size;simpa using h
   have aN:Y (wD.grownBy a9 (some rb)):=aB
   have aI:=J (zA CD.o aN.o)
   have bQ:=aI.o.size
   have bi:Y _:=zn bh.o aN.o (by omega)
   clear aB aW
   rw[bb.o] at aq
   go_wp2
   go_ret
   exact⟨_,rfl,by rw[HP.o];exact aq.o,aI.o,by rw[HP.o];show World.ownsRow _ _ _ _ _ (nz aa).length _;rw[bc.o];exact bi.o,by rw[HP.o];intro t ht;exact aQ.o t ((List.mem_filter.1 ht).1)⟩
  ·rw[hgo] at ab
   simp only[if_true] at ab
   have bA:=jZ s.data.toList p [44] hgo (by decide)
   have bl:=vg s.data.toList (zH s.data.toList p [44]) aa.length
   have aR:Y _:=ab
   clear ab HL
   go_wp2_with fail
   refine(xK ao.o _).mono ?_
   rintro e ai ⟨rfl,aX,aC⟩
   have ar:Y _:=aX
   have bt:=zE ar.o.rd
   have bL:ad.heap.size+0<=ai.heap.size:=by have h:=aC.size;simpa using h
   have aO:Y (ad.grownBy ai (some rb)):=aC
   have aJ:=J (zA ak.o aO.o)
   have bR:=aJ.o.size
   have bf:Y _:=zn aS.o aO.o (by omega)
   clear aC aX
   rw[show(⟨#[44]⟩:ByteArray).data.toList=[44] from rfl] at ar
   generalize zH s.data.toList p [44]=p1 at*
   go_wp2_with fail
   refine(fw ar.o aa.length).mono ?_
   rintro e ae ⟨rfl,aY,aD,a6,a7⟩
   have af:Y _:=aY
   have bu:=zE af.o.rd
   have bM:ai.heap.size+0<=ae.heap.size:=by have h:=aD.size;simpa using h
   have aP:Y (ai.grownBy ae (some rb)):=aD
   have al:=J (zA aJ.o aP.o)
   have bS:=al.o.size
   have an:Y _:=zn bf.o aP.o (by omega)
   clear aD aY
   generalize zR s.data.toList p1 aa.length=q at*
   obtain⟨⟨ah,aj⟩,p2⟩:=q
   simp only at af aR a6 a7 bl ⊢
   have bC:=af.o.bd
   go_wp2_with (at_builtin;refine wpList_append_lies _ rfl _ _ 210 rfl (w.heap.size) 285 i0 _ 2 24 Tryz.underlying210 hi bm bn bo rfl (by decide) _ _ _ rfl (xX an.o _) ⟨ae.heap.size,0,none⟩ 1 1 [.string (R.str ah),.int .i64 aj] rfl rfl ?c1 ?c2 (by decide) ?c3 ?c4 ?c5 (ae.heap.size+1) (by simp) ?_)
   case c1=>exact qI _ #[_,_] _ _ (by simp)
   case c2=>intro u hu;simp at hu;rcases hu with rfl | rfl <;> rfl
   case c3=>unfold maxLen;omega
   case c4=>omega
   case c5=>have:=al.o.size;simp;omega
   intro a1 a0 aG a3 ag bB _
   have aT:Y (aG.ownsRow w.heap.size 285 2 (.slice (some ⟨a1,0,none⟩) (aa.length+1) a0) (aa++[(ah,aj)]).length (zi (aa++[(ah,aj)]))):=by rw[ji,zW];exact a3
   have au:∀k,(.slice ua aa.length uc:Value).ownBlock=some k->w.heap.size<=k:=fun k hk=>(qh an.o k hk).1
   have bH:∀k,(.slice ua aa.length uc:Value).ownBlock=some k->k<ae.heap.size:=fun k hk=>(qh an.o k hk).2
   have aZ:Y _:=(af.o.keep (zJ _ _ _)).away ag (fun k hk=>by have h1:=au k hk;omega)
   have aK:Y (w.grownBy aG (some rb)):=x9 (zA al.o (zJ _ _ _)) ag (fun k hk=>by have h1:=au k hk;omega)
   have bv:=zE aZ.o.rd
   have bN:ae.heap.size+1<=aG.heap.size:=by have h:=ag.size;simpa using h
   have bT:=aK.o.size
   clear a3 ag au
   go_wp2
   go_roundw
   case rel=>exact⟨n,aa++[(ah,aj)],p2,by simp,by rw[zW];simp;omega,by omega,by omega,aR,aZ,aK,aT.o,fun t ht=>by rcases List.mem_append.1 ht with h | h;exact aQ.o t h;simp at h;subst h;exact⟨a6,a7⟩⟩
   case measure=>show _<_;rw[show lenOf (.slice (some ⟨a1,0,none⟩) (aa.length+1) a0)=aa.length+1 from by rw[zaC aT.o];simp];simp[lenOf];omega
end Go.Proofs.YtfocdefchbnkpaaGreatDoor
