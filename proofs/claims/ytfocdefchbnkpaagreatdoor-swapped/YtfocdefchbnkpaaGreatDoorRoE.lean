/- Routes, as the program lays them: lay. -/
import Derived.Test.YtfocdefchbnkpaaGreatDoorAli
import Derived.Test.YtfocdefchbnkpaaGreatDoorRoA
set_option maxRecDepth 100000
set_option maxHeartbeats 20000000
namespace Go.Proofs.YtfocdefchbnkpaaGreatDoor
open Go.RowKit
structure Ly (w0 w wr:World) (a:Option Addr) (k:Nat) (p:List Tr.Ins):Prop where
 row:Rw w0 wr 297 4 a k p.length (Tr.insCells p)
 nk:Nk w wr
theorem Ly.keep {w0 w wr wa:World}{a:Option Addr}{k:Nat}{p:List Tr.Ins}(h:Ly w0 w wr a k p)(g:wr.grownBy wa none):Ly w0 w wa a k p:=⟨h.row.keep g,h.nk.trans (Nk.grown g)⟩
theorem Ly.snoc {w0 w wr wa:World}{a a':Option Addr}{k k':Nat}{p:List Tr.Ins}{x:Tr.Ins}(h:Ly w0 w wr a k p)(h1:Rw w0 wa 297 4 a' k' (p.length+1) (Tr.insCells p++[.int .i64 x.kind,.int .i64 x.rule,.int .u8 x.on.toNat,.int .i64 x.dst]))(h2:Nk wr wa):Ly w0 w wa a' k' (p++[x]):=
 ⟨by rw[zW,Tr.insCells_snoc];exact h1,h.nk.trans h2⟩
theorem Ly.aim {w0 w wr:World}{g k:Nat}{p:List Tr.Ins}(h:Ly w0 w wr (some ⟨g,0,none⟩) k p)(j:Nat)(hj:j<p.length):Ly w0 w (wr.setCell ⟨g,j*4+3,none⟩ (.int .i64 p.length)) (some ⟨g,0,none⟩) k (Tr.aim p j):=by
 obtain⟨h1,h2⟩:=World.ownsRow.stored h.row.own (j*4+3) (.int .i64 p.length)
 have hg:=(qh h.row.own g rfl).1
 exact⟨⟨by rw[Tr.aim_len,Tr.aim_cells p j hj];exact h1,zY h.row.gr h2 hg⟩,h.nk.trans (Nk.row h.row.own (by decide) h2)⟩
theorem znO {w0:World}{aa:List Nat}{ns:List Tr.Nd}(aO:Tr.Ok ns){m:Nat}(aJ:Tr.Bd ns m)(hm:m<=1000000)(f:Nat):∀{w:World} {i b:Nat} {p:List Tr.Ins} {a:Option Addr} {k:Nat},Ar w0 w aa ns->aa[i]?=some b->ns.length<=i+f->Rw w0 w 297 4 a k p.length (Tr.insCells p)->(Tr.lay ns f i p).length<=10000000->
  Calls Tryz.prog 117 #[.pointer (some ⟨b,0,none⟩),.slice a p.length k] w fun e w'=>∃a' k',e = .returned (.slice a' (Tr.lay ns f i p).length k')/\Ly w0 w w' a' k' (Tr.lay ns f i p):=by
 induction f with
 | zero=>
  intro w i b p a k h hi hf
  have:=h.len
  have:=(List.getElem?_eq_some_iff.1 hi).1
  omega
 | succ f ih=>
  intro w i b p a k h hi hf hr hb
  obtain⟨n,hn,hN⟩:=h.here i b hi
  obtain⟨vr,vb,h1,h2,h3⟩:=hN.ex
  obtain⟨ra,rk,rfl⟩:=zP h2
  obtain⟨va,vk,rfl⟩:=zP h3
  have hl:=h.len
  have aY:=aJ i n hn
  have ax:=hid (Tr.lay_eq hn f p)
  have e9:=Tr.lay_eq hn f p
  rw[e9] at hb
  have aT:(Tr.laid ns f (p++n.rules.map Tr.note) n.br).length+1<=10000000:=by rw[zW] at hb;exact hb
  have aI:(p++n.rules.map Tr.note).length<=(Tr.laid ns f (p++n.rules.map Tr.note) n.br).length:=Tr.laid_len_of (Tr.lay_len ns f) _ _
  have aS:p.length+n.rules.length<=10000000:=by rw[zW,qw] at aI;omega
  have am:=hid (Tr.laid_len ns f (p++n.rules.map Tr.note) n.br)
  have ak:Y (∀(j:Nat) (hj:j<n.br.length) wr a' k',Ly w0 w wr a' k' (Tr.laid ns f (p++n.rules.map Tr.note) (n.br.take j)++[Tr.step n.br[j].1])->Calls Tryz.prog 117 #[.pointer (some ⟨Tr.adr aa n.br[j].2,0,none⟩),.slice a' ((Tr.laid ns f (p++n.rules.map Tr.note) (n.br.take j)).length+1) k'] wr fun e w'=>∃an ao,e = .returned (.slice an (Tr.lay ns f n.br[j].2 (Tr.laid ns f (p++n.rules.map Tr.note) (n.br.take j)++[Tr.step n.br[j].1])).length ao)/\Y (Ly w0 w w' an ao (Tr.lay ns f n.br[j].2 (Tr.laid ns f (p++n.rules.map Tr.note) (n.br.take j)++[Tr.step n.br[j].1])))):=fun j hj wr a' k' hL=>by
   have hx:=aO i n hn n.br[j] (List.getElem_mem hj)
   have aD:n.br[j].2<aa.length:=by omega
   have aK:aa[n.br[j].2]?=some (Tr.adr aa n.br[j].2):=by rw[Tr.adr_at (qN aD)];exact qN aD
   have aN:(Tr.lay ns f n.br[j].2 (Tr.laid ns f (p++n.rules.map Tr.note) (n.br.take j)++[Tr.step n.br[j].1])).length<=10000000:=by
    have e1:=Tr.laid_snoc ns f (p++n.rules.map Tr.note) (n.br.take j) n.br[j]
    have e2:n.br.take j++[n.br[j]]=n.br.take (j+1):=by rw[List.take_add_one,qN hj];rfl
    rw[e2] at e1
    have e3:=Tr.laid_len ns f (p++n.rules.map Tr.note) n.br (j+1)
    rw[e1,Tr.aim_len] at e3
    omega
   have hc:=ih (h.nk hL.nk hL.row.gr) aK (by omega) hL.row aN
   rw[zW] at hc
   refine hc.mono ?_
   rintro e w' ⟨an,ao,q1,q2⟩
   exact⟨an,ao,q1,⟨q2.row,hL.nk.trans q2.nk⟩⟩
  have aj:Y (∀(j:Nat) (hj:j<n.br.length),Tr.aim (Tr.lay ns f n.br[j].2 (Tr.laid ns f (p++n.rules.map Tr.note) (n.br.take j)++[Tr.step n.br[j].1])) (Tr.laid ns f (p++n.rules.map Tr.note) (n.br.take j)).length=Tr.laid ns f (p++n.rules.map Tr.note) (n.br.take (j+1))):=fun j hj=>by
   rw[<-Tr.laid_snoc,List.take_add_one,qN hj];rfl
  have al:Y (∀(j:Nat) (hj:j<n.br.length),(Tr.laid ns f (p++n.rules.map Tr.note) (n.br.take j)).length+1<=(Tr.lay ns f n.br[j].2 (Tr.laid ns f (p++n.rules.map Tr.note) (n.br.take j)++[Tr.step n.br[j].1])).length):=fun j hj=>by
   have:=Tr.lay_len ns f n.br[j].2 (Tr.laid ns f (p++n.rules.map Tr.note) (n.br.take j)++[Tr.step n.br[j].1])
   rw[zW] at this;exact this
  have H1:=hid h1
  have H2:=hid h2
  have H3:=hid h3
  have HZ:Y (Ly w0 w w a k (p++(n.rules.take 0).map Tr.note)):=⟨by rw[List.take_zero,List.map_nil,xn];exact hr,Nk.refl _⟩
  have ay:Y (n.rules.take n.rules.length=n.rules):=List.take_length
  have aG:Y (n.br.take n.br.length=n.br):=List.take_length
  have k0:w.cell? ⟨b,0,none⟩=some (.slice ra n.rules.length rk):=z8 h1
  have e0:(p++(n.rules.take 0).map Tr.note).length=p.length:=by rw[List.take_zero,List.map_nil,xn]
  have av:=hid e0
  clear h hi hf hr hb e9 hn hN h1 h2 h3 ih hl e0
  generalize Tr.lay ns (f+1) i p=res at*
  go_enter Tryz.func117,Tryz.ntmps117
  go_wp2_with fail
  go_loopw [1,15] (fun pv iv wr=>∃j:Nat,j<=n.rules.length/\iv = .int .i64 j/\∃a' k',pv = .slice a' (p++(n.rules.take j).map Tr.note).length k'/\Y (Ly w0 w wr a' k' (p++(n.rules.take j).map Tr.note))) (fun _ iv _=>n.rules.length - (intOf iv).toNat)
  case atStart=>exact⟨0,zl _,rfl,a,k,by rw[av.o],HZ⟩
  case round=>
   obtain⟨j,aM,rfl,a',k',rfl,HW⟩:=hrel
   clear HZ av
   by_cases af:j<n.rules.length
   ·have aL:(j:Int)<n.rules.length:=by omega
    have ae:=hid (zn4 H2.o (by decide) HW.o.nk)
    obtain⟨g,gc,e1,_,_⟩:=World.ownsRow.form ae.o (by omega)
    simp only[qc,true_and] at e1
    obtain⟨rfl,rfl⟩:=e1
    have d0:wr.cell? ⟨g,j,none⟩=some (.int .i64 (n.rules[j]:Int)):=by
     rw[xd ae.o j (by omega)]
     unfold Tr.ruCells
     rw[List.getElem?_map,qN af];rfl
    have aU:(p++(n.rules.take j).map Tr.note).length<=10000000:=by rw[zW,qw,List.length_take];omega
    have HT:Y (p++(n.rules.take (j+1)).map Tr.note=(p++(n.rules.take j).map Tr.note)++[Tr.note n.rules[j]]):=by
     show _=_;rw[List.take_add_one,qN af,xy,<-xY];rfl
    generalize p++(n.rules.take j).map Tr.note=q at*
    generalize n.rules[j]=x at*
    have HC:=hid (qI wr #[.int .i64 0,.int .i64 (x:Int),.int .u8 0,.int .i64 0] 297 _ rfl)
    have ab:=hid (HW.o.keep (zJ wr (.cells #[.int .i64 0,.int .i64 (x:Int),.int .u8 0,.int .i64 0] 297) none))
    clear ak aj al ae
    go_wp2_with (at_builtin;refine @jG _ _ _ _ _ _ _ rfl _ _ 158 297 rfl _ _ _ Tryz.underlying158 fV rfl (by decide) (by decide) _ _ _ _ rfl ab.o.row ⟨wr.heap.size,0,none⟩ _ [.int .i64 0,.int .i64 (x:Int),.int .u8 0,.int .i64 0] rfl rfl HC.o (fun u hu=>by simp at hu;rcases hu with rfl | rfl | rfl | rfl <;> rfl) (by omega) (by decide) ?_)
    intro a3 k3 w3 ag ad
    have ah:Y (Ly w0 w w3 a3 k3 (q++[Tr.note x])):=ab.o.snoc (x:=Tr.note x) ag.o ad.o
    clear HC HW ab ag ad d0
    go_wp2_with fail
    go_roundw
    case rel=>exact⟨j+1,by omega,by go_num,a3,k3,by rw[HT.o,zW];rfl,by rw[HT.o];exact ah⟩
    case measure=>simp[intOf];omega
   ·have hE:j=n.rules.length:=by omega
    subst hE
    rw[ay.o] at HW ⊢
    have aA:Y (Ly w0 w wr a' k' (Tr.laid ns f (p++n.rules.map Tr.note) (n.br.take 0))):=HW.o
    have kb:wr.cell? ⟨b,1,none⟩=some (.slice va n.br.length vk):=z8 ((HW.o.nk b ⟨_,_,H1.o,by decide⟩).trans H1.o)
    have aw:Y ((p++n.rules.map Tr.note).length=(Tr.laid ns f (p++n.rules.map Tr.note) (n.br.take 0)).length):=rfl
    clear HW ay k0
    rw[aw.o]
    clear aw
    generalize aP:p++n.rules.map Tr.note=pp at*
    clear aP
    generalize wr=w1 at*
    go_wp2_with fail
    go_loopw [1,30] (fun pv iv wr=>∃j:Nat,j<=n.br.length/\iv = .int .i64 j/\∃a' k',pv = .slice a' (Tr.laid ns f pp (n.br.take j)).length k'/\Y (Ly w0 w wr a' k' (Tr.laid ns f pp (n.br.take j)))) (fun _ iv _=>n.br.length - (intOf iv).toNat)
    case atStart=>exact⟨0,zl _,rfl,a',k',rfl,aA⟩
    case round=>
     obtain⟨j,aM,rfl,a2,k2,rfl,HW⟩:=hrel
     clear aA kb
     by_cases af:j<n.br.length
     ·have aL:(j:Int)<n.br.length:=by omega
      have ae:=hid (zn4 H3.o (by decide) HW.o.nk)
      obtain⟨g,gc,e1,_,_⟩:=World.ownsRow.form ae.o (by omega)
      simp only[qc,true_and] at e1
      obtain⟨rfl,rfl⟩:=e1
      have d0:wr.cell? ⟨g,j*2,none⟩=some (.int .u8 n.br[j].1.toNat):=qO (Tr.brCell aa) 2 (fun _=>rfl) ae.o (zM _ _) j 0 af (by omega) rfl
      have d1:wr.cell? ⟨g,j*2+1,none⟩=some (.pointer (some ⟨Tr.adr aa n.br[j].2,0,none⟩)):=qO (Tr.brCell aa) 2 (fun _=>rfl) ae.o (zM _ _) j 1 af (by omega) rfl
      have HI:=hid (ak.o j af)
      have HA:=hid (aj.o j af)
      have aW:=al.o j af
      have aV:=am.o j
      have aX:(Tr.lay ns f n.br[j].2 (Tr.laid ns f pp (n.br.take j)++[Tr.step n.br[j].1])).length<=10000000:=by
       have e3:=am.o (j+1)
       rw[<-HA.o,Tr.aim_len] at e3
       omega
      generalize n.br[j]=x at*
      generalize Tr.laid ns f pp (n.br.take j)=q at*
      generalize Tr.lay ns f x.2 (q++[Tr.step x.1])=r at*
      have HB:=hid (heap_alloc_new wr (.cells #[.int .u8 x.1.toNat,.pointer (some ⟨Tr.adr aa x.2,0,none⟩)] 299))
      have az:=hid (HW.o.keep (zJ wr (.cells #[.int .u8 x.1.toNat,.pointer (some ⟨Tr.adr aa x.2,0,none⟩)] 299) none))
      have q0:(wr.alloc (.cells #[.int .u8 x.1.toNat,.pointer (some ⟨Tr.adr aa x.2,0,none⟩)] 299)).cell? ⟨wr.heap.size,0,none⟩=some (.int .u8 x.1.toNat):=z8 HB.o
      go_upto_region 9 with fail
      clear ak aj al am ae d0 d1 HW
      have aC:∀(W:World),W=wr.alloc (.cells #[.int .u8 x.1.toNat,.pointer (some ⟨Tr.adr aa x.2,0,none⟩)] 299)->W.heap[wr.heap.size]?=some (.cells #[.int .u8 x.1.toNat,.pointer (some ⟨Tr.adr aa x.2,0,none⟩)] 299):=fun W e=>by rw[e];exact HB.o
      have ar:=hid (aC _ rfl)
      clear aC HB
      generalize wr.alloc (.cells #[.int .u8 x.1.toNat,.pointer (some ⟨Tr.adr aa x.2,0,none⟩)] 299)=wa at*
      generalize wr.heap.size=bb at*
      have HC:=hid (qI wa #[.int .i64 1,.int .i64 0,.int .u8 x.1.toNat,.int .i64 0] 297 _ rfl)
      have ab:=hid (az.o.keep (zJ wa (.cells #[.int .i64 1,.int .i64 0,.int .u8 x.1.toNat,.int .i64 0] 297) none))
      have ap:=hid (zB ar.o (zJ wa (.cells #[.int .i64 1,.int .i64 0,.int .u8 x.1.toNat,.int .i64 0] 297) none) (by simp))
      go_wp2_with (at_builtin;refine @jG _ _ _ _ _ _ _ rfl _ _ 158 297 rfl _ _ _ Tryz.underlying158 fV rfl (by decide) (by decide) _ _ _ _ rfl ab.o.row ⟨wa.heap.size,0,none⟩ _ [.int .i64 1,.int .i64 0,.int .u8 x.1.toNat,.int .i64 0] rfl rfl HC.o (fun u hu=>by simp at hu;rcases hu with rfl | rfl | rfl | rfl <;> rfl) (by omega) (by decide) ?_)
      intro a3 k3 w3 ag ad
      have aQ:w3.cell? ⟨bb,1,none⟩=some (.pointer (some ⟨Tr.adr aa x.2,0,none⟩)):=z8 ((ad.o bb ⟨_,_,ap.o,by decide⟩).trans ap.o)
      have ah:Y (Ly w0 w w3 a3 k3 (q++[Tr.step x.1])):=ab.o.snoc (x:=Tr.step x.1) ag.o ad.o
      have au:=hid (HI.o w3 a3 k3 ah.o)
      clear HC az ab ag ad HI ar ap q0 ah
      go_wp2_with fail
      refine au.o.mono ?_
      rintro e w4 ⟨a4,k4,rfl,ai⟩
      clear au aQ
      obtain⟨g4,aR,e4,_,_⟩:=World.ownsRow.form ai.o.row.own (by omega)
      simp only[qc,true_and] at e4
      obtain⟨rfl,rfl⟩:=e4
      have aZ:(q.length:Int)<r.length:=by omega
      have aB:Y (∃u,w4.cell? ⟨g4,q.length*4+3,none⟩=some u):=by
       refine⟨_,(xd ai.o.row.own (q.length*4+3) (by omega)).trans (qN ?_)⟩
       have:(Tr.insCells r).length=r.length*4:=by
        have:=ai.o.row.own.1
        exact this
       omega
      obtain⟨u4,c4⟩:=aB.o
      have f4:w4.frozen? ⟨g4,q.length*4+3,none⟩=false:=World.ownsRow.frozenAt ai.o.row.own _
      have aH:=hid (ai.o.aim q.length (by omega))
      have aF:=hid (Tr.aim_len r q.length)
      clear ai aB
      go_wp2_with fail
      go_roundw
      case rel=>exact⟨j+1,by omega,by go_num,some ⟨g4,0,none⟩,k4,by rw[<-HA.o,aF.o],by rw[<-HA.o];exact aH⟩
      case measure=>simp[intOf];omega
     ·have hE:j=n.br.length:=by omega
      subst hE
      rw[aG.o] at HW ⊢
      have aq:Y (res=Tr.laid ns f pp n.br++[Tr.jump]):=ax.o
      clear ak aj al am ax
      generalize Tr.laid ns f pp n.br=q at*
      have HC:=hid (qI wr #[.int .i64 2,.int .i64 0,.int .u8 0,.int .i64 0] 297 _ rfl)
      have ab:=hid (HW.o.keep (zJ wr (.cells #[.int .i64 2,.int .i64 0,.int .u8 0,.int .i64 0] 297) none))
      go_wp2_with (at_builtin;refine @jG _ _ _ _ _ _ _ rfl _ _ 158 297 rfl _ _ _ Tryz.underlying158 fV rfl (by decide) (by decide) _ _ _ _ rfl ab.o.row ⟨wr.heap.size,0,none⟩ _ [.int .i64 2,.int .i64 0,.int .u8 0,.int .i64 0] rfl rfl HC.o (fun u hu=>by simp at hu;rcases hu with rfl | rfl | rfl | rfl <;> rfl) (by omega) (by decide) ?_)
      intro a3 k3 w3 ag ad
      have ah:Y (Ly w0 w w3 a3 k3 res):=by rw[aq.o];exact ab.o.snoc (x:=Tr.jump) ag.o ad.o
      have aE:Y (res.length=q.length+1):=by show _=_;rw[aq.o,zW];rfl
      clear HC HW ab ag ad aq
      go_wp2
      go_ret
      exact⟨a3,k3,by rw[aE.o];rfl,ah.o⟩
def Tr.aim1 (n:Nat)(x:Tr.Ins):Tr.Ins:=if x.kind=2 then { x with dst:=n } else x
def Tr.aimAll (p:List Tr.Ins):List Tr.Ins:=p.map (Tr.aim1 p.length)
def Tr.mid (p:List Tr.Ins)(i:Nat):List Tr.Ins:=(p.take i).map (Tr.aim1 p.length)++p.drop i
theorem Tr.mid_all (p:List Tr.Ins):Tr.mid p p.length=Tr.aimAll p:=by unfold Tr.mid Tr.aimAll;rw[List.take_length,List.drop_length,xn]
theorem Tr.mid_at (p:List Tr.Ins)(i:Nat)(h:i<p.length):(Tr.mid p i)[i]?=some p[i]:=by
 unfold Tr.mid
 rw[List.getElem?_append_right (by rw[qw,List.length_take];omega),qw,List.length_take,List.getElem?_drop]
 have e:i+(i - min i p.length)=i:=by omega
 rw[e,qN h]
theorem Tr.mid_step (p:List Tr.Ins)(i:Nat)(h:i<p.length):Tr.mid p (i+1)=(Tr.mid p i).set i (Tr.aim1 p.length p[i]):=by
 unfold Tr.mid
 rw[List.set_append_right _ _ (by rw[qw,List.length_take];omega),qw,List.length_take]
 have e:i - min i p.length=0:=by omega
 have e2:=List.drop_eq_getElem_cons h
 rw[e,e2,List.take_add_one,qN h,xy,xY]
 rfl
theorem Tr.insCells_at {p:List Tr.Ins}{i:Nat}{x:Tr.Ins}(h:p[i]?=some x)(j:Nat)(hj:j<4):(Tr.insCells p)[i*4+j]?=(Tr.Ins.cells x)[j]?:=by
 induction p generalizing i with
 | nil=>simp at h
 | cons y t ih=>
  match i with
  | 0=>
   have e:y=x:=by simpa using h
   subst e
   show(Tr.Ins.cells y++Tr.insCells t)[0*4+j]?=_
   rw[List.getElem?_append_left (by show _<4;omega)];congr 1;omega
  | i+1=>
   show(Tr.Ins.cells y++Tr.insCells t)[(i+1)*4+j]?=_
   rw[List.getElem?_append_right (by show 4<=_;omega)]
   have e:(i+1)*4+j - (Tr.Ins.cells y).length=i*4+j:=by show _ - 4=_;omega
   rw[e]
   exact ih (by simpa using h)
theorem znM {w0 w:World}{a:Option Addr}{k:Nat}{p:List Tr.Ins}(h:Rw w0 w 297 4 a k p.length (Tr.insCells p))(hl:p.length<=100000000) :
  Calls Tryz.prog 118 #[.slice a p.length k] w fun e w'=>e = .returned (.tuple #[])/\Rw w0 w' 297 4 a k p.length (Tr.insCells (Tr.aimAll p)):=by
 have HZ:Y (Rw w0 w 297 4 a k p.length (Tr.insCells (Tr.mid p 0))):=h
 have HM:=hid (Tr.mid_all p)
 clear h
 go_enter Tryz.func118,Tryz.ntmps118
 go_wp2_with fail
 go_loopw [5] (fun iv wr=>∃i:Nat,i<=p.length/\iv = .int .i64 i/\Y (Rw w0 wr 297 4 a k p.length (Tr.insCells (Tr.mid p i)))) (fun iv _=>p.length - (intOf iv).toNat)
 case atStart=>exact⟨0,zl _,rfl,HZ⟩
 case round=>
  obtain⟨i,ag,rfl,HW⟩:=hrel
  clear HZ
  by_cases ad:i<p.length
  ·have af:(i:Int)<p.length:=by omega
   obtain⟨g,gc,e1,_,_⟩:=World.ownsRow.form HW.o.own (by omega)
   simp only[qc,true_and] at e1
   obtain⟨rfl,rfl⟩:=e1
   have HA:=hid (Tr.mid_at p i ad)
   have aa:∀j,j<4->wr.cell? ⟨g,i*4+j,none⟩=(Tr.Ins.cells p[i])[j]?:=fun j hj=>(xd HW.o.own (i*4+j) (by omega)).trans (Tr.insCells_at HA.o j hj)
   have d0:wr.cell? ⟨g,i*4,none⟩=some (.int .i64 p[i].kind):=aa 0 (by omega)
   have d3:wr.cell? ⟨g,i*4+3,none⟩=some (.int .i64 p[i].dst):=aa 3 (by omega)
   have f3:wr.frozen? ⟨g,i*4+3,none⟩=false:=World.ownsRow.frozenAt HW.o.own _
   have HS:=hid (Tr.mid_step p i ad)
   have HX:=hid (rfl:p[i]=p[i])
   by_cases hk:p[i].kind=2
   ·have ae:(p[i].kind:Int)=2:=by omega
    obtain⟨q1,q2⟩:=World.ownsRow.stored HW.o.own (i*4+3) (.int .i64 p.length)
    have ab:Y (Rw w0 (wr.setCell ⟨g,i*4+3,none⟩ (.int .i64 p.length)) 297 4 (some ⟨g,0,none⟩) k p.length (Tr.insCells (Tr.mid p (i+1)))):=by
     refine⟨?_,zY HW.o.gr q2 (qh HW.o.own g rfl).1⟩
     rw[HS.o]
     unfold Tr.aim1
     rw[if_pos hk,Tr.insCells_set _ _ _ _ HA.o]
     exact q1
    clear q1 q2 HW aa HX HA HS hk
    generalize p[i].kind=kd at*
    generalize p[i].dst=ds at*
    go_wp2_with fail
    go_roundw
    case rel=>exact⟨i+1,by omega,by go_num,ab⟩
    case measure=>simp[intOf];omega
   ·have ae:¬((p[i].kind:Int)=2):=by omega
    have ab:Y (Rw w0 wr 297 4 (some ⟨g,0,none⟩) k p.length (Tr.insCells (Tr.mid p (i+1)))):=by
     have e:Tr.mid p (i+1)=Tr.mid p i:=by
      rw[HS.o]
      unfold Tr.aim1
      rw[if_neg hk]
      obtain⟨h1,h2⟩:=List.getElem?_eq_some_iff.1 HA.o
      rw[<-h2,List.set_getElem_self]
     rw[e];exact HW.o
    clear HW aa HX HA HS hk
    generalize p[i].kind=kd at*
    generalize p[i].dst=ds at*
    go_wp2_with fail
    go_roundw
    case rel=>exact⟨i+1,by omega,by go_num,ab⟩
    case measure=>simp[intOf];omega
  ·have hE:i=p.length:=by omega
   subst hE
   rw[HM.o] at HW
   go_wp2
   go_end0
   exact⟨rfl,HW.o⟩
def Tr.insert (ns:List Tr.Nd)(k:Nat)(p:List UInt8):List Tr.Nd:=Tr.put (Tr.grow ns 0 p).1 (Tr.grow ns 0 p).2 k
def Tr.built (ps:List (List UInt8)):Nat->List Tr.Nd
 | 0=>[⟨[],[]⟩]
 | j+1=>Tr.insert (Tr.built ps j) j (ps.getD j [])
def Tr.flat (ps:List (List UInt8)):List Tr.Ins:=Tr.lay (Tr.built ps ps.length) (Tr.built ps ps.length).length 0 []
def Tr.prog (ps:List (List UInt8)):List Tr.Ins:=Tr.aimAll (Tr.flat ps)
theorem Tr.built_ok {ps : List (List UInt8)} {M : Nat} (hp : ∀ p ∈ ps, p.length ≤ M) (j : Nat) : Tr.Ok (Tr.built ps j) ∧ 0 < (Tr.built ps j).length ∧ (Tr.built ps j).length ≤ 1 + j * M ∧ Tr.Bd (Tr.built ps j) (j * (M + 1)) := by
  have hd : ∀ j, (ps.getD j []).length ≤ M := fun j => by
    rw [List.getD_eq_getElem?_getD]
    by_cases h : j < ps.length
    · rw [qN h]; exact hp _ (List.getElem_mem h)
    · rw [List.getElem?_eq_none (by omega)]; exact zl _
  induction j with
  | zero =>
    refine ⟨fun i n hi x hx => ?_, Nat.one_pos, by show 1 ≤ _; omega, fun i n hi => ?_⟩
    · match i with
      | 0 => have e : (⟨[], []⟩ : Tr.Nd) = n := by simpa [Tr.built] using hi
             subst e; simp at hx
      | i + 1 => simp [Tr.built] at hi
    · match i with
      | 0 => have e : (⟨[], []⟩ : Tr.Nd) = n := by simpa [Tr.built] using hi
             subst e; simp
      | i + 1 => simp [Tr.built] at hi
  | succ j ih =>
    obtain ⟨h1, h2, h3, h4⟩ := ih
    obtain ⟨o1, o2, o3, o4, o5⟩ := Tr.grow_ok (ps.getD j []) h1 h2 h4
    have hj := hd j
    have e : Tr.built ps (j + 1) = Tr.put (Tr.grow (Tr.built ps j) 0 (ps.getD j [])).1 (Tr.grow (Tr.built ps j) 0 (ps.getD j [])).2 j := rfl
    rw [e]
    have q := Tr.put_ok o1 (Tr.grow (Tr.built ps j) 0 (ps.getD j [])).2 j
    have a1 : (j + 1) * M = j * M + M := by rw [Nat.add_mul, Nat.one_mul]
    have a2 : (j + 1) * (M + 1) = j * (M + 1) + (M + 1) := by rw [Nat.add_mul, Nat.one_mul]
    exact ⟨q.1, by rw [q.2]; omega, by rw [q.2]; omega, (Tr.put_bd o5 _ _).mono (by omega)⟩
theorem Tr.prog_len (ps:List (List UInt8)):(Tr.prog ps).length=(Tr.flat ps).length:=by unfold Tr.prog Tr.aimAll;rw[qw]
theorem Tr.ruCells_snoc (l:List Nat)(k:Nat):Tr.ruCells (l++[k])=Tr.ruCells l++[.int .i64 (k:Int)]:=by unfold Tr.ruCells;rw[xy];rfl
theorem tX {w:World}{v:Value}{rs:List P.Rl}(hr:PRulesRow w 0 v rs)(hn:rs.length<=1000)(hp:∀r∈rs,r.path.length<=50)(hf:(Tr.flat (rs.map (·.path))).length<=10000000) :
  Calls Tryz.prog 77 #[v] w fun e w'=>∃a k,e = .returned (.slice a (Tr.prog (rs.map (·.path))).length k)/\Rw w w' 297 4 a k (Tr.prog (rs.map (·.path))).length (Tr.insCells (Tr.prog (rs.map (·.path)))):=by
 obtain⟨aY,ay,aI⟩:=hr
 obtain⟨ra,rk,rfl⟩:=zP ay
 obtain⟨i0,a2,a5,a6,a7⟩:=info_parts zeL
 have aM:∀p∈rs.map (·.path),p.length<=50:=fun p hp'=>by obtain⟨r,h1,rfl⟩:=List.mem_map.1 hp';exact hp r h1
 have af:=hid (Tr.built_ok aM)
 have aq:=hid ay
 have aA:=hid aI
 have ap:=hid hp
 have gN:=zJ w (.cells #[.slice none 0 0,.slice none 0 0] 230) none
 have HZ:Y (Ar w (w.alloc (.cells #[.slice none 0 0,.slice none 0 0] 230)) ([w.heap.size]++[]) (Tr.built (rs.map (·.path)) 0)):=by
  have h0:Ar w w [] []:=⟨zM _ _,rfl,fun i b h=>by simp at h,fun i j b b' _ h=>by simp at h⟩
  exact h0.new (fun i n h=>by simp at h)
 have al:Y (∀(j:Nat) (hj:j<rs.length) wr ex,Ar w wr ([w.heap.size]++ex) (Tr.built (rs.map (·.path)) j)->Calls Tryz.prog 116 #[.pointer (some ⟨w.heap.size,0,none⟩),.string (R.str rs[j].path)] wr fun e w'=>∃ab b',e = .returned (.pointer (some ⟨b',0,none⟩))/\Y (Ar w w' ([w.heap.size]++ab) (Tr.grow (Tr.built (rs.map (·.path)) j) 0 rs[j].path).1)/\Y (([w.heap.size]++ab)[(Tr.grow (Tr.built (rs.map (·.path)) j) 0 rs[j].path).2]?=some b')):=fun j hj wr ex hA=>by
  obtain⟨o1,o2,o3,o4⟩:=af.o j
  have a4:=ap.o rs[j] (List.getElem_mem hj)
  have hc:=zlF hA o1 o4 (by have:j*(50+1)<=1000*51:=Nat.mul_le_mul (by omega) (zZ _);omega) (i:=0) (b:=w.heap.size) rfl (R.str rs[j].path) (by rw[R.str_size];omega)
  rw[R.str_toList] at hc
  refine hc.mono ?_
  rintro e w' ⟨ab,b',q1,q2,q3⟩
  rw[xY] at q2 q3
  exact⟨ex++ab,b',q1,q2,q3⟩
 have ar:Y (∀(j:Nat) (hj:j<rs.length),Tr.put (Tr.grow (Tr.built (rs.map (·.path)) j) 0 rs[j].path).1 (Tr.grow (Tr.built (rs.map (·.path)) j) 0 rs[j].path).2 j=Tr.built (rs.map (·.path)) (j+1)):=fun j hj=>by
  have e:(rs.map (·.path)).getD j []=rs[j].path:=by rw[List.getD_eq_getElem?_getD,List.getElem?_map,qN hj];rfl
  show _=Tr.insert _ _ _
  rw[e];rfl
 have ak:Y (∀(j:Nat) (hj:j<rs.length) (n:Tr.Nd) i,(Tr.grow (Tr.built (rs.map (·.path)) j) 0 rs[j].path).1[i]?=some n->n.rules.length<=1000000):=fun j hj n i hi=>by
  obtain⟨o1,o2,o3,o4⟩:=af.o j
  have a4:=ap.o rs[j] (List.getElem_mem hj)
  obtain⟨_,_,_,_,o5⟩:=Tr.grow_ok rs[j].path o1 o2 o4
  have:=(o5 i n hi).2
  have:j*(50+1)<=1000*51:=Nat.mul_le_mul (by omega) (zZ _)
  omega
 have an:Y (∀wr ex,Ar w wr ([w.heap.size]++ex) (Tr.built (rs.map (·.path)) rs.length)->Calls Tryz.prog 117 #[.pointer (some ⟨w.heap.size,0,none⟩),.slice none 0 0] wr fun e w'=>∃a' k',e = .returned (.slice a' (Tr.flat (rs.map (·.path))).length k')/\Y (Rw w w' 297 4 a' k' (Tr.flat (rs.map (·.path))).length (Tr.insCells (Tr.flat (rs.map (·.path)))))):=fun wr ex hA=>by
  obtain⟨o1,o2,o3,o4⟩:=af.o rs.length
  have aZ:=hA.gr
  have ef:Tr.flat (rs.map (·.path))=Tr.lay (Tr.built (rs.map (·.path)) rs.length) (Tr.built (rs.map (·.path)) rs.length).length 0 []:=by unfold Tr.flat;rw[qw]
  rw[ef] at hf ⊢
  have hc:=znO o1 o4 (by have:rs.length*(50+1)<=1000*51:=Nat.mul_le_mul (by omega) (zZ _);omega) (Tr.built (rs.map (·.path)) rs.length).length hA (i:=0) (b:=w.heap.size) rfl (by omega) (p:=[]) (a:=none) (k:=0) ⟨xS _ _ _ _,aZ⟩ hf
  refine hc.mono ?_
  rintro e w' ⟨a',k',q1,q2⟩
  exact⟨a',k',q1,q2.row⟩
 have ai:Y (∀wr a' k',Rw w wr 297 4 a' k' (Tr.flat (rs.map (·.path))).length (Tr.insCells (Tr.flat (rs.map (·.path))))->Calls Tryz.prog 118 #[.slice a' (Tr.flat (rs.map (·.path))).length k'] wr fun e w'=>e = .returned (.tuple #[])/\Y (Rw w w' 297 4 a' k' (Tr.flat (rs.map (·.path))).length (Tr.insCells (Tr.prog (rs.map (·.path)))))):=fun wr a' k' hR=>znM hR (by omega)
 have aC:=hid (Tr.prog_len (rs.map (·.path)))
 clear ay aI hp aM hf gN
 generalize rs.map (·.path)=ps at*
 go_enter Tryz.func77,Tryz.ntmps77
 go_wp2_with fail
 go_loopw [10] (fun iv wr=>∃j:Nat,j<=rs.length/\iv = .int .i64 j/\∃ex,Y (Ar w wr ([w.heap.size]++ex) (Tr.built ps j))) (fun iv _=>rs.length - (intOf iv).toNat)
 case atStart=>exact⟨0,zl _,rfl,[],HZ⟩
 case round=>
  obtain⟨j,a9,rfl,ex,HW⟩:=hrel
  clear HZ
  by_cases ag:j<rs.length
  ·have a8:(j:Int)<rs.length:=by omega
   obtain⟨g,gc,e1,_,_⟩:=World.ownsRow.form aq.o (by omega)
   simp only[qc,true_and] at e1
   obtain⟨rfl,rfl⟩:=e1
   obtain⟨cs,a1,av⟩:=ku aA.o j ag
   obtain⟨vM,vT,vS,vD,aK,m1,m2,m3,m4⟩:=a1
   obtain⟨ma,mk,rfl⟩:=zP m1
   obtain⟨ta,tk,rfl⟩:=zP m2
   obtain⟨sa,sk,rfl⟩:=zP m3
   obtain⟨da,dk,rfl⟩:=zP m4
   have gw:=HW.o.gr
   have aa:∀i,i<7->wr.cell? ⟨g,j*7+i,none⟩=cs[i]?:=fun i hi=>by
    have hx:∃u,aY.flatten[j*7+i]?=some u:=by
     rw[av i hi,aK]
     match i,hi with
     | 0,_=>exact⟨_,rfl⟩
     | 1,_=>exact⟨_,rfl⟩
     | 2,_=>exact⟨_,rfl⟩
     | 3,_=>exact⟨_,rfl⟩
     | 4,_=>exact⟨_,rfl⟩
     | 5,_=>exact⟨_,rfl⟩
     | 6,_=>exact⟨_,rfl⟩
    obtain⟨u,hu⟩:=hx
    have h0:w.cell? ⟨g,j*7+i,none⟩=some u:=(xd aq.o (j*7+i) (by omega)).trans hu
    rw[gw.cell (a:=⟨g,j*7+i,none⟩) h0 (by simp),<-hu,av i hi]
   subst aK
   have HG:=hid (al.o j ag)
   have HS:=hid (ar.o j ag)
   have HB:=hid (ak.o j ag)
   generalize rs[j]=r at*
   have d0:wr.cell? ⟨g,j*7,none⟩=some (.int .i64 r.number):=aa 0 (by omega)
   have d1:wr.cell? ⟨g,j*7+1,none⟩=some (.string (R.str r.path)):=aa 1 (by omega)
   have d2:wr.cell? ⟨g,j*7+2,none⟩=some (.slice ma r.ms.length mk):=aa 2 (by omega)
   have d3:wr.cell? ⟨g,j*7+3,none⟩=some (.slice ta r.tg.length tk):=aa 3 (by omega)
   have d4:wr.cell? ⟨g,j*7+4,none⟩=some (.string (R.str r.rep)):=aa 4 (by omega)
   have d5:wr.cell? ⟨g,j*7+5,none⟩=some (.slice sa r.sets.length sk):=aa 5 (by omega)
   have d6:wr.cell? ⟨g,j*7+6,none⟩=some (.slice da r.drops.length dk):=aa 6 (by omega)
   have GA:=zJ wr (.cells #[.int .i64 r.number,.string (R.str r.path),.slice ma r.ms.length mk,.slice ta r.tg.length tk,.string (R.str r.rep),.slice sa r.sets.length sk,.slice da r.drops.length dk] 213) none
   have aB:=hid (heap_alloc_new wr (.cells #[.int .i64 r.number,.string (R.str r.path),.slice ma r.ms.length mk,.slice ta r.tg.length tk,.string (R.str r.rep),.slice sa r.sets.length sk,.slice da r.drops.length dk] 213))
   have b1:(wr.alloc (.cells #[.int .i64 r.number,.string (R.str r.path),.slice ma r.ms.length mk,.slice ta r.tg.length tk,.string (R.str r.rep),.slice sa r.sets.length sk,.slice da r.drops.length dk] 213)).cell? ⟨wr.heap.size,1,none⟩=some (.string (R.str r.path)):=z8 aB.o
   have aG:=hid (HW.o.grown GA)
   clear al ar ak an ai aa av gw GA HW aB m1 m2 m3 m4
   go_upto_region 5 with fail
   generalize wr.alloc (.cells #[.int .i64 r.number,.string (R.str r.path),.slice ma r.ms.length mk,.slice ta r.tg.length tk,.string (R.str r.rep),.slice sa r.sets.length sk,.slice da r.drops.length dk] 213)=wa at*
   have HC:=hid (HG.o wa ex aG.o)
   clear HG d0 d1 d2 d3 d4 d5 d6 aG
   generalize Tr.grow (Tr.built ps j) 0 r.path=gg at*
   go_wp2_with fail
   refine HC.o.mono ?_
   rintro e w3 ⟨ab,b',rfl,ah,am⟩
   clear HC b1
   obtain⟨n,ax,hN⟩:=ah.o.here _ b' am.o
   obtain⟨vr,vb,h1,h2,h3⟩:=hN.ex
   obtain⟨va,vk,rfl⟩:=zP h2
   have ba:=HB.o n _ ax
   have gX:=zJ w3 (.cells #[.int .i64 (j:Int)] 3) none
   have az:=hid (ah.o.grown gX)
   have ad:=hid (zB h1 gX (by simp))
   have aF:=hid (zO h3 gX (fun k hk c=>by cases c))
   have ao:=hid (zO h2 gX (fun k hk c=>by cases c))
   have aT:Y (∀q u,([.int .i64 (j:Int)]:List Value)[q]?=some u->(w3.alloc (.cells #[.int .i64 (j:Int)] 3)).cell? ((⟨w3.heap.size,0,none⟩:Addr).add q)=some u):=qI w3 #[_] _ _ rfl
   have aN:Y (∀u∈([.int .i64 (j:Int)]:List Value),u.oneCell'=true):=fun u hu=>by simp at hu;subst hu;rfl
   have aS:Y (n.rules.length+1<=maxLen):=by show _<=_;unfold maxLen;omega
   have aX:Y ((n.rules.length+1)*8<=140737488355328):=by show _<=_;omega
   have aH:Y ((w3.alloc (.cells #[.int .i64 (j:Int)] 3)).heap.size=w3.heap.size+1):=by show _=_;simp
   have aO:Y (w.heap.size<=(w3.alloc (.cells #[.int .i64 (j:Int)] 3)).heap.size):=az.o.gr.size
   have aj:=hid (zV ad.o ao.o (by decide))
   have kX:(w3.alloc (.cells #[.int .i64 (j:Int)] 3)).cell? ⟨b',0,none⟩=some (.slice va n.rules.length vk):=z8 ad.o
   have k0:w3.cell? ⟨b',0,none⟩=some (.slice va n.rules.length vk):=z8 h1
   have a0:=zE ad.o
   have a3:=hN.low
   have aP:Y (Tr.built ps (j+1)=gg.1.set gg.2 ⟨n.rules++[j],n.br⟩):=by show _=_;rw[<-HS.o];unfold Tr.put;rw[ax]
   have aQ:Y (∀g9 ae w9,w9.ownsRow w.heap.size 3 1 (.slice (some ⟨g9,0,none⟩) (n.rules.length+1) ae) (n.rules.length+1) (Tr.ruCells n.rules++[.int .i64 (j:Int)])->(w3.alloc (.cells #[.int .i64 (j:Int)] 3)).grownBy w9 (Value.slice va n.rules.length vk).ownBlock->((Value.slice va n.rules.length vk).ownBlock=some g9\/g9=w3.heap.size+1)->Ar w (w9.setCell ⟨b',0,none⟩ (.slice (some ⟨g9,0,none⟩) (n.rules.length+1) ae)) ([w.heap.size]++ab) (Tr.built ps (j+1))):=fun g9 ae w9 ho hg hat=>by
    have au:=qM ad.o hg aj.o
    have gs:=zD w9 b' 0 (.slice (some ⟨g9,0,none⟩) (n.rules.length+1) ae)
    have r9:=zO aF.o hg (xW ao.o aF.o (by decide))
    rw[aP.o]
    refine az.o.set am.o (HMv.append kX a0 hg aj.o (by rcases hat with h | h;exact Or.inl h;exact Or.inr (by rw[h,aH.o]))) ⟨⟨_,vb,zF (i:=0) au _,?_,zS r9 gs (zV au r9 (by decide))⟩,a3⟩
    have:=zS ho gs (zV au ho (by decide))
    show World.ownsRow _ _ _ _ _ (n.rules++[j]).length (Tr.ruCells (n.rules++[j]))
    rw[Tr.ruCells_snoc,zW]
    exact this
   clear gX h1 h2 h3 ax hN ah HS HB am
   go_wp2_with (at_builtin;refine wpList_append_lies _ rfl (.tmp 22) (.tmp 24) 55 rfl w.heap.size 3 i0 _ 1 8 Tryz.underlying55 a2 a5 a6 a7 rfl (by decide) _ _ _ rfl ao.o ⟨w3.heap.size,0,none⟩ 1 1 [.int .i64 (j:Int)] rfl rfl aT.o aN.o (by decide) aS.o aX.o aO.o (w3.heap.size+1) aH.o ?_)
   intro g9 ae w9 aL aw aJ _
   have aU:=hid aL
   have aR:=hid aw
   have aW:=hid aJ
   have aD:=hid (qM ad.o aw aj.o)
   have q9:w9.cell? ⟨b',0,none⟩=some (.slice va n.rules.length vk):=z8 aD.o
   have f9:=zrB 0 aD.o
   clear aL aw aJ
   go_wp2_with fail
   go_roundw
   case rel=>exact⟨j+1,by omega,by go_num,ab,aQ.o _ _ _ aU.o aR.o aW.o⟩
   case measure=>simp[intOf];omega
  ·have hE:j=rs.length:=by omega
   subst hE
   have HL:=hid (an.o wr ex HW.o)
   clear al ar ak an HW aq aA af ap
   generalize Tr.flat ps=fl at*
   go_wp2_with fail
   refine HL.o.mono ?_
   rintro e w2 ⟨a',k',rfl,aE⟩
   have HC:=hid (ai.o w2 a' k' aE.o)
   clear HL ai aE
   go_wp2_with fail
   refine HC.o.mono ?_
   rintro e w3 ⟨rfl,aV⟩
   clear HC
   go_wp2
   go_ret
   exact⟨a',k',by rw[aC.o];rfl,by rw[aC.o];exact aV.o⟩
def Tr.mach (p:List Tr.Ins)(path:List UInt8):Nat->Nat->Nat->List Nat->List Nat
 | 0,_,_,acc=>acc
 | f+1,at_,here,acc=>
  match p[here]? with
  | none=>acc
  | some x=>
   if x.kind=0 then Tr.mach p path f at_ (here+1) (acc++[x.rule])
   else if x.kind=1/\path[at_]?=some x.on then Tr.mach p path f (at_+1) (here+1) acc
   else Tr.mach p path f at_ x.dst acc
def Tr.run (p:List Tr.Ins)(path:List UInt8):List Nat:=Tr.mach p path p.length 0 0 []
def Tr.Fwd (p:List Tr.Ins):Prop:=∀(i:Nat) x,p[i]?=some x->x.kind<=2/\(x.kind≠0->i<x.dst)
def Tr.fwd (p:List Tr.Ins):Bool:=(List.range p.length).all fun i=>match p[i]? with | none=>true | some x=>decide (x.kind<=2) && (decide (x.kind=0) || decide (i<x.dst))
theorem Tr.fwd_ok {p:List Tr.Ins}(h:Tr.fwd p=true):Tr.Fwd p:=fun i x hi=>by
 unfold Tr.fwd at h
 have h1:=List.all_eq_true.1 h i (List.mem_range.2 (List.getElem?_eq_some_iff.1 hi).1)
 rw[hi] at h1
 simp only[Bool.and_eq_true,Bool.or_eq_true,decide_eq_true_eq] at h1
 exact⟨h1.1,fun hk=>by rcases h1.2 with h2 | h2;exact absurd h2 hk;exact h2⟩
theorem Tr.mach_end {p:List Tr.Ins}{path:List UInt8}{f a h:Nat}{aa:List Nat}(hh:p.length<=h):Tr.mach p path f a h aa=aa:=by
 cases f with
 | zero=>rfl
 | succ f=>unfold Tr.mach;rw[List.getElem?_eq_none hh]
theorem Tr.mach_note {p:List Tr.Ins}{path:List UInt8}{f a h:Nat}{aa:List Nat}{x:Tr.Ins}(hx:p[h]?=some x)(hk:x.kind=0):Tr.mach p path (f+1) a h aa=Tr.mach p path f a (h+1) (aa++[x.rule]):=by
 rw[Tr.mach,hx];simp only[if_pos hk]
theorem Tr.mach_step {p:List Tr.Ins}{path:List UInt8}{f a h:Nat}{aa:List Nat}{x:Tr.Ins}(hx:p[h]?=some x)(hk:x.kind=1)(ha:path[a]?=some x.on):Tr.mach p path (f+1) a h aa=Tr.mach p path f (a+1) (h+1) aa:=by
 rw[Tr.mach,hx];simp only[if_neg (show ¬x.kind=0 by omega),if_pos (And.intro hk ha)]
theorem Tr.mach_jump {p:List Tr.Ins}{path:List UInt8}{f a h:Nat}{aa:List Nat}{x:Tr.Ins}(hx:p[h]?=some x)(hk:x.kind≠0)(ha:¬(x.kind=1/\path[a]?=some x.on)):Tr.mach p path (f+1) a h aa=Tr.mach p path f a x.dst aa:=by
 rw[Tr.mach,hx];simp only[if_neg hk,if_neg ha]
structure Mc (w wr:World) (p:List Tr.Ins) (path:List UInt8) (res:List Nat) (a:Option Addr) (k at_ here:Nat) (acc:List Nat):Prop where
 row:Rw w wr 3 1 a k acc.length (Tr.ruCells acc)
 few:acc.length<=here
 eq:∃f,p.length<=here+f/\Tr.mach p path f at_ here acc=res
theorem Mc.keep {w wr wa:World}{p:List Tr.Ins}{path:List UInt8}{ae:List Nat}{a:Option Addr}{k ab ad:Nat}{aa:List Nat}(h:Mc w wr p path ae a k ab ad aa)(g:wr.grownBy wa none):Mc w wa p path ae a k ab ad aa:=⟨h.row.keep g,h.few,h.eq⟩
theorem Mc.pos {w wr:World}{p:List Tr.Ins}{path:List UInt8}{ae:List Nat}{a:Option Addr}{k ad aa:Nat}{ab:List Nat}(h:Mc w wr p path ae a k ad aa ab)(hl:aa<p.length):∃f,p.length<=aa+(f+1)/\Tr.mach p path (f+1) ad aa ab=ae:=by
 obtain⟨f,h1,h2⟩:=h.eq
 cases f with
 | zero=>omega
 | succ f=>exact⟨f,h1,h2⟩
theorem znP {w:World}{B:Nat}{pa:Option Addr}{pk:Nat}{p:List Tr.Ins}(hr:w.ownsRow B 297 4 (.slice pa p.length pk) p.length (Tr.insCells p))(hf:Tr.Fwd p)(hl:p.length<=10000000)(s:ByteArray)(hs:s.size<=100000) :
  Calls Tryz.prog 240 #[.slice pa p.length pk,.string s] w fun e w'=>∃a k,e = .returned (.slice a (Tr.run p s.data.toList).length k)/\Rw w w' 3 1 a k (Tr.run p s.data.toList).length (Tr.ruCells (Tr.run p s.data.toList)):=by
 have HR:=hid hr
 have HF:=hid hf
 have HZ:Y (Mc w w p s.data.toList (Tr.run p s.data.toList) none 0 0 0 []):=⟨⟨xS _ _ _ _,zM _ _⟩,zZ _,p.length,by omega,rfl⟩
 clear hr hf
 generalize Tr.run p s.data.toList=res at*
 go_enter Tryz.func240,Tryz.ntmps240
 go_wp2_with fail
 go_loopw [5,6,7] (fun rv av hv wr=>∃a k ab aa ae,rv = .slice a ae.length k/\av = .int .i64 (ab:Nat)/\hv = .int .i64 (aa:Nat)/\ab<=s.size/\Y (Mc w wr p s.data.toList res a k ab aa ae)) (fun _ _ hv _=>p.length - (intOf hv).toNat)
 case atStart=>exact⟨none,0,0,0,[],rfl,rfl,rfl,zl _,HZ⟩
 case round=>
  obtain⟨a,k,ab,aa,ae,rfl,rfl,rfl,az,HW⟩:=hrel
  clear HZ
  by_cases aw:aa<p.length
  ·have aB:(aa:Int)<p.length:=by omega
   obtain⟨g,gc,e1,_,_⟩:=World.ownsRow.form HR.o (by omega)
   simp only[qc,true_and] at e1
   obtain⟨rfl,rfl⟩:=e1
   have an:p[aa]?=some p[aa]:=qN aw
   have ak:∀j,j<4->wr.cell? ⟨g,aa*4+j,none⟩=(Tr.Ins.cells p[aa])[j]?:=fun j hj=>by
    have h0:w.cell? ⟨g,aa*4+j,none⟩=(Tr.Ins.cells p[aa])[j]?:=(xd HR.o (aa*4+j) (by omega)).trans (Tr.insCells_at an j hj)
    obtain⟨u,hu⟩:∃u,(Tr.Ins.cells p[aa])[j]?=some u:=⟨_,qN (show j<4 from hj)⟩
    rw[hu] at h0 ⊢
    exact HW.o.row.gr.cell (a:=⟨g,aa*4+j,none⟩) h0 (by simp)
   obtain⟨aF,ai⟩:=HF.o aa _ an
   have HX:=hid an
   clear an
   generalize p[aa]=x at*
   have d0:wr.cell? ⟨g,aa*4,none⟩=some (.int .i64 x.kind):=ak 0 (by omega)
   have d1:wr.cell? ⟨g,aa*4+1,none⟩=some (.int .i64 x.rule):=ak 1 (by omega)
   have d2:wr.cell? ⟨g,aa*4+2,none⟩=some (.int .u8 x.on.toNat):=ak 2 (by omega)
   have d3:wr.cell? ⟨g,aa*4+3,none⟩=some (.int .i64 x.dst):=ak 3 (by omega)
   have HB:=hid (heap_alloc_new wr (.cells #[.int .i64 x.kind,.int .i64 x.rule,.int .u8 x.on.toNat,.int .i64 x.dst] 297))
   have af:=hid (HW.o.keep (zJ wr (.cells #[.int .i64 x.kind,.int .i64 x.rule,.int .u8 x.on.toNat,.int .i64 x.dst] 297) none))
   have q0:(wr.alloc (.cells #[.int .i64 x.kind,.int .i64 x.rule,.int .u8 x.on.toNat,.int .i64 x.dst] 297)).cell? ⟨wr.heap.size,0,none⟩=some (.int .i64 x.kind):=z8 HB.o
   have q1:(wr.alloc (.cells #[.int .i64 x.kind,.int .i64 x.rule,.int .u8 x.on.toNat,.int .i64 x.dst] 297)).cell? ⟨wr.heap.size,1,none⟩=some (.int .i64 x.rule):=z8 HB.o
   have q2:(wr.alloc (.cells #[.int .i64 x.kind,.int .i64 x.rule,.int .u8 x.on.toNat,.int .i64 x.dst] 297)).cell? ⟨wr.heap.size,2,none⟩=some (.int .u8 x.on.toNat):=z8 HB.o
   have q3:(wr.alloc (.cells #[.int .i64 x.kind,.int .i64 x.rule,.int .u8 x.on.toNat,.int .i64 x.dst] 297)).cell? ⟨wr.heap.size,3,none⟩=some (.int .i64 x.dst):=z8 HB.o
   clear ak HW
   go_upto_region 5 with fail
   clear d0 d1 d2 d3 HB
   generalize wr.alloc (.cells #[.int .i64 x.kind,.int .i64 x.rule,.int .u8 x.on.toNat,.int .i64 x.dst] 297)=wa at*
   generalize wr.heap.size=bb at*
   obtain⟨f,al,ad⟩:=af.o.pos aw
   by_cases am:x.kind=0
   ·have au:(x.kind:Int)=0:=by omega
    rw[Tr.mach_note HX.o am] at ad
    have HC:=hid (qI wa #[.int .i64 (x.rule:Int)] 3 _ rfl)
    have aq:=hid (af.o.row.keep (zJ wa (.cells #[.int .i64 (x.rule:Int)] 3) none))
    have aE:=af.o.few
    have ap:Y (∃f,p.length<=aa+1+f/\Tr.mach p s.data.toList f ab (aa+1) (ae++[x.rule])=res):=⟨f,by omega,ad⟩
    clear al ad HX ai
    rw[au] at q0
    go_wp2_with (at_builtin;refine @xl _ _ _ _ _ _ _ rfl _ _ 55 3 rfl _ _ _ Tryz.underlying55 zeL rfl (by decide) (by decide) _ _ _ _ rfl aq.o ⟨wa.heap.size,0,none⟩ _ [.int .i64 (x.rule:Int)] rfl rfl HC.o (fun u hu=>by simp at hu;subst hu;rfl) (by omega) ?_)
    intro a' k' w' hh
    have ah:Y (Mc w w' p s.data.toList res a' k' ab (aa+1) (ae++[x.rule])):=⟨by rw[zW,Tr.ruCells_snoc];exact hh.o,by rw[zW];show _+1<=_;omega,ap.o⟩
    have ax:Y ((ae++[x.rule]).length=ae.length+1):=by show _=_;rw[zW];rfl
    clear HC af aq q0 q1 q2 q3 hh ap
    go_wp2_with fail
    go_roundw
    case rel=>exact⟨a',k',ab,aa+1,ae++[x.rule],by rw[ax.o],rfl,by go_num,az,ah⟩
    case measure=>simp[intOf];omega
   ·have au:¬((x.kind:Int)=0):=by omega
    have aD:=ai am
    by_cases ar:x.kind=1
    ·have ao:(x.kind:Int)=1:=by omega
     by_cases ha:ab<s.size
     ·have ay:(ab:Int)<s.size:=by omega
      have ag:s.data.toList[ab]?=some s[ab]:=by
       have hk:ab<s.data.toList.length:=by simpa using ha
       rw[qN hk];rfl
      by_cases hc:s[ab]=x.on
      ·have aA:(s[ab].toNat:Int)=x.on.toNat:=by rw[hc]
       rw[Tr.mach_step HX.o ar (by rw[ag,hc])] at ad
       have ah:Y (Mc w wa p s.data.toList res a k (ab+1) (aa+1) ae):=⟨af.o.row,by have:=af.o.few;omega,f,by omega,ad⟩
       have aj:Y (∀W,wa.grownBy W none->Mc w W p s.data.toList res a k (ab+1) (aa+1) ae):=fun W hW=>ah.o.keep hW
       clear al ad HX ai af ah ag hc
       rw[ao] at q0
       go_wp2_with fail
       go_quiet (fail)
       go_wp2_with fail
       go_roundw
       case rel=>exact⟨a,k,ab+1,aa+1,ae,rfl,by go_num,by go_num,by omega,aj.o _ (vu _ _)⟩
       case measure=>simp[intOf];omega
      ·have aA:=zq7 hc
       rw[Tr.mach_jump HX.o am (fun h=>hc (by rw[ag] at h;exact qk h.2))] at ad
       have aj:Y (∀W,wa.grownBy W none->Mc w W p s.data.toList res a k ab x.dst ae):=fun W hW=>(⟨af.o.row.keep hW,by have:=af.o.few;omega,f,by omega,ad⟩)
       clear al ad HX ai af ag hc
       rw[ao] at q0
       go_wp2_with fail
       go_quiet (fail)
       go_wp2_with fail
       go_roundw
       case rel=>exact⟨a,k,ab,x.dst,ae,rfl,rfl,by go_num,by omega,aj.o _ (vu _ _)⟩
       case measure=>simp[intOf];omega
     ·have ay:¬((ab:Int)<s.size):=by omega
      have ag:s.data.toList[ab]?=none:=List.getElem?_eq_none (by rw[R.size_eq];omega)
      rw[Tr.mach_jump HX.o am (fun h=>by rw[ag] at h;cases h.2)] at ad
      have aj:Y (∀W,wa.grownBy W none->Mc w W p s.data.toList res a k ab x.dst ae):=fun W hW=>(⟨af.o.row.keep hW,by have:=af.o.few;omega,f,by omega,ad⟩)
      clear al ad HX ai af ag
      rw[ao] at q0
      go_wp2_with fail
      go_quiet (fail)
      go_wp2_with fail
      go_roundw
      case rel=>exact⟨a,k,ab,x.dst,ae,rfl,rfl,by go_num,by omega,aj.o _ (vu _ _)⟩
      case measure=>simp[intOf];omega
    ·have aC:(x.kind:Int)=2:=by omega
     rw[Tr.mach_jump HX.o am (fun h=>ar h.1)] at ad
     have ah:Y (Mc w wa p s.data.toList res a k ab x.dst ae):=⟨af.o.row,by have:=af.o.few;omega,f,by omega,ad⟩
     clear al ad HX ai af
     rw[aC] at q0
     go_wp2_with fail
     go_roundw
     case rel=>exact⟨a,k,ab,x.dst,ae,rfl,rfl,by go_num,by omega,ah⟩
     case measure=>simp[intOf];omega
  ·have aB:¬((aa:Int)<p.length):=by omega
   obtain⟨f,_,ad⟩:=HW.o.eq
   rw[Tr.mach_end (by omega)] at ad
   have HE:=hid ad
   clear ad
   go_wp2
   go_ret
   exact⟨a,k,by rw[HE.o];rfl,by rw[<-HE.o];exact HW.o.row⟩
end Go.Proofs.YtfocdefchbnkpaaGreatDoor
