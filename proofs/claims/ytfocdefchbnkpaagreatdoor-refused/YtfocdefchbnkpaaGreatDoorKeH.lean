/- What is no request is refused, and the connection is over. -/
import Derived.Test.YtfocdefchbnkpaaGreatDoorAli
import Derived.Test.YtfocdefchbnkpaaGreatDoorKeG
set_option maxRecDepth 100000
set_option maxHeartbeats 20000000
namespace Go.Proofs.YtfocdefchbnkpaaGreatDoor
open Go.RowKit
theorem q81q (m:Nat):∀i,i<25->i≠6->Rf.c0 m i=Rf.c0 0 i
 | 0,_,h=>rfl
 | 1,_,h=>rfl
 | 2,_,h=>rfl
 | 3,_,h=>rfl
 | 4,_,h=>rfl
 | 5,_,h=>rfl
 | 6,_,h=>absurd rfl h
 | 7,_,h=>rfl
 | 8,_,h=>rfl
 | 9,_,h=>rfl
 | 10,_,h=>rfl
 | 11,_,h=>rfl
 | 12,_,h=>rfl
 | 13,_,h=>rfl
 | 14,_,h=>rfl
 | 15,_,h=>rfl
 | 16,_,h=>rfl
 | 17,_,h=>rfl
 | 18,_,h=>rfl
 | 19,_,h=>rfl
 | 20,_,h=>rfl
 | 21,_,h=>rfl
 | 22,_,h=>rfl
 | 23,_,h=>rfl
 | 24,_,h=>rfl
 | i+25,h,_=>by omega
theorem q75q (m i:Nat)(h1:301<=m)(h2:m<=99999)(hi:i<27):(Rf.y1 m i).sent=[⟨1,[117,112],Rf.good⟩,⟨1,[],Rf.c1 i⟩]/\Rf.over (Rf.y1 m i)=true:=by
 by_cases h6:i=6
 ·subst h6;exact rf_6 m h1 h2
 ·by_cases aa:i<25
  ·have e:Rf.y1 m i=Rf.y1 0 i:=by unfold Rf.y1;rw[q81q m i aa h6]
   rw[e];exact q77q i aa h6
  ·by_cases e:i=25
   ·subst e;exact zrZ m
   ·have e2:i=26:=by omega
    subst e2;exact zs0 m
def Rf.y2:Yd:=⟨[],[none,some (.hd Rq.zero)],[]⟩
theorem q67q {y:Yd}(h:Rf.over y=true):y.told=Rf.y2:=by
 unfold Rf.over at h
 obtain⟨d,c,s⟩:=y
 simp only[Bool.and_eq_true,decide_eq_true_eq] at h
 obtain⟨h1,h2⟩:=h
 subst h1
 split at h2
 ·rename_i _ hh
  simp only[Bool.and_eq_true,decide_eq_true_eq] at h2
  obtain⟨q1,q2,q3,q4,q5⟩:=h2
  obtain⟨z1,z2,z3,z4,z5⟩:=hh
  simp only at q1 q2 q3 q4 q5
  subst q1;subst q2;subst q3;subst q4;subst q5
  rfl
 ·cases h2
theorem q68q:(Rf.y2.fedP Rf.hs 1 Rf.good).sent=[⟨2,[117,112],Rf.good⟩]:=by decide +kernel
structure Stx (w:World) (yb:Nat) (ps:List (Option Nat)) (b:Nat) (s:List UInt8):Prop where
 cell:w.cell? ⟨b,1,none⟩=some (.string (R.str s))
 ap:¬YF w yb ps b
 lt:b<w.heap.size
theorem Stx.moved {w w':World}{yb b:Nat}{ps ps':List (Option Nat)}{s:List UInt8}(h:Stx w yb ps b s)(m:YMv w w' yb ps ps'):Stx w' yb ps' b s:=
 ⟨by rw[jA (m.turn.block b h.lt h.ap)];exact h.cell,fun hF=>by
  rcases m.foot b hF with q | q
  ·exact h.ap q
  ·have:=h.lt;omega,yU h.lt m.turn.size⟩
theorem q72q {w:World}{yb:Nat}{ps:List (Option Nat)}{a:Option Addr}{k:Nat}{e f:Ev}(h:Held w yb ps (.slice a 2 k) [e,f]):∃g,a=some ⟨g,0,none⟩/\∀j,j<6->w.cell? ⟨g,j,none⟩=(Ev.cells e++Ev.cells f)[j]?:=by
 obtain⟨g,gc,e1,_,_⟩:=World.ownsRow.form h.row (by show 0<2;decide)
 simp only[qc] at e1
 obtain⟨rfl,_,_⟩:=e1
 refine⟨g,rfl,fun j hj=>?_⟩
 have:=xd h.row j (by show j<2*3;omega)
 rw[this]
 show(Ev.cells e++(Ev.cells f++[]))[j]?=_
 rw[xn]
theorem q2q (a b:List UInt8):R.str a++R.str b=R.str (a++b):=by
 apply zjA
 rw[q54q,R.str_toList,R.str_toList,R.str_toList]
theorem q66q (n:Nat):Rf.long n++[120]=Rf.long (n+1):=by unfold Rf.long;rw[List.replicate_succ']
theorem q6q:∀j,j<=12->(Rf.many j).length<=10*j
 | 0,_=>zZ _
 | j+1,h=>by
  have h1:=q6q j (by omega)
  have h2:(R.dec j).length<=2:=R.dec_len j 1 (by omega)
  rw[Rf.many,zW]
  unfold Rf.row
  simp only[zW,zm,qi]
  omega
theorem zrY (m:Nat)(hm:m<=99999):∀i,i<27->(Rf.c0 m i).length<=1000
 | 0,_=>Nat.le_of_ble_eq_true rfl
 | 1,_=>Nat.le_of_ble_eq_true rfl
 | 2,_=>Nat.le_of_ble_eq_true rfl
 | 3,_=>Nat.le_of_ble_eq_true rfl
 | 4,_=>Nat.le_of_ble_eq_true rfl
 | 5,_=>Nat.le_of_ble_eq_true rfl
 | 6,_=>by
  show(Rf.cl++R.dec m++[13,10,13,10]).length<=1000
  have:=R.dec_len m 4 (by omega)
  have:Rf.cl.length=41:=rfl
  simp only[zW,zm,qi];omega
 | 7,_=>Nat.le_of_ble_eq_true rfl
 | 8,_=>Nat.le_of_ble_eq_true rfl
 | 9,_=>Nat.le_of_ble_eq_true rfl
 | 10,_=>Nat.le_of_ble_eq_true rfl
 | 11,_=>Nat.le_of_ble_eq_true rfl
 | 12,_=>Nat.le_of_ble_eq_true rfl
 | 13,_=>Nat.le_of_ble_eq_true rfl
 | 14,_=>Nat.le_of_ble_eq_true rfl
 | 15,_=>Nat.le_of_ble_eq_true rfl
 | 16,_=>Nat.le_of_ble_eq_true rfl
 | 17,_=>Nat.le_of_ble_eq_true rfl
 | 18,_=>Nat.le_of_ble_eq_true rfl
 | 19,_=>Nat.le_of_ble_eq_true rfl
 | 20,_=>Nat.le_of_ble_eq_true rfl
 | 21,_=>Nat.le_of_ble_eq_true rfl
 | 22,_=>Nat.le_of_ble_eq_true rfl
 | 23,_=>Nat.le_of_ble_eq_true rfl
 | 24,_=>by
  have:=q6q 12 (by omega)
  show(_++Rf.many 12++_).length<=1000
  simp only[zW,zm,qi];omega
 | 25,_=>by
  show(_++Rf.long 601).length<=1000
  unfold Rf.long
  simp only[zW,zm,qi,List.length_replicate];omega
 | 26,_=>by
  show(Rf.long 601).length<=1000
  unfold Rf.long
  simp only[List.length_replicate];omega
 | i+27,h=>by omega
def Rf.Laid (w:World)(co m s:Nat):Prop:=∀i,i<27->∃b,s<=b/\w.cell? ⟨co,i,none⟩=some (.slice (some ⟨b,0,none⟩) 2 2)/\w.cell? ⟨b,0,none⟩=some (.string (R.str (Rf.c0 m i)))/\w.cell? ⟨b,1,none⟩=some (.string (R.str (Rf.c1 i)))
def Rf.s0 (m:Nat):Nat->ByteArray
 | 0=>(⟨#[71,69,84,32,47,32,72,84,84,80,47,49,46,49,13,10,104,111,115,116,58,32,97,13,10,116,114,97,110,115,102,101,114,45,101,110,99,111,100,105,110,103,58,32,99,104,117,110,107,101,100,13,10,13,10]⟩:ByteArray)
 | 1=>(⟨#[71,69,84,32,47,32,72,84,84,80,47,49,46,49,13,10,104,111,115,116,58,32,97,13,10,99,111,110,116,101,110,116,45,108,101,110,103,116,104,58,32,49,13,10,99,111,110,116,101,110,116,45,108,101,110,103,116,104,58,32,49,13,10,13,10,120]⟩:ByteArray)
 | 2=>(⟨#[71,69,84,32,47,32,72,84,84,80,47,49,46,49,13,10,104,111,115,116,58,32,97,13,10,99,111,110,116,101,110,116,45,108,101,110,103,116,104,58,32,49,44,32,49,13,10,13,10,120]⟩:ByteArray)
 | 3=>(⟨#[71,69,84,32,47,32,72,84,84,80,47,49,46,49,13,10,104,111,115,116,58,32,97,13,10,99,111,110,116,101,110,116,45,108,101,110,103,116,104,58,32,43,49,13,10,13,10,120]⟩:ByteArray)
 | 4=>(⟨#[71,69,84,32,47,32,72,84,84,80,47,49,46,49,13,10,104,111,115,116,58,32,97,13,10,99,111,110,116,101,110,116,45,108,101,110,103,116,104,58,32,48,48,48,48,48,49,13,10,13,10,120]⟩:ByteArray)
 | 5=>(⟨#[71,69,84,32,47,32,72,84,84,80,47,49,46,49,13,10,104,111,115,116,58,32,97,13,10,99,111,110,116,101,110,116,45,108,101,110,103,116,104,58,13,10,13,10]⟩:ByteArray)
 | 6=>((⟨#[71,69,84,32,47,32,72,84,84,80,47,49,46,49,13,10,104,111,115,116,58,32,97,13,10,99,111,110,116,101,110,116,45,108,101,110,103,116,104,58,32]⟩:ByteArray)++R.str (R.dec m)++⟨#[13,10,13,10]⟩)
 | 7=>(⟨#[71,69,84,32,47,32,72,84,84,80,47,49,46,49,10,104,111,115,116,58,32,97,10,10]⟩:ByteArray)
 | 8=>(⟨#[71,69,84,32,47,32,72,84,84,80,47,49,46,49,13,10,104,111,115,116,58,32,97,10,13,10]⟩:ByteArray)
 | 9=>(⟨#[71,69,84,32,47,32,72,84,84,80,47,49,46,49,13,10,104,111,115,116,32,58,32,97,13,10,13,10]⟩:ByteArray)
 | 10=>(⟨#[71,69,84,32,47,32,72,84,84,80,47,49,46,49,13,10,104,111,115,116,58,32,97,13,10,32,98,58,32,49,13,10,13,10]⟩:ByteArray)
 | 11=>(⟨#[71,69,84,32,47,32,72,84,84,80,47,49,46,49,13,10,104,111,115,116,58,32,97,13,10,98,13,10,13,10]⟩:ByteArray)
 | 12=>(⟨#[71,69,84,32,47,32,72,84,84,80,47,49,46,49,13,10,104,111,115,116,58,32,97,13,10,98,58,32,9,13,10,13,10]⟩:ByteArray)
 | 13=>(⟨#[71,69,84,32,47,32,72,84,84,80,47,49,46,49,13,10,104,111,115,116,58,32,97,13,10,104,111,115,116,58,32,97,13,10,13,10]⟩:ByteArray)
 | 14=>(⟨#[71,69,84,32,47,32,72,84,84,80,47,49,46,49,13,10,104,111,115,116,58,32,97,58,13,10,13,10]⟩:ByteArray)
 | 15=>(⟨#[71,69,84,32,47,32,72,84,84,80,47,49,46,49,13,10,104,111,115,116,58,32,97,46,46,98,13,10,13,10]⟩:ByteArray)
 | 16=>(⟨#[71,69,84,32,47,32,72,84,84,80,47,49,46,49,13,10,98,58,32,49,13,10,13,10]⟩:ByteArray)
 | 17=>(⟨#[71,69,84,32,47,32,72,84,84,80,47,49,46,48,13,10,104,111,115,116,58,32,97,13,10,13,10]⟩:ByteArray)
 | 18=>(⟨#[71,69,84,32,32,47,32,72,84,84,80,47,49,46,49,13,10,104,111,115,116,58,32,97,13,10,13,10]⟩:ByteArray)
 | 19=>(⟨#[103,101,116,32,47,32,72,84,84,80,47,49,46,49,13,10,104,111,115,116,58,32,97,13,10,13,10]⟩:ByteArray)
 | 20=>(⟨#[76,79,78,71,77,69,84,72,79,32,47,32,72,84,84,80,47,49,46,49,13,10,104,111,115,116,58,32,97,13,10,13,10]⟩:ByteArray)
 | 21=>(⟨#[71,69,84,32,120,32,72,84,84,80,47,49,46,49,13,10,104,111,115,116,58,32,97,13,10,13,10]⟩:ByteArray)
 | 22=>(⟨#[71,69,84,32,104,116,116,112,58,47,47,97,47,32,72,84,84,80,47,49,46,49,13,10,104,111,115,116,58,32,97,13,10,13,10]⟩:ByteArray)
 | 23=>(⟨#[13,10,71,69,84,32,47,32,72,84,84,80,47,49,46,49,13,10,104,111,115,116,58,32,97,13,10,13,10]⟩:ByteArray)
 | 24=>((⟨#[71,69,84,32,47,32,72,84,84,80,47,49,46,49,13,10]⟩:ByteArray)++R.str (Rf.many 12)++⟨#[104,111,115,116,58,32,97,13,10,13,10]⟩)
 | 25=>((⟨#[71,69,84,32,47,32,72,84,84,80,47,49,46,49,13,10,104,111,115,116,58,32,97,13,10,98,58,32]⟩:ByteArray)++R.str (Rf.long 601))
 | 26=>(R.str (Rf.long 601))
 | _=>⟨#[]⟩
theorem zs1 (m:Nat):∀i,i<27->Rf.s0 m i=R.str (Rf.c0 m i)
 | 0,_=>rfl
 | 1,_=>rfl
 | 2,_=>rfl
 | 3,_=>rfl
 | 4,_=>rfl
 | 5,_=>rfl
 | 6,_=>by
  show((⟨#[71,69,84,32,47,32,72,84,84,80,47,49,46,49,13,10,104,111,115,116,58,32,97,13,10,99,111,110,116,101,110,116,45,108,101,110,103,116,104,58,32]⟩:ByteArray)++R.str (R.dec m)++⟨#[13,10,13,10]⟩)=R.str (Rf.cl++R.dec m++[13,10,13,10])
  rw[<-q2q,<-q2q];rfl
 | 7,_=>rfl
 | 8,_=>rfl
 | 9,_=>rfl
 | 10,_=>rfl
 | 11,_=>rfl
 | 12,_=>rfl
 | 13,_=>rfl
 | 14,_=>rfl
 | 15,_=>rfl
 | 16,_=>rfl
 | 17,_=>rfl
 | 18,_=>rfl
 | 19,_=>rfl
 | 20,_=>rfl
 | 21,_=>rfl
 | 22,_=>rfl
 | 23,_=>rfl
 | 24,_=>by
  show((⟨#[71,69,84,32,47,32,72,84,84,80,47,49,46,49,13,10]⟩:ByteArray)++R.str (Rf.many 12)++⟨#[104,111,115,116,58,32,97,13,10,13,10]⟩)=R.str ([71,69,84,32,47,32,72,84,84,80,47,49,46,49,13,10]++Rf.many 12++[104,111,115,116,58,32,97,13,10,13,10])
  rw[<-q2q,<-q2q];rfl
 | 25,_=>by
  show((⟨#[71,69,84,32,47,32,72,84,84,80,47,49,46,49,13,10,104,111,115,116,58,32,97,13,10,98,58,32]⟩:ByteArray)++R.str (Rf.long 601))=R.str ([71,69,84,32,47,32,72,84,84,80,47,49,46,49,13,10,104,111,115,116,58,32,97,13,10,98,58,32]++Rf.long 601)
  rw[<-q2q];rfl
 | 26,_=>rfl
 | i+27,h=>by omega
def Rf.objs (m s:Nat):List Obj:=[.cells #[.string (⟨#[71,69,84,32,47,32,72,84,84,80,47,49,46,49,13,10,104,111,115,116,58,32,97,13,10,116,114,97,110,115,102,101,114,45,101,110,99,111,100,105,110,103,58,32,99,104,117,110,107,101,100,13,10,13,10]⟩:ByteArray),.string ⟨#[72,84,84,80,47,49,46,49,32,53,48,49,32,78,111,116,32,73,109,112,108,101,109,101,110,116,101,100,13,10,99,111,110,110,101,99,116,105,111,110,58,32,99,108,111,115,101,13,10,99,111,110,116,101,110,116,45,108,101,110,103,116,104,58,32,48,13,10,13,10]⟩] 9,.cells #[.string (⟨#[71,69,84,32,47,32,72,84,84,80,47,49,46,49,13,10,104,111,115,116,58,32,97,13,10,99,111,110,116,101,110,116,45,108,101,110,103,116,104,58,32,49,13,10,99,111,110,116,101,110,116,45,108,101,110,103,116,104,58,32,49,13,10,13,10,120]⟩:ByteArray),.string ⟨#[72,84,84,80,47,49,46,49,32,52,48,48,32,66,97,100,32,82,101,113,117,101,115,116,13,10,99,111,110,110,101,99,116,105,111,110,58,32,99,108,111,115,101,13,10,99,111,110,116,101,110,116,45,108,101,110,103,116,104,58,32,48,13,10,13,10]⟩] 9,.cells #[.string (⟨#[71,69,84,32,47,32,72,84,84,80,47,49,46,49,13,10,104,111,115,116,58,32,97,13,10,99,111,110,116,101,110,116,45,108,101,110,103,116,104,58,32,49,44,32,49,13,10,13,10,120]⟩:ByteArray),.string ⟨#[72,84,84,80,47,49,46,49,32,52,48,48,32,66,97,100,32,82,101,113,117,101,115,116,13,10,99,111,110,110,101,99,116,105,111,110,58,32,99,108,111,115,101,13,10,99,111,110,116,101,110,116,45,108,101,110,103,116,104,58,32,48,13,10,13,10]⟩] 9,.cells #[.string (⟨#[71,69,84,32,47,32,72,84,84,80,47,49,46,49,13,10,104,111,115,116,58,32,97,13,10,99,111,110,116,101,110,116,45,108,101,110,103,116,104,58,32,43,49,13,10,13,10,120]⟩:ByteArray),.string ⟨#[72,84,84,80,47,49,46,49,32,52,48,48,32,66,97,100,32,82,101,113,117,101,115,116,13,10,99,111,110,110,101,99,116,105,111,110,58,32,99,108,111,115,101,13,10,99,111,110,116,101,110,116,45,108,101,110,103,116,104,58,32,48,13,10,13,10]⟩] 9,.cells #[.string (⟨#[71,69,84,32,47,32,72,84,84,80,47,49,46,49,13,10,104,111,115,116,58,32,97,13,10,99,111,110,116,101,110,116,45,108,101,110,103,116,104,58,32,48,48,48,48,48,49,13,10,13,10,120]⟩:ByteArray),.string ⟨#[72,84,84,80,47,49,46,49,32,52,48,48,32,66,97,100,32,82,101,113,117,101,115,116,13,10,99,111,110,110,101,99,116,105,111,110,58,32,99,108,111,115,101,13,10,99,111,110,116,101,110,116,45,108,101,110,103,116,104,58,32,48,13,10,13,10]⟩] 9,.cells #[.string (⟨#[71,69,84,32,47,32,72,84,84,80,47,49,46,49,13,10,104,111,115,116,58,32,97,13,10,99,111,110,116,101,110,116,45,108,101,110,103,116,104,58,13,10,13,10]⟩:ByteArray),.string ⟨#[72,84,84,80,47,49,46,49,32,52,48,48,32,66,97,100,32,82,101,113,117,101,115,116,13,10,99,111,110,110,101,99,116,105,111,110,58,32,99,108,111,115,101,13,10,99,111,110,116,101,110,116,45,108,101,110,103,116,104,58,32,48,13,10,13,10]⟩] 9,.cells #[.string ((⟨#[71,69,84,32,47,32,72,84,84,80,47,49,46,49,13,10,104,111,115,116,58,32,97,13,10,99,111,110,116,101,110,116,45,108,101,110,103,116,104,58,32]⟩:ByteArray)++R.str (R.dec m)++⟨#[13,10,13,10]⟩),.string ⟨#[72,84,84,80,47,49,46,49,32,52,49,51,32,67,111,110,116,101,110,116,32,84,111,111,32,76,97,114,103,101,13,10,99,111,110,110,101,99,116,105,111,110,58,32,99,108,111,115,101,13,10,99,111,110,116,101,110,116,45,108,101,110,103,116,104,58,32,48,13,10,13,10]⟩] 9,.cells #[.string (⟨#[71,69,84,32,47,32,72,84,84,80,47,49,46,49,10,104,111,115,116,58,32,97,10,10]⟩:ByteArray),.string ⟨#[72,84,84,80,47,49,46,49,32,52,48,48,32,66,97,100,32,82,101,113,117,101,115,116,13,10,99,111,110,110,101,99,116,105,111,110,58,32,99,108,111,115,101,13,10,99,111,110,116,101,110,116,45,108,101,110,103,116,104,58,32,48,13,10,13,10]⟩] 9,.cells #[.string (⟨#[71,69,84,32,47,32,72,84,84,80,47,49,46,49,13,10,104,111,115,116,58,32,97,10,13,10]⟩:ByteArray),.string ⟨#[72,84,84,80,47,49,46,49,32,52,48,48,32,66,97,100,32,82,101,113,117,101,115,116,13,10,99,111,110,110,101,99,116,105,111,110,58,32,99,108,111,115,101,13,10,99,111,110,116,101,110,116,45,108,101,110,103,116,104,58,32,48,13,10,13,10]⟩] 9,.cells #[.string (⟨#[71,69,84,32,47,32,72,84,84,80,47,49,46,49,13,10,104,111,115,116,32,58,32,97,13,10,13,10]⟩:ByteArray),.string ⟨#[72,84,84,80,47,49,46,49,32,52,48,48,32,66,97,100,32,82,101,113,117,101,115,116,13,10,99,111,110,110,101,99,116,105,111,110,58,32,99,108,111,115,101,13,10,99,111,110,116,101,110,116,45,108,101,110,103,116,104,58,32,48,13,10,13,10]⟩] 9,.cells #[.string (⟨#[71,69,84,32,47,32,72,84,84,80,47,49,46,49,13,10,104,111,115,116,58,32,97,13,10,32,98,58,32,49,13,10,13,10]⟩:ByteArray),.string ⟨#[72,84,84,80,47,49,46,49,32,52,48,48,32,66,97,100,32,82,101,113,117,101,115,116,13,10,99,111,110,110,101,99,116,105,111,110,58,32,99,108,111,115,101,13,10,99,111,110,116,101,110,116,45,108,101,110,103,116,104,58,32,48,13,10,13,10]⟩] 9,.cells #[.string (⟨#[71,69,84,32,47,32,72,84,84,80,47,49,46,49,13,10,104,111,115,116,58,32,97,13,10,98,13,10,13,10]⟩:ByteArray),.string ⟨#[72,84,84,80,47,49,46,49,32,52,48,48,32,66,97,100,32,82,101,113,117,101,115,116,13,10,99,111,110,110,101,99,116,105,111,110,58,32,99,108,111,115,101,13,10,99,111,110,116,101,110,116,45,108,101,110,103,116,104,58,32,48,13,10,13,10]⟩] 9,.cells #[.string (⟨#[71,69,84,32,47,32,72,84,84,80,47,49,46,49,13,10,104,111,115,116,58,32,97,13,10,98,58,32,9,13,10,13,10]⟩:ByteArray),.string ⟨#[72,84,84,80,47,49,46,49,32,52,48,48,32,66,97,100,32,82,101,113,117,101,115,116,13,10,99,111,110,110,101,99,116,105,111,110,58,32,99,108,111,115,101,13,10,99,111,110,116,101,110,116,45,108,101,110,103,116,104,58,32,48,13,10,13,10]⟩] 9,.cells #[.string (⟨#[71,69,84,32,47,32,72,84,84,80,47,49,46,49,13,10,104,111,115,116,58,32,97,13,10,104,111,115,116,58,32,97,13,10,13,10]⟩:ByteArray),.string ⟨#[72,84,84,80,47,49,46,49,32,52,48,48,32,66,97,100,32,82,101,113,117,101,115,116,13,10,99,111,110,110,101,99,116,105,111,110,58,32,99,108,111,115,101,13,10,99,111,110,116,101,110,116,45,108,101,110,103,116,104,58,32,48,13,10,13,10]⟩] 9,.cells #[.string (⟨#[71,69,84,32,47,32,72,84,84,80,47,49,46,49,13,10,104,111,115,116,58,32,97,58,13,10,13,10]⟩:ByteArray),.string ⟨#[72,84,84,80,47,49,46,49,32,52,48,48,32,66,97,100,32,82,101,113,117,101,115,116,13,10,99,111,110,110,101,99,116,105,111,110,58,32,99,108,111,115,101,13,10,99,111,110,116,101,110,116,45,108,101,110,103,116,104,58,32,48,13,10,13,10]⟩] 9,.cells #[.string (⟨#[71,69,84,32,47,32,72,84,84,80,47,49,46,49,13,10,104,111,115,116,58,32,97,46,46,98,13,10,13,10]⟩:ByteArray),.string ⟨#[72,84,84,80,47,49,46,49,32,52,48,48,32,66,97,100,32,82,101,113,117,101,115,116,13,10,99,111,110,110,101,99,116,105,111,110,58,32,99,108,111,115,101,13,10,99,111,110,116,101,110,116,45,108,101,110,103,116,104,58,32,48,13,10,13,10]⟩] 9,.cells #[.string (⟨#[71,69,84,32,47,32,72,84,84,80,47,49,46,49,13,10,98,58,32,49,13,10,13,10]⟩:ByteArray),.string ⟨#[72,84,84,80,47,49,46,49,32,52,48,48,32,66,97,100,32,82,101,113,117,101,115,116,13,10,99,111,110,110,101,99,116,105,111,110,58,32,99,108,111,115,101,13,10,99,111,110,116,101,110,116,45,108,101,110,103,116,104,58,32,48,13,10,13,10]⟩] 9,.cells #[.string (⟨#[71,69,84,32,47,32,72,84,84,80,47,49,46,48,13,10,104,111,115,116,58,32,97,13,10,13,10]⟩:ByteArray),.string ⟨#[72,84,84,80,47,49,46,49,32,52,48,48,32,66,97,100,32,82,101,113,117,101,115,116,13,10,99,111,110,110,101,99,116,105,111,110,58,32,99,108,111,115,101,13,10,99,111,110,116,101,110,116,45,108,101,110,103,116,104,58,32,48,13,10,13,10]⟩] 9,.cells #[.string (⟨#[71,69,84,32,32,47,32,72,84,84,80,47,49,46,49,13,10,104,111,115,116,58,32,97,13,10,13,10]⟩:ByteArray),.string ⟨#[72,84,84,80,47,49,46,49,32,52,48,48,32,66,97,100,32,82,101,113,117,101,115,116,13,10,99,111,110,110,101,99,116,105,111,110,58,32,99,108,111,115,101,13,10,99,111,110,116,101,110,116,45,108,101,110,103,116,104,58,32,48,13,10,13,10]⟩] 9,.cells #[.string (⟨#[103,101,116,32,47,32,72,84,84,80,47,49,46,49,13,10,104,111,115,116,58,32,97,13,10,13,10]⟩:ByteArray),.string ⟨#[72,84,84,80,47,49,46,49,32,52,48,48,32,66,97,100,32,82,101,113,117,101,115,116,13,10,99,111,110,110,101,99,116,105,111,110,58,32,99,108,111,115,101,13,10,99,111,110,116,101,110,116,45,108,101,110,103,116,104,58,32,48,13,10,13,10]⟩] 9,.cells #[.string (⟨#[76,79,78,71,77,69,84,72,79,32,47,32,72,84,84,80,47,49,46,49,13,10,104,111,115,116,58,32,97,13,10,13,10]⟩:ByteArray),.string ⟨#[72,84,84,80,47,49,46,49,32,52,48,48,32,66,97,100,32,82,101,113,117,101,115,116,13,10,99,111,110,110,101,99,116,105,111,110,58,32,99,108,111,115,101,13,10,99,111,110,116,101,110,116,45,108,101,110,103,116,104,58,32,48,13,10,13,10]⟩] 9,.cells #[.string (⟨#[71,69,84,32,120,32,72,84,84,80,47,49,46,49,13,10,104,111,115,116,58,32,97,13,10,13,10]⟩:ByteArray),.string ⟨#[72,84,84,80,47,49,46,49,32,52,48,48,32,66,97,100,32,82,101,113,117,101,115,116,13,10,99,111,110,110,101,99,116,105,111,110,58,32,99,108,111,115,101,13,10,99,111,110,116,101,110,116,45,108,101,110,103,116,104,58,32,48,13,10,13,10]⟩] 9,.cells #[.string (⟨#[71,69,84,32,104,116,116,112,58,47,47,97,47,32,72,84,84,80,47,49,46,49,13,10,104,111,115,116,58,32,97,13,10,13,10]⟩:ByteArray),.string ⟨#[72,84,84,80,47,49,46,49,32,52,48,48,32,66,97,100,32,82,101,113,117,101,115,116,13,10,99,111,110,110,101,99,116,105,111,110,58,32,99,108,111,115,101,13,10,99,111,110,116,101,110,116,45,108,101,110,103,116,104,58,32,48,13,10,13,10]⟩] 9,.cells #[.string (⟨#[13,10,71,69,84,32,47,32,72,84,84,80,47,49,46,49,13,10,104,111,115,116,58,32,97,13,10,13,10]⟩:ByteArray),.string ⟨#[72,84,84,80,47,49,46,49,32,52,48,48,32,66,97,100,32,82,101,113,117,101,115,116,13,10,99,111,110,110,101,99,116,105,111,110,58,32,99,108,111,115,101,13,10,99,111,110,116,101,110,116,45,108,101,110,103,116,104,58,32,48,13,10,13,10]⟩] 9,.cells #[.string ((⟨#[71,69,84,32,47,32,72,84,84,80,47,49,46,49,13,10]⟩:ByteArray)++R.str (Rf.many 12)++⟨#[104,111,115,116,58,32,97,13,10,13,10]⟩),.string ⟨#[72,84,84,80,47,49,46,49,32,52,51,49,32,82,101,113,117,101,115,116,32,72,101,97,100,101,114,32,70,105,101,108,100,115,32,84,111,111,32,76,97,114,103,101,13,10,99,111,110,110,101,99,116,105,111,110,58,32,99,108,111,115,101,13,10,99,111,110,116,101,110,116,45,108,101,110,103,116,104,58,32,48,13,10,13,10]⟩] 9,.cells #[.string ((⟨#[71,69,84,32,47,32,72,84,84,80,47,49,46,49,13,10,104,111,115,116,58,32,97,13,10,98,58,32]⟩:ByteArray)++R.str (Rf.long 601)),.string ⟨#[72,84,84,80,47,49,46,49,32,52,51,49,32,82,101,113,117,101,115,116,32,72,101,97,100,101,114,32,70,105,101,108,100,115,32,84,111,111,32,76,97,114,103,101,13,10,99,111,110,110,101,99,116,105,111,110,58,32,99,108,111,115,101,13,10,99,111,110,116,101,110,116,45,108,101,110,103,116,104,58,32,48,13,10,13,10]⟩] 9,.cells #[.string (R.str (Rf.long 601)),.string ⟨#[72,84,84,80,47,49,46,49,32,52,51,49,32,82,101,113,117,101,115,116,32,72,101,97,100,101,114,32,70,105,101,108,100,115,32,84,111,111,32,76,97,114,103,101,13,10,99,111,110,110,101,99,116,105,111,110,58,32,99,108,111,115,101,13,10,99,111,110,116,101,110,116,45,108,101,110,103,116,104,58,32,48,13,10,13,10]⟩] 9,.cells #[.slice (some ⟨s,0,none⟩) 2 2,.slice (some ⟨s+1,0,none⟩) 2 2,.slice (some ⟨s+1+1,0,none⟩) 2 2,.slice (some ⟨s+1+1+1,0,none⟩) 2 2,.slice (some ⟨s+1+1+1+1,0,none⟩) 2 2,.slice (some ⟨s+1+1+1+1+1,0,none⟩) 2 2,.slice (some ⟨s+1+1+1+1+1+1,0,none⟩) 2 2,.slice (some ⟨s+1+1+1+1+1+1+1,0,none⟩) 2 2,.slice (some ⟨s+1+1+1+1+1+1+1+1,0,none⟩) 2 2,.slice (some ⟨s+1+1+1+1+1+1+1+1+1,0,none⟩) 2 2,.slice (some ⟨s+1+1+1+1+1+1+1+1+1+1,0,none⟩) 2 2,.slice (some ⟨s+1+1+1+1+1+1+1+1+1+1+1,0,none⟩) 2 2,.slice (some ⟨s+1+1+1+1+1+1+1+1+1+1+1+1,0,none⟩) 2 2,.slice (some ⟨s+1+1+1+1+1+1+1+1+1+1+1+1+1,0,none⟩) 2 2,.slice (some ⟨s+1+1+1+1+1+1+1+1+1+1+1+1+1+1,0,none⟩) 2 2,.slice (some ⟨s+1+1+1+1+1+1+1+1+1+1+1+1+1+1+1,0,none⟩) 2 2,.slice (some ⟨s+1+1+1+1+1+1+1+1+1+1+1+1+1+1+1+1,0,none⟩) 2 2,.slice (some ⟨s+1+1+1+1+1+1+1+1+1+1+1+1+1+1+1+1+1,0,none⟩) 2 2,.slice (some ⟨s+1+1+1+1+1+1+1+1+1+1+1+1+1+1+1+1+1+1,0,none⟩) 2 2,.slice (some ⟨s+1+1+1+1+1+1+1+1+1+1+1+1+1+1+1+1+1+1+1,0,none⟩) 2 2,.slice (some ⟨s+1+1+1+1+1+1+1+1+1+1+1+1+1+1+1+1+1+1+1+1,0,none⟩) 2 2,.slice (some ⟨s+1+1+1+1+1+1+1+1+1+1+1+1+1+1+1+1+1+1+1+1+1,0,none⟩) 2 2,.slice (some ⟨s+1+1+1+1+1+1+1+1+1+1+1+1+1+1+1+1+1+1+1+1+1+1,0,none⟩) 2 2,.slice (some ⟨s+1+1+1+1+1+1+1+1+1+1+1+1+1+1+1+1+1+1+1+1+1+1+1,0,none⟩) 2 2,.slice (some ⟨s+1+1+1+1+1+1+1+1+1+1+1+1+1+1+1+1+1+1+1+1+1+1+1+1,0,none⟩) 2 2,.slice (some ⟨s+1+1+1+1+1+1+1+1+1+1+1+1+1+1+1+1+1+1+1+1+1+1+1+1+1,0,none⟩) 2 2,.slice (some ⟨s+1+1+1+1+1+1+1+1+1+1+1+1+1+1+1+1+1+1+1+1+1+1+1+1+1+1,0,none⟩) 2 2] 22]
theorem q3q:∀(os:List Obj) (w:World),w.grownBy (os.foldl World.alloc w) none
 | [],_=>zM _ _
 | o :: os,w=>zA (zJ w o none) (q3q os (w.alloc o))
theorem q1q:∀(os:List Obj) (w:World) (i:Nat) (o:Obj),os[i]?=some o->(os.foldl World.alloc w).heap[w.heap.size+i]?=some o
 | [],_,_,_,h=>by simp at h
 | a :: os,w,0,o,h=>by
  have e:a=o:=by simpa using h
  subst e
  have hb:(w.alloc a).heap[w.heap.size]?=some a:=heap_alloc_new w a
  have:=(q3q os (w.alloc a)).block w.heap.size (by simp) (by simp)
  exact this.trans hb
 | a :: os,w,i+1,o,h=>by
  have h1:=q1q os (w.alloc a) i o (by simpa using h)
  have e:(w.alloc a).heap.size+i=w.heap.size+(i+1):=by simp;omega
  rw[e] at h1
  exact h1
theorem q79q (w:World)(m:Nat):Rf.Laid ((Rf.objs m w.heap.size).foldl World.alloc w) (w.heap.size+27) m w.heap.size:=by
 have ho:=q1q (Rf.objs m w.heap.size) w 27 _ rfl
 have hi:∀i (h:i<27),∃b,w.heap.size<=b/\((Rf.objs m w.heap.size).foldl World.alloc w).cell? ⟨w.heap.size+27,i,none⟩=some (.slice (some ⟨b,0,none⟩) 2 2)/\((Rf.objs m w.heap.size).foldl World.alloc w).cell? ⟨b,0,none⟩=some (.string (Rf.s0 m i))/\((Rf.objs m w.heap.size).foldl World.alloc w).cell? ⟨b,1,none⟩=some (.string (R.str (Rf.c1 i))):=fun i h=>by
  match i,h with
  | 0,_=>
   have hb:=q1q (Rf.objs m w.heap.size) w 0 _ rfl
   exact⟨w.heap.size+0,Nat.le_add_right _ _,(z8 ho).trans rfl,(z8 hb).trans rfl,(z8 hb).trans rfl⟩
  | 1,_=>
   have hb:=q1q (Rf.objs m w.heap.size) w 1 _ rfl
   exact⟨w.heap.size+1,Nat.le_add_right _ _,(z8 ho).trans rfl,(z8 hb).trans rfl,(z8 hb).trans rfl⟩
  | 2,_=>
   have hb:=q1q (Rf.objs m w.heap.size) w 2 _ rfl
   exact⟨w.heap.size+2,Nat.le_add_right _ _,(z8 ho).trans rfl,(z8 hb).trans rfl,(z8 hb).trans rfl⟩
  | 3,_=>
   have hb:=q1q (Rf.objs m w.heap.size) w 3 _ rfl
   exact⟨w.heap.size+3,Nat.le_add_right _ _,(z8 ho).trans rfl,(z8 hb).trans rfl,(z8 hb).trans rfl⟩
  | 4,_=>
   have hb:=q1q (Rf.objs m w.heap.size) w 4 _ rfl
   exact⟨w.heap.size+4,Nat.le_add_right _ _,(z8 ho).trans rfl,(z8 hb).trans rfl,(z8 hb).trans rfl⟩
  | 5,_=>
   have hb:=q1q (Rf.objs m w.heap.size) w 5 _ rfl
   exact⟨w.heap.size+5,Nat.le_add_right _ _,(z8 ho).trans rfl,(z8 hb).trans rfl,(z8 hb).trans rfl⟩
  | 6,_=>
   have hb:=q1q (Rf.objs m w.heap.size) w 6 _ rfl
   exact⟨w.heap.size+6,Nat.le_add_right _ _,(z8 ho).trans rfl,(z8 hb).trans rfl,(z8 hb).trans rfl⟩
  | 7,_=>
   have hb:=q1q (Rf.objs m w.heap.size) w 7 _ rfl
   exact⟨w.heap.size+7,Nat.le_add_right _ _,(z8 ho).trans rfl,(z8 hb).trans rfl,(z8 hb).trans rfl⟩
  | 8,_=>
   have hb:=q1q (Rf.objs m w.heap.size) w 8 _ rfl
   exact⟨w.heap.size+8,Nat.le_add_right _ _,(z8 ho).trans rfl,(z8 hb).trans rfl,(z8 hb).trans rfl⟩
  | 9,_=>
   have hb:=q1q (Rf.objs m w.heap.size) w 9 _ rfl
   exact⟨w.heap.size+9,Nat.le_add_right _ _,(z8 ho).trans rfl,(z8 hb).trans rfl,(z8 hb).trans rfl⟩
  | 10,_=>
   have hb:=q1q (Rf.objs m w.heap.size) w 10 _ rfl
   exact⟨w.heap.size+10,Nat.le_add_right _ _,(z8 ho).trans rfl,(z8 hb).trans rfl,(z8 hb).trans rfl⟩
  | 11,_=>
   have hb:=q1q (Rf.objs m w.heap.size) w 11 _ rfl
   exact⟨w.heap.size+11,Nat.le_add_right _ _,(z8 ho).trans rfl,(z8 hb).trans rfl,(z8 hb).trans rfl⟩
  | 12,_=>
   have hb:=q1q (Rf.objs m w.heap.size) w 12 _ rfl
   exact⟨w.heap.size+12,Nat.le_add_right _ _,(z8 ho).trans rfl,(z8 hb).trans rfl,(z8 hb).trans rfl⟩
  | 13,_=>
   have hb:=q1q (Rf.objs m w.heap.size) w 13 _ rfl
   exact⟨w.heap.size+13,Nat.le_add_right _ _,(z8 ho).trans rfl,(z8 hb).trans rfl,(z8 hb).trans rfl⟩
  | 14,_=>
   have hb:=q1q (Rf.objs m w.heap.size) w 14 _ rfl
   exact⟨w.heap.size+14,Nat.le_add_right _ _,(z8 ho).trans rfl,(z8 hb).trans rfl,(z8 hb).trans rfl⟩
  | 15,_=>
   have hb:=q1q (Rf.objs m w.heap.size) w 15 _ rfl
   exact⟨w.heap.size+15,Nat.le_add_right _ _,(z8 ho).trans rfl,(z8 hb).trans rfl,(z8 hb).trans rfl⟩
  | 16,_=>
   have hb:=q1q (Rf.objs m w.heap.size) w 16 _ rfl
   exact⟨w.heap.size+16,Nat.le_add_right _ _,(z8 ho).trans rfl,(z8 hb).trans rfl,(z8 hb).trans rfl⟩
  | 17,_=>
   have hb:=q1q (Rf.objs m w.heap.size) w 17 _ rfl
   exact⟨w.heap.size+17,Nat.le_add_right _ _,(z8 ho).trans rfl,(z8 hb).trans rfl,(z8 hb).trans rfl⟩
  | 18,_=>
   have hb:=q1q (Rf.objs m w.heap.size) w 18 _ rfl
   exact⟨w.heap.size+18,Nat.le_add_right _ _,(z8 ho).trans rfl,(z8 hb).trans rfl,(z8 hb).trans rfl⟩
  | 19,_=>
   have hb:=q1q (Rf.objs m w.heap.size) w 19 _ rfl
   exact⟨w.heap.size+19,Nat.le_add_right _ _,(z8 ho).trans rfl,(z8 hb).trans rfl,(z8 hb).trans rfl⟩
  | 20,_=>
   have hb:=q1q (Rf.objs m w.heap.size) w 20 _ rfl
   exact⟨w.heap.size+20,Nat.le_add_right _ _,(z8 ho).trans rfl,(z8 hb).trans rfl,(z8 hb).trans rfl⟩
  | 21,_=>
   have hb:=q1q (Rf.objs m w.heap.size) w 21 _ rfl
   exact⟨w.heap.size+21,Nat.le_add_right _ _,(z8 ho).trans rfl,(z8 hb).trans rfl,(z8 hb).trans rfl⟩
  | 22,_=>
   have hb:=q1q (Rf.objs m w.heap.size) w 22 _ rfl
   exact⟨w.heap.size+22,Nat.le_add_right _ _,(z8 ho).trans rfl,(z8 hb).trans rfl,(z8 hb).trans rfl⟩
  | 23,_=>
   have hb:=q1q (Rf.objs m w.heap.size) w 23 _ rfl
   exact⟨w.heap.size+23,Nat.le_add_right _ _,(z8 ho).trans rfl,(z8 hb).trans rfl,(z8 hb).trans rfl⟩
  | 24,_=>
   have hb:=q1q (Rf.objs m w.heap.size) w 24 _ rfl
   exact⟨w.heap.size+24,Nat.le_add_right _ _,(z8 ho).trans rfl,(z8 hb).trans rfl,(z8 hb).trans rfl⟩
  | 25,_=>
   have hb:=q1q (Rf.objs m w.heap.size) w 25 _ rfl
   exact⟨w.heap.size+25,Nat.le_add_right _ _,(z8 ho).trans rfl,(z8 hb).trans rfl,(z8 hb).trans rfl⟩
  | 26,_=>
   have hb:=q1q (Rf.objs m w.heap.size) w 26 _ rfl
   exact⟨w.heap.size+26,Nat.le_add_right _ _,(z8 ho).trans rfl,(z8 hb).trans rfl,(z8 hb).trans rfl⟩
  | i+27,h=>exact absurd h (by omega)
 intro i h
 obtain⟨b,h0,h1,h2,h3⟩:=hi i h
 rw[zs1 m i h] at h2
 exact⟨b,h0,h1,h2,h3⟩
theorem q48q {w:World}(G:G3 w)(aa n:Int)(hw:-9223372036854775808<=aa/\aa<=9223372036854775807)(hn:-9223372036854775808<=n/\n<=9223372036854775807) :
  Calls Tryz.prog 9 #[.int .i64 aa,.int .i64 n] w fun e w'=>e = .returned (.bool true)/\w.grownBy w' none:=by
 have ay:=hid (zkV G)
 have aD:Y (∀W,w.grownBy W none->Calls Tryz.prog 20 #[.string (R.str Rf.t)] W fun e w'=>∃yb tv cb,e = .returned (.pointer (some ⟨yb,0,none⟩))/\KY W w' yb tv [some cb] Yd.new.opened/\TabAt w' tv Rf.hs):=fun W hW=>
  zkX (G.grown hW) (by decide) q76q q80q q4q q52q (by have:=fb q4q;omega)
 have aA:Y (∀w1 W yb tv cb,KY w1 W yb tv [some cb] Yd.new.opened->TabAt W tv Rf.hs->Calls Tryz.prog 24 #[.pointer (some ⟨yb,0,none⟩)] W fun e w'=>e = .returned (.tuple #[.int .i64 2,.int .i64 0])/\Y (KY w1 w' yb tv [some cb,some W.heap.size] Rf.y0/\TabAt w' tv Rf.hs)):=fun w1 W yb tv cb h hT=>by
  refine(znB h.inv h.own (by decide) h.gr.size).mono ?_
  rintro e w' ⟨q1,q2,q3⟩
  exact⟨q1,h.move q3 q2 h.own YOk.new.opened.opened,hT.moved q3 h.inv h.own⟩
 have ah:Y (∀(i:Nat) W,i<1000000->Calls Tryz.prog 25 #[.int .i64 i] W fun e w'=>e = .returned (.string (R.str (R.dec i)))/\w'=W):=fun i W hi=>q58q i W hi
 have aB:Y (∀W,Calls Tryz.prog 21 #[.int .i64 n,.int .i64 99000] W fun e w'=>e = .returned (.int .i64 (Kp.pick n 99000:Nat))/\w'=W):=fun W=>q59q n 99000 W hn (by decide)
 have aC:Y (∀W,Calls Tryz.prog 21 #[.int .i64 aa,.int .i64 27] W fun e w'=>e = .returned (.int .i64 (Kp.pick aa 27:Nat))/\w'=W):=fun W=>q59q aa 27 W hw (by decide)
 have a5:Kp.pick n 99000<99000:=Kp.pick_lt n (by decide)
 have al:Kp.pick aa 27<27:=Kp.pick_lt aa (by decide)
 generalize Kp.pick n 99000=pn at*
 generalize Kp.pick aa 27=i at*
 clear hw hn
 go_enter Tryz.func9,Tryz.ntmps9
 go_wp2_with fail
 refine ay.o.mono ?_
 rintro e w1 ⟨rfl,g1⟩
 have G1:=hid g1
 have HC:=hid (aD.o w1 g1)
 clear ay aD g1
 go_wp2_with fail
 refine HC.o.mono ?_
 rintro e w2 ⟨yb,tv,cb,rfl,k2,t2⟩
 have aq:=hid (aA.o w1 w2 yb tv cb k2 t2)
 clear HC aA k2 t2
 go_wp2_with fail
 refine aq.o.mono ?_
 rintro e w3 ⟨rfl,KT⟩
 clear aq
 generalize w2.heap.size=cb2 at*
 go_wp2_with fail
 go_loopw [9,10] (fun sv iv wr=>∃j:Nat,j<=601/\iv = .int .i64 j/\sv = .string (R.str (Rf.long j))/\wr=w3) (fun _ iv _=>601 - (intOf iv).toNat)
 case atStart=>exact⟨0,by omega,rfl,rfl,rfl⟩
 case round=>
  obtain⟨j,hj,rfl,rfl,rfl⟩:=hrel
  by_cases ak:j<601
  ·have aS:(j:Int)<601:=by omega
   have z1:(R.str (Rf.long j)).size<=601:=by rw[R.str_size];unfold Rf.long;rw[List.length_replicate];omega
   have HS:Y (R.str (Rf.long j)++⟨#[120]⟩=R.str (Rf.long (j+1))):=by
    show _=_
    rw[<-q66q,<-q2q];rfl
   go_wp2_with fail
   go_roundw
   case rel=>exact⟨j+1,by omega,by go_num,by rw[<-HS.o],trivial⟩
   case measure=>simp[intOf];omega
  ·have hE:j=601:=by omega
   subst hE
   clear hj ak
   go_wp2_with fail
   rw[show((601:Nat):Int)=601 from rfl]
   generalize wr=w4 at*
   go_loopw [11,12] (fun sv iv wr=>∃j:Nat,j<=12/\iv = .int .i64 j/\sv = .string (R.str (Rf.many j))/\wr=w4) (fun _ iv _=>12 - (intOf iv).toNat)
   case atStart=>exact⟨0,by omega,rfl,rfl,rfl⟩
   case round=>
    obtain⟨j,hj,rfl,rfl,rfl⟩:=hrel
    have aU:(Rf.many j).length<=10*j:=q6q j hj
    by_cases ak:j<12
    ·have aS:(j:Int)<12:=by omega
     have z1:(R.str (Rf.many j)).size<=120:=by rw[R.str_size];omega
     have aR:(R.dec j).length<=2:=R.dec_len j 1 (by omega)
     have z2:(R.str (R.dec j)).size<=2:=by rw[R.str_size];exact aR
     have z3:(R.str (Rf.many j)++⟨#[97]⟩).size<=121:=by rw[ByteArray.size_append];show _+1<=121;omega
     have z4:(R.str (Rf.many j)++⟨#[97]⟩++R.str (R.dec j)).size<=123:=by rw[ByteArray.size_append];omega
     have HS:Y (R.str (Rf.many j)++⟨#[97]⟩++R.str (R.dec j)++⟨#[58,32,49,13,10]⟩=R.str (Rf.many (j+1))):=by
      show _=_
      have e1:(⟨#[97]⟩:ByteArray)=R.str [97]:=rfl
      have e2:(⟨#[58,32,49,13,10]⟩:ByteArray)=R.str [58,32,49,13,10]:=rfl
      rw[e1,e2,q2q,q2q,q2q,Rf.many]
      unfold Rf.row
      simp only[xY]
     have HC:=hid (ah.o j wr (by omega))
     go_wp2_with fail
     refine HC.o.mono ?_
     rintro e w5 ⟨rfl,aL⟩
     obtain rfl:=aL.symm
     clear HC aL
     go_wp2_with fail
     go_roundw
     case rel=>exact⟨j+1,by omega,by go_num,by rw[<-HS.o],by first | rfl | trivial⟩
     case measure=>simp[intOf];omega
    ·have hE:j=12:=by omega
     subst hE
     clear hj ak aU
     generalize wr=w5 at*
     go_wp2_with fail
     refine(aB.o _).mono ?_
     rintro e w6 ⟨rfl,ag⟩
     obtain rfl:=ag.symm
     clear aB ag
     have HC:Y (Calls Tryz.prog 25 #[.int .i64 (301+(pn:Int))] w5 fun e w'=>e = .returned (.string (R.str (R.dec (301+pn))))/\w'=w5):=by
      have h1:=ah.o (301+pn) w5 (by omega)
      have e1:((301+pn:Nat):Int)=301+(pn:Int):=by omega
      rw[e1] at h1;exact h1
     clear ah
     go_wp2_with fail
     refine HC.o.mono ?_
     rintro e w6 ⟨rfl,ag⟩
     obtain rfl:=ag.symm
     clear HC ag
     have aT:301<=301+pn:=by omega
     have aK:301+pn<=99999:=by omega
     have z5:(R.str (R.dec (301+pn))).size<=5:=by rw[R.str_size];exact R.dec_len (301+pn) 4 (by omega)
     generalize 301+pn=m at*
     have z6:(R.str (Rf.many 12)).size<=120:=by rw[R.str_size];exact q6q 12 (by omega)
     have z7:(R.str (Rf.long 601)).size<=601:=by rw[R.str_size];unfold Rf.long;rw[List.length_replicate];omega
     go_upto_region 17 with fail
     go_cut [14] (fun cv wz=>∃co,cv = .slice (some ⟨co,0,none⟩) 27 27/\Y (Rf.Laid wz co m w5.heap.size)/\Y (w5.grownBy wz none))
     case first=>
      go_wp2_with fail
      go_meet
      case rel=>exact⟨_,rfl,q79q w5 m,q3q (Rf.objs m w5.heap.size) w5⟩
     case rest=>
      obtain⟨co,rfl,az,ae⟩:=hcut
      generalize wc=w7 at*
      obtain⟨b,aP,l1,l2,l3⟩:=az.o i al
      have k7:=(KT.o.1.grown ae.o)
      have SX:Y (Stx w7 yb [some cb,some cb2] b (Rf.c1 i)):=⟨l3,fun hF=>by
       have h1:=(KT.o.1.inv.keep ae.o.size (fun k hF=>ae.o.block k (KT.o.1.inv.lt KT.o.1.own hF) (by simp))).2 b hF
       have:=KT.o.1.inv.lt KT.o.1.own h1
       omega,ziV l3⟩
      have ab:=zrY m aK i al
      have a4:(i:Int)<27:=by omega
      have K7:=hid k7.1
      have T7:=hid (KT.o.2.grown ae.o)
      have HS:Y (Calls Tryz.prog 23 #[.pointer (some ⟨yb,0,none⟩),.string (⟨#[71,69,84,32,47,32,72,84,84,80,47,49,46,49,13,10,104,111,115,116,58,32,97,13,10,13,10]⟩++R.str (Rf.c0 m i)++⟨#[71,69,84,32,47,32,72,84,84,80,47,49,46,49,13,10,104,111,115,116,58,32,97,13,10,13,10]⟩)] w7 fun e w'=>∃a k ps',e = .returned (.slice a 2 k)/\Y (KY w1 w' yb tv ps' Rf.y2)/\Y (TabAt w' tv Rf.hs)/\YMv w7 w' yb [some cb,some cb2] ps'/\Y (Held w' yb ps' (.slice a 2 k) [⟨1,[117,112],Rf.good⟩,⟨1,[],Rf.c1 i⟩])/\ps'.length=2):=by
       have e1:(⟨#[71,69,84,32,47,32,72,84,84,80,47,49,46,49,13,10,104,111,115,116,58,32,97,13,10,13,10]⟩:ByteArray)=R.str Rf.good:=rfl
       rw[e1,q2q,q2q]
       have a3:Rf.good.length=27:=rfl
       refine(zkW (G.grown G1.o) K7.o T7.o q52q q4q.ok (Rf.good++Rf.c0 m i++Rf.good) (by decide) (by simp only[zW];omega) (by decide) (by decide) (by show 2<=1000000;decide)).mono ?_
       rintro e w' ⟨a,k,ps',q1,q2,q3,q4,q5,q6⟩
       obtain⟨c1,c2⟩:=q75q m i aT aK al
       have e2:Rf.y0.fedP Rf.hs 0 (Rf.good++Rf.c0 m i++Rf.good)=Rf.y1 m i:=rfl
       rw[e2,c1] at q1 q5
       rw[e2,q67q c2] at q2
       exact⟨a,k,ps',q1,q2,q3,q4,q5,q6⟩
      have zc:(R.str (Rf.c0 m i)).size<=1000:=by rw[R.str_size];exact ab
      have zd:((⟨#[71,69,84,32,47,32,72,84,84,80,47,49,46,49,13,10,104,111,115,116,58,32,97,13,10,13,10]⟩:ByteArray)++R.str (Rf.c0 m i)).size<=1027:=by rw[ByteArray.size_append];show 27+_<=1027;omega
      clear k7 ae az KT l3 aP z5 z6 z7
      go_wp2_with fail
      refine(aC.o _).mono ?_
      rintro e W7 ⟨rfl,aJ⟩
      obtain rfl:=aJ.symm
      clear aC aJ
      go_wp2_with fail
      refine HS.o.mono ?_
      rintro e w8 ⟨a8,k8,aM,rfl,K8,T8,m8,H8,p8⟩
      have aG:=hid (SX.o.moved m8)
      clear HS SX K7 T7 m8 l1 l2 zc zd ab
      have aQ:∀w,(convert 9 32 (.string ⟨#[71,69,84,32,47,32,72,84,84,80,47,49,46,49,13,10,104,111,115,116,58,32,97,13,10,13,10]⟩)).run Tryz.prog w = .ok (.slice (some ⟨w.heap.size,0,none⟩) 27 (grownCap w 27 0 5)) (Lib.bytesWorld w 5 ⟨#[71,69,84,32,47,32,72,84,84,80,47,49,46,49,13,10,104,111,115,116,58,32,97,13,10,13,10]⟩):=fun w=>Lib.run_convert_string_bytes (P:=Tryz.prog) (u:=.string) w 9 32 5 ⟨#[71,69,84,32,47,32,72,84,84,80,47,49,46,49,13,10,104,111,115,116,58,32,97,13,10,13,10]⟩ (by kernel_rfl) (by kernel_rfl) (by kernel_rfl)
      have aj:aM.length<=1000000:=by omega
      have kb:=K8.o.grown (xk w8 5 ⟨#[71,69,84,32,47,32,72,84,84,80,47,49,46,49,13,10,104,111,115,116,58,32,97,13,10,13,10]⟩)
      have aw:Y (Calls Tryz.prog 26 #[.pointer (some ⟨yb,0,none⟩),.int .i64 1,(.slice (some ⟨w8.heap.size,0,none⟩) 27 (grownCap w8 27 0 5))] (Lib.bytesWorld w8 5 ⟨#[71,69,84,32,47,32,72,84,84,80,47,49,46,49,13,10,104,111,115,116,58,32,97,13,10,13,10]⟩) fun e w'=>e = .returned (.int .i64 7)/\w'=(Lib.bytesWorld w8 5 ⟨#[71,69,84,32,47,32,72,84,84,80,47,49,46,49,13,10,104,111,115,116,58,32,97,13,10,13,10]⟩)):=q57q kb.1.inv 1 _ (by decide) aj
      have au:Y (Calls Tryz.prog 27 #[.pointer (some ⟨yb,0,none⟩),.int .i64 1] (Lib.bytesWorld w8 5 ⟨#[71,69,84,32,47,32,72,84,84,80,47,49,46,49,13,10,104,111,115,116,58,32,97,13,10,13,10]⟩) fun e w'=>e = .returned (.int .i64 7)/\w'=(Lib.bytesWorld w8 5 ⟨#[71,69,84,32,47,32,72,84,84,80,47,49,46,49,13,10,104,111,115,116,58,32,97,13,10,13,10]⟩)):=q49q kb.1.inv 1 (by decide) aj
      have K9:=hid kb.1
      have T9:=hid (T8.o.grown (xk w8 5 ⟨#[71,69,84,32,47,32,72,84,84,80,47,49,46,49,13,10,104,111,115,116,58,32,97,13,10,13,10]⟩))
      have H9:=hid (H8.o.moved kb.2)
      have aH:=hid (aG.o.moved kb.2)
      clear kb K8 T8 H8 aG
      go_wp2_with fail
      refine aw.o.mono ?_
      rintro e W9 ⟨rfl,af⟩
      obtain rfl:=af.symm
      clear aw af
      go_wp2_with fail
      refine au.o.mono ?_
      rintro e W9 ⟨rfl,af⟩
      obtain rfl:=af.symm
      clear au af
      generalize(Lib.bytesWorld w8 5 ⟨#[71,69,84,32,47,32,72,84,84,80,47,49,46,49,13,10,104,111,115,116,58,32,97,13,10,13,10]⟩)=w9 at*
      have ax:Y (Calls Tryz.prog 26 #[.pointer (some ⟨yb,0,none⟩),.int .i64 2,(.slice (some ⟨w9.heap.size,0,none⟩) 27 (grownCap w9 27 0 5))] (Lib.bytesWorld w9 5 ⟨#[71,69,84,32,47,32,72,84,84,80,47,49,46,49,13,10,104,111,115,116,58,32,97,13,10,13,10]⟩) fun e w'=>e = .returned (.int .i64 0)/\∃ps',FdP (Lib.bytesWorld w9 5 ⟨#[71,69,84,32,47,32,72,84,84,80,47,49,46,49,13,10,104,111,115,116,58,32,97,13,10,13,10]⟩) w' yb w1.heap.size 1 tv Rf.hs aM ps' Rf.y2 (Rf.y2.fedP Rf.hs 1 Rf.good) 27):=by
       obtain⟨i1,m1,r1,a1⟩:=ze5 K9.o.inv K9.o.own Rf.good
       have g1:=xk w9 5 (R.str Rf.good)
       have g:=zA K9.o.gr g1
       have Gg:=(G.grown G1.o).grown g
       exact zkD (m:=1) i1 (T9.o.grown g1) q52q q4q.ok K9.o.ok (by decide) r1 a1 (by decide) (by decide) (by decide) aj g.size Gg.glob Gg.ge Gg.gt (G.grown G1.o).low
      have kc:=K9.o.grown (xk w9 5 (R.str Rf.good))
      have KC:=hid kc.1
      have ar:=hid (H9.o.moved kc.2)
      have aF:=hid (aH.o.moved kc.2)
      clear kc H9 aH K9
      go_wp2_with fail
      refine ax.o.mono ?_
      rintro e aN ⟨rfl,an,hf⟩
      have av:Y (Calls Tryz.prog 28 #[.pointer (some ⟨yb,0,none⟩)] aN fun e w'=>∃a k,e = .returned (.slice a 1 k)/\Y (w1.grownBy w' none)/\YMv aN w' yb an an/\Held w' yb an (.slice a 1 k) [⟨2,[117,112],Rf.good⟩]):=by
       refine(zhU hf.inv T9.o.own).mono ?_
       rintro e w' ⟨v,rfl,q1,q2,q3,q4⟩
       rw[q68q] at q3
       obtain⟨a,k,rfl⟩:=zP q3
       have k1:=KC.o.move hf.mv hf.inv T9.o.own hf.ok
       exact⟨a,k,rfl,(k1.move q2 q1 T9.o.own hf.ok.told).gr,q2,⟨qK q3 (zl _),q4⟩⟩
      have ap:=hid (ar.o.moved hf.mv)
      have aE:=hid (aF.o.moved hf.mv)
      clear ax ar aF KC T9 aQ
      clear hf
      go_wp2_with fail
      refine av.o.mono ?_
      rintro e ad ⟨aV,a7,rfl,ao,am,aI⟩
      obtain⟨gm,rfl,ai⟩:=q71q aI
      obtain⟨gl,rfl,ab⟩:=q72q (ap.o.moved am)
      have cx:=(aE.o.moved am).cell
      have a0:ad.cell? ⟨gm,0,none⟩=some (.int .i64 2):=(ai 0 (by decide)).trans rfl
      have a2:ad.cell? ⟨gm,1,none⟩=some (.string ⟨#[117,112]⟩):=(ai 1 (by decide)).trans rfl
      have aW:ad.cell? ⟨gl,1,none⟩=some (.string ⟨#[117,112]⟩):=(ab 1 (by decide)).trans rfl
      have aX:ad.cell? ⟨gl,3,none⟩=some (.int .i64 1):=(ab 3 (by decide)).trans rfl
      have aY:ad.cell? ⟨gl,4,none⟩=some (.string ⟨#[]⟩):=(ab 4 (by decide)).trans rfl
      have aZ:ad.cell? ⟨gl,5,none⟩=some (.string (R.str (Rf.c1 i))):=(ab 5 (by decide)).trans rfl
      have aO:=hid (zA G1.o ao.o)
      clear av ap aE ai ab aI am ao
      generalize R.str (Rf.c1 i)=sx at*
      have a6:(sx.toList == sx.toList)=true:=by simp
      go_upto_region 25 with fail
      go_wp2_with fail
      go_quiet (fail)
      go_wp2_with fail
      go_ret
      exact⟨rfl,zA aO.o (vu _ _)⟩
end Go.Proofs.YtfocdefchbnkpaaGreatDoor
