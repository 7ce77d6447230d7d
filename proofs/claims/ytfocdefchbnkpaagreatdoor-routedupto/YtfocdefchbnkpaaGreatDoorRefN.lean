/- A rule in its plain form, as the document's own function writes it. -/
import Derived.Test.YtfocdefchbnkpaaGreatDoorAli
import Derived.Test.YtfocdefchbnkpaaGreatDoorRefJ
set_option maxRecDepth 100000
set_option maxHeartbeats 20000000
namespace Go.Proofs.YtfocdefchbnkpaaGreatDoor
open Go.RowKit
namespace R
def q (l:List UInt8):List UInt8:=34 :: l++[34]
def decI (n:Int):List UInt8:=dec n.toNat
def lnHead (r:Rl):List UInt8:=[32,32,114,117,108,101,32]++decI r.number++[32,123,10,32,32,32,32,112,97,116,104,32]++q r.path++[59,10]
def lnMt (m:Mt):List UInt8:=[32,32,32,32,104,101,97,100,101,114,32]++q m.name++(if m.ask then [32,61,32]++q m.val else [])++[59,10]
def lnTg (t:List UInt8×Int):List UInt8:=q t.1++[32]++decI t.2
def lnTgs:List (List UInt8×Int)->List UInt8
 | []=>[]
 | t :: l=>lnTg t++(l.map fun u=>[44,32]++lnTg u).flatten
def lnTo (r:Rl):List UInt8:=if r.change then [32,32,32,32,114,101,112,108,97,99,101,32]++q r.to++[59,10] else []
def lnSet (t:List UInt8×List UInt8):List UInt8:=[32,32,32,32,115,101,116,32]++q t.1++[32,61,32]++q t.2++[59,10]
def lnDrop (l:List UInt8):List UInt8:=[32,32,32,32,100,114,111,112,32]++q l++[59,10]
def lines (r:Rl):List UInt8:=
 lnHead r++(r.ms.map lnMt).flatten++[32,32,32,32,116,111,32]++lnTgs r.tg++[59,10]++lnTo r++(r.sets.map lnSet).flatten++(r.drops.map lnDrop).flatten++[32,32,125,10]
structure Small (r:Rl):Prop where
 num:0<=r.number/\r.number<=99999
 path:r.path.length<=3000
 ms:r.ms.length<=4000/\∀m∈r.ms,m.name.length<=3000/\m.val.length<=3000
 tg:r.tg.length<=4000/\∀t∈r.tg,t.1.length<=3000/\0<=t.2/\t.2<=99999
 to:r.to.length<=3000
 sets:r.sets.length<=4000/\∀t∈r.sets,t.1.length<=3000/\t.2.length<=3000
 drops:r.drops.length<=4000/\∀t∈r.drops,t.length<=3000
theorem q_len (l:List UInt8):(q l).length=l.length+2:=by simp[q]
theorem decI_len (n:Int)(h:0<=n/\n<=99999):(decI n).length<=5:=dec_len n.toNat 4 (by omega)
end R
end Go.Proofs.YtfocdefchbnkpaaGreatDoor
namespace Go.Proofs.YtfocdefchbnkpaaGreatDoor
open Go.RowKit
theorem zc3 (w:World)(n:Nat):w.grownBy (w.drewN n) none:=by
 induction n with
 | zero=>exact zM _ _
 | succ n ih=>exact zA ih (zQ _)
theorem zmE {α:Type}(f:α->List Value)(n:Nat)(hf:∀a,(f a).length=n)(l:List α)(k j:Nat)(hk:k<l.length)(hj:j<n):(l.map f).flatten[k*n+j]?=(f l[k])[j]?:=by
 induction l generalizing k with
 | nil=>simp at hk
 | cons a l ih=>
  rw[xi,xP]
  match k with
  | 0=>rw[List.getElem?_append_left (by rw[hf];omega)];simp
  | k+1=>
   rw[List.getElem?_append_right (by rw[hf,Nat.succ_mul];omega),hf,show(k+1)*n+j - n=k*n+j by rw[Nat.succ_mul];omega,ih k (by simpa using hk)];rfl
theorem qO {w w':World}{α:Type}(f:α->List Value)(n:Nat)(hf:∀a,(f a).length=n){B:Nat}{e:TypeId}{g c:Nat}{l:List α}(h:w.ownsRow B e n (.slice (some ⟨g,0,none⟩) l.length c) l.length (l.map f).flatten)(hg:w.grownBy w' none)(k j:Nat)(hk:k<l.length)(hj:j<n){u:Value}(hu:(f l[k])[j]?=some u):w'.cell? ⟨g,k*n+j,none⟩=some u:=by
 refine hg.cell (a:=⟨g,k*n+j,none⟩) ?_ (by simp)
 have aa:k*n+j<l.length*n:=by
  have h1:(k+1)*n<=l.length*n:=Nat.mul_le_mul_right n (by omega)
  rw[Nat.succ_mul] at h1;omega
 rw[xd h (k*n+j) aa,zmE f n hf l k j hk hj];exact hu
theorem strFlat (l:List (List UInt8)):(l.map fun s=>[Value.string (R.str s)]).flatten=zh l:=by
 unfold zh
 induction l with
 | nil=>rfl
 | cons a l ih=>rw[xi,xP,ih];rfl
theorem strRow1 {w:World}{B:Nat}{e:TypeId}{v:Value}{l:List (List UInt8)}(h:w.ownsRow B e 1 v l.length (zh l)):w.ownsRow B e 1 v l.length (l.map fun s=>[Value.string (R.str s)]).flatten:=by
 rw[strFlat];exact h
theorem za9 {α:Type}(f:α->List UInt8)(l:List α)(k:Nat)(hk:k<l.length):((l.take (k+1)).map f).flatten=((l.take k).map f).flatten++f l[k]:=by
 rw[j6 hk,xy,jt];simp
end Go.Proofs.YtfocdefchbnkpaaGreatDoor
namespace Go.Proofs.YtfocdefchbnkpaaGreatDoor
open Go.RowKit
namespace R
theorem flat_len {α:Type}(f:α->List UInt8)(c:Nat)(l:List α)(h:∀a∈l,(f a).length<=c):(l.map f).flatten.length<=l.length*c:=by
 induction l with
 | nil=>simp
 | cons a l ih=>
  rw[xi,xP,zW,zm,Nat.succ_mul]
  have h1:=h a (by simp)
  have h2:=ih (fun b hb=>h b (by simp[hb]))
  omega
theorem lines_len (r:Rl)(hs:Small r):(lines r).length<=110000000:=by
 have h1:(r.ms.map lnMt).flatten.length<=r.ms.length*6100:=flat_len _ _ _ (fun m hm=>by
  have:=hs.ms.2 m hm
  unfold lnMt;split <;> simp only[zW,q_len,zm,qi] <;> omega)
 have ht:∀t∈r.tg,(lnTg t).length<=3100:=fun t ht=>by
  have h:=hs.tg.2 t ht
  have h5:=decI_len t.2 h.2
  unfold lnTg;simp only[zW,q_len,zm,qi];omega
 have h2:(lnTgs r.tg).length<=r.tg.length*3200:=by
  cases hg:r.tg with
  | nil=>simp[lnTgs]
  | cons t l=>
   rw[hg] at ht
   have h3:=ht t (by simp)
   have h4:(l.map fun u=>[44,32]++lnTg u).flatten.length<=l.length*3200:=flat_len _ _ _ (fun u hu=>by
    have:=ht u (by simp[hu]);simp only[zW,zm,qi];omega)
   unfold lnTgs
   rw[zW,zm,Nat.succ_mul];omega
 have h3:(r.sets.map lnSet).flatten.length<=r.sets.length*6100:=flat_len _ _ _ (fun m hm=>by
  have:=hs.sets.2 m hm
  unfold lnSet;simp only[zW,q_len,zm,qi];omega)
 have h4:(r.drops.map lnDrop).flatten.length<=r.drops.length*6100:=flat_len _ _ _ (fun m hm=>by
  have:=hs.drops.2 m hm
  unfold lnDrop;simp only[zW,q_len,zm,qi];omega)
 have h5:=decI_len r.number hs.num
 have h6:=hs.path
 have h7:=hs.to
 have h8:(lnTo r).length<=4000:=by
  unfold lnTo;split
  ·simp only[zW,q_len,zm,qi];omega
  ·simp
 have m1:=hs.ms.1
 have m2:=hs.tg.1
 have m3:=hs.sets.1
 have m4:=hs.drops.1
 unfold lines lnHead
 simp only[zW,q_len,zm,qi]
 omega
def hostLines (h:Hst):List UInt8:=[104,111,115,116,32]++q h.name++[32,123,10]++(h.rules.map lines).flatten++[125,10]
def plain (hs:List Hst):List UInt8:=(hs.map hostLines).flatten
structure SmallH (h:Hst):Prop where
 name:h.name.length<=3000
 rules:h.rules.length<=4000/\∀r∈h.rules,Small r
end R
end Go.Proofs.YtfocdefchbnkpaaGreatDoor
