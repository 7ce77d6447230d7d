/- Packing, as the program does it: bytes put behind one another. -/
import Derived.Test.YtfocdefchbnkpaaGreatDoorAli
import Derived.Test.YtfocdefchbnkpaaGreatDoorKpC
import Derived.Test.YtfocdefchbnkpaaGreatDoorProZ6
import Derived.Laws.AppendOwnNone
import Derived.Deep.RegionHeld3
set_option maxRecDepth 100000
set_option maxHeartbeats 20000000
namespace Go.Proofs.YtfocdefchbnkpaaGreatDoor
open Go.RowKit
theorem kK (b o i:Nat):(⟨b,o,none⟩:Addr).add i=⟨b,o+i,none⟩:=by unfold Addr.add;split <;> simp_all
def Rd (w:World)(v:Value)(l:List UInt8):Prop:=
 (v = .slice none 0 0/\l=[])\/∃g c,v = .slice (some ⟨g,0,none⟩) l.length c/\g<w.heap.size/\∀j u,(Lib.byteCells l)[j]?=some u->w.cell? ((⟨g,0,none⟩:Addr).add j)=some u
theorem Rd.keep {w w':World}{v:Value}{l:List UInt8}(h:Rd w v l)(hg:w.grownBy w' none):Rd w' v l:=by
 rcases h with h | ⟨g,c,h1,h2,h3⟩
 ·exact Or.inl h
 ·exact Or.inr ⟨g,c,h1,vQ h2 hg.size,fun j u hu=>hg.cell (h3 j u hu) (by simp)⟩
theorem Rd.of_row {w:World}{B:Nat}{v:Value}{l:List UInt8}(h:w.ownsRow B 5 1 v l.length (Lib.byteCells l)):Rd w v l:=by
 rcases h.2 with ⟨h1,h2⟩ | ⟨g,cap,cur,hv,hB,hb,r⟩
 ·exact Or.inl ⟨h1,List.length_eq_zero_iff.1 h2⟩
 ·refine Or.inr ⟨g,cap,hv,zI hb,fun j u hu=>?_⟩
  subst hv
  have hj:j<l.length:=by have:=(List.getElem?_eq_some_iff.1 hu).1;simpa[Lib.byteCells] using this
  rw[kK,Nat.zero_add,qR h j (by omega)]
  exact hu
theorem vf (l:List UInt8):∀u∈Lib.byteCells l,u.oneCell'=true:=by
 intro u hu
 unfold Lib.byteCells at hu
 obtain⟨b,_,rfl⟩:=List.mem_map.1 hu
 rfl
theorem xh (l:List UInt8):(Lib.byteCells l).length=l.length:=by unfold Lib.byteCells;simp
def xP (ls:List (List UInt8)):List UInt8:=ls.flatten
def yQ (ls:List (List UInt8))(i:Nat):List UInt8:=(ls.take i).flatten
theorem zhS (ls:List (List UInt8)):yQ ls ls.length=xP ls:=by unfold yQ xP;rw[List.take_length]
theorem zfN (ls:List (List UInt8))(i:Nat)(h:i<ls.length):yQ ls (i+1)=yQ ls i++ls[i]:=by
 unfold yQ
 rw[uo h,yj];simp
theorem zkQ (ls:List (List UInt8))(i:Nat):(yQ ls i).length<=(xP ls).length:=by
 unfold yQ xP
 conv=>rhs;rw[<-List.take_append_drop i ls,yj,zh]
 omega
theorem zkJ {w:World}(g c:Nat)(vs:List Value)(ls:List (List UInt8))(hp:w.heap[g]?=some (.cells vs.toArray 32 (0,0)))(hr:All2 (Rd w) vs ls)(hl:(xP ls).length<=100000000000000)(hn:vs.length<=1000) :
  Calls Tryz.prog 70 #[.slice (some ⟨g,0,none⟩) vs.length c] w fun e w'=>∃a k,e = .returned (.slice a (xP ls).length k)/\w'.ownsRow w.heap.size 5 1 (.slice a (xP ls).length k) (xP ls).length (Lib.byteCells (xP ls))/\w.grownBy w' none:=by
 obtain⟨i0,hi,am,an,ao⟩:=info_parts js
 have HP:Y (w.heap[g]?=some (.cells vs.toArray 32 (0,0))):=hp
 have HR:Y (All2 (Rd w) vs ls):=hr
 have ab:Y (vs.length=ls.length):=hr.len
 have ap:=zI hp
 clear hp hr
 go_enter Tryz.func70,Tryz.ntmps70
 go_wp2
 go_loopw [3,8] (fun sv iv wr=>∃i:Nat,i<=vs.length/\iv = .int .i64 i/\(∃a k,sv = .slice a (yQ ls i).length k/\Y (wr.ownsRow w.heap.size 5 1 (.slice a (yQ ls i).length k) (yQ ls i).length (Lib.byteCells (yQ ls i))))/\Y (w.grownBy wr none)) (fun _ iv _=>vs.length - (intOf iv).toNat)
 case atStart=>exact⟨0,zo _,rfl,⟨none,0,rfl,xd _ _ _ _⟩,ze _ _⟩
 case round=>
  obtain⟨i,au,rfl,⟨a,k,rfl,HO⟩,HG⟩:=hrel
  by_cases ag:i<vs.length
  ·have ar:(i:Int)<vs.length:=by omega
   have d0:wr.cell? ⟨g,i,none⟩=some vs[i]:=by
    refine HG.o.cell (a:=⟨g,i,none⟩) ?_ (by simp)
    rw[zB HP.o]
    simp[ag]
   have ak:=(HR.o.get i ag (by have:=ab.o;omega)).keep HG.o
   have aq:i<ls.length:=by have:=ab.o;omega
   have aa:Y (yQ ls (i+1)=yQ ls i++ls[i]):=by
    exact zfN ls i (by have:=ab.o;omega)
   have aj:(yQ ls (i+1)).length<=100000000000000:=qf (zkQ ls (i+1)) hl
   rw[aa.o,zh] at aj
   have al:=HG.o.size
   clear HR HP
   generalize vs[i]=v at*
   generalize ls[i]=x at*
   rcases ak with ⟨rfl,rfl⟩ | ⟨gx,cx,rfl,hgx,hcx⟩
   ·have ae:Y (yQ ls (i+1)=yQ ls i):=by show _=_;rw[aa.o,zb3]
    go_wp2_with (at_builtin;refine wpList_append_own_none rfl _ _ 32 rfl w.heap.size 5 i0 1 Tryz.underlying32 hi _ _ _ rfl HO.o rfl ?_)
    go_wp2
    go_roundw
    case rel=>exact⟨i+1,by omega,by go_num,⟨a,k,by rw[ae.o],by rw[ae.o];exact HO⟩,HG⟩
    case measure=>simp[intOf];omega
   ·have HC:Y (∀j u,(Lib.byteCells x)[j]?=some u->wr.cell? ((⟨gx,0,none⟩:Addr).add j)=some u):=hcx
    clear hcx
    go_wp2_with (at_builtin;refine wpList_append_own _ rfl _ _ 32 rfl w.heap.size 5 i0 _ 1 1 Tryz.underlying32 hi am an ao rfl (by decide) _ _ _ rfl HO.o ⟨gx,0,none⟩ x.length cx (Lib.byteCells x) rfl ?a1 HC.o (vf x) ?a4 ?a5 al ?_)
    case a1=>rw[xh,Nat.mul_one]
    case a4=>unfold maxLen;omega
    case a5=>omega
    intro v' w2 ad af _
    obtain⟨va,vc,rfl⟩:=zO ad
    have ai:Y (w2.ownsRow w.heap.size 5 1 (.slice va ((yQ ls (i+1)).length) vc) (yQ ls (i+1)).length (Lib.byteCells (yQ ls (i+1)))):=by
     show World.ownsRow _ _ _ _ _ _ _
     rw[aa.o,zh,Lib.byteCells_append]
     exact ad
    have ah:=J (qV HG.o af (fun k hk=>(zx HO.o k hk).1))
    have HV:Y ((yQ ls i).length+x.length=(yQ ls (i+1)).length):=by show _=_;rw[aa.o,zh]
    clear ad af
    go_wp2
    go_roundw
    case rel=>exact⟨i+1,by omega,by go_num,⟨va,vc,by rw[HV.o],ai⟩,ah⟩
    case measure=>simp[intOf];omega
  ·have hE:i=vs.length:=by omega
   subst hE
   have HJ:Y (yQ ls vs.length=xP ls):=by show _=_;rw[ab.o];exact zhS ls
   rw[HJ.o] at HO ⊢
   go_wp2
   go_ret
   exact⟨a,k,rfl,HO.o,HG.o⟩
def Gives (w:World)(l:List UInt8)(e:Ending)(w':World):Prop:=
 ∃a k,e = .returned (.slice a l.length k)/\w'.ownsRow w.heap.size 5 1 (.slice a l.length k) l.length (Lib.byteCells l)/\w.grownBy w' none
theorem fB (w:World)(l:List UInt8)(hl:l.length<=1000000):(w.alloc (.cells (Lib.byteCells l).toArray 5)).ownsRow w.heap.size 5 1 (.slice (some ⟨w.heap.size,0,none⟩) l.length l.length) l.length (Lib.byteCells l):=by
 refine⟨by rw[xh,Nat.mul_one],Or.inr ⟨w.heap.size,l.length,(Lib.byteCells l).toArray,rfl,zw _,heap_alloc_new _ _,zw _,by unfold maxLen;omega,by simp[xh],?_⟩⟩
 rw[tW (by simp[xh])]
theorem vi (n:Nat)(w:World):Calls Tryz.prog 107 #[.int .i64 n] w (Gives w [UInt8.ofNat n]):=by
 have HU:Y ((UInt8.ofNat n).toNat=n % 256):=by show _=_;rw[UInt8.toNat_ofNat']
 go_enter Tryz.func107,Tryz.ntmps107
 go_wp2
 go_ret
 refine⟨some ⟨w.heap.size,0,none⟩,1,rfl,?_,zL _ _ _⟩
 have h:=fB w [UInt8.ofNat n] (by simp)
 unfold Lib.byteCells at h ⊢
 simp only[xl,List.map_nil] at h ⊢
 rw[HU.o] at h ⊢
 exact h
theorem kH {w:World}{base aa:Nat}{e:TypeId}{ab:Nat}{v:Value}{n:Nat}{xs:List Value}(h:w.ownsRow base e ab v n xs)(hb:aa<=base):w.ownsRow aa e ab v n xs:=
 ⟨h.1,h.2.imp id fun⟨g,cap,cur,h1,h2,h3⟩=>⟨g,cap,cur,h1,qf hb h2,h3⟩⟩
theorem ye {w0 W:World}(hk:w0.grownBy W none)(vs:List Value)(ls:List (List UInt8))(hr:All2 (Rd W) vs ls)(hl:(xP ls).length<=1000000)(hn:vs.length<=100) :
  Calls Tryz.prog 70 #[.slice (some ⟨W.heap.size,0,none⟩) vs.length vs.length] (W.alloc (.cells vs.toArray 32)) (Gives w0 (xP ls)):=by
 have gA:W.grownBy (W.alloc (.cells vs.toArray 32)) none:=zL _ _ _
 refine(zkJ W.heap.size vs.length vs ls (heap_alloc_new _ _) (hr.map fun a b hab=>hab.keep gA) (by omega) (by omega)).mono ?_
 rintro e w' ⟨a,k,h1,h2,h3⟩
 exact⟨a,k,h1,kH h2 (qf hk.size (by simp)),zD (zD hk gA) h3⟩
theorem ztA (n:Nat):UInt8.ofNat (n % 256)=UInt8.ofNat n:=by
 apply UInt8.toNat_inj.1;rw[UInt8.toNat_ofNat',UInt8.toNat_ofNat'];simp
theorem zp3 (n:Nat):xP [[UInt8.ofNat n],[UInt8.ofNat (n / 256)]]=qe n:=by
 unfold xP qe
 rw[show((n:Int)).toNat=n from rfl,ztA];rfl
theorem zg9 (n:Nat)(w:World):Calls Tryz.prog 111 #[.int .i64 n] w (Gives w (qe n)):=by
 go_enter Tryz.func111,Tryz.ntmps111
 go_wp2_with fail
 refine(vi n w).mono ?_
 rintro e w1 ⟨a1,k1,rfl,h1,g1⟩
 have aa:Y (Rd w1 (.slice a1 1 k1) ([UInt8.ofNat n])):=Rd.of_row h1
 have G1:Y (w.grownBy w1 none):=g1
 clear h1 g1
 go_wp2_with fail
 refine(vi (n / 256) w1).mono ?_
 rintro e w2 ⟨a2,k2,rfl,h2,g2⟩
 have ad:Y (Rd w2 (.slice a2 1 k2) ([UInt8.ofNat (n / 256)])):=Rd.of_row h2
 have ab:Y (Rd w2 (.slice a1 1 k1) ([UInt8.ofNat n])):=aa.o.keep g2
 have G2:=J (zD G1.o g2)
 clear h2 g2 G1 aa
 go_wp2_with fail
 have HJ:Y (Calls Tryz.prog 70 #[.slice (some ⟨w2.heap.size,0,none⟩) 2 2] (w2.alloc (.cells #[.slice a1 1 k1,.slice a2 1 k2] 32)) (Gives w (qe n))):=by
  have h:=ye G2.o [.slice a1 1 k1,.slice a2 1 k2] [[UInt8.ofNat n],[UInt8.ofNat (n / 256)]] (.cons ab.o (.cons ad.o .nil)) (by unfold xP;simp) (by simp)
  rw[zp3 n] at h
  exact h
 refine HJ.o.mono ?_
 rintro e wZ ⟨aZ,kZ,rfl,hZ,gZ⟩
 clear HJ
 go_wp2
 go_ret
 exact⟨aZ,kZ,rfl,hZ,gZ⟩
theorem Rd.bytes (w:World)(s:ByteArray)(c:Nat):Rd (Lib.bytesWorld w 5 s) (.slice (some ⟨w.heap.size,0,none⟩) s.size c) s.data.toList:=by
 refine Or.inr ⟨w.heap.size,c,by rw[R.size_eq],by rw[Lib.bytesWorld_size];omega,fun j u hu=>?_⟩
 rw[kK,Nat.zero_add]
 unfold Lib.byteCells at hu
 rw[List.getElem?_map] at hu
 cases hq:s.data.toList[j]? with
 | none=>rw[hq] at hu;cases hu
 | some b=>rw[hq] at hu;cases hu;exact(BytesAt.new w s).cell hq
theorem zpR (s:ByteArray)(w:World)(hl:s.size<=255):Calls Tryz.prog 108 #[.string s] w (Gives w (zJ s.data.toList)):=by
 have ab:∀w,(convert 9 32 (.string s)).run Tryz.prog w = .ok (.slice (some ⟨w.heap.size,0,none⟩) s.size (grownCap w s.size 0 5)) (Lib.bytesWorld w 5 s):=fun w=>Lib.run_convert_string_bytes (u:=.string) w _ _ _ s (by kernel_rfl) (by kernel_rfl) (by kernel_rfl)
 go_enter Tryz.func108,Tryz.ntmps108
 go_wp2_with fail
 refine(vi s.size w).mono ?_
 rintro e w1 ⟨a1,k1,rfl,h1,g1⟩
 have aa:Y (Rd w1 (.slice a1 1 k1) ([UInt8.ofNat s.size])):=Rd.of_row h1
 have G1:Y (w.grownBy w1 none):=g1
 clear h1 g1
 have gB:w1.grownBy (Lib.bytesWorld w1 5 s) none:=uX _ _ _
 have R1:Y (Rd (Lib.bytesWorld w1 5 s) (.slice a1 1 k1) [UInt8.ofNat s.size]):=aa.o.keep gB
 have G2:=J (zD G1.o gB)
 have HJ:Y (Calls Tryz.prog 70 #[.slice (some ⟨(Lib.bytesWorld w1 5 s).heap.size,0,none⟩) 2 2] ((Lib.bytesWorld w1 5 s).alloc (.cells #[.slice a1 1 k1,.slice (some ⟨w1.heap.size,0,none⟩) s.size (grownCap w1 s.size 0 5)] 32)) (Gives w (zJ s.data.toList))):=by
  have h:=ye G2.o [.slice a1 1 k1,.slice (some ⟨w1.heap.size,0,none⟩) s.size (grownCap w1 s.size 0 5)] [[UInt8.ofNat s.size],s.data.toList] (.cons R1.o (.cons (Rd.bytes _ _ _) .nil)) (by unfold xP;simp;omega) (by simp)
  rw[show xP [[UInt8.ofNat s.size],s.data.toList]=zJ s.data.toList by unfold xP zJ;rw[R.size_eq];simp] at h
  exact h
 clear gB R1 G2
 go_wp2_with fail
 refine HJ.o.mono ?_
 rintro e wZ ⟨aZ,kZ,rfl,hZ,gZ⟩
 clear HJ
 go_wp2
 go_ret
 exact⟨aZ,kZ,rfl,hZ,gZ⟩
theorem vZ (l:List UInt8)(w:World)(hl:l.length<=255):Calls Tryz.prog 108 #[.string (R.str l)] w (Gives w (zJ l)):=by
 have h:=zpR (R.str l) w hl
 rw[R.str_toList] at h;exact h
def xv (b:Bool)(l:List UInt8):List UInt8:=if b then 1 :: zJ l else [0]
theorem zbE (b:Bool)(l:List UInt8)(w:World)(hl:l.length<=255):Calls Tryz.prog 166 #[.bool b,.string (R.str l)] w (Gives w (xv b l)):=by
 cases b
 ·go_enter Tryz.func166,Tryz.ntmps166
  go_wp2_with fail
  refine(vi 0 w).mono ?_
  rintro e w1 ⟨a1,k1,rfl,h1,g1⟩
  go_wp2
  go_ret
  exact⟨a1,k1,rfl,h1,g1⟩
 ·go_enter Tryz.func166,Tryz.ntmps166
  go_wp2_with fail
  refine(vi 1 w).mono ?_
  rintro e w1 ⟨a1,k1,rfl,h1,g1⟩
  have aa:Y (Rd w1 (.slice a1 1 k1) ([1])):=Rd.of_row h1
  have G1:Y (w.grownBy w1 none):=g1
  clear h1 g1
  go_wp2_with fail
  refine(vZ l w1 hl).mono ?_
  rintro e w2 ⟨a2,k2,rfl,h2,g2⟩
  have ad:Y (Rd w2 (.slice a2 (zJ l).length k2) (zJ l)):=Rd.of_row h2
  have ab:Y (Rd w2 (.slice a1 1 k1) ([1])):=aa.o.keep g2
  have G2:=J (zD G1.o g2)
  clear h2 g2 G1 aa
  go_wp2_with fail
  have HJ:Y (Calls Tryz.prog 70 #[.slice (some ⟨w2.heap.size,0,none⟩) 2 2] (w2.alloc (.cells #[.slice a1 1 k1,.slice a2 (zJ l).length k2] 32)) (Gives w (xv true l))):=by
   have h:=ye G2.o [.slice a1 1 k1,.slice a2 (zJ l).length k2] [[1],zJ l] (.cons ab.o (.cons ad.o .nil)) (by unfold xP zJ;simp;omega) (by simp)
   rw[show xP [[1],zJ l]=xv true l by unfold xP xv;simp] at h
   exact h
  refine HJ.o.mono ?_
  rintro e wZ ⟨aZ,kZ,rfl,hZ,gZ⟩
  clear HJ
  go_wp2
  go_ret
  exact⟨aZ,kZ,rfl,hZ,gZ⟩
theorem zjI (n:Int)(w:World)(h:0<=n):Calls Tryz.prog 111 #[.int .i64 n] w (Gives w (qe n)):=by
 obtain⟨k,rfl⟩:=Int.eq_ofNat_of_zero_le h
 exact zg9 k w
theorem qw (l:List UInt8):(zJ l).length=l.length+1:=by unfold zJ;simp
theorem kU (n:Int):(qe n).length=2:=rfl
theorem zj8 (b:Bool)(l:List UInt8):(xv b l).length<=l.length+2:=by unfold xv;split <;> simp[qw]
theorem join2 (a b:List UInt8):xP [a,b]=a++b:=by unfold xP;simp
theorem zqI (t:List UInt8×List UInt8)(w:World)(h1:t.1.length<=255)(h2:t.2.length<=255):Calls Tryz.prog 168 #[.agg #[.string (R.str t.1),.string (R.str t.2)]] w (Gives w (K.st t)):=by
 have aa:Y ((w.alloc (.cells #[.string (R.str t.1),.string (R.str t.2)] 280)).heap[w.heap.size]?=some (.cells #[.string (R.str t.1),.string (R.str t.2)] 280)):=heap_alloc_new _ _
 have c0:=zuH aa.o
 have c1:=zuB aa.o
 have ab:Y (w.grownBy (w.alloc (.cells #[.string (R.str t.1),.string (R.str t.2)] 280)) none):=zL _ _ _
 have ak:=zI aa.o
 have C1:Y (∀W,(w.alloc (.cells #[.string (R.str t.1),.string (R.str t.2)] 280)).grownBy W none->Calls Tryz.prog 108 #[.string (R.str t.1)] W fun e w'=>∃a k,e = .returned (.slice a (zJ t.1).length k)/\Rd w' (.slice a (zJ t.1).length k) (zJ t.1)/\W.grownBy w' none/\(w.alloc (.cells #[.string (R.str t.1),.string (R.str t.2)] 280)).grownBy w' none/\w'.cell? ⟨w.heap.size,0,none⟩=some (.string (R.str t.1))/\w'.cell? ⟨w.heap.size,1,none⟩=some (.string (R.str t.2))):=fun W hW=>(vZ t.1 W h1).mono fun e w' ⟨a,k,h1,h2,h3⟩=>⟨a,k,h1,Rd.of_row h2,h3,zD hW h3,zB (zF aa.o (zD hW h3) (by simp)),zB (zF aa.o (zD hW h3) (by simp))⟩
 have C2:Y (∀W,(w.alloc (.cells #[.string (R.str t.1),.string (R.str t.2)] 280)).grownBy W none->Calls Tryz.prog 108 #[.string (R.str t.2)] W fun e w'=>∃a k,e = .returned (.slice a (zJ t.2).length k)/\Rd w' (.slice a (zJ t.2).length k) (zJ t.2)/\W.grownBy w' none/\(w.alloc (.cells #[.string (R.str t.1),.string (R.str t.2)] 280)).grownBy w' none/\w'.cell? ⟨w.heap.size,0,none⟩=some (.string (R.str t.1))/\w'.cell? ⟨w.heap.size,1,none⟩=some (.string (R.str t.2))):=fun W hW=>(vZ t.2 W h2).mono fun e w' ⟨a,k,h1,h2,h3⟩=>⟨a,k,h1,Rd.of_row h2,h3,zD hW h3,zB (zF aa.o (zD hW h3) (by simp)),zB (zF aa.o (zD hW h3) (by simp))⟩
 have HJ:Y (∀W a1 k1 a2 k2,(w.alloc (.cells #[.string (R.str t.1),.string (R.str t.2)] 280)).grownBy W none->Rd W (.slice a1 (zJ t.1).length k1) (zJ t.1)->Rd W (.slice a2 (zJ t.2).length k2) (zJ t.2)->Calls Tryz.prog 70 #[.slice (some ⟨W.heap.size,0,none⟩) 2 2] (W.alloc (.cells #[.slice a1 (zJ t.1).length k1,.slice a2 (zJ t.2).length k2] 32)) fun e w'=>Gives w (K.st t) e w'/\w'.cell? ⟨w.heap.size,0,none⟩=some (.string (R.str t.1))/\w'.cell? ⟨w.heap.size,1,none⟩=some (.string (R.str t.2))):=fun W a1 k1 a2 k2 hW r1 r2=>by
  have h:=ye hW [.slice a1 (zJ t.1).length k1,.slice a2 (zJ t.2).length k2] [zJ t.1,zJ t.2] (.cons r1 (.cons r2 .nil)) (by rw[join2,zh,qw,qw];omega) (by simp)
  rw[show xP [zJ t.1,zJ t.2]=K.st t from join2 _ _] at h
  refine Calls.mono h fun e w' ⟨a,k,h1,h2,h3⟩=>⟨⟨a,k,h1,kH h2 ab.o.size,zD ab.o h3⟩,zB (zF aa.o h3 (by simp)),zB (zF aa.o h3 (by simp))⟩
 clear aa ab
 go_enter Tryz.func168,Tryz.ntmps168
 go_wp2_with fail
 generalize(w.alloc (.cells #[.string (R.str t.1),.string (R.str t.2)] 280))=wa at*
 go_region_held3 (fun W=>W.cell? ⟨w.heap.size,0,none⟩=some (.string (R.str t.1))/\W.cell? ⟨w.heap.size,1,none⟩=some (.string (R.str t.2))) (go_keep) (first
  | (go_at_call 108;show Calls _ _ _ (World.drew wa) _;refine(C1.o _ (zg wa)).mono ?_;rintro e w1 ⟨a1,k1,rfl,r1,g1,G1,ag,ah⟩;have ad:Y (Rd w1 (.slice a1 (zJ t.1).length k1) (zJ t.1)):=r1;have G1:Y (wa.grownBy w1 none):=G1;clear r1 g1)
  | (go_at_call 108;refine(C2.o _ G1.o).mono ?_;rintro e w2 ⟨a2,k2,rfl,r2,g2,G2,ai,aj⟩;have af:Y (Rd w2 (.slice a2 (zJ t.2).length k2) (zJ t.2)):=r2;have ae:Y (Rd w2 (.slice a1 (zJ t.1).length k1) (zJ t.1)):=ad.o.keep g2;have G2:Y (wa.grownBy w2 none):=G2;clear r2 g2 ad G1)
  | (go_at_call 70;refine(HJ.o _ a1 k1 a2 k2 G2.o ae.o af.o).mono ?_;rintro e wZ ⟨⟨aZ,kZ,rfl,hZ,gZ⟩,z0,z1⟩;have HZ:Y (wZ.ownsRow w.heap.size 5 1 (.slice aZ (K.st t).length kZ) (K.st t).length (Lib.byteCells (K.st t))):=hZ;have GZ:Y (w.grownBy wZ none):=gZ;clear hZ gZ))
 all_goals
  go_wp2
  go_ret
  exact⟨aZ,kZ,rfl,HZ.o,GZ.o⟩
theorem zi1 (t:List UInt8×Int)(w:World)(h1:t.1.length<=255)(h2:0<=t.2):Calls Tryz.prog 165 #[.agg #[.string (R.str t.1),.int .i64 t.2]] w (Gives w (K.tg t)):=by
 have aa:Y ((w.alloc (.cells #[.string (R.str t.1),.int .i64 t.2] 285)).heap[w.heap.size]?=some (.cells #[.string (R.str t.1),.int .i64 t.2] 285)):=heap_alloc_new _ _
 have c0:=zuH aa.o
 have c1:=zuB aa.o
 have ab:Y (w.grownBy (w.alloc (.cells #[.string (R.str t.1),.int .i64 t.2] 285)) none):=zL _ _ _
 have ak:=zI aa.o
 have C1:Y (∀W,(w.alloc (.cells #[.string (R.str t.1),.int .i64 t.2] 285)).grownBy W none->Calls Tryz.prog 108 #[.string (R.str t.1)] W fun e w'=>∃a k,e = .returned (.slice a (zJ t.1).length k)/\Rd w' (.slice a (zJ t.1).length k) (zJ t.1)/\W.grownBy w' none/\(w.alloc (.cells #[.string (R.str t.1),.int .i64 t.2] 285)).grownBy w' none/\w'.cell? ⟨w.heap.size,0,none⟩=some (.string (R.str t.1))/\w'.cell? ⟨w.heap.size,1,none⟩=some (.int .i64 t.2)):=fun W hW=>(vZ t.1 W h1).mono fun e w' ⟨a,k,h1,h2,h3⟩=>⟨a,k,h1,Rd.of_row h2,h3,zD hW h3,zB (zF aa.o (zD hW h3) (by simp)),zB (zF aa.o (zD hW h3) (by simp))⟩
 have C2:Y (∀W,(w.alloc (.cells #[.string (R.str t.1),.int .i64 t.2] 285)).grownBy W none->Calls Tryz.prog 111 #[.int .i64 t.2] W fun e w'=>∃a k,e = .returned (.slice a (qe t.2).length k)/\Rd w' (.slice a (qe t.2).length k) (qe t.2)/\W.grownBy w' none/\(w.alloc (.cells #[.string (R.str t.1),.int .i64 t.2] 285)).grownBy w' none/\w'.cell? ⟨w.heap.size,0,none⟩=some (.string (R.str t.1))/\w'.cell? ⟨w.heap.size,1,none⟩=some (.int .i64 t.2)):=fun W hW=>(zjI t.2 W h2).mono fun e w' ⟨a,k,h1,h2,h3⟩=>⟨a,k,h1,Rd.of_row h2,h3,zD hW h3,zB (zF aa.o (zD hW h3) (by simp)),zB (zF aa.o (zD hW h3) (by simp))⟩
 have HJ:Y (∀W a1 k1 a2 k2,(w.alloc (.cells #[.string (R.str t.1),.int .i64 t.2] 285)).grownBy W none->Rd W (.slice a1 (zJ t.1).length k1) (zJ t.1)->Rd W (.slice a2 (qe t.2).length k2) (qe t.2)->Calls Tryz.prog 70 #[.slice (some ⟨W.heap.size,0,none⟩) 2 2] (W.alloc (.cells #[.slice a1 (zJ t.1).length k1,.slice a2 (qe t.2).length k2] 32)) fun e w'=>Gives w (K.tg t) e w'/\w'.cell? ⟨w.heap.size,0,none⟩=some (.string (R.str t.1))/\w'.cell? ⟨w.heap.size,1,none⟩=some (.int .i64 t.2)):=fun W a1 k1 a2 k2 hW r1 r2=>by
  have h:=ye hW [.slice a1 (zJ t.1).length k1,.slice a2 (qe t.2).length k2] [zJ t.1,qe t.2] (.cons r1 (.cons r2 .nil)) (by rw[join2,zh,qw,kU];omega) (by simp)
  rw[show xP [zJ t.1,qe t.2]=K.tg t from join2 _ _] at h
  refine Calls.mono h fun e w' ⟨a,k,h1,h2,h3⟩=>⟨⟨a,k,h1,kH h2 ab.o.size,zD ab.o h3⟩,zB (zF aa.o h3 (by simp)),zB (zF aa.o h3 (by simp))⟩
 clear aa ab
 go_enter Tryz.func165,Tryz.ntmps165
 go_wp2_with fail
 generalize(w.alloc (.cells #[.string (R.str t.1),.int .i64 t.2] 285))=wa at*
 go_region_held3 (fun W=>W.cell? ⟨w.heap.size,0,none⟩=some (.string (R.str t.1))/\W.cell? ⟨w.heap.size,1,none⟩=some (.int .i64 t.2)) (go_keep) (first
  | (go_at_call 108;show Calls _ _ _ (World.drew wa) _;refine(C1.o _ (zg wa)).mono ?_;rintro e w1 ⟨a1,k1,rfl,r1,g1,G1,ag,ah⟩;have ad:Y (Rd w1 (.slice a1 (zJ t.1).length k1) (zJ t.1)):=r1;have G1:Y (wa.grownBy w1 none):=G1;clear r1 g1)
  | (go_at_call 111;refine(C2.o _ G1.o).mono ?_;rintro e w2 ⟨a2,k2,rfl,r2,g2,G2,ai,aj⟩;have af:Y (Rd w2 (.slice a2 (qe t.2).length k2) (qe t.2)):=r2;have ae:Y (Rd w2 (.slice a1 (zJ t.1).length k1) (zJ t.1)):=ad.o.keep g2;have G2:Y (wa.grownBy w2 none):=G2;clear r2 g2 ad G1)
  | (go_at_call 70;refine(HJ.o _ a1 k1 a2 k2 G2.o ae.o af.o).mono ?_;rintro e wZ ⟨⟨aZ,kZ,rfl,hZ,gZ⟩,z0,z1⟩;have HZ:Y (wZ.ownsRow w.heap.size 5 1 (.slice aZ (K.tg t).length kZ) (K.tg t).length (Lib.byteCells (K.tg t))):=hZ;have GZ:Y (w.grownBy wZ none):=gZ;clear hZ gZ))
 all_goals
  go_wp2
  go_ret
  exact⟨aZ,kZ,rfl,HZ.o,GZ.o⟩
theorem zl9 (m:P.Mt)(w:World)(h1:m.name.length<=255)(h2:m.val.length<=255):Calls Tryz.prog 163 #[.agg #[.string (R.str m.name),.bool m.ask,.string (R.str m.val)]] w (Gives w (K.mt m)):=by
 have aa:Y ((w.alloc (.cells #[.string (R.str m.name),.bool m.ask,.string (R.str m.val)] 276)).heap[w.heap.size]?=some (.cells #[.string (R.str m.name),.bool m.ask,.string (R.str m.val)] 276)):=heap_alloc_new _ _
 have c0:=ztW aa.o
 have c1:=zuA aa.o
 have c2:=ztX aa.o
 have ab:Y (w.grownBy (w.alloc (.cells #[.string (R.str m.name),.bool m.ask,.string (R.str m.val)] 276)) none):=zL _ _ _
 have am:=zI aa.o
 have C1:Y (∀W,(w.alloc (.cells #[.string (R.str m.name),.bool m.ask,.string (R.str m.val)] 276)).grownBy W none->Calls Tryz.prog 108 #[.string (R.str m.name)] W fun e w'=>∃a k,e = .returned (.slice a (zJ m.name).length k)/\Rd w' (.slice a (zJ m.name).length k) (zJ m.name)/\W.grownBy w' none/\(w.alloc (.cells #[.string (R.str m.name),.bool m.ask,.string (R.str m.val)] 276)).grownBy w' none/\w'.cell? ⟨w.heap.size,0,none⟩=some (.string (R.str m.name))/\w'.cell? ⟨w.heap.size,1,none⟩=some (.bool m.ask)/\w'.cell? ⟨w.heap.size,2,none⟩=some (.string (R.str m.val))):=fun W hW=>(vZ m.name W h1).mono fun e w' ⟨a,k,h1,h2,h3⟩=>⟨a,k,h1,Rd.of_row h2,h3,zD hW h3,zB (zF aa.o (zD hW h3) (by simp)),zB (zF aa.o (zD hW h3) (by simp)),zB (zF aa.o (zD hW h3) (by simp))⟩
 have C2:Y (∀W,(w.alloc (.cells #[.string (R.str m.name),.bool m.ask,.string (R.str m.val)] 276)).grownBy W none->Calls Tryz.prog 166 #[.bool m.ask,.string (R.str m.val)] W fun e w'=>∃a k,e = .returned (.slice a (xv m.ask m.val).length k)/\Rd w' (.slice a (xv m.ask m.val).length k) (xv m.ask m.val)/\W.grownBy w' none/\(w.alloc (.cells #[.string (R.str m.name),.bool m.ask,.string (R.str m.val)] 276)).grownBy w' none/\w'.cell? ⟨w.heap.size,0,none⟩=some (.string (R.str m.name))/\w'.cell? ⟨w.heap.size,1,none⟩=some (.bool m.ask)/\w'.cell? ⟨w.heap.size,2,none⟩=some (.string (R.str m.val))):=fun W hW=>(zbE m.ask m.val W h2).mono fun e w' ⟨a,k,h1,h2,h3⟩=>⟨a,k,h1,Rd.of_row h2,h3,zD hW h3,zB (zF aa.o (zD hW h3) (by simp)),zB (zF aa.o (zD hW h3) (by simp)),zB (zF aa.o (zD hW h3) (by simp))⟩
 have HJ:Y (∀W a1 k1 a2 k2,(w.alloc (.cells #[.string (R.str m.name),.bool m.ask,.string (R.str m.val)] 276)).grownBy W none->Rd W (.slice a1 (zJ m.name).length k1) (zJ m.name)->Rd W (.slice a2 (xv m.ask m.val).length k2) (xv m.ask m.val)->Calls Tryz.prog 70 #[.slice (some ⟨W.heap.size,0,none⟩) 2 2] (W.alloc (.cells #[.slice a1 (zJ m.name).length k1,.slice a2 (xv m.ask m.val).length k2] 32)) fun e w'=>Gives w (K.mt m) e w'/\w'.cell? ⟨w.heap.size,0,none⟩=some (.string (R.str m.name))/\w'.cell? ⟨w.heap.size,1,none⟩=some (.bool m.ask)/\w'.cell? ⟨w.heap.size,2,none⟩=some (.string (R.str m.val))):=fun W a1 k1 a2 k2 hW r1 r2=>by
  have h:=ye hW [.slice a1 (zJ m.name).length k1,.slice a2 (xv m.ask m.val).length k2] [zJ m.name,xv m.ask m.val] (.cons r1 (.cons r2 .nil)) (by rw[join2,zh,qw];have:=zj8 m.ask m.val;omega) (by simp)
  rw[show xP [zJ m.name,xv m.ask m.val]=K.mt m by rw[join2];rfl] at h
  refine Calls.mono h fun e w' ⟨a,k,h1,h2,h3⟩=>⟨⟨a,k,h1,kH h2 ab.o.size,zD ab.o h3⟩,zB (zF aa.o h3 (by simp)),zB (zF aa.o h3 (by simp)),zB (zF aa.o h3 (by simp))⟩
 clear aa ab
 go_enter Tryz.func163,Tryz.ntmps163
 go_wp2_with fail
 generalize(w.alloc (.cells #[.string (R.str m.name),.bool m.ask,.string (R.str m.val)] 276))=wa at*
 go_region_held3 (fun W=>W.cell? ⟨w.heap.size,0,none⟩=some (.string (R.str m.name))/\W.cell? ⟨w.heap.size,1,none⟩=some (.bool m.ask)/\W.cell? ⟨w.heap.size,2,none⟩=some (.string (R.str m.val))) (go_keep) (first
  | (go_at_call 108;show Calls _ _ _ (World.drew wa) _;refine(C1.o _ (zg wa)).mono ?_;rintro e w1 ⟨a1,k1,rfl,r1,g1,G1,ag,ah,ai⟩;have ad:Y (Rd w1 (.slice a1 (zJ m.name).length k1) (zJ m.name)):=r1;have G1:Y (wa.grownBy w1 none):=G1;clear r1 g1)
  | (go_at_call 166;refine(C2.o _ G1.o).mono ?_;rintro e w2 ⟨a2,k2,rfl,r2,g2,G2,aj,ak,al⟩;have af:Y (Rd w2 (.slice a2 (xv m.ask m.val).length k2) (xv m.ask m.val)):=r2;have ae:Y (Rd w2 (.slice a1 (zJ m.name).length k1) (zJ m.name)):=ad.o.keep g2;have G2:Y (wa.grownBy w2 none):=G2;clear r2 g2 ad G1)
  | (go_at_call 70;refine(HJ.o _ a1 k1 a2 k2 G2.o ae.o af.o).mono ?_;rintro e wZ ⟨⟨aZ,kZ,rfl,hZ,gZ⟩,z0,z1,z2⟩;have HZ:Y (wZ.ownsRow w.heap.size 5 1 (.slice aZ (K.mt m).length kZ) (K.mt m).length (Lib.byteCells (K.mt m))):=hZ;have GZ:Y (w.grownBy wZ none):=gZ;clear hZ gZ))
 all_goals
  go_wp2
  go_ret
  exact⟨aZ,kZ,rfl,HZ.o,GZ.o⟩
def zP {α:Type}(f:α->List UInt8)(l:List α)(i:Nat):List UInt8:=UInt8.ofNat l.length :: ((l.take i).map f).flatten
theorem jy {α:Type}(f:α->List UInt8)(l:List α):zP f l l.length=zQ f l:=by unfold zP zQ;rw[List.take_length]
theorem jZ {α:Type}(f:α->List UInt8)(l:List α)(i:Nat)(h:i<l.length):xP [zP f l i,f l[i]]=zP f l (i+1):=by
 rw[join2];unfold zP
 rw[uo h,fJ,yj];simp
theorem vX {α:Type}(f:α->List UInt8)(l:List α)(i:Nat):(zP f l i).length<=(zQ f l).length:=by
 unfold zP zQ
 conv=>rhs;rw[<-List.take_append_drop i l,fJ,yj]
 simp
theorem zo6 {w:World}(l:List P.Mt)(v:Value)(ad:w.ownsRow 0 276 3 v l.length (xO l))(hn:l.length<=255)(hv:∀x∈l,x.name.length<=255/\x.val.length<=255)(ak:(zQ K.mt l).length<=900000) :
  Calls Tryz.prog 162 #[.func (.func 163) #[] #[],v] w (Gives w (zQ K.mt l)):=by
 obtain⟨va,vc,rfl⟩:=zO ad
 have HR:Y (w.ownsRow 0 276 3 (.slice va l.length vc) l.length (l.map P.Mt.cells).flatten):=ad
 have HV:Y (∀x∈l,x.name.length<=255/\x.val.length<=255):=hv
 have al:Y ((zQ K.mt l).length<=900000):=ak
 clear ad hv ak
 go_enter Tryz.func162,Tryz.ntmps162
 go_wp2_with fail
 refine(vi l.length w).mono ?_
 rintro e w0 ⟨a0,k0,rfl,h0,g0⟩
 have ah:Y (w0.ownsRow w.heap.size 5 1 (.slice a0 (zP K.mt l 0).length k0) (zP K.mt l 0).length (Lib.byteCells (zP K.mt l 0))):=h0
 have af:Y (w.grownBy w0 none):=g0
 clear h0 g0
 go_wp2_with fail
 go_loopw [5,13] (fun sv iv wr=>∃i:Nat,i<=l.length/\iv = .int .i64 i/\(∃a k,sv = .slice a (zP K.mt l i).length k/\Y (wr.ownsRow w.heap.size 5 1 (.slice a (zP K.mt l i).length k) (zP K.mt l i).length (Lib.byteCells (zP K.mt l i))))/\Y (w.grownBy wr none)) (fun _ iv _=>l.length - (intOf iv).toNat)
 case atStart=>exact⟨0,zo _,rfl,⟨a0,k0,rfl,ah⟩,af⟩
 case round=>
  obtain⟨i,ap,rfl,⟨a,k,rfl,HO⟩,HG⟩:=hrel
  clear ah af
  by_cases aa:i<l.length
  ·have ao:(i:Int)<l.length:=by omega
   obtain⟨gt,am,aj,_,an⟩:=World.ownsRow.form HR.o (by omega)
   simp only[qQ] at aj
   obtain⟨rfl,_,rfl⟩:=aj
   have d0:wr.cell? ⟨gt,i*3,none⟩=some (.string (R.str l[i].name)):=by
    have h:=qx P.Mt.cells 3 (fun _=>rfl) HR.o HG.o i 0 aa (by omega) rfl
    exact h
   have d1:wr.cell? ⟨gt,i*3+1,none⟩=some (.bool l[i].ask):=by
    have h:=qx P.Mt.cells 3 (fun _=>rfl) HR.o HG.o i 1 aa (by omega) rfl
    exact h
   have d2:wr.cell? ⟨gt,i*3+2,none⟩=some (.string (R.str l[i].val)):=by
    have h:=qx P.Mt.cells 3 (fun _=>rfl) HR.o HG.o i 2 aa (by omega) rfl
    exact h
   have ae:=HV.o l[i] (List.getElem_mem aa)
   have ab:Y (xP [zP K.mt l i,K.mt l[i]]=zP K.mt l (i+1)):=jZ K.mt l i aa
   have aq:(zP K.mt l (i+1)).length<=900000:=qf (vX K.mt l (i+1)) al.o
   generalize l[i]=x at*
   have HI:Y (Calls Tryz.prog 163 #[.agg #[.string (R.str x.name),.bool x.ask,.string (R.str x.val)]] (wr.alloc (.cells #[.string (R.str x.name),.bool x.ask,.string (R.str x.val)] 276)) (Gives (wr.alloc (.cells #[.string (R.str x.name),.bool x.ask,.string (R.str x.val)] 276)) (K.mt x))):=zl9 x (wr.alloc (.cells #[.string (R.str x.name),.bool x.ask,.string (R.str x.val)] 276)) ae.1 ae.2
   have ag:Y (w.grownBy (wr.alloc (.cells #[.string (R.str x.name),.bool x.ask,.string (R.str x.val)] 276)) none):=zD HG.o (zL _ _ none)
   have R0:Y (Rd (wr.alloc (.cells #[.string (R.str x.name),.bool x.ask,.string (R.str x.val)] 276)) (.slice a (zP K.mt l i).length k) (zP K.mt l i)):=(Rd.of_row HO.o).keep (zL _ _ none)
   clear HV HR HO HG ae
   go_wp2_with fail
   refine HI.o.mono ?_
   rintro e w1 ⟨a1,k1,rfl,h1,g1⟩
   have R1:Y (Rd w1 (.slice a1 (K.mt x).length k1) (K.mt x)):=Rd.of_row h1
   have ai:Y (Rd w1 (.slice a (zP K.mt l i).length k) (zP K.mt l i)):=R0.o.keep g1
   have G1:=J (zD ag.o g1)
   have HJ:Y (Calls Tryz.prog 70 #[.slice (some ⟨w1.heap.size,0,none⟩) 2 2] (w1.alloc (.cells #[.slice a (zP K.mt l i).length k,.slice a1 (K.mt x).length k1] 32)) (Gives w (zP K.mt l (i+1)))):=by
    have h:=ye G1.o [.slice a (zP K.mt l i).length k,.slice a1 (K.mt x).length k1] [zP K.mt l i,K.mt x] (.cons ai.o (.cons R1.o .nil)) (by rw[ab.o];omega) (by simp)
    rw[ab.o] at h
    exact h
   clear h1 g1 R0 ai R1 G1 ag HI ab
   go_wp2_with fail
   refine HJ.o.mono ?_
   rintro e w2 ⟨a2,k2,rfl,h2,g2⟩
   have H2:Y (w2.ownsRow w.heap.size 5 1 (.slice a2 (zP K.mt l (i+1)).length k2) (zP K.mt l (i+1)).length (Lib.byteCells (zP K.mt l (i+1)))):=h2
   have G2:Y (w.grownBy w2 none):=g2
   clear h2 g2 HJ
   go_wp2
   go_roundw
   case rel=>exact⟨i+1,by omega,by go_num,⟨a2,k2,rfl,H2⟩,G2⟩
   case measure=>simp[intOf];omega
  ·have hE:i=l.length:=by omega
   subst hE
   have HC:Y (zP K.mt l l.length=zQ K.mt l):=jy K.mt l
   rw[HC.o] at HO ⊢
   go_wp2
   go_ret
   exact⟨a,k,rfl,HO.o,HG.o⟩
theorem zn3 {w:World}(l:List (List UInt8×Int))(v:Value)(ad:w.ownsRow 0 285 2 v l.length (qB l))(hn:l.length<=255)(hv:∀x∈l,x.1.length<=255/\0<=x.2)(ak:(zQ K.tg l).length<=900000) :
  Calls Tryz.prog 164 #[.func (.func 165) #[] #[],v] w (Gives w (zQ K.tg l)):=by
 obtain⟨va,vc,rfl⟩:=zO ad
 have HR:Y (w.ownsRow 0 285 2 (.slice va l.length vc) l.length (l.map (fun t:List UInt8×Int=>[.string (R.str t.1),.int .i64 t.2])).flatten):=ad
 have HV:Y (∀x∈l,x.1.length<=255/\0<=x.2):=hv
 have al:Y ((zQ K.tg l).length<=900000):=ak
 clear ad hv ak
 go_enter Tryz.func164,Tryz.ntmps164
 go_wp2_with fail
 refine(vi l.length w).mono ?_
 rintro e w0 ⟨a0,k0,rfl,h0,g0⟩
 have ah:Y (w0.ownsRow w.heap.size 5 1 (.slice a0 (zP K.tg l 0).length k0) (zP K.tg l 0).length (Lib.byteCells (zP K.tg l 0))):=h0
 have af:Y (w.grownBy w0 none):=g0
 clear h0 g0
 go_wp2_with fail
 go_loopw [5,13] (fun sv iv wr=>∃i:Nat,i<=l.length/\iv = .int .i64 i/\(∃a k,sv = .slice a (zP K.tg l i).length k/\Y (wr.ownsRow w.heap.size 5 1 (.slice a (zP K.tg l i).length k) (zP K.tg l i).length (Lib.byteCells (zP K.tg l i))))/\Y (w.grownBy wr none)) (fun _ iv _=>l.length - (intOf iv).toNat)
 case atStart=>exact⟨0,zo _,rfl,⟨a0,k0,rfl,ah⟩,af⟩
 case round=>
  obtain⟨i,ap,rfl,⟨a,k,rfl,HO⟩,HG⟩:=hrel
  clear ah af
  by_cases aa:i<l.length
  ·have ao:(i:Int)<l.length:=by omega
   obtain⟨gt,am,aj,_,an⟩:=World.ownsRow.form HR.o (by omega)
   simp only[qQ] at aj
   obtain⟨rfl,_,rfl⟩:=aj
   have d0:wr.cell? ⟨gt,i*2,none⟩=some (.string (R.str l[i].1)):=by
    have h:=qx (fun t:List UInt8×Int=>[.string (R.str t.1),.int .i64 t.2]) 2 (fun _=>rfl) HR.o HG.o i 0 aa (by omega) rfl
    exact h
   have d1:wr.cell? ⟨gt,i*2+1,none⟩=some (.int .i64 l[i].2):=by
    have h:=qx (fun t:List UInt8×Int=>[.string (R.str t.1),.int .i64 t.2]) 2 (fun _=>rfl) HR.o HG.o i 1 aa (by omega) rfl
    exact h
   have ae:=HV.o l[i] (List.getElem_mem aa)
   have ab:Y (xP [zP K.tg l i,K.tg l[i]]=zP K.tg l (i+1)):=jZ K.tg l i aa
   have aq:(zP K.tg l (i+1)).length<=900000:=qf (vX K.tg l (i+1)) al.o
   generalize l[i]=x at*
   have HI:Y (Calls Tryz.prog 165 #[.agg #[.string (R.str x.1),.int .i64 x.2]] (wr.alloc (.cells #[.string (R.str x.1),.int .i64 x.2] 285)) (Gives (wr.alloc (.cells #[.string (R.str x.1),.int .i64 x.2] 285)) (K.tg x))):=zi1 x (wr.alloc (.cells #[.string (R.str x.1),.int .i64 x.2] 285)) ae.1 ae.2
   have ag:Y (w.grownBy (wr.alloc (.cells #[.string (R.str x.1),.int .i64 x.2] 285)) none):=zD HG.o (zL _ _ none)
   have R0:Y (Rd (wr.alloc (.cells #[.string (R.str x.1),.int .i64 x.2] 285)) (.slice a (zP K.tg l i).length k) (zP K.tg l i)):=(Rd.of_row HO.o).keep (zL _ _ none)
   clear HV HR HO HG ae
   go_wp2_with fail
   refine HI.o.mono ?_
   rintro e w1 ⟨a1,k1,rfl,h1,g1⟩
   have R1:Y (Rd w1 (.slice a1 (K.tg x).length k1) (K.tg x)):=Rd.of_row h1
   have ai:Y (Rd w1 (.slice a (zP K.tg l i).length k) (zP K.tg l i)):=R0.o.keep g1
   have G1:=J (zD ag.o g1)
   have HJ:Y (Calls Tryz.prog 70 #[.slice (some ⟨w1.heap.size,0,none⟩) 2 2] (w1.alloc (.cells #[.slice a (zP K.tg l i).length k,.slice a1 (K.tg x).length k1] 32)) (Gives w (zP K.tg l (i+1)))):=by
    have h:=ye G1.o [.slice a (zP K.tg l i).length k,.slice a1 (K.tg x).length k1] [zP K.tg l i,K.tg x] (.cons ai.o (.cons R1.o .nil)) (by rw[ab.o];omega) (by simp)
    rw[ab.o] at h
    exact h
   clear h1 g1 R0 ai R1 G1 ag HI ab
   go_wp2_with fail
   refine HJ.o.mono ?_
   rintro e w2 ⟨a2,k2,rfl,h2,g2⟩
   have H2:Y (w2.ownsRow w.heap.size 5 1 (.slice a2 (zP K.tg l (i+1)).length k2) (zP K.tg l (i+1)).length (Lib.byteCells (zP K.tg l (i+1)))):=h2
   have G2:Y (w.grownBy w2 none):=g2
   clear h2 g2 HJ
   go_wp2
   go_roundw
   case rel=>exact⟨i+1,by omega,by go_num,⟨a2,k2,rfl,H2⟩,G2⟩
   case measure=>simp[intOf];omega
  ·have hE:i=l.length:=by omega
   subst hE
   have HC:Y (zP K.tg l l.length=zQ K.tg l):=jy K.tg l
   rw[HC.o] at HO ⊢
   go_wp2
   go_ret
   exact⟨a,k,rfl,HO.o,HG.o⟩
theorem zmM {w:World}(l:List (List UInt8×List UInt8))(v:Value)(ad:w.ownsRow 0 280 2 v l.length (qH l))(hn:l.length<=255)(hv:∀x∈l,x.1.length<=255/\x.2.length<=255)(ak:(zQ K.st l).length<=900000) :
  Calls Tryz.prog 167 #[.func (.func 168) #[] #[],v] w (Gives w (zQ K.st l)):=by
 obtain⟨va,vc,rfl⟩:=zO ad
 have HR:Y (w.ownsRow 0 280 2 (.slice va l.length vc) l.length (l.map (fun t:List UInt8×List UInt8=>[.string (R.str t.1),.string (R.str t.2)])).flatten):=ad
 have HV:Y (∀x∈l,x.1.length<=255/\x.2.length<=255):=hv
 have al:Y ((zQ K.st l).length<=900000):=ak
 clear ad hv ak
 go_enter Tryz.func167,Tryz.ntmps167
 go_wp2_with fail
 refine(vi l.length w).mono ?_
 rintro e w0 ⟨a0,k0,rfl,h0,g0⟩
 have ah:Y (w0.ownsRow w.heap.size 5 1 (.slice a0 (zP K.st l 0).length k0) (zP K.st l 0).length (Lib.byteCells (zP K.st l 0))):=h0
 have af:Y (w.grownBy w0 none):=g0
 clear h0 g0
 go_wp2_with fail
 go_loopw [5,13] (fun sv iv wr=>∃i:Nat,i<=l.length/\iv = .int .i64 i/\(∃a k,sv = .slice a (zP K.st l i).length k/\Y (wr.ownsRow w.heap.size 5 1 (.slice a (zP K.st l i).length k) (zP K.st l i).length (Lib.byteCells (zP K.st l i))))/\Y (w.grownBy wr none)) (fun _ iv _=>l.length - (intOf iv).toNat)
 case atStart=>exact⟨0,zo _,rfl,⟨a0,k0,rfl,ah⟩,af⟩
 case round=>
  obtain⟨i,ap,rfl,⟨a,k,rfl,HO⟩,HG⟩:=hrel
  clear ah af
  by_cases aa:i<l.length
  ·have ao:(i:Int)<l.length:=by omega
   obtain⟨gt,am,aj,_,an⟩:=World.ownsRow.form HR.o (by omega)
   simp only[qQ] at aj
   obtain⟨rfl,_,rfl⟩:=aj
   have d0:wr.cell? ⟨gt,i*2,none⟩=some (.string (R.str l[i].1)):=by
    have h:=qx (fun t:List UInt8×List UInt8=>[.string (R.str t.1),.string (R.str t.2)]) 2 (fun _=>rfl) HR.o HG.o i 0 aa (by omega) rfl
    exact h
   have d1:wr.cell? ⟨gt,i*2+1,none⟩=some (.string (R.str l[i].2)):=by
    have h:=qx (fun t:List UInt8×List UInt8=>[.string (R.str t.1),.string (R.str t.2)]) 2 (fun _=>rfl) HR.o HG.o i 1 aa (by omega) rfl
    exact h
   have ae:=HV.o l[i] (List.getElem_mem aa)
   have ab:Y (xP [zP K.st l i,K.st l[i]]=zP K.st l (i+1)):=jZ K.st l i aa
   have aq:(zP K.st l (i+1)).length<=900000:=qf (vX K.st l (i+1)) al.o
   generalize l[i]=x at*
   have HI:Y (Calls Tryz.prog 168 #[.agg #[.string (R.str x.1),.string (R.str x.2)]] (wr.alloc (.cells #[.string (R.str x.1),.string (R.str x.2)] 280)) (Gives (wr.alloc (.cells #[.string (R.str x.1),.string (R.str x.2)] 280)) (K.st x))):=zqI x (wr.alloc (.cells #[.string (R.str x.1),.string (R.str x.2)] 280)) ae.1 ae.2
   have ag:Y (w.grownBy (wr.alloc (.cells #[.string (R.str x.1),.string (R.str x.2)] 280)) none):=zD HG.o (zL _ _ none)
   have R0:Y (Rd (wr.alloc (.cells #[.string (R.str x.1),.string (R.str x.2)] 280)) (.slice a (zP K.st l i).length k) (zP K.st l i)):=(Rd.of_row HO.o).keep (zL _ _ none)
   clear HV HR HO HG ae
   go_wp2_with fail
   refine HI.o.mono ?_
   rintro e w1 ⟨a1,k1,rfl,h1,g1⟩
   have R1:Y (Rd w1 (.slice a1 (K.st x).length k1) (K.st x)):=Rd.of_row h1
   have ai:Y (Rd w1 (.slice a (zP K.st l i).length k) (zP K.st l i)):=R0.o.keep g1
   have G1:=J (zD ag.o g1)
   have HJ:Y (Calls Tryz.prog 70 #[.slice (some ⟨w1.heap.size,0,none⟩) 2 2] (w1.alloc (.cells #[.slice a (zP K.st l i).length k,.slice a1 (K.st x).length k1] 32)) (Gives w (zP K.st l (i+1)))):=by
    have h:=ye G1.o [.slice a (zP K.st l i).length k,.slice a1 (K.st x).length k1] [zP K.st l i,K.st x] (.cons ai.o (.cons R1.o .nil)) (by rw[ab.o];omega) (by simp)
    rw[ab.o] at h
    exact h
   clear h1 g1 R0 ai R1 G1 ag HI ab
   go_wp2_with fail
   refine HJ.o.mono ?_
   rintro e w2 ⟨a2,k2,rfl,h2,g2⟩
   have H2:Y (w2.ownsRow w.heap.size 5 1 (.slice a2 (zP K.st l (i+1)).length k2) (zP K.st l (i+1)).length (Lib.byteCells (zP K.st l (i+1)))):=h2
   have G2:Y (w.grownBy w2 none):=g2
   clear h2 g2 HJ
   go_wp2
   go_roundw
   case rel=>exact⟨i+1,by omega,by go_num,⟨a2,k2,rfl,H2⟩,G2⟩
   case measure=>simp[intOf];omega
  ·have hE:i=l.length:=by omega
   subst hE
   have HC:Y (zP K.st l l.length=zQ K.st l):=jy K.st l
   rw[HC.o] at HO ⊢
   go_wp2
   go_ret
   exact⟨a,k,rfl,HO.o,HG.o⟩
theorem zmO {w:World}(l:List (List UInt8))(v:Value)(ad:w.ownsRow 0 9 1 v l.length (l.map fun s=>[Value.string (R.str s)]).flatten)(hn:l.length<=255)(hv:∀x∈l,x.length<=255)(aj:(zQ zJ l).length<=900000) :
  Calls Tryz.prog 169 #[.func (.func 108) #[] #[],v] w (Gives w (zQ zJ l)):=by
 obtain⟨va,vc,rfl⟩:=zO ad
 have HR:Y (w.ownsRow 0 9 1 (.slice va l.length vc) l.length (l.map (fun s=>[Value.string (R.str s)])).flatten):=ad
 have HV:Y (∀x∈l,x.length<=255):=hv
 have al:Y ((zQ zJ l).length<=900000):=aj
 clear ad hv aj
 go_enter Tryz.func169,Tryz.ntmps169
 go_wp2_with fail
 refine(vi l.length w).mono ?_
 rintro e w0 ⟨a0,k0,rfl,h0,g0⟩
 have ag:Y (w0.ownsRow w.heap.size 5 1 (.slice a0 (zP zJ l 0).length k0) (zP zJ l 0).length (Lib.byteCells (zP zJ l 0))):=h0
 have ae:Y (w.grownBy w0 none):=g0
 clear h0 g0
 go_wp2_with fail
 go_loopw [5,13] (fun sv iv wr=>∃i:Nat,i<=l.length/\iv = .int .i64 i/\(∃a k,sv = .slice a (zP zJ l i).length k/\Y (wr.ownsRow w.heap.size 5 1 (.slice a (zP zJ l i).length k) (zP zJ l i).length (Lib.byteCells (zP zJ l i))))/\Y (w.grownBy wr none)) (fun _ iv _=>l.length - (intOf iv).toNat)
 case atStart=>exact⟨0,zo _,rfl,⟨a0,k0,rfl,ag⟩,ae⟩
 case round=>
  obtain⟨i,ap,rfl,⟨a,k,rfl,HO⟩,HG⟩:=hrel
  clear ag ae
  by_cases ab:i<l.length
  ·have ao:(i:Int)<l.length:=by omega
   obtain⟨gt,am,ai,_,an⟩:=World.ownsRow.form HR.o (by omega)
   simp only[qQ] at ai
   obtain⟨rfl,_,rfl⟩:=ai
   have d0:wr.cell? ⟨gt,i,none⟩=some (.string (R.str l[i])):=by
    have h:=qx (fun s=>[Value.string (R.str s)]) 1 (fun _=>rfl) HR.o HG.o i 0 ab (by omega) rfl
    rw[Nat.mul_one] at h
    exact h
   have ak:=HV.o l[i] (List.getElem_mem ab)
   have aa:Y (xP [zP zJ l i,zJ l[i]]=zP zJ l (i+1)):=jZ zJ l i ab
   have aq:(zP zJ l (i+1)).length<=900000:=qf (vX zJ l (i+1)) al.o
   generalize l[i]=x at*
   have HI:Y (Calls Tryz.prog 108 #[.string (R.str x)] wr (Gives wr (zJ x))):=vZ x wr ak
   have af:Y (w.grownBy wr none):=HG.o
   have R0:Y (Rd wr (.slice a (zP zJ l i).length k) (zP zJ l i)):=Rd.of_row HO.o
   clear HV HR HO HG ak
   go_wp2_with fail
   refine HI.o.mono ?_
   rintro e w1 ⟨a1,k1,rfl,h1,g1⟩
   have R1:Y (Rd w1 (.slice a1 (zJ x).length k1) (zJ x)):=Rd.of_row h1
   have ah:Y (Rd w1 (.slice a (zP zJ l i).length k) (zP zJ l i)):=R0.o.keep g1
   have G1:=J (zD af.o g1)
   have HJ:Y (Calls Tryz.prog 70 #[.slice (some ⟨w1.heap.size,0,none⟩) 2 2] (w1.alloc (.cells #[.slice a (zP zJ l i).length k,.slice a1 (zJ x).length k1] 32)) (Gives w (zP zJ l (i+1)))):=by
    have h:=ye G1.o [.slice a (zP zJ l i).length k,.slice a1 (zJ x).length k1] [zP zJ l i,zJ x] (.cons ah.o (.cons R1.o .nil)) (by rw[aa.o];omega) (by simp)
    rw[aa.o] at h
    exact h
   clear h1 g1 R0 ah R1 G1 af HI aa
   go_wp2_with fail
   refine HJ.o.mono ?_
   rintro e w2 ⟨a2,k2,rfl,h2,g2⟩
   have H2:Y (w2.ownsRow w.heap.size 5 1 (.slice a2 (zP zJ l (i+1)).length k2) (zP zJ l (i+1)).length (Lib.byteCells (zP zJ l (i+1)))):=h2
   have G2:Y (w.grownBy w2 none):=g2
   clear h2 g2 HJ
   go_wp2
   go_roundw
   case rel=>exact⟨i+1,by omega,by go_num,⟨a2,k2,rfl,H2⟩,G2⟩
   case measure=>simp[intOf];omega
  ·have hE:i=l.length:=by omega
   subst hE
   have HC:Y (zP zJ l l.length=zQ zJ l):=jy zJ l
   rw[HC.o] at HO ⊢
   go_wp2
   go_ret
   exact⟨a,k,rfl,HO.o,HG.o⟩
end Go.Proofs.YtfocdefchbnkpaaGreatDoor
