/- Packing, as the program does it: the sum. -/
import Derived.Test.YtfocdefchbnkpaaGreatDoorAli
import Derived.Test.YtfocdefchbnkpaaGreatDoorPkE
import Derived.Laws.Cover1
import Derived.Laws.BitsAllLaws
import Derived.Lib.SlBytesConst
import Derived.Deep.DeepCutAuto
import Derived.Test.YtfocdefchbnkpaaGreatDoorRefS
import Derived.Shelf.Strings.Prefix
import Derived.Ground.NamesProg
import Derived.Test.YtfocdefchbnkpaaGreatDoorProg
set_option maxRecDepth 100000
set_option maxHeartbeats 20000000
namespace Go.Proofs.YtfocdefchbnkpaaGreatDoor
open Go.RowKit
theorem zq9 {n:Nat}(h:n<4294967296):jO n<4294967296:=by
 unfold jO
 split
 ·exact Nat.xor_lt_two_pow (n:=32) (by omega) (by decide)
 ·omega
def je:Nat->Nat->Nat
 | 0,s=>s
 | k+1,s=>jO (je k s)
theorem ziU (k:Nat){n:Nat}(h:n<4294967296):je k n<4294967296:=by
 induction k with
 | zero=>exact h
 | succ k ih=>exact zq9 ih
theorem zjR (s:Nat)(c:UInt8):ux s c=je 8 (s ^^^ c.toNat):=rfl
theorem zgS {s:Nat}(c:UInt8)(h:s<4294967296):s ^^^ c.toNat<4294967296:=Nat.xor_lt_two_pow (n:=32) h (by have:=c.toNat_lt;omega)
theorem ziY:∀(l:List UInt8) (s:Nat),s<4294967296->l.foldl ux s<4294967296
 | [],_,h=>h
 | c :: l,s,h=>ziY l (ux s c) (by rw[zjR];exact ziU 8 (zgS c h))
def yV (l:List UInt8)(i:Nat):Nat:=(l.take i).foldl ux 4294967295
theorem zc1 (l:List UInt8)(i:Nat):yV l i<4294967296:=ziY _ _ (by decide)
theorem zjV (l:List UInt8)(i:Nat)(h:i<l.length):yV l (i+1)=je 8 (yV l i ^^^ l[i].toNat):=by
 unfold yV
 rw[j6 h,List.foldl_append];rfl
theorem zn3 {q:Nat}(h:q<4294967296):4294967295 ^^^ q=4294967295 - q:=by
 apply Nat.eq_of_testBit_eq
 intro i
 have e1:(4294967295:Nat)=2 ^ 32 - 1:=by decide
 have e2:4294967295 - q=2 ^ 32 - (q+1):=by omega
 rw[Nat.testBit_xor,e2,Nat.testBit_two_pow_sub_succ (by simpa using h),e1,Nat.testBit_two_pow_sub_one]
 by_cases hi:i<32
 ·simp[hi]
 ·have:q.testBit i=false:=Nat.testBit_lt_two_pow (yU h (by rw[show(4294967296:Nat)=2 ^ 32 by decide];exact Nat.pow_le_pow_right (by decide) (by omega)))
  simp[hi,this]
theorem zfT (n:Nat)(w:World)(hn:n<4294967296):Calls Tryz.prog 112 #[.int .u32 n] w fun e w'=>e = .returned (.int .u32 (jO n:Nat))/\w'=w:=by
 have HX:Y (bits .xor .u32 ((n:Int) / 2) 3988292384=((n / 2 ^^^ 3988292384:Nat):Int)):=u32_xor_nat (n / 2) 3988292384 (by omega) (by decide)
 have HA:Y (bits .and .u32 (n:Int) 1=((n % 2:Nat):Int)):=by
  have h:=u32_and_nat n 1 hn (by decide)
  rw[Nat.and_one_is_mod] at h
  exact h
 by_cases h:n % 2=1
 ·have HB:Y (jO n=n / 2 ^^^ 3988292384):=by show _=_;unfold jO;rw[if_pos h]
  have ht:(bits .and .u32 (n:Int) 1 == 1)=true:=by rw[HA.o,h];rfl
  clear h
  go_enter Tryz.func112,Tryz.ntmps112
  go_wp2
  go_ret
  exact⟨by rw[HB.o,<-HX.o];rfl,rfl⟩
 ·have HB:Y (jO n=n / 2):=by show _=_;unfold jO;rw[if_neg h]
  have ht:(bits .and .u32 (n:Int) 1 == 1)=false:=by
   rw[HA.o,beq_eq_false_iff_ne];omega
  clear h
  go_enter Tryz.func112,Tryz.ntmps112
  go_wp2
  go_ret
  exact⟨by rw[HB.o];rfl,rfl⟩
theorem zpK {w:World}(a:Option Addr)(k:Nat)(l:List UInt8)(hr:Rd w (.slice a l.length k) l)(hl:l.length<=1000000) :
  Calls Tryz.prog 74 #[.slice a l.length k] w fun e w'=>e = .returned (.int .u32 (jf l:Nat))/\w'=w:=by
 have HR:Y (Rd w (.slice a l.length k) l):=hr
 clear hr
 go_enter Tryz.func74,Tryz.ntmps74
 go_wp2
 go_loopw [3,8] (fun sv iv wr=>∃i:Nat,i<=l.length/\iv = .int .i64 i/\sv = .int .u32 (yV l i:Nat)/\wr=w) (fun _ iv _=>l.length - (intOf iv).toNat)
 case atStart=>exact⟨0,zl _,rfl,rfl,rfl⟩
 case round=>
  obtain⟨i,ak,rfl,rfl,hw⟩:=hrel
  rw[hw]
  clear hw wr
  by_cases aa:i<l.length
  ·have aj:(i:Int)<l.length:=by omega
   obtain⟨g,c0,ae,ai,ad⟩:∃g c0,(.slice a l.length k:Value) = .slice (some ⟨g,0,none⟩) l.length c0/\g<w.heap.size/\∀j u,(Lib.byteCells l)[j]?=some u->w.cell? ((⟨g,0,none⟩:Addr).add j)=some u:=by
    rcases HR.o with ⟨_,h0⟩ | h
    ·rw[h0] at aa;cases aa
    ·exact h
   simp only[qc,true_and] at ae
   obtain⟨rfl,rfl⟩:=ae
   have d0:w.cell? ⟨g,i,none⟩=some (.int .u8 l[i].toNat):=by
    have h:=ad i (.int .u8 l[i].toNat) (by unfold Lib.byteCells;rw[List.getElem?_map,qN aa];rfl)
    rw[jL,Nat.zero_add] at h;exact h
   have HN:Y (yV l (i+1)=je 8 (yV l i ^^^ l[i].toNat)):=zjV l i aa
   have hc:=l[i].toNat_lt
   have hx:bits .xor .u32 (yV l i:Int) (l[i].toNat:Int)=((yV l i ^^^ l[i].toNat:Nat):Int):=u32_xor_nat _ _ (zc1 l i) (by omega)
   have ag:Y (yV l i ^^^ l[i].toNat<4294967296):=zgS _ (zc1 l i)
   clear ad
   generalize l[i]=c at*
   generalize hs:yV l i ^^^ c.toNat=s0 at*
   have HS:Y (∀j,Calls Tryz.prog 112 #[.int .u32 (je j s0:Nat)] w fun e w'=>e = .returned (.int .u32 (je (j+1) s0:Nat))/\w'=w):=fun j=>zfT (je j s0) w (ziU j ag.o)
   go_wp2_with fail
   go_loopw [3,16] (fun sv jv wq=>∃j:Nat,j<=8/\jv = .int .i64 j/\sv = .int .u32 (je j s0:Nat)/\wq=w) (fun _ jv _=>8 - (intOf jv).toNat)
   case atStart=>exact⟨0,by omega,rfl,rfl,rfl⟩
   case round=>
    obtain⟨j,al,rfl,rfl,hw⟩:=hrel
    rw[hw]
    clear hw wr
    by_cases hj:j<8
    ·have am:(j:Int)<8:=by omega
     have ab:=HS.o j
     have ah:Y (Calls Tryz.prog 112 #[.int .u32 (je j s0:Nat)] w fun e w'=>e = .returned (.int .u32 (je (j+1) s0:Nat))/\w'=w):=ab
     clear ab HS HR
     go_wp2_with (go_at_call 112;refine ah.o.mono ?_;rintro e wX ⟨rfl,af⟩;rw[af];clear af wX)
     go_roundw
     case rel=>exact⟨j+1,by omega,by go_num,rfl,by first | trivial | rfl⟩
     case measure=>simp[intOf];omega
    ·have hE:j=8:=by omega
     subst hE
     clear HS HR
     go_wp2
     go_roundw
     case rel=>exact⟨i+1,by omega,by go_num,by rw[HN.o],by first | trivial | rfl⟩
     case measure=>simp[intOf];omega
  ·have hE:i=l.length:=by omega
   subst hE
   have HC:Y ((jf l:Nat)=4294967295 - yV l l.length):=by show _=_;unfold jf yV;rw[List.take_length]
   have hk:=zc1 l l.length
   have HX:Y (bits .xor .u32 IntKind.u32.max (yV l l.length:Int)=((4294967295 - yV l l.length:Nat):Int)):=by
    have h:=u32_xor_nat 4294967295 (yV l l.length) (by decide) hk
    rw[zn3 hk] at h
    exact h
   generalize yV l l.length=q at*
   go_wp2
   go_ret
   exact⟨by rw[HC.o,<-HX.o];rfl,rfl⟩
theorem zk2 (n:Nat)(h:n<4294967296):qe [qS ((n % 65536:Nat):Int),qS ((n / 65536:Nat):Int)]=yW n:=by
 rw[join2]
 unfold qS yW
 simp only[Int.toNat_natCast,List.cons_append,List.nil_append]
 rw[show n % 65536 % 256=n % 256 by omega,show n % 65536 / 256=n / 256 % 256 by omega,show n / 65536 / 256=n / 16777216 % 256 by omega]
theorem znG (n:Nat)(w:World)(hn:n<4294967296):Calls Tryz.prog 73 #[.int .u32 n] w (Gives w (yW n)):=by
 have hA:wrap64 (bits .and .u32 (n:Int) 65535)=((n % 65536:Nat):Int):=by
  have h:=u32_and_nat n 65535 hn (by decide)
  rw[show(65535:Nat)=2 ^ 16 - 1 by decide,Nat.and_two_pow_sub_one_eq_mod] at h
  rw[show bits .and .u32 (n:Int) 65535=((n % 65536:Nat):Int) from h]
  simp only[wrap64];omega
 have hB:wrap64 ((n:Int) / 65536)=((n / 65536:Nat):Int):=by simp only[wrap64];omega
 have aa:Y (qe [qS ((n % 65536:Nat):Int),qS ((n / 65536:Nat):Int)]=yW n):=zk2 n hn
 go_enter Tryz.func73,Tryz.ntmps73
 go_wp2_with fail
 refine(zcU (n % 65536) w).mono ?_
 rintro e w1 ⟨a1,k1,rfl,h1,g1⟩
 have ab:Y (Rd w1 (.slice a1 (qS ((n % 65536:Nat):Int)).length k1) (qS ((n % 65536:Nat):Int))):=Rd.of_row h1
 have G1:Y (w.grownBy w1 none):=g1
 clear h1 g1
 go_wp2_with fail
 refine(zcU (n / 65536) w1).mono ?_
 rintro e w2 ⟨a2,k2,rfl,h2,g2⟩
 have ae:Y (Rd w2 (.slice a2 (qS ((n / 65536:Nat):Int)).length k2) (qS ((n / 65536:Nat):Int))):=Rd.of_row h2
 have ad:Y (Rd w2 (.slice a1 (qS ((n % 65536:Nat):Int)).length k1) (qS ((n % 65536:Nat):Int))):=ab.o.keep g2
 have G2:=J (zA G1.o g2)
 clear h2 g2 G1 ab
 go_wp2_with fail
 have HJ:Y (Calls Tryz.prog 70 #[.slice (some ⟨w2.heap.size,0,none⟩) 2 2] (w2.alloc (.cells #[.slice a1 (qS ((n % 65536:Nat):Int)).length k1,.slice a2 (qS ((n / 65536:Nat):Int)).length k2] 32)) (Gives w (yW n))):=by
  have h:=xZ G2.o [.slice a1 (qS ((n % 65536:Nat):Int)).length k1,.slice a2 (qS ((n / 65536:Nat):Int)).length k2] [qS ((n % 65536:Nat):Int),qS ((n / 65536:Nat):Int)] (.cons ad.o (.cons ae.o .nil)) (by rw[aa.o];unfold yW;simp) (by simp)
  rw[aa.o] at h
  exact h
 refine HJ.o.mono ?_
 rintro e wZ ⟨aZ,kZ,rfl,hZ,gZ⟩
 clear HJ
 go_wp2
 go_ret
 exact⟨aZ,kZ,rfl,hZ,gZ⟩
theorem zaK {w:World}(v:Value)(hs:List P.Hst)(hH:PHostsRow w 0 v hs)(hn:hs.length<=4)(hv:∀x∈hs,VPk x) :
  Calls Tryz.prog 43 #[.agg #[v]] w (Gives w (qE hs)):=by
 obtain⟨b1,b2,rfl⟩:∃b1 b2,v = .slice b1 hs.length b2:=by obtain⟨af,h1,_⟩:=hH;exact zP h1
 have gB:w.grownBy ((w.alloc (.cells #[.slice b1 hs.length b2] 88)).alloc (.cells #[.int .u8 83,.int .u8 89,.int .u8 49] 5 (3,4))) none:=zA (zJ _ _ none) (zJ _ _ none)
 have ab:(w.alloc (.cells #[.slice b1 hs.length b2] 88)).heap.size=w.heap.size+1:=by simp
 have ai:=yK zx 8000 hs (fun x hx=>ziZ (hv x hx))
 have HC:Y (Calls Tryz.prog 71 #[.func (.func 72) #[] #[],.slice b1 hs.length b2] ((w.alloc (.cells #[.slice b1 hs.length b2] 88)).alloc (.cells #[.int .u8 83,.int .u8 89,.int .u8 49] 5 (3,4))) (Gives ((w.alloc (.cells #[.slice b1 hs.length b2] 88)).alloc (.cells #[.int .u8 83,.int .u8 89,.int .u8 49] 5 (3,4))) (zL zx hs))):=by
  obtain⟨af,q1,q2⟩:=hH.keep gB (zv _ _)
  exact zkJ hs _ af q1 q2 (by omega) hv (by omega)
 have R0:Y (Rd ((w.alloc (.cells #[.slice b1 hs.length b2] 88)).alloc (.cells #[.int .u8 83,.int .u8 89,.int .u8 49] 5 (3,4))) (.slice (some ⟨w.heap.size+1,0,none⟩) 3 3) [83,89,49]):=by
  refine Or.inr ⟨w.heap.size+1,3,rfl,by rw[show((w.alloc (.cells #[.slice b1 hs.length b2] 88)).alloc (.cells #[.int .u8 83,.int .u8 89,.int .u8 49] 5 (3,4))).heap.size=w.heap.size+2 by simp];omega,fun j u hu=>?_⟩
  rw[jL,Nat.zero_add,<-ab,World.cell?_alloc_mark]
  rw[<-hu,<-List.getElem?_toArray];rfl
 have aj:(convert 32 32 (.slice (some ⟨w.heap.size+1,0,none⟩) 3 3)).run Tryz.prog ((w.alloc (.cells #[.slice b1 hs.length b2] 88)).alloc (.cells #[.int .u8 83,.int .u8 89,.int .u8 49] 5)) = .ok (.slice (some ⟨w.heap.size+1,0,none⟩) 3 3) ((w.alloc (.cells #[.slice b1 hs.length b2] 88)).alloc (.cells #[.int .u8 83,.int .u8 89,.int .u8 49] 5 (3,4))):=by
  have h:=Lib.run_convert_bytes_const (P:=Tryz.prog) (w.alloc (.cells #[.slice b1 hs.length b2] 88)) 32 5 #[.int .u8 83,.int .u8 89,.int .u8 49] 3 3 Tryz.underlying32 Tryz.underlying5
  rw[ab] at h
  exact h
 have u0:((w.alloc (.cells #[.slice b1 hs.length b2] 88)).alloc (.cells #[.int .u8 83,.int .u8 89,.int .u8 49] 5 (3,4))).cell? ⟨w.heap.size,0,none⟩=some (.slice b1 hs.length b2):=z8 (zB (heap_alloc_new w (.cells #[.slice b1 hs.length b2] 88)) (zJ _ _ none) (by simp))
 have ad:Y (w.grownBy ((w.alloc (.cells #[.slice b1 hs.length b2] 88)).alloc (.cells #[.int .u8 83,.int .u8 89,.int .u8 49] 5 (3,4))) none):=gB
 have aa:Y ((qo hs).length<=100000):=by
  show _<=_
  unfold qo;rw[zW];simp only[zm,qi];omega
 clear hH hv gB ab ai
 go_enter Tryz.func43,Tryz.ntmps43
 go_wp2_with fail
 refine HC.o.mono ?_
 rintro e w1 ⟨a1,k1,rfl,h1,g1⟩
 have R1:Y (Rd w1 (.slice a1 (zL zx hs).length k1) (zL zx hs)):=Rd.of_row h1
 have ae:Y (Rd w1 (.slice (some ⟨w.heap.size+1,0,none⟩) 3 3) [83,89,49]):=R0.o.keep g1
 have G1:=J (zA ad.o g1)
 clear h1 g1 R0 ad HC u0 aj
 have HJ:Y (Calls Tryz.prog 70 #[.slice (some ⟨w1.heap.size,0,none⟩) 2 2] (w1.alloc (.cells #[.slice (some ⟨w.heap.size+1,0,none⟩) 3 3,.slice a1 (zL zx hs).length k1] 32)) (Gives w (qo hs))):=by
  have h:=xZ G1.o [.slice (some ⟨w.heap.size+1,0,none⟩) 3 3,.slice a1 (zL zx hs).length k1] [[83,89,49],zL zx hs] (.cons ae.o (.cons R1.o .nil)) (by rw[join2];have:=aa.o;unfold qo at this;omega) (by simp)
  rw[show qe [[83,89,49],zL zx hs]=qo hs from join2 _ _] at h
  exact h
 go_wp2_with fail
 refine HJ.o.mono ?_
 rintro e w2 ⟨a2,k2,rfl,h2,g2⟩
 have R2:Y (Rd w2 (.slice a2 (qo hs).length k2) (qo hs)):=Rd.of_row h2
 have G2:Y (w.grownBy w2 none):=g2
 clear h2 g2 HJ ae R1 G1
 have HS:Y (Calls Tryz.prog 74 #[.slice a2 (qo hs).length k2] w2 fun e w'=>e = .returned (.int .u32 (jf (qo hs):Nat))/\w'=w2):=zpK a2 k2 _ R2.o (by have:=aa.o;omega)
 go_wp2_with fail
 refine HS.o.mono ?_
 rintro e wX ⟨rfl,ag⟩
 rw[ag]
 clear ag wX HS
 go_wp2_with fail
 refine(znG (jf (qo hs)) w2 (by unfold jf;omega)).mono ?_
 rintro e w3 ⟨a3,k3,rfl,h3,g3⟩
 have R3:Y (Rd w3 (.slice a3 (yW (jf (qo hs))).length k3) (yW (jf (qo hs)))):=Rd.of_row h3
 have ah:Y (Rd w3 (.slice a2 (qo hs).length k2) (qo hs)):=R2.o.keep g3
 have G3:=J (zA G2.o g3)
 clear h3 g3 R2 G2
 have HJ:Y (Calls Tryz.prog 70 #[.slice (some ⟨w3.heap.size,0,none⟩) 2 2] (w3.alloc (.cells #[.slice a2 (qo hs).length k2,.slice a3 (yW (jf (qo hs))).length k3] 32)) (Gives w (qE hs))):=by
  have h:=xZ G3.o [.slice a2 (qo hs).length k2,.slice a3 (yW (jf (qo hs))).length k3] [qo hs,yW (jf (qo hs))] (.cons ah.o (.cons R3.o .nil)) (by rw[join2,zW];have:=aa.o;unfold yW;simp;omega) (by simp)
  rw[show qe [qo hs,yW (jf (qo hs))]=qE hs from join2 _ _] at h
  exact h
 go_wp2_with fail
 refine HJ.o.mono ?_
 rintro e w4 ⟨a4,k4,rfl,h4,g4⟩
 clear HJ
 go_wp2
 go_ret
 exact⟨a4,k4,rfl,h4,g4⟩
def zpZ (m:R.Mt):List UInt8:=zI m.name++(if m.ask then 1 :: zI m.val else [0])
def zq0 (r:R.Rl):List UInt8:=if r.change then 1 :: zI r.to else [0]
def um (r:R.Rl):List UInt8:=qS r.number++(zI r.path++(zL zpZ r.ms++(zL K.tg r.tg++(zq0 r++(zL K.st r.sets++zL zI r.drops)))))
def uk (h:R.Hst):List UInt8:=zI h.name++zL um h.rules
def kj (hs:List R.Hst):List UInt8:=[83,89,49]++zL uk hs
def zb2 (hs:List R.Hst):List UInt8:=kj hs++yW (jf (kj hs))
theorem u9 {α β:Type}(g:α->β)(f:β->List UInt8)(h:α->List UInt8)(e:∀x,f (g x)=h x)(l:List α):zL f (l.map g)=zL h l:=by
 unfold zL
 rw[qw,List.map_map]
 congr 3
 funext x;exact e x
theorem znY (x:P.Rl):um (toRl x)=zt x:=by
 unfold um zt zq0 kk toRl rlOf
 simp only
 rw[u9 mtOf zpZ K.mt (fun m=>rfl)]
 by_cases h:x.rep=[] <;> simp[h]
theorem zmF (x:P.Hst):uk (toR x)=zx x:=by
 unfold uk zx toR
 simp only
 rw[u9 toRl um zt znY]
theorem zn5 (hs:List P.Hst):zb2 (hs.map toR)=qE hs:=by
 have e:kj (hs.map toR)=qo hs:=by
  unfold kj qo
  rw[u9 toR uk zx zmF]
 unfold zb2 qE
 rw[e]
def xG (l:List UInt8):List UInt8:=if (xm l).1=0 then zb2 (jH (R.readS l).1) else []
theorem zc7 {l:List UInt8}{aa:List P.Hst}(h:(qd l).1=0)(hs:SrtH (ze l).1 aa) :
  xG l=qE aa/\aa.length<=4/\(∀x∈aa,VPk x):=by
 obtain⟨h1,h2,h3⟩:=uo h
 obtain⟨hg,e⟩:=zcY l h1 h2 h3
 rw[e] at hg
 have e2:=zo1 hs hg
 obtain⟨a1,a2,a3⟩:=uu l h2 h3
 have hv:=uI hs a1 a2 a3
 refine⟨?_,hv.hl,fun x hx=>⟨(hv.hosts x hx).nl,(hv.hosts x hx).rl,(hv.hosts x hx).rules⟩⟩
 unfold xG
 rw[if_pos (by rw[<-yw];exact h),e,<-e2,zn5]
theorem fk (s:ByteArray)(w:World)(aw:s.size<=maxLen)(hG:Glob w) :
  Calls Tryz.prog 18 #[.string s] w fun e w'=>∃a k,e = .returned (.tuple #[.slice a (xG s.data.toList).length k,.int .i64 (xm s.data.toList).1,.int .i64 (xm s.data.toList).2])/\w'.ownsRow w.heap.size 5 1 (.slice a (xG s.data.toList).length k) (xG s.data.toList).length (Lib.byteCells (xG s.data.toList))/\w.grownBy w' none:=by
 have ah:Y (Calls Tryz.prog 41 #[.string s] w fun e w'=>∃va vn vc,e = .returned (.tuple #[.agg #[.slice va vn vc],.int .i64 (qd s.data.toList).1,.int .i64 (qd s.data.toList).2])/\w.grownBy w' none/\((qd s.data.toList).1=0->∃aa,PHostsRow w' 0 (.slice va vn vc) aa/\SrtH (ze s.data.toList).1 aa)):=by
  refine(zfQ s w aw hG (fun h1 h2 h3=>zg5 _ (by rw[R.size_eq];exact h1) h2 h3)).mono ?_
  rintro e w' ⟨v,rfl,h1,h2,va,vn,vc,rfl⟩
  exact⟨va,vn,vc,rfl,h1,h2⟩
 have ae:Y (∀aa,(qd s.data.toList).1=0->SrtH (ze s.data.toList).1 aa->xG s.data.toList=qE aa/\aa.length<=4/\(∀h∈aa,VPk h)):=fun aa h1 h2=>zc7 h1 h2
 have ad:Y ((qd s.data.toList).1≠0->xG s.data.toList=[]):=fun h=>by
  unfold xG;rw[if_neg (by rw[<-yw];exact h)]
 have ak:Y ((qd s.data.toList).1=0->(qd s.data.toList).2=0):=fP
 rw[<-yw]
 clear hG
 generalize xG s.data.toList=pt at*
 generalize qd s.data.toList=er at*
 generalize ze s.data.toList=rd at*
 obtain⟨ai,al⟩:=er
 simp only at ah ae ad ak ⊢
 go_enter Tryz.func18,Tryz.ntmps18
 go_wp2_with fail
 refine ah.o.mono ?_
 rintro e w1 ⟨va,vn,vc,rfl,am,an⟩
 have af:Y (w.grownBy w1 none):=am
 have ag:Y (((ai,al):Int×Int).1=0->∃aa,PHostsRow w1 0 (.slice va vn vc) aa/\SrtH rd.1 aa):=an
 have ab:Y (w1.grownBy (w1.alloc (.cells #[.slice va vn vc] 88)) none):=zJ _ _ none
 clear am an ah
 by_cases aj:ai=0
 ·subst aj
  have av:al=0:=ak.o rfl
  subst av
  obtain⟨aa,ao,ap⟩:=ag.o rfl
  obtain⟨q1,q2,q3⟩:=ae.o aa rfl ap
  have au:Y (Calls Tryz.prog 43 #[.agg #[.slice va vn vc]] (w1.alloc (.cells #[.slice va vn vc] 88)) (Gives w pt)):=by
   rw[q1]
   exact(zaK _ aa (PHostsRow.keep ao ab.o (zv _ _)) q2 q3).mono fun e w' ⟨a,k,k1,k2,k3⟩=>⟨a,k,k1,jm k2 (zA af.o ab.o).size,zA (zA af.o ab.o) k3⟩
  clear q1 q2 q3 ao ap ae ad ag
  go_wp2_with (go_at_call 43;refine au.o.mono ?_;rintro e w2 ⟨a2,k2,rfl,h2,g2⟩)
  go_ret3
  exact⟨a2,k2,rfl,h2,g2⟩
 ·have ar:Y (pt=[]):=ad.o aj
  have ax:(ai != 0)=true:=by rw[bne_iff_ne];exact aj
  have aq:=J (zA af.o ab.o)
  clear ae ad ag
  go_wp2
  go_ret3
  rw[ar.o]
  exact⟨none,0,rfl,xS _ _ _ _,aq.o⟩
structure BR (r:R.Rl):Prop where
 num:0<=r.number/\r.number<=65535
 path:r.path.length<=24
 ms:r.ms.length<=3/\∀m∈r.ms,m.name.length<=24/\m.val.length<=24
 tg:r.tg.length<=4/\∀t∈r.tg,t.1.length<=24/\0<=t.2/\t.2<=65535
 too:r.to.length<=24
 sets:r.sets.length<=3/\∀t∈r.sets,t.1.length<=24/\t.2.length<=24
 drops:r.drops.length<=3/\∀t∈r.drops,t.length<=24
theorem hid {p:Prop}(h:p):Y p:=h
structure Bt (w0 w:World) (a:Option Addr) (k:Nat) (l tot r:List UInt8) (N:Nat):Prop where
 own:w.ownsRow w0.heap.size 5 1 (.slice a l.length k) l.length (Lib.byteCells l)
 gr:w0.grownBy w none
 len:l.length<=N
 eq:tot=l++r
structure Rw (w0 w:World) (e:TypeId) (n:Nat) (a:Option Addr) (k m:Nat) (xs:List Value):Prop where
 own:w.ownsRow w0.heap.size e n (.slice a m k) m xs
 gr:w0.grownBy w none
theorem Rw.keep {w0 w w':World}{e:TypeId}{n:Nat}{a:Option Addr}{k m:Nat}{xs:List Value}(h:Rw w0 w e n a k m xs)(g:w.grownBy w' none):Rw w0 w' e n a k m xs:=
 ⟨zO h.own g (fun k hk c=>by cases c),zA h.gr g⟩
theorem xl {w w0:World}{ae:Array Oper}{rest:List Oper}{o:Oper}{ac:Act}{Q:Exit->Act->World->Prop}(af:o.guard=none)(s x:Operand)(t e:TypeId)
  (ho:o.op = .call { callee:=.builtin .append,args:=#[s,x],argTypes:=#[t,t] }) {z:Value} {n aa:Nat} (ht:(Tryz.prog).underlying t=some (.slice e)) (hi:((Tryz.prog).info? e).map (fun i=>(i.zero,i.size,i.bytes))=some (some z,n,aa))
  (ak:z.cells.size=n) (hn:0<n) (hb:aa<=1000) {a:Option Addr} {k m:Nat} {xs:List Value} (hs:ac.eval s = .slice a m k) (h:Rw w0 w e n a k m xs) (ad:Addr) (c:Nat) (ys:List Value) (hx:ac.eval x = .slice (some ad) 1 c)
  (hl:ys.length=n) (hc:∀j u,ys[j]?=some u->w.cell? (ad.add j)=some u) (h1:∀u∈ys,u.oneCell'=true) (hm:m<=100000000)
  (hK:∀a' k' w',Y (Rw w0 w' e n a' k' (m+1) (xs++ys))->wpList Tryz.prog ae Q rest (ac.put o.dst (.slice a' (m+1) k')) w'):wpList Tryz.prog ae Q (o :: rest) ac w:=by
 obtain⟨i0,hi,ah,ai,aj⟩:=info_parts hi
 refine wpList_append_own w af s x t ho w0.heap.size e i0 z n aa ht hi ah ai aj ak hn _ _ _ hs h.own ad 1 c ys hx (by rw[hl,Nat.one_mul]) hc h1 (by unfold maxLen;omega) (zp (Nat.mul_le_mul (show m+1<=100000001 by omega) hb) (by decide)) h.gr.size ?_
 intro v' w' ab ag _
 obtain⟨a',k',rfl⟩:=zP ab
 exact hK a' k' w' ⟨ab,x9 h.gr ag (fun k hk=>(qh h.own k hk).1)⟩
abbrev Hd:=List UInt8×List UInt8
def Rq.named (nm:List UInt8)(l:List Hd):List Hd:=l.filter fun h=>decide (h.1=nm)
def Rq.sel (nm:List UInt8)(l:List Hd)(i:Nat):List Hd:=Rq.named nm (l.take i)
theorem Rq.sel_yes (nm:List UInt8)(l:List Hd)(i:Nat)(h:i<l.length)(he:l[i].1=nm):Rq.sel nm l (i+1)=Rq.sel nm l i++[l[i]]:=by
 unfold Rq.sel Rq.named;rw[List.take_add_one,qN h,List.filter_append];simp[he]
theorem Rq.sel_no (nm:List UInt8)(l:List Hd)(i:Nat)(h:i<l.length)(he:l[i].1≠nm):Rq.sel nm l (i+1)=Rq.sel nm l i:=by
 unfold Rq.sel Rq.named;rw[List.take_add_one,qN h,List.filter_append];simp[he]
theorem Rq.sel_all (nm:List UInt8)(l:List Hd):Rq.sel nm l l.length=Rq.named nm l:=by unfold Rq.sel;rw[List.take_length]
theorem Rq.sel_le (nm:List UInt8)(l:List Hd)(i:Nat):(Rq.sel nm l i).length<=l.length:=by
 unfold Rq.sel Rq.named;exact zp (List.length_filter_le _ _) (by rw[List.length_take];omega)
theorem kD:(Tryz.prog.info? 346).map (fun i=>(i.zero,i.size,i.bytes))=some (some (.agg #[.string ⟨#[]⟩,.string ⟨#[]⟩]),2,32):=by kernel_rfl
theorem wl (a b:List UInt8):((R.str a).toList == (R.str b).toList)=decide (a=b):=by
 rw[ByteArray.toList_eq,ByteArray.toList_eq,R.str_toList,R.str_toList,Bool.eq_iff_iff];simp
theorem uH (nm:List UInt8)(l:List Hd){w:World}{B:Nat}{v:Value}(hr:w.ownsRow B 346 2 v l.length (zb l))(hn:l.length<=1000000) :
  Calls Tryz.prog 237 #[.string (R.str nm),v] w fun e w'=>∃a k,e = .returned (.slice a (Rq.named nm l).length k)/\Rw w w' 346 2 a k (Rq.named nm l).length (zb (Rq.named nm l)):=by
 obtain⟨va,vk,rfl⟩:=zP hr
 have HR:=hid hr
 have HZ:Y (Rw w w 346 2 none 0 (Rq.sel nm l 0).length (zb (Rq.sel nm l 0))):=⟨xS _ _ _ _,zM _ _⟩
 have HA:=hid (Rq.sel_all nm l)
 clear hr
 go_enter Tryz.func237,Tryz.ntmps237
 go_wp2_with fail
 go_loopw [5,10] (fun sv iv wr=>∃i:Nat,i<=l.length/\iv = .int .i64 i/\∃a k,sv = .slice a (Rq.sel nm l i).length k/\Y (Rw w wr 346 2 a k (Rq.sel nm l i).length (zb (Rq.sel nm l i)))) (fun _ iv _=>l.length - (intOf iv).toNat)
 case atStart=>exact⟨0,zl _,rfl,none,0,rfl,HZ⟩
 case round=>
  obtain⟨i,ag,rfl,a,k,rfl,HW⟩:=hrel
  clear HZ
  by_cases aa:i<l.length
  ·have af:(i:Int)<l.length:=by omega
   obtain⟨g,gc,e1,_,_⟩:=World.ownsRow.form HR.o (by omega)
   simp only[qc,true_and] at e1
   obtain⟨rfl,rfl⟩:=e1
   have d0:wr.cell? ⟨g,i*2,none⟩=some (.string (R.str l[i].1)):=qO (fun t:Hd=>[Value.string (R.str t.1),.string (R.str t.2)]) 2 (fun _=>rfl) HR.o HW.o.gr i 0 aa (by omega) rfl
   have d1:wr.cell? ⟨g,i*2+1,none⟩=some (.string (R.str l[i].2)):=qO (fun t:Hd=>[Value.string (R.str t.1),.string (R.str t.2)]) 2 (fun _=>rfl) HR.o HW.o.gr i 1 aa (by omega) rfl
   have HY:=hid (Rq.sel_yes nm l i aa)
   have HN:=hid (Rq.sel_no nm l i aa)
   have ah:=Rq.sel_le nm l i
   have ae:=wl l[i].1 nm
   generalize l[i]=x at*
   have HB:=hid (heap_alloc_new wr (.cells #[.string (R.str x.1),.string (R.str x.2)] 346))
   have ab:=hid (HW.o.keep (zJ wr (.cells #[.string (R.str x.1),.string (R.str x.2)] 346) none))
   have q0:(wr.alloc (.cells #[.string (R.str x.1),.string (R.str x.2)] 346)).cell? ⟨wr.heap.size,0,none⟩=some (.string (R.str x.1)):=z8 HB.o
   have q1:(wr.alloc (.cells #[.string (R.str x.1),.string (R.str x.2)] 346)).cell? ⟨wr.heap.size,1,none⟩=some (.string (R.str x.2)):=z8 HB.o
   go_upto_region 5 with fail
   generalize wr.alloc (.cells #[.string (R.str x.1),.string (R.str x.2)] 346)=wa at*
   clear d0 d1 HW HB
   by_cases he:x.1=nm
   ·rw[decide_eq_true he] at ae
    have HE:=hid he
    have HC:=hid (qI wa #[.string (R.str x.1),.string (R.str x.2)] 346 _ rfl)
    have ad:=hid (ab.o.keep (zJ wa (.cells #[.string (R.str x.1),.string (R.str x.2)] 346) none))
    clear he HN
    go_wp2_with (at_builtin;refine @xl _ _ _ _ _ _ _ rfl _ _ 101 346 rfl _ _ _ Tryz.underlying101 kD rfl (by decide) (by decide) _ _ _ _ rfl ad.o ⟨wa.heap.size,0,none⟩ _ [.string (R.str x.1),.string (R.str x.2)] rfl rfl HC.o (fun u hu=>by simp at hu;rcases hu with rfl | rfl <;> rfl) (by omega) ?_)
    intro a' k' w' hh
    clear HC ab ad q0 q1
    go_wp2_with fail
    go_roundw
    case rel=>exact⟨i+1,by omega,by go_num,a',k',by rw[HY.o HE.o,zW];rfl,by rw[HY.o HE.o,xN,zW];exact hh⟩
    case measure=>simp[intOf];omega
   ·rw[decide_eq_false he] at ae
    go_wp2_with fail
    go_roundw
    case rel=>exact⟨i+1,by omega,by go_num,a,k,by rw[HN.o he],by rw[HN.o he];exact ab⟩
    case measure=>simp[intOf];omega
  ·have hE:i=l.length:=by omega
   subst hE
   rw[HA.o] at HW ⊢
   go_wp2
   go_ret
   exact⟨a,k,rfl,HW.o⟩
def Rq.has (nm:List UInt8)(l:List Hd):Bool:=decide (0<(Rq.named nm l).length)
def Rq.value (nm:List UInt8)(l:List Hd):List UInt8:=((Rq.named nm l).head?.map (·.2)).getD []
theorem zcG (nm:List UInt8)(l:List Hd){w:World}{B:Nat}{v:Value}(hr:w.ownsRow B 346 2 v l.length (zb l))(hn:l.length<=1000000) :
  Calls Tryz.prog 234 #[.string (R.str nm),v] w fun e w'=>e = .returned (.bool (Rq.has nm l))/\w.grownBy w' none:=by
 obtain⟨va,vk,rfl⟩:=zP hr
 have HN:=hid (uH nm l hr hn)
 have hh:Rq.has nm l=decide (0<(Rq.named nm l).length):=rfl
 clear hr
 generalize Rq.named nm l=nl at*
 generalize Rq.has nm l=b at*
 go_enter Tryz.func234,Tryz.ntmps234
 go_wp2_with fail
 refine HN.o.mono ?_
 rintro e w1 ⟨a,k,rfl,h1⟩
 have G1:=hid h1.gr
 clear h1 HN
 go_wp2
 go_ret
 refine⟨za ?_,G1.o⟩
 rw[hh]
theorem fp (nm:List UInt8)(l:List Hd){w:World}{B:Nat}{v:Value}(hr:w.ownsRow B 346 2 v l.length (zb l))(hn:l.length<=1000000) :
  Calls Tryz.prog 178 #[.string (R.str nm),v] w fun e w'=>e = .returned (.string (R.str (Rq.value nm l)))/\w.grownBy w' none:=by
 obtain⟨va,vk,rfl⟩:=zP hr
 have HN:=hid (uH nm l hr hn)
 have HV:Y (Rq.value nm l=((Rq.named nm l).head?.map (·.2)).getD []):=rfl
 clear hr
 generalize Rq.named nm l=nl at*
 generalize Rq.value nm l=b at*
 go_enter Tryz.func178,Tryz.ntmps178
 go_wp2_with fail
 refine HN.o.mono ?_
 rintro e w1 ⟨a,k,rfl,h1⟩
 have G1:=hid h1.gr
 have HO:=hid h1.own
 clear h1 HN
 cases nl with
 | nil=>
  go_wp2
  go_ret
  exact⟨by rw[HV.o];rfl,G1.o⟩
 | cons x r=>
  obtain⟨g,gc,e1,_,_⟩:=World.ownsRow.form HO.o (by simp)
  simp only[qc,true_and] at e1
  obtain⟨rfl,rfl⟩:=e1
  have d1:w1.cell? ⟨g,1,none⟩=some (.string (R.str x.2)):=by
   have h:=qO (fun t:Hd=>[Value.string (R.str t.1),.string (R.str t.2)]) 2 (fun _=>rfl) HO.o (zM _ _) 0 1 (by simp) (by omega) rfl
   simpa using h
  have hb:b=x.2:=by rw[HV.o];rfl
  subst hb
  have aa:((r.length:Int)+1=0)=False:=by simp;omega
  clear HO HV
  go_wp2
  go_ret
  exact⟨rfl,G1.o⟩
def Rq.tgI (c:Int):Bool:=decide (33<=c) && decide (c<=126)
def Rq.vlI (c:Int):Bool:=decide (32<=c) && decide (c<=126)
def Rq.lgI (c:Int):Bool:=decide (65<=c) && decide (c<=90)
theorem zfX (c:Int)(w:World):Calls Tryz.prog 353 #[.int .u8 c] w fun e w'=>e = .returned (.bool (Rq.tgI c))/\w'=w:=by
 go_enter Tryz.func353,Tryz.ntmps353
 by_cases h:33<=c
 ·go_wp2
  go_ret
  exact⟨za (by unfold Rq.tgI;rw[decide_eq_true h];simp),rfl⟩
 ·have h2:¬33<=c:=h
  go_wp2
  go_ret
  exact⟨za (by unfold Rq.tgI;rw[decide_eq_false (by omega)];simp),rfl⟩
theorem zfY (c:Int)(w:World):Calls Tryz.prog 355 #[.int .u8 c] w fun e w'=>e = .returned (.bool (Rq.vlI c))/\w'=w:=by
 go_enter Tryz.func355,Tryz.ntmps355
 by_cases h:32<=c
 ·go_wp2
  go_ret
  exact⟨za (by unfold Rq.vlI;rw[decide_eq_true h];simp),rfl⟩
 ·have h2:¬32<=c:=h
  go_wp2
  go_ret
  exact⟨za (by unfold Rq.vlI;rw[decide_eq_false (by omega)];simp),rfl⟩
theorem zfW (c:Int)(w:World):Calls Tryz.prog 309 #[.int .u8 c] w fun e w'=>e = .returned (.bool (Rq.lgI c))/\w'=w:=by
 go_enter Tryz.func309,Tryz.ntmps309
 by_cases h:65<=c
 ·go_wp2
  go_ret
  exact⟨za (by unfold Rq.lgI;rw[decide_eq_true h];simp),rfl⟩
 ·have h2:¬65<=c:=h
  go_wp2
  go_ret
  exact⟨za (by unfold Rq.lgI;rw[decide_eq_false (by omega)];simp),rfl⟩
theorem zfF (s:ByteArray)(w:World)(hs:s.size<=maxLen) :
  Calls Tryz.prog 202 #[.string s,.func (.func 353) #[] #[]] w fun e w'=>e = .returned (.int .i64 (R.span Rq.tgI s.data.toList:Nat))/\w'=w:=by
 unfold maxLen at hs
 go_enter Tryz.func202,Tryz.ntmps202
 go_wp2_with fail
 go_loop [8] (fun v=>∃k:Nat,k<=s.size/\v = .int .i64 k/\Y (R.span Rq.tgI s.data.toList=k+R.span Rq.tgI (s.data.toList.drop k))) (fun v=>s.size - (intOf v).toNat)
 case atStart=>exact⟨0,zl _,rfl,by show _=_;simp⟩
 case round=>
  obtain⟨k,hk,rfl,HL⟩:=hrel
  by_cases ab:k<s.size
  ·cases hp:Rq.tgI s[k].toNat
   ·have H2:Y (R.span Rq.tgI s.data.toList=k):=by
     have:=HL.o;rw[R.span_stop ab hp] at this;exact this
    clear HL
    go_wp2_with fail
    refine(zfX _ _).mono ?_
    rintro e wX ⟨rfl,aa⟩
    rw[aa,hp]
    clear aa wX
    go_wp2
    go_ret
    exact⟨by rw[H2.o];rfl,rfl⟩
   ·have H2:Y (R.span Rq.tgI s.data.toList=(k+1)+R.span Rq.tgI (s.data.toList.drop (k+1))):=by
     have:=HL.o;rw[R.span_step ab hp] at this;show _=_;omega
    clear HL
    go_wp2_with fail
    refine(zfX _ _).mono ?_
    rintro e wX ⟨rfl,aa⟩
    rw[aa,hp]
    clear aa wX
    go_wp2
    exact⟨⟨k+1,by omega,by go_num,H2⟩,by simp[intOf];omega⟩
  ·have H2:Y (R.span Rq.tgI s.data.toList=s.size):=by
    have:=HL.o;rw[R.span_end (k:=k) (by omega)] at this;show _=_;omega
   clear HL
   go_wp2
   go_ret
   exact⟨by rw[H2.o];rfl,rfl⟩
theorem zf8 (s:ByteArray)(w:World)(hs:s.size<=maxLen) :
  Calls Tryz.prog 352 #[.string s,.func (.func 353) #[] #[]] w fun e w'=>e = .returned (.bool (R.allB Rq.tgI s.data.toList))/\w'=w:=by
 have HA:Y (R.allB Rq.tgI s.data.toList=((R.span Rq.tgI s.data.toList:Int) == s.size)):=by
  show R.allB Rq.tgI s.data.toList=_
  rw[<-R.size_eq,Bool.eq_iff_iff]
  simp only[beq_iff_eq]
  rw[Int.ofNat_inj]
  exact yX Rq.tgI s.data.toList
 go_enter Tryz.func352,Tryz.ntmps352
 go_wp2_with fail
 refine(zfF s _ hs).mono ?_
 rintro e wX ⟨rfl,aa⟩
 rw[aa]
 clear aa wX
 go_wp2
 go_ret
 exact⟨za (by rw[HA.o]),rfl⟩
theorem zfG (s:ByteArray)(w:World)(hs:s.size<=maxLen) :
  Calls Tryz.prog 202 #[.string s,.func (.func 355) #[] #[]] w fun e w'=>e = .returned (.int .i64 (R.span Rq.vlI s.data.toList:Nat))/\w'=w:=by
 unfold maxLen at hs
 go_enter Tryz.func202,Tryz.ntmps202
 go_wp2_with fail
 go_loop [8] (fun v=>∃k:Nat,k<=s.size/\v = .int .i64 k/\Y (R.span Rq.vlI s.data.toList=k+R.span Rq.vlI (s.data.toList.drop k))) (fun v=>s.size - (intOf v).toNat)
 case atStart=>exact⟨0,zl _,rfl,by show _=_;simp⟩
 case round=>
  obtain⟨k,hk,rfl,HL⟩:=hrel
  by_cases ab:k<s.size
  ·cases hp:Rq.vlI s[k].toNat
   ·have H2:Y (R.span Rq.vlI s.data.toList=k):=by
     have:=HL.o;rw[R.span_stop ab hp] at this;exact this
    clear HL
    go_wp2_with fail
    refine(zfY _ _).mono ?_
    rintro e wX ⟨rfl,aa⟩
    rw[aa,hp]
    clear aa wX
    go_wp2
    go_ret
    exact⟨by rw[H2.o];rfl,rfl⟩
   ·have H2:Y (R.span Rq.vlI s.data.toList=(k+1)+R.span Rq.vlI (s.data.toList.drop (k+1))):=by
     have:=HL.o;rw[R.span_step ab hp] at this;show _=_;omega
    clear HL
    go_wp2_with fail
    refine(zfY _ _).mono ?_
    rintro e wX ⟨rfl,aa⟩
    rw[aa,hp]
    clear aa wX
    go_wp2
    exact⟨⟨k+1,by omega,by go_num,H2⟩,by simp[intOf];omega⟩
  ·have H2:Y (R.span Rq.vlI s.data.toList=s.size):=by
    have:=HL.o;rw[R.span_end (k:=k) (by omega)] at this;show _=_;omega
   clear HL
   go_wp2
   go_ret
   exact⟨by rw[H2.o];rfl,rfl⟩
theorem zf9 (s:ByteArray)(w:World)(hs:s.size<=maxLen) :
  Calls Tryz.prog 352 #[.string s,.func (.func 355) #[] #[]] w fun e w'=>e = .returned (.bool (R.allB Rq.vlI s.data.toList))/\w'=w:=by
 have HA:Y (R.allB Rq.vlI s.data.toList=((R.span Rq.vlI s.data.toList:Int) == s.size)):=by
  show R.allB Rq.vlI s.data.toList=_
  rw[<-R.size_eq,Bool.eq_iff_iff]
  simp only[beq_iff_eq]
  rw[Int.ofNat_inj]
  exact yX Rq.vlI s.data.toList
 go_enter Tryz.func352,Tryz.ntmps352
 go_wp2_with fail
 refine(zfG s _ hs).mono ?_
 rintro e wX ⟨rfl,aa⟩
 rw[aa]
 clear aa wX
 go_wp2
 go_ret
 exact⟨za (by rw[HA.o]),rfl⟩
theorem zfE (s:ByteArray)(w:World)(hs:s.size<=maxLen) :
  Calls Tryz.prog 202 #[.string s,.func (.func 309) #[] #[]] w fun e w'=>e = .returned (.int .i64 (R.span Rq.lgI s.data.toList:Nat))/\w'=w:=by
 unfold maxLen at hs
 go_enter Tryz.func202,Tryz.ntmps202
 go_wp2_with fail
 go_loop [8] (fun v=>∃k:Nat,k<=s.size/\v = .int .i64 k/\Y (R.span Rq.lgI s.data.toList=k+R.span Rq.lgI (s.data.toList.drop k))) (fun v=>s.size - (intOf v).toNat)
 case atStart=>exact⟨0,zl _,rfl,by show _=_;simp⟩
 case round=>
  obtain⟨k,hk,rfl,HL⟩:=hrel
  by_cases ab:k<s.size
  ·cases hp:Rq.lgI s[k].toNat
   ·have H2:Y (R.span Rq.lgI s.data.toList=k):=by
     have:=HL.o;rw[R.span_stop ab hp] at this;exact this
    clear HL
    go_wp2_with fail
    refine(zfW _ _).mono ?_
    rintro e wX ⟨rfl,aa⟩
    rw[aa,hp]
    clear aa wX
    go_wp2
    go_ret
    exact⟨by rw[H2.o];rfl,rfl⟩
   ·have H2:Y (R.span Rq.lgI s.data.toList=(k+1)+R.span Rq.lgI (s.data.toList.drop (k+1))):=by
     have:=HL.o;rw[R.span_step ab hp] at this;show _=_;omega
    clear HL
    go_wp2_with fail
    refine(zfW _ _).mono ?_
    rintro e wX ⟨rfl,aa⟩
    rw[aa,hp]
    clear aa wX
    go_wp2
    exact⟨⟨k+1,by omega,by go_num,H2⟩,by simp[intOf];omega⟩
  ·have H2:Y (R.span Rq.lgI s.data.toList=s.size):=by
    have:=HL.o;rw[R.span_end (k:=k) (by omega)] at this;show _=_;omega
   clear HL
   go_wp2
   go_ret
   exact⟨by rw[H2.o];rfl,rfl⟩
theorem zf7 (s:ByteArray)(w:World)(hs:s.size<=maxLen) :
  Calls Tryz.prog 352 #[.string s,.func (.func 309) #[] #[]] w fun e w'=>e = .returned (.bool (R.allB Rq.lgI s.data.toList))/\w'=w:=by
 have HA:Y (R.allB Rq.lgI s.data.toList=((R.span Rq.lgI s.data.toList:Int) == s.size)):=by
  show R.allB Rq.lgI s.data.toList=_
  rw[<-R.size_eq,Bool.eq_iff_iff]
  simp only[beq_iff_eq]
  rw[Int.ofNat_inj]
  exact yX Rq.lgI s.data.toList
 go_enter Tryz.func352,Tryz.ntmps352
 go_wp2_with fail
 refine(zfE s _ hs).mono ?_
 rintro e wX ⟨rfl,aa⟩
 rw[aa]
 clear aa wX
 go_wp2
 go_ret
 exact⟨za (by rw[HA.o]),rfl⟩
theorem zc9 (l:List UInt8)(w:World)(hs:l.length<=1000000):Calls Tryz.prog 352 #[.string (R.str l),.func (.func 353) #[] #[]] w fun e w'=>e = .returned (.bool (R.allB Rq.tgI l))/\w'=w:=by
 have h:=zf8 (R.str l) w (by have:(R.str l).size=l.length:=R.str_size l;unfold maxLen;omega)
 rw[R.str_toList] at h;exact h
theorem zcA (l:List UInt8)(w:World)(hs:l.length<=1000000):Calls Tryz.prog 352 #[.string (R.str l),.func (.func 355) #[] #[]] w fun e w'=>e = .returned (.bool (R.allB Rq.vlI l))/\w'=w:=by
 have h:=zf9 (R.str l) w (by have:(R.str l).size=l.length:=R.str_size l;unfold maxLen;omega)
 rw[R.str_toList] at h;exact h
theorem zc8 (l:List UInt8)(w:World)(hs:l.length<=1000000):Calls Tryz.prog 352 #[.string (R.str l),.func (.func 309) #[] #[]] w fun e w'=>e = .returned (.bool (R.allB Rq.lgI l))/\w'=w:=by
 have h:=zf7 (R.str l) w (by have:(R.str l).size=l.length:=R.str_size l;unfold maxLen;omega)
 rw[R.str_toList] at h;exact h
theorem fg (l:List UInt8)(w:World)(hs:l.length<=1000000):Calls Tryz.prog 352 #[.string (R.str l),.func (.func 261) #[] #[]] w fun e w'=>e = .returned (.bool (R.allB R.digitI l))/\w'=w:=by
 have h:=tN (R.str l) w (by have:(R.str l).size=l.length:=R.str_size l;unfold maxLen;omega)
 rw[R.str_toList] at h;exact h
def Rq.isMethod (l:List UInt8):Bool:=decide (l≠[]) && (decide (l.length<=8) && R.allB Rq.lgI l)
def Rq.isTarget (l:List UInt8):Bool:=Lib.hasPrefix l [47] && R.allB Rq.tgI l
def Rq.isNumber (l:List UInt8):Bool:=decide (l≠[]) && (decide (l.length<=5) && R.allB R.digitI l)
theorem jJ (l:List UInt8):((R.str l).toList == [])=decide (l=[]):=by
 rw[ByteArray.toList_eq,R.str_toList];cases l <;> rfl
theorem zcM (l:List UInt8)(w:World)(hs:l.length<=1000000) :
  Calls Tryz.prog 302 #[.string (R.str l)] w fun e w'=>e = .returned (.bool (Rq.isMethod l))/\w'=w:=by
 have hz:(R.str l).size=l.length:=R.str_size l
 have he:=jJ l
 have HM:Y (Rq.isMethod l=(decide (l≠[]) && (decide (l.length<=8) && R.allB Rq.lgI l))):=rfl
 have HA:=hid (zc8 l w hs)
 generalize R.allB Rq.lgI l=b at*
 by_cases h0:l=[]
 ·rw[decide_eq_true h0] at he
  have aa:Y (Rq.isMethod l=false):=by show _=_;rw[HM.o,decide_eq_false (by simpa using h0)];rfl
  clear h0 HM HA
  go_enter Tryz.func302,Tryz.ntmps302
  go_wp2
  go_ret
  exact⟨za (by rw[aa.o]),rfl⟩
 ·rw[decide_eq_false h0] at he
  by_cases h8:l.length<=8
  ·have hI:(l.length:Int)<=8:=by omega
   have aa:Y (Rq.isMethod l=b):=by show _=_;rw[HM.o,decide_eq_true h0,decide_eq_true h8];rfl
   clear h0 HM
   go_enter Tryz.func302,Tryz.ntmps302
   go_wp2_with fail
   refine HA.o.mono ?_
   rintro e wX ⟨rfl,ab⟩
   rw[ab]
   clear ab wX HA
   go_wp2
   go_ret
   exact⟨za (by rw[aa.o]),rfl⟩
  ·have hI:¬(l.length:Int)<=8:=by omega
   have aa:Y (Rq.isMethod l=false):=by show _=_;rw[HM.o,decide_eq_false h8];simp
   clear h0 HM HA
   go_enter Tryz.func302,Tryz.ntmps302
   go_wp2
   go_ret
   exact⟨za (by rw[aa.o]),rfl⟩
theorem wH (l:List UInt8)(w:World)(hs:l.length<=1000000) :
  Calls Tryz.prog 401 #[.string (R.str l)] w fun e w'=>e = .returned (.bool (Rq.isNumber l))/\w'=w:=by
 have hz:(R.str l).size=l.length:=R.str_size l
 have he:=jJ l
 have HM:Y (Rq.isNumber l=(decide (l≠[]) && (decide (l.length<=5) && R.allB R.digitI l))):=rfl
 have HA:=hid (fg l w hs)
 generalize R.allB R.digitI l=b at*
 by_cases h0:l=[]
 ·rw[decide_eq_true h0] at he
  have aa:Y (Rq.isNumber l=false):=by show _=_;rw[HM.o,decide_eq_false (by simpa using h0)];rfl
  clear h0 HM HA
  go_enter Tryz.func401,Tryz.ntmps401
  go_wp2
  go_ret
  exact⟨za (by rw[aa.o]),rfl⟩
 ·rw[decide_eq_false h0] at he
  by_cases h8:l.length<=5
  ·have hI:(l.length:Int)<=5:=by omega
   have aa:Y (Rq.isNumber l=b):=by show _=_;rw[HM.o,decide_eq_true h0,decide_eq_true h8];rfl
   clear h0 HM
   go_enter Tryz.func401,Tryz.ntmps401
   go_wp2_with fail
   refine HA.o.mono ?_
   rintro e wX ⟨rfl,ab⟩
   rw[ab]
   clear ab wX HA
   go_wp2
   go_ret
   exact⟨za (by rw[aa.o]),rfl⟩
  ·have hI:¬(l.length:Int)<=5:=by omega
   have aa:Y (Rq.isNumber l=false):=by show _=_;rw[HM.o,decide_eq_false h8];simp
   clear h0 HM HA
   go_enter Tryz.func401,Tryz.ntmps401
   go_wp2
   go_ret
   exact⟨za (by rw[aa.o]),rfl⟩
theorem zcN (l:List UInt8)(w:World)(hs:l.length<=1000000) :
  Calls Tryz.prog 303 #[.string (R.str l)] w fun e w'=>e = .returned (.bool (Rq.isTarget l))/\w'=w:=by
 have HM:Y (Rq.isTarget l=(Lib.hasPrefix l [47] && R.allB Rq.tgI l)):=rfl
 have HA:=hid (zc9 l w hs)
 have HP:Y (Calls Tryz.prog 216 #[.string (R.str l),.string ⟨#[47]⟩] w fun e w'=>e = .returned (.bool (Lib.hasPrefix l [47]))/\w'=w):=by
  have h:=Tryz.strings_HasPrefix (R.str l) ⟨#[47]⟩ w
  rw[R.str_toList] at h;exact h
 generalize R.allB Rq.tgI l=b at*
 generalize Lib.hasPrefix l [47]=c at*
 cases c
 all_goals
  go_enter Tryz.func303,Tryz.ntmps303
  go_wp2_with fail
  refine HP.o.mono ?_
  rintro e wX ⟨rfl,aa⟩
  rw[aa]
  clear aa wX HP
 ·go_wp2
  go_ret
  exact⟨za (by rw[HM.o];rfl),rfl⟩
 ·go_wp2_with fail
  refine HA.o.mono ?_
  rintro e wX ⟨rfl,aa⟩
  rw[aa]
  clear aa wX HA
  go_wp2
  go_ret
  exact⟨za (by rw[HM.o];rfl),rfl⟩
end Go.Proofs.YtfocdefchbnkpaaGreatDoor
namespace Go.Proofs
open Go.Shelf Go.RowKit Go.Lib
def Tryz.lays207_ren : Go.Shelf.Ren := ⟨fun | 207 => 350 | n => n, fun | 9 => 9 | 4 => 4 | 3 => 3 | n => n, fun | n => n⟩
theorem Tryz.lays207 : Go.Proofs.Lays.n207 Tryz.prog Tryz.lays207_ren := {
  mixed := by kernel_rfl
  f207 := Tryz.func350.trans (congrArg some (by kernel_rfl))
  t3 := Tryz.underlying3
  a3 := Tryz.isAgg3
  z3 := Tryz.sizeOf3
  v3 := Tryz.zeroValue3
  t4 := Tryz.underlying4
  a4 := Tryz.isAgg4
  z4 := Tryz.sizeOf4
  v4 := Tryz.zeroValue4
  t9 := Tryz.underlying9
  a9 := Tryz.isAgg9
  z9 := Tryz.sizeOf9
  v9 := Tryz.zeroValue9 }
theorem Tryz.stringslite_HasSuffix (s p : ByteArray) (w : World) (hs : s.size ≤ 9223372036854775807) :
    Calls Tryz.prog 350 #[.string s, .string p] w fun e w' => e = .returned (.bool (Lib.hasSuffix s.data.toList p.data.toList)) ∧ w' = w := Any.stringslite_HasSuffix Tryz.lays207 s p w hs
end Go.Proofs
