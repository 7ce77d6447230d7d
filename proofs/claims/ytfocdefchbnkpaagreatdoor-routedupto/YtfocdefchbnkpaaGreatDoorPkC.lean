/- Packing, as the program does it: a header that is asked for, a target, a header that is set. -/
import Derived.Test.YtfocdefchbnkpaaGreatDoorAli
import Derived.Test.YtfocdefchbnkpaaGreatDoorProZ7
import Derived.Deep.RegionHeld3
set_option maxRecDepth 100000
set_option maxHeartbeats 20000000
namespace Go.Proofs.YtfocdefchbnkpaaGreatDoor
open Go.RowKit
theorem zfZ (n:Int)(w:World)(h:0<=n):Calls Tryz.prog 111 #[.int .i64 n] w (Gives w (qS n)):=by
 obtain⟨k,rfl⟩:=Int.eq_ofNat_of_zero_le h
 exact zcU k w
theorem xa (l:List UInt8):(zI l).length=l.length+1:=by unfold zI;simp
theorem uv (n:Int):(qS n).length=2:=rfl
theorem zf2 (b:Bool)(l:List UInt8):(x8 b l).length<=l.length+2:=by unfold x8;split <;> simp[xa]
theorem join2 (a b:List UInt8):qe [a,b]=a++b:=by unfold qe;simp
theorem znK (t:List UInt8×List UInt8)(w:World)(h1:t.1.length<=255)(h2:t.2.length<=255):Calls Tryz.prog 168 #[.agg #[.string (R.str t.1),.string (R.str t.2)]] w (Gives w (K.st t)):=by
 have aa:Y ((w.alloc (.cells #[.string (R.str t.1),.string (R.str t.2)] 280)).heap[w.heap.size]?=some (.cells #[.string (R.str t.1),.string (R.str t.2)] 280)):=heap_alloc_new _ _
 have c0:=zqW aa.o
 have c1:=zqX aa.o
 have ab:Y (w.grownBy (w.alloc (.cells #[.string (R.str t.1),.string (R.str t.2)] 280)) none):=zJ _ _ _
 have ak:=zE aa.o
 have C1:Y (∀W,(w.alloc (.cells #[.string (R.str t.1),.string (R.str t.2)] 280)).grownBy W none->Calls Tryz.prog 108 #[.string (R.str t.1)] W fun e w'=>∃a k,e = .returned (.slice a (zI t.1).length k)/\Rd w' (.slice a (zI t.1).length k) (zI t.1)/\W.grownBy w' none/\(w.alloc (.cells #[.string (R.str t.1),.string (R.str t.2)] 280)).grownBy w' none/\w'.cell? ⟨w.heap.size,0,none⟩=some (.string (R.str t.1))/\w'.cell? ⟨w.heap.size,1,none⟩=some (.string (R.str t.2))):=fun W hW=>(yy t.1 W h1).mono fun e w' ⟨a,k,h1,h2,h3⟩=>⟨a,k,h1,Rd.of_row h2,h3,zA hW h3,z8 (zB aa.o (zA hW h3) (by simp)),z8 (zB aa.o (zA hW h3) (by simp))⟩
 have C2:Y (∀W,(w.alloc (.cells #[.string (R.str t.1),.string (R.str t.2)] 280)).grownBy W none->Calls Tryz.prog 108 #[.string (R.str t.2)] W fun e w'=>∃a k,e = .returned (.slice a (zI t.2).length k)/\Rd w' (.slice a (zI t.2).length k) (zI t.2)/\W.grownBy w' none/\(w.alloc (.cells #[.string (R.str t.1),.string (R.str t.2)] 280)).grownBy w' none/\w'.cell? ⟨w.heap.size,0,none⟩=some (.string (R.str t.1))/\w'.cell? ⟨w.heap.size,1,none⟩=some (.string (R.str t.2))):=fun W hW=>(yy t.2 W h2).mono fun e w' ⟨a,k,h1,h2,h3⟩=>⟨a,k,h1,Rd.of_row h2,h3,zA hW h3,z8 (zB aa.o (zA hW h3) (by simp)),z8 (zB aa.o (zA hW h3) (by simp))⟩
 have HJ:Y (∀W a1 k1 a2 k2,(w.alloc (.cells #[.string (R.str t.1),.string (R.str t.2)] 280)).grownBy W none->Rd W (.slice a1 (zI t.1).length k1) (zI t.1)->Rd W (.slice a2 (zI t.2).length k2) (zI t.2)->Calls Tryz.prog 70 #[.slice (some ⟨W.heap.size,0,none⟩) 2 2] (W.alloc (.cells #[.slice a1 (zI t.1).length k1,.slice a2 (zI t.2).length k2] 32)) fun e w'=>Gives w (K.st t) e w'/\w'.cell? ⟨w.heap.size,0,none⟩=some (.string (R.str t.1))/\w'.cell? ⟨w.heap.size,1,none⟩=some (.string (R.str t.2))):=fun W a1 k1 a2 k2 hW r1 r2=>by
  have h:=xZ hW [.slice a1 (zI t.1).length k1,.slice a2 (zI t.2).length k2] [zI t.1,zI t.2] (.cons r1 (.cons r2 .nil)) (by rw[join2,zW,xa,xa];omega) (by simp)
  rw[show qe [zI t.1,zI t.2]=K.st t from join2 _ _] at h
  refine Calls.mono h fun e w' ⟨a,k,h1,h2,h3⟩=>⟨⟨a,k,h1,jm h2 ab.o.size,zA ab.o h3⟩,z8 (zB aa.o h3 (by simp)),z8 (zB aa.o h3 (by simp))⟩
 clear aa ab
 go_enter Tryz.func168,Tryz.ntmps168
 go_wp2_with fail
 generalize(w.alloc (.cells #[.string (R.str t.1),.string (R.str t.2)] 280))=wa at*
 go_region_held3 (fun W=>W.cell? ⟨w.heap.size,0,none⟩=some (.string (R.str t.1))/\W.cell? ⟨w.heap.size,1,none⟩=some (.string (R.str t.2))) (go_keep) (first
  | (go_at_call 108;show Calls _ _ _ (World.drew wa) _;refine(C1.o _ (zQ wa)).mono ?_;rintro e w1 ⟨a1,k1,rfl,r1,g1,G1,ag,ah⟩;have ad:Y (Rd w1 (.slice a1 (zI t.1).length k1) (zI t.1)):=r1;have G1:Y (wa.grownBy w1 none):=G1;clear r1 g1)
  | (go_at_call 108;refine(C2.o _ G1.o).mono ?_;rintro e w2 ⟨a2,k2,rfl,r2,g2,G2,ai,aj⟩;have af:Y (Rd w2 (.slice a2 (zI t.2).length k2) (zI t.2)):=r2;have ae:Y (Rd w2 (.slice a1 (zI t.1).length k1) (zI t.1)):=ad.o.keep g2;have G2:Y (wa.grownBy w2 none):=G2;clear r2 g2 ad G1)
  | (go_at_call 70;refine(HJ.o _ a1 k1 a2 k2 G2.o ae.o af.o).mono ?_;rintro e wZ ⟨⟨aZ,kZ,rfl,hZ,gZ⟩,z0,z1⟩;have HZ:Y (wZ.ownsRow w.heap.size 5 1 (.slice aZ (K.st t).length kZ) (K.st t).length (Lib.byteCells (K.st t))):=hZ;have GZ:Y (w.grownBy wZ none):=gZ;clear hZ gZ))
 all_goals
  go_wp2
  go_ret
  exact⟨aZ,kZ,rfl,HZ.o,GZ.o⟩
theorem zfP (t:List UInt8×Int)(w:World)(h1:t.1.length<=255)(h2:0<=t.2):Calls Tryz.prog 165 #[.agg #[.string (R.str t.1),.int .i64 t.2]] w (Gives w (K.tg t)):=by
 have aa:Y ((w.alloc (.cells #[.string (R.str t.1),.int .i64 t.2] 285)).heap[w.heap.size]?=some (.cells #[.string (R.str t.1),.int .i64 t.2] 285)):=heap_alloc_new _ _
 have c0:=zqW aa.o
 have c1:=zqX aa.o
 have ab:Y (w.grownBy (w.alloc (.cells #[.string (R.str t.1),.int .i64 t.2] 285)) none):=zJ _ _ _
 have ak:=zE aa.o
 have C1:Y (∀W,(w.alloc (.cells #[.string (R.str t.1),.int .i64 t.2] 285)).grownBy W none->Calls Tryz.prog 108 #[.string (R.str t.1)] W fun e w'=>∃a k,e = .returned (.slice a (zI t.1).length k)/\Rd w' (.slice a (zI t.1).length k) (zI t.1)/\W.grownBy w' none/\(w.alloc (.cells #[.string (R.str t.1),.int .i64 t.2] 285)).grownBy w' none/\w'.cell? ⟨w.heap.size,0,none⟩=some (.string (R.str t.1))/\w'.cell? ⟨w.heap.size,1,none⟩=some (.int .i64 t.2)):=fun W hW=>(yy t.1 W h1).mono fun e w' ⟨a,k,h1,h2,h3⟩=>⟨a,k,h1,Rd.of_row h2,h3,zA hW h3,z8 (zB aa.o (zA hW h3) (by simp)),z8 (zB aa.o (zA hW h3) (by simp))⟩
 have C2:Y (∀W,(w.alloc (.cells #[.string (R.str t.1),.int .i64 t.2] 285)).grownBy W none->Calls Tryz.prog 111 #[.int .i64 t.2] W fun e w'=>∃a k,e = .returned (.slice a (qS t.2).length k)/\Rd w' (.slice a (qS t.2).length k) (qS t.2)/\W.grownBy w' none/\(w.alloc (.cells #[.string (R.str t.1),.int .i64 t.2] 285)).grownBy w' none/\w'.cell? ⟨w.heap.size,0,none⟩=some (.string (R.str t.1))/\w'.cell? ⟨w.heap.size,1,none⟩=some (.int .i64 t.2)):=fun W hW=>(zfZ t.2 W h2).mono fun e w' ⟨a,k,h1,h2,h3⟩=>⟨a,k,h1,Rd.of_row h2,h3,zA hW h3,z8 (zB aa.o (zA hW h3) (by simp)),z8 (zB aa.o (zA hW h3) (by simp))⟩
 have HJ:Y (∀W a1 k1 a2 k2,(w.alloc (.cells #[.string (R.str t.1),.int .i64 t.2] 285)).grownBy W none->Rd W (.slice a1 (zI t.1).length k1) (zI t.1)->Rd W (.slice a2 (qS t.2).length k2) (qS t.2)->Calls Tryz.prog 70 #[.slice (some ⟨W.heap.size,0,none⟩) 2 2] (W.alloc (.cells #[.slice a1 (zI t.1).length k1,.slice a2 (qS t.2).length k2] 32)) fun e w'=>Gives w (K.tg t) e w'/\w'.cell? ⟨w.heap.size,0,none⟩=some (.string (R.str t.1))/\w'.cell? ⟨w.heap.size,1,none⟩=some (.int .i64 t.2)):=fun W a1 k1 a2 k2 hW r1 r2=>by
  have h:=xZ hW [.slice a1 (zI t.1).length k1,.slice a2 (qS t.2).length k2] [zI t.1,qS t.2] (.cons r1 (.cons r2 .nil)) (by rw[join2,zW,xa,uv];omega) (by simp)
  rw[show qe [zI t.1,qS t.2]=K.tg t from join2 _ _] at h
  refine Calls.mono h fun e w' ⟨a,k,h1,h2,h3⟩=>⟨⟨a,k,h1,jm h2 ab.o.size,zA ab.o h3⟩,z8 (zB aa.o h3 (by simp)),z8 (zB aa.o h3 (by simp))⟩
 clear aa ab
 go_enter Tryz.func165,Tryz.ntmps165
 go_wp2_with fail
 generalize(w.alloc (.cells #[.string (R.str t.1),.int .i64 t.2] 285))=wa at*
 go_region_held3 (fun W=>W.cell? ⟨w.heap.size,0,none⟩=some (.string (R.str t.1))/\W.cell? ⟨w.heap.size,1,none⟩=some (.int .i64 t.2)) (go_keep) (first
  | (go_at_call 108;show Calls _ _ _ (World.drew wa) _;refine(C1.o _ (zQ wa)).mono ?_;rintro e w1 ⟨a1,k1,rfl,r1,g1,G1,ag,ah⟩;have ad:Y (Rd w1 (.slice a1 (zI t.1).length k1) (zI t.1)):=r1;have G1:Y (wa.grownBy w1 none):=G1;clear r1 g1)
  | (go_at_call 111;refine(C2.o _ G1.o).mono ?_;rintro e w2 ⟨a2,k2,rfl,r2,g2,G2,ai,aj⟩;have af:Y (Rd w2 (.slice a2 (qS t.2).length k2) (qS t.2)):=r2;have ae:Y (Rd w2 (.slice a1 (zI t.1).length k1) (zI t.1)):=ad.o.keep g2;have G2:Y (wa.grownBy w2 none):=G2;clear r2 g2 ad G1)
  | (go_at_call 70;refine(HJ.o _ a1 k1 a2 k2 G2.o ae.o af.o).mono ?_;rintro e wZ ⟨⟨aZ,kZ,rfl,hZ,gZ⟩,z0,z1⟩;have HZ:Y (wZ.ownsRow w.heap.size 5 1 (.slice aZ (K.tg t).length kZ) (K.tg t).length (Lib.byteCells (K.tg t))):=hZ;have GZ:Y (w.grownBy wZ none):=gZ;clear hZ gZ))
 all_goals
  go_wp2
  go_ret
  exact⟨aZ,kZ,rfl,HZ.o,GZ.o⟩
theorem zi7 (m:P.Mt)(w:World)(h1:m.name.length<=255)(h2:m.val.length<=255):Calls Tryz.prog 163 #[.agg #[.string (R.str m.name),.bool m.ask,.string (R.str m.val)]] w (Gives w (K.mt m)):=by
 have aa:Y ((w.alloc (.cells #[.string (R.str m.name),.bool m.ask,.string (R.str m.val)] 276)).heap[w.heap.size]?=some (.cells #[.string (R.str m.name),.bool m.ask,.string (R.str m.val)] 276)):=heap_alloc_new _ _
 have c0:=zqY aa.o
 have c1:=zqZ aa.o
 have c2:=zr0 aa.o
 have ab:Y (w.grownBy (w.alloc (.cells #[.string (R.str m.name),.bool m.ask,.string (R.str m.val)] 276)) none):=zJ _ _ _
 have am:=zE aa.o
 have C1:Y (∀W,(w.alloc (.cells #[.string (R.str m.name),.bool m.ask,.string (R.str m.val)] 276)).grownBy W none->Calls Tryz.prog 108 #[.string (R.str m.name)] W fun e w'=>∃a k,e = .returned (.slice a (zI m.name).length k)/\Rd w' (.slice a (zI m.name).length k) (zI m.name)/\W.grownBy w' none/\(w.alloc (.cells #[.string (R.str m.name),.bool m.ask,.string (R.str m.val)] 276)).grownBy w' none/\w'.cell? ⟨w.heap.size,0,none⟩=some (.string (R.str m.name))/\w'.cell? ⟨w.heap.size,1,none⟩=some (.bool m.ask)/\w'.cell? ⟨w.heap.size,2,none⟩=some (.string (R.str m.val))):=fun W hW=>(yy m.name W h1).mono fun e w' ⟨a,k,h1,h2,h3⟩=>⟨a,k,h1,Rd.of_row h2,h3,zA hW h3,z8 (zB aa.o (zA hW h3) (by simp)),z8 (zB aa.o (zA hW h3) (by simp)),z8 (zB aa.o (zA hW h3) (by simp))⟩
 have C2:Y (∀W,(w.alloc (.cells #[.string (R.str m.name),.bool m.ask,.string (R.str m.val)] 276)).grownBy W none->Calls Tryz.prog 166 #[.bool m.ask,.string (R.str m.val)] W fun e w'=>∃a k,e = .returned (.slice a (x8 m.ask m.val).length k)/\Rd w' (.slice a (x8 m.ask m.val).length k) (x8 m.ask m.val)/\W.grownBy w' none/\(w.alloc (.cells #[.string (R.str m.name),.bool m.ask,.string (R.str m.val)] 276)).grownBy w' none/\w'.cell? ⟨w.heap.size,0,none⟩=some (.string (R.str m.name))/\w'.cell? ⟨w.heap.size,1,none⟩=some (.bool m.ask)/\w'.cell? ⟨w.heap.size,2,none⟩=some (.string (R.str m.val))):=fun W hW=>(uX m.ask m.val W h2).mono fun e w' ⟨a,k,h1,h2,h3⟩=>⟨a,k,h1,Rd.of_row h2,h3,zA hW h3,z8 (zB aa.o (zA hW h3) (by simp)),z8 (zB aa.o (zA hW h3) (by simp)),z8 (zB aa.o (zA hW h3) (by simp))⟩
 have HJ:Y (∀W a1 k1 a2 k2,(w.alloc (.cells #[.string (R.str m.name),.bool m.ask,.string (R.str m.val)] 276)).grownBy W none->Rd W (.slice a1 (zI m.name).length k1) (zI m.name)->Rd W (.slice a2 (x8 m.ask m.val).length k2) (x8 m.ask m.val)->Calls Tryz.prog 70 #[.slice (some ⟨W.heap.size,0,none⟩) 2 2] (W.alloc (.cells #[.slice a1 (zI m.name).length k1,.slice a2 (x8 m.ask m.val).length k2] 32)) fun e w'=>Gives w (K.mt m) e w'/\w'.cell? ⟨w.heap.size,0,none⟩=some (.string (R.str m.name))/\w'.cell? ⟨w.heap.size,1,none⟩=some (.bool m.ask)/\w'.cell? ⟨w.heap.size,2,none⟩=some (.string (R.str m.val))):=fun W a1 k1 a2 k2 hW r1 r2=>by
  have h:=xZ hW [.slice a1 (zI m.name).length k1,.slice a2 (x8 m.ask m.val).length k2] [zI m.name,x8 m.ask m.val] (.cons r1 (.cons r2 .nil)) (by rw[join2,zW,xa];have:=zf2 m.ask m.val;omega) (by simp)
  rw[show qe [zI m.name,x8 m.ask m.val]=K.mt m by rw[join2];rfl] at h
  refine Calls.mono h fun e w' ⟨a,k,h1,h2,h3⟩=>⟨⟨a,k,h1,jm h2 ab.o.size,zA ab.o h3⟩,z8 (zB aa.o h3 (by simp)),z8 (zB aa.o h3 (by simp)),z8 (zB aa.o h3 (by simp))⟩
 clear aa ab
 go_enter Tryz.func163,Tryz.ntmps163
 go_wp2_with fail
 generalize(w.alloc (.cells #[.string (R.str m.name),.bool m.ask,.string (R.str m.val)] 276))=wa at*
 go_region_held3 (fun W=>W.cell? ⟨w.heap.size,0,none⟩=some (.string (R.str m.name))/\W.cell? ⟨w.heap.size,1,none⟩=some (.bool m.ask)/\W.cell? ⟨w.heap.size,2,none⟩=some (.string (R.str m.val))) (go_keep) (first
  | (go_at_call 108;show Calls _ _ _ (World.drew wa) _;refine(C1.o _ (zQ wa)).mono ?_;rintro e w1 ⟨a1,k1,rfl,r1,g1,G1,ag,ah,ai⟩;have ad:Y (Rd w1 (.slice a1 (zI m.name).length k1) (zI m.name)):=r1;have G1:Y (wa.grownBy w1 none):=G1;clear r1 g1)
  | (go_at_call 166;refine(C2.o _ G1.o).mono ?_;rintro e w2 ⟨a2,k2,rfl,r2,g2,G2,aj,ak,al⟩;have af:Y (Rd w2 (.slice a2 (x8 m.ask m.val).length k2) (x8 m.ask m.val)):=r2;have ae:Y (Rd w2 (.slice a1 (zI m.name).length k1) (zI m.name)):=ad.o.keep g2;have G2:Y (wa.grownBy w2 none):=G2;clear r2 g2 ad G1)
  | (go_at_call 70;refine(HJ.o _ a1 k1 a2 k2 G2.o ae.o af.o).mono ?_;rintro e wZ ⟨⟨aZ,kZ,rfl,hZ,gZ⟩,z0,z1,z2⟩;have HZ:Y (wZ.ownsRow w.heap.size 5 1 (.slice aZ (K.mt m).length kZ) (K.mt m).length (Lib.byteCells (K.mt m))):=hZ;have GZ:Y (w.grownBy wZ none):=gZ;clear hZ gZ))
 all_goals
  go_wp2
  go_ret
  exact⟨aZ,kZ,rfl,HZ.o,GZ.o⟩
def zG {α:Type}(f:α->List UInt8)(l:List α)(i:Nat):List UInt8:=UInt8.ofNat l.length :: ((l.take i).map f).flatten
theorem ye {α:Type}(f:α->List UInt8)(l:List α):zG f l l.length=zL f l:=by unfold zG zL;rw[List.take_length]
theorem yO {α:Type}(f:α->List UInt8)(l:List α)(i:Nat)(h:i<l.length):qe [zG f l i,f l[i]]=zG f l (i+1):=by
 rw[join2];unfold zG
 rw[j6 h,xy,jt];simp
theorem yv {α:Type}(f:α->List UInt8)(l:List α)(i:Nat):(zG f l i).length<=(zL f l).length:=by
 unfold zG zL
 conv=>rhs;rw[<-List.take_append_drop i l,xy,jt]
 simp
theorem zkK {w:World}(l:List P.Mt)(v:Value)(ad:w.ownsRow 0 276 3 v l.length (qY l))(hn:l.length<=255)(hv:∀x∈l,x.name.length<=255/\x.val.length<=255)(ak:(zL K.mt l).length<=900000) :
  Calls Tryz.prog 162 #[.func (.func 163) #[] #[],v] w (Gives w (zL K.mt l)):=by
 obtain⟨va,vc,rfl⟩:=zP ad
 have HR:Y (w.ownsRow 0 276 3 (.slice va l.length vc) l.length (l.map P.Mt.cells).flatten):=ad
 have HV:Y (∀x∈l,x.name.length<=255/\x.val.length<=255):=hv
 have al:Y ((zL K.mt l).length<=900000):=ak
 clear ad hv ak
 go_enter Tryz.func162,Tryz.ntmps162
 go_wp2_with fail
 refine(j4 l.length w).mono ?_
 rintro e w0 ⟨a0,k0,rfl,h0,g0⟩
 have ah:Y (w0.ownsRow w.heap.size 5 1 (.slice a0 (zG K.mt l 0).length k0) (zG K.mt l 0).length (Lib.byteCells (zG K.mt l 0))):=h0
 have af:Y (w.grownBy w0 none):=g0
 clear h0 g0
 go_wp2_with fail
 go_loopw [5,13] (fun sv iv wr=>∃i:Nat,i<=l.length/\iv = .int .i64 i/\(∃a k,sv = .slice a (zG K.mt l i).length k/\Y (wr.ownsRow w.heap.size 5 1 (.slice a (zG K.mt l i).length k) (zG K.mt l i).length (Lib.byteCells (zG K.mt l i))))/\Y (w.grownBy wr none)) (fun _ iv _=>l.length - (intOf iv).toNat)
 case atStart=>exact⟨0,zl _,rfl,⟨a0,k0,rfl,ah⟩,af⟩
 case round=>
  obtain⟨i,ap,rfl,⟨a,k,rfl,HO⟩,HG⟩:=hrel
  clear ah af
  by_cases aa:i<l.length
  ·have ao:(i:Int)<l.length:=by omega
   obtain⟨gt,am,aj,_,an⟩:=World.ownsRow.form HR.o (by omega)
   simp only[qc] at aj
   obtain⟨rfl,_,rfl⟩:=aj
   have d0:wr.cell? ⟨gt,i*3,none⟩=some (.string (R.str l[i].name)):=by
    have h:=qO P.Mt.cells 3 (fun _=>rfl) HR.o HG.o i 0 aa (by omega) rfl
    exact h
   have d1:wr.cell? ⟨gt,i*3+1,none⟩=some (.bool l[i].ask):=by
    have h:=qO P.Mt.cells 3 (fun _=>rfl) HR.o HG.o i 1 aa (by omega) rfl
    exact h
   have d2:wr.cell? ⟨gt,i*3+2,none⟩=some (.string (R.str l[i].val)):=by
    have h:=qO P.Mt.cells 3 (fun _=>rfl) HR.o HG.o i 2 aa (by omega) rfl
    exact h
   have ae:=HV.o l[i] (List.getElem_mem aa)
   have ab:Y (qe [zG K.mt l i,K.mt l[i]]=zG K.mt l (i+1)):=yO K.mt l i aa
   have aq:(zG K.mt l (i+1)).length<=900000:=zp (yv K.mt l (i+1)) al.o
   generalize l[i]=x at*
   have HI:Y (Calls Tryz.prog 163 #[.agg #[.string (R.str x.name),.bool x.ask,.string (R.str x.val)]] (wr.alloc (.cells #[.string (R.str x.name),.bool x.ask,.string (R.str x.val)] 276)) (Gives (wr.alloc (.cells #[.string (R.str x.name),.bool x.ask,.string (R.str x.val)] 276)) (K.mt x))):=zi7 x (wr.alloc (.cells #[.string (R.str x.name),.bool x.ask,.string (R.str x.val)] 276)) ae.1 ae.2
   have ag:Y (w.grownBy (wr.alloc (.cells #[.string (R.str x.name),.bool x.ask,.string (R.str x.val)] 276)) none):=zA HG.o (zJ _ _ none)
   have R0:Y (Rd (wr.alloc (.cells #[.string (R.str x.name),.bool x.ask,.string (R.str x.val)] 276)) (.slice a (zG K.mt l i).length k) (zG K.mt l i)):=(Rd.of_row HO.o).keep (zJ _ _ none)
   clear HV HR HO HG ae
   go_wp2_with fail
   refine HI.o.mono ?_
   rintro e w1 ⟨a1,k1,rfl,h1,g1⟩
   have R1:Y (Rd w1 (.slice a1 (K.mt x).length k1) (K.mt x)):=Rd.of_row h1
   have ai:Y (Rd w1 (.slice a (zG K.mt l i).length k) (zG K.mt l i)):=R0.o.keep g1
   have G1:=J (zA ag.o g1)
   have HJ:Y (Calls Tryz.prog 70 #[.slice (some ⟨w1.heap.size,0,none⟩) 2 2] (w1.alloc (.cells #[.slice a (zG K.mt l i).length k,.slice a1 (K.mt x).length k1] 32)) (Gives w (zG K.mt l (i+1)))):=by
    have h:=xZ G1.o [.slice a (zG K.mt l i).length k,.slice a1 (K.mt x).length k1] [zG K.mt l i,K.mt x] (.cons ai.o (.cons R1.o .nil)) (by rw[ab.o];omega) (by simp)
    rw[ab.o] at h
    exact h
   clear h1 g1 R0 ai R1 G1 ag HI ab
   go_wp2_with fail
   refine HJ.o.mono ?_
   rintro e w2 ⟨a2,k2,rfl,h2,g2⟩
   have H2:Y (w2.ownsRow w.heap.size 5 1 (.slice a2 (zG K.mt l (i+1)).length k2) (zG K.mt l (i+1)).length (Lib.byteCells (zG K.mt l (i+1)))):=h2
   have G2:Y (w.grownBy w2 none):=g2
   clear h2 g2 HJ
   go_wp2
   go_roundw
   case rel=>exact⟨i+1,by omega,by go_num,⟨a2,k2,rfl,H2⟩,G2⟩
   case measure=>simp[intOf];omega
  ·have hE:i=l.length:=by omega
   subst hE
   have HC:Y (zG K.mt l l.length=zL K.mt l):=ye K.mt l
   rw[HC.o] at HO ⊢
   go_wp2
   go_ret
   exact⟨a,k,rfl,HO.o,HG.o⟩
theorem zkN {w:World}(l:List (List UInt8×Int))(v:Value)(ad:w.ownsRow 0 285 2 v l.length (zi l))(hn:l.length<=255)(hv:∀x∈l,x.1.length<=255/\0<=x.2)(ak:(zL K.tg l).length<=900000) :
  Calls Tryz.prog 164 #[.func (.func 165) #[] #[],v] w (Gives w (zL K.tg l)):=by
 obtain⟨va,vc,rfl⟩:=zP ad
 have HR:Y (w.ownsRow 0 285 2 (.slice va l.length vc) l.length (l.map (fun t:List UInt8×Int=>[.string (R.str t.1),.int .i64 t.2])).flatten):=ad
 have HV:Y (∀x∈l,x.1.length<=255/\0<=x.2):=hv
 have al:Y ((zL K.tg l).length<=900000):=ak
 clear ad hv ak
 go_enter Tryz.func164,Tryz.ntmps164
 go_wp2_with fail
 refine(j4 l.length w).mono ?_
 rintro e w0 ⟨a0,k0,rfl,h0,g0⟩
 have ah:Y (w0.ownsRow w.heap.size 5 1 (.slice a0 (zG K.tg l 0).length k0) (zG K.tg l 0).length (Lib.byteCells (zG K.tg l 0))):=h0
 have af:Y (w.grownBy w0 none):=g0
 clear h0 g0
 go_wp2_with fail
 go_loopw [5,13] (fun sv iv wr=>∃i:Nat,i<=l.length/\iv = .int .i64 i/\(∃a k,sv = .slice a (zG K.tg l i).length k/\Y (wr.ownsRow w.heap.size 5 1 (.slice a (zG K.tg l i).length k) (zG K.tg l i).length (Lib.byteCells (zG K.tg l i))))/\Y (w.grownBy wr none)) (fun _ iv _=>l.length - (intOf iv).toNat)
 case atStart=>exact⟨0,zl _,rfl,⟨a0,k0,rfl,ah⟩,af⟩
 case round=>
  obtain⟨i,ap,rfl,⟨a,k,rfl,HO⟩,HG⟩:=hrel
  clear ah af
  by_cases aa:i<l.length
  ·have ao:(i:Int)<l.length:=by omega
   obtain⟨gt,am,aj,_,an⟩:=World.ownsRow.form HR.o (by omega)
   simp only[qc] at aj
   obtain⟨rfl,_,rfl⟩:=aj
   have d0:wr.cell? ⟨gt,i*2,none⟩=some (.string (R.str l[i].1)):=by
    have h:=qO (fun t:List UInt8×Int=>[.string (R.str t.1),.int .i64 t.2]) 2 (fun _=>rfl) HR.o HG.o i 0 aa (by omega) rfl
    exact h
   have d1:wr.cell? ⟨gt,i*2+1,none⟩=some (.int .i64 l[i].2):=by
    have h:=qO (fun t:List UInt8×Int=>[.string (R.str t.1),.int .i64 t.2]) 2 (fun _=>rfl) HR.o HG.o i 1 aa (by omega) rfl
    exact h
   have ae:=HV.o l[i] (List.getElem_mem aa)
   have ab:Y (qe [zG K.tg l i,K.tg l[i]]=zG K.tg l (i+1)):=yO K.tg l i aa
   have aq:(zG K.tg l (i+1)).length<=900000:=zp (yv K.tg l (i+1)) al.o
   generalize l[i]=x at*
   have HI:Y (Calls Tryz.prog 165 #[.agg #[.string (R.str x.1),.int .i64 x.2]] (wr.alloc (.cells #[.string (R.str x.1),.int .i64 x.2] 285)) (Gives (wr.alloc (.cells #[.string (R.str x.1),.int .i64 x.2] 285)) (K.tg x))):=zfP x (wr.alloc (.cells #[.string (R.str x.1),.int .i64 x.2] 285)) ae.1 ae.2
   have ag:Y (w.grownBy (wr.alloc (.cells #[.string (R.str x.1),.int .i64 x.2] 285)) none):=zA HG.o (zJ _ _ none)
   have R0:Y (Rd (wr.alloc (.cells #[.string (R.str x.1),.int .i64 x.2] 285)) (.slice a (zG K.tg l i).length k) (zG K.tg l i)):=(Rd.of_row HO.o).keep (zJ _ _ none)
   clear HV HR HO HG ae
   go_wp2_with fail
   refine HI.o.mono ?_
   rintro e w1 ⟨a1,k1,rfl,h1,g1⟩
   have R1:Y (Rd w1 (.slice a1 (K.tg x).length k1) (K.tg x)):=Rd.of_row h1
   have ai:Y (Rd w1 (.slice a (zG K.tg l i).length k) (zG K.tg l i)):=R0.o.keep g1
   have G1:=J (zA ag.o g1)
   have HJ:Y (Calls Tryz.prog 70 #[.slice (some ⟨w1.heap.size,0,none⟩) 2 2] (w1.alloc (.cells #[.slice a (zG K.tg l i).length k,.slice a1 (K.tg x).length k1] 32)) (Gives w (zG K.tg l (i+1)))):=by
    have h:=xZ G1.o [.slice a (zG K.tg l i).length k,.slice a1 (K.tg x).length k1] [zG K.tg l i,K.tg x] (.cons ai.o (.cons R1.o .nil)) (by rw[ab.o];omega) (by simp)
    rw[ab.o] at h
    exact h
   clear h1 g1 R0 ai R1 G1 ag HI ab
   go_wp2_with fail
   refine HJ.o.mono ?_
   rintro e w2 ⟨a2,k2,rfl,h2,g2⟩
   have H2:Y (w2.ownsRow w.heap.size 5 1 (.slice a2 (zG K.tg l (i+1)).length k2) (zG K.tg l (i+1)).length (Lib.byteCells (zG K.tg l (i+1)))):=h2
   have G2:Y (w.grownBy w2 none):=g2
   clear h2 g2 HJ
   go_wp2
   go_roundw
   case rel=>exact⟨i+1,by omega,by go_num,⟨a2,k2,rfl,H2⟩,G2⟩
   case measure=>simp[intOf];omega
  ·have hE:i=l.length:=by omega
   subst hE
   have HC:Y (zG K.tg l l.length=zL K.tg l):=ye K.tg l
   rw[HC.o] at HO ⊢
   go_wp2
   go_ret
   exact⟨a,k,rfl,HO.o,HG.o⟩
theorem zkM {w:World}(l:List (List UInt8×List UInt8))(v:Value)(ad:w.ownsRow 0 280 2 v l.length (zb l))(hn:l.length<=255)(hv:∀x∈l,x.1.length<=255/\x.2.length<=255)(ak:(zL K.st l).length<=900000) :
  Calls Tryz.prog 167 #[.func (.func 168) #[] #[],v] w (Gives w (zL K.st l)):=by
 obtain⟨va,vc,rfl⟩:=zP ad
 have HR:Y (w.ownsRow 0 280 2 (.slice va l.length vc) l.length (l.map (fun t:List UInt8×List UInt8=>[.string (R.str t.1),.string (R.str t.2)])).flatten):=ad
 have HV:Y (∀x∈l,x.1.length<=255/\x.2.length<=255):=hv
 have al:Y ((zL K.st l).length<=900000):=ak
 clear ad hv ak
 go_enter Tryz.func167,Tryz.ntmps167
 go_wp2_with fail
 refine(j4 l.length w).mono ?_
 rintro e w0 ⟨a0,k0,rfl,h0,g0⟩
 have ah:Y (w0.ownsRow w.heap.size 5 1 (.slice a0 (zG K.st l 0).length k0) (zG K.st l 0).length (Lib.byteCells (zG K.st l 0))):=h0
 have af:Y (w.grownBy w0 none):=g0
 clear h0 g0
 go_wp2_with fail
 go_loopw [5,13] (fun sv iv wr=>∃i:Nat,i<=l.length/\iv = .int .i64 i/\(∃a k,sv = .slice a (zG K.st l i).length k/\Y (wr.ownsRow w.heap.size 5 1 (.slice a (zG K.st l i).length k) (zG K.st l i).length (Lib.byteCells (zG K.st l i))))/\Y (w.grownBy wr none)) (fun _ iv _=>l.length - (intOf iv).toNat)
 case atStart=>exact⟨0,zl _,rfl,⟨a0,k0,rfl,ah⟩,af⟩
 case round=>
  obtain⟨i,ap,rfl,⟨a,k,rfl,HO⟩,HG⟩:=hrel
  clear ah af
  by_cases aa:i<l.length
  ·have ao:(i:Int)<l.length:=by omega
   obtain⟨gt,am,aj,_,an⟩:=World.ownsRow.form HR.o (by omega)
   simp only[qc] at aj
   obtain⟨rfl,_,rfl⟩:=aj
   have d0:wr.cell? ⟨gt,i*2,none⟩=some (.string (R.str l[i].1)):=by
    have h:=qO (fun t:List UInt8×List UInt8=>[.string (R.str t.1),.string (R.str t.2)]) 2 (fun _=>rfl) HR.o HG.o i 0 aa (by omega) rfl
    exact h
   have d1:wr.cell? ⟨gt,i*2+1,none⟩=some (.string (R.str l[i].2)):=by
    have h:=qO (fun t:List UInt8×List UInt8=>[.string (R.str t.1),.string (R.str t.2)]) 2 (fun _=>rfl) HR.o HG.o i 1 aa (by omega) rfl
    exact h
   have ae:=HV.o l[i] (List.getElem_mem aa)
   have ab:Y (qe [zG K.st l i,K.st l[i]]=zG K.st l (i+1)):=yO K.st l i aa
   have aq:(zG K.st l (i+1)).length<=900000:=zp (yv K.st l (i+1)) al.o
   generalize l[i]=x at*
   have HI:Y (Calls Tryz.prog 168 #[.agg #[.string (R.str x.1),.string (R.str x.2)]] (wr.alloc (.cells #[.string (R.str x.1),.string (R.str x.2)] 280)) (Gives (wr.alloc (.cells #[.string (R.str x.1),.string (R.str x.2)] 280)) (K.st x))):=znK x (wr.alloc (.cells #[.string (R.str x.1),.string (R.str x.2)] 280)) ae.1 ae.2
   have ag:Y (w.grownBy (wr.alloc (.cells #[.string (R.str x.1),.string (R.str x.2)] 280)) none):=zA HG.o (zJ _ _ none)
   have R0:Y (Rd (wr.alloc (.cells #[.string (R.str x.1),.string (R.str x.2)] 280)) (.slice a (zG K.st l i).length k) (zG K.st l i)):=(Rd.of_row HO.o).keep (zJ _ _ none)
   clear HV HR HO HG ae
   go_wp2_with fail
   refine HI.o.mono ?_
   rintro e w1 ⟨a1,k1,rfl,h1,g1⟩
   have R1:Y (Rd w1 (.slice a1 (K.st x).length k1) (K.st x)):=Rd.of_row h1
   have ai:Y (Rd w1 (.slice a (zG K.st l i).length k) (zG K.st l i)):=R0.o.keep g1
   have G1:=J (zA ag.o g1)
   have HJ:Y (Calls Tryz.prog 70 #[.slice (some ⟨w1.heap.size,0,none⟩) 2 2] (w1.alloc (.cells #[.slice a (zG K.st l i).length k,.slice a1 (K.st x).length k1] 32)) (Gives w (zG K.st l (i+1)))):=by
    have h:=xZ G1.o [.slice a (zG K.st l i).length k,.slice a1 (K.st x).length k1] [zG K.st l i,K.st x] (.cons ai.o (.cons R1.o .nil)) (by rw[ab.o];omega) (by simp)
    rw[ab.o] at h
    exact h
   clear h1 g1 R0 ai R1 G1 ag HI ab
   go_wp2_with fail
   refine HJ.o.mono ?_
   rintro e w2 ⟨a2,k2,rfl,h2,g2⟩
   have H2:Y (w2.ownsRow w.heap.size 5 1 (.slice a2 (zG K.st l (i+1)).length k2) (zG K.st l (i+1)).length (Lib.byteCells (zG K.st l (i+1)))):=h2
   have G2:Y (w.grownBy w2 none):=g2
   clear h2 g2 HJ
   go_wp2
   go_roundw
   case rel=>exact⟨i+1,by omega,by go_num,⟨a2,k2,rfl,H2⟩,G2⟩
   case measure=>simp[intOf];omega
  ·have hE:i=l.length:=by omega
   subst hE
   have HC:Y (zG K.st l l.length=zL K.st l):=ye K.st l
   rw[HC.o] at HO ⊢
   go_wp2
   go_ret
   exact⟨a,k,rfl,HO.o,HG.o⟩
theorem zkI {w:World}(l:List (List UInt8))(v:Value)(ad:w.ownsRow 0 9 1 v l.length (l.map fun s=>[Value.string (R.str s)]).flatten)(hn:l.length<=255)(hv:∀x∈l,x.length<=255)(aj:(zL zI l).length<=900000) :
  Calls Tryz.prog 169 #[.func (.func 108) #[] #[],v] w (Gives w (zL zI l)):=by
 obtain⟨va,vc,rfl⟩:=zP ad
 have HR:Y (w.ownsRow 0 9 1 (.slice va l.length vc) l.length (l.map (fun s=>[Value.string (R.str s)])).flatten):=ad
 have HV:Y (∀x∈l,x.length<=255):=hv
 have al:Y ((zL zI l).length<=900000):=aj
 clear ad hv aj
 go_enter Tryz.func169,Tryz.ntmps169
 go_wp2_with fail
 refine(j4 l.length w).mono ?_
 rintro e w0 ⟨a0,k0,rfl,h0,g0⟩
 have ag:Y (w0.ownsRow w.heap.size 5 1 (.slice a0 (zG zI l 0).length k0) (zG zI l 0).length (Lib.byteCells (zG zI l 0))):=h0
 have ae:Y (w.grownBy w0 none):=g0
 clear h0 g0
 go_wp2_with fail
 go_loopw [5,13] (fun sv iv wr=>∃i:Nat,i<=l.length/\iv = .int .i64 i/\(∃a k,sv = .slice a (zG zI l i).length k/\Y (wr.ownsRow w.heap.size 5 1 (.slice a (zG zI l i).length k) (zG zI l i).length (Lib.byteCells (zG zI l i))))/\Y (w.grownBy wr none)) (fun _ iv _=>l.length - (intOf iv).toNat)
 case atStart=>exact⟨0,zl _,rfl,⟨a0,k0,rfl,ag⟩,ae⟩
 case round=>
  obtain⟨i,ap,rfl,⟨a,k,rfl,HO⟩,HG⟩:=hrel
  clear ag ae
  by_cases ab:i<l.length
  ·have ao:(i:Int)<l.length:=by omega
   obtain⟨gt,am,ai,_,an⟩:=World.ownsRow.form HR.o (by omega)
   simp only[qc] at ai
   obtain⟨rfl,_,rfl⟩:=ai
   have d0:wr.cell? ⟨gt,i,none⟩=some (.string (R.str l[i])):=by
    have h:=qO (fun s=>[Value.string (R.str s)]) 1 (fun _=>rfl) HR.o HG.o i 0 ab (by omega) rfl
    rw[Nat.mul_one] at h
    exact h
   have ak:=HV.o l[i] (List.getElem_mem ab)
   have aa:Y (qe [zG zI l i,zI l[i]]=zG zI l (i+1)):=yO zI l i ab
   have aq:(zG zI l (i+1)).length<=900000:=zp (yv zI l (i+1)) al.o
   generalize l[i]=x at*
   have HI:Y (Calls Tryz.prog 108 #[.string (R.str x)] wr (Gives wr (zI x))):=yy x wr ak
   have af:Y (w.grownBy wr none):=HG.o
   have R0:Y (Rd wr (.slice a (zG zI l i).length k) (zG zI l i)):=Rd.of_row HO.o
   clear HV HR HO HG ak
   go_wp2_with fail
   refine HI.o.mono ?_
   rintro e w1 ⟨a1,k1,rfl,h1,g1⟩
   have R1:Y (Rd w1 (.slice a1 (zI x).length k1) (zI x)):=Rd.of_row h1
   have ah:Y (Rd w1 (.slice a (zG zI l i).length k) (zG zI l i)):=R0.o.keep g1
   have G1:=J (zA af.o g1)
   have HJ:Y (Calls Tryz.prog 70 #[.slice (some ⟨w1.heap.size,0,none⟩) 2 2] (w1.alloc (.cells #[.slice a (zG zI l i).length k,.slice a1 (zI x).length k1] 32)) (Gives w (zG zI l (i+1)))):=by
    have h:=xZ G1.o [.slice a (zG zI l i).length k,.slice a1 (zI x).length k1] [zG zI l i,zI x] (.cons ah.o (.cons R1.o .nil)) (by rw[aa.o];omega) (by simp)
    rw[aa.o] at h
    exact h
   clear h1 g1 R0 ah R1 G1 af HI aa
   go_wp2_with fail
   refine HJ.o.mono ?_
   rintro e w2 ⟨a2,k2,rfl,h2,g2⟩
   have H2:Y (w2.ownsRow w.heap.size 5 1 (.slice a2 (zG zI l (i+1)).length k2) (zG zI l (i+1)).length (Lib.byteCells (zG zI l (i+1)))):=h2
   have G2:Y (w.grownBy w2 none):=g2
   clear h2 g2 HJ
   go_wp2
   go_roundw
   case rel=>exact⟨i+1,by omega,by go_num,⟨a2,k2,rfl,H2⟩,G2⟩
   case measure=>simp[intOf];omega
  ·have hE:i=l.length:=by omega
   subst hE
   have HC:Y (zG zI l l.length=zL zI l):=ye zI l
   rw[HC.o] at HO ⊢
   go_wp2
   go_ret
   exact⟨a,k,rfl,HO.o,HG.o⟩
end Go.Proofs.YtfocdefchbnkpaaGreatDoor
