/- Taking packed policies apart, as the program does it: numbers, texts, what may be there. -/
import Derived.Test.YtfocdefchbnkpaaGreatDoorAli
import Derived.Test.YtfocdefchbnkpaaGreatDoorTkE
import Derived.Test.YtfocdefchbnkpaaGreatDoorProR
import Derived.Test.YtfocdefchbnkpaaGreatDoorProZ6
import Derived.Test.YtfocdefchbnkpaaGreatDoorPkE
import Derived.Test.YtfocdefchbnkpaaGreatDoorKpC
set_option maxRecDepth 100000
set_option maxHeartbeats 20000000
namespace Go.Proofs.YtfocdefchbnkpaaGreatDoor
open Go.RowKit
theorem j9 (r:List UInt8):(qZ r).1<=255:=by have:=(r.headD 0).toNat_lt;show(r.headD 0).toNat<=255;omega
theorem zdO (n:Nat)(r:List UInt8):(j2 n r).1.length=n:=by unfold j2;simp;omega
theorem jl (r:List UInt8):(qC r).1.length<=255:=by unfold qC;rw[zdO];exact j9 r
theorem zhM (r:List UInt8):0<=(yn r).1/\(yn r).1<=65535:=by
 have h1:=j9 r
 have h2:=j9 (qZ r).2
 unfold yn
 constructor <;> simp only <;> omega
theorem zgT {w:World}{rb B:Nat}{r:List UInt8}(h:UInv w rb B r) :
  Calls Tryz.prog 221 #[.pointer (some ⟨rb,0,none⟩)] w fun e w'=>e = .returned (.int .i64 (yn r).1)/\UInv w' rb B (yn r).2/\w.grownBy w' (some rb):=by
 have h1:=j9 r
 have h2:=j9 (qZ r).2
 have HT:Y (yn r=((((qZ r).1+(qZ (qZ r).2).1*256:Nat):Int),(qZ (qZ r).2).2)):=rfl
 have H1:Y (Calls Tryz.prog 170 #[.pointer (some ⟨rb,0,none⟩)] w fun e w'=>e = .returned (.int .i64 ((qZ r).1:Nat))/\UInv w' rb B (qZ r).2/\w.grownBy w' (some rb)):=vI h
 clear h
 generalize yn r=tw at*
 generalize qZ r=p at*
 obtain⟨lo,r1⟩:=p
 simp only at h1 h2 HT H1
 go_enter Tryz.func221,Tryz.ntmps221
 go_wp2_with fail
 refine H1.o.mono ?_
 rintro e w1 ⟨rfl,i1,g1⟩
 have H2:Y (Calls Tryz.prog 170 #[.pointer (some ⟨rb,0,none⟩)] w1 fun e w'=>e = .returned (.int .i64 ((qZ r1).1:Nat))/\UInv w' rb B (qZ r1).2/\w1.grownBy w' (some rb)):=vI i1
 have G1:Y (w.grownBy w1 (some rb)):=g1
 clear H1 i1 g1
 generalize qZ r1=p at*
 obtain⟨hi,r2⟩:=p
 simp only at h2 HT H2
 go_wp2_with fail
 refine H2.o.mono ?_
 rintro e w2 ⟨rfl,i2,g2⟩
 have I2:Y (UInv w2 rb B r2):=i2
 have G2:=J (zD G1.o g2)
 clear H2 i2 g2 G1
 go_wp2
 go_ret
 rw[HT.o]
 refine⟨?_,I2.o,G2.o⟩
 show Ending.returned (Value.int .i64 ((lo:Int)+hi*256))=_
 go_num
theorem vY {w:World}{rb B:Nat}{r:List UInt8}(h:UInv w rb B r) :
  Calls Tryz.prog 171 #[.pointer (some ⟨rb,0,none⟩)] w fun e w'=>e = .returned (.string (R.str (qC r).1))/\UInv w' rb B (qC r).2/\w.grownBy w' (some rb):=by
 have h1:=j9 r
 have HT:Y (qC r=j2 (qZ r).1 (qZ r).2):=rfl
 have H1:Y (Calls Tryz.prog 170 #[.pointer (some ⟨rb,0,none⟩)] w fun e w'=>e = .returned (.int .i64 ((qZ r).1:Nat))/\UInv w' rb B (qZ r).2/\w.grownBy w' (some rb)):=vI h
 clear h
 generalize qC r=tx at*
 generalize qZ r=p at*
 obtain⟨n,r1⟩:=p
 simp only at h1 HT H1
 go_enter Tryz.func171,Tryz.ntmps171
 go_wp2_with fail
 refine H1.o.mono ?_
 rintro e w1 ⟨rfl,i1,g1⟩
 have H2:Y (Calls Tryz.prog 113 #[.pointer (some ⟨rb,0,none⟩),.int .i64 n] w1 fun e w'=>∃a k,e = .returned (.slice a n k)/\w'.ownsRow w1.heap.size 5 1 (.slice a n k) n (Lib.byteCells (j2 n r1).1)/\UInv w' rb B (j2 n r1).2/\w1.grownBy w' (some rb)):=zcO i1 n h1
 have G1:Y (w.grownBy w1 (some rb)):=g1
 have aa:=zdO n r1
 clear H1 i1 g1
 generalize j2 n r1=p at*
 obtain⟨bs,r2⟩:=p
 simp only at H2 aa
 go_wp2_with fail
 refine H2.o.mono ?_
 rintro e w2 ⟨a,k,rfl,o2,i2,g2⟩
 have I2:Y (UInv w2 rb B r2):=i2
 have G2:=J (zD G1.o g2)
 have ab:(convert 32 9 (.slice a n k)).run Tryz.prog w2 = .ok (.string (R.str bs)) w2:=by
  by_cases h0:n=0
  ·subst h0
   obtain rfl:bs=[]:=List.eq_nil_of_length_eq_zero aa
   exact fG w2 a k
  ·obtain⟨g,c,e1,_,_⟩:=World.ownsRow.form o2 (by omega)
   simp only[qQ,true_and] at e1
   obtain⟨rfl,rfl⟩:=e1
   have h:=run_convert_bytes_back (P:=Tryz.prog) w2 32 9 5 ⟨g,0,none⟩ k bs Tryz.underlying32 Tryz.underlying5 Tryz.underlying9 (fun j hj=>by
    have h3:=qR o2 j (by omega)
    rw[kK,Nat.zero_add,h3]
    unfold Lib.byteCells
    simp[hj])
   rw[aa] at h
   exact h
 clear H2 i2 g2 G1 o2
 go_wp2
 go_ret
 rw[HT.o]
 exact⟨rfl,I2.o,G2.o⟩
theorem fy {w:World}{rb B:Nat}{r:List UInt8}(h:UInv w rb B r) :
  Calls Tryz.prog 299 #[.pointer (some ⟨rb,0,none⟩)] w fun e w'=>e = .returned (.tuple #[.string (R.str (qv r).1.1),.bool (qv r).1.2])/\UInv w' rb B (qv r).2/\w.grownBy w' (some rb):=by
 have h1:=j9 r
 have HT:Y (qv r=if (qZ r).1=0 then (([],false),(qZ r).2) else (((qC (qZ r).2).1,true),(qC (qZ r).2).2)):=rfl
 have H1:Y (Calls Tryz.prog 170 #[.pointer (some ⟨rb,0,none⟩)] w fun e w'=>e = .returned (.int .i64 ((qZ r).1:Nat))/\UInv w' rb B (qZ r).2/\w.grownBy w' (some rb)):=vI h
 clear h
 generalize qv r=pp at*
 generalize qZ r=p at*
 obtain⟨n,r1⟩:=p
 simp only at h1 HT H1
 go_enter Tryz.func299,Tryz.ntmps299
 go_wp2_with fail
 refine H1.o.mono ?_
 rintro e w1 ⟨rfl,i1,g1⟩
 have I1:Y (UInv w1 rb B r1):=i1
 have G1:Y (w.grownBy w1 (some rb)):=g1
 clear H1 i1 g1
 by_cases h0:n=0
 ·subst h0
  rw[if_pos rfl] at HT
  go_wp2
  go_ret2
  rw[HT.o]
  exact⟨rfl,I1.o,G1.o⟩
 ·rw[if_neg h0] at HT
  have hI:¬((n:Int)=0):=by omega
  go_wp2_with fail
  refine(vY I1.o).mono ?_
  rintro e w2 ⟨rfl,i2,g2⟩
  have I2:Y (UInv w2 rb B (qC r1).2):=i2
  have G2:=J (zD G1.o g2)
  clear i2 g2 I1 G1
  go_wp2
  go_ret2
  rw[HT.o]
  exact⟨rfl,I2.o,G2.o⟩
theorem zgJ {w:World}{rb B:Nat}{r:List UInt8}(h:UInv w rb B r) :
  Calls Tryz.prog 226 #[.pointer (some ⟨rb,0,none⟩)] w fun e w'=>e = .returned (.string (R.str (kM r).1))/\UInv w' rb B (kM r).2/\w.grownBy w' (some rb):=by
 have HT:Y (kM r=((qv r).1.1,(qv r).2)):=rfl
 have I0:Y (UInv w rb B r):=h
 have G0:Y (w.grownBy w (some rb)):=ze _ _
 clear h
 generalize kM r=res at*
 go_enter Tryz.func226,Tryz.ntmps226
 go_wp2_with fail
 refine(fy I0.o).mono ?_
 rintro e w1 ⟨rfl,i1,g1⟩
 have I1:Y (UInv w1 rb B (qv r).2):=i1
 have G1:=J (zD G0.o g1)
 clear i1 g1 I0 G0
 generalize qv r=p1 at*
 obtain⟨⟨vl,aa⟩,r1⟩:=p1
 simp only at I1 HT
 go_wp2
 go_ret
 rw[HT.o]
 exact⟨rfl,I1.o,G1.o⟩
theorem zlG {w:World}{rb B:Nat}{r:List UInt8}(h:UInv w rb B r) :
  Calls Tryz.prog 223 #[.pointer (some ⟨rb,0,none⟩)] w fun e w'=>e = .returned (.agg #[.string (R.str (U.mt r).1.name),.bool (U.mt r).1.ask,.string (R.str (U.mt r).1.val)])/\UInv w' rb B (U.mt r).2/\w.grownBy w' (some rb):=by
 have HT:Y (U.mt r=(⟨(qC r).1,(qv (qC r).2).1.2,(qv (qC r).2).1.1⟩,(qv (qC r).2).2)):=rfl
 have ak:=h.low
 have am:=h.top
 have af:some w.heap.size≠some rb:=fun c=>by have:=x5 c;omega
 have ab:Y ((w.alloc (.cells #[.string ⟨#[]⟩,.bool false,.string ⟨#[]⟩] 276)).heap[w.heap.size]?=some (.cells #[.string ⟨#[]⟩,.bool false,.string ⟨#[]⟩] 276)):=heap_alloc_new _ _
 have I0:Y (UInv (w.alloc (.cells #[.string ⟨#[]⟩,.bool false,.string ⟨#[]⟩] 276)) rb B r):=h.keep (zL _ _ _)
 have G0:Y (w.grownBy (w.alloc (.cells #[.string ⟨#[]⟩,.bool false,.string ⟨#[]⟩] 276)) (some rb)):=zL _ _ _
 clear h
 generalize U.mt r=res at*
 go_enter Tryz.func223,Tryz.ntmps223
 go_wp2_with fail
 refine(vY I0.o).mono ?_
 rintro e w1 ⟨rfl,i1,g1⟩
 have I1:Y (UInv w1 rb B (qC r).2):=i1
 have G1:=J (zD G0.o g1)
 have ad:=J (zF ab.o g1 af)
 clear i1 g1 I0 G0 ab
 generalize qC r=p1 at*
 obtain⟨nm,r1⟩:=p1
 simp only at I1 HT
 go_wp2_with fail
 refine(fy I1.o).mono ?_
 rintro e w2 ⟨rfl,i2,g2⟩
 have I2:Y (UInv w2 rb B (qv r1).2):=i2
 have G2:=J (zD G1.o g2)
 have aa:=J (zF ad.o g2 af)
 clear i2 g2 I1 G1 ad
 generalize qv r1=p2 at*
 obtain⟨⟨vl,ae⟩,r2⟩:=p2
 simp only at I2 HT
 have ag:=ztW aa.o
 have an:=zuG 0 aa.o
 have ah:=zuA aa.o
 have ao:=zuG 1 aa.o
 have ai:=ztX aa.o
 have ap:=zuG 2 aa.o
 have al:=G2.o.size
 have hs:=zD (zD (zG w2 w.heap.size 0 (.string (R.str nm))) (zG _ w.heap.size 1 (.bool ae))) (zG _ w.heap.size 2 (.string (R.str vl)))
 go_wp2
 have aj:Y (w2.heap[w.heap.size]?=some (.cells #[.string ⟨#[]⟩,.bool false,.string ⟨#[]⟩] 276)):=aa
 refine bodyPost_ret (v:=.agg #[.string (R.str nm),.bool ae,.string (R.str vl)]) (by simp[results,Tryz.results223,go_sem,ag,ah,ai]) rfl ?_
 rw[HT.o]
 exact⟨rfl,I2.o.far hs (fun k c=>by have:=x5 c;omega),zm G2.o hs (zw _)⟩
theorem zh1 {w:World}{rb B:Nat}{r:List UInt8}(h:UInv w rb B r) :
  Calls Tryz.prog 225 #[.pointer (some ⟨rb,0,none⟩)] w fun e w'=>e = .returned (.agg #[.string (R.str (U.tg r).1.1),.int .i64 (U.tg r).1.2])/\UInv w' rb B (U.tg r).2/\w.grownBy w' (some rb):=by
 have HT:Y (U.tg r=(((qC r).1,(yn (qC r).2).1),(yn (qC r).2).2)):=rfl
 have ai:=h.low
 have ak:=h.top
 have ae:some w.heap.size≠some rb:=fun c=>by have:=x5 c;omega
 have ab:Y ((w.alloc (.cells #[.string ⟨#[]⟩,.int .i64 0] 285)).heap[w.heap.size]?=some (.cells #[.string ⟨#[]⟩,.int .i64 0] 285)):=heap_alloc_new _ _
 have I0:Y (UInv (w.alloc (.cells #[.string ⟨#[]⟩,.int .i64 0] 285)) rb B r):=h.keep (zL _ _ _)
 have G0:Y (w.grownBy (w.alloc (.cells #[.string ⟨#[]⟩,.int .i64 0] 285)) (some rb)):=zL _ _ _
 clear h
 generalize U.tg r=res at*
 go_enter Tryz.func225,Tryz.ntmps225
 go_wp2_with fail
 refine(vY I0.o).mono ?_
 rintro e w1 ⟨rfl,i1,g1⟩
 have I1:Y (UInv w1 rb B (qC r).2):=i1
 have G1:=J (zD G0.o g1)
 have ad:=J (zF ab.o g1 ae)
 clear i1 g1 I0 G0 ab
 generalize qC r=p1 at*
 obtain⟨nm,r1⟩:=p1
 simp only at I1 HT
 go_wp2_with fail
 refine(zgT I1.o).mono ?_
 rintro e w2 ⟨rfl,i2,g2⟩
 have I2:Y (UInv w2 rb B (yn r1).2):=i2
 have G2:=J (zD G1.o g2)
 have aa:=J (zF ad.o g2 ae)
 clear i2 g2 I1 G1 ad
 generalize yn r1=p2 at*
 obtain⟨n,r2⟩:=p2
 simp only at I2 HT
 have af:=zuH aa.o
 have al:=zuG 0 aa.o
 have ag:=zuB aa.o
 have am:=zuG 1 aa.o
 have aj:=G2.o.size
 have hs:=zD (zG w2 w.heap.size 0 (.string (R.str nm))) (zG _ w.heap.size 1 (.int .i64 n))
 go_wp2
 have ah:Y (w2.heap[w.heap.size]?=some (.cells #[.string ⟨#[]⟩,.int .i64 0] 285)):=aa
 refine bodyPost_ret (v:=.agg #[.string (R.str nm),.int .i64 n]) (by simp[results,Tryz.results225,go_sem,af,ag]) rfl ?_
 rw[HT.o]
 exact⟨rfl,I2.o.far hs (fun k c=>by have:=x5 c;omega),zm G2.o hs (zw _)⟩
theorem zpI {w:World}{rb B:Nat}{r:List UInt8}(h:UInv w rb B r) :
  Calls Tryz.prog 228 #[.pointer (some ⟨rb,0,none⟩)] w fun e w'=>e = .returned (.agg #[.string (R.str (U.st r).1.1),.string (R.str (U.st r).1.2)])/\UInv w' rb B (U.st r).2/\w.grownBy w' (some rb):=by
 have HT:Y (U.st r=(((qC r).1,(qC (qC r).2).1),(qC (qC r).2).2)):=rfl
 have ai:=h.low
 have ak:=h.top
 have ae:some w.heap.size≠some rb:=fun c=>by have:=x5 c;omega
 have ab:Y ((w.alloc (.cells #[.string ⟨#[]⟩,.string ⟨#[]⟩] 280)).heap[w.heap.size]?=some (.cells #[.string ⟨#[]⟩,.string ⟨#[]⟩] 280)):=heap_alloc_new _ _
 have I0:Y (UInv (w.alloc (.cells #[.string ⟨#[]⟩,.string ⟨#[]⟩] 280)) rb B r):=h.keep (zL _ _ _)
 have G0:Y (w.grownBy (w.alloc (.cells #[.string ⟨#[]⟩,.string ⟨#[]⟩] 280)) (some rb)):=zL _ _ _
 clear h
 generalize U.st r=res at*
 go_enter Tryz.func228,Tryz.ntmps228
 go_wp2_with fail
 refine(vY I0.o).mono ?_
 rintro e w1 ⟨rfl,i1,g1⟩
 have I1:Y (UInv w1 rb B (qC r).2):=i1
 have G1:=J (zD G0.o g1)
 have ad:=J (zF ab.o g1 ae)
 clear i1 g1 I0 G0 ab
 generalize qC r=p1 at*
 obtain⟨nm,r1⟩:=p1
 simp only at I1 HT
 go_wp2_with fail
 refine(vY I1.o).mono ?_
 rintro e w2 ⟨rfl,i2,g2⟩
 have I2:Y (UInv w2 rb B (qC r1).2):=i2
 have G2:=J (zD G1.o g2)
 have aa:=J (zF ad.o g2 ae)
 clear i2 g2 I1 G1 ad
 generalize qC r1=p2 at*
 obtain⟨vl,r2⟩:=p2
 simp only at I2 HT
 have af:=zuH aa.o
 have al:=zuG 0 aa.o
 have ag:=zuB aa.o
 have am:=zuG 1 aa.o
 have aj:=G2.o.size
 have hs:=zD (zG w2 w.heap.size 0 (.string (R.str nm))) (zG _ w.heap.size 1 (.string (R.str vl)))
 go_wp2
 have ah:Y (w2.heap[w.heap.size]?=some (.cells #[.string ⟨#[]⟩,.string ⟨#[]⟩] 280)):=aa
 refine bodyPost_ret (v:=.agg #[.string (R.str nm),.string (R.str vl)]) (by simp[results,Tryz.results228,go_sem,af,ag]) rfl ?_
 rw[HT.o]
 exact⟨rfl,I2.o.far hs (fun k c=>by have:=x5 c;omega),zm G2.o hs (zw _)⟩
theorem zb9 {α:Type}(f:List UInt8->α×List UInt8):∀(n:Nat) (r:List UInt8),(ql f n r).1.length=n
 | 0,_=>rfl
 | n+1,r=>by unfold ql;simp[zb9 f n]
theorem jb {α:Type}(f:List UInt8->α×List UInt8)(r:List UInt8):(za f r).1.length<=255:=by unfold za;rw[zb9];exact j9 r
theorem zoG {w:World}{rb B:Nat}{r:List UInt8}(h:UInv w rb B r) :
  Calls Tryz.prog 222 #[.pointer (some ⟨rb,0,none⟩),.func (.func 223) #[] #[]] w fun e w'=>∃u,e = .returned u/\UInv w' rb B (za U.mt r).2/\w.grownBy w' (some rb)/\w'.ownsRow w.heap.size 276 3 u (za U.mt r).1.length (xO (za U.mt r).1):=by
 obtain⟨i0,hi,ai,aj,ak⟩:=info_parts ziS
 have hN:=j9 r
 have HP:Y (za U.mt r=ql U.mt (qZ r).1 (qZ r).2):=rfl
 have H1:Y (Calls Tryz.prog 170 #[.pointer (some ⟨rb,0,none⟩)] w fun e w'=>e = .returned (.int .i64 ((qZ r).1:Nat))/\UInv w' rb B (qZ r).2/\w.grownBy w' (some rb)):=vI h
 have an:=h.low
 have ah:=h.top
 clear h
 generalize za U.mt r=res at*
 generalize qZ r=p at*
 obtain⟨N,r1⟩:=p
 simp only at hN HP H1
 go_enter Tryz.func222,Tryz.ntmps222
 go_wp2_with fail
 refine H1.o.mono ?_
 rintro e w1 ⟨rfl,i1,g1⟩
 have I1:Y (UInv w1 rb B r1):=i1
 have G1:Y (w.grownBy w1 (some rb)):=g1
 clear i1 g1 H1
 go_wp2_with fail
 go_loopw [5,8] (fun u iv wr=>∃(i:Nat) (aa:List P.Mt) (st:List UInt8),i<=N/\aa.length=i/\iv = .int .i64 i/\Y (res=(aa++(ql U.mt (N - i) st).1,(ql U.mt (N - i) st).2))/\Y (UInv wr rb B st)/\Y (w.grownBy wr (some rb))/\Y (wr.ownsRow w.heap.size 276 3 u aa.length (xO aa))) (fun _ iv _=>N - (intOf iv).toNat)
 case atStart=>exact⟨0,[],r1,zo _,rfl,rfl,by show _=_;rw[HP.o];rfl,I1,G1,xd _ _ _ _⟩
 case round=>
  obtain⟨i,aa,st,am,ag,rfl,HE,IR,GR,HO⟩:=hrel
  clear I1 G1 HP
  by_cases ao:i<N
  ·have al:(i:Int)<N:=by omega
   have ab:Y (res=((aa++[(U.mt st).1])++(ql U.mt (N - (i+1)) (U.mt st).2).1,(ql U.mt (N - (i+1)) (U.mt st).2).2)):=by
    show _=_
    rw[HE.o,show N - i=N - (i+1)+1 by omega,x4];rfl
   have HC:Y (Calls Tryz.prog 223 #[.pointer (some ⟨rb,0,none⟩)] wr fun e w'=>e = .returned (.agg #[.string (R.str (U.mt st).1.name),.bool (U.mt st).1.ask,.string (R.str (U.mt st).1.val)])/\UInv w' rb B (U.mt st).2/\wr.grownBy w' (some rb)):=zlG IR.o
   clear HE
   generalize U.mt st=fx at*
   obtain⟨x,s2⟩:=fx
   simp only at ab HC
   go_wp2_with fail
   refine HC.o.mono ?_
   rintro e w2 ⟨rfl,i2,g2⟩
   have I2:Y (UInv w2 rb B s2):=i2
   have G2:=J (zD GR.o g2)
   have O2:=J (zV HO.o g2 (fun k hk c=>by have:=x5 c;have:=(zx HO.o k hk).1;omega))
   have ap:=G2.o.size
   clear i2 g2 IR GR HO HC
   go_wp2_with (at_builtin;refine wpList_append_own _ rfl _ _ 209 rfl w.heap.size 276 i0 _ 3 40 Tryz.underlying209 hi ai aj ak rfl (by decide) _ _ _ rfl (qK O2.o _) ⟨w2.heap.size,0,none⟩ 1 1 [.string (R.str x.name),.bool x.ask,.string (R.str x.val)] rfl rfl ?c1 ?c2 ?c3 ?c4 ?c5 ?_)
   case c1=>exact zu _ #[_,_,_] _ _ (by simp)
   case c2=>intro u hu;simp at hu;rcases hu with rfl | rfl | rfl <;> rfl
   case c3=>unfold maxLen;omega
   case c4=>omega
   case c5=>simp;omega
   intro v9 w9 af ae _
   have O9:Y (w9.ownsRow w.heap.size 276 3 v9 (aa++[x]).length (xO (aa++[x]))):=by rw[fD,zh,ag];exact af
   have ad:∀k,(u5:Value).ownBlock=some k->w.heap.size<=k:=fun k hk=>(zx O2.o k hk).1
   have I9:Y (UInv w9 rb B s2):=(I2.o.keep (zL _ _ _)).far ae (fun k hk=>qf ah (ad k hk))
   have G9:Y (w.grownBy w9 (some rb)):=qV (zD G2.o (zL _ _ _)) ae ad
   clear af ae ad I2 G2 O2
   go_wp2_with fail
   go_roundw
   case rel=>exact⟨i+1,aa++[x],s2,by omega,by simp;omega,by go_num,ab,I9,G9,O9⟩
   case measure=>simp[intOf];omega
  ·have hE:i=N:=by omega
   subst hE
   rw[Nat.sub_self] at HE
   have ab:Y (res=(aa,st)):=by show _=_;rw[HE.o];simp[ql]
   clear HE
   go_wp2
   go_ret
   rw[ab.o]
   exact⟨_,rfl,IR.o,GR.o,HO.o⟩
theorem znT {w:World}{rb B:Nat}{r:List UInt8}(h:UInv w rb B r) :
  Calls Tryz.prog 224 #[.pointer (some ⟨rb,0,none⟩),.func (.func 225) #[] #[]] w fun e w'=>∃u,e = .returned u/\UInv w' rb B (za U.tg r).2/\w.grownBy w' (some rb)/\w'.ownsRow w.heap.size 285 2 u (za U.tg r).1.length (qB (za U.tg r).1):=by
 obtain⟨i0,hi,ai,aj,ak⟩:=info_parts ziR
 have hN:=j9 r
 have HP:Y (za U.tg r=ql U.tg (qZ r).1 (qZ r).2):=rfl
 have H1:Y (Calls Tryz.prog 170 #[.pointer (some ⟨rb,0,none⟩)] w fun e w'=>e = .returned (.int .i64 ((qZ r).1:Nat))/\UInv w' rb B (qZ r).2/\w.grownBy w' (some rb)):=vI h
 have an:=h.low
 have ah:=h.top
 clear h
 generalize za U.tg r=res at*
 generalize qZ r=p at*
 obtain⟨N,r1⟩:=p
 simp only at hN HP H1
 go_enter Tryz.func224,Tryz.ntmps224
 go_wp2_with fail
 refine H1.o.mono ?_
 rintro e w1 ⟨rfl,i1,g1⟩
 have I1:Y (UInv w1 rb B r1):=i1
 have G1:Y (w.grownBy w1 (some rb)):=g1
 clear i1 g1 H1
 go_wp2_with fail
 go_loopw [5,8] (fun u iv wr=>∃(i:Nat) (aa:List (List UInt8×Int)) (st:List UInt8),i<=N/\aa.length=i/\iv = .int .i64 i/\Y (res=(aa++(ql U.tg (N - i) st).1,(ql U.tg (N - i) st).2))/\Y (UInv wr rb B st)/\Y (w.grownBy wr (some rb))/\Y (wr.ownsRow w.heap.size 285 2 u aa.length (qB aa))) (fun _ iv _=>N - (intOf iv).toNat)
 case atStart=>exact⟨0,[],r1,zo _,rfl,rfl,by show _=_;rw[HP.o];rfl,I1,G1,xd _ _ _ _⟩
 case round=>
  obtain⟨i,aa,st,am,ag,rfl,HE,IR,GR,HO⟩:=hrel
  clear I1 G1 HP
  by_cases ao:i<N
  ·have al:(i:Int)<N:=by omega
   have ab:Y (res=((aa++[(U.tg st).1])++(ql U.tg (N - (i+1)) (U.tg st).2).1,(ql U.tg (N - (i+1)) (U.tg st).2).2)):=by
    show _=_
    rw[HE.o,show N - i=N - (i+1)+1 by omega,x4];rfl
   have HC:Y (Calls Tryz.prog 225 #[.pointer (some ⟨rb,0,none⟩)] wr fun e w'=>e = .returned (.agg #[.string (R.str (U.tg st).1.1),.int .i64 (U.tg st).1.2])/\UInv w' rb B (U.tg st).2/\wr.grownBy w' (some rb)):=zh1 IR.o
   clear HE
   generalize U.tg st=fx at*
   obtain⟨x,s2⟩:=fx
   simp only at ab HC
   go_wp2_with fail
   refine HC.o.mono ?_
   rintro e w2 ⟨rfl,i2,g2⟩
   have I2:Y (UInv w2 rb B s2):=i2
   have G2:=J (zD GR.o g2)
   have O2:=J (zV HO.o g2 (fun k hk c=>by have:=x5 c;have:=(zx HO.o k hk).1;omega))
   have ap:=G2.o.size
   clear i2 g2 IR GR HO HC
   go_wp2_with (at_builtin;refine wpList_append_own _ rfl _ _ 210 rfl w.heap.size 285 i0 _ 2 24 Tryz.underlying210 hi ai aj ak rfl (by decide) _ _ _ rfl (qK O2.o _) ⟨w2.heap.size,0,none⟩ 1 1 [.string (R.str x.1),.int .i64 x.2] rfl rfl ?c1 ?c2 ?c3 ?c4 ?c5 ?_)
   case c1=>exact zu _ #[_,_] _ _ (by simp)
   case c2=>intro u hu;simp at hu;rcases hu with rfl | rfl <;> rfl
   case c3=>unfold maxLen;omega
   case c4=>omega
   case c5=>simp;omega
   intro v9 w9 af ae _
   have O9:Y (w9.ownsRow w.heap.size 285 2 v9 (aa++[x]).length (qB (aa++[x]))):=by rw[yv,zh,ag];exact af
   have ad:∀k,(u5:Value).ownBlock=some k->w.heap.size<=k:=fun k hk=>(zx O2.o k hk).1
   have I9:Y (UInv w9 rb B s2):=(I2.o.keep (zL _ _ _)).far ae (fun k hk=>qf ah (ad k hk))
   have G9:Y (w.grownBy w9 (some rb)):=qV (zD G2.o (zL _ _ _)) ae ad
   clear af ae ad I2 G2 O2
   go_wp2_with fail
   go_roundw
   case rel=>exact⟨i+1,aa++[x],s2,by omega,by simp;omega,by go_num,ab,I9,G9,O9⟩
   case measure=>simp[intOf];omega
  ·have hE:i=N:=by omega
   subst hE
   rw[Nat.sub_self] at HE
   have ab:Y (res=(aa,st)):=by show _=_;rw[HE.o];simp[ql]
   clear HE
   go_wp2
   go_ret
   rw[ab.o]
   exact⟨_,rfl,IR.o,GR.o,HO.o⟩
theorem zp0 {w:World}{rb B:Nat}{r:List UInt8}(h:UInv w rb B r) :
  Calls Tryz.prog 227 #[.pointer (some ⟨rb,0,none⟩),.func (.func 228) #[] #[]] w fun e w'=>∃u,e = .returned u/\UInv w' rb B (za U.st r).2/\w.grownBy w' (some rb)/\w'.ownsRow w.heap.size 280 2 u (za U.st r).1.length (qH (za U.st r).1):=by
 obtain⟨i0,hi,ai,aj,ak⟩:=info_parts ziN
 have hN:=j9 r
 have HP:Y (za U.st r=ql U.st (qZ r).1 (qZ r).2):=rfl
 have H1:Y (Calls Tryz.prog 170 #[.pointer (some ⟨rb,0,none⟩)] w fun e w'=>e = .returned (.int .i64 ((qZ r).1:Nat))/\UInv w' rb B (qZ r).2/\w.grownBy w' (some rb)):=vI h
 have an:=h.low
 have ah:=h.top
 clear h
 generalize za U.st r=res at*
 generalize qZ r=p at*
 obtain⟨N,r1⟩:=p
 simp only at hN HP H1
 go_enter Tryz.func227,Tryz.ntmps227
 go_wp2_with fail
 refine H1.o.mono ?_
 rintro e w1 ⟨rfl,i1,g1⟩
 have I1:Y (UInv w1 rb B r1):=i1
 have G1:Y (w.grownBy w1 (some rb)):=g1
 clear i1 g1 H1
 go_wp2_with fail
 go_loopw [5,8] (fun u iv wr=>∃(i:Nat) (aa:List (List UInt8×List UInt8)) (st:List UInt8),i<=N/\aa.length=i/\iv = .int .i64 i/\Y (res=(aa++(ql U.st (N - i) st).1,(ql U.st (N - i) st).2))/\Y (UInv wr rb B st)/\Y (w.grownBy wr (some rb))/\Y (wr.ownsRow w.heap.size 280 2 u aa.length (qH aa))) (fun _ iv _=>N - (intOf iv).toNat)
 case atStart=>exact⟨0,[],r1,zo _,rfl,rfl,by show _=_;rw[HP.o];rfl,I1,G1,xd _ _ _ _⟩
 case round=>
  obtain⟨i,aa,st,am,ag,rfl,HE,IR,GR,HO⟩:=hrel
  clear I1 G1 HP
  by_cases ao:i<N
  ·have al:(i:Int)<N:=by omega
   have ab:Y (res=((aa++[(U.st st).1])++(ql U.st (N - (i+1)) (U.st st).2).1,(ql U.st (N - (i+1)) (U.st st).2).2)):=by
    show _=_
    rw[HE.o,show N - i=N - (i+1)+1 by omega,x4];rfl
   have HC:Y (Calls Tryz.prog 228 #[.pointer (some ⟨rb,0,none⟩)] wr fun e w'=>e = .returned (.agg #[.string (R.str (U.st st).1.1),.string (R.str (U.st st).1.2)])/\UInv w' rb B (U.st st).2/\wr.grownBy w' (some rb)):=zpI IR.o
   clear HE
   generalize U.st st=fx at*
   obtain⟨x,s2⟩:=fx
   simp only at ab HC
   go_wp2_with fail
   refine HC.o.mono ?_
   rintro e w2 ⟨rfl,i2,g2⟩
   have I2:Y (UInv w2 rb B s2):=i2
   have G2:=J (zD GR.o g2)
   have O2:=J (zV HO.o g2 (fun k hk c=>by have:=x5 c;have:=(zx HO.o k hk).1;omega))
   have ap:=G2.o.size
   clear i2 g2 IR GR HO HC
   go_wp2_with (at_builtin;refine wpList_append_own _ rfl _ _ 211 rfl w.heap.size 280 i0 _ 2 32 Tryz.underlying211 hi ai aj ak rfl (by decide) _ _ _ rfl (qK O2.o _) ⟨w2.heap.size,0,none⟩ 1 1 [.string (R.str x.1),.string (R.str x.2)] rfl rfl ?c1 ?c2 ?c3 ?c4 ?c5 ?_)
   case c1=>exact zu _ #[_,_] _ _ (by simp)
   case c2=>intro u hu;simp at hu;rcases hu with rfl | rfl <;> rfl
   case c3=>unfold maxLen;omega
   case c4=>omega
   case c5=>simp;omega
   intro v9 w9 af ae _
   have O9:Y (w9.ownsRow w.heap.size 280 2 v9 (aa++[x]).length (qH (aa++[x]))):=by rw[jj,zh,ag];exact af
   have ad:∀k,(u5:Value).ownBlock=some k->w.heap.size<=k:=fun k hk=>(zx O2.o k hk).1
   have I9:Y (UInv w9 rb B s2):=(I2.o.keep (zL _ _ _)).far ae (fun k hk=>qf ah (ad k hk))
   have G9:Y (w.grownBy w9 (some rb)):=qV (zD G2.o (zL _ _ _)) ae ad
   clear af ae ad I2 G2 O2
   go_wp2_with fail
   go_roundw
   case rel=>exact⟨i+1,aa++[x],s2,by omega,by simp;omega,by go_num,ab,I9,G9,O9⟩
   case measure=>simp[intOf];omega
  ·have hE:i=N:=by omega
   subst hE
   rw[Nat.sub_self] at HE
   have ab:Y (res=(aa,st)):=by show _=_;rw[HE.o];simp[ql]
   clear HE
   go_wp2
   go_ret
   rw[ab.o]
   exact⟨_,rfl,IR.o,GR.o,HO.o⟩
theorem znV {w:World}{rb B:Nat}{r:List UInt8}(h:UInv w rb B r) :
  Calls Tryz.prog 229 #[.pointer (some ⟨rb,0,none⟩),.func (.func 171) #[] #[]] w fun e w'=>∃u,e = .returned u/\UInv w' rb B (za qC r).2/\w.grownBy w' (some rb)/\w'.ownsRow w.heap.size 9 1 u (za qC r).1.length (zf (za qC r).1):=by
 obtain⟨i0,hi,ai,aj,ak⟩:=info_parts fC
 have hN:=j9 r
 have HP:Y (za qC r=ql qC (qZ r).1 (qZ r).2):=rfl
 have H1:Y (Calls Tryz.prog 170 #[.pointer (some ⟨rb,0,none⟩)] w fun e w'=>e = .returned (.int .i64 ((qZ r).1:Nat))/\UInv w' rb B (qZ r).2/\w.grownBy w' (some rb)):=vI h
 have an:=h.low
 have ah:=h.top
 clear h
 generalize za qC r=res at*
 generalize qZ r=p at*
 obtain⟨N,r1⟩:=p
 simp only at hN HP H1
 go_enter Tryz.func229,Tryz.ntmps229
 go_wp2_with fail
 refine H1.o.mono ?_
 rintro e w1 ⟨rfl,i1,g1⟩
 have I1:Y (UInv w1 rb B r1):=i1
 have G1:Y (w.grownBy w1 (some rb)):=g1
 clear i1 g1 H1
 go_wp2_with fail
 go_loopw [5,8] (fun u iv wr=>∃(i:Nat) (aa:List (List UInt8)) (st:List UInt8),i<=N/\aa.length=i/\iv = .int .i64 i/\Y (res=(aa++(ql qC (N - i) st).1,(ql qC (N - i) st).2))/\Y (UInv wr rb B st)/\Y (w.grownBy wr (some rb))/\Y (wr.ownsRow w.heap.size 9 1 u aa.length (zf aa))) (fun _ iv _=>N - (intOf iv).toNat)
 case atStart=>exact⟨0,[],r1,zo _,rfl,rfl,by show _=_;rw[HP.o];rfl,I1,G1,xd _ _ _ _⟩
 case round=>
  obtain⟨i,aa,st,am,ag,rfl,HE,IR,GR,HO⟩:=hrel
  clear I1 G1 HP
  by_cases ao:i<N
  ·have al:(i:Int)<N:=by omega
   have ab:Y (res=((aa++[(qC st).1])++(ql qC (N - (i+1)) (qC st).2).1,(ql qC (N - (i+1)) (qC st).2).2)):=by
    show _=_
    rw[HE.o,show N - i=N - (i+1)+1 by omega,x4];rfl
   have HC:Y (Calls Tryz.prog 171 #[.pointer (some ⟨rb,0,none⟩)] wr fun e w'=>e = .returned (.string (R.str (qC st).1))/\UInv w' rb B (qC st).2/\wr.grownBy w' (some rb)):=vY IR.o
   clear HE
   generalize qC st=fx at*
   obtain⟨x,s2⟩:=fx
   simp only at ab HC
   go_wp2_with fail
   refine HC.o.mono ?_
   rintro e w2 ⟨rfl,i2,g2⟩
   have I2:Y (UInv w2 rb B s2):=i2
   have G2:=J (zD GR.o g2)
   have O2:=J (zV HO.o g2 (fun k hk c=>by have:=x5 c;have:=(zx HO.o k hk).1;omega))
   have ap:=G2.o.size
   clear i2 g2 IR GR HO HC
   go_wp2_with (at_builtin;refine wpList_append_own _ rfl _ _ 22 rfl w.heap.size 9 i0 _ 1 16 Tryz.underlying22 hi ai aj ak rfl (by decide) _ _ _ rfl (qK O2.o _) ⟨w2.heap.size,0,none⟩ 1 1 [.string (R.str x)] rfl rfl ?c1 ?c2 ?c3 ?c4 ?c5 ?_)
   case c1=>exact zu _ #[_] _ _ (by simp)
   case c2=>intro u hu;simp at hu;subst hu;rfl
   case c3=>unfold maxLen;omega
   case c4=>omega
   case c5=>simp;omega
   intro v9 w9 af ae _
   have O9:Y (w9.ownsRow w.heap.size 9 1 v9 (aa++[x]).length (zf (aa++[x]))):=by rw[yB,zh,ag];exact af
   have ad:∀k,(u5:Value).ownBlock=some k->w.heap.size<=k:=fun k hk=>(zx O2.o k hk).1
   have I9:Y (UInv w9 rb B s2):=(I2.o.keep (zL _ _ _)).far ae (fun k hk=>qf ah (ad k hk))
   have G9:Y (w.grownBy w9 (some rb)):=qV (zD G2.o (zL _ _ _)) ae ad
   clear af ae ad I2 G2 O2
   go_wp2_with fail
   go_roundw
   case rel=>exact⟨i+1,aa++[x],s2,by omega,by simp;omega,by go_num,ab,I9,G9,O9⟩
   case measure=>simp[intOf];omega
  ·have hE:i=N:=by omega
   subst hE
   rw[Nat.sub_self] at HE
   have ab:Y (res=(aa,st)):=by show _=_;rw[HE.o];simp[ql]
   clear HE
   go_wp2
   go_ret
   rw[ab.o]
   exact⟨_,rfl,IR.o,GR.o,HO.o⟩
theorem UInv.safe {w:World}{rb B:Nat}{r:List UInt8}{l:List TypeId}(h:UInv w rb B r)(hn:223 ∉ l):Safe w (some rb) l:=by
 obtain⟨v,h1,_⟩:=h.ex;exact xY h1 hn
theorem zo1 {w:World}{rb B:Nat}{r:List UInt8}(h:UInv w rb B r) :
  Calls Tryz.prog 173 #[.pointer (some ⟨rb,0,none⟩)] w fun e w'=>∃cs,e = .returned (.agg cs.toArray)/\PRuleVal w' cs (y8 r).1/\UInv w' rb B (y8 r).2/\w.grownBy w' (some rb):=by
 have HT:Y (y8 r=(⟨(yn r).1,(qC (yn r).2).1,(za U.mt (qC (yn r).2).2).1,(za U.tg (za U.mt (qC (yn r).2).2).2).1,(kM (za U.tg (za U.mt (qC (yn r).2).2).2).2).1,(za U.st (kM (za U.tg (za U.mt (qC (yn r).2).2).2).2).2).1,(za qC (za U.st (kM (za U.tg (za U.mt (qC (yn r).2).2).2).2).2).2).1⟩,(za qC (za U.st (kM (za U.tg (za U.mt (qC (yn r).2).2).2).2).2).2).2)):=rfl
 have aM:=h.low
 have aO:=h.top
 have ab:some w.heap.size≠some rb:=fun c=>by have:=x5 c;omega
 have ar:Y ((w.alloc (.cells #[.int .i64 0,.string ⟨#[]⟩,.slice none 0 0,.slice none 0 0,.string ⟨#[]⟩,.slice none 0 0,.slice none 0 0] 213)).heap[w.heap.size]?=some (.cells #[.int .i64 0,.string ⟨#[]⟩,.slice none 0 0,.slice none 0 0,.string ⟨#[]⟩,.slice none 0 0,.slice none 0 0] 213)):=heap_alloc_new _ _
 have I0:Y (UInv (w.alloc (.cells #[.int .i64 0,.string ⟨#[]⟩,.slice none 0 0,.slice none 0 0,.string ⟨#[]⟩,.slice none 0 0,.slice none 0 0] 213)) rb B r):=h.keep (zL _ _ _)
 have G0:Y (w.grownBy (w.alloc (.cells #[.int .i64 0,.string ⟨#[]⟩,.slice none 0 0,.slice none 0 0,.string ⟨#[]⟩,.slice none 0 0,.slice none 0 0] 213)) (some rb)):=zL _ _ _
 clear h
 generalize y8 r=res at*
 go_enter Tryz.func173,Tryz.ntmps173
 go_wp2_with fail
 refine(zgT I0.o).mono ?_
 rintro e w1 ⟨rfl,i1,g1⟩
 have I1:Y (UInv w1 rb B (yn r).2):=i1
 have G1:=J (zD G0.o g1)
 have au:=J (zF ar.o g1 ab)
 clear i1 g1 I0 G0 ar
 generalize yn r=p1 at*
 obtain⟨ah,r1⟩:=p1
 simp only at I1 HT
 go_wp2_with fail
 refine(vY I1.o).mono ?_
 rintro e w2 ⟨rfl,i2,g2⟩
 have I2:Y (UInv w2 rb B (qC r1).2):=i2
 have G2:=J (zD G1.o g2)
 have av:=J (zF au.o g2 ab)
 clear i2 g2 I1 G1 au
 generalize qC r1=p2 at*
 obtain⟨ai,r2⟩:=p2
 simp only at I2 HT
 go_wp2_with fail
 refine(zoG I2.o).mono ?_
 rintro e w3 ⟨u3,rfl,i3,g3,o3⟩
 have I3:Y (UInv w3 rb B (za U.mt r2).2):=i3
 have G3:=J (zD G2.o g3)
 have aw:=J (zF av.o g3 ab)
 obtain⟨a3,k3,rfl⟩:=zO o3
 have ad:Y (w3.ownsRow 0 276 3 (.slice a3 (za U.mt r2).1.length k3) (za U.mt r2).1.length (xO (za U.mt r2).1)):=qF o3 (zo _)
 clear i3 g3 o3 I2 G2 av
 generalize za U.mt r2=p3 at*
 obtain⟨ms,r3⟩:=p3
 simp only at I3 HT ad
 go_wp2_with fail
 refine(znT I3.o).mono ?_
 rintro e w4 ⟨u4,rfl,i4,g4,o4⟩
 have I4:Y (UInv w4 rb B (za U.tg r3).2):=i4
 have G4:=J (zD G3.o g4)
 have ax:=J (zF aw.o g4 ab)
 have al:=J (x6 ad.o g4 (I3.o.safe (l:=pleaves) (by decide)) (by decide))
 obtain⟨a4,k4,rfl⟩:=zO o4
 have ae:Y (w4.ownsRow 0 285 2 (.slice a4 (za U.tg r3).1.length k4) (za U.tg r3).1.length (qB (za U.tg r3).1)):=qF o4 (zo _)
 clear i4 g4 o4 I3 G3 aw ad
 generalize za U.tg r3=p4 at*
 obtain⟨tg,r4⟩:=p4
 simp only at I4 HT ae
 go_wp2_with fail
 refine(zgJ I4.o).mono ?_
 rintro e w5 ⟨rfl,i5,g5⟩
 have I5:Y (UInv w5 rb B (kM r4).2):=i5
 have G5:=J (zD G4.o g5)
 have ay:=J (zF ax.o g5 ab)
 have am:=J (x6 al.o g5 (I4.o.safe (l:=pleaves) (by decide)) (by decide))
 have ao:=J (x6 ae.o g5 (I4.o.safe (l:=pleaves) (by decide)) (by decide))
 clear i5 g5 I4 G4 ax al ae
 generalize kM r4=p5 at*
 obtain⟨aj,r5⟩:=p5
 simp only at I5 HT
 go_wp2_with fail
 refine(zp0 I5.o).mono ?_
 rintro e w6 ⟨u6,rfl,i6,g6,o6⟩
 have I6:Y (UInv w6 rb B (za U.st r5).2):=i6
 have G6:=J (zD G5.o g6)
 have az:=J (zF ay.o g6 ab)
 have an:=J (x6 am.o g6 (I5.o.safe (l:=pleaves) (by decide)) (by decide))
 have ap:=J (x6 ao.o g6 (I5.o.safe (l:=pleaves) (by decide)) (by decide))
 obtain⟨a6,k6,rfl⟩:=zO o6
 have af:Y (w6.ownsRow 0 280 2 (.slice a6 (za U.st r5).1.length k6) (za U.st r5).1.length (qH (za U.st r5).1)):=qF o6 (zo _)
 clear i6 g6 o6 I5 G5 ay am ao
 generalize za U.st r5=p6 at*
 obtain⟨ak,r6⟩:=p6
 simp only at I6 HT af
 go_wp2_with fail
 refine(znV I6.o).mono ?_
 rintro e w7 ⟨u7,rfl,i7,g7,o7⟩
 have I7:Y (UInv w7 rb B (za qC r6).2):=i7
 have G7:=J (zD G6.o g7)
 have aa:=J (zF az.o g7 ab)
 have aA:=J (x6 an.o g7 (I6.o.safe (l:=pleaves) (by decide)) (by decide))
 have aB:=J (x6 ap.o g7 (I6.o.safe (l:=pleaves) (by decide)) (by decide))
 have aC:=J (x6 af.o g7 (I6.o.safe (l:=pleaves) (by decide)) (by decide))
 obtain⟨a7,k7,rfl⟩:=zO o7
 have aq:Y (w7.ownsRow 0 9 1 (.slice a7 (za qC r6).1.length k7) (za qC r6).1.length (zf (za qC r6).1)):=qF o7 (zo _)
 clear i7 g7 o7 I6 G6 az an ap af
 generalize za qC r6=p7 at*
 obtain⟨ag,r7⟩:=p7
 simp only at I7 HT aq
 have aF:=zu9 aa.o
 have aP:=zuG 0 aa.o
 have aG:=zu7 aa.o
 have aQ:=zuG 1 aa.o
 have aH:=zuJ aa.o
 have aR:=zuG 2 aa.o
 have aI:=ztQ aa.o
 have aS:=zuG 3 aa.o
 have aJ:=ztV aa.o
 have aT:=zuG 4 aa.o
 have aK:=zu2 aa.o
 have aU:=zuG 5 aa.o
 have aL:=zu6 aa.o
 have aV:=zuG 6 aa.o
 have aN:=G7.o.size
 have hs:=zD (zD (zD (zD (zD (zD (zG w7 w.heap.size 0 (.int .i64 ah)) (zG _ w.heap.size 1 (.string (R.str ai)))) (zG _ w.heap.size 2 (.slice a3 ms.length k3))) (zG _ w.heap.size 3 (.slice a4 tg.length k4))) (zG _ w.heap.size 4 (.string (R.str aj)))) (zG _ w.heap.size 5 (.slice a6 ak.length k6))) (zG _ w.heap.size 6 (.slice a7 ag.length k7))
 go_wp2
 have aD:Y (w7.heap[w.heap.size]?=some (.cells #[.int .i64 0,.string ⟨#[]⟩,.slice none 0 0,.slice none 0 0,.string ⟨#[]⟩,.slice none 0 0,.slice none 0 0] 213)):=aa
 refine bodyPost_ret (v:=.agg #[.int .i64 ah,.string (R.str ai),.slice a3 ms.length k3,.slice a4 tg.length k4,.string (R.str aj),.slice a6 ak.length k6,.slice a7 ag.length k7]) (by simp[results,Tryz.results173,go_sem,aF,aG,aH,aI,aJ,aK,aL]) rfl ?_
 rw[HT.o]
 have aE:=xY aD.o (l:=pleaves) (by decide)
 exact⟨[.int .i64 ah,.string (R.str ai),.slice a3 ms.length k3,.slice a4 tg.length k4,.string (R.str aj),.slice a6 ak.length k6,.slice a7 ag.length k7],rfl,PRuleVal.keep ⟨_,_,_,_,rfl,aA.o,aB.o,aC.o,aq.o⟩ hs aE,I7.o.far hs (fun k c=>by have:=x5 c;omega),zm G7.o hs (zw _)⟩
theorem znJ {w:World}{rb B:Nat}{r:List UInt8}(h:UInv w rb B r) :
  Calls Tryz.prog 172 #[.pointer (some ⟨rb,0,none⟩),.func (.func 173) #[] #[]] w fun e w'=>∃u,e = .returned u/\UInv w' rb B (za y8 r).2/\w.grownBy w' (some rb)/\PRulesRow w' w.heap.size u (za y8 r).1:=by
 obtain⟨i0,hi,ao,ap,aq⟩:=info_parts ziV
 have hN:=j9 r
 have HP:Y (za y8 r=ql y8 (qZ r).1 (qZ r).2):=rfl
 have H1:Y (Calls Tryz.prog 170 #[.pointer (some ⟨rb,0,none⟩)] w fun e w'=>e = .returned (.int .i64 ((qZ r).1:Nat))/\UInv w' rb B (qZ r).2/\w.grownBy w' (some rb)):=vI h
 have av:=h.low
 have an:=h.top
 clear h
 generalize za y8 r=res at*
 generalize qZ r=p at*
 obtain⟨N,r1⟩:=p
 simp only at hN HP H1
 go_enter Tryz.func172,Tryz.ntmps172
 go_wp2_with fail
 refine H1.o.mono ?_
 rintro e w1 ⟨rfl,i1,g1⟩
 have I1:Y (UInv w1 rb B r1):=i1
 have G1:Y (w.grownBy w1 (some rb)):=g1
 clear i1 g1 H1
 go_wp2_with fail
 go_loopw [5,8] (fun u iv wr=>∃(i:Nat) (aa:List P.Rl) (st:List UInt8) (ab:List (List Value)),i<=N/\aa.length=i/\iv = .int .i64 i/\Y (res=(aa++(ql y8 (N - i) st).1,(ql y8 (N - i) st).2))/\Y (UInv wr rb B st)/\Y (w.grownBy wr (some rb))/\Y (wr.ownsRow w.heap.size 213 7 u aa.length ab.flatten)/\Y (All2 (PRuleVal wr) ab aa)) (fun _ iv _=>N - (intOf iv).toNat)
 case atStart=>exact⟨0,[],r1,[],zo _,rfl,rfl,by show _=_;rw[HP.o];rfl,I1,G1,xd _ _ _ _,.nil⟩
 case round=>
  obtain⟨i,aa,st,ab,au,am,rfl,HE,IR,GR,HO,HA⟩:=hrel
  clear I1 G1 HP
  by_cases aw:i<N
  ·have ar:(i:Int)<N:=by omega
   have ad:Y (res=((aa++[(y8 st).1])++(ql y8 (N - (i+1)) (y8 st).2).1,(ql y8 (N - (i+1)) (y8 st).2).2)):=by
    show _=_
    rw[HE.o,show N - i=N - (i+1)+1 by omega,x4];rfl
   have HC:Y (Calls Tryz.prog 173 #[.pointer (some ⟨rb,0,none⟩)] wr fun e w'=>∃cs,e = .returned (.agg cs.toArray)/\PRuleVal w' cs (y8 st).1/\UInv w' rb B (y8 st).2/\wr.grownBy w' (some rb)):=zo1 IR.o
   clear HE
   generalize y8 st=fx at*
   obtain⟨x,s2⟩:=fx
   simp only at ad HC
   go_wp2_with fail
   refine HC.o.mono ?_
   rintro e w2 ⟨cs,rfl,ah,i2,g2⟩
   obtain⟨vM,vT,vS,vD,rfl,hM,aj,hS,hD⟩:=id ah
   obtain⟨m1,m2,rfl⟩:=zO hM
   obtain⟨t1,t2,rfl⟩:=zO aj
   obtain⟨x1,x2,rfl⟩:=zO hS
   obtain⟨d1,d2,rfl⟩:=zO hD
   have ai:Y (PRuleVal w2 [.int .i64 x.number,.string (R.str x.path),.slice m1 x.ms.length m2,.slice t1 x.tg.length t2,.string (R.str x.rep),.slice x1 x.sets.length x2,.slice d1 x.drops.length d2] x):=ah
   have I2:Y (UInv w2 rb B s2):=i2
   have G2:=J (zD GR.o g2)
   have ag:=IR.o.safe (l:=213 :: pleaves) (by decide)
   have O2:=J (x6 HO.o g2 ag (by simp))
   have A2:Y (All2 (PRuleVal w2) ab aa):=HA.o.map fun a b hab=>hab.keep g2 (jV ag)
   have ax:=G2.o.size
   clear i2 g2 IR GR HO HC ag HA ah hM aj hS hD
   go_wp2_with (at_builtin;refine wpList_append_own _ rfl _ _ 144 rfl w.heap.size 213 i0 _ 7 136 Tryz.underlying144 hi ao ap aq rfl (by decide) _ _ _ rfl (qK O2.o _) ⟨w2.heap.size,0,none⟩ 1 1 [.int .i64 x.number,.string (R.str x.path),.slice m1 x.ms.length m2,.slice t1 x.tg.length t2,.string (R.str x.rep),.slice x1 x.sets.length x2,.slice d1 x.drops.length d2] rfl rfl ?c1 ?c2 ?c3 ?c4 ?c5 ?_)
   case c1=>exact zu _ #[_,_,_,_,_,_,_] _ _ (by simp)
   case c2=>intro u hu;simp only[List.mem_cons,List.mem_nil_iff,or_false] at hu;rcases hu with rfl | rfl | rfl | rfl | rfl | rfl | rfl <;> rfl
   case c3=>unfold maxLen;omega
   case c4=>omega
   case c5=>simp;omega
   intro v9 w9 ak ae _
   have gA:w2.grownBy (w2.alloc (.cells #[.int .i64 x.number,.string (R.str x.path),.slice m1 x.ms.length m2,.slice t1 x.tg.length t2,.string (R.str x.rep),.slice x1 x.sets.length x2,.slice d1 x.drops.length d2] 213)) none:=zL _ _ _
   have al:Safe (w2.alloc (.cells #[.int .i64 x.number,.string (R.str x.path),.slice m1 x.ms.length m2,.slice t1 x.tg.length t2,.string (R.str x.rep),.slice x1 x.sets.length x2,.slice d1 x.drops.length d2] 213)) (u5:Value).ownBlock pleaves:=xz (qK O2.o _) (by decide)
   have O9:Y (w9.ownsRow w.heap.size 213 7 v9 (aa++[x]).length (ab++([[.int .i64 x.number,.string (R.str x.path),.slice m1 x.ms.length m2,.slice t1 x.tg.length t2,.string (R.str x.rep),.slice x1 x.sets.length x2,.slice d1 x.drops.length d2]]:List (List Value))).flatten):=by rw[zh,yj,am];exact ak
   have A9:Y (All2 (PRuleVal w9) (ab++([[.int .i64 x.number,.string (R.str x.path),.slice m1 x.ms.length m2,.slice t1 x.tg.length t2,.string (R.str x.rep),.slice x1 x.sets.length x2,.slice d1 x.drops.length d2]]:List (List Value))) (aa++[x])):=(A2.o.snoc ai.o).map fun a b hab=>(hab.keep gA (zi _ _)).keep ae al
   have af:∀k,(u5:Value).ownBlock=some k->w.heap.size<=k:=fun k hk=>(zx O2.o k hk).1
   have I9:Y (UInv w9 rb B s2):=(I2.o.keep gA).far ae (fun k hk=>qf an (af k hk))
   have G9:Y (w.grownBy w9 (some rb)):=qV (zD G2.o (zL _ _ _)) ae af
   clear ak ae af I2 G2 O2 A2 ai gA al
   go_wp2_with fail
   go_roundw
   case rel=>exact⟨i+1,aa++[x],s2,_,by omega,by simp;omega,by go_num,ad,I9,G9,O9,A9⟩
   case measure=>simp[intOf];omega
  ·have hE:i=N:=by omega
   subst hE
   rw[Nat.sub_self] at HE
   have ad:Y (res=(aa,st)):=by show _=_;rw[HE.o];simp[ql]
   clear HE
   go_wp2
   go_ret
   rw[ad.o]
   exact⟨_,rfl,IR.o,GR.o,ab,HO.o,HA.o⟩
theorem zo2 {w:World}{rb B:Nat}{r:List UInt8}(h:UInv w rb B r) :
  Calls Tryz.prog 115 #[.pointer (some ⟨rb,0,none⟩)] w fun e w'=>∃cs,e = .returned (.agg cs.toArray)/\PHostVal w' cs (yP r).1/\UInv w' rb B (yP r).2/\w.grownBy w' (some rb):=by
 have HT:Y (yP r=(⟨(qC r).1,(za y8 (qC r).2).1⟩,(za y8 (qC r).2).2)):=rfl
 have ak:=h.low
 have am:=h.top
 have af:some w.heap.size≠some rb:=fun c=>by have:=x5 c;omega
 have ad:Y ((w.alloc (.cells #[.string ⟨#[]⟩,.slice none 0 0] 146)).heap[w.heap.size]?=some (.cells #[.string ⟨#[]⟩,.slice none 0 0] 146)):=heap_alloc_new _ _
 have I0:Y (UInv (w.alloc (.cells #[.string ⟨#[]⟩,.slice none 0 0] 146)) rb B r):=h.keep (zL _ _ _)
 have G0:Y (w.grownBy (w.alloc (.cells #[.string ⟨#[]⟩,.slice none 0 0] 146)) (some rb)):=zL _ _ _
 clear h
 generalize yP r=res at*
 go_enter Tryz.func115,Tryz.ntmps115
 go_wp2_with fail
 refine(vY I0.o).mono ?_
 rintro e w1 ⟨rfl,i1,g1⟩
 have I1:Y (UInv w1 rb B (qC r).2):=i1
 have G1:=J (zD G0.o g1)
 have ae:=J (zF ad.o g1 af)
 clear i1 g1 I0 G0 ad
 generalize qC r=p1 at*
 obtain⟨nm,r1⟩:=p1
 simp only at I1 HT
 go_wp2_with fail
 refine(znJ I1.o).mono ?_
 rintro e w2 ⟨u2,rfl,i2,g2,o2⟩
 have I2:Y (UInv w2 rb B (za y8 r1).2):=i2
 have G2:=J (zD G1.o g2)
 have aa:=J (zF ae.o g2 af)
 obtain⟨a2,k2,rfl⟩:=wi o2
 have ab:Y (PRulesRow w2 0 (.slice a2 (za y8 r1).1.length k2) (za y8 r1).1):=o2.base (zo _)
 clear i2 g2 o2 I1 G1 ae
 generalize za y8 r1=p2 at*
 obtain⟨rs,r2⟩:=p2
 simp only at I2 HT ab
 have ai:=zuH aa.o
 have an:=zuG 0 aa.o
 have aj:=zuB aa.o
 have ao:=zuG 1 aa.o
 have al:=G2.o.size
 have hs:=zD (zG w2 w.heap.size 0 (.string (R.str nm))) (zG _ w.heap.size 1 (.slice a2 rs.length k2))
 go_wp2
 have ag:Y (w2.heap[w.heap.size]?=some (.cells #[.string ⟨#[]⟩,.slice none 0 0] 146)):=aa
 refine bodyPost_ret (v:=.agg #[.string (R.str nm),.slice a2 rs.length k2]) (by simp[results,Tryz.results115,go_sem,ai,aj]) rfl ?_
 rw[HT.o]
 have ah:=xY ag.o (l:=prtags) (by decide)
 exact⟨[.string (R.str nm),.slice a2 rs.length k2],rfl,PHostVal.keep ⟨_,rfl,ab.o⟩ hs ah,I2.o.far hs (fun k c=>by have:=x5 c;omega),zm G2.o hs (zw _)⟩
theorem zn5 {w:World}{rb B:Nat}{r:List UInt8}(h:UInv w rb B r) :
  Calls Tryz.prog 114 #[.pointer (some ⟨rb,0,none⟩),.func (.func 115) #[] #[]] w fun e w'=>∃u,e = .returned u/\UInv w' rb B (za yP r).2/\w.grownBy w' (some rb)/\PHostsRow w' w.heap.size u (za yP r).1:=by
 obtain⟨i0,hi,an,ao,ap⟩:=info_parts zj4
 have hN:=j9 r
 have HP:Y (za yP r=ql yP (qZ r).1 (qZ r).2):=rfl
 have H1:Y (Calls Tryz.prog 170 #[.pointer (some ⟨rb,0,none⟩)] w fun e w'=>e = .returned (.int .i64 ((qZ r).1:Nat))/\UInv w' rb B (qZ r).2/\w.grownBy w' (some rb)):=vI h
 have au:=h.low
 have am:=h.top
 clear h
 generalize za yP r=res at*
 generalize qZ r=p at*
 obtain⟨N,r1⟩:=p
 simp only at hN HP H1
 go_enter Tryz.func114,Tryz.ntmps114
 go_wp2_with fail
 refine H1.o.mono ?_
 rintro e w1 ⟨rfl,i1,g1⟩
 have I1:Y (UInv w1 rb B r1):=i1
 have G1:Y (w.grownBy w1 (some rb)):=g1
 clear i1 g1 H1
 go_wp2_with fail
 go_loopw [5,8] (fun u iv wr=>∃(i:Nat) (aa:List P.Hst) (st:List UInt8) (ab:List (List Value)),i<=N/\aa.length=i/\iv = .int .i64 i/\Y (res=(aa++(ql yP (N - i) st).1,(ql yP (N - i) st).2))/\Y (UInv wr rb B st)/\Y (w.grownBy wr (some rb))/\Y (wr.ownsRow w.heap.size 146 2 u aa.length ab.flatten)/\Y (All2 (PHostVal wr) ab aa)) (fun _ iv _=>N - (intOf iv).toNat)
 case atStart=>exact⟨0,[],r1,[],zo _,rfl,rfl,by show _=_;rw[HP.o];rfl,I1,G1,xd _ _ _ _,.nil⟩
 case round=>
  obtain⟨i,aa,st,ab,ar,al,rfl,HE,IR,GR,HO,HA⟩:=hrel
  clear I1 G1 HP
  by_cases av:i<N
  ·have aq:(i:Int)<N:=by omega
   have ad:Y (res=((aa++[(yP st).1])++(ql yP (N - (i+1)) (yP st).2).1,(ql yP (N - (i+1)) (yP st).2).2)):=by
    show _=_
    rw[HE.o,show N - i=N - (i+1)+1 by omega,x4];rfl
   have HC:Y (Calls Tryz.prog 115 #[.pointer (some ⟨rb,0,none⟩)] wr fun e w'=>∃cs,e = .returned (.agg cs.toArray)/\PHostVal w' cs (yP st).1/\UInv w' rb B (yP st).2/\wr.grownBy w' (some rb)):=zo2 IR.o
   clear HE
   generalize yP st=fx at*
   obtain⟨x,s2⟩:=fx
   simp only at ad HC
   go_wp2_with fail
   refine HC.o.mono ?_
   rintro e w2 ⟨cs,rfl,ah,i2,g2⟩
   obtain⟨vR,rfl,hR⟩:=id ah
   obtain⟨q1,q2,rfl⟩:=wi hR
   have ai:Y (PHostVal w2 [.string (R.str x.name),.slice q1 x.rules.length q2] x):=ah
   have I2:Y (UInv w2 rb B s2):=i2
   have G2:=J (zD GR.o g2)
   have ag:=IR.o.safe (l:=146 :: prtags) (by decide)
   have O2:=J (x6 HO.o g2 ag (by simp))
   have A2:Y (All2 (PHostVal w2) ab aa):=HA.o.map fun a b hab=>hab.keep g2 (jV ag)
   have aw:=G2.o.size
   clear i2 g2 IR GR HO HC ag HA ah hR
   go_wp2_with (at_builtin;refine wpList_append_own _ rfl _ _ 86 rfl w.heap.size 146 i0 _ 2 40 Tryz.underlying86 hi an ao ap rfl (by decide) _ _ _ rfl (qK O2.o _) ⟨w2.heap.size,0,none⟩ 1 1 [.string (R.str x.name),.slice q1 x.rules.length q2] rfl rfl ?c1 ?c2 ?c3 ?c4 ?c5 ?_)
   case c1=>exact zu _ #[_,_] _ _ (by simp)
   case c2=>intro u hu;simp only[List.mem_cons,List.mem_nil_iff,or_false] at hu;rcases hu with rfl | rfl <;> rfl
   case c3=>unfold maxLen;omega
   case c4=>omega
   case c5=>simp;omega
   intro v9 w9 aj ae _
   have gA:w2.grownBy (w2.alloc (.cells #[.string (R.str x.name),.slice q1 x.rules.length q2] 146)) none:=zL _ _ _
   have ak:Safe (w2.alloc (.cells #[.string (R.str x.name),.slice q1 x.rules.length q2] 146)) (u5:Value).ownBlock prtags:=xz (qK O2.o _) (by decide)
   have O9:Y (w9.ownsRow w.heap.size 146 2 v9 (aa++[x]).length (ab++([[.string (R.str x.name),.slice q1 x.rules.length q2]]:List (List Value))).flatten):=by rw[zh,yj,al];exact aj
   have A9:Y (All2 (PHostVal w9) (ab++([[.string (R.str x.name),.slice q1 x.rules.length q2]]:List (List Value))) (aa++[x])):=(A2.o.snoc ai.o).map fun a b hab=>(hab.keep gA (zi _ _)).keep ae ak
   have af:∀k,(u5:Value).ownBlock=some k->w.heap.size<=k:=fun k hk=>(zx O2.o k hk).1
   have I9:Y (UInv w9 rb B s2):=(I2.o.keep gA).far ae (fun k hk=>qf am (af k hk))
   have G9:Y (w.grownBy w9 (some rb)):=qV (zD G2.o (zL _ _ _)) ae af
   clear aj ae af I2 G2 O2 A2 ai gA ak
   go_wp2_with fail
   go_roundw
   case rel=>exact⟨i+1,aa++[x],s2,_,by omega,by simp;omega,by go_num,ad,I9,G9,O9,A9⟩
   case measure=>simp[intOf];omega
  ·have hE:i=N:=by omega
   subst hE
   rw[Nat.sub_self] at HE
   have ad:Y (res=(aa,st)):=by show _=_;rw[HE.o];simp[ql]
   clear HE
   go_wp2
   go_ret
   rw[ad.o]
   exact⟨_,rfl,IR.o,GR.o,ab,HO.o,HA.o⟩
theorem zb5 {α:Type}(f:List UInt8->α×List UInt8)(V:α->Prop)(hf:∀s,V (f s).1):∀(n:Nat) (r:List UInt8),∀x∈(ql f n r).1,V x
 | 0,_,x,hx=>by cases hx
 | n+1,r,x,hx=>by
  unfold ql at hx
  rcases List.mem_cons.1 hx with h | h
  ·rw[h];exact hf r
  ·exact zb5 f V hf n _ x h
theorem ja {α:Type}(f:List UInt8->α×List UInt8)(V:α->Prop)(hf:∀s,V (f s).1)(r:List UInt8):∀x∈(za f r).1,V x:=zb5 f V hf _ _
theorem fV (r:List UInt8):(qv r).1.1.length<=255:=by
 unfold qv
 split
 ·simp
 ·exact jl _
structure UBr (r:P.Rl):Prop where
 num:0<=r.number/\r.number<=65535
 path:r.path.length<=255
 ml:r.ms.length<=255
 ms:∀m∈r.ms,m.name.length<=255/\m.val.length<=255
 tl:r.tg.length<=255
 tg:∀t∈r.tg,t.1.length<=255/\0<=t.2/\t.2<=65535
 rep:r.rep.length<=255
 sl:r.sets.length<=255
 sets:∀t∈r.sets,t.1.length<=255/\t.2.length<=255
 dl:r.drops.length<=255
 drops:∀t∈r.drops,t.length<=255
structure UBh (h:P.Hst):Prop where
 name:h.name.length<=255
 rl:h.rules.length<=255
 rules:∀r∈h.rules,UBr r
theorem zfO (r:List UInt8):UBr (y8 r).1 where
 num:=zhM r
 path:=jl _
 ml:=jb _ _
 ms:=ja U.mt _ (fun s=>⟨jl s,fV _⟩) _
 tl:=jb _ _
 tg:=ja U.tg _ (fun s=>⟨jl s,zhM _⟩) _
 rep:=fV _
 sl:=jb _ _
 sets:=ja U.st _ (fun s=>⟨jl s,jl _⟩) _
 dl:=jb _ _
 drops:=ja qC _ (fun s=>jl s) _
theorem zg1 (r:List UInt8):UBh (yP r).1 where
 name:=jl r
 rl:=jb _ _
 rules:=ja y8 _ (fun s=>zfO s) _
theorem f7 (b:List UInt8):(jO b).length<=255/\∀h∈jO b,UBh h:=⟨jb _ _,ja yP _ (fun s=>zg1 s) _⟩
theorem UBr.small {r:P.Rl}(h:UBr r):R.Small (toRl r) where
 num:=⟨h.num.1,by have:=h.num.2;show r.number<=99999;omega⟩
 path:=by have:=h.path;show r.path.length<=3000;omega
 ms:=⟨by have:=h.ml;show(r.ms.map mtOf).length<=4000;simp;omega,fun m hm=>by
  obtain⟨x,hx,rfl⟩:=List.mem_map.1 (show m∈r.ms.map mtOf from hm)
  have:=h.ms x hx
  exact⟨by show x.name.length<=3000;omega,by show x.val.length<=3000;omega⟩⟩
 tg:=⟨by have:=h.tl;show r.tg.length<=4000;omega,fun t ht=>by have:=h.tg t ht;exact⟨by omega,by omega,by omega⟩⟩
 «to»:=by have:=h.rep;show r.rep.length<=3000;omega
 sets:=⟨by have:=h.sl;show r.sets.length<=4000;omega,fun t ht=>by have:=h.sets t ht;exact⟨by omega,by omega⟩⟩
 drops:=⟨by have:=h.dl;show r.drops.length<=4000;omega,fun t ht=>by have:=h.drops t ht;omega⟩
theorem UBh.small {h:P.Hst}(hh:UBh h):R.SmallH (toR h) where
 name:=by have:=hh.name;show h.name.length<=3000;omega
 rules:=⟨by have:=hh.rl;show(h.rules.map toRl).length<=4000;simp;omega,fun m hm=>by
  obtain⟨x,hx,rfl⟩:=List.mem_map.1 (show m∈h.rules.map toRl from hm)
  exact(hh.rules x hx).small⟩
theorem UBr.lines {r:P.Rl}(h:UBr r):(R.lines (toRl r)).length<=1000000:=by
 have e1:(toRl r).ms=r.ms.map mtOf:=rfl
 have e2:(toRl r).tg=r.tg:=rfl
 have e3:(toRl r).sets=r.sets:=rfl
 have e4:(toRl r).drops=r.drops:=rfl
 have e5:(toRl r).number=r.number:=rfl
 have e6:(toRl r).path=r.path:=rfl
 have e7:(toRl r).to=r.rep:=rfl
 have h1:((toRl r).ms.map R.lnMt).flatten.length<=(toRl r).ms.length*600:=R.flat_len _ _ _ (fun m hm=>by
  rw[e1] at hm
  obtain⟨x,hx,rfl⟩:=List.mem_map.1 hm
  have:=h.ms x hx
  unfold R.lnMt mtOf;split <;> simp only[zh,R.q_len,zoF,zmU] <;> omega)
 have ht:∀t∈r.tg,(R.lnTg t).length<=300:=fun t ht=>by
  have h:=h.tg t ht
  have h5:=R.decI_len t.2 ⟨h.2.1,by omega⟩
  unfold R.lnTg;simp only[zh,R.q_len,zoF,zmU];omega
 have h2:(R.lnTgs r.tg).length<=r.tg.length*310:=by
  cases hg:r.tg with
  | nil=>simp[R.lnTgs]
  | cons t l=>
   rw[hg] at ht
   have h3:=ht t (by simp)
   have h4:(l.map fun u=>[44,32]++R.lnTg u).flatten.length<=l.length*310:=R.flat_len _ _ _ (fun u hu=>by
    have:=ht u (by simp[hu]);simp only[zh,zoF,zmU];omega)
   unfold R.lnTgs
   rw[zh,zoF,Nat.succ_mul];omega
 have h3:(r.sets.map R.lnSet).flatten.length<=r.sets.length*600:=R.flat_len _ _ _ (fun m hm=>by
  have:=h.sets m hm
  unfold R.lnSet;simp only[zh,R.q_len,zoF,zmU];omega)
 have h4:(r.drops.map R.lnDrop).flatten.length<=r.drops.length*600:=R.flat_len _ _ _ (fun m hm=>by
  have:=h.drops m hm
  unfold R.lnDrop;simp only[zh,R.q_len,zoF,zmU];omega)
 have h5:=R.decI_len r.number ⟨h.num.1,by have:=h.num.2;omega⟩
 have h6:=h.path
 have h7:=h.rep
 have h8:(R.lnTo (toRl r)).length<=400:=by
  unfold R.lnTo;rw[e7];split
  ·simp only[zh,R.q_len,zoF,zmU];omega
  ·simp
 have m1:=h.ml
 have m2:=h.tl
 have m3:=h.sl
 have m4:=h.dl
 rw[e1,xW] at h1
 unfold R.lines R.lnHead
 rw[e1,e2,e3,e4,e5,e6]
 simp only[zh,R.q_len,zoF,zmU]
 omega
theorem UBh.lines {h:P.Hst}(hh:UBh h):(R.hostLines (toR h)).length<=256000000:=by
 have h1:((toR h).rules.map R.lines).flatten.length<=(toR h).rules.length*1000000:=R.flat_len _ _ _ (fun r hr=>by
  obtain⟨x,hx,rfl⟩:=List.mem_map.1 (show r∈h.rules.map toRl from hr)
  exact(hh.rules x hx).lines)
 have e:(toR h).rules.length=h.rules.length:=by show(h.rules.map toRl).length=_;simp
 have e2:(toR h).name=h.name:=rfl
 have h2:=hh.rl
 have h3:=hh.name
 unfold R.hostLines
 rw[e2]
 simp only[zh,R.q_len,zoF,zmU]
 omega
theorem zhC (b:List UInt8):((jO b).map fun h=>R.hostLines (toR h)).flatten.length<=70000000000:=by
 have h1:=f7 b
 have h:=R.flat_len (fun h:P.Hst=>R.hostLines (toR h)) 256000000 (jO b) (fun x hx=>(h1.2 x hx).lines)
 have:=h1.1
 omega
theorem ze5 {w:World}{v:Value}{b:List UInt8}(hr:RdO w v b)(hv:∀g o n c,v = .slice (some ⟨g,o,none⟩) n c->g<w.heap.size)(hl:b.length<=140737488355328) :
  Calls Tryz.prog 75 #[v] w fun e w'=>∃a c,e = .returned (.agg #[.slice a (jO b).length c])/\PHostsRow w' 0 (.slice a (jO b).length c) (jO b)/\w.grownBy w' none:=by
 obtain⟨va,vc,rfl,ak⟩:=hr.form
 have af:(w.alloc (.cells #[.slice none 0 0] 88)).heap.size=w.heap.size+1:=by simp
 have ai:((w.alloc (.cells #[.slice none 0 0] 88)).alloc (.cells #[.slice va b.length vc] 223)).heap.size=w.heap.size+1+1:=by simp
 have gA:w.grownBy ((w.alloc (.cells #[.slice none 0 0] 88)).alloc (.cells #[.slice va b.length vc] 223)) none:=zD (zL _ _ none) (zL _ _ none)
 have ae:((w.alloc (.cells #[.slice none 0 0] 88)).alloc (.cells #[.slice va b.length vc] 223)).heap[w.heap.size+1]?=some (.cells #[.slice va b.length vc] 223):=by
  have:=heap_alloc_new (w.alloc (.cells #[.slice none 0 0] 88)) (.cells #[.slice va b.length vc] 223)
  rw[af] at this
  exact this
 have ad:Y (((w.alloc (.cells #[.slice none 0 0] 88)).alloc (.cells #[.slice va b.length vc] 223)).heap[w.heap.size]?=some (.cells #[.slice none 0 0] 88)):=zF (heap_alloc_new w (.cells #[.slice none 0 0] 88)) (zL _ _ none) (by simp)
 have I0:Y (UInv ((w.alloc (.cells #[.slice none 0 0] 88)).alloc (.cells #[.slice va b.length vc] 223)) (w.heap.size+1) (w.heap.size+2) b):=⟨⟨_,ae,hr.keep gA (fun g o n c e c2=>by cases c2),fun g o n c e=>by have:=hv g o n c e;exact⟨by omega,by omega⟩⟩,hl,by omega,by omega⟩
 have HU:Y (jO b=(za yP (j2 3 b).2).1):=rfl
 have ab:Y (w.grownBy ((w.alloc (.cells #[.slice none 0 0] 88)).alloc (.cells #[.slice va b.length vc] 223)) none):=gA
 clear hr hv gA ae af ai
 generalize jO b=res at*
 go_enter Tryz.func75,Tryz.ntmps75
 go_wp2_with fail
 refine(zcO I0.o 3 (by omega)).mono ?_
 rintro e w1 ⟨a1,k1,rfl,_,i1,g1⟩
 have I1:Y (UInv w1 (w.heap.size+1) (w.heap.size+2) (j2 3 b).2):=i1
 have G1:=J (zm ab.o g1 (by omega))
 have ag:=J (zF ad.o g1 (by simp))
 clear i1 g1 I0 ab ad
 generalize j2 3 b=p at*
 obtain⟨_,r1⟩:=p
 simp only at I1 HU
 go_wp2_with fail
 refine(zn5 I1.o).mono ?_
 rintro e w2 ⟨u2,rfl,i2,g2,o2⟩
 have G2:=J (zm G1.o g2 (by omega))
 have aa:=J (zF ag.o g2 (by simp))
 obtain⟨ah,o3,o4⟩:=o2
 obtain⟨a,c,rfl⟩:=zO o3
 have O2:Y (PHostsRow w2 0 (.slice a (za yP r1).1.length c) (za yP r1).1):=⟨ah,qF o3 (zo _),o4⟩
 have aj:=zuC aa.o
 have al:=zuG 0 aa.o
 clear i2 g2 I1 G1 o3 o4
 rw[<-HU.o] at O2 ⊢
 have hs:=zG w2 w.heap.size 0 (.slice a res.length c)
 go_wp2
 refine bodyPost_ret (v:=.agg #[.slice a res.length c]) (by simp[results,Tryz.results75,go_sem,aj]) rfl ?_
 exact⟨a,c,rfl,O2.o.keep hs (xY aa.o (by decide)),zm G2.o hs (zw _)⟩
theorem vO {w:World}{a:Option Addr}{c:Nat}{l:List UInt8}(h:RdO w (.slice a l.length c) l):(convert 32 9 (.slice a l.length c)).run Tryz.prog w = .ok (.string (R.str l)) w:=by
 rcases h with ⟨_,_,e,rfl⟩ | ⟨g,o,c',e,_,_,h3⟩
 ·exact fG w a c
 ·simp only[qQ,true_and] at e
  obtain⟨rfl,rfl⟩:=e
  exact run_convert_bytes_back (P:=Tryz.prog) w 32 9 5 ⟨g,o,none⟩ c l Tryz.underlying32 Tryz.underlying5 Tryz.underlying9 (fun j hj=>by
   rw[kK]
   exact h3 j _ (xo hj))
theorem RdO.of_row {w:World}{B:Nat}{v:Value}{l:List UInt8}(h:w.ownsRow B 5 1 v l.length (Lib.byteCells l)):RdO w v l:=by
 rcases h.2 with ⟨h1,h2⟩ | ⟨g,cap,cur,hv,hB,hb,hle,r⟩
 ·exact Or.inl ⟨none,0,h1,List.length_eq_zero_iff.1 h2⟩
 ·refine Or.inr ⟨g,0,cap,hv,hle,zI hb,fun j u hu=>?_⟩
  subst hv
  have hj:j<l.length:=(List.getElem?_eq_some_iff.1 hu).1
  rw[Nat.zero_add,qR h j (by omega)]
  unfold Lib.byteCells
  rw[List.getElem?_map,hu];rfl
theorem znN {w:World}{va vb:Value}{a b:List UInt8}(ha:RdO w va a)(hb:RdO w vb b) :
  Calls Tryz.prog 76 #[va,vb] w fun e w'=>e = .returned (.bool (decide (a=b)))/\w'=w:=by
 obtain⟨aa,ac,rfl,_⟩:=ha.form
 obtain⟨ba,bc,rfl,_⟩:=hb.form
 have h1:=vO ha
 have h2:=vO hb
 clear ha hb
 go_enter Tryz.func76,Tryz.ntmps76
 go_wp2
 go_ret
 refine⟨?_,rfl⟩
 show Ending.returned (Value.bool ((R.str a).toList == (R.str b).toList))=_
 rw[ByteArray.toList_eq,ByteArray.toList_eq,R.str_toList,R.str_toList]
 congr 2
 rw[Bool.eq_iff_iff]
 simp
theorem VHst.pk {x:P.Hst}(h:VHst x):VPk x:=⟨h.nl,h.rl,h.rules⟩
theorem zs0 {st:P.St}(h1:st.broken=false)(h2:st.err=0):(yg st).1=0:=by unfold yg;rw[h1,h2];rfl
theorem zo5 {w:World}{v:Value}{b:List UInt8}(hr:RdO w v b)(hv:∀g o n c,v = .slice (some ⟨g,o,none⟩) n c->g<w.heap.size)(hl:b.length<=140737488355328)(hG:Glob w)(hT:GT w) :
  Calls Tryz.prog 44 #[v] w fun e w'=>w.grownBy w' none/\((∃hs a c,VHs hs/\x9 hs=b/\e = .returned (.tuple #[.agg #[.slice a hs.length c],.bool true])/\PHostsRow w' 0 (.slice a hs.length c) hs)\/((∀hs,VHs hs->x9 hs≠b)/\e = .returned (.tuple #[.agg #[.slice none 0 0],.bool false]))):=by
 obtain⟨va,vc,rfl,aV⟩:=hr.form
 have gA:w.grownBy (w.alloc (.cells #[.slice none 0 0] 88)) none:=zL _ _ none
 have aP:(w.alloc (.cells #[.slice none 0 0] 88)).heap.size=w.heap.size+1:=by simp
 have ap:Y (RdO (w.alloc (.cells #[.slice none 0 0] 88)) (.slice va b.length vc) b):=hr.keep gA (fun g o n c e c2=>by cases c2)
 have aC:Y (Calls Tryz.prog 75 #[.slice va b.length vc] (w.alloc (.cells #[.slice none 0 0] 88)) fun e w'=>∃a c,e = .returned (.agg #[.slice a (jO b).length c])/\PHostsRow w' 0 (.slice a (jO b).length c) (jO b)/\(w.alloc (.cells #[.slice none 0 0] 88)).grownBy w' none):=ze5 ap.o (fun g o n c e=>by have:=hv g o n c e;omega) hl
 have HG:Y (Glob (w.alloc (.cells #[.slice none 0 0] 88))):=hG.grown gA
 have HT:Y (GT (w.alloc (.cells #[.slice none 0 0] 88))):=hT.grown gA
 have aO:Y ((w.alloc (.cells #[.slice none 0 0] 88)).heap[w.heap.size]?=some (.cells #[.slice none 0 0] 88)):=heap_alloc_new _ _
 have ax:Y (w.grownBy (w.alloc (.cells #[.slice none 0 0] 88)) none):=gA
 have aF:=zhC b
 have aS:=(f7 b).1
 have aB:Y (∀h∈jO b,R.SmallH (toR h)):=fun h hh=>((f7 b).2 h hh).small
 have az:Y (R.plain ((jO b).map toR)=((jO b).map fun h=>R.hostLines (toR h)).flatten):=zcR _
 have ad:Y (∀hs,VHs hs->x9 hs=b->(qD (R.plain ((jO b).map toR))).1=hs/\(qD (R.plain ((jO b).map toR))).2.broken=false/\(qD (R.plain ((jO b).map toR))).2.err=0/\∀aa,SrtH hs aa->aa=hs):=fun hs h1 h2=>(zoY h1 h2).2
 clear hr hv hG hT gA aP
 generalize jO b=us at*
 go_enter Tryz.func44,Tryz.ntmps44
 go_wp2_with fail
 refine aC.o.mono ?_
 rintro e w1 ⟨a1,c1,rfl,aE,g1⟩
 have ay:Y (Calls Tryz.prog 42 #[.agg #[.slice a1 us.length c1]] w1 fun e w'=>e = .returned (.string (R.str (R.plain (us.map toR))))/\w1.grownBy w' none):=ff _ us aE (by omega) (by omega) aB.o (HT.o.grown g1)
 have G1:Y ((w.alloc (.cells #[.slice none 0 0] 88)).grownBy w1 none):=g1
 have aU:(R.plain (us.map toR)).length<=70000000000:=by rw[az.o];exact aF
 clear aE g1 aC aF aB az
 generalize R.plain (us.map toR)=l at*
 go_wp2_with fail
 refine ay.o.mono ?_
 rintro e w2 ⟨rfl,g2⟩
 have G2:=J (zD G1.o g2)
 have au:=ziG (R.str l) w2 (by rw[R.str_size];omega) (HG.o.grown G2.o) (fun h1 h2=>by
  rw[R.str_toList] at h1 h2 ⊢
  obtain⟨q1,q2,_⟩:=zbZ l h1 h2
  exact⟨by omega,fun h hh=>by have:=(q2 h hh).rl;omega⟩)
 rw[R.str_toList] at au
 have aA:Y (Calls Tryz.prog 67 #[.string (R.str l)] w2 fun e w'=>∃v,e = .returned (.tuple #[.agg #[v],.int .i64 (yg (qD l).2).1,.int .i64 (yg (qD l).2).2])/\w2.grownBy w' none/\
   ((qD l).2.broken=false->(qD l).2.err=0->∃aa,PHostsRow w' 0 v aa/\SrtH (qD l).1 aa)/\∃a n c,v = .slice a n c):=au
 clear au g2 G1 ay
 go_wp2_with fail
 refine aA.o.mono ?_
 rintro e w3 ⟨v3,rfl,g3,aD,a3,n3,c3,rfl⟩
 have am:Y ((qD l).2.broken=false->(qD l).2.err=0->∃aa,PHostsRow w3 0 (.slice a3 n3 c3) aa/\SrtH (qD l).1 aa):=aD
 have G3:=J (zD G2.o g3)
 have ak:Y ((yg (qD l).2).1=0->(qD l).2.broken=false/\(qD l).2.err=0):=fun h=>wJ h
 have al:Y ((qD l).2.broken=false->(qD l).2.err=0->(yg (qD l).2).1=0):=fun h1 h2=>zs0 h1 h2
 clear aD g3 G2 aA
 generalize(yg (qD l).2).2=at3 at*
 generalize(yg (qD l).2).1=er at*
 have gP:w3.grownBy (w3.alloc (.cells #[.slice a3 n3 c3] 88)) none:=zL _ _ none
 have ae:Y ((w3.alloc (.cells #[.slice a3 n3 c3] 88)).heap[w3.heap.size]?=some (.cells #[.slice a3 n3 c3] 88)):=heap_alloc_new _ _
 have af:=J (zF (zF aO.o G3.o (by simp)) gP (by simp))
 have G4:=J (zD G3.o gP)
 have aH:=zuC af.o
 have aQ:=zuG 0 af.o
 by_cases ag:er=0
 ·subst ag
  obtain⟨e1,e2⟩:=ak.o rfl
  obtain⟨aa,av,ah⟩:=am.o e1 e2
  obtain⟨k1,k2,k3⟩:=zbZ l e1 e2
  have ai:=zaO ah k1 k2 k3
  have aK:Y (∀hs,VHs hs->x9 hs=b->aa=hs):=fun hs h1 h2=>by
   obtain⟨f1,_,_,f4⟩:=ad.o hs h1 h2
   rw[f1] at ah
   exact f4 aa ah
  obtain⟨q1,q2,hq⟩:∃q1 q2,Value.slice a3 n3 c3 = .slice q1 aa.length q2:=by obtain⟨css,h1,_⟩:=av;exact zO h1
  simp only[qQ] at hq
  obtain⟨rfl,rfl,rfl⟩:=hq
  have aN:Y (VHs aa):=ai
  have aq:Y (PHostsRow (w3.alloc (.cells #[.slice a3 aa.length c3] 88)) 0 (.slice a3 aa.length c3) aa):=av.keep gP (zi _ _)
  have aj:Y (Calls Tryz.prog 43 #[.agg #[.slice a3 aa.length c3]] (w3.alloc (.cells #[.slice a3 aa.length c3] 88)) (Gives (w3.alloc (.cells #[.slice a3 aa.length c3] 88)) (x9 aa))):=zeQ _ aa aq.o ai.hl (fun x hx=>(ai.hosts x hx).pk)
  clear av ah k1 k2 k3 ai am ak al ad e1 e2 gP G3
  have aR:=zuC ae.o
  obtain⟨pk,ao⟩:∃pk,Y (pk=x9 aa):=⟨_,rfl⟩
  rw[<-ao.o] at aj
  go_wp2_with fail
  refine aj.o.mono ?_
  rintro e w5 ⟨a5,k5,rfl,h5,g5⟩
  have G5:=J (zD (zD ax.o G4.o) g5)
  have aw:Y (Calls Tryz.prog 76 #[.slice a5 pk.length k5,.slice va b.length vc] w5 fun e w'=>e = .returned (.bool (decide (pk=b)))/\w'=w5):=znN (RdO.of_row h5) (ap.o.keep (zD G4.o g5) (fun g o n c e c2=>by cases c2))
  have ar:=J (zF af.o g5 (by simp))
  have aL:=J (zF ae.o g5 (by simp))
  have aM:Y (PHostsRow w5 0 (.slice a3 aa.length c3) aa):=aq.o.keep g5 (zi _ _)
  have y0:=zuC ar.o
  have yf:=zuG 0 ar.o
  have yp:=zuC aL.o
  clear h5 g5 aH aQ aR aj aq af ae G4 ap
  go_wp2_with fail
  refine aw.o.mono ?_
  rintro e wE ⟨rfl,aG⟩
  rw[aG]
  clear aG wE aw
  by_cases ab:pk=b
  ·have an:Y (pk=b):=ab
   rw[show decide (pk=b)=true by simp[ab]]
   clear ab
   have hs:=zG w5 w.heap.size 0 (.slice a3 aa.length c3)
   go_wp2
   refine bodyPost_ret (v:=.tuple #[.agg #[.slice a3 aa.length c3],.bool true]) (by simp[results,Tryz.results44,go_sem,y0]) rfl ?_
   exact⟨zm G5.o hs (zw _),Or.inl ⟨aa,a3,c3,aN.o,ao.o.symm.trans an.o,rfl,aM.o.keep hs (xY ar.o (by decide))⟩⟩
  ·rw[show decide (pk=b)=false by simp[ab]]
   have an:Y (pk≠b):=ab
   clear ab
   have hs:=zG w5 w.heap.size 0 (.slice none 0 0)
   go_wp2
   refine bodyPost_ret (v:=.tuple #[.agg #[.slice none 0 0],.bool false]) (by simp[results,Tryz.results44,go_sem,y0]) rfl ?_
   exact⟨zm G5.o hs (zw _),Or.inr ⟨fun q h1 h2=>an.o (by rw[<-h2,<-aK.o q h1 h2];exact ao.o),rfl⟩⟩
 ·have aT:¬(er=0):=ag
  have hs:=zG (w3.alloc (.cells #[.slice a3 n3 c3] 88)) w.heap.size 0 (.slice none 0 0)
  have aI:=J (zD ax.o G4.o)
  have aJ:Y (∀hs,VHs hs->x9 hs≠b):=fun hs h1 h2=>by
   obtain⟨_,f2,f3,_⟩:=ad.o hs h1 h2
   exact ag (al.o f2 f3)
  clear am ak al ad G3 G4 gP ae ag
  go_wp2
  refine bodyPost_ret (v:=.tuple #[.agg #[.slice none 0 0],.bool false]) (by simp[results,Tryz.results44,go_sem,aH]) rfl ?_
  exact⟨zm aI.o hs (zw _),Or.inr ⟨aJ.o,rfl⟩⟩
end Go.Proofs.YtfocdefchbnkpaaGreatDoor
