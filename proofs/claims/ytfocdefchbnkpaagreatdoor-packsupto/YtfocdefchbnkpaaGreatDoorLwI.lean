/- The law of Pack. -/
import Derived.Test.YtfocdefchbnkpaaGreatDoorAli
import Derived.Test.YtfocdefchbnkpaaGreatDoorRefS
import Derived.Test.YtfocdefchbnkpaaGreatDoorTkG
set_option maxRecDepth 100000
set_option maxHeartbeats 20000000
namespace Go.Proofs.YtfocdefchbnkpaaGreatDoor
open Go.RowKit
theorem zfA {w:World}{wb B:Nat}{vl ve vm:Value}{es:List (Value×Nat×Nat)}(h:L.Inv w wb B vl ve vm es)(s:ByteArray)(aA:s.size<=maxLen)(hB:B<=w.heap.size)(aH:es.length<=100000000)(hG:Glob w) :
  Calls Tryz.prog 56 #[.pointer (some ⟨wb,0,none⟩),.string s] w fun e w'=>e = .returned (.bool true)/\∃aa vb vk,aa.length=4/\w.heap[wb]?=some (.cells #[vl,vb,vk,ve,vm] 77 (0,0))/\L.Inv w' wb B vl ve vm (es++aa)/\Turn w w' (L.F wb vb vk (.slice none 0 0)):=by
 have H0:Y (L.Inv w wb B vl ve vm es):=h
 have am:Y (Calls Tryz.prog 18 #[.string s] w fun e w'=>∃a k,e = .returned (.tuple #[.slice a (yc s.data.toList).length k,.int .i64 (xU s.data.toList).1,.int .i64 (xU s.data.toList).2])/\w'.ownsRow w.heap.size 5 1 (.slice a (yc s.data.toList).length k) (yc s.data.toList).length (Lib.byteCells (yc s.data.toList))/\w.grownBy w' none):=zpQ s w aA hG
 have ao:Y (∀W,Calls Tryz.prog 34 #[.string s] W fun e w'=>∃v,e = .returned (.tuple #[v,.int .i64 (xU s.data.toList).1,.int .i64 (xU s.data.toList).2])/\Below W.heap.size W w'/\((xU s.data.toList).1=0->HostsRow w' W.heap.size v (xI (R.readS s.data.toList).1))):=fun W=>fo s W aA
 have ai:Y ((xU s.data.toList).1=0->∃hs,VHs hs/\xI (R.readS s.data.toList).1=hs.map toR/\yc s.data.toList=x9 hs):=fun h=>zlX h
 have ah:Y ((xU s.data.toList).1≠0->yc s.data.toList=[]):=fun h=>by unfold yc;rw[if_neg h]
 clear hG h
 generalize yc s.data.toList=pt at*
 generalize xU s.data.toList=er at*
 generalize xI (R.readS s.data.toList).1=hsr at*
 obtain⟨ad,aI⟩:=er
 simp only at am ao ai ah
 have HN:Y (∀W,Calls Tryz.prog 36 #[.int .i64 ad] W fun e w'=>e = .returned (.int .i64 ad)/\w'=W):=fun W=>zbX ad W
 go_enter Tryz.func56,Tryz.ntmps56
 go_wp2_with fail
 refine am.o.mono ?_
 rintro e w1 ⟨a1,k1,rfl,aB,g1⟩
 have ay:Y (w1.ownsRow w.heap.size 5 1 (.slice a1 pt.length k1) pt.length (Lib.byteCells pt)):=aB
 have G1:Y (w.grownBy w1 none):=g1
 clear aB g1 am
 go_wp2_with fail
 refine(ao.o w1).mono ?_
 rintro e w2 ⟨v,rfl,az,aC⟩
 have g2:=qJ az
 have G2:=J (zD G1.o g2)
 have ae:Y (w2.ownsRow w.heap.size 5 1 (.slice a1 pt.length k1) pt.length (Lib.byteCells pt)):=zV ay.o g2 (fun _ _ c=>by cases c)
 have ak:Y (ad=0->HostsRow w2 w1.heap.size v hsr):=aC
 clear az aC ao g2 ay G1
 have ag:Y (∀(W:World),w.grownBy W none->W.ownsRow w.heap.size 5 1 (.slice a1 pt.length k1) pt.length (Lib.byteCells pt)->pt.length<=1000000000->Calls Tryz.prog 93 #[.pointer (some ⟨wb,0,none⟩),.slice a1 pt.length k1] W fun e w'=>e = .returned (.tuple #[])/\∃aa vb vk,aa.length=4/\w.heap[wb]?=some (.cells #[vl,vb,vk,ve,vm] 77 (0,0))/\L.Inv w' wb B vl ve vm (es++aa)/\Turn w w' (L.F wb vb vk (.slice none 0 0))):=fun W hW ab au=>by
  refine(zoO (H0.o.keep hW) a1 pt.length k1 w.heap.size _ ab hB hW.size (fun e he g hg=>(zx (H0.o.all e he) g hg).2) aH au).mono ?_
  rintro e w' ⟨rfl,aa,vb,vk,q1,q2,q3,q4⟩
  obtain⟨av,aw,c1,c2,c3⟩:=H0.o.ex
  have hq:W.heap[wb]?=some (.cells #[vl,av,aw,ve,vm] 77 (0,0)):=zF c1 hW (by simp)
  rw[hq] at q2
  simp only[Option.some.injEq,Obj.cells.injEq] at q2
  have e1:av=vb/\aw=vk:=by have:=q2.1;simp at this;exact this
  obtain⟨rfl,rfl⟩:=e1
  refine⟨rfl,aa,av,aw,q1,c1,q3,⟨q4.os.trans hW.os,q4.tape.trans hW.tape,q4.output.trans hW.output,qf hW.size q4.size,fun k hk hn=>(q4.block k (vQ hk hW.size) (fun hF=>?_)).trans (hW.block k hk (by simp))⟩⟩
  rcases hF with z | z | z | z
  ·exact hn (Or.inl z)
  ·exact hn (Or.inr (Or.inl z))
  ·exact hn (Or.inr (Or.inr (Or.inl z)))
  ·have:=(zx ab k z).1;omega
 by_cases aq:ad=0
 ·subst aq
  obtain⟨hs,af,aE,ar⟩:=ai.o rfl
  have ab:=ak.o rfl
  rw[aE] at ab
  obtain⟨ua,uc,rfl⟩:∃ua uc,v = .slice ua (hs.map toR).length uc:=by obtain⟨css,h1,_⟩:=ab;exact zO h1
  have al:Y (Calls Tryz.prog 92 #[.slice ua (hs.map toR).length uc] w2 (Gives w2 pt)):=by
   have h:=zcE _ (hs.map toR) ab (by rw[xW];have:=af.hl;omega) (fun x hx=>by obtain⟨y,hy,rfl⟩:=List.mem_map.1 hx;exact zr0 (af.hosts y hy))
   rw[tE,<-ar] at h
   exact h
  have au:pt.length<=1000000000:=by
   rw[ar,zdG]
   have h1:=yR qO 8000 hs (fun x hx=>zgG (af.hosts x hx).pk)
   have:=af.hl
   unfold xE
   rw[zh];simp;omega
  rw[xW] at al ⊢
  clear ab af aE ar ai ah ak
  go_wp2_with fail
  refine al.o.mono ?_
  rintro e w3 ⟨a3,k3,rfl,aD,g3⟩
  have G3:=J (zD G2.o g3)
  have an:Y (w3.ownsRow w.heap.size 5 1 (.slice a1 pt.length k1) pt.length (Lib.byteCells pt)):=zV ae.o g3 (fun _ _ c=>by cases c)
  have aF:(convert 32 9 (.slice a1 pt.length k1)).run Tryz.prog w3 = .ok (.string (R.str pt)) w3:=vO (RdO.of_row an.o)
  have aG:(convert 32 9 (.slice a3 pt.length k3)).run Tryz.prog w3 = .ok (.string (R.str pt)) w3:=vO (RdO.of_row aD)
  have aj:Y (Calls Tryz.prog 93 #[.pointer (some ⟨wb,0,none⟩),.slice a1 pt.length k1] w3 fun e w'=>e = .returned (.tuple #[])/\∃aa vb vk,aa.length=4/\w.heap[wb]?=some (.cells #[vl,vb,vk,ve,vm] 77 (0,0))/\L.Inv w' wb B vl ve vm (es++aa)/\Turn w w' (L.F wb vb vk (.slice none 0 0))):=ag.o w3 G3.o an.o au
  clear aD g3 G2 ae al ag an
  go_wp2_with (first
   | (go_at_call 36;refine(HN.o _).mono ?_;rintro e w' ⟨rfl,rfl⟩)
   | (go_at_call 93;refine aj.o.mono ?_;rintro e w4 ⟨rfl,hx⟩;have ap:Y (∃aa vb vk,aa.length=4/\w.heap[wb]?=some (.cells #[vl,vb,vk,ve,vm] 77 (0,0))/\L.Inv w4 wb B vl ve vm (es++aa)/\Turn w w4 (L.F wb vb vk (.slice none 0 0))):=hx;clear hx))
  go_ret
  exact⟨rfl,ap.o⟩
 ·have ax:Y (pt=[]):=ah.o aq
  have aJ:(ad == 0)=false:=by rw[beq_eq_false_iff_ne];exact aq
  have aF:(convert 32 9 (.slice a1 pt.length k1)).run Tryz.prog w2 = .ok (.string ⟨#[]⟩) w2:=by
   have h:=vO (RdO.of_row ae.o)
   rw[show R.str pt=⟨#[]⟩ by rw[ax.o];rfl] at h
   exact h
  have aG:(convert 32 9 (.slice none 0 0)).run Tryz.prog w2 = .ok (.string ⟨#[]⟩) w2:=fG w2 none 0
  have aj:Y (Calls Tryz.prog 93 #[.pointer (some ⟨wb,0,none⟩),.slice a1 pt.length k1] w2 fun e w'=>e = .returned (.tuple #[])/\∃aa vb vk,aa.length=4/\w.heap[wb]?=some (.cells #[vl,vb,vk,ve,vm] 77 (0,0))/\L.Inv w' wb B vl ve vm (es++aa)/\Turn w w' (L.F wb vb vk (.slice none 0 0))):=ag.o w2 G2.o ae.o (by rw[ax.o];simp)
  clear ai ah ak ag G2 ae
  go_wp2_with (first
   | (go_at_call 36;refine(HN.o _).mono ?_;rintro e w' ⟨rfl,rfl⟩)
   | (go_at_call 93;refine aj.o.mono ?_;rintro e w4 ⟨rfl,hx⟩;have ap:Y (∃aa vb vk,aa.length=4/\w.heap[wb]?=some (.cells #[vl,vb,vk,ve,vm] 77 (0,0))/\L.Inv w4 wb B vl ve vm (es++aa)/\Turn w w4 (L.F wb vb vk (.slice none 0 0))):=hx;clear hx))
  go_ret
  exact⟨rfl,ap.o⟩
theorem zqU (c:Int)(n:Nat)(w:World)(h1:-9223372036854775808<=c)(h2:c<9223372036854775808)(hn:0<n)(ad:n<9223372036854775808) :
  Calls Tryz.prog 60 #[.int .i64 c,.int .i64 n] w fun e w'=>(∃k:Nat,k<n/\e = .returned (.int .i64 k))/\w'=w:=by
 have ae:¬((n:Int)=0):=by omega
 by_cases hc:c<0
 ·obtain⟨m,hm⟩:∃m:Nat,c = -(m:Int) - 1:=⟨(-c - 1).toNat,by omega⟩
  have ab:m<9223372036854775808:=by omega
  have aa:m % n<n:=Nat.mod_lt _ hn
  subst hm
  go_enter Tryz.func60,Tryz.ntmps60
  go_wp2
  go_ret
  refine⟨⟨m % n,aa,?_⟩,rfl⟩
  show Ending.returned (Value.int .i64 ((m:Int) % (n:Int)))=_
  go_num
 ·obtain⟨m,hm⟩:∃m:Nat,c=(m:Int):=⟨c.toNat,by omega⟩
  have aa:m % n<n:=Nat.mod_lt _ hn
  subst hm
  go_enter Tryz.func60,Tryz.ntmps60
  go_wp2
  go_ret
  refine⟨⟨m % n,aa,?_⟩,rfl⟩
  show Ending.returned (Value.int .i64 ((m:Int) % (n:Int)))=_
  go_num
theorem zs8 (a b:Int):∃r:UInt8,bits .xor .u8 a b=(r.toNat:Int):=by
 have h:∃x:Int,bits .xor .u8 a b=IntKind.u8.wrap x:=⟨_,rfl⟩
 obtain⟨x,hx⟩:=h
 have h2:IntKind.u8.wrap x=x % 256:=rfl
 rw[hx,h2]
 refine⟨UInt8.ofNat (x % 256).toNat,?_⟩
 rw[UInt8.toNat_ofNat']
 omega
def zp5 (w:World)(e:Ending)(w':World):Prop:=∃a k,∃l:List UInt8,e = .returned (.slice a l.length k)/\w'.ownsRow w.heap.size 5 1 (.slice a l.length k) l.length (Lib.byteCells l)/\w.grownBy w' none/\l.length<=1000000000
theorem zpJ (s:ByteArray)(c:Int)(n:Nat)(w:World)(ay:s.size<=maxLen)(h1:-9223372036854775808<=c)(h2:c<9223372036854775808) :
  Calls Tryz.prog 58 #[.string s,.int .i64 c,.int .u64 n] w (zp5 w):=by
 have ai:Y (Calls Tryz.prog 34 #[.string s] w fun e w'=>∃v,e = .returned (.tuple #[v,.int .i64 (xU s.data.toList).1,.int .i64 (xU s.data.toList).2])/\Below w.heap.size w w'/\((xU s.data.toList).1=0->HostsRow w' w.heap.size v (xI (R.readS s.data.toList).1))):=fo s w ay
 have ad:Y ((xU s.data.toList).1=0->∃hs,VHs hs/\xI (R.readS s.data.toList).1=hs.map toR/\yc s.data.toList=x9 hs):=fun h=>zlX h
 generalize yc s.data.toList=pt at*
 generalize xU s.data.toList=er at*
 generalize xI (R.readS s.data.toList).1=hsr at*
 obtain⟨aj,aB⟩:=er
 simp only at ai ad
 go_enter Tryz.func58,Tryz.ntmps58
 go_wp2_with fail
 refine ai.o.mono ?_
 rintro e w1 ⟨v,rfl,al,an⟩
 have G1:=J (qJ al)
 have ag:Y (aj=0->HostsRow w1 w.heap.size v hsr):=an
 clear al an ai
 by_cases am:aj=0
 ·subst am
  obtain⟨hs,ab,ap,ae⟩:=ad.o rfl
  have af:=ag.o rfl
  rw[ap] at af
  obtain⟨ua,uc,rfl⟩:∃ua uc,v = .slice ua (hs.map toR).length uc:=by obtain⟨css,h1,_⟩:=af;exact zO h1
  have ah:Y (Calls Tryz.prog 92 #[.slice ua (hs.map toR).length uc] w1 (Gives w1 pt)):=by
   have h:=zcE _ (hs.map toR) af (by rw[xW];have:=ab.hl;omega) (fun x hx=>by obtain⟨y,hy,rfl⟩:=List.mem_map.1 hx;exact zr0 (ab.hosts y hy))
   rw[tE,<-ae] at h
   exact h
  have az:pt.length<=1000000000:=by
   rw[ae,zdG]
   have h1:=yR qO 8000 hs (fun x hx=>zgG (ab.hosts x hx).pk)
   have:=ab.hl
   unfold xE
   rw[zh];simp;omega
  have aA:0<pt.length:=by
   rw[ae,zdG];omega
  rw[xW] at ah ⊢
  clear af ab ap ae ad ag
  go_wp2_with fail
  refine ah.o.mono ?_
  rintro e w3 ⟨a3,k3,rfl,ao,g3⟩
  have G3:=J (zD G1.o g3)
  have aa:=J (qF ao G1.o.size)
  have ak:Y (Calls Tryz.prog 60 #[.int .i64 c,.int .i64 pt.length] w3 fun e w'=>(∃k:Nat,k<pt.length/\e = .returned (.int .i64 k))/\w'=w3):=zqU c pt.length w3 h1 h2 aA (by omega)
  clear ao g3 ah G1
  go_wp2_with fail
  refine ak.o.mono ?_
  rintro e wX ⟨⟨k,hk,rfl⟩,ar⟩
  rw[ar]
  clear ar wX ak
  obtain⟨g,gc,e1,aw,_⟩:=World.ownsRow.form aa.o (by omega)
  simp only[qQ,true_and] at e1
  obtain⟨rfl,rfl⟩:=e1
  have aC:(k:Int)<pt.length:=by omega
  have av:=xh pt
  have ck:w3.cell? ⟨g,k,none⟩=some (.int .u8 (pt[k].toNat:Nat)):=by
   rw[qR aa.o k (by omega)]
   unfold Lib.byteCells
   simp[hk]
  have fk:w3.frozen? ⟨g,k,none⟩=false:=World.ownsRow.frozenAt aa.o k
  obtain⟨r,hx⟩:=zs8 (pt[k].toNat:Int) ((n:Int) % 256)
  obtain⟨aq,ax⟩:=World.ownsRow.stored aa.o k (.int .u8 (r.toNat:Nat))
  have au:Y ((w3.setCell ⟨g,k,none⟩ (.int .u8 (r.toNat:Nat))).ownsRow w.heap.size 5 1 (.slice (some ⟨g,0,none⟩) pt.length k3) pt.length (Lib.byteCells (pt.set k r))):=by
   have e:Lib.byteCells (pt.set k r)=(Lib.byteCells pt).set k (.int .u8 (r.toNat:Nat)):=by unfold Lib.byteCells;rw[List.map_set]
   rw[e];exact aq
  have G4:Y (w.grownBy (w3.setCell ⟨g,k,none⟩ (.int .u8 (r.toNat:Nat))) none):=zm G3.o (zG _ _ _ _) aw
  clear aq ax aa G3 av
  generalize pt[k]=pk at*
  go_wp2
  go_ret
  have e:(pt.set k r).length=pt.length:=List.length_set
  refine⟨some ⟨g,0,none⟩,k3,pt.set k r,?_,?_,G4.o,?_⟩
  ·rw[e];rfl
  ·rw[e];exact au.o
  ·rw[e];exact az
 ·have aD:(aj == 0)=false:=by rw[beq_eq_false_iff_ne];exact am
  clear ad ag
  go_wp2
  go_ret
  exact⟨none,0,[],rfl,xd _ _ _ _,G1.o,by simp⟩
def L.Stp (w w':World)(wb B:Nat)(vl ve vm:Value)(es:List (Value×Nat×Nat)):Prop:=∃es',es'.length<=4/\L.Inv w' wb B vl ve vm (es++es')/\Turn w w' (fun k=>B<=k)
theorem Turn.of_grown {w w':World}{F:Nat->Prop}(g:w.grownBy w' none):Turn w w' F:=⟨g.os,g.tape,g.output,g.size,fun k hk _=>g.block k hk (by simp)⟩
theorem L.Inv.still {w w':World}{wb B:Nat}{vl ve vm:Value}{es:List (Value×Nat×Nat)}(h:L.Inv w wb B vl ve vm es)(g:w.grownBy w' none):L.Stp w w' wb B vl ve vm es:=
 ⟨[],by simp,by rw[zb3];exact h.keep g,Turn.of_grown g⟩
theorem L.Inv.stp {w w':World}{wb B:Nat}{vl ve vm:Value}{es:List (Value×Nat×Nat)}(h:L.Inv w wb B vl ve vm es)
  (hx:∃aa vb vk,aa.length=4/\w.heap[wb]?=some (.cells #[vl,vb,vk,ve,vm] 77 (0,0))/\L.Inv w' wb B vl ve vm (es++aa)/\Turn w w' (L.F wb vb vk (.slice none 0 0))):L.Stp w w' wb B vl ve vm es:=by
 obtain⟨aa,vb,vk,q1,q2,q3,q4⟩:=hx
 obtain⟨ab,ad,c1,c2,c3⟩:=h.ex
 rw[c1] at q2
 simp only[Option.some.injEq,Obj.cells.injEq] at q2
 have e1:ab=vb/\ad=vk:=by have:=q2.1;simp at this;exact this
 obtain⟨rfl,rfl⟩:=e1
 refine⟨aa,by omega,q3,⟨q4.os,q4.tape,q4.output,q4.size,fun k hk hn=>q4.block k hk (fun hF=>hn ?_)⟩⟩
 rcases hF with z | z | z | z
 ·rw[z];exact h.low
 ·exact(zx c2 k z).1
 ·exact(zx c3 k z).1
 ·cases z
theorem L.Stp.after {w x w':World}{wb B:Nat}{vl ve vm:Value}{es:List (Value×Nat×Nat)}(h:L.Stp x w' wb B vl ve vm es)(g:w.grownBy x none):L.Stp w w' wb B vl ve vm es:=by
 obtain⟨aa,h1,h2,h3⟩:=h
 exact⟨aa,h1,h2,(Turn.of_grown g).trans h3 (fun _ h=>h) (fun _ h=>h)⟩
structure L.Arg (w:World) (s:ByteArray) (sa:Option Addr) (sc:Nat) (l:List UInt8):Prop where
 sz:s.size<=maxLen
 rd:RdO w (.slice sa l.length sc) l
 bk:l≠[]->∀g o,sa=some ⟨g,o,none⟩->g<w.heap.size
 nil:sa=none->l=[]
 ln:l.length<=1000000000000
theorem L.Arg.keep {w w':World}{s:ByteArray}{sa:Option Addr}{sc:Nat}{l:List UInt8}(h:L.Arg w s sa sc l)(hg:w.grownBy w' none):L.Arg w' s sa sc l:=
 ⟨h.sz,h.rd.keep hg (fun _ _ _ _ _ c=>by cases c),fun h0 g o e=>vQ (h.bk h0 g o e) hg.size,h.nil,h.ln⟩
theorem zpA {w:World}{wb B:Nat}{vl ve vm:Value}{es:List (Value×Nat×Nat)}(h:L.Inv w wb B vl ve vm es)(k e c n:Int){s:ByteArray}{sa:Option Addr}{sc:Nat}{l:List UInt8}(ha:L.Arg w s sa sc l)(hB:B<=w.heap.size)(af:es.length<=100000000)(hG:Glob w)(hT:GT w) :
  Calls Tryz.prog 59 #[.pointer (some ⟨wb,0,none⟩),.agg #[.int .i64 k,.int .i64 e,.int .i64 c,.int .u64 n,.string s,.slice sa l.length sc]] w fun e w'=>e = .returned (.bool true)/\L.Stp w w' wb B vl ve vm es:=by
 have gA:w.grownBy (w.alloc (.cells #[.int .i64 k,.int .i64 e,.int .i64 c,.int .u64 n,.string s,.slice sa l.length sc] 80)) none:=zL _ _ none
 have ab:Y ((w.alloc (.cells #[.int .i64 k,.int .i64 e,.int .i64 c,.int .u64 n,.string s,.slice sa l.length sc] 80)).heap[w.heap.size]?=some (.cells #[.int .i64 k,.int .i64 e,.int .i64 c,.int .u64 n,.string s,.slice sa l.length sc] 80)):=heap_alloc_new _ _
 have H1:Y (Calls Tryz.prog 14 #[.string s] (w.alloc (.cells #[.int .i64 k,.int .i64 e,.int .i64 c,.int .u64 n,.string s,.slice sa l.length sc] 80)) fun e w'=>e = .returned (.bool true)/\L.Stp w w' wb B vl ve vm es):=(zdI s _ ha.sz (hG.grown gA) (hT.grown gA)).mono fun e w' ⟨q1,q2⟩=>⟨q1,h.still (zD gA q2)⟩
 have H2:Y (Calls Tryz.prog 56 #[.pointer (some ⟨wb,0,none⟩),.string s] (w.alloc (.cells #[.int .i64 k,.int .i64 e,.int .i64 c,.int .u64 n,.string s,.slice sa l.length sc] 80)) fun e w'=>e = .returned (.bool true)/\L.Stp w w' wb B vl ve vm es):=(zfA (h.keep gA) s ha.sz (qf hB gA.size) af (hG.grown gA)).mono fun e w' ⟨q1,q2⟩=>⟨q1,((h.keep gA).stp q2).after gA⟩
 have H3:Y (Calls Tryz.prog 57 #[.slice sa l.length sc] (w.alloc (.cells #[.int .i64 k,.int .i64 e,.int .i64 c,.int .u64 n,.string s,.slice sa l.length sc] 80)) fun e w'=>e = .returned (.bool true)/\L.Stp w w' wb B vl ve vm es):=(zbH (ha.keep gA).rd (ha.keep gA).bk ha.nil ha.ln (hG.grown gA) (hT.grown gA)).mono fun e w' ⟨q1,q2⟩=>⟨q1,h.still (zD gA q2)⟩
 have c0:=ztZ ab.o
 have c4:=zu8 ab.o
 have c5:=ztR ab.o
 clear h ha hG hT gA
 go_enter Tryz.func59,Tryz.ntmps59
 go_upto_region 2 with fail
 generalize w.alloc (.cells #[.int .i64 k,.int .i64 e,.int .i64 c,.int .u64 n,.string s,.slice sa l.length sc] 80)=wa at*
 by_cases ad:k=1
 ·subst ad
  go_wp2_with (go_at_call 14;refine H1.o.mono ?_;rintro e w1 ⟨rfl,hx⟩;have aa:Y (L.Stp w w1 wb B vl ve vm es):=hx;clear hx)
  go_ret
  exact⟨rfl,aa.o⟩
 ·have e1:(k == 1)=false:=by rw[beq_eq_false_iff_ne];exact ad
  by_cases ae:k=2
  ·subst ae
   go_wp2_with (go_at_call 56;refine H2.o.mono ?_;rintro e w1 ⟨rfl,hx⟩;have aa:Y (L.Stp w w1 wb B vl ve vm es):=hx;clear hx)
   go_ret
   exact⟨rfl,aa.o⟩
  ·have e2:(k == 2)=false:=by rw[beq_eq_false_iff_ne];exact ae
   go_wp2_with (go_at_call 57;refine H3.o.mono ?_;rintro e w1 ⟨rfl,hx⟩;have aa:Y (L.Stp w w1 wb B vl ve vm es):=hx;clear hx)
   go_ret
   exact⟨rfl,aa.o⟩
theorem znZ {w:World}{wb B:Nat}{ve vm:Value}{es:List (Value×Nat×Nat)}(h:L.Inv w wb B (.slice none 0 0) ve vm es)(k e c n:Int)(hk:k<=3){s:ByteArray}{sa:Option Addr}{sc:Nat}{l:List UInt8}(ha:L.Arg w s sa sc l)(hB:B<=w.heap.size)(af:es.length<=100000000)(hG:Glob w)(hT:GT w) :
  Calls Tryz.prog 38 #[.pointer (some ⟨wb,0,none⟩),.agg #[.int .i64 k,.int .i64 e,.int .i64 c,.int .u64 n,.string s,.slice sa l.length sc]] w fun e w'=>e = .returned (.bool true)/\L.Stp w w' wb B (.slice none 0 0) ve vm es:=by
 have gA:w.grownBy (w.alloc (.cells #[.int .i64 k,.int .i64 e,.int .i64 c,.int .u64 n,.string s,.slice sa l.length sc] 80)) none:=zL _ _ none
 have aa:Y ((w.alloc (.cells #[.int .i64 k,.int .i64 e,.int .i64 c,.int .u64 n,.string s,.slice sa l.length sc] 80)).heap[w.heap.size]?=some (.cells #[.int .i64 k,.int .i64 e,.int .i64 c,.int .u64 n,.string s,.slice sa l.length sc] 80)):=heap_alloc_new _ _
 have H1:Y (Calls Tryz.prog 59 #[.pointer (some ⟨wb,0,none⟩),.agg #[.int .i64 k,.int .i64 e,.int .i64 c,.int .u64 n,.string s,.slice sa l.length sc]] (w.alloc (.cells #[.int .i64 k,.int .i64 e,.int .i64 c,.int .u64 n,.string s,.slice sa l.length sc] 80)) fun e w'=>e = .returned (.bool true)/\L.Stp w w' wb B (.slice none 0 0) ve vm es):=(zpA (h.keep gA) k e c n (ha.keep gA) (qf hB gA.size) af (hG.grown gA) (hT.grown gA)).mono fun e w' ⟨q1,q2⟩=>⟨q1,q2.after gA⟩
 have ad:Y (L.Stp w (w.alloc (.cells #[.int .i64 k,.int .i64 e,.int .i64 c,.int .u64 n,.string s,.slice sa l.length sc] 80)) wb B (.slice none 0 0) ve vm es):=h.still gA
 have c0:=ztZ aa.o
 have c1:=ztS aa.o
 have c2:=ztU aa.o
 have c3:=zuF aa.o
 have c4:=zu8 aa.o
 have c5:=ztR aa.o
 have cl:(w.alloc (.cells #[.int .i64 k,.int .i64 e,.int .i64 c,.int .u64 n,.string s,.slice sa l.length sc] 80)).cell? ⟨wb,0,none⟩=some (.slice none 0 0):=by
  obtain⟨vb,vk,ae,_,_⟩:=(h.keep gA).ex
  exact zB ae
 clear h ha hG hT gA
 go_enter Tryz.func38,Tryz.ntmps38
 go_upto_region 2 with fail
 generalize w.alloc (.cells #[.int .i64 k,.int .i64 e,.int .i64 c,.int .u64 n,.string s,.slice sa l.length sc] 80)=wa at*
 by_cases ah:k<1
 ·have e1:(k == 1)=false:=by rw[beq_eq_false_iff_ne];omega
  have e2:(k == 2)=false:=by rw[beq_eq_false_iff_ne];omega
  have e3:(k == 3)=false:=by rw[beq_eq_false_iff_ne];omega
  have e4:(k == 4)=false:=by rw[beq_eq_false_iff_ne];omega
  clear H1
  go_wp2_with fail
  go_ret
  exact⟨rfl,ad.o⟩
 ·have ag:k=1\/k=2\/k=3:=by omega
  rcases ag with rfl | rfl | rfl
  ·go_wp2_with (go_at_call 59;refine H1.o.mono ?_;rintro e w1 ⟨rfl,hx⟩;have ab:Y (L.Stp w w1 wb B (.slice none 0 0) ve vm es):=hx;clear hx)
   go_ret
   exact⟨rfl,ab.o⟩
  ·go_wp2_with (go_at_call 59;refine H1.o.mono ?_;rintro e w1 ⟨rfl,hx⟩;have ab:Y (L.Stp w w1 wb B (.slice none 0 0) ve vm es):=hx;clear hx)
   go_ret
   exact⟨rfl,ab.o⟩
  ·go_wp2_with (go_at_call 59;refine H1.o.mono ?_;rintro e w1 ⟨rfl,hx⟩;have ab:Y (L.Stp w w1 wb B (.slice none 0 0) ve vm es):=hx;clear hx)
   go_ret
   exact⟨rfl,ab.o⟩
theorem L.Stp.grown {w0 w w':World}{wb B:Nat}{vl ve vm:Value}{es:List (Value×Nat×Nat)}(h:L.Stp w w' wb B vl ve vm es)(g:w0.grownBy w none)(hB:w0.heap.size<=B):w0.grownBy w' none:=by
 obtain⟨aa,_,_,h3⟩:=h
 exact h3.grown g (fun k hk=>qf hB hk)
theorem L.Stp.then {w x w':World}{wb B:Nat}{vl ve vm:Value}{es:List (Value×Nat×Nat)}(h:L.Stp w x wb B vl ve vm es)(g:x.grownBy w' none):L.Stp w w' wb B vl ve vm es:=by
 obtain⟨aa,h1,h2,h3⟩:=h
 exact⟨aa,h1,h2.keep g,h3.step g (fun k hk=>by cases hk)⟩
theorem zkK {w0 w:World}{wb B:Nat}{vl ve vm:Value}{es:List (Value×Nat×Nat)}(h:L.Inv w wb B vl ve vm es)(g0:w0.grownBy w none)(ad:w0.heap.size<=B)(hB:B<=w.heap.size)(ae:es.length<=100000000)(hG:Glob w0)(hT:GT w0) :
  Calls Tryz.prog 37 #[.pointer (some ⟨wb,0,none⟩),.int .i64 3] w fun e w'=>e = .returned (.bool true)/\L.Stp w w' wb B vl ve vm es:=by
 have H1:Y (∀s:ByteArray,s.size<=maxLen->Calls Tryz.prog 14 #[.string s] w fun e w'=>e = .returned (.bool true)/\w.grownBy w' none):=fun s hs=>zdI s w hs (hG.grown g0) (hT.grown g0)
 have H2:Y (∀(s:ByteArray) W,s.size<=maxLen->w.grownBy W none->Calls Tryz.prog 56 #[.pointer (some ⟨wb,0,none⟩),.string s] W fun e w'=>e = .returned (.bool true)/\L.Stp w w' wb B vl ve vm es):=fun s W hs hW=>(zfA (h.keep hW) s hs (qf hB hW.size) ae (hG.grown (zD g0 hW))).mono fun e w' ⟨q1,q2⟩=>⟨q1,((h.keep hW).stp q2).after hW⟩
 have H3:Y (∀(s:ByteArray) W,s.size<=maxLen->Calls Tryz.prog 58 #[.string s,.int .i64 0,.int .u64 0] W (zp5 W)):=fun s W hs=>zpJ s 0 0 W hs (by decide) (by decide)
 have H4:Y (∀(W W':World) (a:Option Addr) (k:Nat) (l:List UInt8),L.Stp w W wb B vl ve vm es->W'.ownsRow W.heap.size 5 1 (.slice a l.length k) l.length (Lib.byteCells l)->W.grownBy W' none->l.length<=1000000000->Calls Tryz.prog 57 #[.slice a l.length k] W' fun e w'=>e = .returned (.bool true)/\L.Stp w w' wb B vl ve vm es):=fun W W' a k l hs hr hg hl=>by
  have gg:w0.grownBy W' none:=zD (hs.grown g0 ad) hg
  refine(zbH (RdO.of_row hr) (fun _ g o e=>?_) (fun e=>?_) (by omega) (hG.grown gg) (hT.grown gg)).mono fun e w' ⟨q1,q2⟩=>⟨q1,(hs.then hg).then q2⟩
  ·subst e;exact(zx hr g rfl).2
  ·subst e
   by_cases hz:l.length=0
   ·exact List.length_eq_zero_iff.1 hz
   ·obtain⟨g,gc,e1,_,_⟩:=World.ownsRow.form hr (by omega)
    simp at e1
 clear h hG hT g0
 go_enter Tryz.func37,Tryz.ntmps37
 go_wp2_with fail
 refine(H1.o _ (by rw[tZ];decide)).mono ?_
 rintro e w1 ⟨rfl,g1⟩
 have G1:Y (w.grownBy w1 none):=g1
 clear g1 H1
 go_wp2_with fail
 refine(H2.o _ _ (by rw[tZ];decide) G1.o).mono ?_
 rintro e w2 ⟨rfl,aa⟩
 have S2:Y (L.Stp w w2 wb B vl ve vm es):=aa
 clear aa G1 H2
 go_wp2_with fail
 refine(H3.o _ _ (by rw[tZ];decide)).mono ?_
 rintro e w3 ⟨a,k,l,rfl,hr,hg,hl⟩
 have HU:Y (Calls Tryz.prog 57 #[.slice a l.length k] w3 fun e w'=>e = .returned (.bool true)/\L.Stp w w' wb B vl ve vm es):=H4.o w2 w3 a k l S2.o hr hg hl
 clear hr hg hl H3 H4 S2
 go_wp2_with fail
 refine HU.o.mono ?_
 rintro e w4 ⟨rfl,hx⟩
 have ab:Y (L.Stp w w4 wb B vl ve vm es):=hx
 clear hx HU
 go_wp2
 go_ret
 exact⟨rfl,ab.o⟩
def ft (w:World)(va:Option Addr)(n:Nat):Prop:=∀i,i<n->∃bk o,va=some ⟨bk,o,none⟩/\∃(k e c N:Int) (s:ByteArray) (sa:Option Addr) (sc:Nat) (l:List UInt8),
 w.cell? ⟨bk,o+i*6,none⟩=some (.int .i64 k)/\w.cell? ⟨bk,o+i*6+1,none⟩=some (.int .i64 e)/\w.cell? ⟨bk,o+i*6+2,none⟩=some (.int .i64 c)/\w.cell? ⟨bk,o+i*6+3,none⟩=some (.int .u64 N)/\w.cell? ⟨bk,o+i*6+4,none⟩=some (.string s)/\w.cell? ⟨bk,o+i*6+5,none⟩=some (.slice sa l.length sc)/\L.Arg w s sa sc l
theorem zkM {w:World}{va:Option Addr}{n vc:Nat}(hx:ft w va n)(hn:n<=1100000)(hG:Glob w)(hT:GT w) :
  Calls Tryz.prog 15 #[.slice va n vc,.int .i64 3] w fun e w'=>e = .returned (.bool true)/\w.grownBy w' none:=by
 have gA:w.grownBy (w.alloc (.cells #[.slice none 0 0,.slice none 0 0,.slice none 0 0,.slice none 0 0,.slice none 0 0] 77)) none:=zL _ _ none
 have ai:L.Inv (w.alloc (.cells #[.slice none 0 0,.slice none 0 0,.slice none 0 0,.slice none 0 0,.slice none 0 0] 77)) w.heap.size w.heap.size (.slice none 0 0) (.slice none 0 0) (.slice none 0 0) []:=⟨⟨_,_,heap_alloc_new _ _,xd _ _ _ _,xd _ _ _ _⟩,(fun e he=>by cases he),zw _,(fun e he=>by cases he)⟩
 have HX:Y (ft w va n):=hx
 have ag:Y (Calls Tryz.prog 37 #[.pointer (some ⟨w.heap.size,0,none⟩),.int .i64 3] (w.alloc (.cells #[.slice none 0 0,.slice none 0 0,.slice none 0 0,.slice none 0 0,.slice none 0 0] 77)) fun e w'=>e = .returned (.bool true)/\L.Stp (w.alloc (.cells #[.slice none 0 0,.slice none 0 0,.slice none 0 0,.slice none 0 0,.slice none 0 0] 77)) w' w.heap.size w.heap.size (.slice none 0 0) (.slice none 0 0) (.slice none 0 0) []):=zkK ai gA (zw _) gA.size (by simp) hG hT
 have HG:Y (Glob w):=hG
 have HT:Y (GT w):=hT
 have GA:Y (w.grownBy (w.alloc (.cells #[.slice none 0 0,.slice none 0 0,.slice none 0 0,.slice none 0 0,.slice none 0 0] 77)) none):=gA
 clear hx ai hG hT gA
 go_enter Tryz.func15,Tryz.ntmps15
 go_wp2_with fail
 refine ag.o.mono ?_
 rintro e w1 ⟨rfl,ak⟩
 have G1:Y (w.grownBy w1 none):=ak.grown GA.o (zw _)
 obtain⟨ah,av,af,_⟩:=ak
 rw[List.nil_append] at af
 have I1:Y (L.Inv w1 w.heap.size w.heap.size (.slice none 0 0) (.slice none 0 0) (.slice none 0 0) ah):=af
 clear af ag GA
 go_wp2_with fail
 go_loopw [6,7] (fun ok iv wr=>∃i:Nat,i<=n/\iv = .int .i64 i/\ok = .bool true/\∃es,es.length<=4*(i+1)/\Y (L.Inv wr w.heap.size w.heap.size (.slice none 0 0) (.slice none 0 0) (.slice none 0 0) es)/\Y (w.grownBy wr none)) (fun _ iv _=>n - (intOf iv).toNat)
 case atStart=>exact⟨0,zo _,rfl,rfl,ah,by omega,I1,G1⟩
 case round=>
  obtain⟨i,au,rfl,rfl,es,aq,HI,aa⟩:=hrel
  clear I1 G1
  by_cases ap:i<n
  ·have ar:(i:Int)<n:=by omega
   obtain⟨bk,o,rfl,k,e,c,N,s,sa,sc,l,q0,q1,q2,q3,q4,q5,ha⟩:=HX.o i ap
   have d0:wr.cell? ⟨bk,o+i*6,none⟩=some (.int .i64 k):=aa.o.cell (a:=⟨bk,o+i*6,none⟩) q0 (by simp)
   have d1:wr.cell? ⟨bk,o+i*6+1,none⟩=some (.int .i64 e):=aa.o.cell (a:=⟨bk,o+i*6+1,none⟩) q1 (by simp)
   have d2:wr.cell? ⟨bk,o+i*6+2,none⟩=some (.int .i64 c):=aa.o.cell (a:=⟨bk,o+i*6+2,none⟩) q2 (by simp)
   have d3:wr.cell? ⟨bk,o+i*6+3,none⟩=some (.int .u64 N):=aa.o.cell (a:=⟨bk,o+i*6+3,none⟩) q3 (by simp)
   have d4:wr.cell? ⟨bk,o+i*6+4,none⟩=some (.string s):=aa.o.cell (a:=⟨bk,o+i*6+4,none⟩) q4 (by simp)
   have d5:wr.cell? ⟨bk,o+i*6+5,none⟩=some (.slice sa l.length sc):=aa.o.cell (a:=⟨bk,o+i*6+5,none⟩) q5 (by simp)
   clear q0 q1 q2 q3 q4 q5
   by_cases hk:k<=3
   ·have an:¬(3<k):=by omega
    have HC:Y (Calls Tryz.prog 38 #[.pointer (some ⟨w.heap.size,0,none⟩),.agg #[.int .i64 k,.int .i64 e,.int .i64 c,.int .u64 N,.string s,.slice sa l.length sc]] wr fun e w'=>e = .returned (.bool true)/\L.Stp wr w' w.heap.size w.heap.size (.slice none 0 0) (.slice none 0 0) (.slice none 0 0) es):=znZ HI.o k e c N hk (ha.keep aa.o) aa.o.size (by omega) (HG.o.grown aa.o) (HT.o.grown aa.o)
    clear ha
    go_wp2_with fail
    refine HC.o.mono ?_
    rintro e w2 ⟨rfl,al⟩
    have G2:Y (w.grownBy w2 none):=al.grown aa.o (zw _)
    obtain⟨ad,ao,ae,_⟩:=al
    have am:(es++ad).length<=4*(i+1+1):=by rw[zh];omega
    have ab:Y (Calls Tryz.prog 39 #[.pointer (some ⟨w.heap.size,0,none⟩)] w2 fun e w'=>e = .returned (.bool true)/\w2.grownBy w' none):=zeL ae (by omega)
    have I2:Y (L.Inv w2 w.heap.size w.heap.size (.slice none 0 0) (.slice none 0 0) (.slice none 0 0) (es++ad)):=ae
    clear ae ao HC HI aa d0 d1 d2 d3 d4 d5
    generalize es++ad=es2 at*
    go_wp2_with fail
    refine ab.o.mono ?_
    rintro e w3 ⟨rfl,g3⟩
    have G3:=J (zD G2.o g3)
    have I3:Y (L.Inv w3 w.heap.size w.heap.size (.slice none 0 0) (.slice none 0 0) (.slice none 0 0) es2):=I2.o.keep g3
    clear g3 G2 I2 ab
    go_wp2_with fail
    go_roundw
    case rel=>exact⟨i+1,by omega,by go_num,rfl,es2,am,I3,G3⟩
    case measure=>simp[intOf];omega
   ·have an:3<k:=by omega
    go_wp2_with fail
    go_roundw
    case rel=>exact⟨i+1,by omega,by go_num,rfl,es,by omega,HI,aa⟩
    case measure=>simp[intOf];omega
  ·have hE:i=n:=by omega
   subst hE
   obtain⟨vb,vk,aj,_,_⟩:=HI.o.ex
   have cl:wr.cell? ⟨w.heap.size,0,none⟩=some (.slice none 0 0):=zB aj
   have ab:Y (Calls Tryz.prog 39 #[.pointer (some ⟨w.heap.size,0,none⟩)] wr fun e w'=>e = .returned (.bool true)/\w.grownBy w' none):=(zeL HI.o (by omega)).mono fun e w' ⟨q1,q2⟩=>⟨q1,zD aa.o q2⟩
   clear aj HI aa HX
   go_wp2_with fail
   refine wp_loop_rounds 1 ?_
   rw[rounds_succ]
   go_wp2_with fail
   refine ab.o.mono ?_
   rintro e w3 ⟨rfl,g3⟩
   have G3:Y (w.grownBy w3 none):=g3
   clear g3 ab
   go_wp2
   go_ret
   exact⟨rfl,G3.o⟩
theorem zoU {w:World}{va:Option Addr}{n vc:Nat}(hx:ft w va n)(hn:n<=1100000)(hG:Glob w)(hT:GT w) :
  Calls Tryz.prog 4 #[.slice va n vc] w fun e w'=>e = .returned (.bool true)/\w.grownBy w' none:=by
 have H:Y (Calls Tryz.prog 15 #[.slice va n vc,.int .i64 3] w fun e w'=>e = .returned (.bool true)/\w.grownBy w' none):=zkM hx hn hG hT
 clear hx hG hT
 go_enter Tryz.func4,Tryz.ntmps4
 go_wp2_with fail
 refine H.o.mono ?_
 rintro e w1 ⟨rfl,g1⟩
 have G1:Y (w.grownBy w1 none):=g1
 clear g1 H
 go_wp2
 go_ret
 exact⟨rfl,G1.o⟩
end Go.Proofs.YtfocdefchbnkpaaGreatDoor
