/- Packing, as the document's own functions do it: texts, numbers, the sum. -/
import Derived.Test.YtfocdefchbnkpaaGreatDoorAli
import Derived.Test.YtfocdefchbnkpaaGreatDoorPkE
import Derived.Laws.BytesArg
set_option maxRecDepth 100000
set_option maxHeartbeats 20000000
namespace Go.Proofs.YtfocdefchbnkpaaGreatDoor
open Go.RowKit
def xu (l:List UInt8)(i:Nat):List UInt8:=UInt8.ofNat l.length :: l.take i
theorem zoT (l:List UInt8):xu l l.length=zJ l:=by unfold xu zJ;rw[List.take_length]
theorem zkE (l:List UInt8)(i:Nat)(h:i<l.length):xu l (i+1)=xu l i++[l[i]]:=by
 unfold xu;rw[uo h];rfl
theorem zn7 (l:List UInt8)(i:Nat)(h:i<=l.length):(xu l i).length=i+1:=by unfold xu;simp;omega
theorem u8o (n:Nat):(UInt8.ofNat n).toNat=n % 256:=by rw[UInt8.toNat_ofNat']
theorem zpX (s:ByteArray)(w:World)(hl:s.size<=100000):Calls Tryz.prog 137 #[.string s] w (Gives w (zJ s.data.toList)):=by
 obtain⟨i0,hi,an,ao,ap⟩:=info_parts js
 have ad:s.data.toList.length=s.size:=R.size_eq s
 have HU:Y ((UInt8.ofNat s.size).toNat=s.size % 256):=u8o _
 have ae:Y (w.grownBy (w.alloc (.cells #[.int .u8 ((s.size:Int) % 256)] 5)) none):=zL _ _ _
 have ah:Y ((w.alloc (.cells #[.int .u8 ((s.size:Int) % 256)] 5)).ownsRow w.heap.size 5 1 (.slice (some ⟨w.heap.size,0,none⟩) (xu s.data.toList 0).length 1) (xu s.data.toList 0).length (Lib.byteCells (xu s.data.toList 0))):=by
  have h:=fB w [UInt8.ofNat s.size] (by simp)
  unfold Lib.byteCells at h
  simp only[xl,List.map_nil] at h
  rw[HU.o] at h
  show World.ownsRow _ _ _ _ _ _ _
  unfold Lib.byteCells xu
  rw[List.take_zero,ad]
  simp only[xl,List.map_nil]
  rw[HU.o]
  exact h
 have aa:Y (s.data.toList.length=s.size):=ad
 have aq:Y (∀i (h:i<s.size),s.data.toList[i]'(by rw[R.size_eq];exact h)=s[i]):=fun i h=>rfl
 clear ad
 go_enter Tryz.func137,Tryz.ntmps137
 go_wp2
 go_loopw [3,4] (fun sv iv wr=>∃i:Nat,i<=s.size/\iv = .int .i64 i/\(∃a k,sv = .slice a (xu s.data.toList i).length k/\Y (wr.ownsRow w.heap.size 5 1 (.slice a (xu s.data.toList i).length k) (xu s.data.toList i).length (Lib.byteCells (xu s.data.toList i))))/\Y (w.grownBy wr none)) (fun _ iv _=>s.size - (intOf iv).toNat)
 case atStart=>exact⟨0,zo _,rfl,⟨_,_,rfl,ah⟩,ae⟩
 case round=>
  obtain⟨i,al,rfl,⟨a,k,rfl,HO⟩,HG⟩:=hrel
  clear ah ae
  by_cases am:i<s.size
  ·have ar:(i:Int)<s.size:=by omega
   have ag:Y (xu s.data.toList (i+1)=xu s.data.toList i++[s[i]]):=zkE s.data.toList i (by rw[aa.o];exact am)
   have au:(xu s.data.toList i).length<=100001:=by rw[zn7 _ _ (by rw[aa.o];exact al)];omega
   have av:=HG.o.size
   have HA:Y ((wr.alloc (.cells #[.int .u8 s[i].toNat] 5)).ownsRow w.heap.size 5 1 (.slice a (xu s.data.toList i).length k) (xu s.data.toList i).length (Lib.byteCells (xu s.data.toList i))):=qK HO.o _
   have HC:Y (∀j u,(Lib.byteCells [s[i]])[j]?=some u->(wr.alloc (.cells #[.int .u8 s[i].toNat] 5)).cell? ((⟨wr.heap.size,0,none⟩:Addr).add j)=some u):=zu wr #[_] _ _ rfl
   have aw:(wr.alloc (.cells #[.int .u8 s[i].toNat] 5)).heap.size=wr.heap.size+1:=by simp
   have af:Y (w.grownBy (wr.alloc (.cells #[.int .u8 s[i].toNat] 5)) none):=zD HG.o (zL _ _ none)
   go_wp2_with (at_builtin;refine wpList_append_own _ rfl _ _ 32 rfl w.heap.size 5 i0 _ 1 1 Tryz.underlying32 hi an ao ap rfl (by decide) _ _ _ rfl HA.o ⟨wr.heap.size,0,none⟩ 1 1 (Lib.byteCells [s[i]]) rfl ?a1 HC.o (vf [s[i]]) ?a4 ?a5 ?a6 ?_)
   case a1=>rfl
   case a4=>unfold maxLen;omega
   case a5=>omega
   case a6=>omega
   intro v' w2 ab ai _
   obtain⟨va,vc,rfl⟩:=zO ab
   have ak:Y (w2.ownsRow w.heap.size 5 1 (.slice va ((xu s.data.toList (i+1)).length) vc) (xu s.data.toList (i+1)).length (Lib.byteCells (xu s.data.toList (i+1)))):=by
    show World.ownsRow _ _ _ _ _ _ _
    rw[ag.o,zh,Lib.byteCells_append]
    exact ab
   have aj:=J (qV af.o ai (fun k hk=>(zx HA.o k hk).1))
   have HV:Y ((xu s.data.toList i).length+1=(xu s.data.toList (i+1)).length):=by show _=_;rw[ag.o,zh];rfl
   clear ab ai HA HC af
   go_wp2
   go_roundw
   case rel=>exact⟨i+1,by omega,by go_num,⟨va,vc,by rw[HV.o],ak⟩,aj⟩
   case measure=>simp[intOf];omega
  ·have hE:i=s.size:=by omega
   subst hE
   have HT:Y (xu s.data.toList s.size=zJ s.data.toList):=by show _=_;rw[<-aa.o];exact zoT _
   rw[HT.o] at HO ⊢
   go_wp2
   go_ret
   exact⟨a,k,rfl,HO.o,HG.o⟩
theorem zrD (n:Nat)(w:World)(hn:n<=65535):Calls Tryz.prog 194 #[.int .i64 n] w (Gives w (qe n)):=by
 have HU:Y ((UInt8.ofNat (n % 256)).toNat=n % 256/\(UInt8.ofNat (n / 256)).toNat=n / 256):=⟨u8n _ (by omega),u8n _ (by omega)⟩
 go_enter Tryz.func194,Tryz.ntmps194
 go_wp2
 go_ret
 refine⟨some ⟨w.heap.size,0,none⟩,2,rfl,?_,zL _ _ _⟩
 have h:=fB w (qe n) (by rw[kU];omega)
 unfold Lib.byteCells qe at h ⊢
 simp only[xl,List.map_nil,Int.toNat_natCast] at h ⊢
 rw[HU.o.1,HU.o.2] at h ⊢
 exact h
theorem zhQ (n:Int)(w:World)(h:0<=n/\n<=65535):Calls Tryz.prog 194 #[.int .i64 n] w (Gives w (qe n)):=by
 obtain⟨k,rfl⟩:=Int.eq_ofNat_of_zero_le h.1
 exact zrD k w (by omega)
theorem zeI (a b:Nat)(ha:a<4294967296)(hb:b<4294967296):bits .xor .i64 (a:Int) (b:Int)=((a ^^^ b:Nat):Int):=by
 have hx:a ^^^ b<2 ^ 32:=Nat.xor_lt_two_pow (by omega) (by omega)
 show IntKind.i64.wrap ((BitVec.ofInt 64 (a:Int) ^^^ BitVec.ofInt 64 (b:Int)).toNat:Int)=_
 rw[BitVec.toNat_xor,ofInt_u64 a (by omega),ofInt_u64 b (by omega)]
 simp[IntKind.wrap,IntKind.bits,IntKind.signed]
 omega
theorem zrH {w:World}(a:Option Addr)(k:Nat)(l:List UInt8)(hr:Rd w (.slice a l.length k) l)(hl:l.length<=1000000) :
  Calls Tryz.prog 139 #[.slice a l.length k] w (Gives w (xM (yS l))):=by
 have HR:Y (Rd w (.slice a l.length k) l):=hr
 clear hr
 go_enter Tryz.func139,Tryz.ntmps139
 go_wp2
 go_loopw [3,4] (fun sv iv wr=>∃i:Nat,i<=l.length/\iv = .int .i64 i/\sv = .int .i64 (yV l i:Nat)/\wr=w) (fun _ iv _=>l.length - (intOf iv).toNat)
 case atStart=>exact⟨0,zo _,rfl,rfl,rfl⟩
 case round=>
  obtain⟨i,aj,rfl,rfl,hw⟩:=hrel
  rw[hw]
  clear hw wr
  by_cases aa:i<l.length
  ·have ai:(i:Int)<l.length:=by omega
   obtain⟨g,c0,ae,ah,ad⟩:∃g c0,(.slice a l.length k:Value) = .slice (some ⟨g,0,none⟩) l.length c0/\g<w.heap.size/\∀j u,(Lib.byteCells l)[j]?=some u->w.cell? ((⟨g,0,none⟩:Addr).add j)=some u:=by
    rcases HR.o with ⟨_,h0⟩ | h
    ·rw[h0] at aa;cases aa
    ·exact h
   simp only[qQ,true_and] at ae
   obtain⟨rfl,rfl⟩:=ae
   have d0:w.cell? ⟨g,i,none⟩=some (.int .u8 l[i].toNat):=by
    have h:=ad i (.int .u8 l[i].toNat) (by unfold Lib.byteCells;rw[List.getElem?_map,xo aa];rfl)
    rw[kK,Nat.zero_add] at h;exact h
   have HN:Y (yV l (i+1)=jc 8 (yV l i ^^^ l[i].toNat)):=zeP l i aa
   have hc:=l[i].toNat_lt
   have hx:bits .xor .i64 (yV l i:Int) (l[i].toNat:Int)=((yV l i ^^^ l[i].toNat:Nat):Int):=zeI _ _ (fP l i) (by omega)
   have af:Y (yV l i ^^^ l[i].toNat<4294967296):=zd9 _ (fP l i)
   clear ad
   generalize l[i]=c at*
   generalize hs:yV l i ^^^ c.toNat=s0 at*
   go_wp2_with fail
   go_loopw [3,5] (fun sv jv wq=>∃j:Nat,j<=8/\jv = .int .i64 j/\sv = .int .i64 (jc j s0:Nat)/\wq=w) (fun _ jv _=>8 - (intOf jv).toNat)
   case atStart=>exact⟨0,by omega,rfl,rfl,rfl⟩
   case round=>
    obtain⟨j,ak,rfl,rfl,hw⟩:=hrel
    rw[hw]
    clear hw wr
    by_cases hj:j<8
    ·have al:(j:Int)<8:=by omega
     have hq:=zfV j af.o
     have ab:Y (jc (j+1) s0=vp (jc j s0)):=rfl
     generalize jc j s0=q at*
     have am:bits .xor .i64 ((q:Int) / 2) 3988292384=((q / 2 ^^^ 3988292384:Nat):Int):=zeI (q / 2) 3988292384 (by omega) (by decide)
     clear HR hx hs d0
     by_cases hp:q % 2=1
     ·have ag:((q:Int) % 2)=1:=by omega
      have HK:Y (jc (j+1) s0=q / 2 ^^^ 3988292384):=by show _=_;rw[ab.o];unfold vp;rw[if_pos hp]
      go_wp2
      go_roundw
      case rel=>exact⟨j+1,by omega,by go_num,by rw[HK.o],by first | trivial | rfl⟩
      case measure=>simp[intOf];omega
     ·have ag:((q:Int) % 2)=0:=by omega
      have HK:Y (jc (j+1) s0=q / 2):=by show _=_;rw[ab.o];unfold vp;rw[if_neg hp]
      go_wp2
      go_roundw
      case rel=>exact⟨j+1,by omega,by go_num,by rw[HK.o];rfl,by first | trivial | rfl⟩
      case measure=>simp[intOf];omega
    ·have hE:j=8:=by omega
     subst hE
     clear HR
     go_wp2
     go_roundw
     case rel=>exact⟨i+1,by omega,by go_num,by rw[HN.o],by first | trivial | rfl⟩
     case measure=>simp[intOf];omega
  ·have hE:i=l.length:=by omega
   subst hE
   have HC:Y ((yS l:Nat)=4294967295 - yV l l.length):=by show _=_;unfold yS yV;rw[List.take_length]
   have hk:=fP l l.length
   generalize yV l l.length=q at*
   have HF:Y (Lib.byteCells (xM (4294967295 - q))=[.int .u8 ((4294967295 - (q:Int)) % 256),.int .u8 ((4294967295 - (q:Int)) / 256 % 256),.int .u8 ((4294967295 - (q:Int)) / 65536 % 256),.int .u8 ((4294967295 - (q:Int)) / 16777216)]):=by
    show _=_
    unfold Lib.byteCells xM
    simp only[xl,List.map_nil]
    rw[u8n _ (by omega),u8n _ (by omega),u8n _ (by omega),u8n _ (by omega)]
    rw[show(((4294967295 - q) % 256:Nat):Int)=(4294967295 - (q:Int)) % 256 by omega,show(((4294967295 - q) / 256 % 256:Nat):Int)=(4294967295 - (q:Int)) / 256 % 256 by omega,show(((4294967295 - q) / 65536 % 256:Nat):Int)=(4294967295 - (q:Int)) / 65536 % 256 by omega,show(((4294967295 - q) / 16777216 % 256:Nat):Int)=(4294967295 - (q:Int)) / 16777216 by omega]
   go_wp2
   go_ret
   rw[HC.o]
   refine⟨some ⟨w.heap.size,0,none⟩,4,rfl,?_,zL _ _ _⟩
   have h:=fB w (xM (4294967295 - q)) (by unfold xM;simp)
   rw[HF.o] at h ⊢
   exact h
def RdO (w:World)(v:Value)(l:List UInt8):Prop:=
 (∃a c,v = .slice a 0 c/\l=[])\/∃g o c,v = .slice (some ⟨g,o,none⟩) l.length c/\l.length<=c/\g<w.heap.size/\∀j u,l[j]?=some u->w.cell? ⟨g,o+j,none⟩=some (.int .u8 u.toNat)
theorem RdO.keep {w w':World}{v:Value}{l:List UInt8}{aa:Option Nat}(h:RdO w v l)(hg:w.grownBy w' aa)(hr:∀g o n c,v = .slice (some ⟨g,o,none⟩) n c->aa≠some g):RdO w' v l:=by
 rcases h with h | ⟨g,o,c,h1,hc,h2,h3⟩
 ·exact Or.inl h
 ·exact Or.inr ⟨g,o,c,h1,hc,vQ h2 hg.size,fun j u hu=>hg.cell (a:=⟨g,o+j,none⟩) (h3 j u hu) (fun e=>hr g o _ c h1 e.symm)⟩
theorem RdO.keep1 {w w':World}{v:Value}{l:List UInt8}{aa:Option Nat}(h:RdO w v l)(hg:w.grownBy w' aa)(hr:l≠[]->∀g o n c,v = .slice (some ⟨g,o,none⟩) n c->aa≠some g):RdO w' v l:=by
 by_cases h0:l=[]
 ·subst h0
  rcases h with h | ⟨g,o,c,h1,_⟩
  ·exact Or.inl h
  ·exact Or.inl ⟨_,c,h1,rfl⟩
 ·exact h.keep hg (hr h0)
theorem RdO.form {w:World}{v:Value}{l:List UInt8}(h:RdO w v l):∃a c,v = .slice a l.length c/\l.length<=c:=by
 rcases h with ⟨a,c,h1,h2⟩ | ⟨g,o,c,h1,hc,_⟩
 ·exact⟨a,c,by rw[h1,h2];rfl,by rw[h2];exact zo _⟩
 ·exact⟨_,_,h1,hc⟩
structure TInv (w:World) (tb:Nat) (v:Value) (b:List UInt8) (s:T.St):Prop where
 ex:∃p:Nat,p<=b.length/\s.rest=b.drop p/\w.heap[tb]?=some (.cells #[v,.int .i64 p,.bool s.bad] 257 (0,0))
 rd:RdO w v b
 ap:b≠[]->∀g o n c,v = .slice (some ⟨g,o,none⟩) n c->g≠tb
 len:b.length<=140737488355328
theorem TInv.keep {w w':World}{tb:Nat}{v:Value}{b:List UInt8}{s:T.St}(h:TInv w tb v b s)(hg:w.grownBy w' none):TInv w' tb v b s:=by
 obtain⟨p,h1,h2,h3⟩:=h.ex
 exact⟨⟨p,h1,h2,zF h3 hg (by simp)⟩,h.rd.keep hg (fun _ _ _ _ _ e=>by cases e),h.ap,h.len⟩
theorem TInv.set {w:World}{tb:Nat}{v:Value}{b:List UInt8}{s:T.St}(h:TInv w tb v b s){w':World}(hg:w.grownBy w' (some tb)){s':T.St}{p:Nat}(hp:p<=b.length)(hr:s'.rest=b.drop p)(hb:w'.heap[tb]?=some (.cells #[v,.int .i64 p,.bool s'.bad] 257 (0,0))):TInv w' tb v b s':=
 ⟨⟨p,hp,hr,hb⟩,h.rd.keep1 hg (fun h0 g o n c e e2=>h.ap h0 g o n c e (by cases e2;rfl)),h.ap,h.len⟩
theorem wl {w:World}{tb:Nat}{v:Value}{b:List UInt8}{s:T.St}(h:TInv w tb v b s) :
  Calls Tryz.prog 140 #[.pointer (some ⟨tb,0,none⟩)] w fun e w'=>e = .returned (.int .i64 ((qq s).1:Nat))/\TInv w' tb v b (qq s).2/\w.grownBy w' (some tb):=by
 obtain⟨p,hp,ai,aa⟩:=h.ex
 obtain⟨a,c,rfl,ao⟩:=h.rd.form
 have an:=h.len
 have c0:w.cell? ⟨tb,0,none⟩=some (.slice a b.length c):=zB aa
 have c1:w.cell? ⟨tb,1,none⟩=some (.int .i64 p):=zB aa
 have f1:=zuG 1 aa
 have f2:=zuG 2 aa
 have c2:w.cell? ⟨tb,2,none⟩=some (.bool s.bad):=zB aa
 have HI:Y (TInv w tb (.slice a b.length c) b s):=h
 have HB:Y (w.heap[tb]?=some (.cells #[.slice a b.length c,.int .i64 p,.bool s.bad] 257 (0,0))):=aa
 have ag:Y (s.rest=b.drop p):=ai
 clear h aa ai
 by_cases ab:p<b.length
 ·have HO:Y (qq s=(b[p].toNat,⟨b.drop (p+1),s.bad⟩)):=by
   show _=_
   unfold qq
   rw[ag.o,List.drop_eq_getElem_cons ab]
  have am:(p:Int)<b.length:=by omega
  obtain⟨g,o,aj,ak⟩:∃g o,a=some ⟨g,o,none⟩/\w.cell? ⟨g,o+p,none⟩=some (.int .u8 b[p].toNat):=by
   rcases HI.o.rd with ⟨_,_,_,h0⟩ | ⟨g,o,c',h1,_,_,h3⟩
   ·rw[h0] at ab;cases ab
   ·simp only[qQ,true_and] at h1
    exact⟨g,o,h1.1,h3 p b[p] (xo ab)⟩
  subst aj
  have al:g≠tb:=HI.o.ap (fun h0=>by rw[h0] at ab;cases ab) g o _ c rfl
  have aq:(w.setCell ⟨tb,1,none⟩ (.int .i64 (p+1:Nat))).cell? ⟨g,o+p,none⟩=some (.int .u8 b[p].toNat):=(zG w tb 1 _).cell (a:=⟨g,o+p,none⟩) ak (by simpa using al)
  rw[HO.o]
  generalize b[p]=x at*
  go_enter Tryz.func140,Tryz.ntmps140
  go_wp2
  go_region
  go_wp2
  go_region
  go_wp2
  go_ret
  have af:=zG w tb 1 (.int .i64 ((p:Int)+1))
  have ad:=zD (zg (w.setCell ⟨tb,1,none⟩ (.int .i64 ((p:Int)+1)))) (zg _)
  have ae:=zD af (zb ad _)
  refine⟨?_,HI.o.set ae (p:=p+1) (by omega) rfl (zF (zR HB.o _) ad (by simp)),ae⟩
  have hx:=x.toNat_lt
  have e:wrap64 (x.toNat:Int)=x.toNat:=by simp only[wrap64];omega
  show Ending.returned (.int .i64 (wrap64 (x.toNat:Int)))=_
  rw[e]
 ·have ah:p=b.length:=by omega
  have HO:Y (qq s=(0,⟨[],true⟩)):=by
   show _=_
   unfold qq
   rw[ag.o,ah,List.drop_length]
  rw[HO.o]
  have am:¬((p:Int)<b.length):=by omega
  go_enter Tryz.func140,Tryz.ntmps140
  go_wp2
  go_region
  go_wp2
  go_ret
  have af:=zG w tb 2 (.bool true)
  have ad:=zg (w.setCell ⟨tb,2,none⟩ (.bool true))
  have ae:=zD af (zb ad _)
  exact⟨rfl,HI.o.set ae (p:=p) hp (by rw[ah,List.drop_length]) (zF (zR HB.o _) ad (by simp)),ae⟩
theorem yZ {w:World}{tb:Nat}{v:Value}{b:List UInt8}{s:T.St}(h:TInv w tb v b s)(ok:Bool) :
  Calls Tryz.prog 141 #[.pointer (some ⟨tb,0,none⟩),.bool ok] w fun e w'=>e = .returned (.tuple #[])/\TInv w' tb v b (qT s ok)/\w.grownBy w' (some tb):=by
 obtain⟨p,hp,ad,aa⟩:=h.ex
 have f2:=zuG 2 aa
 have c2:w.cell? ⟨tb,2,none⟩=some (.bool s.bad):=zB aa
 have HI:Y (TInv w tb v b s):=h
 have HB:Y (w.heap[tb]?=some (.cells #[v,.int .i64 p,.bool s.bad] 257 (0,0))):=aa
 have ae:Y (s.rest=b.drop p):=ad
 clear h aa ad
 cases ok
 ·go_enter Tryz.func141,Tryz.ntmps141
  go_wp2
  go_end0
  have ab:=zG w tb 2 (.bool true)
  exact⟨rfl,HI.o.set ab (p:=p) hp ae.o (zR HB.o _),ab⟩
 ·go_enter Tryz.func141,Tryz.ntmps141
  go_wp2
  go_end0
  exact⟨rfl,HI.o,ze _ _⟩
theorem vh {w:World}{tb:Nat}{v:Value}{b:List UInt8}{s:T.St}(h:TInv w tb v b s)(m:Nat) :
  Calls Tryz.prog 142 #[.pointer (some ⟨tb,0,none⟩),.int .i64 m] w fun e w'=>e = .returned (.int .i64 ((zy m s).1:Nat))/\TInv w' tb v b (zy m s).2/\w.grownBy w' (some tb):=by
 have H1:Y (Calls Tryz.prog 140 #[.pointer (some ⟨tb,0,none⟩)] w fun e w'=>e = .returned (.int .i64 ((qq s).1:Nat))/\TInv w' tb v b (qq s).2/\w.grownBy w' (some tb)):=wl h
 have HF:Y (zy m s=if m<(qq s).1 then (0,⟨(qq s).2.rest,true⟩) else qq s):=rfl
 clear h
 generalize zy m s=fw at*
 generalize qq s=on at*
 obtain⟨n,s1⟩:=on
 simp only at H1 HF
 go_enter Tryz.func142,Tryz.ntmps142
 go_wp2_with fail
 refine H1.o.mono ?_
 rintro e w1 ⟨rfl,i1,g1⟩
 have HI:Y (TInv w1 tb v b s1):=i1
 have G1:Y (w.grownBy w1 (some tb)):=g1
 obtain⟨p,hp,ae,aa⟩:=i1.ex
 have f2:=zuG 2 aa
 have c2:w1.cell? ⟨tb,2,none⟩=some (.bool s1.bad):=zB aa
 have HB:Y (w1.heap[tb]?=some (.cells #[v,.int .i64 p,.bool s1.bad] 257 (0,0))):=aa
 have af:Y (s1.rest=b.drop p):=ae
 clear g1 i1 aa ae H1
 by_cases ad:m<n
 ·have hI:(m:Int)<n:=by omega
  rw[if_pos ad] at HF
  go_wp2
  go_ret
  rw[HF.o]
  have ab:=zG w1 tb 2 (.bool true)
  exact⟨rfl,HI.o.set ab (p:=p) hp af.o (zR HB.o _),zD G1.o ab⟩
 ·have hI:¬((m:Int)<n):=by omega
  rw[if_neg ad] at HF
  go_wp2
  go_ret
  rw[HF.o]
  exact⟨rfl,HI.o,G1.o⟩
theorem zj7 {w:World}{tb:Nat}{v:Value}{b:List UInt8}{s:T.St}(h:TInv w tb v b s) :
  Calls Tryz.prog 195 #[.pointer (some ⟨tb,0,none⟩)] w fun e w'=>e = .returned (.int .i64 (xt s).1)/\TInv w' tb v b (xt s).2/\w.grownBy w' (some tb):=by
 have hb:∀s:T.St,(qq s).1<=255:=fun s=>by
  unfold qq
  split
  ·omega
  ·rename_i c r _;have:=c.toNat_lt;simp only;omega
 have h1:=hb s
 have h2:=hb (qq s).2
 have HT:Y (xt s=((((qq s).1+256*(qq (qq s).2).1:Nat):Int),(qq (qq s).2).2)):=rfl
 have HI:Y (TInv w tb v b s):=h
 clear h hb
 go_enter Tryz.func195,Tryz.ntmps195
 go_wp2_with fail
 refine(wl HI.o).mono ?_
 rintro e w1 ⟨rfl,i1,g1⟩
 have aa:Y (TInv w1 tb v b (qq s).2):=i1
 have G1:Y (w.grownBy w1 (some tb)):=g1
 clear i1 g1 HI
 go_wp2_with fail
 refine(wl aa.o).mono ?_
 rintro e w2 ⟨rfl,i2,g2⟩
 have ab:Y (TInv w2 tb v b (qq (qq s).2).2):=i2
 have G2:=J (zD G1.o g2)
 clear i2 g2 aa G1
 go_wp2
 go_ret
 rw[HT.o]
 exact⟨rfl,ab.o,G2.o⟩
theorem ww (m:Nat)(s:T.St)(hm:m<=255):(zy m s).1<=255:=by
 unfold zy
 split
 ·simp
 ·omega
theorem fG (W:World)(a:Option Addr)(c:Nat):(convert 32 9 (.slice a 0 c)).run Tryz.prog W = .ok (.string ⟨#[]⟩) W:=by
 cases a with
 | none=>exact run_convert_bytes_nil W _ _ Tryz.underlying32 Tryz.underlying5 _ _ _ Tryz.underlying9
 | some a=>exact run_convert_bytes_back W _ _ _ a c [] Tryz.underlying32 Tryz.underlying5 Tryz.underlying9 (fun j hj=>by cases hj)
theorem jr {w:World}{tb:Nat}{v:Value}{b:List UInt8}{s:T.St}(h:TInv w tb v b s) :
  Calls Tryz.prog 143 #[.pointer (some ⟨tb,0,none⟩)] w fun e w'=>e = .returned (.string (R.str (zr s).1))/\TInv w' tb v b (zr s).2/\w.grownBy w' (some tb):=by
 have au:(zy 24 s).1<=255:=ww 24 s (by omega)
 have H1:Y (Calls Tryz.prog 142 #[.pointer (some ⟨tb,0,none⟩),.int .i64 (24:Nat)] w fun e w'=>e = .returned (.int .i64 ((zy 24 s).1:Nat))/\TInv w' tb v b (zy 24 s).2/\w.grownBy w' (some tb)):=vh h 24
 have HT:Y (zr s=if (zy 24 s).2.rest.length<(zy 24 s).1 then ([],⟨(zy 24 s).2.rest,true⟩) else ((zy 24 s).2.rest.take (zy 24 s).1,⟨(zy 24 s).2.rest.drop (zy 24 s).1,(zy 24 s).2.bad⟩)):=rfl
 clear h
 generalize zr s=tx at*
 generalize zy 24 s=fw at*
 obtain⟨n,s1⟩:=fw
 simp only at H1 HT au
 go_enter Tryz.func143,Tryz.ntmps143
 go_wp2_with fail
 refine H1.o.mono ?_
 rintro e w1 ⟨rfl,i1,g1⟩
 have HI:Y (TInv w1 tb v b s1):=i1
 have G1:Y (w.grownBy w1 (some tb)):=g1
 obtain⟨p,hp,ai,aa⟩:=i1.ex
 obtain⟨a,c,rfl,ay⟩:=i1.rd.form
 have ax:=i1.len
 have c0:w1.cell? ⟨tb,0,none⟩=some (.slice a b.length c):=zB aa
 have c1:w1.cell? ⟨tb,1,none⟩=some (.int .i64 p):=zB aa
 have f1:=zuG 1 aa
 have f2:=zuG 2 aa
 have c2:w1.cell? ⟨tb,2,none⟩=some (.bool s1.bad):=zB aa
 have HB:Y (w1.heap[tb]?=some (.cells #[.slice a b.length c,.int .i64 p,.bool s1.bad] 257 (0,0))):=aa
 have ad:Y (s1.rest=b.drop p):=ai
 have ao:s1.rest.length=b.length - p:=by rw[ai,List.length_drop]
 clear g1 i1 aa ai H1
 by_cases ae:s1.rest.length<n
 ·rw[if_pos ae] at HT
  have hI:(b.length:Int)<(p:Int)+n:=by omega
  clear ao ae
  go_wp2
  go_region
  go_wp2
  go_ret
  rw[HT.o]
  have ar:=zG w1 tb 2 (.bool true)
  have al:=zg (w1.setCell ⟨tb,2,none⟩ (.bool true))
  have am:=zD ar (zb al _)
  exact⟨rfl,HI.o.set am (p:=p) hp ad.o (zF (zR HB.o _) al (by simp)),zD G1.o am⟩
 ·rw[if_neg ae] at HT
  have hI:¬((b.length:Int)<(p:Int)+n):=by omega
  have af:p+n<=b.length:=by omega
  clear ao ae
  have ab:Y (∀x:Int,w1.grownBy (w1.setCell ⟨tb,1,none⟩ (.int .i64 x)).drew.drew (some tb)):=fun x=>zD (zG w1 tb 1 (.int .i64 x)) (zb (zD (zg _) (zg _)) _)
  have ag:Y (∀x:Int,x=(p+n:Nat)->TInv (w1.setCell ⟨tb,1,none⟩ (.int .i64 x)).drew.drew tb (.slice a b.length c) b ⟨s1.rest.drop n,s1.bad⟩):=fun x hx=>by
   subst hx
   exact HI.o.set (ab.o _) (p:=p+n) (by omega) (by show s1.rest.drop n=_;rw[ad.o,List.drop_drop]) (zF (zR HB.o _) (zD (zg _) (zg _)) (by simp))
  by_cases av:n=0
  ·subst av
   have az:=fun W a c=>fG W a c
   rcases Nat.lt_or_ge p c with an | an
   ·clear HI HB
    go_wp2
    go_region
    go_wp2
    go_region
    go_wp2
    go_ret
    rw[HT.o]
    exact⟨rfl,ag.o _ rfl,zD G1.o (ab.o _)⟩
   ·obtain rfl:c=p:=by omega
    clear HI HB
    go_wp2
    go_region
    go_wp2
    go_region
    go_wp2
    go_ret
    rw[HT.o]
    exact⟨rfl,ag.o _ rfl,zD G1.o (ab.o _)⟩
  ·obtain⟨g,o,aq,ak⟩:∃g o,a=some ⟨g,o,none⟩/\∀j u,b[j]?=some u->w1.cell? ⟨g,o+j,none⟩=some (.int .u8 u.toNat):=by
    rcases HI.o.rd with ⟨_,_,_,h0⟩ | ⟨g,o,c',h1,_,_,h3⟩
    ·rw[h0] at af;simp at af;omega
    ·simp only[qQ,true_and] at h1
     exact⟨g,o,h1.1,h3⟩
   subst aq
   have aw:g≠tb:=HI.o.ap (fun h0=>by rw[h0] at af;simp at af;omega) g o _ c rfl
   have ah:(s1.rest.take n).length=n:=by rw[List.length_take,ad.o,List.length_drop];omega
   have aj:Y (∀(W:World) (k:Nat),w1.grownBy W (some tb)->(convert 32 9 (.slice (some ⟨g,o+p,none⟩) n k)).run Tryz.prog W = .ok (.string (R.str (s1.rest.take n))) W):=fun W k hW=>by
    have h:=run_convert_bytes_back (P:=Tryz.prog) W 32 9 5 ⟨g,o+p,none⟩ k (s1.rest.take n) Tryz.underlying32 Tryz.underlying5 Tryz.underlying9 (fun j hj=>by
     rw[kK,Nat.add_assoc]
     refine hW.cell (a:=⟨g,o+(p+j),none⟩) (ak (p+j) _ ?_) (by simpa using aw)
     rw[ah] at hj
     rw[List.getElem_take,<-xo,ad.o,List.getElem?_drop])
    rw[ah] at h
    exact h
   have aA:∀(x:Int) (k:Nat),(convert 32 9 (.slice (some ⟨g,o+p,none⟩) n k)).run Tryz.prog (w1.setCell ⟨tb,1,none⟩ (.int .i64 x)).drew.drew = .ok (.string (R.str (s1.rest.take n))) (w1.setCell ⟨tb,1,none⟩ (.int .i64 x)).drew.drew:=fun x k=>aj.o _ k (ab.o x)
   have aB:∀(x:Int) (k:Nat),(convert 32 9 (.slice (some ⟨g,o+p,none⟩) n k)).run Tryz.prog (w1.setCell ⟨tb,1,none⟩ (.int .i64 x)).drew = .ok (.string (R.str (s1.rest.take n))) (w1.setCell ⟨tb,1,none⟩ (.int .i64 x)).drew:=fun x k=>aj.o _ k (zD (zG w1 tb 1 (.int .i64 x)) (zb (zg _) _))
   have an:p<c:=by omega
   clear ak ah HI HB
   go_wp2
   go_region
   go_wp2
   go_region
   go_wp2
   all_goals
    go_ret
    rw[HT.o]
    exact⟨rfl,ag.o _ rfl,zD G1.o (ab.o _)⟩
theorem jB (s:T.St):(zr s).1.length<=255:=by
 have h:=ww 24 s (by omega)
 unfold zr
 split
 ·simp
 ·simp only[List.length_take];omega
theorem zhD {w w':World}{tb:Nat}(h:tb<w.heap.size)(hg:w.heap.size<=w'.heap.size):some w'.heap.size≠some tb:=fun c=>by have:=x5 c;omega
theorem TInv.far {w wu w':World}{tb:Nat}{v:Value}{b:List UInt8}{s0 s:T.St}(h0:TInv w tb v b s0)(h:TInv wu tb v b s){aa:Option Nat}(hg:wu.grownBy w' aa)(hr:∀k,aa=some k->w.heap.size<=k):TInv w' tb v b s:=by
 obtain⟨p,h1,h2,h3⟩:=h.ex
 obtain⟨_,_,_,q⟩:=h0.ex
 have hq:=zI q
 refine⟨⟨p,h1,h2,zF h3 hg (fun c=>by have:=hr tb c.symm;omega)⟩,?_,h.ap,h.len⟩
 rcases h0.rd with h' | ⟨g,o,c,e1,hc,hlt,_⟩
 ·exact Or.inl h'
 ·exact h.rd.keep hg (fun g' o' n' c' e' e2=>by
   have:=hr g' e2
   rw[e1] at e'
   simp only[qQ,Option.some.injEq,Addr.mk.injEq] at e'
   omega)
theorem zgF {w:World}{tb:Nat}{v:Value}{b:List UInt8}{s:T.St}(h:TInv w tb v b s) :
  Calls Tryz.prog 197 #[.pointer (some ⟨tb,0,none⟩)] w fun e w'=>∃u,e = .returned u/\TInv w' tb v b (jN s).2/\w.grownBy w' (some tb)/\w'.ownsRow w.heap.size 183 2 u (jN s).1.length (qB (jN s).1):=by
 obtain⟨i0,hi,ap,aq,ar⟩:=info_parts zmK
 have hN:(zy 4 s).1<=255:=ww 4 s (by omega)
 have HF:Y (Calls Tryz.prog 142 #[.pointer (some ⟨tb,0,none⟩),.int .i64 (4:Nat)] w fun e w'=>e = .returned (.int .i64 ((zy 4 s).1:Nat))/\TInv w' tb v b (zy 4 s).2/\w.grownBy w' (some tb)):=vh h 4
 have HP:Y (jN s=qi T.tg (zy 4 s).1 (qT (zy 4 s).2 (decide (0<(zy 4 s).1)))):=rfl
 have am:tb<w.heap.size:=by obtain⟨_,_,_,q⟩:=h.ex;exact zI q
 have H0:Y (TInv w tb v b s):=h
 clear h
 generalize jN s=res at*
 generalize zy 4 s=fw at*
 obtain⟨N,s1⟩:=fw
 simp only at HF HP hN
 go_enter Tryz.func197,Tryz.ntmps197
 go_wp2_with fail
 refine HF.o.mono ?_
 rintro e w1 ⟨rfl,i1,g1⟩
 have I1:Y (TInv w1 tb v b s1):=i1
 have G1:Y (w.grownBy w1 (some tb)):=g1
 clear i1 g1 HF
 go_wp2_with fail
 refine(yZ I1.o _).mono ?_
 rintro e w2 ⟨rfl,i2,g2⟩
 have I2:Y (TInv w2 tb v b (qT s1 (decide (0<N)))):=i2
 have G2:=J (zD G1.o g2)
 clear i2 g2 I1 G1
 generalize qT s1 (decide (0<N))=s2 at*
 go_wp2_with fail
 go_loopw [3,5] (fun u iv wr=>∃(i:Nat) (aa:List (List UInt8×Int)) (st:T.St),i<=N/\aa.length=i/\iv = .int .i64 i/\Y (res=(aa++(qi T.tg (N - i) st).1,(qi T.tg (N - i) st).2))/\Y (TInv wr tb v b st)/\Y (w.grownBy wr (some tb))/\Y (wr.ownsRow w.heap.size 183 2 u aa.length (qB aa))) (fun _ iv _=>N - (intOf iv).toNat)
 case atStart=>exact⟨0,[],s2,zo _,rfl,rfl,by show _=_;rw[HP.o];rfl,I2,G2,xd _ _ _ _⟩
 case round=>
  obtain⟨i,aa,st,aB,an,rfl,HE,IR,GR,HO⟩:=hrel
  clear I2 G2 HP
  by_cases aC:i<N
  ·have aA:(i:Int)<N:=by omega
   have ag:Y (res=((aa++[(T.tg st).1])++(qi T.tg (N - (i+1)) (T.tg st).2).1,(qi T.tg (N - (i+1)) (T.tg st).2).2)):=by
    show _=_
    rw[HE.o,show N - i=N - (i+1)+1 by omega,x4];rfl
   have ah:Y (T.tg st=(((zr st).1,(xt (zr st).2).1),qT (xt (zr st).2).2 (R.upstream (zr st).1 && (decide (0<(xt (zr st).2).1) && decide ((xt (zr st).2).1<=1000))))):=rfl
   have az:=jB st
   clear HE
   generalize T.tg st=tg at*
   go_wp2_with fail
   refine(jr IR.o).mono ?_
   rintro e wt ⟨rfl,it,gt⟩
   have It:Y (TInv wt tb v b (zr st).2):=it
   have Gt:=J (zD GR.o gt)
   have Ot:=J (zV HO.o gt (fun k hk c=>by have:=x5 c;have:=(zx HO.o k hk).1;omega))
   clear it gt IR GR HO
   generalize zr st=tx at*
   obtain⟨nm,s3⟩:=tx
   simp only at It ah az
   have al:=Gt.o.size
   have au:Y ((wt.alloc (.cells #[.string (R.str nm),.int .i64 0] 183)).heap[wt.heap.size]?=some (.cells #[.string (R.str nm),.int .i64 0] 183)):=heap_alloc_new _ _
   go_wp2_with fail
   refine(zj7 (It.o.keep (zL _ _ none))).mono ?_
   rintro e wu ⟨rfl,iu,gu⟩
   have ak:=J (zF au.o gu (zhD am al))
   have Iu:Y (TInv wu tb v b (xt s3).2):=iu
   have Gu:Y (w.grownBy wu (some tb)):=zD (zD Gt.o (zL _ _ _)) gu
   have Ou:Y (wu.ownsRow w.heap.size 183 2 u3 aa.length (qB aa)):=zV (qK Ot.o _) gu (fun k hk c=>by have:=x5 c;have:=(zx Ot.o k hk).1;omega)
   have q1:=zuB ak.o
   have q2:=zuG 1 ak.o
   have av:Y (∀k,(u3:Value).ownBlock=some k->k<wt.heap.size):=fun k hk=>(zx Ot.o k hk).2
   clear iu gu It Gt Ot au
   generalize xt s3=tw at*
   obtain⟨n,s4⟩:=tw
   simp only at Iu ah
   have af:Y ((wu.setCell ⟨wt.heap.size,1,none⟩ (.int .i64 n)).heap[wt.heap.size]?=some (.cells #[.string (R.str nm),.int .i64 n] 183)):=zR ak.o _
   have r0:=zuH af.o
   have r1:=zuB af.o
   go_wp2_with fail
   refine(tO (R.str nm) _ (by rw[R.str_size];unfold maxLen;omega)).mono ?_
   rintro e wv ⟨rfl,ay⟩
   rw[ay,R.str_toList]
   clear ay wv
   have ao:∀k,some wt.heap.size=some k->w.heap.size<=k:=fun k c=>by have:=x5 c;omega
   have gS:=zG wu wt.heap.size 1 (.int .i64 n)
   have Is:Y (TInv (wu.setCell ⟨wt.heap.size,1,none⟩ (.int .i64 n)) tb v b s4):=H0.o.far Iu.o gS ao
   have Gs:=J (qV Gu.o gS ao)
   have Os:=J (zV Ou.o gS (fun k hk c=>by have:=x5 c;have:=av.o k hk;omega))
   clear gS ao Iu Gu Ou av ak q1 q2
   generalize R.upstream nm=up at*
   cases up
   ·have ai:Y (tg=((nm,n),qT s4 (false))):=by show _=_;rw[ah.o];simp[]
    rw[ai.o] at ag
    clear ah ai
    go_wp2_with fail
    refine(yZ Is.o (false)).mono ?_
    rintro e w5 ⟨rfl,i5,g5⟩
    have I5:Y (TInv w5 tb v b (qT s4 (false))):=i5
    have G5:=J (zD Gs.o g5)
    have O5:=J (zV Os.o g5 (fun k hk c=>by have:=x5 c;have:=(zx Os.o k hk).1;omega))
    have ae:=J (zF af.o g5 (zhD am al))
    have z0:=zuH ae.o
    have z1:=zuB ae.o
    have ax:=G5.o.size
    clear i5 g5 Is Gs Os af r0 r1
    generalize qT s4 (false)=s5 at*
    go_wp2_with (at_builtin;refine wpList_append_own _ rfl _ _ 123 rfl w.heap.size 183 i0 _ 2 24 Tryz.underlying123 hi ap aq ar rfl (by decide) _ _ _ rfl (qK O5.o _) ⟨w5.heap.size,0,none⟩ 1 1 [.string (R.str nm),.int .i64 n] rfl rfl ?c1 ?c2 ?c3 ?c4 ?c5 ?_)
    case c1=>exact zu _ #[_,_] _ _ (by simp)
    case c2=>intro u hu;simp at hu;rcases hu with rfl | rfl <;> rfl
    case c3=>unfold maxLen;omega
    case c4=>omega
    case c5=>simp;omega
    intro v9 w9 aj ad _
    have O9:Y (w9.ownsRow w.heap.size 183 2 v9 (aa++[(nm,n)]).length (qB (aa++[(nm,n)]))):=by rw[yv,zh,an];exact aj
    have ab:∀k,(u3:Value).ownBlock=some k->w.heap.size<=k:=fun k hk=>(zx O5.o k hk).1
    have I9:Y (TInv w9 tb v b s5):=H0.o.far (I5.o.keep (zL _ _ _)) ad ab
    have G9:Y (w.grownBy w9 (some tb)):=qV (zD G5.o (zL _ _ _)) ad ab
    clear aj ad ab I5 G5 O5
    go_wp2_with fail
    go_roundw
    case rel=>exact⟨i+1,aa++[(nm,n)],s5,by omega,by simp;omega,by go_num,ag,I9,G9,O9⟩
    case measure=>simp[intOf];omega
   by_cases aw:0<n
   ·have ai:Y (tg=((nm,n),qT s4 (decide (n<=1000)))):=by show _=_;rw[ah.o];simp[aw]
    rw[ai.o] at ag
    clear ah ai
    go_wp2_with fail
    refine(yZ Is.o (decide (n<=1000))).mono ?_
    rintro e w5 ⟨rfl,i5,g5⟩
    have I5:Y (TInv w5 tb v b (qT s4 (decide (n<=1000)))):=i5
    have G5:=J (zD Gs.o g5)
    have O5:=J (zV Os.o g5 (fun k hk c=>by have:=x5 c;have:=(zx Os.o k hk).1;omega))
    have ae:=J (zF af.o g5 (zhD am al))
    have z0:=zuH ae.o
    have z1:=zuB ae.o
    have ax:=G5.o.size
    clear i5 g5 Is Gs Os af r0 r1
    generalize qT s4 (decide (n<=1000))=s5 at*
    go_wp2_with (at_builtin;refine wpList_append_own _ rfl _ _ 123 rfl w.heap.size 183 i0 _ 2 24 Tryz.underlying123 hi ap aq ar rfl (by decide) _ _ _ rfl (qK O5.o _) ⟨w5.heap.size,0,none⟩ 1 1 [.string (R.str nm),.int .i64 n] rfl rfl ?c1 ?c2 ?c3 ?c4 ?c5 ?_)
    case c1=>exact zu _ #[_,_] _ _ (by simp)
    case c2=>intro u hu;simp at hu;rcases hu with rfl | rfl <;> rfl
    case c3=>unfold maxLen;omega
    case c4=>omega
    case c5=>simp;omega
    intro v9 w9 aj ad _
    have O9:Y (w9.ownsRow w.heap.size 183 2 v9 (aa++[(nm,n)]).length (qB (aa++[(nm,n)]))):=by rw[yv,zh,an];exact aj
    have ab:∀k,(u3:Value).ownBlock=some k->w.heap.size<=k:=fun k hk=>(zx O5.o k hk).1
    have I9:Y (TInv w9 tb v b s5):=H0.o.far (I5.o.keep (zL _ _ _)) ad ab
    have G9:Y (w.grownBy w9 (some tb)):=qV (zD G5.o (zL _ _ _)) ad ab
    clear aj ad ab I5 G5 O5
    go_wp2_with fail
    go_roundw
    case rel=>exact⟨i+1,aa++[(nm,n)],s5,by omega,by simp;omega,by go_num,ag,I9,G9,O9⟩
    case measure=>simp[intOf];omega
   ·have ai:Y (tg=((nm,n),qT s4 (false))):=by show _=_;rw[ah.o];simp[aw]
    rw[ai.o] at ag
    clear ah ai
    go_wp2_with fail
    refine(yZ Is.o (false)).mono ?_
    rintro e w5 ⟨rfl,i5,g5⟩
    have I5:Y (TInv w5 tb v b (qT s4 (false))):=i5
    have G5:=J (zD Gs.o g5)
    have O5:=J (zV Os.o g5 (fun k hk c=>by have:=x5 c;have:=(zx Os.o k hk).1;omega))
    have ae:=J (zF af.o g5 (zhD am al))
    have z0:=zuH ae.o
    have z1:=zuB ae.o
    have ax:=G5.o.size
    clear i5 g5 Is Gs Os af r0 r1
    generalize qT s4 (false)=s5 at*
    go_wp2_with (at_builtin;refine wpList_append_own _ rfl _ _ 123 rfl w.heap.size 183 i0 _ 2 24 Tryz.underlying123 hi ap aq ar rfl (by decide) _ _ _ rfl (qK O5.o _) ⟨w5.heap.size,0,none⟩ 1 1 [.string (R.str nm),.int .i64 n] rfl rfl ?c1 ?c2 ?c3 ?c4 ?c5 ?_)
    case c1=>exact zu _ #[_,_] _ _ (by simp)
    case c2=>intro u hu;simp at hu;rcases hu with rfl | rfl <;> rfl
    case c3=>unfold maxLen;omega
    case c4=>omega
    case c5=>simp;omega
    intro v9 w9 aj ad _
    have O9:Y (w9.ownsRow w.heap.size 183 2 v9 (aa++[(nm,n)]).length (qB (aa++[(nm,n)]))):=by rw[yv,zh,an];exact aj
    have ab:∀k,(u3:Value).ownBlock=some k->w.heap.size<=k:=fun k hk=>(zx O5.o k hk).1
    have I9:Y (TInv w9 tb v b s5):=H0.o.far (I5.o.keep (zL _ _ _)) ad ab
    have G9:Y (w.grownBy w9 (some tb)):=qV (zD G5.o (zL _ _ _)) ad ab
    clear aj ad ab I5 G5 O5
    go_wp2_with fail
    go_roundw
    case rel=>exact⟨i+1,aa++[(nm,n)],s5,by omega,by simp;omega,by go_num,ag,I9,G9,O9⟩
    case measure=>simp[intOf];omega
  ·have hE:i=N:=by omega
   subst hE
   rw[Nat.sub_self] at HE
   have ag:Y (res=(aa,st)):=by show _=_;rw[HE.o];simp[qi]
   clear HE
   go_wp2
   go_ret
   rw[ag.o]
   exact⟨_,rfl,IR.o,GR.o,HO.o⟩
theorem zg5 {w:World}{tb:Nat}{v:Value}{b:List UInt8}{s:T.St}(h:TInv w tb v b s) :
  Calls Tryz.prog 196 #[.pointer (some ⟨tb,0,none⟩)] w fun e w'=>∃u,e = .returned u/\TInv w' tb v b (jS s).2/\w.grownBy w' (some tb)/\w'.ownsRow w.heap.size 181 3 u (jS s).1.length (xN (jS s).1):=by
 obtain⟨i0,hi,bc,bd,be⟩:=info_parts zm5
 have hN:(zy 3 s).1<=255:=ww 3 s (by omega)
 have HF:Y (Calls Tryz.prog 142 #[.pointer (some ⟨tb,0,none⟩),.int .i64 (3:Nat)] w fun e w'=>e = .returned (.int .i64 ((zy 3 s).1:Nat))/\TInv w' tb v b (zy 3 s).2/\w.grownBy w' (some tb)):=vh h 3
 have HP:Y (jS s=qi T.mt (zy 3 s).1 (zy 3 s).2):=rfl
 have bp:tb<w.heap.size:=by obtain⟨_,_,_,q⟩:=h.ex;exact zI q
 have H0:Y (TInv w tb v b s):=h
 clear h
 generalize jS s=res at*
 generalize zy 3 s=fw at*
 obtain⟨N,s2⟩:=fw
 simp only at HF HP hN
 go_enter Tryz.func196,Tryz.ntmps196
 go_wp2_with fail
 refine HF.o.mono ?_
 rintro e w2 ⟨rfl,i2,g2⟩
 have I2:Y (TInv w2 tb v b s2):=i2
 have G2:Y (w.grownBy w2 (some tb)):=g2
 clear i2 g2 HF
 go_wp2_with fail
 go_loopw [3,5] (fun u iv wr=>∃(i:Nat) (ab:List R.Mt) (st:T.St),i<=N/\ab.length=i/\iv = .int .i64 i/\Y (res=(ab++(qi T.mt (N - i) st).1,(qi T.mt (N - i) st).2))/\Y (TInv wr tb v b st)/\Y (w.grownBy wr (some tb))/\Y (wr.ownsRow w.heap.size 181 3 u ab.length (xN ab))) (fun _ iv _=>N - (intOf iv).toNat)
 case atStart=>exact⟨0,[],s2,zo _,rfl,rfl,by show _=_;rw[HP.o];rfl,I2,G2,xd _ _ _ _⟩
 case round=>
  obtain⟨i,ab,st,bt,ba,rfl,HE,IR,GR,HO⟩:=hrel
  clear I2 G2 HP
  by_cases bv:i<N
  ·have bs:(i:Int)<N:=by omega
   have ah:Y (res=((ab++[(T.mt st).1])++(qi T.mt (N - (i+1)) (T.mt st).2).1,(qi T.mt (N - (i+1)) (T.mt st).2).2)):=by
    show _=_
    rw[HE.o,show N - i=N - (i+1)+1 by omega,x4];rfl
   have HM:Y (T.mt st=if (zy 1 (qT (zr st).2 (R.header (zr st).1 false))).1=1 then (⟨(zr st).1,(ko (zy 1 (qT (zr st).2 (R.header (zr st).1 false))).2).1,true⟩,(ko (zy 1 (qT (zr st).2 (R.header (zr st).1 false))).2).2)
    else (⟨(zr st).1,[],false⟩,(zy 1 (qT (zr st).2 (R.header (zr st).1 false))).2)):=rfl
   have bm:=jB st
   clear HE
   generalize T.mt st=mt at*
   go_wp2_with fail
   refine(jr IR.o).mono ?_
   rintro e aa ⟨rfl,bf,aO⟩
   have aM:Y (TInv aa tb v b ((zr st).2)):=bf
   have an:=J (zD GR.o aO)
   have aH:=J (zV HO.o aO (fun k hk c=>by have:=x5 c;have:=(zx HO.o k hk).1;omega))
   clear IR GR HO
   clear bf aO
   generalize zr st=tx at*
   obtain⟨nm,s3⟩:=tx
   simp only at aM HM bm
   have aA:some aa.heap.size≠some tb:=zhD bp an.o.size
   have bw:=an.o.size
   have a0:Y (∀k,(u3:Value).ownBlock=some k->k<aa.heap.size):=fun k hk=>(zx aH.o k hk).2
   have aB:∀k,some aa.heap.size=some k->w.heap.size<=k:=fun k c=>by have:=x5 c;omega
   have ar:aa.grownBy (aa.alloc (.cells #[.string (R.str nm),.string ⟨#[]⟩,.bool false] 181)) none:=zL _ _ _
   have a4:Y (TInv (aa.alloc (.cells #[.string (R.str nm),.string ⟨#[]⟩,.bool false] 181)) tb v b (s3)):=aM.o.keep ar
   have aT:Y (w.grownBy (aa.alloc (.cells #[.string (R.str nm),.string ⟨#[]⟩,.bool false] 181)) (some tb)):=zD an.o (zb ar _)
   have a1:=J (zV aH.o ar (fun k hk c=>by cases c))
   clear aM an aH
   have aC:Y ((aa.alloc (.cells #[.string (R.str nm),.string ⟨#[]⟩,.bool false] 181)).heap[aa.heap.size]?=some (.cells #[.string (R.str nm),.string ⟨#[]⟩,.bool false] 181)):=heap_alloc_new _ _
   clear ar
   have bx:=ztW aC.o
   have hh:=fd (R.str nm) false (aa.alloc (.cells #[.string (R.str nm),.string ⟨#[]⟩,.bool false] 181)) (by rw[R.str_size];omega)
   rw[R.str_toList] at hh
   have HH:Y (Calls Tryz.prog 248 #[.string (R.str nm),.bool false] (aa.alloc (.cells #[.string (R.str nm),.string ⟨#[]⟩,.bool false] 181)) fun e w'=>e = .returned (.bool (R.header nm false))/\Below (aa.alloc (.cells #[.string (R.str nm),.string ⟨#[]⟩,.bool false] 181)).heap.size (aa.alloc (.cells #[.string (R.str nm),.string ⟨#[]⟩,.bool false] 181)) w'):=hh
   clear hh
   go_wp2_with fail
   refine(HH.o).mono ?_
   rintro e aP ⟨rfl,a9⟩
   have aj:(aa.alloc (.cells #[.string (R.str nm),.string ⟨#[]⟩,.bool false] 181)).grownBy aP none:=qJ a9
   have a5:Y (TInv aP tb v b (s3)):=a4.o.keep aj
   have aU:Y (w.grownBy aP (some tb)):=zD aT.o (zb aj _)
   have aI:=J (zV a1.o aj (fun k hk c=>by cases c))
   have aQ:=J (zF aC.o aj (by simp))
   clear a4 aT a1 aC
   clear a9 aj
   clear HH
   generalize R.header nm false=hd at*
   go_wp2_with fail
   refine(yZ a5.o hd).mono ?_
   rintro e bq ⟨rfl,bg,au⟩
   have a6:Y (TInv bq tb v b (qT s3 hd)):=bg
   have aV:=J (zD aU.o au)
   have aJ:=J (zV aI.o au (fun k hk c=>by have:=x5 c;have:=(zx aI.o k hk).1;omega))
   have aR:=J (zF aQ.o au aA)
   clear a5 aU aI aQ
   clear bg au
   generalize qT s3 hd=s4 at*
   go_wp2_with fail
   refine(vh a6.o 1).mono ?_
   rintro e al ⟨rfl,bh,av⟩
   have aq:Y (TInv al tb v b ((zy 1 s4).2)):=bh
   have ao:=J (zD aV.o av)
   have ap:=J (zV aJ.o av (fun k hk c=>by have:=x5 c;have:=(zx aJ.o k hk).1;omega))
   have ad:=J (zF aR.o av aA)
   clear a6 aV aJ aR
   clear bh av
   generalize zy 1 s4=fk at*
   obtain⟨kk,s5⟩:=fk
   simp only at aq HM
   generalize aF:ko s5=mb at*
   by_cases hk:kk=1
   ·subst hk
    rw[if_pos rfl] at HM
    have bn:=jB s5
    have aG:Y (mb=((zr s5).1,qT (zr s5).2 (R.value (zr s5).1))):=aF.symm
    clear aF
    have bG:=ztX ad.o
    have bI:=zuG 2 ad.o
    have aw:=zG al aa.heap.size 2 (.bool true)
    have aS:Y ((al.setCell ⟨aa.heap.size,2,none⟩ (.bool true)).heap[aa.heap.size]?=some (.cells #[.string (R.str nm),.string ⟨#[]⟩,.bool true] 181)):=zR ad.o _
    have a7:Y (TInv (al.setCell ⟨aa.heap.size,2,none⟩ (.bool true)) tb v b (s5)):=H0.o.far aq.o aw aB
    have aW:=J (qV ao.o aw aB)
    have aK:=J (zV ap.o aw (fun k hk c=>by have:=x5 c;have:=a0.o k hk;omega))
    clear aq ao ap
    clear aw ad
    go_wp2_with fail
    refine(jr a7.o).mono ?_
    rintro e ag ⟨rfl,bi,ax⟩
    have aN:Y (TInv ag tb v b ((zr s5).2)):=bi
    have aX:=J (zD aW.o ax)
    have a2:=J (zV aK.o ax (fun k hk c=>by have:=x5 c;have:=(zx aK.o k hk).1;omega))
    have am:=J (zF aS.o ax aA)
    clear a7 aW aK aS
    clear bi ax
    generalize zr s5=ty at*
    obtain⟨vl,s6⟩:=ty
    simp only at aN aG bn
    rw[aG.o] at HM
    clear aG
    have bH:=zuA am.o
    have bJ:=zuG 1 am.o
    have ay:=zG ag aa.heap.size 1 (.string (R.str vl))
    have aD:Y ((ag.setCell ⟨aa.heap.size,1,none⟩ (.string (R.str vl))).heap[aa.heap.size]?=some (.cells #[.string (R.str nm),.string (R.str vl),.bool true] 181)):=zR am.o _
    have a8:Y (TInv (ag.setCell ⟨aa.heap.size,1,none⟩ (.string (R.str vl))) tb v b (s6)):=H0.o.far aN.o ay aB
    have aY:=J (qV aX.o ay aB)
    have aL:=J (zV a2.o ay (fun k hk c=>by have:=x5 c;have:=a0.o k hk;omega))
    clear aN aX a2
    clear ay am
    have bC:=zuA aD.o
    have hv:=za5 (R.str vl) (ag.setCell ⟨aa.heap.size,1,none⟩ (.string (R.str vl))) (by rw[R.str_size];unfold maxLen;omega)
    rw[R.str_toList] at hv
    have HV:Y (Calls Tryz.prog 249 #[.string (R.str vl)] (ag.setCell ⟨aa.heap.size,1,none⟩ (.string (R.str vl))) fun e w'=>e = .returned (.bool (R.value vl))/\w'=(ag.setCell ⟨aa.heap.size,1,none⟩ (.string (R.str vl)))):=hv
    clear hv
    go_wp2_with fail
    refine(HV.o).mono ?_
    rintro e br ⟨rfl,bb⟩
    rw[bb]
    clear bb br
    clear HV
    generalize R.value vl=vv at*
    go_wp2_with fail
    refine(yZ a8.o vv).mono ?_
    rintro e bk ⟨rfl,bj,az⟩
    have bl:Y (TInv bk tb v b (qT s6 vv)):=bj
    have aZ:=J (zD aY.o az)
    have a3:=J (zV aL.o az (fun k hk c=>by have:=x5 c;have:=(zx aL.o k hk).1;omega))
    have aE:=J (zF aD.o az aA)
    clear a8 aY aL aD
    clear bj az
    generalize qT s6 vv=s7 at*
    have ai:Y (mt=(⟨nm,vl,true⟩,s7)):=HM.o
    rw[ai.o] at ah
    clear HM ai
    have bD:=ztW aE.o
    have bE:=zuA aE.o
    have bF:=ztX aE.o
    have bo:=aZ.o.size
    go_wp2_with (at_builtin;refine wpList_append_own _ rfl _ _ 122 rfl w.heap.size 181 i0 _ 3 40 Tryz.underlying122 hi bc bd be rfl (by decide) _ _ _ rfl (qK a3.o _) ⟨bk.heap.size,0,none⟩ 1 1 [.string (R.str nm),.string (R.str vl),.bool true] rfl rfl ?c1 ?c2 ?c3 ?c4 ?c5 ?_)
    case c1=>exact zu _ #[_,_,_] _ _ (by simp)
    case c2=>intro u hu;simp at hu;rcases hu with rfl | rfl | rfl <;> rfl
    case c3=>unfold maxLen;omega
    case c4=>omega
    case c5=>simp;omega
    intro v9 w9 ak af _
    have O9:Y (w9.ownsRow w.heap.size 181 3 v9 (ab++[(⟨nm,vl,true⟩:R.Mt)]).length (xN (ab++[(⟨nm,vl,true⟩:R.Mt)]))):=by rw[vj,zh,ba];exact ak
    have ae:∀k,(u3:Value).ownBlock=some k->w.heap.size<=k:=fun k hk=>(zx a3.o k hk).1
    have I9:Y (TInv w9 tb v b s7):=H0.o.far (bl.o.keep (zL _ _ _)) af ae
    have G9:Y (w.grownBy w9 (some tb)):=qV (zD aZ.o (zL _ _ _)) af ae
    clear ak af ae
    go_wp2_with fail
    go_roundw
    case rel=>exact⟨i+1,ab++[⟨nm,vl,true⟩],s7,by omega,by simp;omega,by go_num,ah,I9,G9,O9⟩
    case measure=>simp[intOf];omega
   ·rw[if_neg hk] at HM
    have bu:¬((kk:Int)=1):=by omega
    clear aF
    have ai:Y (mt=(⟨nm,[],false⟩,s5)):=HM.o
    rw[ai.o] at ah
    clear HM ai
    have bz:=ztW ad.o
    have bA:=zuA ad.o
    have bB:=ztX ad.o
    have bo:=ao.o.size
    go_wp2_with (at_builtin;refine wpList_append_own _ rfl _ _ 122 rfl w.heap.size 181 i0 _ 3 40 Tryz.underlying122 hi bc bd be rfl (by decide) _ _ _ rfl (qK ap.o _) ⟨al.heap.size,0,none⟩ 1 1 [.string (R.str nm),.string ⟨#[]⟩,.bool false] rfl rfl ?c1 ?c2 ?c3 ?c4 ?c5 ?_)
    case c1=>exact zu _ #[_,_,_] _ _ (by simp)
    case c2=>intro u hu;simp at hu;rcases hu with rfl | rfl | rfl <;> rfl
    case c3=>unfold maxLen;omega
    case c4=>omega
    case c5=>simp;omega
    intro v9 w9 ak af _
    have O9:Y (w9.ownsRow w.heap.size 181 3 v9 (ab++[(⟨nm,[],false⟩:R.Mt)]).length (xN (ab++[(⟨nm,[],false⟩:R.Mt)]))):=by rw[vj,zh,ba];exact ak
    have ae:∀k,(u3:Value).ownBlock=some k->w.heap.size<=k:=fun k hk=>(zx ap.o k hk).1
    have I9:Y (TInv w9 tb v b s5):=H0.o.far (aq.o.keep (zL _ _ _)) af ae
    have G9:Y (w.grownBy w9 (some tb)):=qV (zD ao.o (zL _ _ _)) af ae
    clear ak af ae
    go_wp2_with fail
    go_roundw
    case rel=>exact⟨i+1,ab++[⟨nm,[],false⟩],s5,by omega,by simp;omega,by go_num,ah,I9,G9,O9⟩
    case measure=>simp[intOf];omega
  ·have hE:i=N:=by omega
   subst hE
   rw[Nat.sub_self] at HE
   have ah:Y (res=(ab,st)):=by show _=_;rw[HE.o];simp[qi]
   clear HE
   go_wp2
   go_ret
   rw[ah.o]
   exact⟨_,rfl,IR.o,GR.o,HO.o⟩
end Go.Proofs.YtfocdefchbnkpaaGreatDoor
