/- Small letters, labels and names, as the program tells them. -/
import Derived.Test.YtfocdefchbnkpaaGreatDoorAli
import Derived.Test.YtfocdefchbnkpaaGreatDoorRefG
import Derived.Lib.SlBytesRow
import Derived.Test.YtfocdefchbnkpaaGreatDoorRefJ
set_option maxRecDepth 100000
set_option maxHeartbeats 20000000
namespace Go.Proofs.YtfocdefchbnkpaaGreatDoor
open Go.RowKit
def BytesAt (w:World)(b:Nat)(l:List UInt8):Prop:=
 ∃(cur:Array Value) (lo hi:Nat),w.heap[b]?=some (.cells cur 5 (lo,hi))/\l.length<=lo/\l.length<=cur.size/\∀(j:Nat) (c:UInt8),l[j]?=some c->cur[j]?=some (Value.int .u8 c.toNat)
theorem BytesAt.cell {w:World}{b:Nat}{l:List UInt8}(h:BytesAt w b l){j:Nat}{c:UInt8}(hj:l[j]?=some c):w.cell? ⟨b,j,none⟩=some (.int .u8 c.toNat):=by
 obtain⟨aa,lo,hi,h1,_,_,h4⟩:=h
 rw[zB h1];exact h4 j c hj
theorem BytesAt.free {w:World}{b:Nat}{l:List UInt8}(h:BytesAt w b l){j:Nat}(hj:j<l.length):w.frozen? ⟨b,j,none⟩=false:=by
 obtain⟨aa,lo,hi,h1,h2,_,_⟩:=h
 unfold World.frozen?
 simp only[h1]
 simp;omega
theorem BytesAt.set {w:World}{b:Nat}{l:List UInt8}(h:BytesAt w b l)(j:Nat)(hj:j<l.length)(c:UInt8):BytesAt (w.setCell ⟨b,j,none⟩ (.int .u8 c.toNat)) b (l.set j c):=by
 obtain⟨ab,lo,hi,h1,h2,h3,h4⟩:=h
 refine⟨ab.setIfInBounds j (.int .u8 c.toNat),lo,hi,zR h1 _,by rw[List.length_set];exact h2,by rw[List.length_set,Array.size_setIfInBounds];exact h3,?_⟩
 intro i d hd
 rw[List.getElem?_set] at hd
 rw[Array.getElem?_setIfInBounds]
 by_cases aa:j=i
 ·subst aa
  rw[if_pos rfl,if_pos hj] at hd
  rw[if_pos rfl,if_pos (by omega)]
  cases hd;rfl
 ·rw[if_neg aa] at hd ⊢
  exact h4 i d hd
theorem BytesAt.new (w:World)(s:ByteArray):BytesAt (Lib.bytesWorld w 5 s) w.heap.size s.data.toList:=by
 refine⟨_,_,_,Lib.bytesWorld_at_new w _ s,?_,?_,?_⟩
 ·unfold Lib.bytesCells;simp
 ·unfold Lib.bytesCells;simp
 ·intro j c hc
  unfold Lib.bytesCells
  have hj:j<s.data.size:=by
   have:=(List.getElem?_eq_some_iff.1 hc).1;simpa using this
  rw[Array.getElem?_append_left (by simpa using hj),Array.getElem?_map]
  have:s.data[j]?=some c:=by rw[<-Array.getElem?_toList];exact hc
  rw[this];rfl
theorem ztL (l:List UInt8)(i:Nat)(h:i<(R.str l).size):l[i]?=some (R.str l)[i]:=by
 have h2:i<l.length:=h
 rw[xo h2];rfl
theorem zpP (c:UInt8):((c.toNat:Int) - 65+97) % 256=(c+32).toNat:=by
 rw[UInt8.toNat_add];simp;omega
def wk (k:Nat)(l:List UInt8):List UInt8:=(l.take k).map R.lowC++l.drop k
theorem zaD (k:Nat)(l:List UInt8):(wk k l).length=l.length:=by unfold wk;rw[zh,xW,List.length_take,List.length_drop];omega
theorem zi5 (k:Nat)(l:List UInt8)(h:k<l.length):(wk k l)[k]?=some l[k]:=by
 unfold wk
 rw[List.getElem?_append_right (by simp;omega)]
 simp[Nat.min_eq_left (Nat.le_of_lt h),xo h]
theorem zk9 (k:Nat)(l:List UInt8)(h:k<l.length):wk (k+1) l=(wk k l).set k (R.lowC l[k]):=by
 unfold wk
 rw[uo h,fJ,List.drop_eq_getElem_cons (i:=k) h]
 have e:((l.take k).map R.lowC).length=k:=by simp;omega
 rw[List.set_append_right _ _ (by rw[e];exact zw _),e,Nat.sub_self,List.set_cons_zero,x4]
 rfl
theorem za7 (s:ByteArray)(w:World)(hs:s.size<=1000000000000) :
  Calls Tryz.prog 239 #[.string s] w fun e w'=>e = .returned (.string (R.str (R.lower s.data.toList)))/\w.grownBy w' none:=by
 have ah:∀w,(convert 9 32 (.string s)).run Tryz.prog w = .ok (.slice (some ⟨w.heap.size,0,none⟩) s.size (grownCap w s.size 0 5)) (Lib.bytesWorld w 5 s):=fun w=>Lib.run_convert_string_bytes (u:=.string) w _ _ _ s (by kernel_rfl) (by kernel_rfl) (by kernel_rfl)
 have ad:Y _:=BytesAt.new w s
 have af:Y _:=uX w 5 s
 have hz:w.heap.size<(Lib.bytesWorld w 5 s).heap.size:=by rw[Lib.bytesWorld_size];omega
 go_enter Tryz.func239,Tryz.ntmps239
 go_wp2
 clear ah
 generalize Lib.bytesWorld w 5 s=wB at*
 generalize grownCap w s.size 0 5=cap at*
 go_loopw [10] (fun iv wr=>∃k:Nat,k<=s.size/\iv = .int .i64 k/\Y (BytesAt wr w.heap.size (wk k s.data.toList))/\Y (w.grownBy wr none)) (fun iv _=>s.size - (intOf iv).toNat)
 case atStart=>exact⟨0,zo _,rfl,ad,af⟩
 case round=>
  obtain⟨k,hk,rfl,HB,HG⟩:=hrel
  by_cases aj:k<s.size
  ·have hl:k<s.data.toList.length:=by rw[R.size_eq];exact aj
   have c1:=HB.o.cell (zi5 k s.data.toList hl)
   have f1:=HB.o.free (j:=k) (by rw[zaD];exact hl)
   have HM:Y _:=zk9 k s.data.toList hl
   have HS:Y _:=HB.o.set k (by rw[zaD];exact hl) (R.lowC s.data.toList[k])
   have aa:Y (R.lowC s.data.toList[k]=if R.largeI s.data.toList[k].toNat then s.data.toList[k]+32 else s.data.toList[k]):=rfl
   have ag:Y (R.largeI s.data.toList[k].toNat=false->BytesAt wr w.heap.size (wk (k+1) s.data.toList)):=fun h=>by
    have e:R.lowC s.data.toList[k]=s.data.toList[k]:=by unfold R.lowC;rw[h];rfl
    rw[HM.o,e]
    have:(wk k s.data.toList).set k s.data.toList[k]=wk k s.data.toList:=by
     apply List.ext_getElem?
     intro i
     rw[List.getElem?_set]
     by_cases hi:k=i
     ·subst hi;rw[if_pos rfl,if_pos (by rw[zaD];exact hl),zi5 k _ hl]
     ·rw[if_neg hi]
    rw[this];exact HB.o
   generalize s.data.toList[k]=c at*
   cases hL:R.largeI c.toNat
   ·have ae:Y _:=ag.o hL
    go_wp2_with (go_at_call 309;refine(ut _ _).mono ?_;rintro e w' ⟨rfl,rfl⟩)
    exact⟨⟨k+1,by omega,by go_num,ae,HG⟩,by simp[intOf];omega⟩
   ·rw[hL] at aa
    simp only[if_true] at aa
    go_wp2_with (go_at_call 309;refine(ut _ _).mono ?_;rintro e w' ⟨rfl,rfl⟩)
    refine⟨⟨k+1,by omega,by go_num,?_,?_⟩,by simp[intOf];omega⟩
    ·show BytesAt _ _ _
     rw[HM.o,show((c.toNat:Int) - 65+97) % 256=(R.lowC c).toNat by rw[aa.o];exact zpP c]
     exact HS.o
    ·exact zm HG.o (zG _ _ _ _) (zw _)
  ·have ai:k=s.size:=by omega
   subst ai
   have ab:wk s.size s.data.toList=R.lower s.data.toList:=by
    unfold wk R.lower;rw[tW (by rw[R.size_eq];exact zw _),List.drop_of_length_le (by rw[R.size_eq];exact zw _),zb3]
   rw[ab] at HB
   have al:(convert 32 9 (.slice (some ⟨w.heap.size,0,none⟩) s.size cap)).run Tryz.prog wr = .ok (.string (R.str (R.lower s.data.toList))) wr:=by
    have ak:(R.str (R.lower s.data.toList)).size=s.size:=by rw[R.str_size,vW,R.size_eq]
    have:=Lib.run_convert_whole (P:=Tryz.prog) wr 32 5 9 (by kernel_rfl) (by kernel_rfl) (by kernel_rfl) w.heap.size 0 (R.str (R.lower s.data.toList)) (fun i hi=>by
     rw[Nat.zero_add]
     apply HB.o.cell
     exact ztL _ i hi) cap
    rw[ak] at this;exact this
   clear ab
   go_wp2
   go_ret
   exact⟨rfl,HG.o⟩
def vC (c:Int):Bool:=R.partI c true
theorem zfC (c:Int)(w:World):Calls Tryz.prog 393 #[.int .u8 c] w fun e w'=>e = .returned (.bool (vC c))/\w'=w:=zbR c w
theorem zjC (s:ByteArray)(w:World)(hs:s.size<=maxLen) :
  Calls Tryz.prog 202 #[.string s,.func (.func 393) #[] #[]] w fun e w'=>e = .returned (.int .i64 (R.span vC s.data.toList:Nat))/\w'=w:=by
 unfold maxLen at hs
 go_enter Tryz.func202,Tryz.ntmps202
 go_wp2_with fail
 go_loop [8] (fun v=>∃k:Nat,k<=s.size/\v = .int .i64 k/\Y (R.span vC s.data.toList=k+R.span vC (s.data.toList.drop k))) (fun v=>s.size - (intOf v).toNat)
 case atStart=>exact⟨0,zo _,rfl,by show _=_;simp⟩
 case round=>
  obtain⟨k,hk,rfl,HL⟩:=hrel
  by_cases ab:k<s.size
  ·cases hp:vC s[k].toNat
   ·have H2:Y (R.span vC s.data.toList=k):=by
     have:=HL.o;rw[R.span_stop ab hp] at this;exact this
    clear HL
    go_wp2_with fail
    refine(zfC _ _).mono ?_
    rintro e wX ⟨rfl,aa⟩
    rw[aa,hp]
    clear aa wX
    go_wp2
    go_ret
    exact⟨by rw[H2.o];rfl,rfl⟩
   ·have H2:Y (R.span vC s.data.toList=(k+1)+R.span vC (s.data.toList.drop (k+1))):=by
     have:=HL.o;rw[R.span_step ab hp] at this;show _=_;omega
    clear HL
    go_wp2_with fail
    refine(zfC _ _).mono ?_
    rintro e wX ⟨rfl,aa⟩
    rw[aa,hp]
    clear aa wX
    go_wp2
    exact⟨⟨k+1,by omega,by go_num,H2⟩,by simp[intOf];omega⟩
  ·have H2:Y (R.span vC s.data.toList=s.size):=by
    have:=HL.o;rw[R.span_end (k:=k) (by omega)] at this;show _=_;omega
   clear HL
   go_wp2
   go_ret
   exact⟨by rw[H2.o];rfl,rfl⟩
theorem zh3 (s:ByteArray)(w:World)(hs:s.size<=maxLen) :
  Calls Tryz.prog 352 #[.string s,.func (.func 393) #[] #[]] w fun e w'=>e = .returned (.bool (R.allB vC s.data.toList))/\w'=w:=by
 have HA:Y (R.allB vC s.data.toList=((R.span vC s.data.toList:Int) == s.size)):=by
  show R.allB vC s.data.toList=_
  rw[<-R.size_eq,Bool.eq_iff_iff]
  simp only[beq_iff_eq]
  rw[Int.ofNat_inj]
  exact uK vC s.data.toList
 go_enter Tryz.func352,Tryz.ntmps352
 go_wp2_with fail
 refine(zjC s _ hs).mono ?_
 rintro e wX ⟨rfl,aa⟩
 rw[aa]
 clear aa wX
 go_wp2
 go_ret
 exact⟨qN (by rw[HA.o]),rfl⟩
theorem zl1 (s:ByteArray)(w:World)(hs:s.size<=maxLen) :
  Calls Tryz.prog 202 #[.string s,.func (.func 412) #[] #[]] w fun e w'=>e = .returned (.int .i64 (R.span R.upI s.data.toList:Nat))/\w'=w:=by
 unfold maxLen at hs
 go_enter Tryz.func202,Tryz.ntmps202
 go_wp2_with fail
 go_loop [8] (fun v=>∃k:Nat,k<=s.size/\v = .int .i64 k/\Y (R.span R.upI s.data.toList=k+R.span R.upI (s.data.toList.drop k))) (fun v=>s.size - (intOf v).toNat)
 case atStart=>exact⟨0,zo _,rfl,by show _=_;simp⟩
 case round=>
  obtain⟨k,hk,rfl,HL⟩:=hrel
  by_cases ab:k<s.size
  ·cases hp:R.upI s[k].toNat
   ·have H2:Y (R.span R.upI s.data.toList=k):=by
     have:=HL.o;rw[R.span_stop ab hp] at this;exact this
    clear HL
    go_wp2_with fail
    refine(kw _ _).mono ?_
    rintro e wX ⟨rfl,aa⟩
    rw[aa,hp]
    clear aa wX
    go_wp2
    go_ret
    exact⟨by rw[H2.o];rfl,rfl⟩
   ·have H2:Y (R.span R.upI s.data.toList=(k+1)+R.span R.upI (s.data.toList.drop (k+1))):=by
     have:=HL.o;rw[R.span_step ab hp] at this;show _=_;omega
    clear HL
    go_wp2_with fail
    refine(kw _ _).mono ?_
    rintro e wX ⟨rfl,aa⟩
    rw[aa,hp]
    clear aa wX
    go_wp2
    exact⟨⟨k+1,by omega,by go_num,H2⟩,by simp[intOf];omega⟩
  ·have H2:Y (R.span R.upI s.data.toList=s.size):=by
    have:=HL.o;rw[R.span_end (k:=k) (by omega)] at this;show _=_;omega
   clear HL
   go_wp2
   go_ret
   exact⟨by rw[H2.o];rfl,rfl⟩
theorem zlP (s:ByteArray)(w:World)(hs:s.size<=maxLen) :
  Calls Tryz.prog 352 #[.string s,.func (.func 412) #[] #[]] w fun e w'=>e = .returned (.bool (R.allB R.upI s.data.toList))/\w'=w:=by
 have HA:Y (R.allB R.upI s.data.toList=((R.span R.upI s.data.toList:Int) == s.size)):=by
  show R.allB R.upI s.data.toList=_
  rw[<-R.size_eq,Bool.eq_iff_iff]
  simp only[beq_iff_eq]
  rw[Int.ofNat_inj]
  exact uK R.upI s.data.toList
 go_enter Tryz.func352,Tryz.ntmps352
 go_wp2_with fail
 refine(zl1 s _ hs).mono ?_
 rintro e wX ⟨rfl,aa⟩
 rw[aa]
 clear aa wX
 go_wp2
 go_ret
 exact⟨qN (by rw[HA.o]),rfl⟩
theorem zeH (s:ByteArray):(s.toList == [])=decide (s.size=0):=by
 rw[ByteArray.toList_eq,<-R.size_eq]
 cases s.data.toList with
 | nil=>rfl
 | cons c l=>simp
theorem un (s:ByteArray)(w:World)(hs:s.size<=maxLen) :
  Calls Tryz.prog 354 #[.string s] w fun e w'=>e = .returned (.bool (R.word s.data.toList true))/\w'=w:=by
 have HW:Y (R.word s.data.toList true=(R.allB vC s.data.toList && decide (0<s.data.toList.length))):=rfl
 have he:=zeH s
 rw[R.size_eq] at HW
 by_cases h0:s.size=0
 ·rw[decide_eq_true h0] at he
  have aa:Y (R.word s.data.toList true=false):=by show R.word _ _=_;rw[HW.o,decide_eq_false (by omega)];simp
  clear HW h0
  go_enter Tryz.func354,Tryz.ntmps354
  go_wp2
  go_ret
  exact⟨qN (by rw[aa.o]),rfl⟩
 ·rw[decide_eq_false h0] at he
  have aa:Y (R.word s.data.toList true=R.allB vC s.data.toList):=by show R.word _ _=_;rw[HW.o,decide_eq_true (by omega)];simp
  clear HW h0
  go_enter Tryz.func354,Tryz.ntmps354
  go_wp2_with fail
  refine(zh3 s _ hs).mono ?_
  rintro e wX ⟨rfl,ab⟩
  rw[ab]
  clear ab wX
  go_wp2
  go_ret
  exact⟨qN (by rw[aa.o]),rfl⟩
theorem zc9 (s:ByteArray)(w:World)(hs:s.size<=maxLen) :
  Calls Tryz.prog 380 #[.string s] w fun e w'=>e = .returned (.bool (R.upstream s.data.toList))/\w'=w:=by
 have HW:Y (R.upstream s.data.toList=(R.allB R.upI s.data.toList && decide (0<s.data.toList.length))):=rfl
 have he:=zeH s
 rw[R.size_eq] at HW
 by_cases h0:s.size=0
 ·rw[decide_eq_true h0] at he
  have aa:Y (R.upstream s.data.toList=false):=by show R.upstream _=_;rw[HW.o,decide_eq_false (by omega)];simp
  clear HW h0
  go_enter Tryz.func380,Tryz.ntmps380
  go_wp2
  go_ret
  exact⟨qN (by rw[aa.o]),rfl⟩
 ·rw[decide_eq_false h0] at he
  have aa:Y (R.upstream s.data.toList=R.allB R.upI s.data.toList):=by show R.upstream _=_;rw[HW.o,decide_eq_true (by omega)];simp
  clear HW h0
  go_enter Tryz.func380,Tryz.ntmps380
  go_wp2_with fail
  refine(zlP s _ hs).mono ?_
  rintro e wX ⟨rfl,ab⟩
  rw[ab]
  clear ab wX
  go_wp2
  go_ret
  exact⟨qN (by rw[aa.o]),rfl⟩
theorem zlH (s:ByteArray)(w:World)(hs:s.size<=maxLen) :
  Calls Tryz.prog 330 #[.string s] w fun e w'=>e = .returned (.bool (R.path s.data.toList))/\w'=w:=by
 have HW:Y (R.path s.data.toList=(Lib.hasPrefix s.data.toList [47] && R.allB R.pathI s.data.toList)):=by
  show R.path _=_
  unfold R.path Lib.hasPrefix
  cases s.data.toList with
  | nil=>rfl
  | cons c l=>
   rw[Bool.and_comm]
   congr 1
   simp only[zoF,List.head?_cons,List.isPrefixOf]
   rw[Bool.eq_iff_iff];simp
   exact eq_comm
 have HP:Y (∀w,Calls Tryz.prog 216 #[.string s,.string ⟨#[47]⟩] w fun e w'=>e = .returned (.bool (Lib.hasPrefix s.data.toList [47]))/\w'=w):=fun w=>Tryz.strings_HasPrefix s ⟨#[47]⟩ w
 generalize Lib.hasPrefix s.data.toList [47]=b at*
 cases b
 ·go_enter Tryz.func330,Tryz.ntmps330
  go_wp2_with fail
  refine(HP.o _).mono ?_
  rintro e wX ⟨rfl,aa⟩
  rw[aa]
  clear aa wX
  go_wp2
  go_ret
  exact⟨qN (by rw[HW.o];rfl),rfl⟩
 ·go_enter Tryz.func330,Tryz.ntmps330
  go_wp2_with fail
  refine(HP.o _).mono ?_
  rintro e wX ⟨rfl,aa⟩
  rw[aa]
  clear aa wX
  go_wp2_with fail
  refine(zgQ s _ hs).mono ?_
  rintro e wX ⟨rfl,aa⟩
  rw[aa]
  clear aa wX
  go_wp2
  go_ret
  exact⟨qN (by rw[HW.o];rfl),rfl⟩
theorem zjK (s:ByteArray)(w:World)(hs:s.size<=maxLen) :
  Calls Tryz.prog 379 #[.string s] w fun e w'=>e = .returned (.bool (R.value s.data.toList))/\w.grownBy w' none:=by
 have HW:Y (R.value s.data.toList=(R.allB R.valueI s.data.toList && decide (Lib.trimB s.data.toList 32=s.data.toList))):=by
  show R.value _=_
  unfold R.value;rw[znX]
 have HT:Y (∀w,Calls Tryz.prog 356 #[.string s,.string ⟨#[32]⟩] w fun e w'=>e = .returned (.string (R.str (Lib.trimB s.data.toList 32)))/\(w'=w\/w'=w.drew)):=fun w=>Tryz.strings_Trim_one s 32 (by decide) w (by unfold maxLen at hs;omega)
 have hq:((R.str (Lib.trimB s.data.toList 32)).toList == s.toList)=decide (Lib.trimB s.data.toList 32=s.data.toList):=by rw[ByteArray.toList_eq,ByteArray.toList_eq,R.str_toList,Bool.eq_iff_iff];simp
 generalize Lib.trimB s.data.toList 32=tb at*
 have HA:Y _:=fun w=>ze7 s w hs
 generalize R.allB R.valueI s.data.toList=av at*
 generalize decide (tb=s.data.toList)=bq at*
 cases av
 ·go_enter Tryz.func379,Tryz.ntmps379
  go_wp2_with fail
  refine(HA.o _).mono ?_
  rintro e wX ⟨rfl,aa⟩
  rw[aa]
  clear aa wX
  go_wp2
  go_ret
  exact⟨qN (by rw[HW.o];rfl),ze _ _⟩
 ·go_enter Tryz.func379,Tryz.ntmps379
  go_wp2_with fail
  refine(HA.o _).mono ?_
  rintro e wX ⟨rfl,aa⟩
  rw[aa]
  clear aa wX
  go_wp2_with fail
  refine(HT.o _).mono ?_
  rintro e w1 ⟨rfl,hw⟩
  have hg:w.grownBy w1 none:=by rcases hw with rfl | rfl;exact ze _ _;exact zg _
  clear hw
  go_wp2
  go_ret
  exact⟨qN (by rw[HW.o];rfl),hg⟩
theorem zfW (s:ByteArray)(w:World)(hs:s.size<=1000000000000) :
  Calls Tryz.prog 378 #[.string s] w fun e w'=>e = .returned (.bool (R.header s.data.toList true))/\w.grownBy w' none:=by
 have ab:s.size<=maxLen:=by unfold maxLen;omega
 have HH:Y (R.header s.data.toList true=(R.word s.data.toList true && (!decide (R.lower s.data.toList=R.host) && (!decide (R.lower s.data.toList=R.contentLength) && !decide (R.lower s.data.toList=R.transferEncoding))))):=by
  show R.header s.data.toList true=_
  unfold R.header;rw[decide_not,decide_not,decide_not]
 have e1:=toLs (R.lower s.data.toList) R.host
 have e2:=toLs (R.lower s.data.toList) R.contentLength
 have e3:=toLs (R.lower s.data.toList) R.transferEncoding
 generalize decide (R.lower s.data.toList=R.host)=b1 at*
 generalize decide (R.lower s.data.toList=R.contentLength)=b2 at*
 generalize decide (R.lower s.data.toList=R.transferEncoding)=b3 at*
 unfold R.host at e1
 unfold R.contentLength at e2
 unfold R.transferEncoding at e3
 have aa:Y _:=fun w=>za7 s w hs
 generalize hl:R.str (R.lower s.data.toList)=o at*
 cases b1 <;> cases b2 <;> cases b3
 all_goals
  go_enter Tryz.func378,Tryz.ntmps378
  go_wp2_with (first
   | (go_at_call 239;refine(aa.o _).mono ?_;rintro e w1 ⟨rfl,hg⟩)
   | (go_at_call 354;refine(un _ _ ab).mono ?_;rintro e w' ⟨rfl,rfl⟩))
  go_ret
  exact⟨qN (by rw[HH.o];simp),hg⟩
theorem zhX (w:World)(l:List ByteArray)(k:Nat)(h:k<l.length):(w.alloc (.cells (l.map Value.string).toArray 9)).cell? ⟨w.heap.size,k,none⟩=some (.string l[k]):=by
 rw[World.cell?_alloc_new]
 simp[h]
theorem zlT (s:ByteArray)(w:World)(m:Int)(hm:w.cell? ⟨0,0,none⟩=some (.int .i64 m))(hs:s.size<=3000) :
  Calls Tryz.prog 325 #[.string s] w fun e w'=>e = .returned (.bool (R.labels s.data.toList true))/\w.grownBy w' none:=by
 have HN:Y (R.labels s.data.toList true=((Lib.splitB ⟨#[46]⟩ 0 (Lib.countB s ⟨#[46]⟩) s).map (·.data.toList)).all fun x=>R.word x true):=by
  show R.labels _ _=_
  rw[Lib.splitB_data,<-zaW];rfl
 have ai:Y _:=fun(_:Unit)=>Tryz.strings_Split s ⟨#[46]⟩ m w (by omega) hm (by decide)
 have am:(Lib.splitB ⟨#[46]⟩ 0 (Lib.countB s ⟨#[46]⟩) s).length=Lib.countB s ⟨#[46]⟩+1:=Lib.splitB_all _ (by decide) 0 _ s rfl
 have al:Lib.countB s ⟨#[46]⟩<=s.size:=Lib.countB_le _ (by decide) s.size s (zw _)
 have ae:∀p∈Lib.splitB ⟨#[46]⟩ 0 (Lib.countB s ⟨#[46]⟩) s,p.size<=maxLen:=by
  have aj:∀(k:Nat) (t:ByteArray),t.size<=3000->∀p∈Lib.splitB ⟨#[46]⟩ 0 k t,p.size<=maxLen:=by
   intro k
   induction k with
   | zero=>intro t ht p hp;rw[Lib.splitB_zero] at hp;simp at hp;subst hp;unfold maxLen;omega
   | succ k ih=>
    intro t ht p hp
    rw[Lib.splitB] at hp
    split at hp
    ·simp at hp;subst hp;unfold maxLen;omega
    ·rcases List.mem_cons.1 hp with rfl | hp
     ·rw[<-R.size_eq,fA,List.length_take,List.length_drop,R.size_eq];unfold maxLen;omega
     ·exact ih _ (by rw[<-R.size_eq,fA,List.length_take,List.length_drop,R.size_eq];omega) p hp
  exact aj _ s hs
 have ah:Y _:=ae
 clear ae hm
 generalize Lib.countB s ⟨#[46]⟩=n at*
 generalize Lib.splitB ⟨#[46]⟩ 0 n s=sp at*
 have HC:Y _:=zhX w sp
 have HG:Y _:=zL w (.cells (sp.map Value.string).toArray 9) none
 go_enter Tryz.func325,Tryz.ntmps325
 go_wp2_with fail
 refine(ai.o ()).mono ?_
 rintro e w1 ⟨rfl,af⟩
 rw[<-af] at HC HG
 clear af
 go_wp2_with fail
 go_loop [8] (fun iv=>∃k:Nat,k<=n+1/\iv = .int .i64 k/\Y (((sp.take k).map (·.data.toList)).all (fun x=>R.word x true)=true)) (fun iv=>n+1 - (intOf iv).toNat)
 case atStart=>exact⟨0,zo _,rfl,rfl⟩
 case round=>
  obtain⟨k,hk,rfl,HA⟩:=hrel
  by_cases an:k<n+1
  ·have ab:k<sp.length:=by omega
   have c1:=HC.o k ab
   have ad:Y _:=ah.o sp[k] (List.getElem_mem ab)
   have HT:Y (((sp.take (k+1)).map (·.data.toList)).all (fun x=>R.word x true)=(((sp.take k).map (·.data.toList)).all (fun x=>R.word x true) && R.word sp[k].data.toList true)):=by
    show _=_
    rw[uo ab,fJ,List.all_append];simp
   have HF:Y (R.word sp[k].data.toList true=false->(sp.map (·.data.toList)).all (fun x=>R.word x true)=false):=fun h=>by
    rw[List.all_eq_false]
    exact⟨sp[k].data.toList,List.mem_map.2 ⟨sp[k],List.getElem_mem ab,rfl⟩,by rw[h];simp⟩
   generalize sp[k]=p at*
   cases hw:R.word p.data.toList true
   ·have ag:Y _:=HF.o hw
    go_wp2_with fail
    refine(un _ _ ad.o).mono ?_
    rintro e wX ⟨rfl,aa⟩
    rw[aa,hw]
    clear aa wX
    go_wp2
    go_ret
    exact⟨qN (by rw[HN.o,ag.o]),HG.o⟩
   ·go_wp2_with fail
    refine(un _ _ ad.o).mono ?_
    rintro e wX ⟨rfl,aa⟩
    rw[aa,hw]
    clear aa wX
    go_wp2
    exact⟨⟨k+1,by omega,by go_num,by show _=_;rw[HT.o,HA.o,hw];rfl⟩,by simp[intOf];omega⟩
  ·have ak:k=n+1:=by omega
   subst ak
   rw[tW (by omega)] at HA
   go_wp2
   go_ret
   exact⟨qN (by rw[HN.o,HA.o]),HG.o⟩
theorem zkW (s:ByteArray)(w:World)(m:Int)(hm:w.cell? ⟨0,0,none⟩=some (.int .i64 m))(hs:s.size<=3000) :
  Calls Tryz.prog 268 #[.string s] w fun e w'=>e = .returned (.bool (R.named s.data.toList true))/\w.grownBy w' none:=by
 have HN:Y (R.named s.data.toList true=(decide (s.data.toList=[42]) || R.labels (Lib.trimPrefix s.data.toList [42,46]) true)):=by
  show R.named _ _=_
  rw[<-znB,zaW]
 have he:(s.toList == [42])=decide (s.data.toList=[42]):=by rw[ByteArray.toList_eq,Bool.eq_iff_iff];simp
 have HT:Y (∀w,Calls Tryz.prog 244 #[.string s,.string ⟨#[42,46]⟩] w fun e w'=>e = .returned (.string (R.str (Lib.trimPrefix s.data.toList [42,46])))/\w'=w):=fun w=>Tryz.strings_TrimPrefix s ⟨#[42,46]⟩ w
 have ad:(R.str (Lib.trimPrefix s.data.toList [42,46])).size<=3000:=by
  rw[R.str_size];unfold Lib.trimPrefix;split
  ·rw[List.length_drop,R.size_eq];omega
  ·rw[R.size_eq];exact hs
 have ab:Y (∀w,w.cell? ⟨0,0,none⟩=some (.int .i64 m)->Calls Tryz.prog 325 #[.string (R.str (Lib.trimPrefix s.data.toList [42,46]))] w fun e w'=>e = .returned (.bool (R.labels (Lib.trimPrefix s.data.toList [42,46]) true))/\w.grownBy w' none):=fun w h=>by
  have:=zlT (R.str (Lib.trimPrefix s.data.toList [42,46])) w m h ad
  rw[R.str_toList] at this;exact this
 have HM:Y _:=hm
 clear hm
 generalize decide (s.data.toList=[42])=b at*
 generalize Lib.trimPrefix s.data.toList [42,46]=tp at*
 cases b
 ·go_enter Tryz.func268,Tryz.ntmps268
  go_wp2_with fail
  refine(HT.o _).mono ?_
  rintro e wX ⟨rfl,aa⟩
  rw[aa]
  clear aa wX
  go_wp2_with fail
  refine(ab.o _ HM.o).mono ?_
  rintro e w1 ⟨rfl,hg⟩
  go_wp2
  go_ret
  exact⟨qN (by rw[HN.o];rfl),hg⟩
 ·go_enter Tryz.func268,Tryz.ntmps268
  go_wp2
  go_ret
  exact⟨qN (by rw[HN.o];rfl),ze _ _⟩
end Go.Proofs.YtfocdefchbnkpaaGreatDoor
