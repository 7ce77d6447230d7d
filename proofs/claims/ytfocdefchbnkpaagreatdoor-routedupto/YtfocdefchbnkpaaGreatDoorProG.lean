/- Labels, names, hosts, paths, headers, values and upstreams, as the program tells them. -/
import Derived.Test.YtfocdefchbnkpaaGreatDoorAli
import Derived.Test.YtfocdefchbnkpaaGreatDoorRefJ
set_option maxRecDepth 100000
set_option maxHeartbeats 20000000
namespace Go.Proofs.YtfocdefchbnkpaaGreatDoor
open Go.RowKit
def yk (c:Int):Bool:=R.partI c true
theorem zaO (c:Int)(w:World):Calls Tryz.prog 393 #[.int .u8 c] w fun e w'=>e = .returned (.bool (yk c))/\w'=w:=uj c w
theorem zfD (s:ByteArray)(w:World)(hs:s.size<=maxLen) :
  Calls Tryz.prog 202 #[.string s,.func (.func 393) #[] #[]] w fun e w'=>e = .returned (.int .i64 (R.span yk s.data.toList:Nat))/\w'=w:=by
 unfold maxLen at hs
 go_enter Tryz.func202,Tryz.ntmps202
 go_wp2_with fail
 go_loop [8] (fun v=>∃k:Nat,k<=s.size/\v = .int .i64 k/\Y (R.span yk s.data.toList=k+R.span yk (s.data.toList.drop k))) (fun v=>s.size - (intOf v).toNat)
 case atStart=>exact⟨0,zl _,rfl,by show _=_;simp⟩
 case round=>
  obtain⟨k,hk,rfl,HL⟩:=hrel
  by_cases ab:k<s.size
  ·cases hp:yk s[k].toNat
   ·have H2:Y (R.span yk s.data.toList=k):=by
     have:=HL.o;rw[R.span_stop ab hp] at this;exact this
    clear HL
    go_wp2_with fail
    refine(zaO _ _).mono ?_
    rintro e wX ⟨rfl,aa⟩
    rw[aa,hp]
    clear aa wX
    go_wp2
    go_ret
    exact⟨by rw[H2.o];rfl,rfl⟩
   ·have H2:Y (R.span yk s.data.toList=(k+1)+R.span yk (s.data.toList.drop (k+1))):=by
     have:=HL.o;rw[R.span_step ab hp] at this;show _=_;omega
    clear HL
    go_wp2_with fail
    refine(zaO _ _).mono ?_
    rintro e wX ⟨rfl,aa⟩
    rw[aa,hp]
    clear aa wX
    go_wp2
    exact⟨⟨k+1,by omega,by go_num,H2⟩,by simp[intOf];omega⟩
  ·have H2:Y (R.span yk s.data.toList=s.size):=by
    have:=HL.o;rw[R.span_end (k:=k) (by omega)] at this;show _=_;omega
   clear HL
   go_wp2
   go_ret
   exact⟨by rw[H2.o];rfl,rfl⟩
theorem zf6 (s:ByteArray)(w:World)(hs:s.size<=maxLen) :
  Calls Tryz.prog 352 #[.string s,.func (.func 393) #[] #[]] w fun e w'=>e = .returned (.bool (R.allB yk s.data.toList))/\w'=w:=by
 have HA:Y (R.allB yk s.data.toList=((R.span yk s.data.toList:Int) == s.size)):=by
  show R.allB yk s.data.toList=_
  rw[<-R.size_eq,Bool.eq_iff_iff]
  simp only[beq_iff_eq]
  rw[Int.ofNat_inj]
  exact yX yk s.data.toList
 go_enter Tryz.func352,Tryz.ntmps352
 go_wp2_with fail
 refine(zfD s _ hs).mono ?_
 rintro e wX ⟨rfl,aa⟩
 rw[aa]
 clear aa wX
 go_wp2
 go_ret
 exact⟨za (by rw[HA.o]),rfl⟩
theorem zhX (s:ByteArray)(w:World)(hs:s.size<=maxLen) :
  Calls Tryz.prog 202 #[.string s,.func (.func 412) #[] #[]] w fun e w'=>e = .returned (.int .i64 (R.span R.upI s.data.toList:Nat))/\w'=w:=by
 unfold maxLen at hs
 go_enter Tryz.func202,Tryz.ntmps202
 go_wp2_with fail
 go_loop [8] (fun v=>∃k:Nat,k<=s.size/\v = .int .i64 k/\Y (R.span R.upI s.data.toList=k+R.span R.upI (s.data.toList.drop k))) (fun v=>s.size - (intOf v).toNat)
 case atStart=>exact⟨0,zl _,rfl,by show _=_;simp⟩
 case round=>
  obtain⟨k,hk,rfl,HL⟩:=hrel
  by_cases ab:k<s.size
  ·cases hp:R.upI s[k].toNat
   ·have H2:Y (R.span R.upI s.data.toList=k):=by
     have:=HL.o;rw[R.span_stop ab hp] at this;exact this
    clear HL
    go_wp2_with fail
    refine(jk _ _).mono ?_
    rintro e wX ⟨rfl,aa⟩
    rw[aa,hp]
    clear aa wX
    go_wp2
    go_ret
    exact⟨by rw[H2.o];rfl,rfl⟩
   ·have H2:Y (R.span R.upI s.data.toList=(k+1)+R.span R.upI (s.data.toList.drop (k+1))):=by
     have:=HL.o;rw[R.span_step ab hp] at this;show _=_;omega
    clear HL
    go_wp2_with fail
    refine(jk _ _).mono ?_
    rintro e wX ⟨rfl,aa⟩
    rw[aa,hp]
    clear aa wX
    go_wp2
    exact⟨⟨k+1,by omega,by go_num,H2⟩,by simp[intOf];omega⟩
  ·have H2:Y (R.span R.upI s.data.toList=s.size):=by
    have:=HL.o;rw[R.span_end (k:=k) (by omega)] at this;show _=_;omega
   clear HL
   go_wp2
   go_ret
   exact⟨by rw[H2.o];rfl,rfl⟩
theorem zhT (s:ByteArray)(w:World)(hs:s.size<=maxLen) :
  Calls Tryz.prog 352 #[.string s,.func (.func 412) #[] #[]] w fun e w'=>e = .returned (.bool (R.allB R.upI s.data.toList))/\w'=w:=by
 have HA:Y (R.allB R.upI s.data.toList=((R.span R.upI s.data.toList:Int) == s.size)):=by
  show R.allB R.upI s.data.toList=_
  rw[<-R.size_eq,Bool.eq_iff_iff]
  simp only[beq_iff_eq]
  rw[Int.ofNat_inj]
  exact yX R.upI s.data.toList
 go_enter Tryz.func352,Tryz.ntmps352
 go_wp2_with fail
 refine(zhX s _ hs).mono ?_
 rintro e wX ⟨rfl,aa⟩
 rw[aa]
 clear aa wX
 go_wp2
 go_ret
 exact⟨za (by rw[HA.o]),rfl⟩
theorem zaW (s:ByteArray):(s.toList == [])=decide (s.size=0):=by
 rw[ByteArray.toList_eq,<-R.size_eq]
 cases s.data.toList with
 | nil=>rfl
 | cons c l=>simp
theorem ju (s:ByteArray)(w:World)(hs:s.size<=maxLen) :
  Calls Tryz.prog 354 #[.string s] w fun e w'=>e = .returned (.bool (R.word s.data.toList true))/\w'=w:=by
 have HW:Y (R.word s.data.toList true=(R.allB yk s.data.toList && decide (0<s.data.toList.length))):=rfl
 have he:=zaW s
 rw[R.size_eq] at HW
 by_cases h0:s.size=0
 ·rw[decide_eq_true h0] at he
  have aa:Y (R.word s.data.toList true=false):=by show R.word _ _=_;rw[HW.o,decide_eq_false (by omega)];simp
  clear HW h0
  go_enter Tryz.func354,Tryz.ntmps354
  go_wp2
  go_ret
  exact⟨za (by rw[aa.o]),rfl⟩
 ·rw[decide_eq_false h0] at he
  have aa:Y (R.word s.data.toList true=R.allB yk s.data.toList):=by show R.word _ _=_;rw[HW.o,decide_eq_true (by omega)];simp
  clear HW h0
  go_enter Tryz.func354,Tryz.ntmps354
  go_wp2_with fail
  refine(zf6 s _ hs).mono ?_
  rintro e wX ⟨rfl,ab⟩
  rw[ab]
  clear ab wX
  go_wp2
  go_ret
  exact⟨za (by rw[aa.o]),rfl⟩
theorem fj (s:ByteArray)(w:World)(hs:s.size<=maxLen) :
  Calls Tryz.prog 380 #[.string s] w fun e w'=>e = .returned (.bool (R.upstream s.data.toList))/\w'=w:=by
 have HW:Y (R.upstream s.data.toList=(R.allB R.upI s.data.toList && decide (0<s.data.toList.length))):=rfl
 have he:=zaW s
 rw[R.size_eq] at HW
 by_cases h0:s.size=0
 ·rw[decide_eq_true h0] at he
  have aa:Y (R.upstream s.data.toList=false):=by show R.upstream _=_;rw[HW.o,decide_eq_false (by omega)];simp
  clear HW h0
  go_enter Tryz.func380,Tryz.ntmps380
  go_wp2
  go_ret
  exact⟨za (by rw[aa.o]),rfl⟩
 ·rw[decide_eq_false h0] at he
  have aa:Y (R.upstream s.data.toList=R.allB R.upI s.data.toList):=by show R.upstream _=_;rw[HW.o,decide_eq_true (by omega)];simp
  clear HW h0
  go_enter Tryz.func380,Tryz.ntmps380
  go_wp2_with fail
  refine(zhT s _ hs).mono ?_
  rintro e wX ⟨rfl,ab⟩
  rw[ab]
  clear ab wX
  go_wp2
  go_ret
  exact⟨za (by rw[aa.o]),rfl⟩
theorem zhW (s:ByteArray)(w:World)(hs:s.size<=maxLen) :
  Calls Tryz.prog 330 #[.string s] w fun e w'=>e = .returned (.bool (R.path s.data.toList))/\w'=w:=by
 have HW:Y (R.path s.data.toList=(Lib.hasPrefix s.data.toList [47] && R.allB R.pathI s.data.toList)):=by
  show R.path _=_
  unfold R.path Lib.hasPrefix
  cases s.data.toList with
  | nil=>rfl
  | cons c l=>
   rw[Bool.and_comm]
   congr 1
   simp only[zm,List.head?_cons,List.isPrefixOf]
   rw[Bool.eq_iff_iff];simp
   exact eq_comm
 have HP:Y (∀w,Calls Tryz.prog 216 #[.string s,.string ⟨#[47]⟩] w fun e w'=>e = .returned (.bool (Lib.hasPrefix s.data.toList [47]))/\w'=w):=fun w=>Tryz.strings_HasPrefix s ⟨#[47]⟩ w
 generalize Lib.hasPrefix s.data.toList [47]=b at*
 cases b
 ·go_enter Tryz.func330,Tryz.ntmps330
  go_wp2_with fail
  refine(HP.o _).mono ?_
  rintro e wX ⟨rfl,aa⟩
  rw[aa]
  clear aa wX
  go_wp2
  go_ret
  exact⟨za (by rw[HW.o];rfl),rfl⟩
 ·go_enter Tryz.func330,Tryz.ntmps330
  go_wp2_with fail
  refine(HP.o _).mono ?_
  rintro e wX ⟨rfl,aa⟩
  rw[aa]
  clear aa wX
  go_wp2_with fail
  refine(zcB s _ hs).mono ?_
  rintro e wX ⟨rfl,aa⟩
  rw[aa]
  clear aa wX
  go_wp2
  go_ret
  exact⟨za (by rw[HW.o];rfl),rfl⟩
theorem zfB (s:ByteArray)(w:World)(hs:s.size<=maxLen) :
  Calls Tryz.prog 379 #[.string s] w fun e w'=>e = .returned (.bool (R.value s.data.toList))/\w.grownBy w' none:=by
 have HW:Y (R.value s.data.toList=(R.allB R.valueI s.data.toList && decide (Lib.trimB s.data.toList 32=s.data.toList))):=by
  show R.value _=_
  unfold R.value;rw[zjJ]
 have HT:Y (∀w,Calls Tryz.prog 356 #[.string s,.string ⟨#[32]⟩] w fun e w'=>e = .returned (.string (R.str (Lib.trimB s.data.toList 32)))/\(w'=w\/w'=w.drew)):=fun w=>Tryz.strings_Trim_one s 32 (by decide) w (by unfold maxLen at hs;omega)
 have hq:((R.str (Lib.trimB s.data.toList 32)).toList == s.toList)=decide (Lib.trimB s.data.toList 32=s.data.toList):=by rw[ByteArray.toList_eq,ByteArray.toList_eq,R.str_toList,Bool.eq_iff_iff];simp
 generalize Lib.trimB s.data.toList 32=tb at*
 have HA:Y _:=fun w=>tO s w hs
 generalize R.allB R.valueI s.data.toList=av at*
 generalize decide (tb=s.data.toList)=bq at*
 cases av
 ·go_enter Tryz.func379,Tryz.ntmps379
  go_wp2_with fail
  refine(HA.o _).mono ?_
  rintro e wX ⟨rfl,aa⟩
  rw[aa]
  clear aa wX
  go_wp2
  go_ret
  exact⟨za (by rw[HW.o];rfl),zM _ _⟩
 ·go_enter Tryz.func379,Tryz.ntmps379
  go_wp2_with fail
  refine(HA.o _).mono ?_
  rintro e wX ⟨rfl,aa⟩
  rw[aa]
  clear aa wX
  go_wp2_with fail
  refine(HT.o _).mono ?_
  rintro e w1 ⟨rfl,hw⟩
  have hg:w.grownBy w1 none:=by rcases hw with rfl | rfl;exact zM _ _;exact zQ _
  clear hw
  go_wp2
  go_ret
  exact⟨za (by rw[HW.o];rfl),hg⟩
theorem zcC (s:ByteArray)(w:World)(hs:s.size<=1000000000000) :
  Calls Tryz.prog 378 #[.string s] w fun e w'=>e = .returned (.bool (R.header s.data.toList true))/\w.grownBy w' none:=by
 have ab:s.size<=maxLen:=by unfold maxLen;omega
 have HH:Y (R.header s.data.toList true=(R.word s.data.toList true && (!decide (R.lower s.data.toList=R.host) && (!decide (R.lower s.data.toList=R.contentLength) && !decide (R.lower s.data.toList=R.transferEncoding))))):=by
  show R.header s.data.toList true=_
  unfold R.header;rw[decide_not,decide_not,decide_not]
 have e1:=toLs (R.lower s.data.toList) R.host
 have e2:=toLs (R.lower s.data.toList) R.contentLength
 have e3:=toLs (R.lower s.data.toList) R.transferEncoding
 generalize decide (R.lower s.data.toList=R.host)=b1 at*
 generalize decide (R.lower s.data.toList=R.contentLength)=b2 at*
 generalize decide (R.lower s.data.toList=R.transferEncoding)=b3 at*
 unfold R.host at e1
 unfold R.contentLength at e2
 unfold R.transferEncoding at e3
 have aa:Y _:=fun w=>jc s w hs
 generalize hl:R.str (R.lower s.data.toList)=o at*
 cases b1 <;> cases b2 <;> cases b3
 all_goals
  go_enter Tryz.func378,Tryz.ntmps378
  go_wp2_with (first
   | (go_at_call 239;refine(aa.o _).mono ?_;rintro e w1 ⟨rfl,hg⟩)
   | (go_at_call 354;refine(ju _ _ ab).mono ?_;rintro e w' ⟨rfl,rfl⟩))
  go_ret
  exact⟨za (by rw[HH.o];simp),hg⟩
theorem ud (w:World)(l:List ByteArray)(k:Nat)(h:k<l.length):(w.alloc (.cells (l.map Value.string).toArray 9)).cell? ⟨w.heap.size,k,none⟩=some (.string l[k]):=by
 rw[World.cell?_alloc_new]
 simp[h]
theorem fi (s:ByteArray)(w:World)(m:Int)(hm:w.cell? ⟨0,0,none⟩=some (.int .i64 m))(hs:s.size<=3000) :
  Calls Tryz.prog 325 #[.string s] w fun e w'=>e = .returned (.bool (R.labels s.data.toList true))/\w.grownBy w' none:=by
 have HN:Y (R.labels s.data.toList true=((Lib.splitB ⟨#[46]⟩ 0 (Lib.countB s ⟨#[46]⟩) s).map (·.data.toList)).all fun x=>R.word x true):=by
  show R.labels _ _=_
  rw[Lib.splitB_data,<-wy];rfl
 have ai:Y _:=fun(_:Unit)=>Tryz.strings_Split s ⟨#[46]⟩ m w (by omega) hm (by decide)
 have am:(Lib.splitB ⟨#[46]⟩ 0 (Lib.countB s ⟨#[46]⟩) s).length=Lib.countB s ⟨#[46]⟩+1:=Lib.splitB_all _ (by decide) 0 _ s rfl
 have al:Lib.countB s ⟨#[46]⟩<=s.size:=Lib.countB_le _ (by decide) s.size s (zZ _)
 have ae:∀p∈Lib.splitB ⟨#[46]⟩ 0 (Lib.countB s ⟨#[46]⟩) s,p.size<=maxLen:=by
  have aj:∀(k:Nat) (t:ByteArray),t.size<=3000->∀p∈Lib.splitB ⟨#[46]⟩ 0 k t,p.size<=maxLen:=by
   intro k
   induction k with
   | zero=>intro t ht p hp;rw[Lib.splitB_zero] at hp;simp at hp;subst hp;unfold maxLen;omega
   | succ k ih=>
    intro t ht p hp
    rw[Lib.splitB] at hp
    split at hp
    ·simp at hp;subst hp;unfold maxLen;omega
    ·rcases List.mem_cons.1 hp with rfl | hp
     ·rw[<-R.size_eq,kx,List.length_take,List.length_drop,R.size_eq];unfold maxLen;omega
     ·exact ih _ (by rw[<-R.size_eq,kx,List.length_take,List.length_drop,R.size_eq];omega) p hp
  exact aj _ s hs
 have ah:Y _:=ae
 clear ae hm
 generalize Lib.countB s ⟨#[46]⟩=n at*
 generalize Lib.splitB ⟨#[46]⟩ 0 n s=sp at*
 have HC:Y _:=ud w sp
 have HG:Y _:=zJ w (.cells (sp.map Value.string).toArray 9) none
 go_enter Tryz.func325,Tryz.ntmps325
 go_wp2_with fail
 refine(ai.o ()).mono ?_
 rintro e w1 ⟨rfl,af⟩
 rw[<-af] at HC HG
 clear af
 go_wp2_with fail
 go_loop [8] (fun iv=>∃k:Nat,k<=n+1/\iv = .int .i64 k/\Y (((sp.take k).map (·.data.toList)).all (fun x=>R.word x true)=true)) (fun iv=>n+1 - (intOf iv).toNat)
 case atStart=>exact⟨0,zl _,rfl,rfl⟩
 case round=>
  obtain⟨k,hk,rfl,HA⟩:=hrel
  by_cases an:k<n+1
  ·have ab:k<sp.length:=by omega
   have c1:=HC.o k ab
   have ad:Y _:=ah.o sp[k] (List.getElem_mem ab)
   have HT:Y (((sp.take (k+1)).map (·.data.toList)).all (fun x=>R.word x true)=(((sp.take k).map (·.data.toList)).all (fun x=>R.word x true) && R.word sp[k].data.toList true)):=by
    show _=_
    rw[j6 ab,xy,List.all_append];simp
   have HF:Y (R.word sp[k].data.toList true=false->(sp.map (·.data.toList)).all (fun x=>R.word x true)=false):=fun h=>by
    rw[List.all_eq_false]
    exact⟨sp[k].data.toList,List.mem_map.2 ⟨sp[k],List.getElem_mem ab,rfl⟩,by rw[h];simp⟩
   generalize sp[k]=p at*
   cases hw:R.word p.data.toList true
   ·have ag:Y _:=HF.o hw
    go_wp2_with fail
    refine(ju _ _ ad.o).mono ?_
    rintro e wX ⟨rfl,aa⟩
    rw[aa,hw]
    clear aa wX
    go_wp2
    go_ret
    exact⟨za (by rw[HN.o,ag.o]),HG.o⟩
   ·go_wp2_with fail
    refine(ju _ _ ad.o).mono ?_
    rintro e wX ⟨rfl,aa⟩
    rw[aa,hw]
    clear aa wX
    go_wp2
    exact⟨⟨k+1,by omega,by go_num,by show _=_;rw[HT.o,HA.o,hw];rfl⟩,by simp[intOf];omega⟩
  ·have ak:k=n+1:=by omega
   subst ak
   rw[jS (by omega)] at HA
   go_wp2
   go_ret
   exact⟨za (by rw[HN.o,HA.o]),HG.o⟩
theorem zhV (s:ByteArray)(w:World)(m:Int)(hm:w.cell? ⟨0,0,none⟩=some (.int .i64 m))(hs:s.size<=3000) :
  Calls Tryz.prog 268 #[.string s] w fun e w'=>e = .returned (.bool (R.named s.data.toList true))/\w.grownBy w' none:=by
 have HN:Y (R.named s.data.toList true=(decide (s.data.toList=[42]) || R.labels (Lib.trimPrefix s.data.toList [42,46]) true)):=by
  show R.named _ _=_
  rw[<-zjI,wy]
 have he:(s.toList == [42])=decide (s.data.toList=[42]):=by rw[ByteArray.toList_eq,Bool.eq_iff_iff];simp
 have HT:Y (∀w,Calls Tryz.prog 244 #[.string s,.string ⟨#[42,46]⟩] w fun e w'=>e = .returned (.string (R.str (Lib.trimPrefix s.data.toList [42,46])))/\w'=w):=fun w=>Tryz.strings_TrimPrefix s ⟨#[42,46]⟩ w
 have ad:(R.str (Lib.trimPrefix s.data.toList [42,46])).size<=3000:=by
  rw[R.str_size];unfold Lib.trimPrefix;split
  ·rw[List.length_drop,R.size_eq];omega
  ·rw[R.size_eq];exact hs
 have ab:Y (∀w,w.cell? ⟨0,0,none⟩=some (.int .i64 m)->Calls Tryz.prog 325 #[.string (R.str (Lib.trimPrefix s.data.toList [42,46]))] w fun e w'=>e = .returned (.bool (R.labels (Lib.trimPrefix s.data.toList [42,46]) true))/\w.grownBy w' none):=fun w h=>by
  have:=fi (R.str (Lib.trimPrefix s.data.toList [42,46])) w m h ad
  rw[R.str_toList] at this;exact this
 have HM:Y _:=hm
 clear hm
 generalize decide (s.data.toList=[42])=b at*
 generalize Lib.trimPrefix s.data.toList [42,46]=tp at*
 cases b
 ·go_enter Tryz.func268,Tryz.ntmps268
  go_wp2_with fail
  refine(HT.o _).mono ?_
  rintro e wX ⟨rfl,aa⟩
  rw[aa]
  clear aa wX
  go_wp2_with fail
  refine(ab.o _ HM.o).mono ?_
  rintro e w1 ⟨rfl,hg⟩
  go_wp2
  go_ret
  exact⟨za (by rw[HN.o];rfl),hg⟩
 ·go_enter Tryz.func268,Tryz.ntmps268
  go_wp2
  go_ret
  exact⟨za (by rw[HN.o];rfl),zM _ _⟩
end Go.Proofs.YtfocdefchbnkpaaGreatDoor
