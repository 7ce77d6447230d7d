/- The plain functions that the document's own reading of a policy computes byte by byte (labels, names, paths, headers, values, upstreams, numbers), with no program in them. -/
import Derived.Test.YtfocdefchbnkpaaGreatDoorAli
import Derived.WalkKit
import Derived.Test.YtfocdefchbnkpaaGreatDoorProg
import Derived.WalkSpells
import Derived.Lib.Strings
set_option maxRecDepth 100000
set_option maxHeartbeats 20000000
namespace Go.Proofs.YtfocdefchbnkpaaGreatDoor
namespace R
def str (l:List UInt8):ByteArray:=⟨l.toArray⟩
theorem str_toList (l:List UInt8):(str l).data.toList=l:=by simp[str]
theorem str_of (s:ByteArray):str s.data.toList=s:=by cases s;simp[str]
theorem str_size (l:List UInt8):(str l).size=l.length:=rfl
theorem size_eq (s:ByteArray):s.data.toList.length=s.size:=by rw[Array.length_toList];rfl
def smallI (c:Int):Bool:=decide (97<=c) && decide (c<=122)
def digitI (c:Int):Bool:=decide (48<=c) && decide (c<=57)
def largeI (c:Int):Bool:=decide (65<=c) && decide (c<=90)
def partI (c:Int)(large:Bool):Bool:=smallI c || digitI c || c == 45 || (large && largeI c)
def pathI (c:Int):Bool:=decide (33<=c/\c<=126/\c≠63/\c≠35/\c≠34)
def valueI (c:Int):Bool:=decide (32<=c/\c<=126/\c≠34)
def upI (c:Int):Bool:=partI c false || decide (c=46\/c=58)
def allB (p:Int->Bool)(l:List UInt8):Bool:=l.all fun c=>p c.toNat
theorem drop_cons (s:ByteArray)(k:Nat)(h:k<s.size):s.data.toList.drop k=s[k] :: s.data.toList.drop (k+1):=by
 rw[List.drop_eq_getElem_cons (by rw[size_eq];exact h)];rfl
theorem take_snoc (s:ByteArray)(k:Nat)(h:k<s.size):s.data.toList.take (k+1)=s.data.toList.take k++[s[k]]:=by
 rw[uo (by rw[size_eq];exact h)];rfl
theorem all_succ {p:Int->Bool}{s:ByteArray}{k:Nat}(h:k<s.size)(ht:allB p (s.data.toList.take k)=true)(hp:p s[k].toNat=true):allB p (s.data.toList.take (k+1))=true:=by
 rw[take_snoc s k h];unfold allB at *;rw[List.all_append,ht];simp[hp]
theorem all_false {p:Int->Bool}{s:ByteArray}{k:Nat}(h:k<s.size)(hp:p s[k].toNat=false):allB p s.data.toList=false:=by
 have e:s.data.toList=s.data.toList.take k++s.data.toList.drop k:=(List.take_append_drop k _).symm
 rw[e,drop_cons s k h];unfold allB;rw[List.all_append];simp[hp]
theorem all_done {p:Int->Bool}{s:ByteArray}{k:Nat}(h:s.size<=k)(ht:allB p (s.data.toList.take k)=true):allB p s.data.toList=true:=by
 rwa[tW (by rw[size_eq];exact h)] at ht
def labelsGo (lg:Bool):List UInt8->Nat->Bool
 | [],n=>decide (0<n)
 | c :: cs,n=>if (c.toNat:Int)=46/\0<n then labelsGo lg cs 0 else if partI c.toNat lg then labelsGo lg cs (n+1) else false
def labels (l:List UInt8)(lg:Bool):Bool:=labelsGo lg l 0
def named (l:List UInt8)(lg:Bool):Bool:=if l=[42] then true else if l.take 2=[42,46]/\2<l.length then labels (l.drop 2) lg else labels l lg
def path (l:List UInt8):Bool:=allB pathI l && (decide (0<l.length) && decide (l.head?=some 47))
def word (l:List UInt8)(lg:Bool):Bool:=allB (fun c=>partI c lg) l && decide (0<l.length)
def lowC (c:UInt8):UInt8:=if largeI c.toNat then c+32 else c
def lower (l:List UInt8):List UInt8:=l.map lowC
def host:List UInt8:=[104,111,115,116]
def contentLength:List UInt8:=[99,111,110,116,101,110,116,45,108,101,110,103,116,104]
def transferEncoding:List UInt8:=[116,114,97,110,115,102,101,114,45,101,110,99,111,100,105,110,103]
def header (l:List UInt8)(lg:Bool):Bool:=word l lg && (decide (lower l≠host) && (decide (lower l≠contentLength) && decide (lower l≠transferEncoding)))
def value (l:List UInt8):Bool:=allB valueI l && (decide (l.length=0) || (decide (l.head?≠some 32) && decide (l.getLast?≠some 32)))
def upstream (l:List UInt8):Bool:=allB upI l && decide (0<l.length)
end R
end Go.Proofs.YtfocdefchbnkpaaGreatDoor
namespace Go.Proofs.YtfocdefchbnkpaaGreatDoor
open Go.RowKit
theorem qN {a b:Bool}(h:a=b):Ending.returned (.bool a) = .returned (.bool b):=by rw[h]
theorem fR (c:Int)(w:World) :
  Calls Tryz.prog 128 #[.int .u8 c] w fun e w'=>e = .returned (.bool (R.smallI c))/\w'=w:=by
 by_cases h:97<=c
 all_goals
  go_enter Tryz.func128,Tryz.ntmps128
  go_wp2
  go_ret
  exact⟨qN (by unfold R.smallI;rw[Bool.eq_iff_iff];simp;try omega),rfl⟩
theorem fI (c:Int)(w:World) :
  Calls Tryz.prog 129 #[.int .u8 c] w fun e w'=>e = .returned (.bool (R.digitI c))/\w'=w:=by
 by_cases h:48<=c
 all_goals
  go_enter Tryz.func129,Tryz.ntmps129
  go_wp2
  go_ret
  exact⟨qN (by unfold R.digitI;rw[Bool.eq_iff_iff];simp;try omega),rfl⟩
theorem kG (c:Int)(lg:Bool)(w:World) :
  Calls Tryz.prog 188 #[.int .u8 c,.bool lg] w fun e w'=>e = .returned (.bool (R.partI c lg))/\w'=w:=by
 cases lg
 all_goals
  go_enter Tryz.func188,Tryz.ntmps188
  go_wp2
  all_goals
   go_ret
   refine⟨qN ?_,rfl⟩
   unfold R.partI R.smallI R.digitI R.largeI
   rw[Bool.eq_iff_iff]
   simp
   try omega
theorem fp (s:ByteArray)(lg:Bool)(w:World)(hs:s.size<=maxLen) :
  Calls Tryz.prog 131 #[.string s,.bool lg] w fun e w'=>e = .returned (.bool (R.labels s.data.toList lg))/\w'=w:=by
 unfold maxLen at hs
 go_enter Tryz.func131,Tryz.ntmps131
 go_wp2
 go_loop [5,6] (fun n i=>∃k m:Nat,k<=s.size/\m<=k/\i = .int .i64 k/\n = .int .i64 m/\Y (R.labelsGo lg (s.data.toList.drop k) m=R.labels s.data.toList lg)) (fun _ i=>s.size - (intOf i).toNat)
 case atStart=>exact⟨0,0,zo _,zo _,rfl,rfl,rfl⟩
 case round=>
  obtain⟨k,m,hk,hm,rfl,rfl,HL⟩:=hrel
  by_cases ad:k<s.size
  ·have aa:Y ((if (s[k].toNat:Int)=46/\0<m then R.labelsGo lg (s.data.toList.drop (k+1)) 0 else if R.partI s[k].toNat lg then R.labelsGo lg (s.data.toList.drop (k+1)) (m+1) else false)=R.labels s.data.toList lg):=by
    have:=HL.o;rw[R.drop_cons s k ad,R.labelsGo] at this;exact this
   clear HL
   generalize hb:s[k]=b at*
   by_cases ab:(b.toNat:Int)=46/\0<m
   ·obtain⟨h1,h2⟩:=ab
    have H3:Y (R.labelsGo lg (s.data.toList.drop (k+1)) 0=R.labels s.data.toList lg):=by have:=aa.o;rwa[if_pos ⟨h1,h2⟩] at this
    have ae:((b.toNat:Int) == 46)=true:=by simp[h1]
    clear h1 aa
    go_wp2_with (go_at_call 188;refine(kG _ _ _).mono ?_;rintro e w' ⟨rfl,rfl⟩)
    exact⟨⟨k+1,0,by omega,by omega,by go_num,by go_num,H3⟩,by simp[intOf];omega⟩
   ·cases hp:R.partI b.toNat lg
    ·have H3:Y (false=R.labels s.data.toList lg):=by have:=aa.o;rwa[if_neg ab,hp,if_neg (by simp)] at this
     clear aa
     go_wp2_with (go_at_call 188;refine(kG _ _ _).mono ?_;rintro e w' ⟨rfl,rfl⟩)
     all_goals
      go_ret
      exact⟨qN H3,rfl⟩
    ·have H3:Y (R.labelsGo lg (s.data.toList.drop (k+1)) (m+1)=R.labels s.data.toList lg):=by have:=aa.o;rwa[if_neg ab,hp,if_pos rfl] at this
     clear aa
     go_wp2_with (go_at_call 188;refine(kG _ _ _).mono ?_;rintro e w' ⟨rfl,rfl⟩)
     all_goals exact⟨⟨k+1,m+1,by omega,by omega,by go_num,by go_num,H3⟩,by simp[intOf];omega⟩
  ·go_wp2
   go_ret
   exact⟨qN (by rw[<-HL.o,List.drop_of_length_le (by rw[R.size_eq];omega)];rfl),rfl⟩
theorem zr7 (s:ByteArray)(lg:Bool)(w:World)(hs:s.size<=maxLen) :
  Calls Tryz.prog 313 #[.string s,.bool lg] w fun e w'=>e = .returned (.bool (R.word s.data.toList lg))/\w'=w:=by
 unfold maxLen at hs
 go_enter Tryz.func313,Tryz.ntmps313
 go_wp2
 go_loop [5] (fun i=>∃k:Nat,k<=s.size/\i = .int .i64 k/\Y (R.allB (fun c=>R.partI c lg) (s.data.toList.take k)=true)) (fun i=>s.size - (intOf i).toNat)
 case atStart=>exact⟨0,zo _,rfl,rfl⟩
 case round=>
  obtain⟨k,hk,rfl,HL⟩:=hrel
  by_cases aa:k<s.size
  ·cases hp:R.partI s[k].toNat lg
   ·have H3:Y (R.word s.data.toList lg=false):=by
     show R.word s.data.toList lg=false
     unfold R.word;rw[R.all_false (p:=fun c=>R.partI c lg) aa hp];rfl
    go_wp2_with (go_at_call 188;refine(kG _ _ _).mono ?_;rintro e w' ⟨rfl,rfl⟩)
    go_ret
    exact⟨qN H3.o.symm,rfl⟩
   ·have H3:=R.all_succ (p:=fun c=>R.partI c lg) aa HL.o hp
    have H4:Y (R.allB (fun c=>R.partI c lg) (s.data.toList.take (k+1))=true):=H3
    clear H3
    go_wp2_with (go_at_call 188;refine(kG _ _ _).mono ?_;rintro e w' ⟨rfl,rfl⟩)
    exact⟨⟨k+1,by omega,by go_num,H4⟩,by simp[intOf];omega⟩
  ·have H3:Y (R.word s.data.toList lg=decide (0<s.size)):=by
    show R.word s.data.toList lg=_
    unfold R.word;rw[R.all_done (by omega) HL.o,R.size_eq];rfl
   go_wp2
   go_ret
   exact⟨qN (by rw[H3.o]),rfl⟩
theorem tO (s:ByteArray)(w:World)(hs:s.size<=maxLen) :
  Calls Tryz.prog 193 #[.string s] w fun e w'=>e = .returned (.bool (R.upstream s.data.toList))/\w'=w:=by
 unfold maxLen at hs
 go_enter Tryz.func193,Tryz.ntmps193
 go_wp2
 go_loop [3] (fun i=>∃k:Nat,k<=s.size/\i = .int .i64 k/\Y (R.allB R.upI (s.data.toList.take k)=true)) (fun i=>s.size - (intOf i).toNat)
 case atStart=>exact⟨0,zo _,rfl,rfl⟩
 case round=>
  obtain⟨k,hk,rfl,HL⟩:=hrel
  by_cases aa:k<s.size
  ·have HN:Y (R.upI s[k].toNat=false->R.upstream s.data.toList=false):=by
    intro h;unfold R.upstream;rw[R.all_false aa h];rfl
   have HY:Y (R.upI s[k].toNat=true->R.allB R.upI (s.data.toList.take (k+1))=true):=fun h=>R.all_succ aa HL.o h
   clear HL
   generalize hb:s[k]=b at*
   cases hp:R.partI b.toNat false
   ·by_cases h1:(b.toNat:Int)=46\/(b.toNat:Int)=58
    ·have H4:Y (R.allB R.upI (s.data.toList.take (k+1))=true):=HY.o (by unfold R.upI;rw[hp];simp;omega)
     go_wp2_with (go_at_call 188;refine(kG _ _ _).mono ?_;rintro e w' ⟨rfl,rfl⟩)
     all_goals first | exact⟨⟨k+1,by omega,by go_num,H4⟩,by simp[intOf];omega⟩ | (exfalso;simp_all;done) | (exfalso;omega)
    ·have H3:Y (R.upstream s.data.toList=false):=HN.o (by unfold R.upI;rw[hp];simp;omega)
     have g1:((b.toNat:Int) != 46)=true:=by rw[bne_iff_ne];exact fun h=>h1 (Or.inl h)
     have g2:((b.toNat:Int) != 58)=true:=by rw[bne_iff_ne];exact fun h=>h1 (Or.inr h)
     clear h1
     go_wp2_with (go_at_call 188;refine(kG _ _ _).mono ?_;rintro e w' ⟨rfl,rfl⟩)
     go_ret
     exact⟨qN H3.o.symm,rfl⟩
   ·have H4:Y (R.allB R.upI (s.data.toList.take (k+1))=true):=HY.o (by unfold R.upI;rw[hp];rfl)
    go_wp2_with (go_at_call 188;refine(kG _ _ _).mono ?_;rintro e w' ⟨rfl,rfl⟩)
    exact⟨⟨k+1,by omega,by go_num,H4⟩,by simp[intOf];omega⟩
  ·have H3:Y (R.upstream s.data.toList=decide (0<s.size)):=by
    show R.upstream s.data.toList=_
    unfold R.upstream;rw[R.all_done (by omega) HL.o,R.size_eq];rfl
   go_wp2
   go_ret
   exact⟨qN (by rw[H3.o]),rfl⟩
theorem zlZ (s:ByteArray)(h:0<s.size):s.data.toList.head?=some s[0]:=by
 have:=R.drop_cons s 0 h
 simp only[List.drop_zero] at this
 rw[this];rfl
theorem zs1 (s:ByteArray)(h:0<s.size):s.data.toList.getLast?=some s[s.size - 1]:=by
 rw[List.getLast?_eq_getElem?,R.size_eq,xo (by rw[R.size_eq];omega)];rfl
theorem zq9 (c:UInt8)(n:UInt8):decide (some c=some n)=((c.toNat:Int) == n.toNat):=by
 rw[Bool.eq_iff_iff];simp;exact⟨fun h=>by rw[h],fun h=>UInt8.toNat_inj.1 (by omega)⟩
theorem zcM (s:ByteArray)(w:World)(hs:s.size<=maxLen) :
  Calls Tryz.prog 189 #[.string s] w fun e w'=>e = .returned (.bool (R.path s.data.toList))/\w'=w:=by
 unfold maxLen at hs
 go_enter Tryz.func189,Tryz.ntmps189
 go_wp2
 go_loop [3] (fun i=>∃k:Nat,k<=s.size/\i = .int .i64 k/\Y (R.allB R.pathI (s.data.toList.take k)=true)) (fun i=>s.size - (intOf i).toNat)
 case atStart=>exact⟨0,zo _,rfl,rfl⟩
 case round=>
  obtain⟨k,hk,rfl,HL⟩:=hrel
  by_cases aa:k<s.size
  ·have HN:Y (R.pathI s[k].toNat=false->R.path s.data.toList=false):=by
    intro h;unfold R.path;rw[R.all_false aa h];rfl
   have HY:Y (R.pathI s[k].toNat=true->R.allB R.pathI (s.data.toList.take (k+1))=true):=fun h=>R.all_succ aa HL.o h
   clear HL
   generalize hb:s[k]=b at*
   by_cases hp:33<=(b.toNat:Int)/\(b.toNat:Int)<=126/\(b.toNat:Int)≠63/\(b.toNat:Int)≠35/\(b.toNat:Int)≠34
   ·have H4:Y (R.allB R.pathI (s.data.toList.take (k+1))=true):=HY.o (by unfold R.pathI;exact decide_eq_true hp)
    obtain⟨p1,p2,p3,p4,p5⟩:=hp
    have g3:((b.toNat:Int) == 63)=false:=by simp;omega
    have g4:((b.toNat:Int) == 35)=false:=by simp;omega
    have g5:((b.toNat:Int) == 34)=false:=by simp;omega
    clear p3 p4 p5 HN HY
    go_wp2
    exact⟨⟨k+1,by omega,by go_num,H4⟩,by simp[intOf];omega⟩
   ·have H3:Y (R.path s.data.toList=false):=HN.o (by unfold R.pathI;exact decide_eq_false hp)
    clear HN HY
    go_wp2
    all_goals first | (go_ret;exact⟨qN H3.o.symm,rfl⟩) | (exfalso;apply hp;simp_all;omega) | (exfalso;apply hp;simp_all;done)
  ·have H3:Y (R.path s.data.toList=(decide (0<s.size) && decide (s.data.toList.head?=some 47))):=by
    show R.path s.data.toList=_
    unfold R.path;rw[R.all_done (by omega) HL.o,R.size_eq];rfl
   clear HL
   by_cases h0:0<s.size
   ·have H4:Y (R.path s.data.toList=((s[0].toNat:Int) == 47)):=by
     have:=H3.o;rw[zlZ s h0,zq9,decide_eq_true h0] at this;exact this
    go_wp2
    go_ret
    exact⟨qN (by rw[H4.o]),rfl⟩
   ·have H4:Y (R.path s.data.toList=false):=by
     have:=H3.o;rw[decide_eq_false h0] at this;exact this
    go_wp2
    go_ret
    exact⟨qN (by rw[H4.o]),rfl⟩
theorem za5 (s:ByteArray)(w:World)(hs:s.size<=maxLen) :
  Calls Tryz.prog 249 #[.string s] w fun e w'=>e = .returned (.bool (R.value s.data.toList))/\w'=w:=by
 unfold maxLen at hs
 go_enter Tryz.func249,Tryz.ntmps249
 go_wp2
 go_loop [3] (fun i=>∃k:Nat,k<=s.size/\i = .int .i64 k/\Y (R.allB R.valueI (s.data.toList.take k)=true)) (fun i=>s.size - (intOf i).toNat)
 case atStart=>exact⟨0,zo _,rfl,rfl⟩
 case round=>
  obtain⟨k,hk,rfl,HL⟩:=hrel
  by_cases aa:k<s.size
  ·have HN:Y (R.valueI s[k].toNat=false->R.value s.data.toList=false):=by
    intro h;unfold R.value;rw[R.all_false aa h];rfl
   have HY:Y (R.valueI s[k].toNat=true->R.allB R.valueI (s.data.toList.take (k+1))=true):=fun h=>R.all_succ aa HL.o h
   clear HL
   generalize hb:s[k]=b at*
   by_cases hp:32<=(b.toNat:Int)/\(b.toNat:Int)<=126/\(b.toNat:Int)≠34
   ·have H4:Y (R.allB R.valueI (s.data.toList.take (k+1))=true):=HY.o (by unfold R.valueI;exact decide_eq_true hp)
    obtain⟨p1,p2,p5⟩:=hp
    have g5:((b.toNat:Int) == 34)=false:=by simp;omega
    clear p5 HN HY
    go_wp2
    exact⟨⟨k+1,by omega,by go_num,H4⟩,by simp[intOf];omega⟩
   ·have H3:Y (R.value s.data.toList=false):=HN.o (by unfold R.valueI;exact decide_eq_false hp)
    clear HN HY
    go_wp2
    all_goals first | (go_ret;exact⟨qN H3.o.symm,rfl⟩) | (exfalso;apply hp;simp_all;omega) | (exfalso;apply hp;simp_all;done)
  ·have H3:Y (R.value s.data.toList=(decide (s.size=0) || (decide (s.data.toList.head?≠some 32) && decide (s.data.toList.getLast?≠some 32)))):=by
    show R.value s.data.toList=_
    unfold R.value;rw[R.all_done (by omega) HL.o,R.size_eq];rfl
   clear HL
   by_cases h0:0<s.size
   ·have H4:Y (R.value s.data.toList=(((s[0].toNat:Int) != 32) && ((s[s.size - 1].toNat:Int) != 32))):=by
     have:=H3.o;rw[zlZ s h0,zs1 s h0,decide_not,decide_not,zq9,zq9,decide_eq_false (show ¬s.size=0 by omega)] at this;exact this
    have hz:((s.size:Int) == 0)=false:=by rw[beq_eq_false_iff_ne];omega
    cases h1:((s[0].toNat:Int) != 32)
    all_goals
     go_wp2
     go_ret
     exact⟨qN (by rw[H4.o,h1];try rfl),rfl⟩
   ·have H4:Y (R.value s.data.toList=true):=by
     have:=H3.o;rw[decide_eq_true (show s.size=0 by omega)] at this;exact this
    have hz:((s.size:Int) == 0)=true:=by rw[beq_iff_eq];omega
    go_wp2
    go_ret
    exact⟨qN (by rw[H4.o]),rfl⟩
theorem toL (s:ByteArray)(l:List UInt8):(s.toList == l)=decide (s.data.toList=l):=by
 rw[ByteArray.toList_eq,Bool.eq_iff_iff];simp
theorem fA (s:ByteArray)(a b:Nat):(s.extract a b).data.toList=(s.data.toList.drop a).take (b - a):=Lib.extract_data s a b
theorem fs (s:ByteArray)(a:Nat):(s.extract a s.size).data.toList=s.data.toList.drop a:=by
 rw[fA,tW (by rw[List.length_drop,R.size_eq];omega)]
theorem zj2 (s:ByteArray)(b:Nat):(s.extract 0 b).data.toList=s.data.toList.take b:=by
 rw[fA];simp
theorem zeZ (s:ByteArray)(lg:Bool)(w:World)(hs:s.size<=maxLen) :
  Calls Tryz.prog 87 #[.string s,.bool lg] w fun e w'=>e = .returned (.bool (R.named s.data.toList lg))/\w'=w:=by
 have aa:=hs
 unfold maxLen at hs
 by_cases h1:s.data.toList=[42]
 ·have H:Y (R.named s.data.toList lg=true):=by show R.named s.data.toList lg=true;unfold R.named;rw[if_pos h1]
  have g1:(s.toList == [42])=true:=by rw[toL];exact decide_eq_true h1
  clear h1
  go_enter Tryz.func87,Tryz.ntmps87
  go_wp2
  go_ret
  exact⟨qN H.o.symm,rfl⟩
 ·have g1:(s.toList == [42])=false:=by rw[toL];exact decide_eq_false h1
  by_cases h2:s.data.toList.take 2=[42,46]/\2<s.data.toList.length
  ·have H:Y (R.named s.data.toList lg=R.labels (s.data.toList.drop 2) lg):=by show R.named s.data.toList lg=_;unfold R.named;rw[if_neg h1,if_pos h2]
   have g2:((s.extract 0 2).toList == [42,46])=true:=by rw[toL,zj2];exact decide_eq_true h2.1
   have g3:2<(s.size:Int):=by have:=h2.2;rw[R.size_eq] at this;omega
   clear h1 h2
   go_enter Tryz.func87,Tryz.ntmps87
   have ab:(s.extract 2 s.size).size<=maxLen:=by rw[<-R.size_eq,fs,List.length_drop,R.size_eq];omega
   go_wp2_with (go_at_call 131;refine(fp _ _ _ ab).mono ?_;rintro e w' ⟨rfl,rfl⟩)
   go_ret
   exact⟨qN (by rw[H.o,tW (by rw[List.length_drop,R.size_eq];omega)]),rfl⟩
  ·have H:Y (R.named s.data.toList lg=R.labels s.data.toList lg):=by show R.named s.data.toList lg=_;unfold R.named;rw[if_neg h1,if_neg h2]
   have g2:¬(((s.extract 0 2).toList == [42,46])=true/\2<(s.size:Int)):=by
    rw[toL,zj2,decide_eq_true_iff];intro h;exact h2 ⟨h.1,by rw[R.size_eq];omega⟩
   clear h1 h2
   by_cases g3:2<(s.size:Int)
   ·have g4:((s.extract 0 2).toList == [42,46])=false:=by rw[Bool.eq_false_iff];exact fun h=>g2 ⟨h,g3⟩
    clear g2
    go_enter Tryz.func87,Tryz.ntmps87
    go_wp2_with (go_at_call 131;refine(fp _ _ _ aa).mono ?_;rintro e w' ⟨rfl,rfl⟩)
    go_ret
    exact⟨qN H.o.symm,rfl⟩
   ·clear g2
    go_enter Tryz.func87,Tryz.ntmps87
    go_wp2_with (go_at_call 131;refine(fp _ _ _ aa).mono ?_;rintro e w' ⟨rfl,rfl⟩)
    go_ret
    exact⟨qN H.o.symm,rfl⟩
theorem yz {a b:ByteArray}(h:a.data.toList=b.data.toList):a=b:=by
 rw[<-R.str_of a,<-R.str_of b,h]
theorem qM (a b:ByteArray):(a++b).data.toList=a.data.toList++b.data.toList:=by
 rw[ByteArray.data_append,Array.toList_append]
theorem fH {a b:ByteArray}(h:a=b):Ending.returned (.string a) = .returned (.string b):=by rw[h]
theorem zoE (s:ByteArray)(w:World)(hs:s.size<=100000) :
  Calls Tryz.prog 54 #[.string s] w fun e w'=>e = .returned (.string (R.str (34 :: s.data.toList++[34])))/\w'=w:=by
 go_enter Tryz.func54,Tryz.ntmps54
 go_wp2
 go_ret
 exact⟨fH (by apply yz;rw[R.str_toList,qM,qM];rfl),rfl⟩
theorem zr4 (w:World)(n:Int) :
  (convert 32 9 (.slice (some ⟨w.heap.size,0,none⟩) 1 1)).run Tryz.prog (w.alloc (.cells #[.int .u8 n] 5)) = .ok (.string ⟨#[UInt8.ofNat n.toNat]⟩) (w.alloc (.cells #[.int .u8 n] 5)):=by
 have h:=run_convert_bytes_arg (P:=Tryz.prog) (w.alloc (.cells #[.int .u8 n] 5)) 32 5 Tryz.underlying32 Tryz.underlying5 w.heap.size 0 1 1 [n] rfl (fun i hi=>by
  have:i=0:=by omega
  subst this
  rw[World.cell?_alloc_new];rfl)
 have h2:=h 9 Tryz.underlying9
 rw[h2];rfl
theorem za3 (s:ByteArray)(w:World)(hs:s.size<=100000) :
  Calls Tryz.prog 88 #[.string s] w fun e w'=>e = .returned (.string (R.str (R.lower s.data.toList)))/\Below w.heap.size w w':=by
 go_enter Tryz.func88,Tryz.ntmps88
 go_wp2
 go_loopw [3,4] (fun o i w'=>∃k:Nat,k<=s.size/\i = .int .i64 k/\o = .string (R.str (R.lower (s.data.toList.take k)))/\Below w.heap.size w w') (fun _ i _=>s.size - (intOf i).toNat)
 case atStart=>exact⟨0,zo _,rfl,rfl,Below.refl _ _⟩
 case round=>
  obtain⟨k,hk,rfl,rfl,hb⟩:=hrel
  by_cases ab:k<s.size
  ·have ho:(R.str (R.lower (s.data.toList.take k))).size<=100000:=by rw[R.str_size];unfold R.lower;rw[xW,List.length_take];omega
   have HO:Y (R.lower (s.data.toList.take (k+1))=R.lower (s.data.toList.take k)++[R.lowC s[k]]):=by
    show R.lower _=_
    rw[R.take_snoc s k ab];unfold R.lower;rw[fJ];rfl
   generalize hO:R.str (R.lower (s.data.toList.take k))=o at*
   have HE:Y (R.str (R.lower (s.data.toList.take k))=o):=hO
   clear hO
   have ae:=zr4 wr
   generalize ad:s[k]=b at*
   have aa:∀n:Int,UInt8.ofNat n.toNat=R.lowC b->Value.string (o++⟨#[UInt8.ofNat n.toNat]⟩) = .string (R.str (R.lower (s.data.toList.take (k+1)))):=by
    intro n hn
    rw[HO.o];congr 1;apply yz;rw[qM,<-HE.o,R.str_toList,R.str_toList,hn]
   by_cases hp:65<=(b.toNat:Int)/\(b.toNat:Int)<=90
   ·have he:=aa (b.toNat+32) (by unfold R.lowC R.largeI;rw[decide_eq_true hp.1,decide_eq_true hp.2];simp;apply UInt8.toNat_inj.1;simp;omega)
    have He:Y _:=he
    obtain⟨p1,p2⟩:=hp
    clear aa he
    go_wp2
    exact⟨⟨k+1,by omega,by go_num,He,hb.alloc hb.size _⟩,by simp[intOf];omega⟩
   ·have he:=aa b.toNat (by unfold R.lowC R.largeI;rw[<-Bool.decide_and,decide_eq_false hp];simp)
    have He:Y (Value.string (o++⟨#[b]⟩) = .string (R.str (R.lower (s.data.toList.take (k+1))))):=by
     rw[Int.toNat_natCast,UInt8.ofNat_toNat] at he;exact he
    clear aa he
    by_cases p1:65<=(b.toNat:Int)
    ·go_wp2
     exact⟨⟨k+1,by omega,by go_num,He,hb.alloc hb.size _⟩,by simp[intOf];omega⟩
    ·go_wp2
     exact⟨⟨k+1,by omega,by go_num,He,hb.alloc hb.size _⟩,by simp[intOf];omega⟩
  ·go_wp2
   go_ret
   exact⟨fH (by rw[tW (by rw[R.size_eq];omega)]),hb⟩
theorem vW (l:List UInt8):(R.lower l).length=l.length:=xW _
theorem toLs (l m:List UInt8):((R.str l).toList == m)=decide (l=m):=by rw[toL,R.str_toList]
theorem fd (s:ByteArray)(lg:Bool)(w:World)(hs:s.size<=100000) :
  Calls Tryz.prog 248 #[.string s,.bool lg] w fun e w'=>e = .returned (.bool (R.header s.data.toList lg))/\Below w.heap.size w w':=by
 have aa:s.size<=maxLen:=by unfold maxLen;omega
 have HH:Y (R.header s.data.toList lg=(R.word s.data.toList lg && (!decide (R.lower s.data.toList=R.host) && (!decide (R.lower s.data.toList=R.contentLength) && !decide (R.lower s.data.toList=R.transferEncoding))))):=by
  show R.header s.data.toList lg=_
  unfold R.header;rw[decide_not,decide_not,decide_not]
 have e1:=toLs (R.lower s.data.toList) R.host
 have e2:=toLs (R.lower s.data.toList) R.contentLength
 have e3:=toLs (R.lower s.data.toList) R.transferEncoding
 generalize decide (R.lower s.data.toList=R.host)=b1 at*
 generalize decide (R.lower s.data.toList=R.contentLength)=b2 at*
 generalize decide (R.lower s.data.toList=R.transferEncoding)=b3 at*
 unfold R.host at e1
 unfold R.contentLength at e2
 unfold R.transferEncoding at e3
 generalize hl:R.str (R.lower s.data.toList)=o at*
 cases hw:R.word s.data.toList lg <;> cases b1 <;> cases b2
 all_goals
  rw[hw] at HH
  go_enter Tryz.func248,Tryz.ntmps248
  go_wp2_with (first
   | (go_at_call 313;refine(zr7 _ _ _ aa).mono ?_;rintro e w' ⟨rfl,rfl⟩)
   | (go_at_call 88;refine(za3 _ _ hs).mono ?_;rintro e w' ⟨rfl,hb⟩))
  go_ret
  exact⟨qN (by rw[HH.o];try rfl),hb⟩
theorem znM (n:Nat)(h:n<10):(⟨#[48,49,50,51,52,53,54,55,56,57]⟩:ByteArray).extract n (n+1)=R.str [UInt8.ofNat (48+n)]:=by
 have:∀m:Fin 10,(⟨#[48,49,50,51,52,53,54,55,56,57]⟩:ByteArray).extract m.val (m.val+1)=R.str [UInt8.ofNat (48+m.val)]:=by decide +kernel
 exact this ⟨n,h⟩
def R.dec (n:Nat):List UInt8:=if n<10 then [UInt8.ofNat (48+n)] else R.dec (n / 10)++[UInt8.ofNat (48+n % 10)]
 termination_by n
 decreasing_by omega
theorem R.dec_len (n k:Nat)(h:n<10 ^ (k+1)):(R.dec n).length<=k+1:=by
 induction k generalizing n with
 | zero=>unfold R.dec;rw[if_pos (by omega)];simp
 | succ k ih=>
  unfold R.dec
  split
  ·simp
  ·rw[zh]
   have:=ih (n / 10) (by rw[Nat.div_lt_iff_lt_mul (by omega)];rw[Nat.pow_succ] at h;exact h)
   simp;omega
theorem ziW (n:Nat):∀(w:World),n<1000000->
  Calls Tryz.prog 91 #[.int .i64 n] w fun e w'=>e = .returned (.string (R.str (R.dec n)))/\w'=w:=by
 induction n using Nat.strongRecOn with
 | _ n ih=>
  intro w hn
  have hd:=znM (n % 10) (by omega)
  have HD:Y _:=hd
  clear hd
  by_cases h:n<10
  ·go_enter Tryz.func91,Tryz.ntmps91
   go_wp2
   go_ret
   exact⟨fH (by rw[HD.o];unfold R.dec;rw[if_pos h,Nat.mod_eq_of_lt h]),rfl⟩
  ·have HI:Y (∀w,Calls Tryz.prog 91 #[.int .i64 ((n:Int) / 10)] w fun e w'=>e = .returned (.string (R.str (R.dec (n / 10))))/\w'=w):=by
    intro w
    have:=ih (n / 10) (by omega) w (by omega)
    rw[Int.natCast_ediv] at this
    exact this
   have z1:(R.str (R.dec (n / 10))).size<=100:=by
    rw[R.str_size];have:=R.dec_len (n / 10) 5 (by omega);omega
   have z2:((⟨#[48,49,50,51,52,53,54,55,56,57]⟩:ByteArray).extract (n % 10) (n % 10+1)).size<=1:=by rw[HD.o,R.str_size];simp
   clear ih
   go_enter Tryz.func91,Tryz.ntmps91
   go_wp2_with (go_at_call 91;refine(HI.o _).mono ?_;rintro e w' ⟨rfl,rfl⟩)
   go_ret
   refine⟨fH ?_,rfl⟩
   rw[HD.o]
   apply yz
   rw[qM,R.str_toList,R.str_toList,R.str_toList]
   conv=>rhs;unfold R.dec
   rw[if_neg h]
end Go.Proofs.YtfocdefchbnkpaaGreatDoor
namespace Go.Proofs.YtfocdefchbnkpaaGreatDoor
open Go.RowKit
namespace R
def span (p:Int->Bool):List UInt8->Nat
 | []=>0
 | c :: cs=>if p c.toNat then span p cs+1 else 0
theorem span_step {p:Int->Bool}{s:ByteArray}{k:Nat}(h:k<s.size)(hp:p s[k].toNat=true):span p (s.data.toList.drop k)=span p (s.data.toList.drop (k+1))+1:=by
 rw[drop_cons s k h,span,if_pos hp]
theorem span_stop {p:Int->Bool}{s:ByteArray}{k:Nat}(h:k<s.size)(hp:p s[k].toNat=false):span p (s.data.toList.drop k)=0:=by
 rw[drop_cons s k h,span,if_neg (by rw[hp];simp)]
theorem span_end {p:Int->Bool}{s:ByteArray}{k:Nat}(h:s.size<=k):span p (s.data.toList.drop k)=0:=by
 rw[List.drop_of_length_le (by rw[size_eq];exact h)];rfl
theorem span_le (p:Int->Bool)(l:List UInt8):span p l<=l.length:=by
 induction l with
 | nil=>exact zw _
 | cons c cs ih=>unfold span;split <;> simp <;> omega
def insideI (c:Int):Bool:=decide (c≠34/\c≠10)
def signI (c:Int):Bool:=c == 123 || c == 125 || c == 59 || c == 61 || c == 44
def at0 (l:List UInt8)(n:Nat):Int:=(l.getD n 0).toNat
theorem at0_eq (s:ByteArray)(n:Nat)(h:n<s.size):at0 s.data.toList n=s[n].toNat:=by
 unfold at0
 rw[List.getD_eq_getElem?_getD,xo (by rw[size_eq];exact h)];rfl
def tend (l:List UInt8)(i:Nat):Nat×Int:=
 if smallI (at0 l i) then (i+1+span smallI (l.drop (i+1)),119)
 else if digitI (at0 l i) then
  (if 5<i+1+span digitI (l.drop (i+1)) - i then (i+1+span digitI (l.drop (i+1)),120) else (i+1+span digitI (l.drop (i+1)),49))
 else if at0 l i=34 then
  (if i+1+span insideI (l.drop (i+1))=l.length\/at0 l (i+1+span insideI (l.drop (i+1)))=10\/24<i+1+span insideI (l.drop (i+1)) - i - 1
   then (i+1+span insideI (l.drop (i+1)),120) else (i+1+span insideI (l.drop (i+1))+1,34))
 else if signI (at0 l i) then (i+1,115)
 else (i+1,120)
def dkind (n i:Nat):Int:=if 5<n - i then 120 else 49
def sbad (l:List UInt8)(n i:Nat):Prop:=n=l.length\/at0 l n=10\/24<n - i - 1
instance (l:List UInt8) (n i:Nat):Decidable (sbad l n i):=by unfold sbad;infer_instance
def sEnd (l:List UInt8)(n i:Nat):Nat:=if sbad l n i then n else n+1
def sKind (l:List UInt8)(n i:Nat):Int:=if sbad l n i then 120 else 34
def gKind (c:Int):Int:=if signI c then 115 else 120
end R
end Go.Proofs.YtfocdefchbnkpaaGreatDoor
namespace Go.Proofs.YtfocdefchbnkpaaGreatDoor
open Go.RowKit
theorem kq {a b:Int}{c d:Int}(h:a=b)(h2:c=d):Ending.returned (.tuple #[.int .i64 a,.int .u8 c]) = .returned (.tuple #[.int .i64 b,.int .u8 d]):=by rw[h,h2]
theorem zgR (s:ByteArray)(i:Nat)(w:World)(hs:s.size<=3000)(hi:i<s.size)(hc:R.smallI s[i].toNat=true) :
  Calls Tryz.prog 83 #[.string s,.int .i64 i] w fun e w'=>e = .returned (.tuple #[.int .i64 ((i+1+R.span R.smallI (s.data.toList.drop (i+1)):Nat):Int),.int .u8 119])/\w'=w:=by
 cases hd:R.digitI s[i].toNat
 all_goals
  go_enter Tryz.func83,Tryz.ntmps83
  go_wp2_with (first | (go_at_call 128;refine(fR _ _).mono ?_;rintro e w' ⟨rfl,rfl⟩) | (go_at_call 129;refine(fI _ _).mono ?_;rintro e w' ⟨rfl,rfl⟩))
  go_loop [7] (fun v=>∃n:Nat,i+1<=n/\n<=s.size/\v = .int .i64 n/\Y (i+1+R.span R.smallI (s.data.toList.drop (i+1))=n+R.span R.smallI (s.data.toList.drop n))) (fun v=>s.size - (intOf v).toNat)
  case atStart=>exact⟨i+1,zw _,hi,by go_num,rfl⟩
  case round=>
   obtain⟨n,h1,h2,rfl,HL⟩:=hrel
   by_cases aa:n<s.size
   ·by_cases hp:97<=(s[n].toNat:Int)/\(s[n].toNat:Int)<=122
    ·have H2:Y (i+1+R.span R.smallI (s.data.toList.drop (i+1))=(n+1)+R.span R.smallI (s.data.toList.drop (n+1))):=by
      have:=HL.o;rw[R.span_step aa (by unfold R.smallI;simp[hp])] at this;show _=_;omega
     obtain⟨p1,p2⟩:=hp
     clear HL
     go_wp2
     exact⟨⟨n+1,by omega,by omega,by go_num,H2⟩,by simp[intOf];omega⟩
    ·have H2:Y (i+1+R.span R.smallI (s.data.toList.drop (i+1))=n):=by
      have:=HL.o;rw[R.span_stop aa (by unfold R.smallI;rw[<-Bool.decide_and];exact decide_eq_false hp)] at this;exact this
     clear HL
     by_cases p1:97<=(s[n].toNat:Int)
     ·have p2:¬(s[n].toNat:Int)<=122:=fun h=>hp ⟨p1,h⟩
      go_wp2
      go_ret2
      exact⟨kq (by have:=H2.o;omega) rfl,rfl⟩
     ·go_wp2
      go_ret2
      exact⟨kq (by have:=H2.o;omega) rfl,rfl⟩
   ·have H2:Y (i+1+R.span R.smallI (s.data.toList.drop (i+1))=n):=by
     have:=HL.o;rw[R.span_end (k:=n) (by omega)] at this;exact this
    clear HL
    go_wp2
    go_ret2
    exact⟨kq (by have:=H2.o;omega) rfl,rfl⟩
theorem ze1 (s:ByteArray)(i:Nat)(w:World)(hs:s.size<=3000)(hi:i<s.size)(ha:R.smallI s[i].toNat=false)(hd:R.digitI s[i].toNat=true) :
  Calls Tryz.prog 83 #[.string s,.int .i64 i] w fun e w'=>e = .returned (.tuple #[.int .i64 ((i+1+R.span R.digitI (s.data.toList.drop (i+1)):Nat):Int),.int .u8 (R.dkind (i+1+R.span R.digitI (s.data.toList.drop (i+1))) i)])/\w'=w:=by
 go_enter Tryz.func83,Tryz.ntmps83
 go_wp2_with (first | (go_at_call 128;refine(fR _ _).mono ?_;rintro e w' ⟨rfl,rfl⟩) | (go_at_call 129;refine(fI _ _).mono ?_;rintro e w' ⟨rfl,rfl⟩))
 go_loop [7] (fun v=>∃n:Nat,i+1<=n/\n<=s.size/\v = .int .i64 n/\Y (i+1+R.span R.digitI (s.data.toList.drop (i+1))=n+R.span R.digitI (s.data.toList.drop n))) (fun v=>s.size - (intOf v).toNat)
 case atStart=>exact⟨i+1,zw _,hi,by go_num,rfl⟩
 case round=>
  obtain⟨n,h1,h2,rfl,HL⟩:=hrel
  by_cases ab:n<s.size/\R.digitI (R.at0 s.data.toList n)=true
  ·obtain⟨aa,hp⟩:=ab
   rw[R.at0_eq s n aa] at hp
   have H2:Y (i+1+R.span R.digitI (s.data.toList.drop (i+1))=(n+1)+R.span R.digitI (s.data.toList.drop (n+1))):=by
    have:=HL.o;rw[R.span_step aa hp] at this;show _=_;omega
   unfold R.digitI at hp
   simp only[Bool.and_eq_true,decide_eq_true_eq] at hp
   obtain⟨p1,p2⟩:=hp
   clear HL
   go_wp2
   exact⟨⟨n+1,by omega,by omega,by go_num,H2⟩,by simp[intOf];omega⟩
  ·have H2:Y (i+1+R.span R.digitI (s.data.toList.drop (i+1))=n):=by
    have:=HL.o
    by_cases aa:n<s.size
    ·rw[R.span_stop aa (by rw[<-R.at0_eq s n aa,Bool.eq_false_iff];exact fun h=>ab ⟨aa,h⟩)] at this;exact this
    ·rw[R.span_end (k:=n) (by omega)] at this;exact this
   clear HL
   by_cases aa:n<s.size
   ·by_cases p1:48<=(s[n].toNat:Int)
    ·have p2:¬(s[n].toNat:Int)<=57:=fun h=>ab ⟨aa,by rw[R.at0_eq s n aa];unfold R.digitI;simp;omega⟩
     clear ab
     by_cases h5:5<(n:Int) - i
     all_goals
      go_wp2
      go_ret2
      exact⟨kq (by have:=H2.o;omega) (by have:=H2.o;unfold R.dkind;first | rw[if_pos (by omega)] | rw[if_neg (by omega)]),rfl⟩
    ·clear ab
     by_cases h5:5<(n:Int) - i
     all_goals
      go_wp2
      go_ret2
      exact⟨kq (by have:=H2.o;omega) (by have:=H2.o;unfold R.dkind;first | rw[if_pos (by omega)] | rw[if_neg (by omega)]),rfl⟩
   ·clear ab
    by_cases h5:5<(n:Int) - i
    all_goals
     go_wp2
     go_ret2
     exact⟨kq (by have:=H2.o;omega) (by have:=H2.o;unfold R.dkind;first | rw[if_pos (by omega)] | rw[if_neg (by omega)]),rfl⟩
theorem zcV (s:ByteArray)(i:Nat)(w:World)(hs:s.size<=3000)(hi:i<s.size)(hc:s[i].toNat=34)(n0:Nat)(ae:i+1+R.span R.insideI (s.data.toList.drop (i+1))=n0) :
  Calls Tryz.prog 83 #[.string s,.int .i64 i] w fun e w'=>e = .returned (.tuple #[.int .i64 (R.sEnd s.data.toList n0 i:Int),.int .u8 (R.sKind s.data.toList n0 i)])/\w'=w:=by
 have ha:R.smallI s[i].toNat=false:=by rw[hc];rfl
 have hd:R.digitI s[i].toNat=false:=by rw[hc];rfl
 have af:((s[i].toNat:Int) == 34)=true:=by rw[hc];rfl
 have HN:Y (i+1+R.span R.insideI (s.data.toList.drop (i+1))=n0):=ae
 clear hc ae
 go_enter Tryz.func83,Tryz.ntmps83
 go_wp2_with (first | (go_at_call 128;refine(fR _ _).mono ?_;rintro e w' ⟨rfl,rfl⟩) | (go_at_call 129;refine(fI _ _).mono ?_;rintro e w' ⟨rfl,rfl⟩))
 go_loop [7] (fun v=>∃n:Nat,i+1<=n/\n<=s.size/\v = .int .i64 n/\Y (n0=n+R.span R.insideI (s.data.toList.drop n))) (fun v=>s.size - (intOf v).toNat)
 case atStart=>exact⟨i+1,zw _,hi,by go_num,HN.o.symm⟩
 case round=>
  obtain⟨n,h1,h2,rfl,HL⟩:=hrel
  by_cases ab:n<s.size/\R.insideI (R.at0 s.data.toList n)=true
  ·obtain⟨aa,hp⟩:=ab
   rw[R.at0_eq s n aa] at hp
   have H2:Y (n0=(n+1)+R.span R.insideI (s.data.toList.drop (n+1))):=by
    have:=HL.o;rw[R.span_step aa hp] at this;show _=_;omega
   unfold R.insideI at hp
   simp only[decide_eq_true_eq] at hp
   have p1:((s[n].toNat:Int) != 34)=true:=by rw[bne_iff_ne];exact hp.1
   have p2:((s[n].toNat:Int) != 10)=true:=by rw[bne_iff_ne];exact hp.2
   clear HL hp
   go_wp2
   exact⟨⟨n+1,by omega,by omega,by go_num,H2⟩,by simp[intOf];omega⟩
  ·have H2:Y (n0=n):=by
    have:=HL.o
    by_cases aa:n<s.size
    ·rw[R.span_stop aa (by rw[<-R.at0_eq s n aa,Bool.eq_false_iff];exact fun h=>ab ⟨aa,h⟩)] at this;exact this
    ·rw[R.span_end (k:=n) (by omega)] at this;exact this
   clear HL
   by_cases aa:n<s.size
   ·have hE:((n:Int) == s.size)=false:=by rw[beq_eq_false_iff_ne];omega
    have ad:Y (R.at0 s.data.toList n=s[n].toNat):=R.at0_eq s n aa
    by_cases p1:(s[n].toNat:Int)=34
    ·have q1:((s[n].toNat:Int) != 34)=false:=by rw[p1];rfl
     have q2:((s[n].toNat:Int) == 10)=false:=by rw[p1];rfl
     have HP:Y ((s[n].toNat:Int)=34):=p1
     clear ab p1
     by_cases h5:24<(n:Int) - i - 1
     ·have HF:Y (R.sbad s.data.toList n i):=Or.inr (Or.inr (by omega))
      go_wp2
      go_ret2
      exact⟨kq (by unfold R.sEnd;rw[H2.o,if_pos HF.o]) (by unfold R.sKind;rw[H2.o,if_pos HF.o]),rfl⟩
     ·have HF:Y (¬(R.sbad s.data.toList n i)):=by
       rintro(h | h | h)
       ·rw[R.size_eq] at h;omega
       ·rw[ad.o,HP.o] at h;exact absurd h (by decide)
       ·omega
      go_wp2
      go_ret2
      exact⟨kq (by unfold R.sEnd;rw[H2.o,if_neg HF.o];omega) (by unfold R.sKind;rw[H2.o,if_neg HF.o]),rfl⟩
    ·have p2:(s[n].toNat:Int)=10:=by
      apply Classical.byContradiction;intro h
      exact ab ⟨aa,by rw[R.at0_eq s n aa];unfold R.insideI;exact decide_eq_true ⟨p1,h⟩⟩
     have q1:((s[n].toNat:Int) != 34)=true:=by rw[bne_iff_ne];exact p1
     have q2:((s[n].toNat:Int) != 10)=false:=by rw[p2];rfl
     have q3:((s[n].toNat:Int) == 10)=true:=by rw[p2];rfl
     have HF:Y (R.sbad s.data.toList n i):=Or.inr (Or.inl (by rw[ad.o,p2]))
     clear ab p1 p2
     go_wp2
     go_ret2
     exact⟨kq (by unfold R.sEnd;rw[H2.o,if_pos HF.o]) (by unfold R.sKind;rw[H2.o,if_pos HF.o]),rfl⟩
   ·have hE:((n:Int) == s.size)=true:=by rw[beq_iff_eq];omega
    have HF:Y (R.sbad s.data.toList n i):=Or.inl (by rw[R.size_eq];omega)
    clear ab
    go_wp2
    go_ret2
    exact⟨kq (by unfold R.sEnd;rw[H2.o,if_pos HF.o]) (by unfold R.sKind;rw[H2.o,if_pos HF.o]),rfl⟩
theorem zgI (s:ByteArray)(i:Nat)(w:World)(hs:s.size<=3000)(hi:i<s.size)(ha:R.smallI s[i].toNat=false)(hd:R.digitI s[i].toNat=false)(hc:s[i].toNat≠34) :
  Calls Tryz.prog 83 #[.string s,.int .i64 i] w fun e w'=>e = .returned (.tuple #[.int .i64 ((i+1:Nat):Int),.int .u8 (R.gKind s[i].toNat)])/\w'=w:=by
 have aa:((s[i].toNat:Int) == 34)=false:=by rw[beq_eq_false_iff_ne];omega
 have HS:Y (R.signI s[i].toNat=((s[i].toNat:Int) == 123 || (s[i].toNat:Int) == 125 || (s[i].toNat:Int) == 59 || (s[i].toNat:Int) == 61 || (s[i].toNat:Int) == 44)):=rfl
 clear hc
 cases h1:((s[i].toNat:Int) == 123) <;> cases h2:((s[i].toNat:Int) == 125) <;> cases h3:((s[i].toNat:Int) == 59) <;> cases h4:((s[i].toNat:Int) == 61) <;> cases h5:((s[i].toNat:Int) == 44)
 all_goals
  rw[h1,h2,h3,h4,h5] at HS
  go_enter Tryz.func83,Tryz.ntmps83
  go_wp2_with (first | (go_at_call 128;refine(fR _ _).mono ?_;rintro e w' ⟨rfl,rfl⟩) | (go_at_call 129;refine(fI _ _).mono ?_;rintro e w' ⟨rfl,rfl⟩))
  go_ret2
  exact⟨kq (by omega) (by unfold R.gKind;rw[HS.o];rfl),rfl⟩
theorem zrY (s:ByteArray)(i:Nat)(w:World)(hs:s.size<=3000)(hi:i<s.size) :
  Calls Tryz.prog 83 #[.string s,.int .i64 i] w fun e w'=>e = .returned (.tuple #[.int .i64 ((R.tend s.data.toList i).1:Int),.int .u8 (R.tend s.data.toList i).2])/\w'=w:=by
 unfold R.tend
 rw[R.at0_eq s i hi]
 by_cases ha:R.smallI s[i].toNat=true
 ·rw[if_pos ha];exact zgR s i w hs hi ha
 ·rw[if_neg ha]
  have aa:R.smallI s[i].toNat=false:=by rw[Bool.eq_false_iff];exact ha
  by_cases hd:R.digitI s[i].toNat=true
  ·rw[if_pos hd]
   refine(ze1 s i w hs hi aa hd).mono ?_
   rintro e w' ⟨rfl,rfl⟩
   refine⟨?_,rfl⟩
   unfold R.dkind
   split <;> rfl
  ·rw[if_neg hd]
   have ab:R.digitI s[i].toNat=false:=by rw[Bool.eq_false_iff];exact hd
   by_cases hc:(s[i].toNat:Int)=34
   ·rw[if_pos hc]
    refine(zcV s i w hs hi (by omega) _ rfl).mono ?_
    rintro e w' ⟨rfl,rfl⟩
    refine⟨?_,rfl⟩
    unfold R.sEnd R.sKind
    by_cases h:R.sbad s.data.toList (i+1+R.span R.insideI (s.data.toList.drop (i+1))) i
    ·rw[if_pos h,if_pos h];unfold R.sbad at h;rw[if_pos h]
    ·rw[if_neg h,if_neg h];unfold R.sbad at h;rw[if_neg h]
   ·rw[if_neg hc]
    refine(zgI s i w hs hi aa ab (by omega)).mono ?_
    rintro e w' ⟨rfl,rfl⟩
    refine⟨?_,rfl⟩
    unfold R.gKind
    split <;> rfl
end Go.Proofs.YtfocdefchbnkpaaGreatDoor
namespace Go.Proofs.YtfocdefchbnkpaaGreatDoor
open Go.RowKit
namespace R
structure Tok where
 k:Int
 s:List UInt8
 at_:Nat
def Tok.cells (t:Tok):List Value:=[.int .u8 t.k,.string (str t.s),.int .i64 t.at_]
def tokCells (l:List Tok):List Value:=(l.map Tok.cells).flatten
theorem tokCells_append (a b:List Tok):tokCells (a++b)=tokCells a++tokCells b:=by simp[tokCells]
theorem tokCells_one (t:Tok):tokCells [t]=t.cells:=by simp[tokCells]
def tok (l:List UInt8)(i:Nat):Tok:=
 ⟨(tend l i).2,if (tend l i).2=34 then (l.drop (i+1)).take ((tend l i).1 - 1 - (i+1)) else (l.drop i).take ((tend l i).1 - i),i⟩
def toksGo:Nat->List UInt8->Nat->List Tok
 | 0,_,_=>[]
 | n+1,l,i=>
  if i<l.length then
   if at0 l i=32\/at0 l i=10 then toksGo n l (i+1)
   else if (tend l i).2=120 then [tok l i] else tok l i :: toksGo n l (tend l i).1
  else [⟨0,[],l.length⟩]
def toks (l:List UInt8):List Tok:=toksGo (l.length+1) l 0
theorem tend_bd (l:List UInt8)(i:Nat)(h:i<l.length):i<(tend l i).1/\(tend l i).1<=l.length/\((tend l i).2=34->i+2<=(tend l i).1):=by
 have hs:=span_le smallI (l.drop (i+1))
 have hd:=span_le digitI (l.drop (i+1))
 have hi:=span_le insideI (l.drop (i+1))
 rw[List.length_drop] at hs hd hi
 unfold tend
 split
 ·refine⟨by omega,by omega,fun h=>absurd h (by simp)⟩
 ·split
  ·split
   ·refine⟨by simp;omega,by simp;omega,fun h=>absurd h (by simp)⟩
   ·refine⟨by simp;omega,by simp;omega,fun h=>absurd h (by simp)⟩
  ·split
   ·split
    ·refine⟨by simp;omega,by simp;omega,fun h=>absurd h (by simp)⟩
    ·rename_i hn
     refine⟨by simp;omega,?_,fun _=>by simp⟩
     simp only
     have:i+1+span insideI (l.drop (i+1))≠l.length:=fun e=>hn (Or.inl e)
     omega
   ·split
    ·refine⟨by simp,by simp;omega,fun h=>absurd h (by simp)⟩
    ·refine⟨by simp,by simp;omega,fun h=>absurd h (by simp)⟩
end R
end Go.Proofs.YtfocdefchbnkpaaGreatDoor
namespace Go.Proofs.YtfocdefchbnkpaaGreatDoor
open Go.RowKit
theorem info45:(Tryz.prog.info? 115).map (fun i=>(i.zero,i.size,i.bytes))=some (some (.agg #[.int .u8 0,.string ⟨#[]⟩,.int .i64 0]),3,32):=by kernel_rfl
theorem fN (s:ByteArray)(a b:Nat):s.extract a b=R.str ((s.data.toList.drop a).take (b - a)):=by
 apply yz;rw[R.str_toList,fA]
theorem uR (g j:Nat):(⟨g,0,none⟩:Addr).add j=⟨g,j,none⟩:=by unfold Addr.add;split <;> simp_all
theorem zu (w:World)(cs:Array Value)(t:TypeId)(g:Nat)(hg:g=w.heap.size):∀j u,cs.toList[j]?=some u->(w.alloc (.cells cs t)).cell? ((⟨g,0,none⟩:Addr).add j)=some u:=by
 intro j u h
 subst hg
 rw[uR,World.cell?_alloc_new]
 simpa using h
theorem R.toksGo_blank {l:List UInt8}{n i:Nat}(h:i<l.length)(hb:R.at0 l i=32\/R.at0 l i=10):R.toksGo (n+1) l i=R.toksGo n l (i+1):=by
 rw[R.toksGo,if_pos h,if_pos hb]
theorem R.toksGo_bad {l:List UInt8}{n i:Nat}(h:i<l.length)(hb:¬(R.at0 l i=32\/R.at0 l i=10))(hk:(R.tend l i).2=120):R.toksGo (n+1) l i=[R.tok l i]:=by
 rw[R.toksGo,if_pos h,if_neg hb,if_pos hk]
theorem R.toksGo_good {l:List UInt8}{n i:Nat}(h:i<l.length)(hb:¬(R.at0 l i=32\/R.at0 l i=10))(hk:(R.tend l i).2≠120):R.toksGo (n+1) l i=R.tok l i :: R.toksGo n l (R.tend l i).1:=by
 rw[R.toksGo,if_pos h,if_neg hb,if_neg hk]
theorem R.toksGo_end {l:List UInt8}{n i:Nat}(h:¬i<l.length):R.toksGo (n+1) l i=[⟨0,[],l.length⟩]:=by
 rw[R.toksGo,if_neg h]
theorem zdX {l:List UInt8}:∀{n m i:Nat},l.length+1 - i<=n->l.length+1 - i<=m->i<=l.length->R.toksGo n l i=R.toksGo m l i:=by
 intro n
 induction n with
 | zero=>intro m i h1 h2 h3;omega
 | succ n ih=>
  intro m i h1 h2 h3
  match m,h2 with
  | 0,h2=>omega
  | m+1,h2=>
   by_cases hi:i<l.length
   ·by_cases hb:R.at0 l i=32\/R.at0 l i=10
    ·rw[R.toksGo_blank hi hb,R.toksGo_blank hi hb];exact ih (by omega) (by omega) (by omega)
    ·have bd:=R.tend_bd l i hi
     by_cases hk:(R.tend l i).2=120
     ·rw[R.toksGo_bad hi hb hk,R.toksGo_bad hi hb hk]
     ·rw[R.toksGo_good hi hb hk,R.toksGo_good hi hb hk,ih (m:=m) (by omega) (by omega) (by omega)]
   ·rw[R.toksGo_end hi,R.toksGo_end hi]
theorem zkF (s:ByteArray)(w:World)(hs:s.size<=3000) :
  Calls Tryz.prog 50 #[.string s] w fun e w'=>∃v,e = .returned v/\w'.ownsRow w.heap.size 115 3 v (R.toks s.data.toList).length (R.tokCells (R.toks s.data.toList))/\Below w.heap.size w w':=by
 obtain⟨i0,hi,an,ao,ap⟩:=info_parts info45
 go_enter Tryz.func50,Tryz.ntmps50
 go_wp2
 go_loopw [3,4] (fun v i wr=>∃(k:Nat) (ab:List R.Tok),k<=s.size/\ab.length<=k/\i = .int .i64 k/\wr.ownsRow w.heap.size 115 3 v ab.length (R.tokCells ab)/\
   Y (ab++R.toksGo (s.size+1 - k) s.data.toList k=R.toks s.data.toList)/\Below w.heap.size w wr) (fun _ i _=>s.size - (intOf i).toNat)
 case atStart=>exact⟨0,[],zo _,zo _,rfl,xd _ _ _ _,by show _=_;rw[Nat.sub_zero,<-R.size_eq];rfl,Below.refl _ _⟩
 case round=>
  obtain⟨k,ab,hk,ax,rfl,aa,HL,hb⟩:=hrel
  by_cases ag:k<s.size
  ·have am:k<s.data.toList.length:=by rw[R.size_eq];exact ag
   have e1:s.size+1 - k=(s.size - k)+1:=by omega
   by_cases ai:(s[k].toNat:Int)=32\/(s[k].toNat:Int)=10
   ·have H2:Y (ab++R.toksGo (s.size+1 - (k+1)) s.data.toList (k+1)=R.toks s.data.toList):=by
     have:=HL.o
     rw[e1,R.toksGo_blank am (by rw[R.at0_eq s k ag];exact ai)] at this
     rw[<-this,show s.size+1 - (k+1)=s.size - k by omega];rfl
    clear HL e1
    rcases ai with h | h
    ·have g1:((s[k].toNat:Int) == 32)=true:=by rw[h];rfl
     clear h
     go_wp2
     exact⟨⟨k+1,ab,by omega,by omega,by go_num,aa,H2,hb⟩,by simp[intOf];omega⟩
    ·have g1:((s[k].toNat:Int) == 32)=false:=by rw[h];rfl
     have g2:((s[k].toNat:Int) == 10)=true:=by rw[h];rfl
     clear h
     go_wp2
     exact⟨⟨k+1,ab,by omega,by omega,by go_num,aa,H2,hb⟩,by simp[intOf];omega⟩
   ·have au:¬(R.at0 s.data.toList k=32\/R.at0 s.data.toList k=10):=by rw[R.at0_eq s k ag];exact ai
    have g1:((s[k].toNat:Int) == 32)=false:=by rw[beq_eq_false_iff_ne];exact fun h=>ai (Or.inl h)
    have g2:((s[k].toNat:Int) == 10)=false:=by rw[beq_eq_false_iff_ne];exact fun h=>ai (Or.inr h)
    have bd:=R.tend_bd s.data.toList k am
    have HB:=R.toksGo_bad (n:=s.size - k) am au
    have HG:=R.toksGo_good (n:=s.size - k) am au
    have HT:Y (R.tok s.data.toList k=⟨(R.tend s.data.toList k).2,if (R.tend s.data.toList k).2=34 then (s.data.toList.drop (k+1)).take ((R.tend s.data.toList k).1 - 1 - (k+1)) else (s.data.toList.drop k).take ((R.tend s.data.toList k).1 - k),k⟩):=rfl
    have hL:=HL.o
    rw[e1] at hL
    rw[R.size_eq] at bd
    have hE:=zrY s k
    generalize R.tend s.data.toList k=kk at*
    obtain⟨en,ae⟩:=kk
    simp only at bd hE HB HG HT
    obtain⟨b1,b2,b3⟩:=bd
    have HE:Y _:=hE
    have aq:Y (ae=120->ab++[R.tok s.data.toList k]=R.toks s.data.toList):=fun h=>by rw[<-hL,HB h]
    have aj:Y (ae≠120->(ab++[R.tok s.data.toList k])++R.toksGo (s.size+1 - en) s.data.toList en=R.toks s.data.toList):=fun h=>by
     rw[<-hL,HG h,x4,zdX (n:=s.size - k) (m:=s.size+1 - en) (by rw[R.size_eq];omega) (by rw[R.size_eq];omega) (by rw[R.size_eq];exact b2)];rfl
    clear hE ai au HB HG hL HL e1
    by_cases al:ae=34
    ·subst al
     have b4:=b3 rfl
     have HC:Y ((R.tok s.data.toList k).cells=[.int .u8 34,.string (s.extract (k+1) (en - 1)),.int .i64 k]):=by
      rw[HT.o,if_pos rfl];unfold R.Tok.cells
      rw[fN];rfl
     clear HT b3
     go_wp2_with (first
      | (go_at_call 83;refine(HE.o _ hs ag).mono ?_;rintro e w' ⟨rfl,rfl⟩)
      | (at_builtin;refine wpList_append_own _ rfl _ _ 110 rfl w.heap.size 115 i0 _ 3 32 Tryz.underlying110 hi an ao ap rfl (by decide) _ _ _ rfl ((aa.alloc _).alloc _) ⟨w'.heap.size+1,0,none⟩ 1 1 [.int .u8 34,.string (s.extract (k+1) (en - 1)),.int .i64 k] rfl rfl ?c1 ?c2 ?c3 ?c4 ?c5 ?_))
     case c1=>exact zu _ #[_,_,_] _ _ (by simp)
     case c2=>intro u hu;simp at hu;rcases hu with rfl | rfl | rfl <;> rfl
     case c3=>unfold maxLen;omega
     case c4=>omega
     case c5=>have:=hb.size;simp;omega
     intro v' w1 ah ad _
     have af:Below w.heap.size w w1:=((hb.alloc hb.size _).alloc (by have:=hb.size;simp;omega) _).grown ad (by have:=hb.size;simp;omega) (fun k hk=>(aa.lt k hk).1)
     clear ad aa
     go_wp2
     go_roundw
     case rel=>exact⟨en,ab++[R.tok s.data.toList k],b2,by simp;omega,rfl,by rw[R.tokCells_append,R.tokCells_one,HC.o,zh];exact ah,aj.o (by decide),af⟩
     case measure=>simp[intOf];omega
    ·have aw:(ae == 34)=false:=by rw[beq_eq_false_iff_ne];exact al
     have HC:Y ((R.tok s.data.toList k).cells=[.int .u8 ae,.string (s.extract k en),.int .i64 k]):=by
      rw[HT.o,if_neg al];unfold R.Tok.cells
      rw[fN];rfl
     clear HT b3 al
     by_cases ak:ae=120
     ·subst ak
      have HF:=aq.o rfl
      have ar:Y _:=HF
      clear HF aj aq
      go_wp2_with (first
      | (go_at_call 83;refine(HE.o _ hs ag).mono ?_;rintro e w' ⟨rfl,rfl⟩)
      | (at_builtin;refine wpList_append_own _ rfl _ _ 110 rfl w.heap.size 115 i0 _ 3 32 Tryz.underlying110 hi an ao ap rfl (by decide) _ _ _ rfl ((aa.alloc _).alloc _) ⟨w'.heap.size+1,0,none⟩ 1 1 [.int .u8 120,.string (s.extract k en),.int .i64 k] rfl rfl ?c1 ?c2 ?c3 ?c4 ?c5 ?_))
      case c1=>exact zu _ #[_,_,_] _ _ (by simp)
      case c2=>intro u hu;simp at hu;rcases hu with rfl | rfl | rfl <;> rfl
      case c3=>unfold maxLen;omega
      case c4=>omega
      case c5=>have:=hb.size;simp;omega
      intro v' w1 ah ad _
      have af:Below w.heap.size w w1:=((hb.alloc hb.size _).alloc (by have:=hb.size;simp;omega) _).grown ad (by have:=hb.size;simp;omega) (fun k hk=>(aa.lt k hk).1)
      clear ad aa
      go_wp2
      go_ret
      exact⟨_,rfl,by rw[<-ar.o,R.tokCells_append,R.tokCells_one,HC.o,zh];exact ah,af⟩
     ·have av:(ae == 120)=false:=by rw[beq_eq_false_iff_ne];exact ak
      have HF:=aj.o ak
      have ar:Y _:=HF
      clear HF aj aq ak
      go_wp2_with (first
      | (go_at_call 83;refine(HE.o _ hs ag).mono ?_;rintro e w' ⟨rfl,rfl⟩)
      | (at_builtin;refine wpList_append_own _ rfl _ _ 110 rfl w.heap.size 115 i0 _ 3 32 Tryz.underlying110 hi an ao ap rfl (by decide) _ _ _ rfl ((aa.alloc _).alloc _) ⟨w'.heap.size+1,0,none⟩ 1 1 [.int .u8 ae,.string (s.extract k en),.int .i64 k] rfl rfl ?c1 ?c2 ?c3 ?c4 ?c5 ?_))
      case c1=>exact zu _ #[_,_,_] _ _ (by simp)
      case c2=>intro u hu;simp at hu;rcases hu with rfl | rfl | rfl <;> rfl
      case c3=>unfold maxLen;omega
      case c4=>omega
      case c5=>have:=hb.size;simp;omega
      intro v' w1 ah ad _
      have af:Below w.heap.size w w1:=((hb.alloc hb.size _).alloc (by have:=hb.size;simp;omega) _).grown ad (by have:=hb.size;simp;omega) (fun k hk=>(aa.lt k hk).1)
      clear ad aa
      go_wp2
      go_roundw
      case rel=>exact⟨en,ab++[R.tok s.data.toList k],b2,by simp;omega,rfl,by rw[R.tokCells_append,R.tokCells_one,HC.o,zh];exact ah,ar,af⟩
      case measure=>simp[intOf];omega
  ·have H2:Y (ab++[⟨0,[],s.size⟩]=R.toks s.data.toList):=by
    have:=HL.o
    rw[show s.size+1 - k=(s.size - k)+1 by omega,R.toksGo_end (by rw[R.size_eq];exact ag),R.size_eq] at this
    exact this
   clear HL
   go_wp2_with (at_builtin;refine wpList_append_own _ rfl _ _ 110 rfl w.heap.size 115 i0 _ 3 32 Tryz.underlying110 hi an ao ap rfl (by decide) _ _ _ rfl (aa.alloc _) ⟨wr.heap.size,0,none⟩ 1 1 [.int .u8 0,.string ⟨#[]⟩,.int .i64 s.size] rfl rfl ?c1 ?c2 ?c3 ?c4 ?c5 ?_)
   case c1=>exact zu _ #[_,_,_] _ _ (by simp)
   case c2=>intro u hu;simp at hu;rcases hu with rfl | rfl | rfl <;> rfl
   case c3=>unfold maxLen;omega
   case c4=>omega
   case c5=>have:=hb.size;simp;omega
   intro v' w1 ah ad _
   have af:Below w.heap.size w w1:=(hb.alloc hb.size _).grown ad (by have:=hb.size;simp;omega) (fun k hk=>(aa.lt k hk).1)
   clear ad aa
   go_wp2
   go_ret
   exact⟨_,rfl,by rw[<-H2.o,R.tokCells_append,R.tokCells_one,zh];exact ah,af⟩
theorem j5 (c:Int)(w:World) :
  Calls Tryz.prog 260 #[.int .u8 c] w fun e w'=>e = .returned (.bool (R.smallI c))/\w'=w:=by
 by_cases h:97<=c
 all_goals
  go_enter Tryz.func260,Tryz.ntmps260
  go_wp2
  go_ret
  exact⟨qN (by unfold R.smallI;rw[Bool.eq_iff_iff];simp;try omega),rfl⟩
theorem ut (c:Int)(w:World) :
  Calls Tryz.prog 309 #[.int .u8 c] w fun e w'=>e = .returned (.bool (R.largeI c))/\w'=w:=by
 by_cases h:65<=c
 all_goals
  go_enter Tryz.func309,Tryz.ntmps309
  go_wp2
  go_ret
  exact⟨qN (by unfold R.largeI;rw[Bool.eq_iff_iff];simp;try omega),rfl⟩
theorem jJ (c:Int)(w:World) :
  Calls Tryz.prog 261 #[.int .u8 c] w fun e w'=>e = .returned (.bool (R.digitI c))/\w'=w:=by
 by_cases h:48<=c
 all_goals
  go_enter Tryz.func261,Tryz.ntmps261
  go_wp2
  go_ret
  exact⟨qN (by unfold R.digitI;rw[Bool.eq_iff_iff];simp;try omega),rfl⟩
def xn (c:Int):Bool:=c == 32 || c == 10
theorem zbF (c:Int)(w:World) :
  Calls Tryz.prog 203 #[.int .u8 c] w fun e w'=>e = .returned (.bool (xn c))/\w'=w:=by
 cases h:(c == 32)
 all_goals
  go_enter Tryz.func203,Tryz.ntmps203
  go_wp2
  go_ret
  exact⟨qN (by unfold xn;rw[h];try rfl),rfl⟩
theorem ug (c:Int)(w:World) :
  Calls Tryz.prog 377 #[.int .u8 c] w fun e w'=>e = .returned (.bool (R.pathI c))/\w'=w:=by
 go_enter Tryz.func377,Tryz.ntmps377
 go_wp2
 all_goals
  go_ret
  exact⟨qN (by unfold R.pathI;rw[Bool.eq_iff_iff];simp;try omega),rfl⟩
theorem uU (c:Int)(w:World) :
  Calls Tryz.prog 411 #[.int .u8 c] w fun e w'=>e = .returned (.bool (R.valueI c))/\w'=w:=by
 go_enter Tryz.func411,Tryz.ntmps411
 go_wp2
 all_goals
  go_ret
  exact⟨qN (by unfold R.valueI;rw[Bool.eq_iff_iff];simp;try omega),rfl⟩
theorem uK (p:Int->Bool)(l:List UInt8):R.allB p l=true↔R.span p l=l.length:=by
 unfold R.allB
 induction l with
 | nil=>simp[R.span]
 | cons a l ih=>
  have hl:=R.span_le p l
  rw[List.all_cons,R.span,zoF]
  cases hp:p a.toNat
  ·simp
  ·simp[ih]
theorem zeA (s:ByteArray)(w:World)(hs:s.size<=maxLen) :
  Calls Tryz.prog 202 #[.string s,.func (.func 260) #[] #[]] w fun e w'=>e = .returned (.int .i64 (R.span R.smallI s.data.toList:Nat))/\w'=w:=by
 unfold maxLen at hs
 go_enter Tryz.func202,Tryz.ntmps202
 go_wp2_with fail
 go_loop [8] (fun v=>∃k:Nat,k<=s.size/\v = .int .i64 k/\Y (R.span R.smallI s.data.toList=k+R.span R.smallI (s.data.toList.drop k))) (fun v=>s.size - (intOf v).toNat)
 case atStart=>exact⟨0,zo _,rfl,by show _=_;simp⟩
 case round=>
  obtain⟨k,hk,rfl,HL⟩:=hrel
  by_cases ab:k<s.size
  ·cases hp:R.smallI s[k].toNat
   ·have H2:Y (R.span R.smallI s.data.toList=k):=by
     have:=HL.o;rw[R.span_stop ab hp] at this;exact this
    clear HL
    go_wp2_with fail
    refine(j5 _ _).mono ?_
    rintro e wX ⟨rfl,aa⟩
    rw[aa,hp]
    clear aa wX
    go_wp2
    go_ret
    exact⟨by rw[H2.o];rfl,rfl⟩
   ·have H2:Y (R.span R.smallI s.data.toList=(k+1)+R.span R.smallI (s.data.toList.drop (k+1))):=by
     have:=HL.o;rw[R.span_step ab hp] at this;show _=_;omega
    clear HL
    go_wp2_with fail
    refine(j5 _ _).mono ?_
    rintro e wX ⟨rfl,aa⟩
    rw[aa,hp]
    clear aa wX
    go_wp2
    exact⟨⟨k+1,by omega,by go_num,H2⟩,by simp[intOf];omega⟩
  ·have H2:Y (R.span R.smallI s.data.toList=s.size):=by
    have:=HL.o;rw[R.span_end (k:=k) (by omega)] at this;show _=_;omega
   clear HL
   go_wp2
   go_ret
   exact⟨by rw[H2.o];rfl,rfl⟩
theorem ze4 (s:ByteArray)(w:World)(hs:s.size<=maxLen) :
  Calls Tryz.prog 202 #[.string s,.func (.func 261) #[] #[]] w fun e w'=>e = .returned (.int .i64 (R.span R.digitI s.data.toList:Nat))/\w'=w:=by
 unfold maxLen at hs
 go_enter Tryz.func202,Tryz.ntmps202
 go_wp2_with fail
 go_loop [8] (fun v=>∃k:Nat,k<=s.size/\v = .int .i64 k/\Y (R.span R.digitI s.data.toList=k+R.span R.digitI (s.data.toList.drop k))) (fun v=>s.size - (intOf v).toNat)
 case atStart=>exact⟨0,zo _,rfl,by show _=_;simp⟩
 case round=>
  obtain⟨k,hk,rfl,HL⟩:=hrel
  by_cases ab:k<s.size
  ·cases hp:R.digitI s[k].toNat
   ·have H2:Y (R.span R.digitI s.data.toList=k):=by
     have:=HL.o;rw[R.span_stop ab hp] at this;exact this
    clear HL
    go_wp2_with fail
    refine(jJ _ _).mono ?_
    rintro e wX ⟨rfl,aa⟩
    rw[aa,hp]
    clear aa wX
    go_wp2
    go_ret
    exact⟨by rw[H2.o];rfl,rfl⟩
   ·have H2:Y (R.span R.digitI s.data.toList=(k+1)+R.span R.digitI (s.data.toList.drop (k+1))):=by
     have:=HL.o;rw[R.span_step ab hp] at this;show _=_;omega
    clear HL
    go_wp2_with fail
    refine(jJ _ _).mono ?_
    rintro e wX ⟨rfl,aa⟩
    rw[aa,hp]
    clear aa wX
    go_wp2
    exact⟨⟨k+1,by omega,by go_num,H2⟩,by simp[intOf];omega⟩
  ·have H2:Y (R.span R.digitI s.data.toList=s.size):=by
    have:=HL.o;rw[R.span_end (k:=k) (by omega)] at this;show _=_;omega
   clear HL
   go_wp2
   go_ret
   exact⟨by rw[H2.o];rfl,rfl⟩
theorem zeE (s:ByteArray)(w:World)(hs:s.size<=maxLen) :
  Calls Tryz.prog 202 #[.string s,.func (.func 203) #[] #[]] w fun e w'=>e = .returned (.int .i64 (R.span xn s.data.toList:Nat))/\w'=w:=by
 unfold maxLen at hs
 go_enter Tryz.func202,Tryz.ntmps202
 go_wp2_with fail
 go_loop [8] (fun v=>∃k:Nat,k<=s.size/\v = .int .i64 k/\Y (R.span xn s.data.toList=k+R.span xn (s.data.toList.drop k))) (fun v=>s.size - (intOf v).toNat)
 case atStart=>exact⟨0,zo _,rfl,by show _=_;simp⟩
 case round=>
  obtain⟨k,hk,rfl,HL⟩:=hrel
  by_cases ab:k<s.size
  ·cases hp:xn s[k].toNat
   ·have H2:Y (R.span xn s.data.toList=k):=by
     have:=HL.o;rw[R.span_stop ab hp] at this;exact this
    clear HL
    go_wp2_with fail
    refine(zbF _ _).mono ?_
    rintro e wX ⟨rfl,aa⟩
    rw[aa,hp]
    clear aa wX
    go_wp2
    go_ret
    exact⟨by rw[H2.o];rfl,rfl⟩
   ·have H2:Y (R.span xn s.data.toList=(k+1)+R.span xn (s.data.toList.drop (k+1))):=by
     have:=HL.o;rw[R.span_step ab hp] at this;show _=_;omega
    clear HL
    go_wp2_with fail
    refine(zbF _ _).mono ?_
    rintro e wX ⟨rfl,aa⟩
    rw[aa,hp]
    clear aa wX
    go_wp2
    exact⟨⟨k+1,by omega,by go_num,H2⟩,by simp[intOf];omega⟩
  ·have H2:Y (R.span xn s.data.toList=s.size):=by
    have:=HL.o;rw[R.span_end (k:=k) (by omega)] at this;show _=_;omega
   clear HL
   go_wp2
   go_ret
   exact⟨by rw[H2.o];rfl,rfl⟩
theorem zgE (s:ByteArray)(w:World)(hs:s.size<=maxLen) :
  Calls Tryz.prog 202 #[.string s,.func (.func 377) #[] #[]] w fun e w'=>e = .returned (.int .i64 (R.span R.pathI s.data.toList:Nat))/\w'=w:=by
 unfold maxLen at hs
 go_enter Tryz.func202,Tryz.ntmps202
 go_wp2_with fail
 go_loop [8] (fun v=>∃k:Nat,k<=s.size/\v = .int .i64 k/\Y (R.span R.pathI s.data.toList=k+R.span R.pathI (s.data.toList.drop k))) (fun v=>s.size - (intOf v).toNat)
 case atStart=>exact⟨0,zo _,rfl,by show _=_;simp⟩
 case round=>
  obtain⟨k,hk,rfl,HL⟩:=hrel
  by_cases ab:k<s.size
  ·cases hp:R.pathI s[k].toNat
   ·have H2:Y (R.span R.pathI s.data.toList=k):=by
     have:=HL.o;rw[R.span_stop ab hp] at this;exact this
    clear HL
    go_wp2_with fail
    refine(ug _ _).mono ?_
    rintro e wX ⟨rfl,aa⟩
    rw[aa,hp]
    clear aa wX
    go_wp2
    go_ret
    exact⟨by rw[H2.o];rfl,rfl⟩
   ·have H2:Y (R.span R.pathI s.data.toList=(k+1)+R.span R.pathI (s.data.toList.drop (k+1))):=by
     have:=HL.o;rw[R.span_step ab hp] at this;show _=_;omega
    clear HL
    go_wp2_with fail
    refine(ug _ _).mono ?_
    rintro e wX ⟨rfl,aa⟩
    rw[aa,hp]
    clear aa wX
    go_wp2
    exact⟨⟨k+1,by omega,by go_num,H2⟩,by simp[intOf];omega⟩
  ·have H2:Y (R.span R.pathI s.data.toList=s.size):=by
    have:=HL.o;rw[R.span_end (k:=k) (by omega)] at this;show _=_;omega
   clear HL
   go_wp2
   go_ret
   exact⟨by rw[H2.o];rfl,rfl⟩
theorem zgQ (s:ByteArray)(w:World)(hs:s.size<=maxLen) :
  Calls Tryz.prog 352 #[.string s,.func (.func 377) #[] #[]] w fun e w'=>e = .returned (.bool (R.allB R.pathI s.data.toList))/\w'=w:=by
 have HA:Y (R.allB R.pathI s.data.toList=((R.span R.pathI s.data.toList:Int) == s.size)):=by
  show R.allB R.pathI s.data.toList=_
  rw[<-R.size_eq,Bool.eq_iff_iff]
  simp only[beq_iff_eq]
  rw[Int.ofNat_inj]
  exact uK R.pathI s.data.toList
 go_enter Tryz.func352,Tryz.ntmps352
 go_wp2_with fail
 refine(zgE s _ hs).mono ?_
 rintro e wX ⟨rfl,aa⟩
 rw[aa]
 clear aa wX
 go_wp2
 go_ret
 exact⟨qN (by rw[HA.o]),rfl⟩
theorem zeC (s:ByteArray)(w:World)(hs:s.size<=maxLen) :
  Calls Tryz.prog 202 #[.string s,.func (.func 411) #[] #[]] w fun e w'=>e = .returned (.int .i64 (R.span R.valueI s.data.toList:Nat))/\w'=w:=by
 unfold maxLen at hs
 go_enter Tryz.func202,Tryz.ntmps202
 go_wp2_with fail
 go_loop [8] (fun v=>∃k:Nat,k<=s.size/\v = .int .i64 k/\Y (R.span R.valueI s.data.toList=k+R.span R.valueI (s.data.toList.drop k))) (fun v=>s.size - (intOf v).toNat)
 case atStart=>exact⟨0,zo _,rfl,by show _=_;simp⟩
 case round=>
  obtain⟨k,hk,rfl,HL⟩:=hrel
  by_cases ab:k<s.size
  ·cases hp:R.valueI s[k].toNat
   ·have H2:Y (R.span R.valueI s.data.toList=k):=by
     have:=HL.o;rw[R.span_stop ab hp] at this;exact this
    clear HL
    go_wp2_with fail
    refine(uU _ _).mono ?_
    rintro e wX ⟨rfl,aa⟩
    rw[aa,hp]
    clear aa wX
    go_wp2
    go_ret
    exact⟨by rw[H2.o];rfl,rfl⟩
   ·have H2:Y (R.span R.valueI s.data.toList=(k+1)+R.span R.valueI (s.data.toList.drop (k+1))):=by
     have:=HL.o;rw[R.span_step ab hp] at this;show _=_;omega
    clear HL
    go_wp2_with fail
    refine(uU _ _).mono ?_
    rintro e wX ⟨rfl,aa⟩
    rw[aa,hp]
    clear aa wX
    go_wp2
    exact⟨⟨k+1,by omega,by go_num,H2⟩,by simp[intOf];omega⟩
  ·have H2:Y (R.span R.valueI s.data.toList=s.size):=by
    have:=HL.o;rw[R.span_end (k:=k) (by omega)] at this;show _=_;omega
   clear HL
   go_wp2
   go_ret
   exact⟨by rw[H2.o];rfl,rfl⟩
theorem ze7 (s:ByteArray)(w:World)(hs:s.size<=maxLen) :
  Calls Tryz.prog 352 #[.string s,.func (.func 411) #[] #[]] w fun e w'=>e = .returned (.bool (R.allB R.valueI s.data.toList))/\w'=w:=by
 have HA:Y (R.allB R.valueI s.data.toList=((R.span R.valueI s.data.toList:Int) == s.size)):=by
  show R.allB R.valueI s.data.toList=_
  rw[<-R.size_eq,Bool.eq_iff_iff]
  simp only[beq_iff_eq]
  rw[Int.ofNat_inj]
  exact uK R.valueI s.data.toList
 go_enter Tryz.func352,Tryz.ntmps352
 go_wp2_with fail
 refine(zeC s _ hs).mono ?_
 rintro e wX ⟨rfl,aa⟩
 rw[aa]
 clear aa wX
 go_wp2
 go_ret
 exact⟨qN (by rw[HA.o]),rfl⟩
theorem zbR (c:Int)(w:World) :
  Calls Tryz.prog 393 #[.int .u8 c] w fun e w'=>e = .returned (.bool (R.partI c true))/\w'=w:=by
 have HP:Y (R.partI c true=(R.smallI c || R.digitI c || c == 45 || (true && R.largeI c))):=rfl
 cases h1:R.smallI c <;> cases h2:R.largeI c <;> cases h3:R.digitI c
 all_goals
  rw[h1,h2,h3] at HP
  go_enter Tryz.func393,Tryz.ntmps393
  go_wp2_with (first
   | (go_at_call 260;refine(j5 _ _).mono ?_;rintro e w' ⟨rfl,rfl⟩)
   | (go_at_call 309;refine(ut _ _).mono ?_;rintro e w' ⟨rfl,rfl⟩)
   | (go_at_call 261;refine(jJ _ _).mono ?_;rintro e w' ⟨rfl,rfl⟩))
  go_ret
  exact⟨qN (by rw[HP.o];simp),rfl⟩
theorem kw (c:Int)(w:World) :
  Calls Tryz.prog 412 #[.int .u8 c] w fun e w'=>e = .returned (.bool (R.upI c))/\w'=w:=by
 have HP:Y (R.upI c=(R.smallI c || R.digitI c || c == 45 || (false && R.largeI c) || decide (c=46\/c=58))):=rfl
 cases h1:R.smallI c <;> cases h3:R.digitI c
 all_goals
  rw[h1,h3] at HP
  go_enter Tryz.func412,Tryz.ntmps412
  go_wp2_with (first
   | (go_at_call 260;refine(j5 _ _).mono ?_;rintro e w' ⟨rfl,rfl⟩)
   | (go_at_call 261;refine(jJ _ _).mono ?_;rintro e w' ⟨rfl,rfl⟩))
  all_goals
   go_ret
   exact⟨qN (by rw[HP.o,Bool.eq_iff_iff];simp;try omega),rfl⟩
end Go.Proofs.YtfocdefchbnkpaaGreatDoor
