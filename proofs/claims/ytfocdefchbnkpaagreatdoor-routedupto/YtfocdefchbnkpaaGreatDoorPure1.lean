/- The plain functions that the document's own reading of a policy computes byte by byte (labels, names, paths, headers, values, upstreams, numbers), with no program in them. -/
import Derived.Test.YtfocdefchbnkpaaGreatDoorAli
import Derived.WalkKit
import Derived.Test.YtfocdefchbnkpaaGreatDoorProg
import Derived.WalkSpells
import Derived.Lib.Strings
import Derived.RegionTactic
import Derived.BigRegion
import Derived.ChangeAlike
import Derived.Laws.ResultCell
import Derived.Deep.QuietTactic
import Derived.BigQuiet
import Derived.Deep.RegionWith
set_option maxRecDepth 100000
set_option maxHeartbeats 20000000
namespace Go.Proofs.YtfocdefchbnkpaaGreatDoor
namespace R
def str (l:List UInt8):ByteArray:=⟨l.toArray⟩
theorem str_toList (l:List UInt8):(str l).data.toList=l:=by simp[str]
theorem str_of (s:ByteArray):str s.data.toList=s:=by cases s;simp[str]
theorem str_size (l:List UInt8):(str l).size=l.length:=rfl
theorem size_eq (s:ByteArray):s.data.toList.length=s.size:=by rw[Array.length_toList];rfl
def smallI (c:Int):Bool:=decide (97<=c) && decide (c<=122)
def digitI (c:Int):Bool:=decide (48<=c) && decide (c<=57)
def largeI (c:Int):Bool:=decide (65<=c) && decide (c<=90)
def partI (c:Int)(large:Bool):Bool:=smallI c || digitI c || c == 45 || (large && largeI c)
def pathI (c:Int):Bool:=decide (33<=c/\c<=126/\c≠63/\c≠35/\c≠34)
def valueI (c:Int):Bool:=decide (32<=c/\c<=126/\c≠34)
def upI (c:Int):Bool:=partI c false || decide (c=46\/c=58)
def allB (p:Int->Bool)(l:List UInt8):Bool:=l.all fun c=>p c.toNat
theorem drop_cons (s:ByteArray)(k:Nat)(h:k<s.size):s.data.toList.drop k=s[k] :: s.data.toList.drop (k+1):=by
 rw[List.drop_eq_getElem_cons (by rw[size_eq];exact h)];rfl
def labelsGo (lg:Bool):List UInt8->Nat->Bool
 | [],n=>decide (0<n)
 | c :: cs,n=>if (c.toNat:Int)=46/\0<n then labelsGo lg cs 0 else if partI c.toNat lg then labelsGo lg cs (n+1) else false
def labels (l:List UInt8)(lg:Bool):Bool:=labelsGo lg l 0
def named (l:List UInt8)(lg:Bool):Bool:=if l=[42] then true else if l.take 2=[42,46]/\2<l.length then labels (l.drop 2) lg else labels l lg
def path (l:List UInt8):Bool:=allB pathI l && (decide (0<l.length) && decide (l.head?=some 47))
def word (l:List UInt8)(lg:Bool):Bool:=allB (fun c=>partI c lg) l && decide (0<l.length)
def lowC (c:UInt8):UInt8:=if largeI c.toNat then c+32 else c
def lower (l:List UInt8):List UInt8:=l.map lowC
def host:List UInt8:=[104,111,115,116]
def contentLength:List UInt8:=[99,111,110,116,101,110,116,45,108,101,110,103,116,104]
def transferEncoding:List UInt8:=[116,114,97,110,115,102,101,114,45,101,110,99,111,100,105,110,103]
def header (l:List UInt8)(lg:Bool):Bool:=word l lg && (decide (lower l≠host) && (decide (lower l≠contentLength) && decide (lower l≠transferEncoding)))
def value (l:List UInt8):Bool:=allB valueI l && (decide (l.length=0) || (decide (l.head?≠some 32) && decide (l.getLast?≠some 32)))
def upstream (l:List UInt8):Bool:=allB upI l && decide (0<l.length)
end R
end Go.Proofs.YtfocdefchbnkpaaGreatDoor
namespace Go.Proofs.YtfocdefchbnkpaaGreatDoor
open Go.RowKit
theorem za {a b:Bool}(h:a=b):Ending.returned (.bool a) = .returned (.bool b):=by rw[h]
theorem toL (s:ByteArray)(l:List UInt8):(s.toList == l)=decide (s.data.toList=l):=by
 rw[ByteArray.toList_eq,Bool.eq_iff_iff];simp
theorem kx (s:ByteArray)(a b:Nat):(s.extract a b).data.toList=(s.data.toList.drop a).take (b - a):=Lib.extract_data s a b
theorem fQ (s:ByteArray)(a:Nat):(s.extract a s.size).data.toList=s.data.toList.drop a:=by
 rw[kx,jS (by rw[List.length_drop,R.size_eq];omega)]
theorem q106q (s:ByteArray)(b:Nat):(s.extract 0 b).data.toList=s.data.toList.take b:=by
 rw[kx];simp
theorem zjA {a b:ByteArray}(h:a.data.toList=b.data.toList):a=b:=by
 rw[<-R.str_of a,<-R.str_of b,h]
theorem q71q (a b:ByteArray):(a++b).data.toList=a.data.toList++b.data.toList:=by
 rw[ByteArray.data_append,Array.toList_append]
theorem q87q {a b:ByteArray}(h:a=b):Ending.returned (.string a) = .returned (.string b):=by rw[h]
theorem vB (l:List UInt8):(R.lower l).length=l.length:=qw _
theorem toLs (l m:List UInt8):((R.str l).toList == m)=decide (l=m):=by rw[toL,R.str_toList]
theorem q92q (n:Nat)(h:n<10):(⟨#[48,49,50,51,52,53,54,55,56,57]⟩:ByteArray).extract n (n+1)=R.str [UInt8.ofNat (48+n)]:=by
 have:∀m:Fin 10,(⟨#[48,49,50,51,52,53,54,55,56,57]⟩:ByteArray).extract m.val (m.val+1)=R.str [UInt8.ofNat (48+m.val)]:=by decide +kernel
 exact this ⟨n,h⟩
def R.dec (n:Nat):List UInt8:=if n<10 then [UInt8.ofNat (48+n)] else R.dec (n / 10)++[UInt8.ofNat (48+n % 10)]
 termination_by n
 decreasing_by omega
theorem R.dec_len (n k:Nat)(h:n<10 ^ (k+1)):(R.dec n).length<=k+1:=by
 induction k generalizing n with
 | zero=>unfold R.dec;rw[if_pos (by omega)];simp
 | succ k ih=>
  unfold R.dec
  split
  ·simp
  ·rw[zW]
   have:=ih (n / 10) (by rw[Nat.div_lt_iff_lt_mul (by omega)];rw[Nat.pow_succ] at h;exact h)
   simp;omega
end Go.Proofs.YtfocdefchbnkpaaGreatDoor
namespace Go.Proofs.YtfocdefchbnkpaaGreatDoor
open Go.RowKit
namespace R
def span (p:Int->Bool):List UInt8->Nat
 | []=>0
 | c :: cs=>if p c.toNat then span p cs+1 else 0
theorem span_step {p:Int->Bool}{s:ByteArray}{k:Nat}(h:k<s.size)(hp:p s[k].toNat=true):span p (s.data.toList.drop k)=span p (s.data.toList.drop (k+1))+1:=by
 rw[drop_cons s k h,span,if_pos hp]
theorem span_stop {p:Int->Bool}{s:ByteArray}{k:Nat}(h:k<s.size)(hp:p s[k].toNat=false):span p (s.data.toList.drop k)=0:=by
 rw[drop_cons s k h,span,if_neg (by rw[hp];simp)]
theorem span_end {p:Int->Bool}{s:ByteArray}{k:Nat}(h:s.size<=k):span p (s.data.toList.drop k)=0:=by
 rw[List.drop_of_length_le (by rw[size_eq];exact h)];rfl
theorem span_le (p:Int->Bool)(l:List UInt8):span p l<=l.length:=by
 induction l with
 | nil=>exact zZ _
 | cons c cs ih=>unfold span;split <;> simp <;> omega
def insideI (c:Int):Bool:=decide (c≠34/\c≠10)
def signI (c:Int):Bool:=c == 123 || c == 125 || c == 59 || c == 61 || c == 44
def at0 (l:List UInt8)(n:Nat):Int:=(l.getD n 0).toNat
def tend (l:List UInt8)(i:Nat):Nat×Int:=
 if smallI (at0 l i) then (i+1+span smallI (l.drop (i+1)),119)
 else if digitI (at0 l i) then
  (if 5<i+1+span digitI (l.drop (i+1)) - i then (i+1+span digitI (l.drop (i+1)),120) else (i+1+span digitI (l.drop (i+1)),49))
 else if at0 l i=34 then
  (if i+1+span insideI (l.drop (i+1))=l.length\/at0 l (i+1+span insideI (l.drop (i+1)))=10\/24<i+1+span insideI (l.drop (i+1)) - i - 1
   then (i+1+span insideI (l.drop (i+1)),120) else (i+1+span insideI (l.drop (i+1))+1,34))
 else if signI (at0 l i) then (i+1,115)
 else (i+1,120)
def sbad (l:List UInt8)(n i:Nat):Prop:=n=l.length\/at0 l n=10\/24<n - i - 1
instance (l:List UInt8) (n i:Nat):Decidable (sbad l n i):=by unfold sbad;infer_instance
structure Tok where
 k:Int
 s:List UInt8
 at_:Nat
def Tok.cells (t:Tok):List Value:=[.int .u8 t.k,.string (str t.s),.int .i64 t.at_]
def tokCells (l:List Tok):List Value:=(l.map Tok.cells).flatten
def tok (l:List UInt8)(i:Nat):Tok:=
 ⟨(tend l i).2,if (tend l i).2=34 then (l.drop (i+1)).take ((tend l i).1 - 1 - (i+1)) else (l.drop i).take ((tend l i).1 - i),i⟩
def toksGo:Nat->List UInt8->Nat->List Tok
 | 0,_,_=>[]
 | n+1,l,i=>
  if i<l.length then
   if at0 l i=32\/at0 l i=10 then toksGo n l (i+1)
   else if (tend l i).2=120 then [tok l i] else tok l i :: toksGo n l (tend l i).1
  else [⟨0,[],l.length⟩]
def toks (l:List UInt8):List Tok:=toksGo (l.length+1) l 0
theorem tend_bd (l:List UInt8)(i:Nat)(h:i<l.length):i<(tend l i).1/\(tend l i).1<=l.length/\((tend l i).2=34->i+2<=(tend l i).1):=by
 have hs:=span_le smallI (l.drop (i+1))
 have hd:=span_le digitI (l.drop (i+1))
 have hi:=span_le insideI (l.drop (i+1))
 rw[List.length_drop] at hs hd hi
 unfold tend
 split
 ·refine⟨by omega,by omega,fun h=>absurd h (by simp)⟩
 ·split
  ·split
   ·refine⟨by simp;omega,by simp;omega,fun h=>absurd h (by simp)⟩
   ·refine⟨by simp;omega,by simp;omega,fun h=>absurd h (by simp)⟩
  ·split
   ·split
    ·refine⟨by simp;omega,by simp;omega,fun h=>absurd h (by simp)⟩
    ·rename_i hn
     refine⟨by simp;omega,?_,fun _=>by simp⟩
     simp only
     have:i+1+span insideI (l.drop (i+1))≠l.length:=fun e=>hn (Or.inl e)
     omega
   ·split
    ·refine⟨by simp,by simp;omega,fun h=>absurd h (by simp)⟩
    ·refine⟨by simp,by simp;omega,fun h=>absurd h (by simp)⟩
end R
end Go.Proofs.YtfocdefchbnkpaaGreatDoor
namespace Go.Proofs.YtfocdefchbnkpaaGreatDoor
open Go.RowKit
theorem jr (s:ByteArray)(a b:Nat):s.extract a b=R.str ((s.data.toList.drop a).take (b - a)):=by
 apply zjA;rw[R.str_toList,kx]
theorem zoP (g j:Nat):(⟨g,0,none⟩:Addr).add j=⟨g,j,none⟩:=by unfold Addr.add;split <;> simp_all
theorem qI (w:World)(cs:Array Value)(t:TypeId)(g:Nat)(hg:g=w.heap.size):∀j u,cs.toList[j]?=some u->(w.alloc (.cells cs t)).cell? ((⟨g,0,none⟩:Addr).add j)=some u:=by
 intro j u h
 subst hg
 rw[zoP,World.cell?_alloc_new]
 simpa using h
theorem R.toksGo_blank {l:List UInt8}{n i:Nat}(h:i<l.length)(hb:R.at0 l i=32\/R.at0 l i=10):R.toksGo (n+1) l i=R.toksGo n l (i+1):=by
 rw[R.toksGo,if_pos h,if_pos hb]
theorem R.toksGo_bad {l:List UInt8}{n i:Nat}(h:i<l.length)(hb:¬(R.at0 l i=32\/R.at0 l i=10))(hk:(R.tend l i).2=120):R.toksGo (n+1) l i=[R.tok l i]:=by
 rw[R.toksGo,if_pos h,if_neg hb,if_pos hk]
theorem R.toksGo_good {l:List UInt8}{n i:Nat}(h:i<l.length)(hb:¬(R.at0 l i=32\/R.at0 l i=10))(hk:(R.tend l i).2≠120):R.toksGo (n+1) l i=R.tok l i :: R.toksGo n l (R.tend l i).1:=by
 rw[R.toksGo,if_pos h,if_neg hb,if_neg hk]
theorem R.toksGo_end {l:List UInt8}{n i:Nat}(h:¬i<l.length):R.toksGo (n+1) l i=[⟨0,[],l.length⟩]:=by
 rw[R.toksGo,if_neg h]
theorem xw (c:Int)(w:World) :
  Calls Tryz.prog 260 #[.int .u8 c] w fun e w'=>e = .returned (.bool (R.smallI c))/\w'=w:=by
 by_cases h:97<=c
 all_goals
  go_enter Tryz.func260,Tryz.ntmps260
  go_wp2
  go_ret
  exact⟨za (by unfold R.smallI;rw[Bool.eq_iff_iff];simp;try omega),rfl⟩
theorem vy (c:Int)(w:World) :
  Calls Tryz.prog 309 #[.int .u8 c] w fun e w'=>e = .returned (.bool (R.largeI c))/\w'=w:=by
 by_cases h:65<=c
 all_goals
  go_enter Tryz.func309,Tryz.ntmps309
  go_wp2
  go_ret
  exact⟨za (by unfold R.largeI;rw[Bool.eq_iff_iff];simp;try omega),rfl⟩
theorem yF (c:Int)(w:World) :
  Calls Tryz.prog 261 #[.int .u8 c] w fun e w'=>e = .returned (.bool (R.digitI c))/\w'=w:=by
 by_cases h:48<=c
 all_goals
  go_enter Tryz.func261,Tryz.ntmps261
  go_wp2
  go_ret
  exact⟨za (by unfold R.digitI;rw[Bool.eq_iff_iff];simp;try omega),rfl⟩
def qt (c:Int):Bool:=c == 32 || c == 10
theorem uW (c:Int)(w:World) :
  Calls Tryz.prog 203 #[.int .u8 c] w fun e w'=>e = .returned (.bool (qt c))/\w'=w:=by
 cases h:(c == 32)
 all_goals
  go_enter Tryz.func203,Tryz.ntmps203
  go_wp2
  go_ret
  exact⟨za (by unfold qt;rw[h];try rfl),rfl⟩
theorem k9 (c:Int)(w:World) :
  Calls Tryz.prog 377 #[.int .u8 c] w fun e w'=>e = .returned (.bool (R.pathI c))/\w'=w:=by
 go_enter Tryz.func377,Tryz.ntmps377
 go_wp2
 all_goals
  go_ret
  exact⟨za (by unfold R.pathI;rw[Bool.eq_iff_iff];simp;try omega),rfl⟩
theorem vW (c:Int)(w:World) :
  Calls Tryz.prog 411 #[.int .u8 c] w fun e w'=>e = .returned (.bool (R.valueI c))/\w'=w:=by
 go_enter Tryz.func411,Tryz.ntmps411
 go_wp2
 all_goals
  go_ret
  exact⟨za (by unfold R.valueI;rw[Bool.eq_iff_iff];simp;try omega),rfl⟩
theorem yX (p:Int->Bool)(l:List UInt8):R.allB p l=true↔R.span p l=l.length:=by
 unfold R.allB
 induction l with
 | nil=>simp[R.span]
 | cons a l ih=>
  have hl:=R.span_le p l
  rw[List.all_cons,R.span,zm]
  cases hp:p a.toNat
  ·simp
  ·simp[ih]
theorem tV (s:ByteArray)(w:World)(hs:s.size<=maxLen) :
  Calls Tryz.prog 202 #[.string s,.func (.func 260) #[] #[]] w fun e w'=>e = .returned (.int .i64 (R.span R.smallI s.data.toList:Nat))/\w'=w:=by
 unfold maxLen at hs
 go_enter Tryz.func202,Tryz.ntmps202
 go_wp2_with fail
 go_loop [8] (fun v=>∃k:Nat,k<=s.size/\v = .int .i64 k/\Y (R.span R.smallI s.data.toList=k+R.span R.smallI (s.data.toList.drop k))) (fun v=>s.size - (intOf v).toNat)
 case atStart=>exact⟨0,zl _,rfl,by show _=_;simp⟩
 case round=>
  obtain⟨k,hk,rfl,HL⟩:=hrel
  by_cases ab:k<s.size
  ·cases hp:R.smallI s[k].toNat
   ·have H2:Y (R.span R.smallI s.data.toList=k):=by
     have:=HL.o;rw[R.span_stop ab hp] at this;exact this
    clear HL
    go_wp2_with fail
    refine(xw _ _).mono ?_
    rintro e wX ⟨rfl,aa⟩
    rw[aa,hp]
    clear aa wX
    go_wp2
    go_ret
    exact⟨by rw[H2.o];rfl,rfl⟩
   ·have H2:Y (R.span R.smallI s.data.toList=(k+1)+R.span R.smallI (s.data.toList.drop (k+1))):=by
     have:=HL.o;rw[R.span_step ab hp] at this;show _=_;omega
    clear HL
    go_wp2_with fail
    refine(xw _ _).mono ?_
    rintro e wX ⟨rfl,aa⟩
    rw[aa,hp]
    clear aa wX
    go_wp2
    exact⟨⟨k+1,by omega,by go_num,H2⟩,by simp[intOf];omega⟩
  ·have H2:Y (R.span R.smallI s.data.toList=s.size):=by
    have:=HL.o;rw[R.span_end (k:=k) (by omega)] at this;show _=_;omega
   clear HL
   go_wp2
   go_ret
   exact⟨by rw[H2.o];rfl,rfl⟩
theorem kO (s:ByteArray)(w:World)(hs:s.size<=maxLen) :
  Calls Tryz.prog 202 #[.string s,.func (.func 261) #[] #[]] w fun e w'=>e = .returned (.int .i64 (R.span R.digitI s.data.toList:Nat))/\w'=w:=by
 unfold maxLen at hs
 go_enter Tryz.func202,Tryz.ntmps202
 go_wp2_with fail
 go_loop [8] (fun v=>∃k:Nat,k<=s.size/\v = .int .i64 k/\Y (R.span R.digitI s.data.toList=k+R.span R.digitI (s.data.toList.drop k))) (fun v=>s.size - (intOf v).toNat)
 case atStart=>exact⟨0,zl _,rfl,by show _=_;simp⟩
 case round=>
  obtain⟨k,hk,rfl,HL⟩:=hrel
  by_cases ab:k<s.size
  ·cases hp:R.digitI s[k].toNat
   ·have H2:Y (R.span R.digitI s.data.toList=k):=by
     have:=HL.o;rw[R.span_stop ab hp] at this;exact this
    clear HL
    go_wp2_with fail
    refine(yF _ _).mono ?_
    rintro e wX ⟨rfl,aa⟩
    rw[aa,hp]
    clear aa wX
    go_wp2
    go_ret
    exact⟨by rw[H2.o];rfl,rfl⟩
   ·have H2:Y (R.span R.digitI s.data.toList=(k+1)+R.span R.digitI (s.data.toList.drop (k+1))):=by
     have:=HL.o;rw[R.span_step ab hp] at this;show _=_;omega
    clear HL
    go_wp2_with fail
    refine(yF _ _).mono ?_
    rintro e wX ⟨rfl,aa⟩
    rw[aa,hp]
    clear aa wX
    go_wp2
    exact⟨⟨k+1,by omega,by go_num,H2⟩,by simp[intOf];omega⟩
  ·have H2:Y (R.span R.digitI s.data.toList=s.size):=by
    have:=HL.o;rw[R.span_end (k:=k) (by omega)] at this;show _=_;omega
   clear HL
   go_wp2
   go_ret
   exact⟨by rw[H2.o];rfl,rfl⟩
theorem tN (s:ByteArray)(w:World)(hs:s.size<=maxLen) :
  Calls Tryz.prog 352 #[.string s,.func (.func 261) #[] #[]] w fun e w'=>e = .returned (.bool (R.allB R.digitI s.data.toList))/\w'=w:=by
 have HA:Y (R.allB R.digitI s.data.toList=((R.span R.digitI s.data.toList:Int) == s.size)):=by
  show R.allB R.digitI s.data.toList=_
  rw[<-R.size_eq,Bool.eq_iff_iff]
  simp only[beq_iff_eq]
  rw[Int.ofNat_inj]
  exact yX R.digitI s.data.toList
 go_enter Tryz.func352,Tryz.ntmps352
 go_wp2_with fail
 refine(kO s _ hs).mono ?_
 rintro e wX ⟨rfl,aa⟩
 rw[aa]
 clear aa wX
 go_wp2
 go_ret
 exact⟨za (by rw[HA.o]),rfl⟩
theorem tU (s:ByteArray)(w:World)(hs:s.size<=maxLen) :
  Calls Tryz.prog 202 #[.string s,.func (.func 203) #[] #[]] w fun e w'=>e = .returned (.int .i64 (R.span qt s.data.toList:Nat))/\w'=w:=by
 unfold maxLen at hs
 go_enter Tryz.func202,Tryz.ntmps202
 go_wp2_with fail
 go_loop [8] (fun v=>∃k:Nat,k<=s.size/\v = .int .i64 k/\Y (R.span qt s.data.toList=k+R.span qt (s.data.toList.drop k))) (fun v=>s.size - (intOf v).toNat)
 case atStart=>exact⟨0,zl _,rfl,by show _=_;simp⟩
 case round=>
  obtain⟨k,hk,rfl,HL⟩:=hrel
  by_cases ab:k<s.size
  ·cases hp:qt s[k].toNat
   ·have H2:Y (R.span qt s.data.toList=k):=by
     have:=HL.o;rw[R.span_stop ab hp] at this;exact this
    clear HL
    go_wp2_with fail
    refine(uW _ _).mono ?_
    rintro e wX ⟨rfl,aa⟩
    rw[aa,hp]
    clear aa wX
    go_wp2
    go_ret
    exact⟨by rw[H2.o];rfl,rfl⟩
   ·have H2:Y (R.span qt s.data.toList=(k+1)+R.span qt (s.data.toList.drop (k+1))):=by
     have:=HL.o;rw[R.span_step ab hp] at this;show _=_;omega
    clear HL
    go_wp2_with fail
    refine(uW _ _).mono ?_
    rintro e wX ⟨rfl,aa⟩
    rw[aa,hp]
    clear aa wX
    go_wp2
    exact⟨⟨k+1,by omega,by go_num,H2⟩,by simp[intOf];omega⟩
  ·have H2:Y (R.span qt s.data.toList=s.size):=by
    have:=HL.o;rw[R.span_end (k:=k) (by omega)] at this;show _=_;omega
   clear HL
   go_wp2
   go_ret
   exact⟨by rw[H2.o];rfl,rfl⟩
theorem zcD (s:ByteArray)(w:World)(hs:s.size<=maxLen) :
  Calls Tryz.prog 202 #[.string s,.func (.func 377) #[] #[]] w fun e w'=>e = .returned (.int .i64 (R.span R.pathI s.data.toList:Nat))/\w'=w:=by
 unfold maxLen at hs
 go_enter Tryz.func202,Tryz.ntmps202
 go_wp2_with fail
 go_loop [8] (fun v=>∃k:Nat,k<=s.size/\v = .int .i64 k/\Y (R.span R.pathI s.data.toList=k+R.span R.pathI (s.data.toList.drop k))) (fun v=>s.size - (intOf v).toNat)
 case atStart=>exact⟨0,zl _,rfl,by show _=_;simp⟩
 case round=>
  obtain⟨k,hk,rfl,HL⟩:=hrel
  by_cases ab:k<s.size
  ·cases hp:R.pathI s[k].toNat
   ·have H2:Y (R.span R.pathI s.data.toList=k):=by
     have:=HL.o;rw[R.span_stop ab hp] at this;exact this
    clear HL
    go_wp2_with fail
    refine(k9 _ _).mono ?_
    rintro e wX ⟨rfl,aa⟩
    rw[aa,hp]
    clear aa wX
    go_wp2
    go_ret
    exact⟨by rw[H2.o];rfl,rfl⟩
   ·have H2:Y (R.span R.pathI s.data.toList=(k+1)+R.span R.pathI (s.data.toList.drop (k+1))):=by
     have:=HL.o;rw[R.span_step ab hp] at this;show _=_;omega
    clear HL
    go_wp2_with fail
    refine(k9 _ _).mono ?_
    rintro e wX ⟨rfl,aa⟩
    rw[aa,hp]
    clear aa wX
    go_wp2
    exact⟨⟨k+1,by omega,by go_num,H2⟩,by simp[intOf];omega⟩
  ·have H2:Y (R.span R.pathI s.data.toList=s.size):=by
    have:=HL.o;rw[R.span_end (k:=k) (by omega)] at this;show _=_;omega
   clear HL
   go_wp2
   go_ret
   exact⟨by rw[H2.o];rfl,rfl⟩
theorem zcB (s:ByteArray)(w:World)(hs:s.size<=maxLen) :
  Calls Tryz.prog 352 #[.string s,.func (.func 377) #[] #[]] w fun e w'=>e = .returned (.bool (R.allB R.pathI s.data.toList))/\w'=w:=by
 have HA:Y (R.allB R.pathI s.data.toList=((R.span R.pathI s.data.toList:Int) == s.size)):=by
  show R.allB R.pathI s.data.toList=_
  rw[<-R.size_eq,Bool.eq_iff_iff]
  simp only[beq_iff_eq]
  rw[Int.ofNat_inj]
  exact yX R.pathI s.data.toList
 go_enter Tryz.func352,Tryz.ntmps352
 go_wp2_with fail
 refine(zcD s _ hs).mono ?_
 rintro e wX ⟨rfl,aa⟩
 rw[aa]
 clear aa wX
 go_wp2
 go_ret
 exact⟨za (by rw[HA.o]),rfl⟩
theorem tW (s:ByteArray)(w:World)(hs:s.size<=maxLen) :
  Calls Tryz.prog 202 #[.string s,.func (.func 411) #[] #[]] w fun e w'=>e = .returned (.int .i64 (R.span R.valueI s.data.toList:Nat))/\w'=w:=by
 unfold maxLen at hs
 go_enter Tryz.func202,Tryz.ntmps202
 go_wp2_with fail
 go_loop [8] (fun v=>∃k:Nat,k<=s.size/\v = .int .i64 k/\Y (R.span R.valueI s.data.toList=k+R.span R.valueI (s.data.toList.drop k))) (fun v=>s.size - (intOf v).toNat)
 case atStart=>exact⟨0,zl _,rfl,by show _=_;simp⟩
 case round=>
  obtain⟨k,hk,rfl,HL⟩:=hrel
  by_cases ab:k<s.size
  ·cases hp:R.valueI s[k].toNat
   ·have H2:Y (R.span R.valueI s.data.toList=k):=by
     have:=HL.o;rw[R.span_stop ab hp] at this;exact this
    clear HL
    go_wp2_with fail
    refine(vW _ _).mono ?_
    rintro e wX ⟨rfl,aa⟩
    rw[aa,hp]
    clear aa wX
    go_wp2
    go_ret
    exact⟨by rw[H2.o];rfl,rfl⟩
   ·have H2:Y (R.span R.valueI s.data.toList=(k+1)+R.span R.valueI (s.data.toList.drop (k+1))):=by
     have:=HL.o;rw[R.span_step ab hp] at this;show _=_;omega
    clear HL
    go_wp2_with fail
    refine(vW _ _).mono ?_
    rintro e wX ⟨rfl,aa⟩
    rw[aa,hp]
    clear aa wX
    go_wp2
    exact⟨⟨k+1,by omega,by go_num,H2⟩,by simp[intOf];omega⟩
  ·have H2:Y (R.span R.valueI s.data.toList=s.size):=by
    have:=HL.o;rw[R.span_end (k:=k) (by omega)] at this;show _=_;omega
   clear HL
   go_wp2
   go_ret
   exact⟨by rw[H2.o];rfl,rfl⟩
theorem tO (s:ByteArray)(w:World)(hs:s.size<=maxLen) :
  Calls Tryz.prog 352 #[.string s,.func (.func 411) #[] #[]] w fun e w'=>e = .returned (.bool (R.allB R.valueI s.data.toList))/\w'=w:=by
 have HA:Y (R.allB R.valueI s.data.toList=((R.span R.valueI s.data.toList:Int) == s.size)):=by
  show R.allB R.valueI s.data.toList=_
  rw[<-R.size_eq,Bool.eq_iff_iff]
  simp only[beq_iff_eq]
  rw[Int.ofNat_inj]
  exact yX R.valueI s.data.toList
 go_enter Tryz.func352,Tryz.ntmps352
 go_wp2_with fail
 refine(tW s _ hs).mono ?_
 rintro e wX ⟨rfl,aa⟩
 rw[aa]
 clear aa wX
 go_wp2
 go_ret
 exact⟨za (by rw[HA.o]),rfl⟩
theorem uj (c:Int)(w:World) :
  Calls Tryz.prog 393 #[.int .u8 c] w fun e w'=>e = .returned (.bool (R.partI c true))/\w'=w:=by
 have HP:Y (R.partI c true=(R.smallI c || R.digitI c || c == 45 || (true && R.largeI c))):=rfl
 cases h1:R.smallI c <;> cases h2:R.largeI c <;> cases h3:R.digitI c
 all_goals
  rw[h1,h2,h3] at HP
  go_enter Tryz.func393,Tryz.ntmps393
  go_wp2_with (first
   | (go_at_call 260;refine(xw _ _).mono ?_;rintro e w' ⟨rfl,rfl⟩)
   | (go_at_call 309;refine(vy _ _).mono ?_;rintro e w' ⟨rfl,rfl⟩)
   | (go_at_call 261;refine(yF _ _).mono ?_;rintro e w' ⟨rfl,rfl⟩))
  go_ret
  exact⟨za (by rw[HP.o];simp),rfl⟩
theorem jk (c:Int)(w:World) :
  Calls Tryz.prog 412 #[.int .u8 c] w fun e w'=>e = .returned (.bool (R.upI c))/\w'=w:=by
 have HP:Y (R.upI c=(R.smallI c || R.digitI c || c == 45 || (false && R.largeI c) || decide (c=46\/c=58))):=rfl
 cases h1:R.smallI c <;> cases h3:R.digitI c
 all_goals
  rw[h1,h3] at HP
  go_enter Tryz.func412,Tryz.ntmps412
  go_wp2_with (first
   | (go_at_call 260;refine(xw _ _).mono ?_;rintro e w' ⟨rfl,rfl⟩)
   | (go_at_call 261;refine(yF _ _).mono ?_;rintro e w' ⟨rfl,rfl⟩))
  all_goals
   go_ret
   exact⟨za (by rw[HP.o,Bool.eq_iff_iff];simp;try omega),rfl⟩
structure R.St where
 K:Nat
 bad:Int
 E:Int
 at_:Int
def R.numStep (n:Int)(c:UInt8):Int:=wrap64 (wrap64 (10*n)+((c.toNat:Int) - 48) % 256)
def R.num (l:List UInt8):Int:=l.foldl R.numStep 0
structure R.Ok (ts:List R.Tok):Prop where
 goes:∀(k:Nat) (t:R.Tok),ts[k]?=some t->t.k≠0->t.k≠120->k+1<ts.length
 len:ts.length<=4000
 strs:∀(k:Nat) (t:R.Tok),ts[k]?=some t->t.s.length<=3000
 nums:∀(k:Nat) (t:R.Tok),ts[k]?=some t->t.k=49->0<=R.num t.s/\R.num t.s<=99999
structure RInv (w:World) (rb g cap:Nat) (ts:List R.Tok) (st:R.St) (H:Value):Prop where
 rd:w.heap[rb]?=some (.cells #[.slice (some ⟨g,0,none⟩) ts.length cap,.int .i64 st.K,.int .i64 st.bad,.int .i64 st.E,.int .i64 st.at_,H] 113 (0,0))
 tk:∃cur,w.heap[g]?=some (.cells cur 115 (0,0))/\cur.toList.take (ts.length*3)=R.tokCells ts
 ne:g≠rb
 lt:st.K<ts.length
 ok:R.Ok ts
theorem zA {a b c:World}{row:Option Nat}(h:a.grownBy b row)(k:b.grownBy c row):a.grownBy c row:=
 ⟨k.os.trans h.os,k.tape.trans h.tape,k.output.trans h.output,zp h.size k.size,fun i hi hn=>(k.block i (yU hi h.size) hn).trans (h.block i hi hn)⟩
theorem zk {a b:World}(h:a.grownBy b none)(row:Option Nat):a.grownBy b row:=
 ⟨h.os,h.tape,h.output,h.size,fun i hi _=>h.block i hi (by simp)⟩
theorem zM (w:World)(row:Option Nat):w.grownBy w row:=⟨rfl,rfl,rfl,zZ _,fun _ _ _=>rfl⟩
theorem xD {w w':World}(h:Below w.heap.size w w'):w.grownBy w' none:=⟨h.os,h.tape,h.output,h.size,fun k hk _=>h.block k hk⟩
theorem fN {w w':World}(h:w.grownBy w' none):Below w.heap.size w w':=⟨h.os,h.tape,h.output,h.size,fun k hk=>h.block k hk (by simp)⟩
theorem zE {w:World}{b:Nat}{o:Obj}(h:w.heap[b]?=some o):b<w.heap.size:=(Array.getElem?_eq_some_iff.1 h).1
theorem z8 {w:World}{b i:Nat}{cs:Array Value}{t:TypeId}{f:Nat×Nat}(h:w.heap[b]?=some (.cells cs t f)):w.cell? ⟨b,i,none⟩=cs[i]?:=
 cell_of_row w b i cs t f h
theorem zC {w:World}{b i:Nat}{cs:Array Value}{t:TypeId}(h:w.heap[b]?=some (.cells cs t (0,0))):w.frozen? ⟨b,i,none⟩=false:=by
 unfold World.frozen?
 simp[h]
theorem zrB {w:World}{b:Nat}{cs:Array Value}{t:TypeId}(i:Nat)(h:w.heap[b]?=some (.cells cs t (0,0))):w.frozen? ⟨b,i,none⟩=false:=zC h
theorem zqV {w:World}{b:Nat}{v0:Value}{t:TypeId}{f:Nat×Nat}(h:w.heap[b]?=some (.cells #[v0] t f)):w.cell? ⟨b,0,none⟩=some v0:=z8 h
theorem zqW {w:World}{b:Nat}{v0 v1:Value}{t:TypeId}{f:Nat×Nat}(h:w.heap[b]?=some (.cells #[v0,v1] t f)):w.cell? ⟨b,0,none⟩=some v0:=z8 h
theorem zqX {w:World}{b:Nat}{v0 v1:Value}{t:TypeId}{f:Nat×Nat}(h:w.heap[b]?=some (.cells #[v0,v1] t f)):w.cell? ⟨b,1,none⟩=some v1:=z8 h
theorem zqY {w:World}{b:Nat}{v0 v1 v2:Value}{t:TypeId}{f:Nat×Nat}(h:w.heap[b]?=some (.cells #[v0,v1,v2] t f)):w.cell? ⟨b,0,none⟩=some v0:=z8 h
theorem zqZ {w:World}{b:Nat}{v0 v1 v2:Value}{t:TypeId}{f:Nat×Nat}(h:w.heap[b]?=some (.cells #[v0,v1,v2] t f)):w.cell? ⟨b,1,none⟩=some v1:=z8 h
theorem zr0 {w:World}{b:Nat}{v0 v1 v2:Value}{t:TypeId}{f:Nat×Nat}(h:w.heap[b]?=some (.cells #[v0,v1,v2] t f)):w.cell? ⟨b,2,none⟩=some v2:=z8 h
theorem zr1 {w:World}{b:Nat}{v0 v1 v2 v3 v4 v5:Value}{t:TypeId}{f:Nat×Nat}(h:w.heap[b]?=some (.cells #[v0,v1,v2,v3,v4,v5] t f)):w.cell? ⟨b,0,none⟩=some v0:=z8 h
theorem zr2 {w:World}{b:Nat}{v0 v1 v2 v3 v4 v5:Value}{t:TypeId}{f:Nat×Nat}(h:w.heap[b]?=some (.cells #[v0,v1,v2,v3,v4,v5] t f)):w.cell? ⟨b,1,none⟩=some v1:=z8 h
theorem zr3 {w:World}{b:Nat}{v0 v1 v2 v3 v4 v5:Value}{t:TypeId}{f:Nat×Nat}(h:w.heap[b]?=some (.cells #[v0,v1,v2,v3,v4,v5] t f)):w.cell? ⟨b,5,none⟩=some v5:=z8 h
theorem zr4 {w:World}{b:Nat}{v0 v1 v2 v3 v4 v5 v6:Value}{t:TypeId}{f:Nat×Nat}(h:w.heap[b]?=some (.cells #[v0,v1,v2,v3,v4,v5,v6] t f)):w.cell? ⟨b,0,none⟩=some v0:=z8 h
theorem zr5 {w:World}{b:Nat}{v0 v1 v2 v3 v4 v5 v6:Value}{t:TypeId}{f:Nat×Nat}(h:w.heap[b]?=some (.cells #[v0,v1,v2,v3,v4,v5,v6] t f)):w.cell? ⟨b,1,none⟩=some v1:=z8 h
theorem zr6 {w:World}{b:Nat}{v0 v1 v2 v3 v4 v5 v6:Value}{t:TypeId}{f:Nat×Nat}(h:w.heap[b]?=some (.cells #[v0,v1,v2,v3,v4,v5,v6] t f)):w.cell? ⟨b,2,none⟩=some v2:=z8 h
theorem zr7 {w:World}{b:Nat}{v0 v1 v2 v3 v4 v5 v6:Value}{t:TypeId}{f:Nat×Nat}(h:w.heap[b]?=some (.cells #[v0,v1,v2,v3,v4,v5,v6] t f)):w.cell? ⟨b,3,none⟩=some v3:=z8 h
theorem zr8 {w:World}{b:Nat}{v0 v1 v2 v3 v4 v5 v6:Value}{t:TypeId}{f:Nat×Nat}(h:w.heap[b]?=some (.cells #[v0,v1,v2,v3,v4,v5,v6] t f)):w.cell? ⟨b,4,none⟩=some v4:=z8 h
theorem zr9 {w:World}{b:Nat}{v0 v1 v2 v3 v4 v5 v6:Value}{t:TypeId}{f:Nat×Nat}(h:w.heap[b]?=some (.cells #[v0,v1,v2,v3,v4,v5,v6] t f)):w.cell? ⟨b,5,none⟩=some v5:=z8 h
theorem zrA {w:World}{b:Nat}{v0 v1 v2 v3 v4 v5 v6:Value}{t:TypeId}{f:Nat×Nat}(h:w.heap[b]?=some (.cells #[v0,v1,v2,v3,v4,v5,v6] t f)):w.cell? ⟨b,6,none⟩=some v6:=z8 h
def R.isB (st:R.St)(t:R.Tok)(s:List UInt8):Bool:=decide (st.bad<0) && ((t.k == 119 || t.k == 115) && decide (t.s=s))
def R.overS (t:R.Tok)(st:R.St)(ok:Bool):R.St:=
 if 0<=st.bad then st else if ok then { st with K:=st.K+1 } else { st with bad:=t.at_ }
def R.notS (st:R.St)(ok:Bool)(e a:Int):R.St:=
 if ok=false/\st.E=0/\st.bad<0 then { st with E:=e,at_:=a } else st
theorem zF {w:World}{b i:Nat}{cs:Array Value}{t:TypeId}{f:Nat×Nat}(h:w.heap[b]?=some (.cells cs t f))(v:Value):(w.setCell ⟨b,i,none⟩ v).heap[b]?=some (.cells (cs.setIfInBounds i v) t f):=by
 simp only[World.setCell,Array.getElem?_modify,if_pos,h]
 simp
theorem zD (w:World)(b i:Nat)(v:Value):w.grownBy (w.setCell ⟨b,i,none⟩ v) (some b):=by
 refine⟨rfl,rfl,rfl,by simp[World.setCell],fun k hk hn=>?_⟩
 exact Below.heap_setCell _ _ _ _ (fun e=>hn (by rw[e]))
theorem xc {w w':World}{o:Obj}{row:Option Nat}(h:(w.alloc o).grownBy w' row)(hr:some w.heap.size≠row):w'.heap[w.heap.size]?=some o:=by
 rw[h.block w.heap.size (by simp) hr];exact heap_alloc_new w o
theorem zB {w w':World}{o:Obj}{b:Nat}{row:Option Nat}(h:w.heap[b]?=some o)(hg:w.grownBy w' row)(hr:some b≠row):w'.heap[b]?=some o:=by
 rw[hg.block b (zE h) hr];exact h
theorem zY {a b c:World}{row:Option Nat}{k:Nat}(h:a.grownBy b row)(hk:b.grownBy c (some k))(hn:a.heap.size<=k):a.grownBy c row:=
 ⟨hk.os.trans h.os,hk.tape.trans h.tape,hk.output.trans h.output,zp h.size hk.size,fun i hi hr=>(hk.block i (yU hi h.size) (by simp;omega)).trans (h.block i hi hr)⟩
theorem zQ (w:World):w.grownBy w.drew none:=⟨rfl,rfl,rfl,zZ _,fun _ _ _=>rfl⟩
def R.cur (ts:List R.Tok)(st:R.St):R.Tok:=ts.getD st.K ⟨0,[],0⟩
def R.needS (ts:List R.Tok)(st:R.St)(s:List UInt8):R.St:=R.overS (R.cur ts st) st (R.isB st (R.cur ts st) s)
def R.kindS (ts:List R.Tok)(st:R.St)(k:Int):R.St:=R.overS (R.cur ts st) st ((R.cur ts st).k == k)
def R.pathS (ts:List R.Tok)(st:R.St):List UInt8×R.St:=
 ((R.cur ts st).s,R.notS (R.kindS ts st 34) (R.path (R.cur ts st).s) 4 (R.cur ts st).at_)
def R.valueS (ts:List R.Tok)(st:R.St):List UInt8×R.St:=
 ((R.cur ts (R.needS ts st [61])).s,R.notS (R.kindS ts (R.needS ts st [61]) 34) (R.value (R.cur ts (R.needS ts st [61])).s) 4 (R.cur ts (R.needS ts st [61])).at_)
def R.among (l:List (List UInt8))(s:List UInt8)(p:Int)(st:R.St):R.St:=l.foldl (fun st a=>R.notS st (decide (a≠s)) 5 p) st
def R.headerS (ts:List R.Tok)(st:R.St)(l:List (List UInt8)):List UInt8×R.St:=
 (R.lower (R.cur ts st).s,R.among l (R.lower (R.cur ts st).s) (R.cur ts st).at_ (R.notS (R.kindS ts st 34) (R.header (R.cur ts st).s true) 4 (R.cur ts st).at_))
def zh (l:List (List UInt8)):List Value:=l.map fun s=>.string (R.str s)
end Go.Proofs.YtfocdefchbnkpaaGreatDoor
