import Derived.Test.YtfocdefchbnkpaaGreatDoorAli
import Derived.Test.YtfocdefchbnkpaaGreatDoorProg
import Derived.WalkSpells
import Derived.BigQuiet
import Derived.Shelf.Small.Strs
import Derived.Shelf.Strings.Cut
import Derived.Shelf.Strconv.Atoi
import Derived.Shelf.Strings.Prefix
import Derived.Shelf.Strings.Trim
import Derived.Shelf.Strings.Split
set_option maxRecDepth 100000
set_option maxHeartbeats 20000000
open Go renaming World->Ag,Calls->Am,maxLen->Bh,Value->Aj,TypeId->Cs,wpList_append_own->Cu,bodyPost_ret->Et
open Go.ByteArray renaming toList_eq->El
open Go.Ending renaming returned->Af
open Go.IntKind renaming u8->Bp,i64->Ai
open Go.Lib renaming indexByte->Mf,countB->Oe,index->Es,cut->Ca,contains->Sx
open Go.Obj renaming cells->Ae
open Go.RowKit renaming Below->Ms
open Go.RowKit.Below renaming refl->Vw
open Go.Shelf renaming Ren->Ij
open Go.Value renaming string->I,bool->Av,int->O,slice->X,tuple->Cm,agg->Fe,pointer->Al
open Go.World renaming cell?_alloc_new->Xm,setCell->Bs,grownBy_alloc->Ac
open List renaming length->Z
open Option renaming some->V,none->S
open Or renaming inl->Ay,inr->Bf
open UInt8 renaming ofNat->Cb
open _root_ renaming List->A,UInt8->Ab,ByteArray->As,Int->Ak,Bool->Ee,Nat->Ad,Option->Br
namespace Go.Proofs.YtfocdefchbnkpaaGreatDoor
namespace R
def str (l:A Ab):As:=⟨l.toArray⟩
theorem str_toList (l:A Ab):(str l).data.toList=l:=by simp[str]
theorem str_of (s:As):str s.data.toList=s:=by cases s;simp[str]
theorem str_size (l:A Ab):(str l).size=Z l:=rfl
theorem size_eq (s:As):Z s.data.toList=s.size:=by rw[Array.length_toList];rfl
def smallI (c:Ak):Ee:=decide (97<=c) && decide (c<=122)
def digitI (c:Ak):Ee:=decide (48<=c) && decide (c<=57)
def largeI (c:Ak):Ee:=decide (65<=c) && decide (c<=90)
def partI (c:Ak)(large:Ee):Ee:=smallI c || digitI c || c == 45 || (large && largeI c)
def pathI (c:Ak):Ee:=decide (33<=c/\c<=126/\c≠63/\c≠35/\c≠34)
def valueI (c:Ak):Ee:=decide (32<=c/\c<=126/\c≠34)
def upI (c:Ak):Ee:=partI c false || decide (c=46\/c=58)
def allB (p:Ak->Ee)(l:A Ab):Ee:=l.all fun c=>p c.toNat
theorem drop_cons (s:As)(k:Ad)(h:k<s.size):s.data.toList.drop k=s[k]::s.data.toList.drop (k+1):=by
 rw[Ed (by rw[size_eq];exact h)];rfl
theorem take_snoc (s:As)(k:Ad)(h:k<s.size):s.data.toList.take (k+1)=s.data.toList.take k++[s[k]]:=by
 rw[Co (by rw[size_eq];exact h)];rfl
variable {p:Ak->Ee}{s:As}{k:Ad}
theorem all_succ (h:k<s.size)(b:allB p (s.data.toList.take k)=true)(a:p s[k].toNat=true):allB p (s.data.toList.take (k+1))=true:=by grind[take_snoc,allB]
theorem all_false (h:k<s.size)(a:p s[k].toNat=false):allB p s.data.toList=false:=by
 have e:s.data.toList=s.data.toList.take k++s.data.toList.drop k:=(He k _).symm;rw[e,drop_cons s k h];unfold allB;rw[List.all_append];simp[a]
theorem all_done (h:s.size<=k)(a:allB p (s.data.toList.take k)=true):allB p s.data.toList=true:=by grind[List.take_of_length_le,size_eq,allB]
def labelsGo (lg:Ee):A Ab->Ad->Ee
 |[],n=>decide (0<n)
 |c::cs,n=>if (c.toNat:Ak)=46/\0<n then labelsGo lg cs 0 else if partI c.toNat lg then labelsGo lg cs (n+1) else false
def labels (l:A Ab)(lg:Ee):Ee:=labelsGo lg l 0
def named (l:A Ab)(lg:Ee):Ee:=if l=[42] then true else if l.take 2=[42,46]/\2<Z l then labels (l.drop 2) lg else labels l lg
def path (l:A Ab):Ee:=allB pathI l && (decide (0<Z l) && decide (l.head?=V 47))
def word (l:A Ab)(lg:Ee):Ee:=allB (fun c=>partI c lg) l && decide (0<Z l)
def lowC (c:Ab):Ab:=if largeI c.toNat then c+32 else c
def lower (l:A Ab):A Ab:=l.map lowC
def host:A Ab:=[104,111,115,116]
def contentLength:A Ab:=[99,111,110,116,101,110,116,45,108,101,110,103,116,104]
def transferEncoding:A Ab:=[116,114,97,110,115,102,101,114,45,101,110,99,111,100,105,110,103]
def header (l:A Ab)(lg:Ee):Ee:=word l lg && (decide (lower l≠host) && (decide (lower l≠contentLength) && decide (lower l≠transferEncoding)))
def value (l:A Ab):Ee:=allB valueI l && (decide (Z l=0) || (decide (l.head?≠V 32) && decide (l.getLast?≠V 32)))
def upstream (l:A Ab):Ee:=allB upI l && decide (0<Z l)
end R
end Go.Proofs.YtfocdefchbnkpaaGreatDoor
namespace Go.Proofs.YtfocdefchbnkpaaGreatDoor
open Go.RowKit Tryz
theorem zX {a b:Ee}(h:a=b:=by first|rfl|simp):Af (Av a)=Af (Av b):=by rw[h]
theorem tG (c:Ak)(w:Ag):Am prog 128 #[O Bp c] w fun e w'=>e=Af (Av (R.smallI c))/\w'=w:=by
 by_cases h:97<=c
 all_goals
  go_in;go_wp2;go_ret;exact⟨zX (by unfold R.smallI;rw[Eb];simp;try omega),rfl⟩
theorem uW (c:Ak)(w:Ag):Am prog 129 #[O Bp c] w fun e w'=>e=Af (Av (R.digitI c))/\w'=w:=by
 by_cases h:48<=c
 all_goals
  go_in;go_wp2;go_ret;exact⟨zX (by unfold R.digitI;rw[Eb];simp;try omega),rfl⟩
theorem kY (c:Ak)(a:Ee)(w:Ag):Am prog 188 #[O Bp c,Av a] w fun e w'=>e=Af (Av (R.partI c a))/\w'=w:=by
 cases a
 all_goals
  go_in;go_wp2
  all_goals
   go_ret;refine⟨zX ?_,rfl⟩;unfold R.partI R.smallI R.digitI R.largeI;rw[Eb];simp
   try omega
theorem uq (s:As)(a:Ee)(w:Ag)(p:s.size<=Bh):Am prog 131 #[I s,Av a] w fun e w'=>e=Af (Av (R.labels s.data.toList a))/\w'=w:=by
 unfold Bh at p;go_in;go_wp2
 go_loop [5,6] (fun n i=>∃k m:Ad,k<=s.size/\m<=k/\i=O Ai k/\n=O Ai m/\Y (R.labelsGo a (s.data.toList.drop k) m=R.labels s.data.toList a)) (fun _ i=>s.size-(intOf i).toNat)
 ·exact⟨0,0,Ax _,Ax _,rfl,rfl,rfl⟩
 ·
  obtain⟨k,m,r,t,rfl,rfl,g⟩:=hrel
  by_cases j:k<s.size
  ·have c:Y ((if (s[k].toNat:Ak)=46/\0<m then R.labelsGo a (s.data.toList.drop (k+1)) 0 else if R.partI s[k].toNat a then R.labelsGo a (s.data.toList.drop (k+1)) (m+1) else false)=R.labels s.data.toList a):=by
    have:=g.o;rw[R.drop_cons s k j,R.labelsGo] at this;exact this
   generalize q:s[k]=b at*
   by_cases d:(b.toNat:Ak)=46/\0<m
   ·obtain⟨h,o⟩:=d
    have f:Y (R.labelsGo a (s.data.toList.drop (k+1)) 0=R.labels s.data.toList a):=by have:=c.o;rwa[Az ⟨h,o⟩] at this
    have l:((b.toNat:Ak) == 46)=true:=by simp[h]
    go_wp2_with (go_at_call 188;refine(kY _ _ _).mono ?_;rintro e w' ⟨rfl,rfl⟩);exact⟨⟨k+1,0,by omega,by omega,by go_num,by go_num,f⟩,by simp[intOf];omega⟩
   ·cases hp:R.partI b.toNat a
    ·have f:Y (false=R.labels s.data.toList a):=by have:=c.o;rwa[Aw d,hp,Aw (by simp)] at this
     go_wp2_with (go_at_call 188;refine(kY _ _ _).mono ?_;rintro e w' ⟨rfl,rfl⟩)
     all_goals
      go_ret;exact⟨zX f,rfl⟩
    ·have f:Y (R.labelsGo a (s.data.toList.drop (k+1)) (m+1)=R.labels s.data.toList a):=by have:=c.o;rwa[Aw d,hp,Az rfl] at this
     go_wp2_with (go_at_call 188;refine(kY _ _ _).mono ?_;rintro e w' ⟨rfl,rfl⟩)
     all_goals exact⟨⟨k+1,m+1,by omega,by omega,by go_num,by go_num,f⟩,by simp[intOf];omega⟩
  ·go_wp2
   go_ret;exact⟨zX (by rw[<-g.o,Ga (by rw[R.size_eq];omega)];rfl),rfl⟩
theorem oR (s:As)(a:Ee)(w:Ag)(h:s.size<=Bh):Am prog 313 #[I s,Av a] w fun e w'=>e=Af (Av (R.word s.data.toList a))/\w'=w:=by
 unfold Bh at h;go_in;go_wp2
 go_loop [5] (fun i=>∃k:Ad,k<=s.size/\i=O Ai k/\Y (R.allB (fun c=>R.partI c a) (s.data.toList.take k)=true)) (fun i=>s.size-(intOf i).toNat)
 ·exact⟨0,Ax _,rfl,rfl⟩
 ·
  obtain⟨k,j,rfl,f⟩:=hrel
  by_cases d:k<s.size
  ·cases hp:R.partI s[k].toNat a
   ·have b:Y (R.word s.data.toList a=false):=by
     show R.word s.data.toList a=false;unfold R.word;rw[R.all_false (p:=fun c=>R.partI c a) d hp];rfl
    go_wp2_with (go_at_call 188;refine(kY _ _ _).mono ?_;rintro e w' ⟨rfl,rfl⟩);go_ret;exact⟨zX b.o.symm,rfl⟩
   ·have b:=R.all_succ (p:=fun c=>R.partI c a) d f.o hp
    have g:=J (b);go_wp2_with (go_at_call 188;refine(kY _ _ _).mono ?_;rintro e w' ⟨rfl,rfl⟩);exact⟨⟨k+1,by omega,by go_num,g⟩,by simp[intOf];omega⟩
  ·have b:Y (R.word s.data.toList a=decide (0<s.size)):=by
    show R.word s.data.toList a=_;unfold R.word;rw[R.all_done (by omega) f.o,R.size_eq];rfl
   go_wp2;go_ret;exact⟨zX (by rw[b.o]),rfl⟩
theorem cp (s:As)(w:Ag)(m:s.size<=Bh):Am prog 193 #[I s] w fun e w'=>e=Af (Av (R.upstream s.data.toList))/\w'=w:=by
 unfold Bh at m;go_in;go_wp2
 go_loop [3] (fun i=>∃k:Ad,k<=s.size/\i=O Ai k/\Y (R.allB R.upI (s.data.toList.take k)=true)) (fun i=>s.size-(intOf i).toNat)
 ·exact⟨0,Ax _,rfl,rfl⟩
 ·
  obtain⟨k,q,rfl,f⟩:=hrel
  by_cases a:k<s.size
  ·have l:Y (R.upI s[k].toNat=false->R.upstream s.data.toList=false):=by
    intro h;unfold R.upstream;rw[R.all_false a h];rfl
   have j:Y (R.upI s[k].toNat=true->R.allB R.upI (s.data.toList.take (k+1))=true):=fun h=>R.all_succ a f.o h
   generalize p:s[k]=b at*
   cases hp:R.partI b.toNat false
   ·by_cases g:(b.toNat:Ak)=46\/(b.toNat:Ak)=58
    ·have d:Y (R.allB R.upI (s.data.toList.take (k+1))=true):=j.o (by unfold R.upI;rw[hp];simp;omega)
     go_wp2_with (go_at_call 188;refine(kY _ _ _).mono ?_;rintro e w' ⟨rfl,rfl⟩)
     all_goals first|exact⟨⟨k+1,by omega,by go_num,d⟩,by simp[intOf];omega⟩|(exfalso;simp_all;done)|(exfalso;omega)
    ·have c:Y (R.upstream s.data.toList=false):=l.o (by unfold R.upI;rw[hp];simp;omega)
     have n:((b.toNat:Ak) != 46)=true:=by rw[Qv];exact fun h=>g (Ay h)
     have o:((b.toNat:Ak) != 58)=true:=by rw[Qv];exact fun h=>g (Bf h)
     go_wp2_with (go_at_call 188;refine(kY _ _ _).mono ?_;rintro e w' ⟨rfl,rfl⟩);go_ret;exact⟨zX c.o.symm,rfl⟩
   ·have d:Y (R.allB R.upI (s.data.toList.take (k+1))=true):=j.o (by unfold R.upI;rw[hp];rfl)
    go_wp2_with (go_at_call 188;refine(kY _ _ _).mono ?_;rintro e w' ⟨rfl,rfl⟩);exact⟨⟨k+1,by omega,by go_num,d⟩,by simp[intOf];omega⟩
  ·have c:Y (R.upstream s.data.toList=decide (0<s.size)):=by
    show R.upstream s.data.toList=_;unfold R.upstream;rw[R.all_done (by omega) f.o,R.size_eq];rfl
   go_wp2;go_ret;exact⟨zX (by rw[c.o]),rfl⟩
theorem zcV (s:As)(h:0<s.size):s.data.toList.head?=V s[0]:=by
 have:=R.drop_cons s 0 h
 grind[R.drop_cons]
theorem zkE (s:As)(h:0<s.size):s.data.toList.getLast?=V s[s.size-1]:=by
 rw[Vl,R.size_eq,Bd (by rw[R.size_eq];omega)];rfl
theorem zjD (c:Ab)(n:Ab):decide (V c=V n)=((c.toNat:Ak) == n.toNat):=by
 rw[Eb];simp;exact⟨fun h=>by rw[h],fun h=>Hb.1 (by omega)⟩
theorem nc (s:As)(w:Ag)(n:s.size<=Bh):Am prog 189 #[I s] w fun e w'=>e=Af (Av (R.path s.data.toList))/\w'=w:=by
 unfold Bh at n;go_in;go_wp2
 go_loop [3] (fun i=>∃k:Ad,k<=s.size/\i=O Ai k/\Y (R.allB R.pathI (s.data.toList.take k)=true)) (fun i=>s.size-(intOf i).toNat)
 ·exact⟨0,Ax _,rfl,rfl⟩
 ·
  obtain⟨k,x,rfl,g⟩:=hrel
  by_cases c:k<s.size
  ·have j:Y (R.pathI s[k].toNat=false->R.path s.data.toList=false):=by
    intro h;unfold R.path;rw[R.all_false c h];rfl
   have l:Y (R.pathI s[k].toNat=true->R.allB R.pathI (s.data.toList.take (k+1))=true):=fun h=>R.all_succ c g.o h
   generalize v:s[k]=b at*
   by_cases d:33<=(b.toNat:Ak)/\(b.toNat:Ak)<=126/\(b.toNat:Ak)≠63/\(b.toNat:Ak)≠35/\(b.toNat:Ak)≠34
   ·have a:Y (R.allB R.pathI (s.data.toList.take (k+1))=true):=l.o (by unfold R.pathI;exact Cf d)
    obtain⟨y,z,o,p,q⟩:=d;have r:((b.toNat:Ak) == 63)=false:=by simp;omega
    have t:((b.toNat:Ak) == 35)=false:=by simp;omega
    have u:((b.toNat:Ak) == 34)=false:=by simp;omega
    go_wp2;exact⟨⟨k+1,by omega,by go_num,a⟩,by simp[intOf];omega⟩
   ·have f:Y (R.path s.data.toList=false):=j.o (by unfold R.pathI;exact Ce d)
    go_wp2
    all_goals first|(go_ret;exact⟨zX f.o.symm,rfl⟩)|(exfalso;apply d;simp_all;omega)|(exfalso;apply d;simp_all;done)
  ·have f:Y (R.path s.data.toList=(decide (0<s.size) && decide (s.data.toList.head?=V 47))):=by
    show R.path s.data.toList=_;unfold R.path;rw[R.all_done (by omega) g.o,R.size_eq];rfl
   by_cases m:0<s.size
   ·have a:Y (R.path s.data.toList=((s[0].toNat:Ak) == 47)):=by
     have:=f.o;rw[zcV s m,zjD,Cf m] at this;exact this
    go_wp2;go_ret;exact⟨zX (by rw[a.o]),rfl⟩
   ·have a:Y (R.path s.data.toList=false):=by
     have:=f.o;rw[Ce m] at this;exact this
    go_wp2;go_ret;exact⟨zX (by rw[a.o]),rfl⟩
theorem dj (s:As)(w:Ag)(n:s.size<=Bh):Am prog 249 #[I s] w fun e w'=>e=Af (Av (R.value s.data.toList))/\w'=w:=by
 unfold Bh at n;go_in;go_wp2
 go_loop [3] (fun i=>∃k:Ad,k<=s.size/\i=O Ai k/\Y (R.allB R.valueI (s.data.toList.take k)=true)) (fun i=>s.size-(intOf i).toNat)
 ·exact⟨0,Ax _,rfl,rfl⟩
 ·
  obtain⟨k,t,rfl,g⟩:=hrel
  by_cases c:k<s.size
  ·have j:Y (R.valueI s[k].toNat=false->R.value s.data.toList=false):=by
    intro h;unfold R.value;rw[R.all_false c h];rfl
   have l:Y (R.valueI s[k].toNat=true->R.allB R.valueI (s.data.toList.take (k+1))=true):=fun h=>R.all_succ c g.o h
   generalize r:s[k]=b at*
   by_cases d:32<=(b.toNat:Ak)/\(b.toNat:Ak)<=126/\(b.toNat:Ak)≠34
   ·have a:Y (R.allB R.valueI (s.data.toList.take (k+1))=true):=l.o (by unfold R.valueI;exact Cf d)
    obtain⟨u,v,p⟩:=d;have q:((b.toNat:Ak) == 34)=false:=by simp;omega
    go_wp2;exact⟨⟨k+1,by omega,by go_num,a⟩,by simp[intOf];omega⟩
   ·have f:Y (R.value s.data.toList=false):=j.o (by unfold R.valueI;exact Ce d)
    go_wp2
    all_goals first|(go_ret;exact⟨zX f.o.symm,rfl⟩)|(exfalso;apply d;simp_all;omega)|(exfalso;apply d;simp_all;done)
  ·have f:Y (R.value s.data.toList=(decide (s.size=0) || (decide (s.data.toList.head?≠V 32) && decide (s.data.toList.getLast?≠V 32)))):=by
    show R.value s.data.toList=_;unfold R.value;rw[R.all_done (by omega) g.o,R.size_eq];rfl
   by_cases m:0<s.size
   ·have a:Y (R.value s.data.toList=(((s[0].toNat:Ak) != 32) && ((s[s.size-1].toNat:Ak) != 32))):=by
     have:=f.o;rw[zcV s m,zkE s m,Qu,Qu,zjD,zjD,Ce (show ¬s.size=0 by omega)] at this;exact this
    have o:((s.size:Ak) == 0)=false:=by rw[Ch];omega
    cases h1:((s[0].toNat:Ak) != 32)
    all_goals
     go_wp2;go_ret;exact⟨zX (by rw[a.o,h1];try rfl),rfl⟩
   ·have a:Y (R.value s.data.toList=true):=by
     have:=f.o;rw[Cf (show s.size=0 by omega)] at this;exact this
    have o:((s.size:Ak) == 0)=true:=by rw[Hw];omega
    go_wp2;go_ret;exact⟨zX (by rw[a.o]),rfl⟩
theorem toL (s:As)(l:A Ab):(s.toList == l)=decide (s.data.toList=l):=by
 rw[El,Eb];simp
theorem wQ (s:As)(a b:Ad):(s.extract a b).data.toList=(s.data.toList.drop a).take (b-a):=Lib.extract_data s a b
theorem bW (s:As)(a:Ad):(s.extract a s.size).data.toList=s.data.toList.drop a:=by grind[wQ,List.take_of_length_le,List.length_drop,R.size_eq]
theorem iW (s:As)(b:Ad):(s.extract 0 b).data.toList=s.data.toList.take b:=by
 rw[wQ];simp
theorem sO (s:As)(a:Ee)(w:Ag)(j:s.size<=Bh):Am prog 87 #[I s,Av a] w fun e w'=>e=Af (Av (R.named s.data.toList a))/\w'=w:=by
 have d:=j;unfold Bh at j
 by_cases b:s.data.toList=[42]
 ·have H:Y (R.named s.data.toList a=true):=by show R.named s.data.toList a=true;unfold R.named;rw[Az b]
  have k:(s.toList == [42])=true:=by rw[toL];exact Cf b
  clear b;go_in;go_wp2;go_ret;exact⟨zX H.o.symm,rfl⟩
 ·have k:(s.toList == [42])=false:=by rw[toL];exact Ce b
  by_cases c:s.data.toList.take 2=[42,46]/\2<Z s.data.toList
  ·have H:Y (R.named s.data.toList a=R.labels (s.data.toList.drop 2) a):=by show R.named s.data.toList a=_;unfold R.named;rw[Aw b,Az c]
   have f:((s.extract 0 2).toList == [42,46])=true:=by rw[toL,iW];exact Cf c.1
   have i:2<(s.size:Ak):=by have:=c.2;rw[R.size_eq] at this;omega
   clear b c;go_in;have g:(s.extract 2 s.size).size<=Bh:=by rw[<-R.size_eq,bW,Cy,R.size_eq];omega
   go_wp2_with (go_at_call 131;refine(uq _ _ _ g).mono ?_;rintro e w' ⟨rfl,rfl⟩);go_ret;exact⟨zX (by rw[H.o,Cc (by rw[Cy,R.size_eq];omega)]),rfl⟩
  ·have H:Y (R.named s.data.toList a=R.labels s.data.toList a):=by show R.named s.data.toList a=_;unfold R.named;rw[Aw b,Aw c]
   have f:¬(((s.extract 0 2).toList == [42,46])=true/\2<(s.size:Ak)):=by
    rw[toL,iW,decide_eq_true_iff];intro h;exact c ⟨h.1,by rw[R.size_eq];omega⟩
   clear b c
   by_cases i:2<(s.size:Ak)
   ·have l:((s.extract 0 2).toList == [42,46])=false:=by rw[Sq];exact fun h=>f ⟨h,i⟩
    clear f;go_in;go_wp2_with (go_at_call 131;refine(uq _ _ _ d).mono ?_;rintro e w' ⟨rfl,rfl⟩);go_ret;exact⟨zX H.o.symm,rfl⟩
   ·clear f
    go_in;go_wp2_with (go_at_call 131;refine(uq _ _ _ d).mono ?_;rintro e w' ⟨rfl,rfl⟩);go_ret;exact⟨zX H.o.symm,rfl⟩
theorem yt {a b:As}(h:a.data.toList=b.data.toList):a=b:=by
 rw[<-R.str_of a,<-R.str_of b,h]
theorem qC (a b:As):(a++b).data.toList=a.data.toList++b.data.toList:=by simp_all
theorem tI {a b:As}(h:a=b):Af (I a)=Af (I b):=by rw[h]
theorem zfZ (s:As)(w:Ag)(a:s.size<=100000):Am prog 54 #[I s] w fun e w'=>e=Af (I (R.str (34::s.data.toList++[34])))/\w'=w:=by
 go_in;go_wp2;go_ret;exact⟨tI (by apply yt;rw[R.str_toList,qC,qC];rfl),rfl⟩
theorem zh4 (w:Ag)(n:Ak) :
  (convert 32 9 (X (V ⟨w.heap.size,0,S⟩) 1 1)).run prog (w.alloc (Ae #[O Bp n] 5)) = .ok (I ⟨#[Cb n.toNat]⟩) (w.alloc (Ae #[O Bp n] 5)):=by
 have h:=run_convert_bytes_arg (P:=prog) (w.alloc (Ae #[O Bp n] 5)) 32 5 underlying32 underlying5 w.heap.size 0 1 1 [n] rfl (fun i hi=>by
  have:i=0:=by omega
  subst this;rw[Xm];rfl)
 have a:=h 9 underlying9;rw[a];rfl
theorem uV (s:As)(w:Ag)(x:s.size<=100000):Am prog 88 #[I s] w fun e w'=>e=Af (I (R.str (R.lower s.data.toList)))/\Ms w.heap.size w w':=by
 go_in;go_wp2
 go_loopw [3,4] (fun o i w'=>∃k:Ad,k<=s.size/\i=O Ai k/\o=I (R.str (R.lower (s.data.toList.take k)))/\Ms w.heap.size w w') (fun _ i _=>s.size-(intOf i).toNat)
 ·exact⟨0,Ax _,rfl,rfl,Vw _ _⟩
 ·
  obtain⟨k,u,rfl,rfl,c⟩:=hrel
  by_cases h:k<s.size
  ·have v:(R.str (R.lower (s.data.toList.take k))).size<=100000:=by rw[R.str_size];unfold R.lower;rw[Bv,Cq];omega
   have m:Y (R.lower (s.data.toList.take (k+1))=R.lower (s.data.toList.take k)++[R.lowC s[k]]):=by
    show R.lower _=_;rw[R.take_snoc s k h];unfold R.lower;rw[Ef];rfl
   generalize j:R.str (R.lower (s.data.toList.take k))=o at*;have l:=J (j);have q:=zh4 wr;generalize p:s[k]=b at*;have a:∀n:Ak,Cb n.toNat=R.lowC b->I (o++⟨#[Cb n.toNat]⟩)=I (R.str (R.lower (s.data.toList.take (k+1)))):=by
    intro n r;rw[m.o];congr 1;apply yt;rw[qC,<-l.o,R.str_toList,R.str_toList,r]
   by_cases g:65<=(b.toNat:Ak)/\(b.toNat:Ak)<=90
   ·have d:=a (b.toNat+32) (by unfold R.lowC R.largeI;rw[Cf g.1,Cf g.2];simp;apply Hb.1;simp;omega)
    have f:=J d;obtain⟨t,y⟩:=g;go_wp2;exact⟨⟨k+1,by omega,by go_num,f,c.alloc c.size _⟩,by simp[intOf];omega⟩
   ·have d:=a b.toNat (by unfold R.lowC R.largeI;rw[<-Bool.decide_and,Ce g];simp)
    have f:Y (I (o++⟨#[b]⟩)=I (R.str (R.lower (s.data.toList.take (k+1))))):=by
     rw[Xe,UInt8.ofNat_toNat] at d;exact d
    by_cases t:65<=(b.toNat:Ak)
    ·go_wp2
     exact⟨⟨k+1,by omega,by go_num,f,c.alloc c.size _⟩,by simp[intOf];omega⟩
    ·go_wp2
     exact⟨⟨k+1,by omega,by go_num,f,c.alloc c.size _⟩,by simp[intOf];omega⟩
  ·go_wp2
   go_ret;exact⟨tI (by rw[Cc (by rw[R.size_eq];omega)]),c⟩
theorem kx (l:A Ab):Z (R.lower l)=Z l:=Bv _
theorem toLs (l m:A Ab):((R.str l).toList == m)=decide (l=m):=by rw[toL,R.str_toList]
theorem tz (s:As)(a:Ee)(w:Ag)(i:s.size<=100000):Am prog 248 #[I s,Av a] w fun e w'=>e=Af (Av (R.header s.data.toList a))/\Ms w.heap.size w w':=by
 have b:s.size<=Bh:=by unfold Bh;omega
 have c:Y (R.header s.data.toList a=(R.word s.data.toList a && (!decide (R.lower s.data.toList=R.host) && (!decide (R.lower s.data.toList=R.contentLength) && !decide (R.lower s.data.toList=R.transferEncoding))))):=by
  show R.header s.data.toList a=_;unfold R.header;rw[Qu,Qu,Qu]
 have d:=toLs (R.lower s.data.toList) R.host;have f:=toLs (R.lower s.data.toList) R.contentLength;have g:=toLs (R.lower s.data.toList) R.transferEncoding;generalize decide (R.lower s.data.toList=R.host)=b1 at*;generalize decide (R.lower s.data.toList=R.contentLength)=b2 at*;generalize decide (R.lower s.data.toList=R.transferEncoding)=b3 at*;unfold R.host at d;unfold R.contentLength at f;unfold R.transferEncoding at g;generalize j:R.str (R.lower s.data.toList)=o at*
 cases hw:R.word s.data.toList a <;> cases b1 <;> cases b2
 all_goals
  rw[hw] at c;go_in;go_wp2_with (first
   |(go_at_call 313;refine(oR _ _ _ b).mono ?_;rintro e w' ⟨rfl,rfl⟩)
   |(go_at_call 88;refine(uV _ _ i).mono ?_;rintro e w' ⟨rfl,h⟩))
  go_ret;exact⟨zX (by rw[c.o];try rfl),h⟩
theorem ze5 (n:Ad)(h:n<10):(⟨#[48,49,50,51,52,53,54,55,56,57]⟩:As).extract n (n+1)=R.str [Cb (48+n)]:=by
 have:∀m:Fin 10,(⟨#[48,49,50,51,52,53,54,55,56,57]⟩:As).extract m.val (m.val+1)=R.str [Cb (48+m.val)]:=by decide +kernel
 exact this ⟨n,h⟩
def R.dec (n:Ad):A Ab:=if n<10 then [Cb (48+n)] else R.dec (n / 10)++[Cb (48+n % 10)]
 termination_by n
 decreasing_by omega
theorem R.dec_len (n k:Ad)(h:n<10 ^ (k+1)):Z (R.dec n)<=k+1:=by
 induction k generalizing n <;> grind[R.dec,List.length_append,Nat.div_lt_iff_lt_mul,Nat.pow_succ]
theorem oW (n:Ad):∀(w:Ag),n<1000000->
  Am prog 91 #[O Ai n] w fun e w'=>e=Af (I (R.str (R.dec n)))/\w'=w:=by
 induction n using Nat.strongRecOn with
 |_ n ih=>
  intro w d;have b:=ze5 (n % 10) (by omega);have a:=J b;clear b
  by_cases h:n<10
  ·go_in
   go_wp2;go_ret;exact⟨tI (by rw[a.o];unfold R.dec;rw[Az h,Nat.mod_eq_of_lt h]),rfl⟩
  ·have c:Y (∀w,Am prog 91 #[O Ai ((n:Ak) / 10)] w fun e w'=>e=Af (I (R.str (R.dec (n / 10))))/\w'=w):=by
    intro w;have:=ih (n / 10) (by omega) w (by omega);rw[Int.natCast_ediv] at this;exact this
   have f:(R.str (R.dec (n / 10))).size<=100:=by
    rw[R.str_size];have:=R.dec_len (n / 10) 5 (by omega);omega
   have g:((⟨#[48,49,50,51,52,53,54,55,56,57]⟩:As).extract (n % 10) (n % 10+1)).size<=1:=by rw[a.o,R.str_size];simp
   clear ih;go_in;go_wp2_with (go_at_call 91;refine(c.o _).mono ?_;rintro e w' ⟨rfl,rfl⟩);go_ret;refine⟨tI ?_,rfl⟩;rw[a.o]
   apply yt
   rw[qC,R.str_toList,R.str_toList,R.str_toList]
   conv=>rhs;unfold R.dec
   rw[Aw h]
namespace R
def span (p:Ak->Ee):A Ab->Ad
 |[]=>0
 |c::cs=>if p c.toNat then span p cs+1 else 0
theorem span_step {p:Ak->Ee}{s:As}{k:Ad}(h:k<s.size)(a:p s[k].toNat=true):span p (s.data.toList.drop k)=span p (s.data.toList.drop (k+1))+1:=by
 rw[drop_cons s k h,span,Az a]
theorem span_stop {p:Ak->Ee}{s:As}{k:Ad}(h:k<s.size)(a:p s[k].toNat=false):span p (s.data.toList.drop k)=0:=by grind[drop_cons,span]
theorem span_end {p:Ak->Ee}{s:As}{k:Ad}(h:s.size<=k):span p (s.data.toList.drop k)=0:=by grind[List.drop_of_length_le,size_eq,span]
theorem span_le (p:Ak->Ee)(l:A Ab):span p l<=Z l:=by
 induction l with
 |nil=>exact Aq _
 |cons c cs ih=>unfold span;split <;> simp <;> omega
def insideI (c:Ak):Ee:=decide (c≠34/\c≠10)
def signI (c:Ak):Ee:=c == 123 || c == 125 || c == 59 || c == 61 || c == 44
def at0 (l:A Ab)(n:Ad):Ak:=(l.getD n 0).toNat
theorem at0_eq (s:As)(n:Ad)(h:n<s.size):at0 s.data.toList n=s[n].toNat:=by
 unfold at0;rw[Gf,Bd (by rw[size_eq];exact h)];rfl
def tend (l:A Ab)(i:Ad):Ad×Ak:=
 if smallI (at0 l i) then (i+1+span smallI (l.drop (i+1)),119)
 else if digitI (at0 l i) then
  (if 5<i+1+span digitI (l.drop (i+1))-i then (i+1+span digitI (l.drop (i+1)),120) else (i+1+span digitI (l.drop (i+1)),49))
 else if at0 l i=34 then
  (if i+1+span insideI (l.drop (i+1))=Z l\/at0 l (i+1+span insideI (l.drop (i+1)))=10\/24<i+1+span insideI (l.drop (i+1))-i-1
   then (i+1+span insideI (l.drop (i+1)),120) else (i+1+span insideI (l.drop (i+1))+1,34))
 else if signI (at0 l i) then (i+1,115)
 else (i+1,120)
def dkind (n i:Ad):Ak:=if 5<n-i then 120 else 49
def sbad (l:A Ab)(n i:Ad):Prop:=n=Z l\/at0 l n=10\/24<n-i-1
instance (l:A Ab) (n i:Ad):Decidable (sbad l n i):=by unfold sbad;infer_instance
def sEnd (l:A Ab)(n i:Ad):Ad:=if sbad l n i then n else n+1
def sKind (l:A Ab)(n i:Ad):Ak:=if sbad l n i then 120 else 34
def gKind (c:Ak):Ak:=if signI c then 115 else 120
end R
theorem we {a b:Ak}{c d:Ak}(h:a=b)(f:c=d):Af (Cm #[O Ai a,O Bp c])=Af (Cm #[O Ai b,O Bp d]):=by rw[h,f]
theorem eK (s:As)(i:Ad)(w:Ag)(p:s.size<=3000)(g:i<s.size)(o:R.smallI s[i].toNat=true):Am prog 83 #[I s,O Ai i] w fun e w'=>e=Af (Cm #[O Ai ((i+1+R.span R.smallI (s.data.toList.drop (i+1)):Ad):Ak),O Bp 119])/\w'=w:=by
 cases hd:R.digitI s[i].toNat
 all_goals
  go_in;go_wp2_with (first|(go_at_call 128;refine(tG _ _).mono ?_;rintro e w' ⟨rfl,rfl⟩)|(go_at_call 129;refine(uW _ _).mono ?_;rintro e w' ⟨rfl,rfl⟩))
  go_loop [7] (fun v=>∃n:Ad,i+1<=n/\n<=s.size/\v=O Ai n/\Y (i+1+R.span R.smallI (s.data.toList.drop (i+1))=n+R.span R.smallI (s.data.toList.drop n))) (fun v=>s.size-(intOf v).toNat)
  ·exact⟨i+1,Aq _,g,by go_num,rfl⟩
  ·
   obtain⟨n,l,m,rfl,b⟩:=hrel
   by_cases c:n<s.size
   ·by_cases d:97<=(s[n].toNat:Ak)/\(s[n].toNat:Ak)<=122
    ·have a:Y (i+1+R.span R.smallI (s.data.toList.drop (i+1))=(n+1)+R.span R.smallI (s.data.toList.drop (n+1))):=by
      have:=b.o;rw[R.span_step c (by unfold R.smallI;simp[d])] at this;show _=_;omega
     obtain⟨f,j⟩:=d;go_wp2;exact⟨⟨n+1,by omega,by omega,by go_num,a⟩,by simp[intOf];omega⟩
    ·have a:Y (i+1+R.span R.smallI (s.data.toList.drop (i+1))=n):=by
      have:=b.o;rw[R.span_stop c (by unfold R.smallI;rw[<-Bool.decide_and];exact Ce d)] at this;exact this
     by_cases f:97<=(s[n].toNat:Ak)
     ·have j:¬(s[n].toNat:Ak)<=122:=fun h=>d ⟨f,h⟩
      go_wp2
      go_ret2
      exact⟨we (by have:=a.o;omega) rfl,rfl⟩
     ·go_wp2
      go_ret2
      exact⟨we (by have:=a.o;omega) rfl,rfl⟩
   ·have a:Y (i+1+R.span R.smallI (s.data.toList.drop (i+1))=n):=by
     have:=b.o;rw[R.span_end (k:=n) (by omega)] at this;exact this
    go_wp2
    go_ret2
    exact⟨we (by have:=a.o;omega) rfl,rfl⟩
theorem r8 (s:As)(i:Ad)(w:Ag)(t:s.size<=3000)(j:i<s.size)(q:R.smallI s[i].toNat=false)(r:R.digitI s[i].toNat=true):Am prog 83 #[I s,O Ai i] w fun e w'=>e=Af (Cm #[O Ai ((i+1+R.span R.digitI (s.data.toList.drop (i+1)):Ad):Ak),O Bp (R.dkind (i+1+R.span R.digitI (s.data.toList.drop (i+1))) i)])/\w'=w:=by
 go_in;go_wp2_with (first|(go_at_call 128;refine(tG _ _).mono ?_;rintro e w' ⟨rfl,rfl⟩)|(go_at_call 129;refine(uW _ _).mono ?_;rintro e w' ⟨rfl,rfl⟩))
 go_loop [7] (fun v=>∃n:Ad,i+1<=n/\n<=s.size/\v=O Ai n/\Y (i+1+R.span R.digitI (s.data.toList.drop (i+1))=n+R.span R.digitI (s.data.toList.drop n))) (fun v=>s.size-(intOf v).toNat)
 ·exact⟨i+1,Aq _,j,by go_num,rfl⟩
 ·
  obtain⟨n,o,p,rfl,f⟩:=hrel
  by_cases b:n<s.size/\R.digitI (R.at0 s.data.toList n)=true
  ·obtain⟨a,d⟩:=b
   rw[R.at0_eq s n a] at d;have c:Y (i+1+R.span R.digitI (s.data.toList.drop (i+1))=(n+1)+R.span R.digitI (s.data.toList.drop (n+1))):=by
    have:=f.o;rw[R.span_step a d] at this;show _=_;omega
   unfold R.digitI at d;simp only[Ez,Gd] at d;obtain⟨l,m⟩:=d;clear f;go_wp2;exact⟨⟨n+1,by omega,by omega,by go_num,c⟩,by simp[intOf];omega⟩
  ·have c:Y (i+1+R.span R.digitI (s.data.toList.drop (i+1))=n):=by
    have:=f.o
    by_cases a:n<s.size
    ·rw[R.span_stop a (by rw[<-R.at0_eq s n a,Sq];exact fun h=>b ⟨a,h⟩)] at this;exact this
    ·rw[R.span_end (k:=n) (by omega)] at this;exact this
   clear f
   by_cases a:n<s.size
   ·by_cases l:48<=(s[n].toNat:Ak)
    ·have m:¬(s[n].toNat:Ak)<=57:=fun h=>b ⟨a,by rw[R.at0_eq s n a];unfold R.digitI;simp;omega⟩
     clear b
     by_cases g:5<(n:Ak)-i
     all_goals
      go_wp2
      go_ret2
      exact⟨we (by have:=c.o;omega) (by have:=c.o;unfold R.dkind;first|rw[Az (by omega)]|rw[Aw (by omega)]),rfl⟩
    ·clear b
     by_cases g:5<(n:Ak)-i
     all_goals
      go_wp2
      go_ret2
      exact⟨we (by have:=c.o;omega) (by have:=c.o;unfold R.dkind;first|rw[Az (by omega)]|rw[Aw (by omega)]),rfl⟩
   ·clear b
    by_cases g:5<(n:Ak)-i
    all_goals
     go_wp2
     go_ret2
     exact⟨we (by have:=c.o;omega) (by have:=c.o;unfold R.dkind;first|rw[Az (by omega)]|rw[Aw (by omega)]),rfl⟩
theorem ni (s:As)(i:Ad)(w:Ag)(Q:s.size<=3000)(y:i<s.size)(q:s[i].toNat=34)(j:Ad)(m:i+1+R.span R.insideI (s.data.toList.drop (i+1))=j):Am prog 83 #[I s,O Ai i] w fun e w'=>e=Af (Cm #[O Ai (R.sEnd s.data.toList j i:Ak),O Bp (R.sKind s.data.toList j i)])/\w'=w:=by
 have H:R.smallI s[i].toNat=false:=by rw[q];rfl
 have N:R.digitI s[i].toNat=false:=by rw[q];rfl
 have x:((s[i].toNat:Ak) == 34)=true:=by rw[q];rfl
 have r:=J (m);go_in;go_wp2_with (first|(go_at_call 128;refine(tG _ _).mono ?_;rintro e w' ⟨rfl,rfl⟩)|(go_at_call 129;refine(uW _ _).mono ?_;rintro e w' ⟨rfl,rfl⟩))
 go_loop [7] (fun v=>∃n:Ad,i+1<=n/\n<=s.size/\v=O Ai n/\Y (j=n+R.span R.insideI (s.data.toList.drop n))) (fun v=>s.size-(intOf v).toNat)
 ·exact⟨i+1,Aq _,y,by go_num,r.o.symm⟩
 ·
  obtain⟨n,C,E,rfl,p⟩:=hrel
  by_cases b:n<s.size/\R.insideI (R.at0 s.data.toList n)=true
  ·obtain⟨a,g⟩:=b
   rw[R.at0_eq s n a] at g;have d:Y (j=(n+1)+R.span R.insideI (s.data.toList.drop (n+1))):=by
    have:=p.o;rw[R.span_step a g] at this;show _=_;omega
   unfold R.insideI at g;simp only[Gd] at g;have f:((s[n].toNat:Ak) != 34)=true:=by rw[Qv];exact g.1
   have o:((s[n].toNat:Ak) != 10)=true:=by rw[Qv];exact g.2
   go_wp2;exact⟨⟨n+1,by omega,by omega,by go_num,d⟩,by simp[intOf];omega⟩
  ·have d:Y (j=n):=by
    have:=p.o
    by_cases a:n<s.size
    ·rw[R.span_stop a (by rw[<-R.at0_eq s n a,Sq];exact fun h=>b ⟨a,h⟩)] at this;exact this
    ·rw[R.span_end (k:=n) (by omega)] at this;exact this
   by_cases a:n<s.size
   ·have u:((n:Ak) == s.size)=false:=by rw[Ch];omega
    have l:=J (R.at0_eq s n a)
    by_cases f:(s[n].toNat:Ak)=34
    ·have z:((s[n].toNat:Ak) != 34)=false:=by rw[f];rfl
     have B:((s[n].toNat:Ak) == 10)=false:=by rw[f];rfl
     have t:=J (f)
     by_cases F:24<(n:Ak)-i-1
     ·have c:Y (R.sbad s.data.toList n i):=Bf (Bf (by omega))
      go_wp2
      go_ret2
      exact⟨we (by unfold R.sEnd;rw[d.o,Az c.o]) (by unfold R.sKind;rw[d.o,Az c.o]),rfl⟩
     ·have c:Y (¬(R.sbad s.data.toList n i)):=by
       rintro(h|h|h)
       ·rw[R.size_eq] at h;omega
       ·rw[l.o,t.o] at h;exact absurd h (by decide)
       ·omega
      go_wp2
      go_ret2
      exact⟨we (by unfold R.sEnd;rw[d.o,Aw c.o];omega) (by unfold R.sKind;rw[d.o,Aw c.o]),rfl⟩
    ·have o:(s[n].toNat:Ak)=10:=by
      apply Ng;intro h
      exact b ⟨a,by rw[R.at0_eq s n a];unfold R.insideI;exact Cf ⟨f,h⟩⟩
     have z:((s[n].toNat:Ak) != 34)=true:=by rw[Qv];exact f
     have B:((s[n].toNat:Ak) != 10)=false:=by rw[o];rfl
     have q3:((s[n].toNat:Ak) == 10)=true:=by rw[o];rfl
     have c:Y (R.sbad s.data.toList n i):=Bf (Ay (by rw[l.o,o]));go_wp2
     go_ret2
     exact⟨we (by unfold R.sEnd;rw[d.o,Az c.o]) (by unfold R.sKind;rw[d.o,Az c.o]),rfl⟩
   ·have u:((n:Ak) == s.size)=true:=by rw[Hw];omega
    have c:Y (R.sbad s.data.toList n i):=Ay (by rw[R.size_eq];omega);go_wp2
    go_ret2
    exact⟨we (by unfold R.sEnd;rw[d.o,Az c.o]) (by unfold R.sKind;rw[d.o,Az c.o]),rfl⟩
theorem eJ (s:As)(i:Ad)(w:Ag)(h:s.size<=3000)(g:i<s.size)(d:R.smallI s[i].toNat=false)(f:R.digitI s[i].toNat=false)(b:s[i].toNat≠34):Am prog 83 #[I s,O Ai i] w fun e w'=>e=Af (Cm #[O Ai ((i+1:Ad):Ak),O Bp (R.gKind s[i].toNat)])/\w'=w:=by
 have c:((s[i].toNat:Ak) == 34)=false:=by rw[Ch];omega
 have a:Y (R.signI s[i].toNat=((s[i].toNat:Ak) == 123 || (s[i].toNat:Ak) == 125 || (s[i].toNat:Ak) == 59 || (s[i].toNat:Ak) == 61 || (s[i].toNat:Ak) == 44)):=rfl
 cases h1:((s[i].toNat:Ak) == 123) <;> cases h2:((s[i].toNat:Ak) == 125) <;> cases h3:((s[i].toNat:Ak) == 59) <;> cases h4:((s[i].toNat:Ak) == 61) <;> cases h5:((s[i].toNat:Ak) == 44)
 all_goals
  rw[h1,h2,h3,h4,h5] at a;go_in;go_wp2_with (first|(go_at_call 128;refine(tG _ _).mono ?_;rintro e w' ⟨rfl,rfl⟩)|(go_at_call 129;refine(uW _ _).mono ?_;rintro e w' ⟨rfl,rfl⟩))
  go_ret2
  exact⟨we (by omega) (by unfold R.gKind;rw[a.o];rfl),rfl⟩
theorem zkX (s:As)(i:Ad)(w:Ag)(f:s.size<=3000)(b:i<s.size):Am prog 83 #[I s,O Ai i] w fun e w'=>e=Af (Cm #[O Ai ((R.tend s.data.toList i).1:Ak),O Bp (R.tend s.data.toList i).2])/\w'=w:=by
 unfold R.tend;rw[R.at0_eq s i b]
 by_cases c:R.smallI s[i].toNat=true
 ·rw[Az c];exact eK s i w f b c
 ·rw[Aw c]
  have a:R.smallI s[i].toNat=false:=by rw[Sq];exact c
  by_cases d:R.digitI s[i].toNat=true
  ·rw[Az d]
   refine(r8 s i w f b a d).mono ?_;rintro e w' ⟨rfl,rfl⟩;refine⟨?_,rfl⟩;unfold R.dkind
   split <;> rfl
  ·rw[Aw d]
   have g:R.digitI s[i].toNat=false:=by rw[Sq];exact d
   by_cases j:(s[i].toNat:Ak)=34
   ·rw[Az j]
    refine(ni s i w f b (by omega) _ rfl).mono ?_;rintro e w' ⟨rfl,rfl⟩;refine⟨?_,rfl⟩;unfold R.sEnd R.sKind
    by_cases h:R.sbad s.data.toList (i+1+R.span R.insideI (s.data.toList.drop (i+1))) i
    ·rw[Az h,Az h];unfold R.sbad at h;rw[Az h]
    ·rw[Aw h,Aw h];unfold R.sbad at h;rw[Aw h]
   ·rw[Aw j]
    refine(eJ s i w f b a g (by omega)).mono ?_;rintro e w' ⟨rfl,rfl⟩;refine⟨?_,rfl⟩;unfold R.gKind
    split <;> rfl
namespace R
structure Tok where
 k:Ak
 s:A Ab
 at_:Ad
def Tok.cells (t:Tok):A Aj:=[O Bp t.k,I (str t.s),O Ai t.at_]
def tokCells (l:A Tok):A Aj:=(l.map Tok.cells).flatten
theorem tokCells_append (a b:A Tok):tokCells (a++b)=tokCells a++tokCells b:=by simp[tokCells]
theorem tokCells_one (t:Tok):tokCells [t]=t.cells:=by simp[tokCells]
def tok (l:A Ab)(i:Ad):Tok:=
 ⟨(tend l i).2,if (tend l i).2=34 then (l.drop (i+1)).take ((tend l i).1-1-(i+1)) else (l.drop i).take ((tend l i).1-i),i⟩
def toksGo:Ad->A Ab->Ad->A Tok
 |0,_,_=>[]
 |n+1,l,i=>
  if i<Z l then
   if at0 l i=32\/at0 l i=10 then toksGo n l (i+1)
   else if (tend l i).2=120 then [tok l i] else tok l i::toksGo n l (tend l i).1
  else [⟨0,[],Z l⟩]
def toks (l:A Ab):A Tok:=toksGo (Z l+1) l 0
theorem tend_bd (l:A Ab)(i:Ad)(h:i<Z l):i<(tend l i).1/\(tend l i).1<=Z l/\((tend l i).2=34->i+2<=(tend l i).1):=by grind[span_le,smallI,digitI,insideI,List.length_drop,tend,span]
end R
theorem info45:(prog.info? 115).map (fun i=>(i.zero,i.size,i.bytes))=V (V (Fe #[O Bp 0,I ⟨#[]⟩,O Ai 0]),3,32):=by kernel_rfl
theorem kB (s:As)(a b:Ad):s.extract a b=R.str ((s.data.toList.drop a).take (b-a)):=by
 apply yt;rw[R.str_toList,wQ]
theorem uk (g j:Ad):(⟨g,0,S⟩:Addr).add j=⟨g,j,S⟩:=by unfold Addr.add;split <;> simp_all
theorem zZ (w:Ag)(a:Array Aj)(t:Cs)(g:Ad)(b:g=w.heap.size:=by simp):∀j u,a.toList[j]?=V u->(w.alloc (Ae a t)).cell? ((⟨g,0,S⟩:Addr).add j)=V u:=by
 intro j u h;subst b;rw[uk,Xm]
 simpa using h
variable {l:A Ab}{i n b a g rb:Ad}
theorem R.toksGo_blank (h:i<Z l)(a:R.at0 l i=32\/R.at0 l i=10):R.toksGo (n+1) l i=R.toksGo n l (i+1):=by
 rw[R.toksGo,Az h,Az a]
theorem R.toksGo_bad (h:i<Z l)(a:¬(R.at0 l i=32\/R.at0 l i=10))(b:(R.tend l i).2=120):R.toksGo (n+1) l i=[R.tok l i]:=by
 rw[R.toksGo,Az h,Aw a,Az b]
theorem R.toksGo_good (h:i<Z l)(a:¬(R.at0 l i=32\/R.at0 l i=10))(b:(R.tend l i).2≠120):R.toksGo (n+1) l i=R.tok l i::R.toksGo n l (R.tend l i).1:=by
 rw[R.toksGo,Az h,Aw a,Aw b]
theorem R.toksGo_end (h:¬i<Z l):R.toksGo (n+1) l i=[⟨0,[],Z l⟩]:=by
 rw[R.toksGo,Aw h]
theorem pP:∀{n m i:Ad},Z l+1-i<=n->Z l+1-i<=m->i<=Z l->R.toksGo n l i=R.toksGo m l i:=by
 intro n
 induction n with
 |zero=>intro m i f c g;omega
 |succ n ih=>
  intro m i f c g
  match m,c with
  |0,c=>omega
  |m+1,c=>
   by_cases a:i<Z l
   ·by_cases b:R.at0 l i=32\/R.at0 l i=10
    ·rw[R.toksGo_blank a b,R.toksGo_blank a b];exact ih (by omega) (by omega) (by omega)
    ·have h:=R.tend_bd l i a
     by_cases d:(R.tend l i).2=120
     ·rw[R.toksGo_bad a b d,R.toksGo_bad a b d]
     ·rw[R.toksGo_good a b d,R.toksGo_good a b d,ih (m:=m) (by omega) (by omega) (by omega)]
   ·rw[R.toksGo_end a,R.toksGo_end a]
theorem zbY (s:As)(w:Ag)(hs:s.size<=3000):Am prog 50 #[I s] w fun e w'=>∃v,e=Af v/\w'.ownsRow w.heap.size 115 3 v (Z (R.toks s.data.toList)) (R.tokCells (R.toks s.data.toList))/\Ms w.heap.size w w':=by
 obtain⟨i0,hi,C,E,F⟩:=info_parts info45;go_in;go_wp2
 go_loopw [3,4] (fun v i wr=>∃(k:Ad) (c:A R.Tok),k<=s.size/\(Z c)<=k/\i=O Ai k/\wr.ownsRow w.heap.size 115 3 v (Z c) (R.tokCells c)/\
   Y (c++R.toksGo (s.size+1-k) s.data.toList k=R.toks s.data.toList)/\Ms w.heap.size w wr) (fun _ i _=>s.size-(intOf i).toNat)
 case atStart=>exact⟨0,[],Ax _,Ax _,rfl,World.ownsRow_nil _ _ _ _,by show _=_;rw[Vo,<-R.size_eq];rfl,Vw _ _⟩
 case round=>
  obtain⟨k,c,H,ad,rfl,b,HL,g⟩:=hrel
  by_cases o:k<s.size
  ·have q:k<Z s.data.toList:=by rw[R.size_eq];exact o
   have e1:s.size+1-k=(s.size-k)+1:=by omega
   by_cases r:(s[k].toNat:Ak)=32\/(s[k].toNat:Ak)=10
   ·have H2:Y (c++R.toksGo (s.size+1-(k+1)) s.data.toList (k+1)=R.toks s.data.toList):=by
     have:=HL.o;rw[e1,R.toksGo_blank q (by rw[R.at0_eq s k o];exact r)] at this;rw[<-this,show s.size+1-(k+1)=s.size-k by omega];rfl
    rcases r with h|h
    ·have g1:((s[k].toNat:Ak) == 32)=true:=by rw[h];rfl
     go_wp2;exact⟨⟨k+1,c,by omega,by omega,by go_num,b,H2,g⟩,by simp[intOf];omega⟩
    ·have g1:((s[k].toNat:Ak) == 32)=false:=by rw[h];rfl
     have g2:((s[k].toNat:Ak) == 10)=true:=by rw[h];rfl
     go_wp2;exact⟨⟨k+1,c,by omega,by omega,by go_num,b,H2,g⟩,by simp[intOf];omega⟩
   ·have x:¬(R.at0 s.data.toList k=32\/R.at0 s.data.toList k=10):=by rw[R.at0_eq s k o];exact r
    have g1:((s[k].toNat:Ak) == 32)=false:=by rw[Ch];exact fun h=>r (Ay h)
    have g2:((s[k].toNat:Ak) == 10)=false:=by rw[Ch];exact fun h=>r (Bf h)
    have bd:=R.tend_bd s.data.toList k q;have HB:=R.toksGo_bad (n:=s.size-k) q x;have HG:=R.toksGo_good (n:=s.size-k) q x;have HT:Y (R.tok s.data.toList k=⟨(R.tend s.data.toList k).2,if (R.tend s.data.toList k).2=34 then (s.data.toList.drop (k+1)).take ((R.tend s.data.toList k).1-1-(k+1)) else (s.data.toList.drop k).take ((R.tend s.data.toList k).1-k),k⟩):=rfl;have hL:=HL.o;rw[e1] at hL;rw[R.size_eq] at bd;have hE:=zkX s k;generalize R.tend s.data.toList k=kk at*;obtain⟨z,f⟩:=kk;simp only at bd hE HB HG HT;obtain⟨b1,b2,b3⟩:=bd;have HE:=J hE;have t:Y (f=120->c++[R.tok s.data.toList k]=R.toks s.data.toList):=fun h=>by rw[<-hL,HB h]
    have j:Y (f≠120->(c++[R.tok s.data.toList k])++R.toksGo (s.size+1-z) s.data.toList z=R.toks s.data.toList):=fun h=>by
     rw[<-hL,HG h,Bl,pP (n:=s.size-k) (m:=s.size+1-z) (by rw[R.size_eq];omega) (by rw[R.size_eq];omega) (by rw[R.size_eq];exact b2)];rfl
    by_cases B:f=34
    ·subst B
     have b4:=b3 rfl;have HC:Y ((R.tok s.data.toList k).cells=[O Bp 34,I (s.extract (k+1) (z-1)),O Ai k]):=by
      rw[HT.o,Az rfl];unfold R.Tok.cells;rw[kB];rfl
     go_wp2_with (first
      |(go_at_call 83;refine(HE.o _ hs o).mono ?_;rintro e w' ⟨rfl,rfl⟩)
      |(at_builtin;refine Cu _ rfl _ _ 110 rfl w.heap.size 115 i0 _ 3 32 underlying110 hi C E F rfl (by decide) _ _ _ rfl ((b.alloc _).alloc _) ⟨w'.heap.size+1,0,S⟩ 1 1 [O Bp 34,I (s.extract (k+1) (z-1)),O Ai k] rfl rfl ?c1 ?c2 ?c3 ?c4 ?c5 ?_))
     case c1=>exact zZ _ #[_,_,_] _ _
     case c2=>intro u y;simp at y;rcases y with rfl|rfl|rfl <;> rfl
     case c3=>unfold Bh;omega
     case c4=>omega
     case c5=>have:=g.size;simp;omega
     intro v' Q d a _;have l:Ms w.heap.size w Q:=((g.alloc g.size _).alloc (by have:=g.size;simp;omega) _).grown a (by have:=g.size;simp;omega) (fun k H=>(b.lt k H).1);go_wp2
     go_roundw
     case rel=>exact⟨z,c++[R.tok s.data.toList k],b2,by simp;omega,rfl,by rw[R.tokCells_append,R.tokCells_one,HC.o,Ah];exact d,j.o (by decide),l⟩
     case measure=>simp[intOf];omega
    ·have ab:(f == 34)=false:=by rw[Ch];exact B
     have HC:Y ((R.tok s.data.toList k).cells=[O Bp f,I (s.extract k z),O Ai k]):=by
      rw[HT.o,Aw B];unfold R.Tok.cells;rw[kB];rfl
     by_cases p:f=120
     ·subst p
      have HF:=t.o rfl;have N:=J HF;go_wp2_with (first
      |(go_at_call 83;refine(HE.o _ hs o).mono ?_;rintro e w' ⟨rfl,rfl⟩)
      |(at_builtin;refine Cu _ rfl _ _ 110 rfl w.heap.size 115 i0 _ 3 32 underlying110 hi C E F rfl (by decide) _ _ _ rfl ((b.alloc _).alloc _) ⟨w'.heap.size+1,0,S⟩ 1 1 [O Bp 120,I (s.extract k z),O Ai k] rfl rfl ?c1 ?c2 ?c3 ?c4 ?c5 ?_))
      case c1=>exact zZ _ #[_,_,_] _ _
      case c2=>intro u y;simp at y;rcases y with rfl|rfl|rfl <;> rfl
      case c3=>unfold Bh;omega
      case c4=>omega
      case c5=>have:=g.size;simp;omega
      intro v' Q d a _;have l:Ms w.heap.size w Q:=((g.alloc g.size _).alloc (by have:=g.size;simp;omega) _).grown a (by have:=g.size;simp;omega) (fun k H=>(b.lt k H).1);go_wp2;go_ret;exact⟨_,rfl,by rw[<-N.o,R.tokCells_append,R.tokCells_one,HC.o,Ah];exact d,l⟩
     ·have aa:(f == 120)=false:=by rw[Ch];exact p
      have HF:=j.o p;have N:=J HF;go_wp2_with (first
      |(go_at_call 83;refine(HE.o _ hs o).mono ?_;rintro e w' ⟨rfl,rfl⟩)
      |(at_builtin;refine Cu _ rfl _ _ 110 rfl w.heap.size 115 i0 _ 3 32 underlying110 hi C E F rfl (by decide) _ _ _ rfl ((b.alloc _).alloc _) ⟨w'.heap.size+1,0,S⟩ 1 1 [O Bp f,I (s.extract k z),O Ai k] rfl rfl ?c1 ?c2 ?c3 ?c4 ?c5 ?_))
      case c1=>exact zZ _ #[_,_,_] _ _
      case c2=>intro u y;simp at y;rcases y with rfl|rfl|rfl <;> rfl
      case c3=>unfold Bh;omega
      case c4=>omega
      case c5=>have:=g.size;simp;omega
      intro v' Q d a _;have l:Ms w.heap.size w Q:=((g.alloc g.size _).alloc (by have:=g.size;simp;omega) _).grown a (by have:=g.size;simp;omega) (fun k H=>(b.lt k H).1);go_wp2
      go_roundw
      case rel=>exact⟨z,c++[R.tok s.data.toList k],b2,by simp;omega,rfl,by rw[R.tokCells_append,R.tokCells_one,HC.o,Ah];exact d,N,l⟩
      case measure=>simp[intOf];omega
  ·have H2:Y (c++[⟨0,[],s.size⟩]=R.toks s.data.toList):=by
    have:=HL.o;rw[show s.size+1-k=(s.size-k)+1 by omega,R.toksGo_end (by rw[R.size_eq];exact o),R.size_eq] at this;exact this
   go_wp2_with (at_builtin;refine Cu _ rfl _ _ 110 rfl w.heap.size 115 i0 _ 3 32 underlying110 hi C E F rfl (by decide) _ _ _ rfl (b.alloc _) ⟨wr.heap.size,0,S⟩ 1 1 [O Bp 0,I ⟨#[]⟩,O Ai s.size] rfl rfl ?c1 ?c2 ?c3 ?c4 ?c5 ?_)
   case c1=>exact zZ _ #[_,_,_] _ _
   case c2=>intro u y;simp at y;rcases y with rfl|rfl|rfl <;> rfl
   case c3=>unfold Bh;omega
   case c4=>omega
   case c5=>have:=g.size;simp;omega
   intro v' Q d a _;have l:Ms w.heap.size w Q:=(g.alloc g.size _).grown a (by have:=g.size;simp;omega) (fun k H=>(b.lt k H).1);go_wp2;go_ret;exact⟨_,rfl,by rw[<-H2.o,R.tokCells_append,R.tokCells_one,Ah];exact d,l⟩
theorem j3 (c:Ak)(w:Ag):Am prog 260 #[O Bp c] w fun e w'=>e=Af (Av (R.smallI c))/\w'=w:=by
 by_cases h:97<=c
 all_goals
  go_in;go_wp2;go_ret;exact⟨zX (by unfold R.smallI;rw[Eb];simp;try omega),rfl⟩
theorem fb (c:Ak)(w:Ag):Am prog 309 #[O Bp c] w fun e w'=>e=Af (Av (R.largeI c))/\w'=w:=by
 by_cases h:65<=c
 all_goals
  go_in;go_wp2;go_ret;exact⟨zX (by unfold R.largeI;rw[Eb];simp;try omega),rfl⟩
theorem jN (c:Ak)(w:Ag):Am prog 261 #[O Bp c] w fun e w'=>e=Af (Av (R.digitI c))/\w'=w:=by
 by_cases h:48<=c
 all_goals
  go_in;go_wp2;go_ret;exact⟨zX (by unfold R.digitI;rw[Eb];simp;try omega),rfl⟩
def xN (c:Ak):Ee:=c == 32 || c == 10
theorem gV (c:Ak)(w:Ag):Am prog 203 #[O Bp c] w fun e w'=>e=Af (Av (xN c))/\w'=w:=by
 cases h:(c == 32)
 all_goals
  go_in;go_wp2;go_ret;exact⟨zX (by unfold xN;rw[h];try rfl),rfl⟩
theorem fg (c:Ak)(w:Ag):Am prog 377 #[O Bp c] w fun e w'=>e=Af (Av (R.pathI c))/\w'=w:=by
 go_in;go_wp2
 all_goals
  go_ret;exact⟨zX (by unfold R.pathI;rw[Eb];simp;try omega),rfl⟩
theorem fA (c:Ak)(w:Ag):Am prog 411 #[O Bp c] w fun e w'=>e=Af (Av (R.valueI c))/\w'=w:=by
 go_in;go_wp2
 all_goals
  go_ret;exact⟨zX (by unfold R.valueI;rw[Eb];simp;try omega),rfl⟩
theorem jj (p:Ak->Ee)(l:A Ab):R.allB p l=true↔R.span p l=Z l:=by
 unfold R.allB
 induction l <;> grind[R.allB,R.span,R.span_le,List.length_cons]
theorem pY (s:As)(w:Ag)(g:s.size<=Bh):Am prog 202 #[I s,.func (.func 260) #[] #[]] w fun e w'=>e=Af (O Ai (R.span R.smallI s.data.toList:Ad))/\w'=w:=by
 unfold Bh at g;go_in;go_wp2_with fail
 go_loop [8] (fun v=>∃k:Ad,k<=s.size/\v=O Ai k/\Y (R.span R.smallI s.data.toList=k+R.span R.smallI (s.data.toList.drop k))) (fun v=>s.size-(intOf v).toNat)
 ·exact⟨0,Ax _,rfl,by show _=_;simp⟩
 ·
  obtain⟨k,h,rfl,b⟩:=hrel
  by_cases d:k<s.size
  ·cases hp:R.smallI s[k].toNat
   ·have c:Y (R.span R.smallI s.data.toList=k):=by
     have:=b.o;rw[R.span_stop d hp] at this;exact this
    go_wp2_with fail;refine(j3 _ _).mono ?_;rintro e f ⟨rfl,a⟩;rw[a,hp];go_wp2;go_ret;exact⟨by rw[c.o];rfl,rfl⟩
   ·have c:Y (R.span R.smallI s.data.toList=(k+1)+R.span R.smallI (s.data.toList.drop (k+1))):=by
     have:=b.o;rw[R.span_step d hp] at this;show _=_;omega
    go_wp2_with fail;refine(j3 _ _).mono ?_;rintro e f ⟨rfl,a⟩;rw[a,hp];go_wp2;exact⟨⟨k+1,by omega,by go_num,c⟩,by simp[intOf];omega⟩
  ·have c:Y (R.span R.smallI s.data.toList=s.size):=by
    have:=b.o;rw[R.span_end (k:=k) (by omega)] at this;show _=_;omega
   go_wp2;go_ret;exact⟨by rw[c.o];rfl,rfl⟩
theorem tQ (s:As)(w:Ag)(g:s.size<=Bh):Am prog 202 #[I s,.func (.func 261) #[] #[]] w fun e w'=>e=Af (O Ai (R.span R.digitI s.data.toList:Ad))/\w'=w:=by
 unfold Bh at g;go_in;go_wp2_with fail
 go_loop [8] (fun v=>∃k:Ad,k<=s.size/\v=O Ai k/\Y (R.span R.digitI s.data.toList=k+R.span R.digitI (s.data.toList.drop k))) (fun v=>s.size-(intOf v).toNat)
 ·exact⟨0,Ax _,rfl,by show _=_;simp⟩
 ·
  obtain⟨k,h,rfl,b⟩:=hrel
  by_cases d:k<s.size
  ·cases hp:R.digitI s[k].toNat
   ·have c:Y (R.span R.digitI s.data.toList=k):=by
     have:=b.o;rw[R.span_stop d hp] at this;exact this
    go_wp2_with fail;refine(jN _ _).mono ?_;rintro e f ⟨rfl,a⟩;rw[a,hp];go_wp2;go_ret;exact⟨by rw[c.o];rfl,rfl⟩
   ·have c:Y (R.span R.digitI s.data.toList=(k+1)+R.span R.digitI (s.data.toList.drop (k+1))):=by
     have:=b.o;rw[R.span_step d hp] at this;show _=_;omega
    go_wp2_with fail;refine(jN _ _).mono ?_;rintro e f ⟨rfl,a⟩;rw[a,hp];go_wp2;exact⟨⟨k+1,by omega,by go_num,c⟩,by simp[intOf];omega⟩
  ·have c:Y (R.span R.digitI s.data.toList=s.size):=by
    have:=b.o;rw[R.span_end (k:=k) (by omega)] at this;show _=_;omega
   go_wp2;go_ret;exact⟨by rw[c.o];rfl,rfl⟩
theorem pS (s:As)(w:Ag)(c:s.size<=Bh):Am prog 352 #[I s,.func (.func 261) #[] #[]] w fun e w'=>e=Af (Av (R.allB R.digitI s.data.toList))/\w'=w:=by
 have b:Y (R.allB R.digitI s.data.toList=((R.span R.digitI s.data.toList:Ak) == s.size)):=by
  show R.allB R.digitI s.data.toList=_;rw[<-R.size_eq,Eb];simp only[Hw];rw[Qk];exact jj R.digitI s.data.toList
 go_in;go_wp2_with fail;refine(tQ s _ c).mono ?_;rintro e d ⟨rfl,a⟩;rw[a];go_wp2;go_ret;exact⟨zX (by rw[b.o]),rfl⟩
theorem pX (s:As)(w:Ag)(g:s.size<=Bh):Am prog 202 #[I s,.func (.func 203) #[] #[]] w fun e w'=>e=Af (O Ai (R.span xN s.data.toList:Ad))/\w'=w:=by
 unfold Bh at g;go_in;go_wp2_with fail
 go_loop [8] (fun v=>∃k:Ad,k<=s.size/\v=O Ai k/\Y (R.span xN s.data.toList=k+R.span xN (s.data.toList.drop k))) (fun v=>s.size-(intOf v).toNat)
 ·exact⟨0,Ax _,rfl,by show _=_;simp⟩
 ·
  obtain⟨k,h,rfl,b⟩:=hrel
  by_cases d:k<s.size
  ·cases hp:xN s[k].toNat
   ·have c:Y (R.span xN s.data.toList=k):=by
     have:=b.o;rw[R.span_stop d hp] at this;exact this
    go_wp2_with fail;refine(gV _ _).mono ?_;rintro e f ⟨rfl,a⟩;rw[a,hp];go_wp2;go_ret;exact⟨by rw[c.o];rfl,rfl⟩
   ·have c:Y (R.span xN s.data.toList=(k+1)+R.span xN (s.data.toList.drop (k+1))):=by
     have:=b.o;rw[R.span_step d hp] at this;show _=_;omega
    go_wp2_with fail;refine(gV _ _).mono ?_;rintro e f ⟨rfl,a⟩;rw[a,hp];go_wp2;exact⟨⟨k+1,by omega,by go_num,c⟩,by simp[intOf];omega⟩
  ·have c:Y (R.span xN s.data.toList=s.size):=by
    have:=b.o;rw[R.span_end (k:=k) (by omega)] at this;show _=_;omega
   go_wp2;go_ret;exact⟨by rw[c.o];rfl,rfl⟩
theorem af (s:As)(w:Ag)(g:s.size<=Bh):Am prog 202 #[I s,.func (.func 377) #[] #[]] w fun e w'=>e=Af (O Ai (R.span R.pathI s.data.toList:Ad))/\w'=w:=by
 unfold Bh at g;go_in;go_wp2_with fail
 go_loop [8] (fun v=>∃k:Ad,k<=s.size/\v=O Ai k/\Y (R.span R.pathI s.data.toList=k+R.span R.pathI (s.data.toList.drop k))) (fun v=>s.size-(intOf v).toNat)
 ·exact⟨0,Ax _,rfl,by show _=_;simp⟩
 ·
  obtain⟨k,h,rfl,b⟩:=hrel
  by_cases d:k<s.size
  ·cases hp:R.pathI s[k].toNat
   ·have c:Y (R.span R.pathI s.data.toList=k):=by
     have:=b.o;rw[R.span_stop d hp] at this;exact this
    go_wp2_with fail;refine(fg _ _).mono ?_;rintro e f ⟨rfl,a⟩;rw[a,hp];go_wp2;go_ret;exact⟨by rw[c.o];rfl,rfl⟩
   ·have c:Y (R.span R.pathI s.data.toList=(k+1)+R.span R.pathI (s.data.toList.drop (k+1))):=by
     have:=b.o;rw[R.span_step d hp] at this;show _=_;omega
    go_wp2_with fail;refine(fg _ _).mono ?_;rintro e f ⟨rfl,a⟩;rw[a,hp];go_wp2;exact⟨⟨k+1,by omega,by go_num,c⟩,by simp[intOf];omega⟩
  ·have c:Y (R.span R.pathI s.data.toList=s.size):=by
    have:=b.o;rw[R.span_end (k:=k) (by omega)] at this;show _=_;omega
   go_wp2;go_ret;exact⟨by rw[c.o];rfl,rfl⟩
theorem aY (s:As)(w:Ag)(c:s.size<=Bh):Am prog 352 #[I s,.func (.func 377) #[] #[]] w fun e w'=>e=Af (Av (R.allB R.pathI s.data.toList))/\w'=w:=by
 have b:Y (R.allB R.pathI s.data.toList=((R.span R.pathI s.data.toList:Ak) == s.size)):=by
  show R.allB R.pathI s.data.toList=_;rw[<-R.size_eq,Eb];simp only[Hw];rw[Qk];exact jj R.pathI s.data.toList
 go_in;go_wp2_with fail;refine(af s _ c).mono ?_;rintro e d ⟨rfl,a⟩;rw[a];go_wp2;go_ret;exact⟨zX (by rw[b.o]),rfl⟩
theorem pZ (s:As)(w:Ag)(g:s.size<=Bh):Am prog 202 #[I s,.func (.func 411) #[] #[]] w fun e w'=>e=Af (O Ai (R.span R.valueI s.data.toList:Ad))/\w'=w:=by
 unfold Bh at g;go_in;go_wp2_with fail
 go_loop [8] (fun v=>∃k:Ad,k<=s.size/\v=O Ai k/\Y (R.span R.valueI s.data.toList=k+R.span R.valueI (s.data.toList.drop k))) (fun v=>s.size-(intOf v).toNat)
 ·exact⟨0,Ax _,rfl,by show _=_;simp⟩
 ·
  obtain⟨k,h,rfl,b⟩:=hrel
  by_cases d:k<s.size
  ·cases hp:R.valueI s[k].toNat
   ·have c:Y (R.span R.valueI s.data.toList=k):=by
     have:=b.o;rw[R.span_stop d hp] at this;exact this
    go_wp2_with fail;refine(fA _ _).mono ?_;rintro e f ⟨rfl,a⟩;rw[a,hp];go_wp2;go_ret;exact⟨by rw[c.o];rfl,rfl⟩
   ·have c:Y (R.span R.valueI s.data.toList=(k+1)+R.span R.valueI (s.data.toList.drop (k+1))):=by
     have:=b.o;rw[R.span_step d hp] at this;show _=_;omega
    go_wp2_with fail;refine(fA _ _).mono ?_;rintro e f ⟨rfl,a⟩;rw[a,hp];go_wp2;exact⟨⟨k+1,by omega,by go_num,c⟩,by simp[intOf];omega⟩
  ·have c:Y (R.span R.valueI s.data.toList=s.size):=by
    have:=b.o;rw[R.span_end (k:=k) (by omega)] at this;show _=_;omega
   go_wp2;go_ret;exact⟨by rw[c.o];rfl,rfl⟩
theorem pT (s:As)(w:Ag)(c:s.size<=Bh):Am prog 352 #[I s,.func (.func 411) #[] #[]] w fun e w'=>e=Af (Av (R.allB R.valueI s.data.toList))/\w'=w:=by
 have b:Y (R.allB R.valueI s.data.toList=((R.span R.valueI s.data.toList:Ak) == s.size)):=by
  show R.allB R.valueI s.data.toList=_;rw[<-R.size_eq,Eb];simp only[Hw];rw[Qk];exact jj R.valueI s.data.toList
 go_in;go_wp2_with fail;refine(pZ s _ c).mono ?_;rintro e d ⟨rfl,a⟩;rw[a];go_wp2;go_ret;exact⟨zX (by rw[b.o]),rfl⟩
theorem gy (c:Ak)(w:Ag):Am prog 393 #[O Bp c] w fun e w'=>e=Af (Av (R.partI c true))/\w'=w:=by
 have a:Y (R.partI c true=(R.smallI c || R.digitI c || c == 45 || (true && R.largeI c))):=rfl
 cases h1:R.smallI c <;> cases h2:R.largeI c <;> cases h3:R.digitI c
 all_goals
  rw[h1,h2,h3] at a;go_in;go_wp2_with (first
   |(go_at_call 260;refine(j3 _ _).mono ?_;rintro e w' ⟨rfl,rfl⟩)
   |(go_at_call 309;refine(fb _ _).mono ?_;rintro e w' ⟨rfl,rfl⟩)
   |(go_at_call 261;refine(jN _ _).mono ?_;rintro e w' ⟨rfl,rfl⟩))
  go_ret;exact⟨zX (by rw[a.o];simp),rfl⟩
theorem wY (c:Ak)(w:Ag):Am prog 412 #[O Bp c] w fun e w'=>e=Af (Av (R.upI c))/\w'=w:=by
 have a:Y (R.upI c=(R.smallI c || R.digitI c || c == 45 || (false && R.largeI c) || decide (c=46\/c=58))):=rfl
 cases h1:R.smallI c <;> cases h3:R.digitI c
 all_goals
  rw[h1,h3] at a;go_in;go_wp2_with (first
   |(go_at_call 260;refine(j3 _ _).mono ?_;rintro e w' ⟨rfl,rfl⟩)
   |(go_at_call 261;refine(jN _ _).mono ?_;rintro e w' ⟨rfl,rfl⟩))
  all_goals
   go_ret;exact⟨zX (by rw[a.o,Eb];simp;try omega),rfl⟩
structure R.St where
 K:Ad
 bad:Ak
 E:Ak
 at_:Ak
def R.numStep (n:Ak)(c:Ab):Ak:=wrap64 (wrap64 (10*n)+((c.toNat:Ak)-48) % 256)
def R.num (l:A Ab):Ak:=l.foldl R.numStep 0
structure R.Ok (ts:A R.Tok):Prop where
 goes:∀(k:Ad) (t:R.Tok),ts[k]?=V t->t.k≠0->t.k≠120->k+1<Z ts
 len:Z ts<=4000
 strs:∀(k:Ad) (t:R.Tok),ts[k]?=V t->Z t.s<=3000
 nums:∀(k:Ad) (t:R.Tok),ts[k]?=V t->t.k=49->0<=R.num t.s/\R.num t.s<=99999
structure RInv (w:Ag) (rb g cap:Ad) (ts:A R.Tok) (st:R.St) (H:Aj):Prop where
 rd:w.heap[rb]?=V (Ae #[X (V ⟨g,0,S⟩) (Z ts) cap,O Ai st.K,O Ai st.bad,O Ai st.E,O Ai st.at_,H] 113 (0,0))
 tk:∃cur,w.heap[g]?=V (Ae cur 115 (0,0))/\cur.toList.take (Z ts*3)=R.tokCells ts
 ne:g≠rb
 lt:st.K<Z ts
 ok:R.Ok ts
variable {row:Br Ad}
theorem zD {a b c:Ag}(h:a.grownBy b row)(k:b.grownBy c row):a.grownBy c row:=
 ⟨k.os.trans h.os,k.tape.trans h.tape,k.output.trans h.output,Bi h.size k.size,fun i hi hn=>(k.block i (Eh hi h.size) hn).trans (h.block i hi hn)⟩
theorem zT {a b:Ag}(h:a.grownBy b S)(row:Br Ad):a.grownBy b row:=
 ⟨h.os,h.tape,h.output,h.size,fun i hi _=>h.block i hi (by simp)⟩
theorem zP (w:Ag)(row:Br Ad):w.grownBy w row:=⟨rfl,rfl,rfl,Aq _,fun _ _ _=>rfl⟩
variable {w w':Ag}
theorem zt (h:Ms w.heap.size w w'):w.grownBy w' S:=⟨h.os,h.tape,h.output,h.size,fun k hk _=>h.block k hk⟩
theorem qh (h:w.grownBy w' S):Ms w.heap.size w w':=⟨h.os,h.tape,h.output,h.size,fun k hk=>h.block k hk (by simp)⟩
variable {o:Obj}
theorem zO (h:w.heap[b]?=V o):b<w.heap.size:=(Gy.1 h).1
variable {ts:A R.Tok}{st:R.St}{H:Aj}
theorem RInv.keep (h:RInv w rb g a ts st H)(d:w.grownBy w' S):RInv w' rb g a ts st H:=by
 refine⟨?_,?_,h.ne,h.lt,h.ok⟩
 ·rw[d.block rb (zO h.rd) (by simp)];exact h.rd
 ·obtain⟨b,c,f⟩:=h.tk
  exact⟨b,by rw[d.block g (zO c) (by simp)];exact c,f⟩
variable {f:Ad×Ad}
theorem zB {a:Array Aj}{t:Cs}(h:w.heap[b]?=V (Ae a t f)):w.cell? ⟨b,i,S⟩=a[i]?:=
 cell_of_row w b i a t f h
theorem zG {a:Array Aj}{t:Cs}(h:w.heap[b]?=V (Ae a t (0,0))):w.frozen? ⟨b,i,S⟩=false:=by
 unfold World.frozen?;simp[h]
theorem zm9 {a:Array Aj}{t:Cs}(i:Ad)(h:w.heap[b]?=V (Ae a t (0,0))):w.frozen? ⟨b,i,S⟩=false:=zG h
theorem cbi {l:A Aj}{t:Cs}(i:Ad){v:Aj}(h:w.heap[b]?=V (Ae ⟨l⟩ t f))(e:l[i]?=V v:=by exact rfl):w.cell? ⟨b,i,S⟩=V v:=by rw[zB h];simpa using e
theorem pO (ts:A R.Tok)(k:Ad)(h:k<Z ts)(j:Ad)(b:j<3):(R.tokCells ts)[k*3+j]?=(ts[k].cells)[j]?:=by
 induction ts generalizing k with
 |nil=>simp at h
 |cons t ts ih=>
  have e:R.tokCells (t::ts)=t.cells++R.tokCells ts:=by simp[R.tokCells]
  rw[e];have a:Z t.cells=3:=rfl
  match k with
  |0=>rw[Cx (by rw[a];omega)];simp
  |k+1=>
   rw[Cl (by rw[a];omega),a,show(k+1)*3+j-3=k*3+j by omega,ih k (by simpa using h)];rfl
theorem RInv.tok (h:RInv w rb g a ts st H)(k:Ad)(i:k<Z ts)(j:Ad)(f:j<3):w.cell? ⟨g,k*3+j,S⟩=(ts[k].cells)[j]?:=by
 obtain⟨b,c,d⟩:=h.tk;rw[zB c,<-pO ts k i j f,<-d,Gi,Az (by omega)];simp
variable {t:R.Tok}
theorem RInv.tok? (h:RInv w rb g b ts st H)(c:ts[st.K]?=V t):w.cell? ⟨g,st.K*3,S⟩=V (O Bp t.k)/\w.cell? ⟨g,st.K*3+1,S⟩=V (I (R.str t.s))/\w.cell? ⟨g,st.K*3+2,S⟩=V (O Ai t.at_):=by
 have a:=h.lt;have e:ts[st.K]=t:=by rw[Bd a] at c;exact Bc c
 have d:=h.tok st.K a 0 (by omega);have f:=h.tok st.K a 1 (by omega);have i:=h.tok st.K a 2 (by omega);rw[e] at d f i;exact⟨d,f,i⟩
theorem RInv.gl (h:RInv w rb g a ts st H):g<w.heap.size:=by grind[R.Tok,R.St,RInv]
abbrev Fa1 (a b c):=Fe #[O Bp a,I (R.str b),O Ai c]
theorem ur (h:RInv w rb g a ts st H)(b:ts[st.K]?=V t):Am prog 51 #[Al (V ⟨rb,0,S⟩)] w fun e w'=>e=Af (Fa1 t.k t.s t.at_)/\w.grownBy w' S:=by
 have i:=cbi 0 h.rd;have j:=cbi 1 h.rd;obtain⟨l,m,o⟩:=h.tok? b;have d:=h.lt;have c:=zO h.rd;have f:=h.gl;generalize st.K=k at*;generalize (Z ts)=n at*;go_in;go_wp2
 go_region
 go_wp2;exact Et (v:=.agg #[O Bp t.k,I (R.str t.s),O Ai t.at_]) (by simp[results,results51,go_sem]) rfl ⟨rfl,zt (((Vw _ _).alloc (Aq _) _).drew)⟩
def R.isB (st:R.St)(t:R.Tok)(s:A Ab):Ee:=decide (st.bad<0) && ((t.k == 119 || t.k == 115) && decide (t.s=s))
theorem ziL {d:Ad}(h:RInv w rb g d ts st H)(i:ts[st.K]?=V t)(s:As):Am prog 89 #[Al (V ⟨rb,0,S⟩),I s] w fun e w'=>e=Af (Av (R.isB st t s.data.toList))/\w.grownBy w' S:=by
 have b:Y (R.isB st t s.data.toList=(decide (st.bad<0) && ((t.k == 119 || t.k == 115) && decide (t.s=s.data.toList)))):=rfl;have m:((R.str t.s).toList == s.toList)=decide (t.s=s.data.toList):=by rw[El,El,R.str_toList,Eb];simp
 generalize decide (t.s=s.data.toList)=b3 at*
 by_cases f:st.bad<0
 ·cases h1:(t.k == 119) <;> cases h2:(t.k == 115)
  all_goals
   rw[h1,h2,Cf f] at b;go_in;go_wp2_with (go_at_call 51;refine(ur h i).mono ?_;rintro e l ⟨rfl,a⟩;have j:=cbi 2 (h.keep a).rd;have c:=zO (h.keep a).rd);go_ret;exact⟨zX (by rw[b.o];try rfl),zt ((qh a).alloc a.size _)⟩
 ·rw[Ce f] at b
  go_in;go_wp2_with (go_at_call 51;refine(ur h i).mono ?_;rintro e l ⟨rfl,a⟩;have j:=cbi 2 (h.keep a).rd;have c:=zO (h.keep a).rd);go_ret;exact⟨zX (by rw[b.o];try rfl),zt ((qh a).alloc a.size _)⟩
def R.overS (t:R.Tok)(st:R.St)(ok:Ee):R.St:=
 if 0<=st.bad then st else if ok then { st with K:=st.K+1 } else { st with bad:=t.at_ }
def R.notS (st:R.St)(ok:Ee)(e a:Ak):R.St:=
 if ok=false/\st.E=0/\st.bad<0 then { st with E:=e,at_:=a } else st
theorem zH {a:Array Aj}{t:Cs}(h:w.heap[b]?=V (Ae a t f))(v:Aj):(w.setCell ⟨b,i,S⟩ v).heap[b]?=V (Ae (a.setIfInBounds i v) t f):=by
 simp only[Bs,Sy,Az,h];simp
theorem ze7 (a b c:Aj)(w:Ag):(Instr.field 115 (Fe #[a,b,c]) 2).run prog w = .ok c w:=by kernel_rfl
theorem zF (w:Ag)(b i:Ad)(v:Aj):w.grownBy (w.setCell ⟨b,i,S⟩ v) (V b):=by
 refine⟨rfl,rfl,rfl,by simp[Bs],fun k hk hn=>?_⟩;exact Below.heap_setCell _ _ _ _ (fun e=>hn (by rw[e]))
theorem RInv.put {a:R.St}{d:Aj}(h:RInv w rb g b ts st H)(j:w.grownBy w' (V rb))
  (l:w'.heap[rb]?=V (Ae #[X (V ⟨g,0,S⟩) (Z ts) b,O Ai a.K,O Ai a.bad,O Ai a.E,O Ai a.at_,d] 113 (0,0))) (k:a.K<Z ts):RInv w' rb g b ts a d:=by
 refine⟨l,?_,h.ne,k,h.ok⟩;obtain⟨c,f,i⟩:=h.tk;exact⟨c,by rw[j.block g (zO f) (by simpa using h.ne)];exact f,i⟩
theorem oY {c:Ad}(h:RInv w rb g c ts st H)(n:ts[st.K]?=V t)(a:Ee)(f:a=true->st.bad<0->st.K+1<Z ts):Am prog 130 #[Al (V ⟨rb,0,S⟩),Av a] w fun e w'=>e=Af (Cm #[])/\RInv w' rb g c ts (R.overS t st a) H/\w.grownBy w' (V rb):=by
 have p:=cbi 2 h.rd;have o:=cbi 1 h.rd;have r:=zm9 1 h.rd;have j:=h.lt;have m:=h.ok.len
 by_cases i:0<=st.bad
 ·have b:Y (R.overS t st a=st):=by show R.overS t st a=st;unfold R.overS;rw[Az i]
  go_in;go_wp2;exact Et (v:=.tuple #[]) (results_none results130 _ _ _) rfl ⟨rfl,by rw[b.o];exact h,zP _ _⟩
 ·cases a
  ·have b:Y (R.overS t st false={ st with bad:=t.at_ }):=by show R.overS t st false=_;unfold R.overS;rw[Aw i];rfl
   have l:=ze7;go_in;go_wp2_with (go_at_call 51;refine(ur h n).mono ?_;rintro e u ⟨rfl,d⟩;have s:=zm9 2 (h.keep d).rd;have q:=cbi 2 (h.keep d).rd)
   go_end0
   refine⟨rfl,?_,zD (zT d _) (zF _ _ _ _)⟩;rw[b.o];exact(h.keep d).put (zF _ _ _ _) (zH (h.keep d).rd _) j
  ·have k:=J (f rfl (by omega))
   have b:Y (R.overS t st true={ st with K:=st.K+1 }):=by show R.overS t st true=_;unfold R.overS;rw[Aw i];rfl
   go_in;go_wp2
   go_end0
   refine⟨rfl,?_,zF _ _ _ _⟩;rw[b.o];exact h.put (zF _ _ _ _) (zH h.rd _) k.o
theorem j4 {j:Ad}(h:RInv w rb g j ts st H)(q:Ee)(c:Ak)(a b:Aj)(p:Ak):Am prog 85 #[Al (V ⟨rb,0,S⟩),Av q,O Ai c,Fe #[a,b,O Ai p]] w fun e w'=>e=Af (Cm #[])/\RInv w' rb g j ts (R.notS st q c p) H/\w.grownBy w' (V rb):=by
 have s:=cbi 2 h.rd;have t:=cbi 3 h.rd;have u:=cbi 4 h.rd;have v:=zm9 3 h.rd;have x:=zm9 4 h.rd;have l:=zO h.rd;have o:=h.lt;have d:w.grownBy (w.alloc (Ae #[a,b,O Ai p] 115)) S:=Ac _ _ _;have n:=h.keep d
 cases q
 ·by_cases i:st.E=0
  ·have m:(st.E == 0)=true:=by rw[i];rfl
   by_cases r:st.bad<0
   ·have f:Y (R.notS st false c p={ st with E:=c,at_:=p }):=by show R.notS st false c p=_;unfold R.notS;rw[Az ⟨rfl,i,r⟩]
    go_in;go_wp2
    go_end0
    have k:w.grownBy (((w.setCell ⟨rb,3,S⟩ (O Ai c)).setCell ⟨rb,4,S⟩ (O Ai p)).alloc (Ae #[a,b,O Ai p] 115)) (V rb):=
     zD (zD (zF _ _ _ _) (zF _ _ _ _)) (Ac _ _ _)
    refine⟨rfl,?_,k⟩;rw[f.o];refine h.put k ?_ o;rw[Below.heap_alloc _ _ _ (by simp[Bs];exact l)];exact zH (zH h.rd _) _
   ·have f:Y (R.notS st false c p=st):=by show R.notS st false c p=_;unfold R.notS;rw[Aw (fun h=>r h.2.2)]
    go_in;go_wp2
    go_end0
    exact⟨rfl,by rw[f.o];exact n,zT d _⟩
  ·have m:(st.E == 0)=false:=by rw[Ch];exact i
   have f:Y (R.notS st false c p=st):=by show R.notS st false c p=_;unfold R.notS;rw[Aw (fun h=>i h.2.1)]
   go_in;go_wp2
   go_end0
   exact⟨rfl,by rw[f.o];exact n,zT d _⟩
 ·have f:Y (R.notS st true c p=st):=by show R.notS st true c p=_;unfold R.notS;rw[Aw (fun h=>absurd h.1 (by simp))]
  go_in;go_wp2
  go_end0
  exact⟨rfl,by rw[f.o];exact n,zT d _⟩
theorem ql (h:(w.alloc o).grownBy w' row)(a:V w.heap.size≠row:=by first|(simp;omega)|simp):w'.heap[w.heap.size]?=V o:=by
 rw[h.block w.heap.size (by simp) a];exact heap_alloc_new w o
theorem zE (h:w.heap[b]?=V o)(a:w.grownBy w' row)(c:V b≠row:=by first|(simp;omega)|simp):w'.heap[b]?=V o:=by
 rw[a.block b (zO h) c];exact h
theorem World.heap_alloc_size (w:Ag)(o:Obj):(w.alloc o).heap.size=w.heap.size+1:=by simp
theorem RInv.other (h:RInv w rb g a ts st H)(f:w.grownBy w' (V b))(i:b≠rb)(j:b≠g):RInv w' rb g a ts st H:=by
 refine⟨?_,?_,h.ne,h.lt,h.ok⟩
 ·rw[f.block rb (zO h.rd) (by simpa using fun e=>i e.symm)];exact h.rd
 ·obtain⟨c,d,k⟩:=h.tk
  exact⟨c,by rw[f.block g (zO d) (by simpa using fun e=>j e.symm)];exact d,k⟩
theorem ze {a b c:Ag}{k:Ad}(h:a.grownBy b row)(d:b.grownBy c (V k))(f:a.heap.size<=k:=by omega):a.grownBy c row:=
 ⟨d.os.trans h.os,d.tape.trans h.tape,d.output.trans h.output,Bi h.size d.size,fun i hi hr=>(d.block i (Eh hi h.size) (by simp;omega)).trans (h.block i hi hr)⟩
theorem ziO (h:RInv w rb g b ts st H)(m:ts[st.K]?=V t)(s:As):Am prog 84 #[Al (V ⟨rb,0,S⟩),I s] w fun e w'=>e=Af (Fa1 t.k t.s t.at_)/\RInv w' rb g b ts (R.overS t st (R.isB st t s.data.toList)) H/\w.grownBy w' (V rb):=by
 have j:R.isB st t s.data.toList=true->st.bad<0->st.K+1<Z ts:=by
  intro E _;unfold R.isB at E;simp only[Ez,Sn,Hw] at E;exact h.ok.goes st.K t m (by omega) (by omega)
 have i:=fun {w:Ag} (h:RInv w rb g b ts st H)=>ziL h m s
 generalize R.isB st t s.data.toList=ib at*;have p:=J j;have o:Y _:=@i;have z:=J m;have y:=J h;have aa:=zO h.rd;have bg:=h.gl;go_in;go_wp2_with fail;refine(ur (y.o.keep (Ac _ _ _)) z.o).mono ?_;rintro e x ⟨rfl,c⟩;have B:Y (RInv x rb g b ts st H):=(y.o.keep (Ac _ _ _)).keep c;go_wp2_with fail;refine(o.o (B.o.keep (Ac _ _ _))).mono ?_;rintro e w2 ⟨rfl,a⟩;have Q:Y (RInv w2 rb g b ts st H):=(B.o.keep (Ac _ _ _)).keep a;go_wp2_with fail;refine(oY Q.o z.o ib p.o).mono ?_;rintro e F ⟨rfl,C,d⟩;have J3:=J C;have k1:=c.size;have k2:=a.size;simp only[World.heap_alloc_size] at k1 k2;have n:=zE (ql a) d;have f:=zE (zE (zE (ql c) (Ac x _ S)) a) d;have ab:=cbi 0 n;have ad:=cbi 1 n;have ae:=cbi 2 n;have q:=cbi 0 f;have r:=cbi 1 f;have u:=cbi 2 f;have f0:=zm9 0 f;have f1:=zm9 1 f;have f2:=zm9 2 f;have N:Y (w.grownBy F (V rb)):=zD (zT (zD (zD (zD (Ac w _ S) c) (Ac x _ S)) a) _) d;go_wp2;have l:=zD (zD (zF F w.heap.size 0 (O Bp t.k)) (zF _ w.heap.size 1 (I (R.str t.s)))) (zF _ w.heap.size 2 (O Ai t.at_));exact Et (v:=.agg #[O Bp t.k,I (R.str t.s),O Ai t.at_]) (by simp[results,results84,go_sem,q,r,u]) rfl
  ⟨rfl,J3.o.other l (by omega) (by omega),ze N.o l (Aq _)⟩
theorem ziM {c:Ad}(h:RInv w rb g c ts st H)(p:ts[st.K]?=V t)(k:Ak)(f:k≠0)(i:k≠120):Am prog 86 #[Al (V ⟨rb,0,S⟩),O Bp k] w fun e w'=>e=Af (Fa1 t.k t.s t.at_)/\RInv w' rb g c ts (R.overS t st (t.k == k)) H/\w.grownBy w' (V rb):=by
 have j:(t.k == k)=true->st.bad<0->st.K+1<Z ts:=by
  intro o _;rw[Hw] at o;exact h.ok.goes st.K t p (by rw[o];exact f) (by rw[o];exact i)
 have n:=J j;have z:=J p;have y:=J h;have Q:=zO h.rd;have bg:=h.gl;go_in;go_wp2_with fail;refine(ur (y.o.keep (Ac _ _ _)) z.o).mono ?_;rintro e x ⟨rfl,a⟩;have F:Y (RInv x rb g c ts st H):=(y.o.keep (Ac _ _ _)).keep a;go_wp2_with fail;refine(oY (F.o.keep (Ac _ _ _)) z.o (t.k == k) n.o).mono ?_;rintro e C ⟨rfl,B,b⟩;have N:=J B;have k1:=a.size;have k3:=b.size;simp only[World.heap_alloc_size] at k1 k3;have m:=ql b;have d:=zE (zE (ql a) (Ac x _ S)) b;have aa:=cbi 0 m;have ab:=cbi 1 m;have ad:=cbi 2 m;have q:=cbi 0 d;have r:=cbi 1 d;have u:=cbi 2 d;have f0:=zm9 0 d;have f1:=zm9 1 d;have f2:=zm9 2 d;have E:Y (w.grownBy C (V rb)):=zD (zT (zD (zD (Ac w _ S) a) (Ac x _ S)) _) b;go_wp2;have l:=zD (zD (zF C w.heap.size 0 (O Bp t.k)) (zF _ w.heap.size 1 (I (R.str t.s)))) (zF _ w.heap.size 2 (O Ai t.at_));exact Et (v:=.agg #[O Bp t.k,I (R.str t.s),O Ai t.at_]) (by simp[results,results86,go_sem,q,r,u]) rfl
  ⟨rfl,N.o.other l (by omega) (by omega),ze E.o l (Aq _)⟩
theorem zaK (s:As)(k:Ad)(h:k<s.size):R.num (s.data.toList.take (k+1))=R.numStep (R.num (s.data.toList.take k)) s[k]:=by
 rw[R.take_snoc s k h];unfold R.num;rw[Mb];rfl
theorem ut (a c:Aj)(s:As)(w:Ag)(j:s.size<=3000):Am prog 132 #[Fe #[a,I s,c]] w fun e w'=>e=Af (O Ai (R.num s.data.toList))/\w.grownBy w' S:=by
 go_in;go_wp2
 go_loop [3,4] (fun n i=>∃k:Ad,k<=s.size/\i=O Ai k/\n=O Ai (R.num (s.data.toList.take k))) (fun _ i=>s.size-(intOf i).toNat)
 ·exact⟨0,Ax _,rfl,rfl⟩
 ·
  obtain⟨k,h,rfl,rfl⟩:=hrel
  by_cases d:k<s.size
  ·have f:Y _:=zaK s k d
   generalize R.num (s.data.toList.take k)=n at*;generalize g:s[k]=b at*;go_wp2;exact⟨⟨k+1,by omega,by go_num,by rw[f.o];rfl⟩,by simp[intOf];omega⟩
  ·go_wp2
   go_ret;exact⟨by rw[Cc (by rw[R.size_eq];omega)];rfl,Ac _ _ _⟩
theorem zV (w:Ag):w.grownBy w.drew S:=⟨rfl,rfl,rfl,Aq _,fun _ _ _=>rfl⟩
def R.cur (ts:A R.Tok)(st:R.St):R.Tok:=ts.getD st.K ⟨0,[],0⟩
theorem RInv.cur (h:RInv w rb g a ts st H):ts[st.K]?=V (R.cur ts st):=by grind[R.cur,R.Tok,R.St,RInv]
theorem RInv.curlen (h:RInv w rb g a ts st H):(R.str (R.cur ts st).s).size<=3000:=by
 rw[R.str_size];exact h.ok.strs _ _ h.cur
def R.needS (ts:A R.Tok)(st:R.St)(s:A Ab):R.St:=R.overS (R.cur ts st) st (R.isB st (R.cur ts st) s)
def R.kindS (ts:A R.Tok)(st:R.St)(k:Ak):R.St:=R.overS (R.cur ts st) st ((R.cur ts st).k == k)
abbrev Fa0 (a b):=Fe #[O Bp (R.cur a b).k,I (R.str (R.cur a b).s),O Ai (R.cur a b).at_]
theorem qv (h:RInv w rb g a ts st H)(s:As):Am prog 84 #[Al (V ⟨rb,0,S⟩),I s] w fun e w'=>e=Af (Fa0 ts st)/\RInv w' rb g a ts (R.needS ts st s.data.toList) H/\w.grownBy w' (V rb):=
 ziO h h.cur s
theorem kO (h:RInv w rb g a ts st H)(k:Ak)(b:k≠0:=by decide)(c:k≠120:=by decide):Am prog 86 #[Al (V ⟨rb,0,S⟩),O Bp k] w fun e w'=>e=Af (Fa0 ts st)/\RInv w' rb g a ts (R.kindS ts st k) H/\w.grownBy w' (V rb):=
 ziM h h.cur k b c
theorem uC (h:RInv w rb g a ts st H)(s:As):Am prog 89 #[Al (V ⟨rb,0,S⟩),I s] w fun e w'=>e=Af (Av (R.isB st (R.cur ts st) s.data.toList))/\w.grownBy w' S:=
 ziL h h.cur s
theorem tokbox {d f:Ag}{a b c:Aj}(i:(d.alloc (Ae #[a,b,c] 115)).grownBy f (V rb))(h:rb<d.heap.size):f.cell? ⟨d.heap.size,0,S⟩=V a/\f.cell? ⟨d.heap.size,1,S⟩=V b/\f.cell? ⟨d.heap.size,2,S⟩=V c:=by
 have g:=ql i;exact⟨zB g,zB g,zB g⟩
def R.pathS (ts:A R.Tok)(st:R.St):A Ab×R.St:=
 ((R.cur ts st).s,R.notS (R.kindS ts st 34) (R.path (R.cur ts st).s) 4 (R.cur ts st).at_)
theorem oZ (h:RInv w rb g b ts st H):Am prog 133 #[Al (V ⟨rb,0,S⟩)] w fun e w'=>e=Af (I (R.str (R.pathS ts st).1))/\RInv w' rb g b ts (R.pathS ts st).2 H/\w.grownBy w' (V rb):=by
 have q:=h.curlen;have d:(R.str (R.cur ts st).s).size<=Bh:=by unfold Bh;omega
 have i:Y (R.pathS ts st=((R.cur ts st).s,R.notS (R.kindS ts st 34) (R.path (R.cur ts st).s) 4 (R.cur ts st).at_)):=rfl;have l:=J h;have n:=J d;generalize R.pathS ts st=r at*;go_in;go_wp2_with fail;refine(kO l.o 34).mono ?_;rintro e z ⟨rfl,f,c⟩;have p:=zO f.rd;have o:=J f;go_wp2_with fail;refine(nc _ _ n.o).mono ?_;rintro e t ⟨rfl,rfl⟩;go_wp2_with fail;refine(j4 (o.o.keep (Ac _ _ _)) _ _ _ _ _).mono ?_;rintro e u ⟨rfl,j,a⟩;obtain⟨v,x,y⟩:=tokbox a p;have k:=J j;have m:Y (w.grownBy u (V rb)):=zD c (zD (Ac _ _ _) a);go_wp2;go_ret;rw[R.str_toList] at k;exact⟨by rw[i.o];rfl,by rw[i.o];exact k.o,m.o⟩
def R.valueS (ts:A R.Tok)(st:R.St):A Ab×R.St:=
 ((R.cur ts (R.needS ts st [61])).s,R.notS (R.kindS ts (R.needS ts st [61]) 34) (R.value (R.cur ts (R.needS ts st [61])).s) 4 (R.cur ts (R.needS ts st [61])).at_)
theorem sW (h:RInv w rb g b ts st H):Am prog 191 #[Al (V ⟨rb,0,S⟩)] w fun e w'=>e=Af (I (R.str (R.valueS ts st).1))/\RInv w' rb g b ts (R.valueS ts st).2 H/\w.grownBy w' (V rb):=by
 have j:Y (R.valueS ts st=((R.cur ts (R.needS ts st [61])).s,R.notS (R.kindS ts (R.needS ts st [61]) 34) (R.value (R.cur ts (R.needS ts st [61])).s) 4 (R.cur ts (R.needS ts st [61])).at_)):=rfl;have n:=J h;generalize R.valueS ts st=r at*;go_in;go_wp2_with fail;refine(qv n.o _).mono ?_;rintro e w0 ⟨rfl,f,c⟩;rw[show(⟨#[61]⟩:As).data.toList=[61] from rfl] at f;have l:=J f;generalize R.needS ts st [61]=st0 at*;have u:=l.o.curlen;have p:Y ((R.str (R.cur ts st0).s).size<=Bh):=by show _<=_;unfold Bh;omega
 go_wp2_with fail;refine(kO l.o 34).mono ?_;rintro e C ⟨rfl,i,d⟩;have t:=zO i.rd;have q:=J i;go_wp2_with fail;refine(dj _ _ p.o).mono ?_;rintro e v ⟨rfl,rfl⟩;go_wp2_with fail;refine(j4 (q.o.keep (Ac _ _ _)) _ _ _ _ _).mono ?_;rintro e x ⟨rfl,k,a⟩;obtain⟨y,z,B⟩:=tokbox a t;have m:=J k;have o:Y (w.grownBy x (V rb)):=zD c (zD d (zD (Ac _ _ _) a));go_wp2;go_ret;rw[R.str_toList] at m;exact⟨by rw[j.o];rfl,by rw[j.o];exact m.o,o.o⟩
def R.among (l:A (A Ab))(s:A Ab)(p:Ak)(st:R.St):R.St:=l.foldl (fun st a=>R.notS st (decide (a≠s)) 5 p) st
def R.headerS (ts:A R.Tok)(st:R.St)(l:A (A Ab)):A Ab×R.St:=
 (R.lower (R.cur ts st).s,R.among l (R.lower (R.cur ts st).s) (R.cur ts st).at_ (R.notS (R.kindS ts st 34) (R.header (R.cur ts st).s true) 4 (R.cur ts st).at_))
def zY (l:A (A Ab)):A Aj:=l.map fun s=>I (R.str s)
def StrRow (w:Ag)(v:Aj)(l:A (A Ab)):Prop:=w.ownsRow 0 9 1 v (Z l) (zY l)
theorem bB {f:Ad}(h:RInv w rb g f ts st H)(v:Aj)(l:A (A Ab))(hv:StrRow w v l)(hn:Z l<=10000)(z:v.ownBlock≠V rb):Am prog 190 #[Al (V ⟨rb,0,S⟩),v] w fun e w'=>e=Af (I (R.str (R.headerS ts st l).1))/\RInv w' rb g f ts (R.headerS ts st l).2 H/\w.grownBy w' (V rb):=by
 have hl:=h.curlen;have HL:Y ((R.str (R.cur ts st).s).size<=100000):=by show _<=_;omega
 have B:Y (R.headerS ts st l=(R.lower (R.cur ts st).s,R.among l (R.lower (R.cur ts st).s) (R.cur ts st).at_ (R.notS (R.kindS ts st 34) (R.header (R.cur ts st).s true) 4 (R.cur ts st).at_))):=rfl;have H0:=J h;have HV:=J hv;generalize R.headerS ts st l=r at*;go_in;go_wp2_with fail;refine(kO H0.o 34).mono ?_;rintro e Q ⟨rfl,I1,p⟩;have b1:=zO I1.rd;have J1:=J I1;go_wp2_with fail;refine(tz _ _ _ HL.o).mono ?_;rintro e w2 ⟨rfl,n⟩;have c:=zt n;obtain⟨E,F,N⟩:=tokbox (zT c (V rb)) b1;have J2:Y _:=(J1.o.keep (Ac _ _ _)).keep c;go_wp2_with fail;refine(j4 J2.o _ _ _ _ _).mono ?_;rintro e w3 ⟨rfl,I3,q⟩;rw[R.str_toList] at I3;have J3:=J I3;have b:=zD (zT c (V rb)) q;obtain⟨E,F,N⟩:=tokbox b b1;go_wp2_with fail;refine(uV _ _ HL.o).mono ?_;rintro e w4 ⟨rfl,o⟩;have d:=zt o;have J4:Y _:=J3.o.keep d;have ab:=J (zE (ql b) d);have HG:Y (w.grownBy w4 (V rb)):=zD p (zD (zD (Ac Q _ _) b) (zT d _));rw[R.str_toList];have m:=J (HV.o.kept HG.o (Bf z));generalize R.notS (R.kindS ts st 34) (R.header (R.cur ts st).s true) 4 (R.cur ts st).at_=st4 at*;generalize ae:R.lower (R.cur ts st).s=lo at*;generalize R.cur ts st=t at*;go_wp2_with fail
 go_loopw [8] (fun i wr=>∃k:Ad,k<=Z l/\i=O Ai k/\Y (RInv wr rb g f ts (R.among (l.take k) lo t.at_ st4) H)/\Y (w4.grownBy wr (V rb))) (fun i _=>Z l-(intOf i).toNat)
 ·exact⟨0,Ax _,rfl,J4,zP _ _⟩
 ·
  obtain⟨k,hk,rfl,C,j⟩:=hrel;have x:v.ownBlock=S/\l=[]/\v=X S 0 0\/∃gv cv,v=X (V ⟨gv,0,S⟩) (Z l) cv/\w4.ownsRow 0 9 1 (X (V ⟨gv,0,S⟩) (Z l) cv) (Z l) (zY l):=by
   rcases m.o with ⟨h1,h2|⟨gv,cv,cur,rfl,h3⟩⟩
   ·left;refine⟨by rw[h2.1];rfl,?_,h2.1⟩;have:=h2.2;exact Ep.1 this
   ·right;exact⟨gv,cv,rfl,m.o⟩
  rcases x with ⟨_,rfl,rfl⟩|⟨gv,cv,rfl,hrow⟩
  ·have ad:k=0:=by simpa using hk
   subst ad;go_wp2;go_ret;exact⟨by rw[B.o];rfl,by rw[B.o];exact C.o,zD HG.o j.o⟩
  ·by_cases y:k<Z l
   ·have c1:wr.cell? ⟨gv,k,S⟩=V (I (R.str l[k])):=by
     have hc:=hrow.cellAt k (by omega);rw[j.o.cell (a:=⟨gv,k,S⟩) (v:=.string (R.str l[k])) (by rw[hc];unfold zY;simp[y]) (by simpa[Value.ownBlock] using z)]
    obtain⟨E,F,N⟩:wr.cell? ⟨Q.heap.size,0,S⟩=V (O Bp t.k)/\wr.cell? ⟨Q.heap.size,1,S⟩=V (I (R.str t.s))/\wr.cell? ⟨Q.heap.size,2,S⟩=V (O Ai t.at_):=by
     have n1:=zE ab.o j.o;exact⟨zB n1,zB n1,zB n1⟩
    have hq:((R.str l[k]).toList == (R.str lo).toList)=decide (l[k]=lo):=by
     rw[toLs,El,R.str_toList]
    have HA:Y (R.among (l.take (k+1)) lo t.at_ st4=R.notS (R.among (l.take k) lo t.at_ st4) (!decide (l[k]=lo)) 5 t.at_):=by
     show R.among _ _ _ _=_;unfold R.among;rw[Co y,Mb,<-Qu];rfl
    generalize decide (l[k]=lo)=bb at*;generalize R.str l[k]=lk at*;generalize R.among (l.take k) lo t.at_ st4=stk at*;go_wp2
    go_region_with (go_at_call 85;refine(j4 (C.o.keep (zV wr)) _ _ _ _ _).mono ?_;rintro e w5 ⟨rfl,I5,u⟩)
    all_goals
     rw[<-HA.o] at I5;have J5:=J I5;have aa:Y _:=zD j.o (zD (zT (zV wr) _) u);go_wp2;exact⟨⟨k+1,by omega,by go_num,J5,aa⟩,by simp[intOf];omega⟩
   ·go_wp2
    go_ret;exact⟨by rw[B.o];rfl,by rw[B.o];rw[Cc (by omega)] at C;exact C.o,zD HG.o j.o⟩
end Go.Proofs.YtfocdefchbnkpaaGreatDoor
namespace Go.Proofs
open Go.Shelf Go.RowKit Go.Lib Tryz
def Tryz.lays137_ren: Ij := ⟨fun|137 => 264|217 => 323|266 => 375|n => n, fun|9 => 9|5 => 5|3 => 3|n => n, fun|n => n⟩
theorem Tryz.lays137: Go.Proofs.Lays.n137 prog Tryz.lays137_ren := {
 mixed:=by kernel_rfl
 f137:=func264.trans cgk
 f217:=func323.trans cgk
 f266:=func375.trans cgk
 t3:=underlying3
 a3:=isAgg3
 z3:=sizeOf3
 v3:=zeroValue3
 t5:=underlying5
 a5:=isAgg5
 z5:=sizeOf5
 v5:=zeroValue5
 t9:=underlying9
 a9:=isAgg9
 z9:=sizeOf9
 v9:=zeroValue9 }
theorem Tryz.strings_IndexByte (s : As) (c : Ak) (w : Ag):Am prog 264 #[I s, O Bp c] w fun e w' => e=Af (O Ai (Mf s.data.toList c.toNat.toUInt8)) ∧ w'=w := Any.strings_IndexByte Tryz.lays137 s c w
def Tryz.lays219_ren: Ij := ⟨fun|219 => 364|217 => 323|225 => 405|224 => 406|267 => 407|266 => 375|314 => 425|n => n, fun|9 => 9|3 => 3|4 => 4|5 => 5|46 => 220|146 => 388|51 => 152|n => n, fun|1 => 0|n => n⟩
theorem Tryz.lays219: Go.Proofs.Lays.n219 prog Tryz.lays219_ren := {
 mixed:=by kernel_rfl
 f217:=func323.trans cgk
 f219:=func364.trans cgk
 f224:=func406.trans cgk
 f225:=func405.trans cgk
 f266:=func375.trans cgk
 f267:=func407.trans cgk
 f314:=func425.trans cgk
 t3:=underlying3
 a3:=isAgg3
 z3:=sizeOf3
 v3:=zeroValue3
 t4:=underlying4
 a4:=isAgg4
 z4:=sizeOf4
 v4:=zeroValue4
 t5:=underlying5
 a5:=isAgg5
 z5:=sizeOf5
 v5:=zeroValue5
 t9:=underlying9
 a9:=isAgg9
 z9:=sizeOf9
 v9:=zeroValue9
 t46:=underlying220
 a46:=isAgg220
 z46:=sizeOf220
 v46:=zeroValue220
 t51:=underlying152
 a51:=isAgg152
 z51:=sizeOf152
 v51:=zeroValue152
 t146:=underlying388
 a146:=isAgg388
 z146:=sizeOf388
 v146:=zeroValue388
 g1:=by kernel_rfl }
theorem Tryz.stringslite_Index_one (s : As) (c : Ab) (w : Ag):Am prog 364 #[I s, I ⟨#[c]⟩] w fun e w' => e=Af (O Ai (Mf s.data.toList c)) ∧ w'=w := Any.stringslite_Index_one Tryz.lays219 s c w
def Tryz.lays144_ren: Ij := ⟨fun|144 => 322|143 => 374|219 => 364|217 => 323|225 => 405|224 => 406|267 => 407|266 => 375|314 => 425|n => n, fun|9 => 9|4 => 4|3 => 3|5 => 5|46 => 220|146 => 388|51 => 152|n => n, fun|1 => 0|n => n⟩
theorem Tryz.lays144: Go.Proofs.Lays.n144 prog Tryz.lays144_ren := {
 mixed:=by kernel_rfl
 f143:=func374.trans cgk
 f144:=func322.trans cgk
 f217:=func323.trans cgk
 f219:=func364.trans cgk
 f224:=func406.trans cgk
 f225:=func405.trans cgk
 f266:=func375.trans cgk
 f267:=func407.trans cgk
 f314:=func425.trans cgk
 t3:=underlying3
 a3:=isAgg3
 z3:=sizeOf3
 v3:=zeroValue3
 t4:=underlying4
 a4:=isAgg4
 z4:=sizeOf4
 v4:=zeroValue4
 t5:=underlying5
 a5:=isAgg5
 z5:=sizeOf5
 v5:=zeroValue5
 t9:=underlying9
 a9:=isAgg9
 z9:=sizeOf9
 v9:=zeroValue9
 t46:=underlying220
 a46:=isAgg220
 z46:=sizeOf220
 v46:=zeroValue220
 t51:=underlying152
 a51:=isAgg152
 z51:=sizeOf152
 v51:=zeroValue152
 t146:=underlying388
 a146:=isAgg388
 z146:=sizeOf388
 v146:=zeroValue388
 g1:=by kernel_rfl }
theorem Tryz.strings_Contains_one (s : As) (c : Ab) (w : Ag):Am prog 322 #[I s, I ⟨#[c]⟩] w fun e w' => e=Af (Av (decide (0 ≤ Mf s.data.toList c))) ∧ w'=w := Any.strings_Contains_one Tryz.lays144 s c w
def Tryz.lays172_ren: Ij := ⟨fun|172 => 236|244 => 306|245 => 307|247 => 359|279 => 360|280 => 361|281 => 362|282 => 363|287 => 402|316 => 403|171 => 159|205 => 404|321 => 423|322 => 424|243 => 219|246 => 298|283 => 346|284 => 347|285 => 348|286 => 349|129 => 285|317 => 387|318 => 388|319 => 389|320 => 390|337 => 415|338 => 416|n => n, fun|9 => 9|3 => 3|75 => 270|76 => 271|4 => 4|5 => 5|167 => 421|37 => 32|0 => 0|85 => 422|2 => 2|168 => 424|53 => 60|175 => 451|46 => 220|210 => 454|127 => 215|145 => 466|143 => 464|21 => 21|171 => 415|173 => 417|212 => 441|51 => 152|20 => 20|213 => 442|232 => 469|233 => 470|80 => 58|n => n, fun|15 => 2|16 => 3|17 => 1|18 => 4|19 => 5|n => n⟩
theorem Tryz.lays172: Go.Proofs.Lays.n172 prog Tryz.lays172_ren := {
 mixed:=by kernel_rfl
 f129:=func285.trans cgk
 f171:=func159.trans cgk
 f172:=func236.trans cgk
 f205:=func404.trans cgk
 f243:=func219.trans cgk
 f244:=func306.trans cgk
 f245:=func307.trans cgk
 f246:=func298.trans cgk
 f247:=func359.trans cgk
 f279:=func360.trans cgk
 f280:=func361.trans cgk
 f281:=func362.trans cgk
 f282:=func363.trans cgk
 f283:=func346.trans cgk
 f284:=func347.trans cgk
 f285:=func348.trans cgk
 f286:=func349.trans cgk
 f287:=func402.trans cgk
 f316:=func403.trans cgk
 f317:=func387.trans cgk
 f318:=func388.trans cgk
 f319:=func389.trans cgk
 f320:=func390.trans cgk
 f321:=func423.trans cgk
 f322:=func424.trans cgk
 f337:=func415.trans cgk
 f338:=func416.trans cgk
 t0:=underlying0
 a0:=isAgg0
 z0:=sizeOf0
 v0:=zeroValue0
 t2:=underlying2
 a2:=isAgg2
 z2:=sizeOf2
 v2:=zeroValue2
 t3:=underlying3
 a3:=isAgg3
 z3:=sizeOf3
 v3:=zeroValue3
 t4:=underlying4
 a4:=isAgg4
 z4:=sizeOf4
 v4:=zeroValue4
 t5:=underlying5
 a5:=isAgg5
 z5:=sizeOf5
 v5:=zeroValue5
 t9:=underlying9
 a9:=isAgg9
 z9:=sizeOf9
 v9:=zeroValue9
 t20:=underlying20
 a20:=isAgg20
 z20:=sizeOf20
 v20:=zeroValue20
 t21:=underlying21
 a21:=isAgg21
 z21:=sizeOf21
 v21:=zeroValue21
 t37:=underlying32
 a37:=isAgg32
 z37:=sizeOf32
 v37:=zeroValue32
 t46:=underlying220
 a46:=isAgg220
 z46:=sizeOf220
 v46:=zeroValue220
 t51:=underlying152
 a51:=isAgg152
 z51:=sizeOf152
 v51:=zeroValue152
 t53:=underlying60
 a53:=isAgg60
 z53:=sizeOf60
 v53:=zeroValue60
 t75:=underlying270
 a75:=isAgg270
 z75:=sizeOf270
 v75:=zeroValue270
 t76:=underlying271
 a76:=isAgg271
 z76:=sizeOf271
 v76:=zeroValue271
 t85:=underlying422
 a85:=isAgg422
 z85:=sizeOf422
 v85:=zeroValue422
 t127:=underlying215
 a127:=isAgg215
 z127:=sizeOf215
 v127:=zeroValue215
 t143:=underlying464
 a143:=isAgg464
 z143:=sizeOf464
 v143:=zeroValue464
 t145:=underlying466
 a145:=isAgg466
 z145:=sizeOf466
 v145:=zeroValue466
 t167:=underlying421
 a167:=isAgg421
 z167:=sizeOf421
 v167:=zeroValue421
 t168:=underlying424
 a168:=isAgg424
 z168:=sizeOf424
 v168:=zeroValue424
 t171:=underlying415
 a171:=isAgg415
 z171:=sizeOf415
 v171:=zeroValue415
 t173:=underlying417
 a173:=isAgg417
 z173:=sizeOf417
 v173:=zeroValue417
 t175:=underlying451
 a175:=isAgg451
 z175:=sizeOf451
 v175:=zeroValue451
 t210:=underlying454
 a210:=isAgg454
 z210:=sizeOf454
 v210:=zeroValue454
 t212:=underlying441
 a212:=isAgg441
 z212:=sizeOf441
 v212:=zeroValue441
 t213:=underlying442
 a213:=isAgg442
 z213:=sizeOf442
 t232:=underlying469
 a232:=isAgg469
 z232:=sizeOf469
 v232:=zeroValue469
 t233:=underlying470
 a233:=isAgg470
 z233:=sizeOf470
 v233:=zeroValue470
 g15:=by kernel_rfl
 g16:=by kernel_rfl
 g17:=by kernel_rfl
 g18:=by kernel_rfl
 g19:=by kernel_rfl }
theorem Tryz.strconv_Atoi (s : As) (n : Ak) (hl : s.size ≤ 18) (h : Lib.atoi s.data.toList=V n) (w : Ag):Am prog 236 #[I s] w fun e w' => e=Af (Cm #[O Ai n, .nilIface]) ∧ ∃ t, w'=Lib.bytesWorld w 5 t := Any.strconv_Atoi Tryz.lays172 s n hl h w
def Tryz.lays99_ren: Ij := ⟨fun|99 => 216|206 => 230|n => n, fun|9 => 9|4 => 4|3 => 3|n => n, fun|n => n⟩
theorem Tryz.lays99: Go.Proofs.Lays.n99 prog Tryz.lays99_ren := {
 mixed:=by kernel_rfl
 f99:=func216.trans cgk
 f206:=func230.trans cgk
 t3:=underlying3
 a3:=isAgg3
 z3:=sizeOf3
 v3:=zeroValue3
 t4:=underlying4
 a4:=isAgg4
 z4:=sizeOf4
 v4:=zeroValue4
 t9:=underlying9
 a9:=isAgg9
 z9:=sizeOf9
 v9:=zeroValue9 }
theorem Tryz.strings_HasPrefix (s p : As) (w : Ag):Am prog 216 #[I s, I p] w fun e w' => e=Af (Av (Lib.hasPrefix s.data.toList p.data.toList)) ∧ w'=w := Any.strings_HasPrefix Tryz.lays99 s p w
def Tryz.lays101_ren: Ij := ⟨fun|101 => 244|208 => 312|206 => 230|n => n, fun|9 => 9|4 => 4|3 => 3|n => n, fun|n => n⟩
theorem Tryz.lays101: Go.Proofs.Lays.n101 prog Tryz.lays101_ren := {
 mixed:=by kernel_rfl
 f101:=func244.trans cgk
 f206:=func230.trans cgk
 f208:=func312.trans cgk
 t3:=underlying3
 a3:=isAgg3
 z3:=sizeOf3
 v3:=zeroValue3
 t4:=underlying4
 a4:=isAgg4
 z4:=sizeOf4
 v4:=zeroValue4
 t9:=underlying9
 a9:=isAgg9
 z9:=sizeOf9
 v9:=zeroValue9 }
theorem Tryz.strings_TrimPrefix (s p : As) (w : Ag):Am prog 244 #[I s, I p] w fun e w' => e=Af (I ⟨(Lib.trimPrefix s.data.toList p.data.toList).toArray⟩) ∧ w'=w := Any.strings_TrimPrefix Tryz.lays101 s p w
def Tryz.lays160_ren: Ij := ⟨fun|160 => 356|232 => 395|231 => 394|227 => 396|234 => 398|233 => 397|236 => 400|235 => 399|228 => 420|271 => 422|151 => 421|197 => 418|120 => 429|152 => 428|260 => 427|137 => 264|119 => 430|224 => 406|225 => 405|217 => 323|266 => 375|n => n, fun|9 => 9|4 => 4|3 => 3|5 => 5|117 => 447|116 => 446|0 => 0|124 => 450|21 => 21|105 => 460|46 => 220|119 => 472|139 => 475|138 => 474|n => n, fun|3 => 6|4 => 7|n => n⟩
theorem Tryz.lays160: Go.Proofs.Lays.n160 prog Tryz.lays160_ren := {
 mixed:=by kernel_rfl
 f119:=func430.trans cgk
 f120:=func429.trans cgk
 f137:=func264.trans cgk
 f151:=func421.trans cgk
 f152:=func428.trans cgk
 f160:=func356.trans cgk
 f197:=func418.trans cgk
 f217:=func323.trans cgk
 f224:=func406.trans cgk
 f225:=func405.trans cgk
 f227:=func396.trans cgk
 f228:=func420.trans cgk
 f231:=func394.trans cgk
 f232:=func395.trans cgk
 f233:=func397.trans cgk
 f234:=func398.trans cgk
 f235:=func399.trans cgk
 f236:=func400.trans cgk
 f260:=func427.trans cgk
 f266:=func375.trans cgk
 f271:=func422.trans cgk
 t0:=underlying0
 a0:=isAgg0
 z0:=sizeOf0
 v0:=zeroValue0
 t3:=underlying3
 a3:=isAgg3
 z3:=sizeOf3
 v3:=zeroValue3
 t4:=underlying4
 a4:=isAgg4
 z4:=sizeOf4
 v4:=zeroValue4
 t5:=underlying5
 a5:=isAgg5
 z5:=sizeOf5
 v5:=zeroValue5
 t9:=underlying9
 a9:=isAgg9
 z9:=sizeOf9
 v9:=zeroValue9
 t21:=underlying21
 a21:=isAgg21
 z21:=sizeOf21
 v21:=zeroValue21
 t46:=underlying220
 a46:=isAgg220
 z46:=sizeOf220
 v46:=zeroValue220
 t105:=underlying460
 a105:=isAgg460
 z105:=sizeOf460
 v105:=zeroValue460
 t116:=underlying446
 a116:=isAgg446
 z116:=sizeOf446
 t117:=underlying447
 a117:=isAgg447
 z117:=sizeOf447
 v117:=zeroValue447
 t119:=underlying472
 a119:=isAgg472
 z119:=sizeOf472
 t124:=underlying450
 a124:=isAgg450
 z124:=sizeOf450
 v124:=zeroValue450
 t138:=underlying474
 a138:=isAgg474
 z138:=sizeOf474
 v138:=zeroValue474
 t139:=underlying475
 a139:=isAgg475
 z139:=sizeOf475
 v139:=zeroValue475
 g3:=by kernel_rfl
 g4:=by kernel_rfl }
theorem Tryz.strings_Trim_one (s : As) (c : Ab) (hc : c.toNat < 128) (w : Ag) (hs : s.size ≤ 9223372036854775807):Am prog 356 #[I s, I ⟨#[c]⟩] w fun e w' => e=Af (I ⟨(Lib.trimB s.data.toList c).toArray⟩) ∧ (w'=w ∨ w'=w.drew) := Any.strings_Trim_one Tryz.lays160 s c hc w hs
def Tryz.lays146_ren: Ij := ⟨fun|146 => 301|221 => 351|268 => 391|138 => 392|143 => 374|195 => 417|197 => 418|218 => 419|219 => 364|260 => 427|217 => 323|225 => 405|224 => 406|267 => 407|266 => 375|314 => 425|n => n, fun|9 => 9|31 => 22|3 => 3|4 => 4|0 => 0|105 => 460|21 => 21|5 => 5|46 => 220|119 => 472|139 => 475|138 => 474|146 => 388|51 => 152|n => n, fun|1 => 0|3 => 6|4 => 7|n => n⟩
theorem Tryz.lays146: Go.Proofs.Lays.n146 prog Tryz.lays146_ren := {
 mixed:=by kernel_rfl
 f138:=func392.trans cgk
 f143:=func374.trans cgk
 f146:=func301.trans cgk
 f195:=func417.trans cgk
 f197:=func418.trans cgk
 f217:=func323.trans cgk
 f218:=func419.trans cgk
 f219:=func364.trans cgk
 f221:=func351.trans cgk
 f224:=func406.trans cgk
 f225:=func405.trans cgk
 f260:=func427.trans cgk
 f266:=func375.trans cgk
 f267:=func407.trans cgk
 f268:=func391.trans cgk
 f314:=func425.trans cgk
 t0:=underlying0
 a0:=isAgg0
 z0:=sizeOf0
 v0:=zeroValue0
 t3:=underlying3
 a3:=isAgg3
 z3:=sizeOf3
 v3:=zeroValue3
 t4:=underlying4
 a4:=isAgg4
 z4:=sizeOf4
 v4:=zeroValue4
 t5:=underlying5
 a5:=isAgg5
 z5:=sizeOf5
 v5:=zeroValue5
 t9:=underlying9
 a9:=isAgg9
 z9:=sizeOf9
 v9:=zeroValue9
 t21:=underlying21
 a21:=isAgg21
 z21:=sizeOf21
 v21:=zeroValue21
 t31:=underlying22
 a31:=isAgg22
 z31:=sizeOf22
 v31:=zeroValue22
 t46:=underlying220
 a46:=isAgg220
 z46:=sizeOf220
 v46:=zeroValue220
 t51:=underlying152
 a51:=isAgg152
 z51:=sizeOf152
 v51:=zeroValue152
 t105:=underlying460
 a105:=isAgg460
 z105:=sizeOf460
 v105:=zeroValue460
 t119:=underlying472
 a119:=isAgg472
 z119:=sizeOf472
 t138:=underlying474
 a138:=isAgg474
 z138:=sizeOf474
 v138:=zeroValue474
 t139:=underlying475
 a139:=isAgg475
 z139:=sizeOf475
 v139:=zeroValue475
 t146:=underlying388
 a146:=isAgg388
 z146:=sizeOf388
 v146:=zeroValue388
 g1:=by kernel_rfl
 g3:=by kernel_rfl
 g4:=by kernel_rfl }
theorem Tryz.strings_Split (s sep : As) (m : Ak) (w : Ag) (hs : s.size < 4294967281) (hm : w.cell? ⟨0, 0, S⟩=V (O Ai m)) (h1 : 1 ≤ sep.size:=by decide):Am prog 301 #[I s, I sep] w fun e w' =>
      e=Af (X (V ⟨w.heap.size, 0, S⟩) (Oe s sep + 1) (Oe s sep + 1)) ∧ w'=w.alloc (Ae ((Lib.splitB sep 0 (Oe s sep) s).map I).toArray 9) := Any.strings_Split Tryz.lays146 (by kernel_rfl) s sep m w hs hm h1
end Go.Proofs
namespace Go.Proofs.YtfocdefchbnkpaaGreatDoor
open Go.RowKit Tryz
structure P.Tk where
 k:Ak
 at_:Ad
 raw:A Ab
def xm (l:A Ab):Ad×Ak:=if 5<R.span R.digitI l then (0,5) else (R.span R.digitI l,2)
theorem jq (c:Ab)(r:A Ab)(x:Ab):Es (c::r) [x]=if c=x then 0 else if Es r [x] = -1 then -1 else Es r [x]+1:=by
 rw[Es]
 grind[List.isPrefixOf]
theorem wC (l:A Ab)(x:Ab):Mf l x=Es l [x]:=by
 induction l with
 |nil=>rfl
 |cons c r ih=>
  rw[jq,Mf,ih]
  by_cases h:c=x
  ·rw[Az (by rw[h];simp),Az h]
  ·rw[Aw (by simpa using h),Aw h]
   by_cases a:Es r [x] = -1
   ·rw[Az (by rw[a];rfl),Az a]
   ·rw[Aw (by simpa using a),Aw a]
def jm (t:A Ab):Ee:=!(Ca t [34]).2.2 || (decide (24<Z (Ca t [34]).1) || Sx (Ca t [34]).1 [10])
def yD (l:A Ab):Ad×Ak:=if jm (l.drop 1) then (0,5) else (Z (Ca (l.drop 1) [34]).1+2,3)
def qD (l:A Ab):Ad×Ak:=
 match l with
 |[]=>(0,0)
 |c::_=>
  if R.smallI c.toNat then (R.span R.smallI l,1)
  else if R.digitI c.toNat then xm l
  else if c.toNat=34 then yD l
  else if R.signI c.toNat then (1,4) else (0,5)
def qE (l:A Ab)(p:Ad):Ad:=p+R.span xN (l.drop p)
def zg (l:A Ab)(p:Ad):P.Tk:=
 ⟨(qD (l.drop (qE l p))).2,qE l p,(l.drop (qE l p)).take (qD (l.drop (qE l p))).1⟩
theorem zdM (t:A Ab):Z (Ca t [34]).1<=Z t:=by
 unfold Ca;split
 ·simp only[Cq];omega
 ·exact Aq _
theorem zaB (t:A Ab)(h:(Ca t [34]).2.2=true):Z (Ca t [34]).1+1<=Z t:=by
 unfold Ca at h ⊢
 split
 ·rename_i h0
  have:=Lib.index_room t [34] h0;simp only[Cq,Bb,Bu] at this ⊢
  omega
 ·rename_i h0;rw[Aw h0] at h;simp at h
theorem kl (l:A Ab):(qD l).1<=Z l:=by
 unfold qD
 grind[qD,R.span_le,R.smallI,R.digitI,xm,yD,jm,zaB,List.length_cons]
theorem cW (s:As)(w:Ag)(h:s.size<=Bh):Am prog 262 #[I s] w fun e w'=>e=Af (Cm #[O Ai (xm s.data.toList).1,O Ai (xm s.data.toList).2])/\w'=w:=by
 have c:Y (xm s.data.toList=if 5<R.span R.digitI s.data.toList then (0,5) else (R.span R.digitI s.data.toList,2)):=rfl;have f:=fun w=>tQ s w h
 have b:=J f;generalize R.span R.digitI s.data.toList=n at*
 by_cases g:5<n
 ·rw[Az g] at c
  go_in;go_wp2_with fail;refine(b.o _).mono ?_;rintro e d ⟨rfl,a⟩;rw[a];go_wp2
  go_ret2
  exact⟨by rw[c.o];rfl,rfl⟩
 ·rw[Aw g] at c
  go_in;go_wp2_with fail;refine(b.o _).mono ?_;rintro e d ⟨rfl,a⟩;rw[a];go_wp2
  go_ret2
  exact⟨by rw[c.o];rfl,rfl⟩
theorem eO {a b c d:As}{e:Ee}(h:a=c)(f:b=d):Af (Cm #[I a,I b,Av e])=Af (Cm #[I c,I d,Av e]):=by rw[h,f]
theorem ai (s:As)(w:Ag)(i:s.size<=Bh):Am prog 308 #[I s,I ⟨#[34]⟩] w fun e w'=>e=Af (Cm #[I (R.str (Ca s.data.toList [34]).1),I (R.str (Ca s.data.toList [34]).2.1),Av (Ca s.data.toList [34]).2.2])/\w.grownBy w' S:=by
 have c:Y (Ca s.data.toList [34]=if 0<=Es s.data.toList [34] then (s.data.toList.take (Es s.data.toList [34]).toNat,s.data.toList.drop ((Es s.data.toList [34]).toNat+1),true) else (s.data.toList,[],false)):=rfl;have a:0<=Es s.data.toList [34]->Es s.data.toList [34]+1<=s.size:=fun h=>by
  have:=Lib.index_room s.data.toList [34] h;rw[R.size_eq] at this;simpa using this
 have g:Y (∀w,Am prog 364 #[I s,I ⟨#[34]⟩] w fun e w'=>e=Af (O Ai (Es s.data.toList [34]))/\w'=w):=fun w=>by
  rw[<-wC];exact Tryz.stringslite_Index_one s 34 w
 unfold Bh at i;generalize Es s.data.toList [34]=k at*
 by_cases d:0<=k
 ·rw[Az d] at c
  obtain⟨n,rfl⟩:=Sg d;have j:=a d;go_in;go_wp2_with fail;refine(g.o _).mono ?_;rintro e f ⟨rfl,b⟩;rw[b];go_wp2
  go_region
  go_wp2
  go_ret3
  exact⟨by rw[c.o];exact eO (by rw[kB,Vo,Iw];rfl) (by rw[kB,<-R.size_eq,Cc (by rw[Cy];omega)];rfl),zV _⟩
 ·rw[Aw d] at c
  go_in;go_wp2_with fail;refine(g.o _).mono ?_;rintro e f ⟨rfl,b⟩;rw[b];go_wp2
  go_ret3
  exact⟨by rw[c.o,R.str_of];rfl,zP _ _⟩
theorem zkP (s:As)(w:Ag)(d:s.size<=Bh):Am prog 238 #[I s,I ⟨#[34]⟩] w fun e w'=>e=Af (Cm #[I (R.str (Ca s.data.toList [34]).1),I (R.str (Ca s.data.toList [34]).2.1),Av (Ca s.data.toList [34]).2.2])/\w.grownBy w' S:=by
 have a:Y _:=fun w=>ai s w d
 generalize Ca s.data.toList [34]=c at*;go_in;go_wp2_with fail;refine(a.o _).mono ?_;rintro e f ⟨rfl,b⟩;go_wp2
 go_ret3
 exact⟨rfl,b⟩
theorem cY (s:As)(w:Ag)(u:s.size<=1000000000000)(t:1<=s.size):Am prog 263 #[I s] w fun e w'=>e=Af (Cm #[O Ai (yD s.data.toList).1,O Ai (yD s.data.toList).2])/\w.grownBy w' S:=by
 have o:=bW s 1;have l:(s.extract 1 s.size).size<=Bh:=by rw[<-R.size_eq,o,Cy,R.size_eq];unfold Bh;omega
 have n:=fun w=>zkP (s.extract 1 s.size) w l
 rw[o] at n;have b:=J n;have a:Y (yD s.data.toList=if jm (s.data.toList.drop 1) then (0,5) else (Z (Ca (s.data.toList.drop 1) [34]).1+2,3)):=rfl;have m:Y (jm (s.data.toList.drop 1)=(!(Ca (s.data.toList.drop 1) [34]).2.2 || (decide (24<Z (Ca (s.data.toList.drop 1) [34]).1) || Sx (Ca (s.data.toList.drop 1) [34]).1 [10]))):=rfl;have i:=zdM (s.data.toList.drop 1);rw[Cy,R.size_eq] at i;generalize Ca (s.data.toList.drop 1) [34]=c at*;obtain⟨d,rest,h⟩:=c;simp only at m a i;have r:=R.str_size d;have g:Y (∀w,Am prog 322 #[I (R.str d),I ⟨#[10]⟩] w fun e w'=>e=Af (Av (Sx d [10]))/\w'=w):=fun w=>by
  have:=Tryz.strings_Contains_one (R.str d) 10 w;rw[R.str_toList,wC] at this;exact this
 cases h
 ·rw[m.o] at a
  simp only[Bool.not_false,Vu,Gq] at a;go_in;go_wp2_with fail;refine(b.o _).mono ?_;rintro e p ⟨rfl,j⟩;go_wp2
  go_ret2
  exact⟨by rw[a.o];rfl,j⟩
 ·by_cases k:24<Z d
  ·rw[m.o,Cf k] at a
   simp only[Bool.not_true,Vu,Bool.or_true,Gq] at a;go_in;go_wp2_with fail;refine(b.o _).mono ?_;rintro e p ⟨rfl,j⟩;go_wp2
   go_ret2
   exact⟨by rw[a.o];rfl,j⟩
  ·rw[m.o,Ce k] at a
   simp only[Bool.not_true,Qq] at a
   cases hco:Sx d [10]
   ·rw[hco] at a g
    simp only[Ct,Gj] at a;go_in;go_wp2_with fail;refine(b.o _).mono ?_;rintro e p ⟨rfl,j⟩;go_wp2_with fail;refine(g.o _).mono ?_;rintro e q ⟨rfl,f⟩;rw[f];go_wp2
    go_ret2
    exact⟨by rw[a.o];rfl,j⟩
   ·rw[hco] at a g
    simp only[Gq] at a;go_in;go_wp2_with fail;refine(b.o _).mono ?_;rintro e p ⟨rfl,j⟩;go_wp2_with fail;refine(g.o _).mono ?_;rintro e q ⟨rfl,f⟩;rw[f];go_wp2
    go_ret2
    exact⟨by rw[a.o];rfl,j⟩
end Go.Proofs.YtfocdefchbnkpaaGreatDoor
