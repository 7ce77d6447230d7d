import Derived.Test.YtfocdefchbnkpaaGreatDoorAli
import Derived.Test.YtfocdefchbnkpaaGreatDoorProg
import Derived.WalkSpells
import Derived.BigQuiet
import Derived.Shelf.Small.Strs
import Derived.Shelf.Strings.Cut
import Derived.Shelf.Strconv.Atoi
import Derived.Shelf.Strings.Prefix
import Derived.Shelf.Strings.Trim
import Derived.Shelf.Strings.Split
import Derived.Deep.AppendLies
set_option maxRecDepth 100000
set_option maxHeartbeats 20000000
open Go renaming World->Ag,Calls->Am,maxLen->Bh,Value->Aj,TypeId->Cs,info_parts->Ej,wpList_append_own->Cu,bodyPost_ret->Et,results->Hm,wpList_append_lies->Ei
open Go.ByteArray renaming toList_eq->El
open Go.Ending renaming returned->Af
open Go.IntKind renaming u8->Bp,i64->Ai
open Go.Lib renaming indexByte->Mf,bytesWorld->Na,countB->Oe,index->Es,cut->Ca,contains->Sx
open Go.Obj renaming cells->Ae
open Go.RowKit renaming Below->Ms
open Go.RowKit.Below renaming refl->Vw,heap_alloc->Vb
open Go.Shelf renaming Ren->Ij
open Go.Value renaming string->I,ownBlock->Ix,slice->X,bool->Av,int->O,tuple->Cm,agg->Fe,pointer->Al
open Go.World renaming cell?_alloc_new->Xm,ownsRow_nil->Bk,setCell->Bs,grownBy_alloc->Ac,ownsRow->Ib
open Go.World.ownsRow renaming alloc->Ao,lt->An
open List renaming length->Z
open Option renaming some->V,none->S
open Or renaming inl->Ay,inr->Bf
open Prod renaming fst->Bq
open UInt8 renaming ofNat->Cb
open _root_ renaming List->A,UInt8->Ab,ByteArray->As,Int->Ak,Bool->Ee,Nat->Ad,Array->Fh,Option->Br
namespace Go.Proofs.YtfocdefchbnkpaaGreatDoor
namespace R
def str (l:A Ab):As:=⟨l.toArray⟩
theorem str_toList (l:A Ab):(str l).data.toList=l:=by simp[str]
theorem str_of (s:As):str s.data.toList=s:=by cases s;simp[str]
theorem str_size (l:A Ab):(str l).size=Z l:=rfl
theorem size_eq (s:As):Z s.data.toList=s.size:=by rw[Array.length_toList];rfl
def smallI (c:Ak):Ee:=decide (97<=c) && decide (c<=122)
def digitI (c:Ak):Ee:=decide (48<=c) && decide (c<=57)
def largeI (c:Ak):Ee:=decide (65<=c) && decide (c<=90)
def partI (c:Ak)(large:Ee):Ee:=smallI c || digitI c || c == 45 || (large && largeI c)
def pathI (c:Ak):Ee:=decide (33<=c/\c<=126/\c≠63/\c≠35/\c≠34)
def valueI (c:Ak):Ee:=decide (32<=c/\c<=126/\c≠34)
def upI (c:Ak):Ee:=partI c false || decide (c=46\/c=58)
def allB (p:Ak->Ee)(l:A Ab):Ee:=l.all fun c=>p c.toNat
theorem drop_cons (s:As)(k:Ad)(h:k<s.size):s.data.toList.drop k=s[k]::s.data.toList.drop (k+1):=by
 rw[Ed (by rw[size_eq];exact h)];rfl
theorem take_snoc (s:As)(k:Ad)(h:k<s.size):s.data.toList.take (k+1)=s.data.toList.take k++[s[k]]:=by
 rw[Co (by rw[size_eq];exact h)];rfl
variable {p:Ak->Ee}{s:As}{k:Ad}
theorem all_succ (h:k<s.size)(b:allB p (s.data.toList.take k)=true)(a:p s[k].toNat=true):allB p (s.data.toList.take (k+1))=true:=by grind[take_snoc,allB]
theorem all_false (h:k<s.size)(a:p s[k].toNat=false):allB p s.data.toList=false:=by
 have e:s.data.toList=s.data.toList.take k++s.data.toList.drop k:=(He k _).symm;rw[e,drop_cons s k h];unfold allB;rw[List.all_append];simp[a]
theorem all_done (h:s.size<=k)(a:allB p (s.data.toList.take k)=true):allB p s.data.toList=true:=by grind[List.take_of_length_le,size_eq,allB]
def labelsGo (lg:Ee):A Ab->Ad->Ee
 |[],n=>decide (0<n)
 |c::cs,n=>if (c.toNat:Ak)=46/\0<n then labelsGo lg cs 0 else if partI c.toNat lg then labelsGo lg cs (n+1) else false
def labels (l:A Ab)(lg:Ee):Ee:=labelsGo lg l 0
def named (l:A Ab)(lg:Ee):Ee:=if l=[42] then true else if l.take 2=[42,46]/\2<Z l then labels (l.drop 2) lg else labels l lg
def path (l:A Ab):Ee:=allB pathI l && (decide (0<Z l) && decide (l.head?=V 47))
def word (l:A Ab)(lg:Ee):Ee:=allB (fun c=>partI c lg) l && decide (0<Z l)
def lowC (c:Ab):Ab:=if largeI c.toNat then c+32 else c
def lower (l:A Ab):A Ab:=l.map lowC
def host:A Ab:=[104,111,115,116]
def contentLength:A Ab:=[99,111,110,116,101,110,116,45,108,101,110,103,116,104]
def transferEncoding:A Ab:=[116,114,97,110,115,102,101,114,45,101,110,99,111,100,105,110,103]
def header (l:A Ab)(lg:Ee):Ee:=word l lg && (decide (lower l≠host) && (decide (lower l≠contentLength) && decide (lower l≠transferEncoding)))
def value (l:A Ab):Ee:=allB valueI l && (decide (Z l=0) || (decide (l.head?≠V 32) && decide (l.getLast?≠V 32)))
def upstream (l:A Ab):Ee:=allB upI l && decide (0<Z l)
end R
end Go.Proofs.YtfocdefchbnkpaaGreatDoor
namespace Go.Proofs.YtfocdefchbnkpaaGreatDoor
open Go.RowKit Tryz
theorem zX {a b:Ee}(h:a=b):Af (Av a)=Af (Av b):=by rw[h]
theorem tG (c:Ak)(w:Ag):Am prog 128 #[O Bp c] w fun e w'=>e=Af (Av (R.smallI c))/\w'=w:=by
 by_cases h:97<=c
 all_goals
  go_in;go_wp2;go_ret;exact⟨zX (by unfold R.smallI;rw[Eb];simp;try omega),rfl⟩
theorem uW (c:Ak)(w:Ag):Am prog 129 #[O Bp c] w fun e w'=>e=Af (Av (R.digitI c))/\w'=w:=by
 by_cases h:48<=c
 all_goals
  go_in;go_wp2;go_ret;exact⟨zX (by unfold R.digitI;rw[Eb];simp;try omega),rfl⟩
theorem kY (c:Ak)(a:Ee)(w:Ag):Am prog 188 #[O Bp c,Av a] w fun e w'=>e=Af (Av (R.partI c a))/\w'=w:=by
 cases a
 all_goals
  go_in;go_wp2
  all_goals
   go_ret;refine⟨zX ?_,rfl⟩;unfold R.partI R.smallI R.digitI R.largeI;rw[Eb];simp
   try omega
theorem uq (s:As)(a:Ee)(w:Ag)(p:s.size<=Bh):Am prog 131 #[I s,Av a] w fun e w'=>e=Af (Av (R.labels s.data.toList a))/\w'=w:=by
 unfold Bh at p;go_in;go_wp2
 go_loop [5,6] (fun n i=>∃k m:Ad,k<=s.size/\m<=k/\i=O Ai k/\n=O Ai m/\Y (R.labelsGo a (s.data.toList.drop k) m=R.labels s.data.toList a)) (fun _ i=>s.size-(intOf i).toNat)
 ·exact⟨0,0,Ax _,Ax _,rfl,rfl,rfl⟩
 ·
  obtain⟨k,m,r,t,rfl,rfl,g⟩:=hrel
  by_cases j:k<s.size
  ·have c:Y ((if (s[k].toNat:Ak)=46/\0<m then R.labelsGo a (s.data.toList.drop (k+1)) 0 else if R.partI s[k].toNat a then R.labelsGo a (s.data.toList.drop (k+1)) (m+1) else false)=R.labels s.data.toList a):=by
    have:=g.o;rw[R.drop_cons s k j,R.labelsGo] at this;exact this
   generalize q:s[k]=b at*
   by_cases d:(b.toNat:Ak)=46/\0<m
   ·obtain⟨h,o⟩:=d
    have f:Y (R.labelsGo a (s.data.toList.drop (k+1)) 0=R.labels s.data.toList a):=by have:=c.o;rwa[Az ⟨h,o⟩] at this
    have l:((b.toNat:Ak) == 46)=true:=by simp[h]
    go_wp2_with (go_at_call 188;refine(kY _ _ _).mono ?_;rintro e w' ⟨rfl,rfl⟩);exact⟨⟨k+1,0,by omega,by omega,by go_num,by go_num,f⟩,by simp[intOf];omega⟩
   ·cases hp:R.partI b.toNat a
    ·have f:Y (false=R.labels s.data.toList a):=by have:=c.o;rwa[Aw d,hp,Aw (by simp)] at this
     go_wp2_with (go_at_call 188;refine(kY _ _ _).mono ?_;rintro e w' ⟨rfl,rfl⟩)
     all_goals
      go_ret;exact⟨zX f,rfl⟩
    ·have f:Y (R.labelsGo a (s.data.toList.drop (k+1)) (m+1)=R.labels s.data.toList a):=by have:=c.o;rwa[Aw d,hp,Az rfl] at this
     go_wp2_with (go_at_call 188;refine(kY _ _ _).mono ?_;rintro e w' ⟨rfl,rfl⟩)
     all_goals exact⟨⟨k+1,m+1,by omega,by omega,by go_num,by go_num,f⟩,by simp[intOf];omega⟩
  ·go_wp2
   go_ret;exact⟨zX (by rw[<-g.o,Ga (by rw[R.size_eq];omega)];rfl),rfl⟩
theorem oR (s:As)(a:Ee)(w:Ag)(h:s.size<=Bh):Am prog 313 #[I s,Av a] w fun e w'=>e=Af (Av (R.word s.data.toList a))/\w'=w:=by
 unfold Bh at h;go_in;go_wp2
 go_loop [5] (fun i=>∃k:Ad,k<=s.size/\i=O Ai k/\Y (R.allB (fun c=>R.partI c a) (s.data.toList.take k)=true)) (fun i=>s.size-(intOf i).toNat)
 ·exact⟨0,Ax _,rfl,rfl⟩
 ·
  obtain⟨k,j,rfl,f⟩:=hrel
  by_cases d:k<s.size
  ·cases hp:R.partI s[k].toNat a
   ·have b:Y (R.word s.data.toList a=false):=by
     show R.word s.data.toList a=false;unfold R.word;rw[R.all_false (p:=fun c=>R.partI c a) d hp];rfl
    go_wp2_with (go_at_call 188;refine(kY _ _ _).mono ?_;rintro e w' ⟨rfl,rfl⟩);go_ret;exact⟨zX b.o.symm,rfl⟩
   ·have b:=R.all_succ (p:=fun c=>R.partI c a) d f.o hp
    have g:=J (b);go_wp2_with (go_at_call 188;refine(kY _ _ _).mono ?_;rintro e w' ⟨rfl,rfl⟩);exact⟨⟨k+1,by omega,by go_num,g⟩,by simp[intOf];omega⟩
  ·have b:Y (R.word s.data.toList a=decide (0<s.size)):=by
    show R.word s.data.toList a=_;unfold R.word;rw[R.all_done (by omega) f.o,R.size_eq];rfl
   go_wp2;go_ret;exact⟨zX (by rw[b.o]),rfl⟩
theorem cp (s:As)(w:Ag)(m:s.size<=Bh):Am prog 193 #[I s] w fun e w'=>e=Af (Av (R.upstream s.data.toList))/\w'=w:=by
 unfold Bh at m;go_in;go_wp2
 go_loop [3] (fun i=>∃k:Ad,k<=s.size/\i=O Ai k/\Y (R.allB R.upI (s.data.toList.take k)=true)) (fun i=>s.size-(intOf i).toNat)
 ·exact⟨0,Ax _,rfl,rfl⟩
 ·
  obtain⟨k,q,rfl,f⟩:=hrel
  by_cases a:k<s.size
  ·have l:Y (R.upI s[k].toNat=false->R.upstream s.data.toList=false):=by
    intro h;unfold R.upstream;rw[R.all_false a h];rfl
   have j:Y (R.upI s[k].toNat=true->R.allB R.upI (s.data.toList.take (k+1))=true):=fun h=>R.all_succ a f.o h
   generalize p:s[k]=b at*
   cases hp:R.partI b.toNat false
   ·by_cases g:(b.toNat:Ak)=46\/(b.toNat:Ak)=58
    ·have d:Y (R.allB R.upI (s.data.toList.take (k+1))=true):=j.o (by unfold R.upI;rw[hp];simp;omega)
     go_wp2_with (go_at_call 188;refine(kY _ _ _).mono ?_;rintro e w' ⟨rfl,rfl⟩)
     all_goals first|exact⟨⟨k+1,by omega,by go_num,d⟩,by simp[intOf];omega⟩|(exfalso;simp_all;done)|(exfalso;omega)
    ·have c:Y (R.upstream s.data.toList=false):=l.o (by unfold R.upI;rw[hp];simp;omega)
     have n:((b.toNat:Ak) != 46)=true:=by rw[Qv];exact fun h=>g (Ay h)
     have o:((b.toNat:Ak) != 58)=true:=by rw[Qv];exact fun h=>g (Bf h)
     go_wp2_with (go_at_call 188;refine(kY _ _ _).mono ?_;rintro e w' ⟨rfl,rfl⟩);go_ret;exact⟨zX c.o.symm,rfl⟩
   ·have d:Y (R.allB R.upI (s.data.toList.take (k+1))=true):=j.o (by unfold R.upI;rw[hp];rfl)
    go_wp2_with (go_at_call 188;refine(kY _ _ _).mono ?_;rintro e w' ⟨rfl,rfl⟩);exact⟨⟨k+1,by omega,by go_num,d⟩,by simp[intOf];omega⟩
  ·have c:Y (R.upstream s.data.toList=decide (0<s.size)):=by
    show R.upstream s.data.toList=_;unfold R.upstream;rw[R.all_done (by omega) f.o,R.size_eq];rfl
   go_wp2;go_ret;exact⟨zX (by rw[c.o]),rfl⟩
theorem zcV (s:As)(h:0<s.size):s.data.toList.head?=V s[0]:=by
 have:=R.drop_cons s 0 h
 grind[R.drop_cons]
theorem zkE (s:As)(h:0<s.size):s.data.toList.getLast?=V s[s.size-1]:=by
 rw[Vl,R.size_eq,Bd (by rw[R.size_eq];omega)];rfl
theorem zjD (c:Ab)(n:Ab):decide (V c=V n)=((c.toNat:Ak) == n.toNat):=by
 rw[Eb];simp;exact⟨fun h=>by rw[h],fun h=>Hb.1 (by omega)⟩
theorem nc (s:As)(w:Ag)(n:s.size<=Bh):Am prog 189 #[I s] w fun e w'=>e=Af (Av (R.path s.data.toList))/\w'=w:=by
 unfold Bh at n;go_in;go_wp2
 go_loop [3] (fun i=>∃k:Ad,k<=s.size/\i=O Ai k/\Y (R.allB R.pathI (s.data.toList.take k)=true)) (fun i=>s.size-(intOf i).toNat)
 ·exact⟨0,Ax _,rfl,rfl⟩
 ·
  obtain⟨k,x,rfl,g⟩:=hrel
  by_cases c:k<s.size
  ·have j:Y (R.pathI s[k].toNat=false->R.path s.data.toList=false):=by
    intro h;unfold R.path;rw[R.all_false c h];rfl
   have l:Y (R.pathI s[k].toNat=true->R.allB R.pathI (s.data.toList.take (k+1))=true):=fun h=>R.all_succ c g.o h
   generalize v:s[k]=b at*
   by_cases d:33<=(b.toNat:Ak)/\(b.toNat:Ak)<=126/\(b.toNat:Ak)≠63/\(b.toNat:Ak)≠35/\(b.toNat:Ak)≠34
   ·have a:Y (R.allB R.pathI (s.data.toList.take (k+1))=true):=l.o (by unfold R.pathI;exact Cf d)
    obtain⟨y,z,o,p,q⟩:=d;have r:((b.toNat:Ak) == 63)=false:=by simp;omega
    have t:((b.toNat:Ak) == 35)=false:=by simp;omega
    have u:((b.toNat:Ak) == 34)=false:=by simp;omega
    go_wp2;exact⟨⟨k+1,by omega,by go_num,a⟩,by simp[intOf];omega⟩
   ·have f:Y (R.path s.data.toList=false):=j.o (by unfold R.pathI;exact Ce d)
    go_wp2
    all_goals first|(go_ret;exact⟨zX f.o.symm,rfl⟩)|(exfalso;apply d;simp_all;omega)|(exfalso;apply d;simp_all;done)
  ·have f:Y (R.path s.data.toList=(decide (0<s.size) && decide (s.data.toList.head?=V 47))):=by
    show R.path s.data.toList=_;unfold R.path;rw[R.all_done (by omega) g.o,R.size_eq];rfl
   by_cases m:0<s.size
   ·have a:Y (R.path s.data.toList=((s[0].toNat:Ak) == 47)):=by
     have:=f.o;rw[zcV s m,zjD,Cf m] at this;exact this
    go_wp2;go_ret;exact⟨zX (by rw[a.o]),rfl⟩
   ·have a:Y (R.path s.data.toList=false):=by
     have:=f.o;rw[Ce m] at this;exact this
    go_wp2;go_ret;exact⟨zX (by rw[a.o]),rfl⟩
theorem dj (s:As)(w:Ag)(n:s.size<=Bh):Am prog 249 #[I s] w fun e w'=>e=Af (Av (R.value s.data.toList))/\w'=w:=by
 unfold Bh at n;go_in;go_wp2
 go_loop [3] (fun i=>∃k:Ad,k<=s.size/\i=O Ai k/\Y (R.allB R.valueI (s.data.toList.take k)=true)) (fun i=>s.size-(intOf i).toNat)
 ·exact⟨0,Ax _,rfl,rfl⟩
 ·
  obtain⟨k,t,rfl,g⟩:=hrel
  by_cases c:k<s.size
  ·have j:Y (R.valueI s[k].toNat=false->R.value s.data.toList=false):=by
    intro h;unfold R.value;rw[R.all_false c h];rfl
   have l:Y (R.valueI s[k].toNat=true->R.allB R.valueI (s.data.toList.take (k+1))=true):=fun h=>R.all_succ c g.o h
   generalize r:s[k]=b at*
   by_cases d:32<=(b.toNat:Ak)/\(b.toNat:Ak)<=126/\(b.toNat:Ak)≠34
   ·have a:Y (R.allB R.valueI (s.data.toList.take (k+1))=true):=l.o (by unfold R.valueI;exact Cf d)
    obtain⟨u,v,p⟩:=d;have q:((b.toNat:Ak) == 34)=false:=by simp;omega
    go_wp2;exact⟨⟨k+1,by omega,by go_num,a⟩,by simp[intOf];omega⟩
   ·have f:Y (R.value s.data.toList=false):=j.o (by unfold R.valueI;exact Ce d)
    go_wp2
    all_goals first|(go_ret;exact⟨zX f.o.symm,rfl⟩)|(exfalso;apply d;simp_all;omega)|(exfalso;apply d;simp_all;done)
  ·have f:Y (R.value s.data.toList=(decide (s.size=0) || (decide (s.data.toList.head?≠V 32) && decide (s.data.toList.getLast?≠V 32)))):=by
    show R.value s.data.toList=_;unfold R.value;rw[R.all_done (by omega) g.o,R.size_eq];rfl
   by_cases m:0<s.size
   ·have a:Y (R.value s.data.toList=(((s[0].toNat:Ak) != 32) && ((s[s.size-1].toNat:Ak) != 32))):=by
     have:=f.o;rw[zcV s m,zkE s m,Qu,Qu,zjD,zjD,Ce (show ¬s.size=0 by omega)] at this;exact this
    have o:((s.size:Ak) == 0)=false:=by rw[Ch];omega
    cases h1:((s[0].toNat:Ak) != 32)
    all_goals
     go_wp2;go_ret;exact⟨zX (by rw[a.o,h1];try rfl),rfl⟩
   ·have a:Y (R.value s.data.toList=true):=by
     have:=f.o;rw[Cf (show s.size=0 by omega)] at this;exact this
    have o:((s.size:Ak) == 0)=true:=by rw[Hw];omega
    go_wp2;go_ret;exact⟨zX (by rw[a.o]),rfl⟩
theorem toL (s:As)(l:A Ab):(s.toList == l)=decide (s.data.toList=l):=by
 rw[El,Eb];simp
theorem wQ (s:As)(a b:Ad):(s.extract a b).data.toList=(s.data.toList.drop a).take (b-a):=Lib.extract_data s a b
theorem bW (s:As)(a:Ad):(s.extract a s.size).data.toList=s.data.toList.drop a:=by grind[wQ,List.take_of_length_le,List.length_drop,R.size_eq]
theorem iW (s:As)(b:Ad):(s.extract 0 b).data.toList=s.data.toList.take b:=by
 rw[wQ];simp
theorem sO (s:As)(a:Ee)(w:Ag)(j:s.size<=Bh):Am prog 87 #[I s,Av a] w fun e w'=>e=Af (Av (R.named s.data.toList a))/\w'=w:=by
 have d:=j;unfold Bh at j
 by_cases b:s.data.toList=[42]
 ·have H:Y (R.named s.data.toList a=true):=by show R.named s.data.toList a=true;unfold R.named;rw[Az b]
  have k:(s.toList == [42])=true:=by rw[toL];exact Cf b
  clear b;go_in;go_wp2;go_ret;exact⟨zX H.o.symm,rfl⟩
 ·have k:(s.toList == [42])=false:=by rw[toL];exact Ce b
  by_cases c:s.data.toList.take 2=[42,46]/\2<Z s.data.toList
  ·have H:Y (R.named s.data.toList a=R.labels (s.data.toList.drop 2) a):=by show R.named s.data.toList a=_;unfold R.named;rw[Aw b,Az c]
   have f:((s.extract 0 2).toList == [42,46])=true:=by rw[toL,iW];exact Cf c.1
   have i:2<(s.size:Ak):=by have:=c.2;rw[R.size_eq] at this;omega
   clear b c;go_in;have g:(s.extract 2 s.size).size<=Bh:=by rw[<-R.size_eq,bW,Cy,R.size_eq];omega
   go_wp2_with (go_at_call 131;refine(uq _ _ _ g).mono ?_;rintro e w' ⟨rfl,rfl⟩);go_ret;exact⟨zX (by rw[H.o,Cc (by rw[Cy,R.size_eq];omega)]),rfl⟩
  ·have H:Y (R.named s.data.toList a=R.labels s.data.toList a):=by show R.named s.data.toList a=_;unfold R.named;rw[Aw b,Aw c]
   have f:¬(((s.extract 0 2).toList == [42,46])=true/\2<(s.size:Ak)):=by
    rw[toL,iW,decide_eq_true_iff];intro h;exact c ⟨h.1,by rw[R.size_eq];omega⟩
   clear b c
   by_cases i:2<(s.size:Ak)
   ·have l:((s.extract 0 2).toList == [42,46])=false:=by rw[Sq];exact fun h=>f ⟨h,i⟩
    clear f;go_in;go_wp2_with (go_at_call 131;refine(uq _ _ _ d).mono ?_;rintro e w' ⟨rfl,rfl⟩);go_ret;exact⟨zX H.o.symm,rfl⟩
   ·clear f
    go_in;go_wp2_with (go_at_call 131;refine(uq _ _ _ d).mono ?_;rintro e w' ⟨rfl,rfl⟩);go_ret;exact⟨zX H.o.symm,rfl⟩
theorem yt {a b:As}(h:a.data.toList=b.data.toList):a=b:=by
 rw[<-R.str_of a,<-R.str_of b,h]
theorem qC (a b:As):(a++b).data.toList=a.data.toList++b.data.toList:=by simp_all
theorem tI {a b:As}(h:a=b):Af (I a)=Af (I b):=by rw[h]
theorem zfZ (s:As)(w:Ag)(a:s.size<=100000):Am prog 54 #[I s] w fun e w'=>e=Af (I (R.str (34::s.data.toList++[34])))/\w'=w:=by
 go_in;go_wp2;go_ret;exact⟨tI (by apply yt;rw[R.str_toList,qC,qC];rfl),rfl⟩
theorem zh4 (w:Ag)(n:Ak) :
  (convert 32 9 (X (V ⟨w.heap.size,0,S⟩) 1 1)).run prog (w.alloc (Ae #[O Bp n] 5)) = .ok (I ⟨#[Cb n.toNat]⟩) (w.alloc (Ae #[O Bp n] 5)):=by
 have h:=run_convert_bytes_arg (P:=prog) (w.alloc (Ae #[O Bp n] 5)) 32 5 underlying32 underlying5 w.heap.size 0 1 1 [n] rfl (fun i hi=>by
  have:i=0:=by omega
  subst this;rw[Xm];rfl)
 have a:=h 9 underlying9;rw[a];rfl
theorem uV (s:As)(w:Ag)(x:s.size<=100000):Am prog 88 #[I s] w fun e w'=>e=Af (I (R.str (R.lower s.data.toList)))/\Ms w.heap.size w w':=by
 go_in;go_wp2
 go_loopw [3,4] (fun o i w'=>∃k:Ad,k<=s.size/\i=O Ai k/\o=I (R.str (R.lower (s.data.toList.take k)))/\Ms w.heap.size w w') (fun _ i _=>s.size-(intOf i).toNat)
 ·exact⟨0,Ax _,rfl,rfl,Vw _ _⟩
 ·
  obtain⟨k,u,rfl,rfl,c⟩:=hrel
  by_cases h:k<s.size
  ·have v:(R.str (R.lower (s.data.toList.take k))).size<=100000:=by rw[R.str_size];unfold R.lower;rw[Bv,Cq];omega
   have m:Y (R.lower (s.data.toList.take (k+1))=R.lower (s.data.toList.take k)++[R.lowC s[k]]):=by
    show R.lower _=_;rw[R.take_snoc s k h];unfold R.lower;rw[Ef];rfl
   generalize j:R.str (R.lower (s.data.toList.take k))=o at*;have l:=J (j);have q:=zh4 wr;generalize p:s[k]=b at*;have a:∀n:Ak,Cb n.toNat=R.lowC b->I (o++⟨#[Cb n.toNat]⟩)=I (R.str (R.lower (s.data.toList.take (k+1)))):=by
    intro n r;rw[m.o];congr 1;apply yt;rw[qC,<-l.o,R.str_toList,R.str_toList,r]
   by_cases g:65<=(b.toNat:Ak)/\(b.toNat:Ak)<=90
   ·have d:=a (b.toNat+32) (by unfold R.lowC R.largeI;rw[Cf g.1,Cf g.2];simp;apply Hb.1;simp;omega)
    have f:=J d;obtain⟨t,y⟩:=g;go_wp2;exact⟨⟨k+1,by omega,by go_num,f,c.alloc c.size _⟩,by simp[intOf];omega⟩
   ·have d:=a b.toNat (by unfold R.lowC R.largeI;rw[<-Bool.decide_and,Ce g];simp)
    have f:Y (I (o++⟨#[b]⟩)=I (R.str (R.lower (s.data.toList.take (k+1))))):=by
     rw[Xe,UInt8.ofNat_toNat] at d;exact d
    by_cases t:65<=(b.toNat:Ak)
    ·go_wp2
     exact⟨⟨k+1,by omega,by go_num,f,c.alloc c.size _⟩,by simp[intOf];omega⟩
    ·go_wp2
     exact⟨⟨k+1,by omega,by go_num,f,c.alloc c.size _⟩,by simp[intOf];omega⟩
  ·go_wp2
   go_ret;exact⟨tI (by rw[Cc (by rw[R.size_eq];omega)]),c⟩
theorem kx (l:A Ab):Z (R.lower l)=Z l:=Bv _
theorem toLs (l m:A Ab):((R.str l).toList == m)=decide (l=m):=by rw[toL,R.str_toList]
theorem tz (s:As)(a:Ee)(w:Ag)(i:s.size<=100000):Am prog 248 #[I s,Av a] w fun e w'=>e=Af (Av (R.header s.data.toList a))/\Ms w.heap.size w w':=by
 have b:s.size<=Bh:=by unfold Bh;omega
 have c:Y (R.header s.data.toList a=(R.word s.data.toList a && (!decide (R.lower s.data.toList=R.host) && (!decide (R.lower s.data.toList=R.contentLength) && !decide (R.lower s.data.toList=R.transferEncoding))))):=by
  show R.header s.data.toList a=_;unfold R.header;rw[Qu,Qu,Qu]
 have d:=toLs (R.lower s.data.toList) R.host;have f:=toLs (R.lower s.data.toList) R.contentLength;have g:=toLs (R.lower s.data.toList) R.transferEncoding;generalize decide (R.lower s.data.toList=R.host)=b1 at*;generalize decide (R.lower s.data.toList=R.contentLength)=b2 at*;generalize decide (R.lower s.data.toList=R.transferEncoding)=b3 at*;unfold R.host at d;unfold R.contentLength at f;unfold R.transferEncoding at g;generalize j:R.str (R.lower s.data.toList)=o at*
 cases hw:R.word s.data.toList a <;> cases b1 <;> cases b2
 all_goals
  rw[hw] at c;go_in;go_wp2_with (first
   |(go_at_call 313;refine(oR _ _ _ b).mono ?_;rintro e w' ⟨rfl,rfl⟩)
   |(go_at_call 88;refine(uV _ _ i).mono ?_;rintro e w' ⟨rfl,h⟩))
  go_ret;exact⟨zX (by rw[c.o];try rfl),h⟩
theorem ze5 (n:Ad)(h:n<10):(⟨#[48,49,50,51,52,53,54,55,56,57]⟩:As).extract n (n+1)=R.str [Cb (48+n)]:=by
 have:∀m:Fin 10,(⟨#[48,49,50,51,52,53,54,55,56,57]⟩:As).extract m.val (m.val+1)=R.str [Cb (48+m.val)]:=by decide +kernel
 exact this ⟨n,h⟩
def R.dec (n:Ad):A Ab:=if n<10 then [Cb (48+n)] else R.dec (n / 10)++[Cb (48+n % 10)]
 termination_by n
 decreasing_by omega
theorem R.dec_len (n k:Ad)(h:n<10 ^ (k+1)):Z (R.dec n)<=k+1:=by
 induction k generalizing n <;> grind[R.dec,List.length_append,Nat.div_lt_iff_lt_mul,Nat.pow_succ]
theorem oW (n:Ad):∀(w:Ag),n<1000000->
  Am prog 91 #[O Ai n] w fun e w'=>e=Af (I (R.str (R.dec n)))/\w'=w:=by
 induction n using Nat.strongRecOn with
 |_ n ih=>
  intro w d;have b:=ze5 (n % 10) (by omega);have a:=J b;clear b
  by_cases h:n<10
  ·go_in
   go_wp2;go_ret;exact⟨tI (by rw[a.o];unfold R.dec;rw[Az h,Nat.mod_eq_of_lt h]),rfl⟩
  ·have c:Y (∀w,Am prog 91 #[O Ai ((n:Ak) / 10)] w fun e w'=>e=Af (I (R.str (R.dec (n / 10))))/\w'=w):=by
    intro w;have:=ih (n / 10) (by omega) w (by omega);rw[Int.natCast_ediv] at this;exact this
   have f:(R.str (R.dec (n / 10))).size<=100:=by
    rw[R.str_size];have:=R.dec_len (n / 10) 5 (by omega);omega
   have g:((⟨#[48,49,50,51,52,53,54,55,56,57]⟩:As).extract (n % 10) (n % 10+1)).size<=1:=by rw[a.o,R.str_size];simp
   clear ih;go_in;go_wp2_with (go_at_call 91;refine(c.o _).mono ?_;rintro e w' ⟨rfl,rfl⟩);go_ret;refine⟨tI ?_,rfl⟩;rw[a.o]
   apply yt
   rw[qC,R.str_toList,R.str_toList,R.str_toList]
   conv=>rhs;unfold R.dec
   rw[Aw h]
namespace R
def span (p:Ak->Ee):A Ab->Ad
 |[]=>0
 |c::cs=>if p c.toNat then span p cs+1 else 0
theorem span_step {p:Ak->Ee}{s:As}{k:Ad}(h:k<s.size)(a:p s[k].toNat=true):span p (s.data.toList.drop k)=span p (s.data.toList.drop (k+1))+1:=by
 rw[drop_cons s k h,span,Az a]
theorem span_stop {p:Ak->Ee}{s:As}{k:Ad}(h:k<s.size)(a:p s[k].toNat=false):span p (s.data.toList.drop k)=0:=by grind[drop_cons,span]
theorem span_end {p:Ak->Ee}{s:As}{k:Ad}(h:s.size<=k):span p (s.data.toList.drop k)=0:=by grind[List.drop_of_length_le,size_eq,span]
theorem span_le (p:Ak->Ee)(l:A Ab):span p l<=Z l:=by
 induction l with
 |nil=>exact Aq _
 |cons c cs ih=>unfold span;split <;> simp <;> omega
def insideI (c:Ak):Ee:=decide (c≠34/\c≠10)
def signI (c:Ak):Ee:=c == 123 || c == 125 || c == 59 || c == 61 || c == 44
def at0 (l:A Ab)(n:Ad):Ak:=(l.getD n 0).toNat
theorem at0_eq (s:As)(n:Ad)(h:n<s.size):at0 s.data.toList n=s[n].toNat:=by
 unfold at0;rw[Gf,Bd (by rw[size_eq];exact h)];rfl
def tend (l:A Ab)(i:Ad):Ad×Ak:=
 if smallI (at0 l i) then (i+1+span smallI (l.drop (i+1)),119)
 else if digitI (at0 l i) then
  (if 5<i+1+span digitI (l.drop (i+1))-i then (i+1+span digitI (l.drop (i+1)),120) else (i+1+span digitI (l.drop (i+1)),49))
 else if at0 l i=34 then
  (if i+1+span insideI (l.drop (i+1))=Z l\/at0 l (i+1+span insideI (l.drop (i+1)))=10\/24<i+1+span insideI (l.drop (i+1))-i-1
   then (i+1+span insideI (l.drop (i+1)),120) else (i+1+span insideI (l.drop (i+1))+1,34))
 else if signI (at0 l i) then (i+1,115)
 else (i+1,120)
def dkind (n i:Ad):Ak:=if 5<n-i then 120 else 49
def sbad (l:A Ab)(n i:Ad):Prop:=n=Z l\/at0 l n=10\/24<n-i-1
instance (l:A Ab) (n i:Ad):Decidable (sbad l n i):=by unfold sbad;infer_instance
def sEnd (l:A Ab)(n i:Ad):Ad:=if sbad l n i then n else n+1
def sKind (l:A Ab)(n i:Ad):Ak:=if sbad l n i then 120 else 34
def gKind (c:Ak):Ak:=if signI c then 115 else 120
end R
theorem we {a b:Ak}{c d:Ak}(h:a=b)(f:c=d):Af (Cm #[O Ai a,O Bp c])=Af (Cm #[O Ai b,O Bp d]):=by rw[h,f]
theorem eK (s:As)(i:Ad)(w:Ag)(p:s.size<=3000)(g:i<s.size)(o:R.smallI s[i].toNat=true):Am prog 83 #[I s,O Ai i] w fun e w'=>e=Af (Cm #[O Ai ((i+1+R.span R.smallI (s.data.toList.drop (i+1)):Ad):Ak),O Bp 119])/\w'=w:=by
 cases hd:R.digitI s[i].toNat
 all_goals
  go_in;go_wp2_with (first|(go_at_call 128;refine(tG _ _).mono ?_;rintro e w' ⟨rfl,rfl⟩)|(go_at_call 129;refine(uW _ _).mono ?_;rintro e w' ⟨rfl,rfl⟩))
  go_loop [7] (fun v=>∃n:Ad,i+1<=n/\n<=s.size/\v=O Ai n/\Y (i+1+R.span R.smallI (s.data.toList.drop (i+1))=n+R.span R.smallI (s.data.toList.drop n))) (fun v=>s.size-(intOf v).toNat)
  ·exact⟨i+1,Aq _,g,by go_num,rfl⟩
  ·
   obtain⟨n,l,m,rfl,b⟩:=hrel
   by_cases c:n<s.size
   ·by_cases d:97<=(s[n].toNat:Ak)/\(s[n].toNat:Ak)<=122
    ·have a:Y (i+1+R.span R.smallI (s.data.toList.drop (i+1))=(n+1)+R.span R.smallI (s.data.toList.drop (n+1))):=by
      have:=b.o;rw[R.span_step c (by unfold R.smallI;simp[d])] at this;show _=_;omega
     obtain⟨f,j⟩:=d;go_wp2;exact⟨⟨n+1,by omega,by omega,by go_num,a⟩,by simp[intOf];omega⟩
    ·have a:Y (i+1+R.span R.smallI (s.data.toList.drop (i+1))=n):=by
      have:=b.o;rw[R.span_stop c (by unfold R.smallI;rw[<-Bool.decide_and];exact Ce d)] at this;exact this
     by_cases f:97<=(s[n].toNat:Ak)
     ·have j:¬(s[n].toNat:Ak)<=122:=fun h=>d ⟨f,h⟩
      go_wp2
      go_ret2
      exact⟨we (by have:=a.o;omega) rfl,rfl⟩
     ·go_wp2
      go_ret2
      exact⟨we (by have:=a.o;omega) rfl,rfl⟩
   ·have a:Y (i+1+R.span R.smallI (s.data.toList.drop (i+1))=n):=by
     have:=b.o;rw[R.span_end (k:=n) (by omega)] at this;exact this
    go_wp2
    go_ret2
    exact⟨we (by have:=a.o;omega) rfl,rfl⟩
theorem r8 (s:As)(i:Ad)(w:Ag)(t:s.size<=3000)(j:i<s.size)(q:R.smallI s[i].toNat=false)(r:R.digitI s[i].toNat=true):Am prog 83 #[I s,O Ai i] w fun e w'=>e=Af (Cm #[O Ai ((i+1+R.span R.digitI (s.data.toList.drop (i+1)):Ad):Ak),O Bp (R.dkind (i+1+R.span R.digitI (s.data.toList.drop (i+1))) i)])/\w'=w:=by
 go_in;go_wp2_with (first|(go_at_call 128;refine(tG _ _).mono ?_;rintro e w' ⟨rfl,rfl⟩)|(go_at_call 129;refine(uW _ _).mono ?_;rintro e w' ⟨rfl,rfl⟩))
 go_loop [7] (fun v=>∃n:Ad,i+1<=n/\n<=s.size/\v=O Ai n/\Y (i+1+R.span R.digitI (s.data.toList.drop (i+1))=n+R.span R.digitI (s.data.toList.drop n))) (fun v=>s.size-(intOf v).toNat)
 ·exact⟨i+1,Aq _,j,by go_num,rfl⟩
 ·
  obtain⟨n,o,p,rfl,f⟩:=hrel
  by_cases b:n<s.size/\R.digitI (R.at0 s.data.toList n)=true
  ·obtain⟨a,d⟩:=b
   rw[R.at0_eq s n a] at d;have c:Y (i+1+R.span R.digitI (s.data.toList.drop (i+1))=(n+1)+R.span R.digitI (s.data.toList.drop (n+1))):=by
    have:=f.o;rw[R.span_step a d] at this;show _=_;omega
   unfold R.digitI at d;simp only[Ez,Gd] at d;obtain⟨l,m⟩:=d;clear f;go_wp2;exact⟨⟨n+1,by omega,by omega,by go_num,c⟩,by simp[intOf];omega⟩
  ·have c:Y (i+1+R.span R.digitI (s.data.toList.drop (i+1))=n):=by
    have:=f.o
    by_cases a:n<s.size
    ·rw[R.span_stop a (by rw[<-R.at0_eq s n a,Sq];exact fun h=>b ⟨a,h⟩)] at this;exact this
    ·rw[R.span_end (k:=n) (by omega)] at this;exact this
   clear f
   by_cases a:n<s.size
   ·by_cases l:48<=(s[n].toNat:Ak)
    ·have m:¬(s[n].toNat:Ak)<=57:=fun h=>b ⟨a,by rw[R.at0_eq s n a];unfold R.digitI;simp;omega⟩
     clear b
     by_cases g:5<(n:Ak)-i
     all_goals
      go_wp2
      go_ret2
      exact⟨we (by have:=c.o;omega) (by have:=c.o;unfold R.dkind;first|rw[Az (by omega)]|rw[Aw (by omega)]),rfl⟩
    ·clear b
     by_cases g:5<(n:Ak)-i
     all_goals
      go_wp2
      go_ret2
      exact⟨we (by have:=c.o;omega) (by have:=c.o;unfold R.dkind;first|rw[Az (by omega)]|rw[Aw (by omega)]),rfl⟩
   ·clear b
    by_cases g:5<(n:Ak)-i
    all_goals
     go_wp2
     go_ret2
     exact⟨we (by have:=c.o;omega) (by have:=c.o;unfold R.dkind;first|rw[Az (by omega)]|rw[Aw (by omega)]),rfl⟩
theorem ni (s:As)(i:Ad)(w:Ag)(Q:s.size<=3000)(y:i<s.size)(q:s[i].toNat=34)(j:Ad)(m:i+1+R.span R.insideI (s.data.toList.drop (i+1))=j):Am prog 83 #[I s,O Ai i] w fun e w'=>e=Af (Cm #[O Ai (R.sEnd s.data.toList j i:Ak),O Bp (R.sKind s.data.toList j i)])/\w'=w:=by
 have H:R.smallI s[i].toNat=false:=by rw[q];rfl
 have N:R.digitI s[i].toNat=false:=by rw[q];rfl
 have x:((s[i].toNat:Ak) == 34)=true:=by rw[q];rfl
 have r:=J (m);go_in;go_wp2_with (first|(go_at_call 128;refine(tG _ _).mono ?_;rintro e w' ⟨rfl,rfl⟩)|(go_at_call 129;refine(uW _ _).mono ?_;rintro e w' ⟨rfl,rfl⟩))
 go_loop [7] (fun v=>∃n:Ad,i+1<=n/\n<=s.size/\v=O Ai n/\Y (j=n+R.span R.insideI (s.data.toList.drop n))) (fun v=>s.size-(intOf v).toNat)
 ·exact⟨i+1,Aq _,y,by go_num,r.o.symm⟩
 ·
  obtain⟨n,C,E,rfl,p⟩:=hrel
  by_cases b:n<s.size/\R.insideI (R.at0 s.data.toList n)=true
  ·obtain⟨a,g⟩:=b
   rw[R.at0_eq s n a] at g;have d:Y (j=(n+1)+R.span R.insideI (s.data.toList.drop (n+1))):=by
    have:=p.o;rw[R.span_step a g] at this;show _=_;omega
   unfold R.insideI at g;simp only[Gd] at g;have f:((s[n].toNat:Ak) != 34)=true:=by rw[Qv];exact g.1
   have o:((s[n].toNat:Ak) != 10)=true:=by rw[Qv];exact g.2
   go_wp2;exact⟨⟨n+1,by omega,by omega,by go_num,d⟩,by simp[intOf];omega⟩
  ·have d:Y (j=n):=by
    have:=p.o
    by_cases a:n<s.size
    ·rw[R.span_stop a (by rw[<-R.at0_eq s n a,Sq];exact fun h=>b ⟨a,h⟩)] at this;exact this
    ·rw[R.span_end (k:=n) (by omega)] at this;exact this
   by_cases a:n<s.size
   ·have u:((n:Ak) == s.size)=false:=by rw[Ch];omega
    have l:=J (R.at0_eq s n a)
    by_cases f:(s[n].toNat:Ak)=34
    ·have z:((s[n].toNat:Ak) != 34)=false:=by rw[f];rfl
     have B:((s[n].toNat:Ak) == 10)=false:=by rw[f];rfl
     have t:=J (f)
     by_cases F:24<(n:Ak)-i-1
     ·have c:Y (R.sbad s.data.toList n i):=Bf (Bf (by omega))
      go_wp2
      go_ret2
      exact⟨we (by unfold R.sEnd;rw[d.o,Az c.o]) (by unfold R.sKind;rw[d.o,Az c.o]),rfl⟩
     ·have c:Y (¬(R.sbad s.data.toList n i)):=by
       rintro(h|h|h)
       ·rw[R.size_eq] at h;omega
       ·rw[l.o,t.o] at h;exact absurd h (by decide)
       ·omega
      go_wp2
      go_ret2
      exact⟨we (by unfold R.sEnd;rw[d.o,Aw c.o];omega) (by unfold R.sKind;rw[d.o,Aw c.o]),rfl⟩
    ·have o:(s[n].toNat:Ak)=10:=by
      apply Ng;intro h
      exact b ⟨a,by rw[R.at0_eq s n a];unfold R.insideI;exact Cf ⟨f,h⟩⟩
     have z:((s[n].toNat:Ak) != 34)=true:=by rw[Qv];exact f
     have B:((s[n].toNat:Ak) != 10)=false:=by rw[o];rfl
     have q3:((s[n].toNat:Ak) == 10)=true:=by rw[o];rfl
     have c:Y (R.sbad s.data.toList n i):=Bf (Ay (by rw[l.o,o]));go_wp2
     go_ret2
     exact⟨we (by unfold R.sEnd;rw[d.o,Az c.o]) (by unfold R.sKind;rw[d.o,Az c.o]),rfl⟩
   ·have u:((n:Ak) == s.size)=true:=by rw[Hw];omega
    have c:Y (R.sbad s.data.toList n i):=Ay (by rw[R.size_eq];omega);go_wp2
    go_ret2
    exact⟨we (by unfold R.sEnd;rw[d.o,Az c.o]) (by unfold R.sKind;rw[d.o,Az c.o]),rfl⟩
theorem eJ (s:As)(i:Ad)(w:Ag)(h:s.size<=3000)(g:i<s.size)(d:R.smallI s[i].toNat=false)(f:R.digitI s[i].toNat=false)(b:s[i].toNat≠34):Am prog 83 #[I s,O Ai i] w fun e w'=>e=Af (Cm #[O Ai ((i+1:Ad):Ak),O Bp (R.gKind s[i].toNat)])/\w'=w:=by
 have c:((s[i].toNat:Ak) == 34)=false:=by rw[Ch];omega
 have a:Y (R.signI s[i].toNat=((s[i].toNat:Ak) == 123 || (s[i].toNat:Ak) == 125 || (s[i].toNat:Ak) == 59 || (s[i].toNat:Ak) == 61 || (s[i].toNat:Ak) == 44)):=rfl
 cases h1:((s[i].toNat:Ak) == 123) <;> cases h2:((s[i].toNat:Ak) == 125) <;> cases h3:((s[i].toNat:Ak) == 59) <;> cases h4:((s[i].toNat:Ak) == 61) <;> cases h5:((s[i].toNat:Ak) == 44)
 all_goals
  rw[h1,h2,h3,h4,h5] at a;go_in;go_wp2_with (first|(go_at_call 128;refine(tG _ _).mono ?_;rintro e w' ⟨rfl,rfl⟩)|(go_at_call 129;refine(uW _ _).mono ?_;rintro e w' ⟨rfl,rfl⟩))
  go_ret2
  exact⟨we (by omega) (by unfold R.gKind;rw[a.o];rfl),rfl⟩
theorem zkX (s:As)(i:Ad)(w:Ag)(f:s.size<=3000)(b:i<s.size):Am prog 83 #[I s,O Ai i] w fun e w'=>e=Af (Cm #[O Ai ((R.tend s.data.toList i).1:Ak),O Bp (R.tend s.data.toList i).2])/\w'=w:=by
 unfold R.tend;rw[R.at0_eq s i b]
 by_cases c:R.smallI s[i].toNat=true
 ·rw[Az c];exact eK s i w f b c
 ·rw[Aw c]
  have a:R.smallI s[i].toNat=false:=by rw[Sq];exact c
  by_cases d:R.digitI s[i].toNat=true
  ·rw[Az d]
   refine(r8 s i w f b a d).mono ?_;rintro e w' ⟨rfl,rfl⟩;refine⟨?_,rfl⟩;unfold R.dkind
   split <;> rfl
  ·rw[Aw d]
   have g:R.digitI s[i].toNat=false:=by rw[Sq];exact d
   by_cases j:(s[i].toNat:Ak)=34
   ·rw[Az j]
    refine(ni s i w f b (by omega) _ rfl).mono ?_;rintro e w' ⟨rfl,rfl⟩;refine⟨?_,rfl⟩;unfold R.sEnd R.sKind
    by_cases h:R.sbad s.data.toList (i+1+R.span R.insideI (s.data.toList.drop (i+1))) i
    ·rw[Az h,Az h];unfold R.sbad at h;rw[Az h]
    ·rw[Aw h,Aw h];unfold R.sbad at h;rw[Aw h]
   ·rw[Aw j]
    refine(eJ s i w f b a g (by omega)).mono ?_;rintro e w' ⟨rfl,rfl⟩;refine⟨?_,rfl⟩;unfold R.gKind
    split <;> rfl
namespace R
structure Tok where
 k:Ak
 s:A Ab
 at_:Ad
def Tok.cells (t:Tok):A Aj:=[O Bp t.k,I (str t.s),O Ai t.at_]
def tokCells (l:A Tok):A Aj:=(l.map Tok.cells).flatten
theorem tokCells_append (a b:A Tok):tokCells (a++b)=tokCells a++tokCells b:=by simp[tokCells]
theorem tokCells_one (t:Tok):tokCells [t]=t.cells:=by simp[tokCells]
def tok (l:A Ab)(i:Ad):Tok:=
 ⟨(tend l i).2,if (tend l i).2=34 then (l.drop (i+1)).take ((tend l i).1-1-(i+1)) else (l.drop i).take ((tend l i).1-i),i⟩
def toksGo:Ad->A Ab->Ad->A Tok
 |0,_,_=>[]
 |n+1,l,i=>
  if i<Z l then
   if at0 l i=32\/at0 l i=10 then toksGo n l (i+1)
   else if (tend l i).2=120 then [tok l i] else tok l i::toksGo n l (tend l i).1
  else [⟨0,[],Z l⟩]
def toks (l:A Ab):A Tok:=toksGo (Z l+1) l 0
theorem tend_bd (l:A Ab)(i:Ad)(h:i<Z l):i<(tend l i).1/\(tend l i).1<=Z l/\((tend l i).2=34->i+2<=(tend l i).1):=by grind[span_le,smallI,digitI,insideI,List.length_drop,tend,span]
end R
theorem info45:(prog.info? 115).map (fun i=>(i.zero,i.size,i.bytes))=V (V (Fe #[O Bp 0,I ⟨#[]⟩,O Ai 0]),3,32):=by kernel_rfl
theorem kB (s:As)(a b:Ad):s.extract a b=R.str ((s.data.toList.drop a).take (b-a)):=by
 apply yt;rw[R.str_toList,wQ]
theorem uk (g j:Ad):(⟨g,0,S⟩:Addr).add j=⟨g,j,S⟩:=by unfold Addr.add;split <;> simp_all
theorem zZ (w:Ag)(a:Fh Aj)(t:Cs)(g:Ad)(b:g=w.heap.size):∀j u,a.toList[j]?=V u->(w.alloc (Ae a t)).cell? ((⟨g,0,S⟩:Addr).add j)=V u:=by
 intro j u h;subst b;rw[uk,Xm]
 simpa using h
variable {l:A Ab}{i n b a g rb:Ad}
theorem R.toksGo_blank (h:i<Z l)(a:R.at0 l i=32\/R.at0 l i=10):R.toksGo (n+1) l i=R.toksGo n l (i+1):=by
 rw[R.toksGo,Az h,Az a]
theorem R.toksGo_bad (h:i<Z l)(a:¬(R.at0 l i=32\/R.at0 l i=10))(b:(R.tend l i).2=120):R.toksGo (n+1) l i=[R.tok l i]:=by
 rw[R.toksGo,Az h,Aw a,Az b]
theorem R.toksGo_good (h:i<Z l)(a:¬(R.at0 l i=32\/R.at0 l i=10))(b:(R.tend l i).2≠120):R.toksGo (n+1) l i=R.tok l i::R.toksGo n l (R.tend l i).1:=by
 rw[R.toksGo,Az h,Aw a,Aw b]
theorem R.toksGo_end (h:¬i<Z l):R.toksGo (n+1) l i=[⟨0,[],Z l⟩]:=by
 rw[R.toksGo,Aw h]
theorem pP:∀{n m i:Ad},Z l+1-i<=n->Z l+1-i<=m->i<=Z l->R.toksGo n l i=R.toksGo m l i:=by
 intro n
 induction n with
 |zero=>intro m i f c g;omega
 |succ n ih=>
  intro m i f c g
  match m,c with
  |0,c=>omega
  |m+1,c=>
   by_cases a:i<Z l
   ·by_cases b:R.at0 l i=32\/R.at0 l i=10
    ·rw[R.toksGo_blank a b,R.toksGo_blank a b];exact ih (by omega) (by omega) (by omega)
    ·have h:=R.tend_bd l i a
     by_cases d:(R.tend l i).2=120
     ·rw[R.toksGo_bad a b d,R.toksGo_bad a b d]
     ·rw[R.toksGo_good a b d,R.toksGo_good a b d,ih (m:=m) (by omega) (by omega) (by omega)]
   ·rw[R.toksGo_end a,R.toksGo_end a]
theorem zbY (s:As)(w:Ag)(hs:s.size<=3000):Am prog 50 #[I s] w fun e w'=>∃v,e=Af v/\w'.ownsRow w.heap.size 115 3 v (Z (R.toks s.data.toList)) (R.tokCells (R.toks s.data.toList))/\Ms w.heap.size w w':=by
 obtain⟨i0,hi,C,E,F⟩:=Ej info45;go_in;go_wp2
 go_loopw [3,4] (fun v i wr=>∃(k:Ad) (c:A R.Tok),k<=s.size/\(Z c)<=k/\i=O Ai k/\wr.ownsRow w.heap.size 115 3 v (Z c) (R.tokCells c)/\
   Y (c++R.toksGo (s.size+1-k) s.data.toList k=R.toks s.data.toList)/\Ms w.heap.size w wr) (fun _ i _=>s.size-(intOf i).toNat)
 case atStart=>exact⟨0,[],Ax _,Ax _,rfl,Bk _ _ _ _,by show _=_;rw[Vo,<-R.size_eq];rfl,Vw _ _⟩
 case round=>
  obtain⟨k,c,H,ad,rfl,b,HL,g⟩:=hrel
  by_cases o:k<s.size
  ·have q:k<Z s.data.toList:=by rw[R.size_eq];exact o
   have e1:s.size+1-k=(s.size-k)+1:=by omega
   by_cases r:(s[k].toNat:Ak)=32\/(s[k].toNat:Ak)=10
   ·have H2:Y (c++R.toksGo (s.size+1-(k+1)) s.data.toList (k+1)=R.toks s.data.toList):=by
     have:=HL.o;rw[e1,R.toksGo_blank q (by rw[R.at0_eq s k o];exact r)] at this;rw[<-this,show s.size+1-(k+1)=s.size-k by omega];rfl
    rcases r with h|h
    ·have g1:((s[k].toNat:Ak) == 32)=true:=by rw[h];rfl
     go_wp2;exact⟨⟨k+1,c,by omega,by omega,by go_num,b,H2,g⟩,by simp[intOf];omega⟩
    ·have g1:((s[k].toNat:Ak) == 32)=false:=by rw[h];rfl
     have g2:((s[k].toNat:Ak) == 10)=true:=by rw[h];rfl
     go_wp2;exact⟨⟨k+1,c,by omega,by omega,by go_num,b,H2,g⟩,by simp[intOf];omega⟩
   ·have x:¬(R.at0 s.data.toList k=32\/R.at0 s.data.toList k=10):=by rw[R.at0_eq s k o];exact r
    have g1:((s[k].toNat:Ak) == 32)=false:=by rw[Ch];exact fun h=>r (Ay h)
    have g2:((s[k].toNat:Ak) == 10)=false:=by rw[Ch];exact fun h=>r (Bf h)
    have bd:=R.tend_bd s.data.toList k q;have HB:=R.toksGo_bad (n:=s.size-k) q x;have HG:=R.toksGo_good (n:=s.size-k) q x;have HT:Y (R.tok s.data.toList k=⟨(R.tend s.data.toList k).2,if (R.tend s.data.toList k).2=34 then (s.data.toList.drop (k+1)).take ((R.tend s.data.toList k).1-1-(k+1)) else (s.data.toList.drop k).take ((R.tend s.data.toList k).1-k),k⟩):=rfl;have hL:=HL.o;rw[e1] at hL;rw[R.size_eq] at bd;have hE:=zkX s k;generalize R.tend s.data.toList k=kk at*;obtain⟨z,f⟩:=kk;simp only at bd hE HB HG HT;obtain⟨b1,b2,b3⟩:=bd;have HE:=J hE;have t:Y (f=120->c++[R.tok s.data.toList k]=R.toks s.data.toList):=fun h=>by rw[<-hL,HB h]
    have j:Y (f≠120->(c++[R.tok s.data.toList k])++R.toksGo (s.size+1-z) s.data.toList z=R.toks s.data.toList):=fun h=>by
     rw[<-hL,HG h,Bl,pP (n:=s.size-k) (m:=s.size+1-z) (by rw[R.size_eq];omega) (by rw[R.size_eq];omega) (by rw[R.size_eq];exact b2)];rfl
    by_cases B:f=34
    ·subst B
     have b4:=b3 rfl;have HC:Y ((R.tok s.data.toList k).cells=[O Bp 34,I (s.extract (k+1) (z-1)),O Ai k]):=by
      rw[HT.o,Az rfl];unfold R.Tok.cells;rw[kB];rfl
     go_wp2_with (first
      |(go_at_call 83;refine(HE.o _ hs o).mono ?_;rintro e w' ⟨rfl,rfl⟩)
      |(at_builtin;refine Cu _ rfl _ _ 110 rfl w.heap.size 115 i0 _ 3 32 underlying110 hi C E F rfl (by decide) _ _ _ rfl ((b.alloc _).alloc _) ⟨w'.heap.size+1,0,S⟩ 1 1 [O Bp 34,I (s.extract (k+1) (z-1)),O Ai k] rfl rfl ?c1 ?c2 ?c3 ?c4 ?c5 ?_))
     case c1=>exact zZ _ #[_,_,_] _ _ (by simp)
     case c2=>intro u y;simp at y;rcases y with rfl|rfl|rfl <;> rfl
     case c3=>unfold Bh;omega
     case c4=>omega
     case c5=>have:=g.size;simp;omega
     intro v' Q d a _;have l:Ms w.heap.size w Q:=((g.alloc g.size _).alloc (by have:=g.size;simp;omega) _).grown a (by have:=g.size;simp;omega) (fun k H=>(b.lt k H).1);go_wp2
     go_roundw
     case rel=>exact⟨z,c++[R.tok s.data.toList k],b2,by simp;omega,rfl,by rw[R.tokCells_append,R.tokCells_one,HC.o,Ah];exact d,j.o (by decide),l⟩
     case measure=>simp[intOf];omega
    ·have ab:(f == 34)=false:=by rw[Ch];exact B
     have HC:Y ((R.tok s.data.toList k).cells=[O Bp f,I (s.extract k z),O Ai k]):=by
      rw[HT.o,Aw B];unfold R.Tok.cells;rw[kB];rfl
     by_cases p:f=120
     ·subst p
      have HF:=t.o rfl;have N:=J HF;go_wp2_with (first
      |(go_at_call 83;refine(HE.o _ hs o).mono ?_;rintro e w' ⟨rfl,rfl⟩)
      |(at_builtin;refine Cu _ rfl _ _ 110 rfl w.heap.size 115 i0 _ 3 32 underlying110 hi C E F rfl (by decide) _ _ _ rfl ((b.alloc _).alloc _) ⟨w'.heap.size+1,0,S⟩ 1 1 [O Bp 120,I (s.extract k z),O Ai k] rfl rfl ?c1 ?c2 ?c3 ?c4 ?c5 ?_))
      case c1=>exact zZ _ #[_,_,_] _ _ (by simp)
      case c2=>intro u y;simp at y;rcases y with rfl|rfl|rfl <;> rfl
      case c3=>unfold Bh;omega
      case c4=>omega
      case c5=>have:=g.size;simp;omega
      intro v' Q d a _;have l:Ms w.heap.size w Q:=((g.alloc g.size _).alloc (by have:=g.size;simp;omega) _).grown a (by have:=g.size;simp;omega) (fun k H=>(b.lt k H).1);go_wp2;go_ret;exact⟨_,rfl,by rw[<-N.o,R.tokCells_append,R.tokCells_one,HC.o,Ah];exact d,l⟩
     ·have aa:(f == 120)=false:=by rw[Ch];exact p
      have HF:=j.o p;have N:=J HF;go_wp2_with (first
      |(go_at_call 83;refine(HE.o _ hs o).mono ?_;rintro e w' ⟨rfl,rfl⟩)
      |(at_builtin;refine Cu _ rfl _ _ 110 rfl w.heap.size 115 i0 _ 3 32 underlying110 hi C E F rfl (by decide) _ _ _ rfl ((b.alloc _).alloc _) ⟨w'.heap.size+1,0,S⟩ 1 1 [O Bp f,I (s.extract k z),O Ai k] rfl rfl ?c1 ?c2 ?c3 ?c4 ?c5 ?_))
      case c1=>exact zZ _ #[_,_,_] _ _ (by simp)
      case c2=>intro u y;simp at y;rcases y with rfl|rfl|rfl <;> rfl
      case c3=>unfold Bh;omega
      case c4=>omega
      case c5=>have:=g.size;simp;omega
      intro v' Q d a _;have l:Ms w.heap.size w Q:=((g.alloc g.size _).alloc (by have:=g.size;simp;omega) _).grown a (by have:=g.size;simp;omega) (fun k H=>(b.lt k H).1);go_wp2
      go_roundw
      case rel=>exact⟨z,c++[R.tok s.data.toList k],b2,by simp;omega,rfl,by rw[R.tokCells_append,R.tokCells_one,HC.o,Ah];exact d,N,l⟩
      case measure=>simp[intOf];omega
  ·have H2:Y (c++[⟨0,[],s.size⟩]=R.toks s.data.toList):=by
    have:=HL.o;rw[show s.size+1-k=(s.size-k)+1 by omega,R.toksGo_end (by rw[R.size_eq];exact o),R.size_eq] at this;exact this
   go_wp2_with (at_builtin;refine Cu _ rfl _ _ 110 rfl w.heap.size 115 i0 _ 3 32 underlying110 hi C E F rfl (by decide) _ _ _ rfl (b.alloc _) ⟨wr.heap.size,0,S⟩ 1 1 [O Bp 0,I ⟨#[]⟩,O Ai s.size] rfl rfl ?c1 ?c2 ?c3 ?c4 ?c5 ?_)
   case c1=>exact zZ _ #[_,_,_] _ _ (by simp)
   case c2=>intro u y;simp at y;rcases y with rfl|rfl|rfl <;> rfl
   case c3=>unfold Bh;omega
   case c4=>omega
   case c5=>have:=g.size;simp;omega
   intro v' Q d a _;have l:Ms w.heap.size w Q:=(g.alloc g.size _).grown a (by have:=g.size;simp;omega) (fun k H=>(b.lt k H).1);go_wp2;go_ret;exact⟨_,rfl,by rw[<-H2.o,R.tokCells_append,R.tokCells_one,Ah];exact d,l⟩
theorem j3 (c:Ak)(w:Ag):Am prog 260 #[O Bp c] w fun e w'=>e=Af (Av (R.smallI c))/\w'=w:=by
 by_cases h:97<=c
 all_goals
  go_in;go_wp2;go_ret;exact⟨zX (by unfold R.smallI;rw[Eb];simp;try omega),rfl⟩
theorem fb (c:Ak)(w:Ag):Am prog 309 #[O Bp c] w fun e w'=>e=Af (Av (R.largeI c))/\w'=w:=by
 by_cases h:65<=c
 all_goals
  go_in;go_wp2;go_ret;exact⟨zX (by unfold R.largeI;rw[Eb];simp;try omega),rfl⟩
theorem jN (c:Ak)(w:Ag):Am prog 261 #[O Bp c] w fun e w'=>e=Af (Av (R.digitI c))/\w'=w:=by
 by_cases h:48<=c
 all_goals
  go_in;go_wp2;go_ret;exact⟨zX (by unfold R.digitI;rw[Eb];simp;try omega),rfl⟩
def xN (c:Ak):Ee:=c == 32 || c == 10
theorem gV (c:Ak)(w:Ag):Am prog 203 #[O Bp c] w fun e w'=>e=Af (Av (xN c))/\w'=w:=by
 cases h:(c == 32)
 all_goals
  go_in;go_wp2;go_ret;exact⟨zX (by unfold xN;rw[h];try rfl),rfl⟩
theorem fg (c:Ak)(w:Ag):Am prog 377 #[O Bp c] w fun e w'=>e=Af (Av (R.pathI c))/\w'=w:=by
 go_in;go_wp2
 all_goals
  go_ret;exact⟨zX (by unfold R.pathI;rw[Eb];simp;try omega),rfl⟩
theorem fA (c:Ak)(w:Ag):Am prog 411 #[O Bp c] w fun e w'=>e=Af (Av (R.valueI c))/\w'=w:=by
 go_in;go_wp2
 all_goals
  go_ret;exact⟨zX (by unfold R.valueI;rw[Eb];simp;try omega),rfl⟩
theorem jj (p:Ak->Ee)(l:A Ab):R.allB p l=true↔R.span p l=Z l:=by
 unfold R.allB
 induction l <;> grind[R.allB,R.span,R.span_le,List.length_cons]
theorem pY (s:As)(w:Ag)(g:s.size<=Bh):Am prog 202 #[I s,.func (.func 260) #[] #[]] w fun e w'=>e=Af (O Ai (R.span R.smallI s.data.toList:Ad))/\w'=w:=by
 unfold Bh at g;go_in;go_wp2_with fail
 go_loop [8] (fun v=>∃k:Ad,k<=s.size/\v=O Ai k/\Y (R.span R.smallI s.data.toList=k+R.span R.smallI (s.data.toList.drop k))) (fun v=>s.size-(intOf v).toNat)
 ·exact⟨0,Ax _,rfl,by show _=_;simp⟩
 ·
  obtain⟨k,h,rfl,b⟩:=hrel
  by_cases d:k<s.size
  ·cases hp:R.smallI s[k].toNat
   ·have c:Y (R.span R.smallI s.data.toList=k):=by
     have:=b.o;rw[R.span_stop d hp] at this;exact this
    go_wp2_with fail;refine(j3 _ _).mono ?_;rintro e f ⟨rfl,a⟩;rw[a,hp];go_wp2;go_ret;exact⟨by rw[c.o];rfl,rfl⟩
   ·have c:Y (R.span R.smallI s.data.toList=(k+1)+R.span R.smallI (s.data.toList.drop (k+1))):=by
     have:=b.o;rw[R.span_step d hp] at this;show _=_;omega
    go_wp2_with fail;refine(j3 _ _).mono ?_;rintro e f ⟨rfl,a⟩;rw[a,hp];go_wp2;exact⟨⟨k+1,by omega,by go_num,c⟩,by simp[intOf];omega⟩
  ·have c:Y (R.span R.smallI s.data.toList=s.size):=by
    have:=b.o;rw[R.span_end (k:=k) (by omega)] at this;show _=_;omega
   go_wp2;go_ret;exact⟨by rw[c.o];rfl,rfl⟩
theorem tQ (s:As)(w:Ag)(g:s.size<=Bh):Am prog 202 #[I s,.func (.func 261) #[] #[]] w fun e w'=>e=Af (O Ai (R.span R.digitI s.data.toList:Ad))/\w'=w:=by
 unfold Bh at g;go_in;go_wp2_with fail
 go_loop [8] (fun v=>∃k:Ad,k<=s.size/\v=O Ai k/\Y (R.span R.digitI s.data.toList=k+R.span R.digitI (s.data.toList.drop k))) (fun v=>s.size-(intOf v).toNat)
 ·exact⟨0,Ax _,rfl,by show _=_;simp⟩
 ·
  obtain⟨k,h,rfl,b⟩:=hrel
  by_cases d:k<s.size
  ·cases hp:R.digitI s[k].toNat
   ·have c:Y (R.span R.digitI s.data.toList=k):=by
     have:=b.o;rw[R.span_stop d hp] at this;exact this
    go_wp2_with fail;refine(jN _ _).mono ?_;rintro e f ⟨rfl,a⟩;rw[a,hp];go_wp2;go_ret;exact⟨by rw[c.o];rfl,rfl⟩
   ·have c:Y (R.span R.digitI s.data.toList=(k+1)+R.span R.digitI (s.data.toList.drop (k+1))):=by
     have:=b.o;rw[R.span_step d hp] at this;show _=_;omega
    go_wp2_with fail;refine(jN _ _).mono ?_;rintro e f ⟨rfl,a⟩;rw[a,hp];go_wp2;exact⟨⟨k+1,by omega,by go_num,c⟩,by simp[intOf];omega⟩
  ·have c:Y (R.span R.digitI s.data.toList=s.size):=by
    have:=b.o;rw[R.span_end (k:=k) (by omega)] at this;show _=_;omega
   go_wp2;go_ret;exact⟨by rw[c.o];rfl,rfl⟩
theorem pS (s:As)(w:Ag)(c:s.size<=Bh):Am prog 352 #[I s,.func (.func 261) #[] #[]] w fun e w'=>e=Af (Av (R.allB R.digitI s.data.toList))/\w'=w:=by
 have b:Y (R.allB R.digitI s.data.toList=((R.span R.digitI s.data.toList:Ak) == s.size)):=by
  show R.allB R.digitI s.data.toList=_;rw[<-R.size_eq,Eb];simp only[Hw];rw[Qk];exact jj R.digitI s.data.toList
 go_in;go_wp2_with fail;refine(tQ s _ c).mono ?_;rintro e d ⟨rfl,a⟩;rw[a];go_wp2;go_ret;exact⟨zX (by rw[b.o]),rfl⟩
theorem pX (s:As)(w:Ag)(g:s.size<=Bh):Am prog 202 #[I s,.func (.func 203) #[] #[]] w fun e w'=>e=Af (O Ai (R.span xN s.data.toList:Ad))/\w'=w:=by
 unfold Bh at g;go_in;go_wp2_with fail
 go_loop [8] (fun v=>∃k:Ad,k<=s.size/\v=O Ai k/\Y (R.span xN s.data.toList=k+R.span xN (s.data.toList.drop k))) (fun v=>s.size-(intOf v).toNat)
 ·exact⟨0,Ax _,rfl,by show _=_;simp⟩
 ·
  obtain⟨k,h,rfl,b⟩:=hrel
  by_cases d:k<s.size
  ·cases hp:xN s[k].toNat
   ·have c:Y (R.span xN s.data.toList=k):=by
     have:=b.o;rw[R.span_stop d hp] at this;exact this
    go_wp2_with fail;refine(gV _ _).mono ?_;rintro e f ⟨rfl,a⟩;rw[a,hp];go_wp2;go_ret;exact⟨by rw[c.o];rfl,rfl⟩
   ·have c:Y (R.span xN s.data.toList=(k+1)+R.span xN (s.data.toList.drop (k+1))):=by
     have:=b.o;rw[R.span_step d hp] at this;show _=_;omega
    go_wp2_with fail;refine(gV _ _).mono ?_;rintro e f ⟨rfl,a⟩;rw[a,hp];go_wp2;exact⟨⟨k+1,by omega,by go_num,c⟩,by simp[intOf];omega⟩
  ·have c:Y (R.span xN s.data.toList=s.size):=by
    have:=b.o;rw[R.span_end (k:=k) (by omega)] at this;show _=_;omega
   go_wp2;go_ret;exact⟨by rw[c.o];rfl,rfl⟩
theorem af (s:As)(w:Ag)(g:s.size<=Bh):Am prog 202 #[I s,.func (.func 377) #[] #[]] w fun e w'=>e=Af (O Ai (R.span R.pathI s.data.toList:Ad))/\w'=w:=by
 unfold Bh at g;go_in;go_wp2_with fail
 go_loop [8] (fun v=>∃k:Ad,k<=s.size/\v=O Ai k/\Y (R.span R.pathI s.data.toList=k+R.span R.pathI (s.data.toList.drop k))) (fun v=>s.size-(intOf v).toNat)
 ·exact⟨0,Ax _,rfl,by show _=_;simp⟩
 ·
  obtain⟨k,h,rfl,b⟩:=hrel
  by_cases d:k<s.size
  ·cases hp:R.pathI s[k].toNat
   ·have c:Y (R.span R.pathI s.data.toList=k):=by
     have:=b.o;rw[R.span_stop d hp] at this;exact this
    go_wp2_with fail;refine(fg _ _).mono ?_;rintro e f ⟨rfl,a⟩;rw[a,hp];go_wp2;go_ret;exact⟨by rw[c.o];rfl,rfl⟩
   ·have c:Y (R.span R.pathI s.data.toList=(k+1)+R.span R.pathI (s.data.toList.drop (k+1))):=by
     have:=b.o;rw[R.span_step d hp] at this;show _=_;omega
    go_wp2_with fail;refine(fg _ _).mono ?_;rintro e f ⟨rfl,a⟩;rw[a,hp];go_wp2;exact⟨⟨k+1,by omega,by go_num,c⟩,by simp[intOf];omega⟩
  ·have c:Y (R.span R.pathI s.data.toList=s.size):=by
    have:=b.o;rw[R.span_end (k:=k) (by omega)] at this;show _=_;omega
   go_wp2;go_ret;exact⟨by rw[c.o];rfl,rfl⟩
theorem aY (s:As)(w:Ag)(c:s.size<=Bh):Am prog 352 #[I s,.func (.func 377) #[] #[]] w fun e w'=>e=Af (Av (R.allB R.pathI s.data.toList))/\w'=w:=by
 have b:Y (R.allB R.pathI s.data.toList=((R.span R.pathI s.data.toList:Ak) == s.size)):=by
  show R.allB R.pathI s.data.toList=_;rw[<-R.size_eq,Eb];simp only[Hw];rw[Qk];exact jj R.pathI s.data.toList
 go_in;go_wp2_with fail;refine(af s _ c).mono ?_;rintro e d ⟨rfl,a⟩;rw[a];go_wp2;go_ret;exact⟨zX (by rw[b.o]),rfl⟩
theorem pZ (s:As)(w:Ag)(g:s.size<=Bh):Am prog 202 #[I s,.func (.func 411) #[] #[]] w fun e w'=>e=Af (O Ai (R.span R.valueI s.data.toList:Ad))/\w'=w:=by
 unfold Bh at g;go_in;go_wp2_with fail
 go_loop [8] (fun v=>∃k:Ad,k<=s.size/\v=O Ai k/\Y (R.span R.valueI s.data.toList=k+R.span R.valueI (s.data.toList.drop k))) (fun v=>s.size-(intOf v).toNat)
 ·exact⟨0,Ax _,rfl,by show _=_;simp⟩
 ·
  obtain⟨k,h,rfl,b⟩:=hrel
  by_cases d:k<s.size
  ·cases hp:R.valueI s[k].toNat
   ·have c:Y (R.span R.valueI s.data.toList=k):=by
     have:=b.o;rw[R.span_stop d hp] at this;exact this
    go_wp2_with fail;refine(fA _ _).mono ?_;rintro e f ⟨rfl,a⟩;rw[a,hp];go_wp2;go_ret;exact⟨by rw[c.o];rfl,rfl⟩
   ·have c:Y (R.span R.valueI s.data.toList=(k+1)+R.span R.valueI (s.data.toList.drop (k+1))):=by
     have:=b.o;rw[R.span_step d hp] at this;show _=_;omega
    go_wp2_with fail;refine(fA _ _).mono ?_;rintro e f ⟨rfl,a⟩;rw[a,hp];go_wp2;exact⟨⟨k+1,by omega,by go_num,c⟩,by simp[intOf];omega⟩
  ·have c:Y (R.span R.valueI s.data.toList=s.size):=by
    have:=b.o;rw[R.span_end (k:=k) (by omega)] at this;show _=_;omega
   go_wp2;go_ret;exact⟨by rw[c.o];rfl,rfl⟩
theorem pT (s:As)(w:Ag)(c:s.size<=Bh):Am prog 352 #[I s,.func (.func 411) #[] #[]] w fun e w'=>e=Af (Av (R.allB R.valueI s.data.toList))/\w'=w:=by
 have b:Y (R.allB R.valueI s.data.toList=((R.span R.valueI s.data.toList:Ak) == s.size)):=by
  show R.allB R.valueI s.data.toList=_;rw[<-R.size_eq,Eb];simp only[Hw];rw[Qk];exact jj R.valueI s.data.toList
 go_in;go_wp2_with fail;refine(pZ s _ c).mono ?_;rintro e d ⟨rfl,a⟩;rw[a];go_wp2;go_ret;exact⟨zX (by rw[b.o]),rfl⟩
theorem gy (c:Ak)(w:Ag):Am prog 393 #[O Bp c] w fun e w'=>e=Af (Av (R.partI c true))/\w'=w:=by
 have a:Y (R.partI c true=(R.smallI c || R.digitI c || c == 45 || (true && R.largeI c))):=rfl
 cases h1:R.smallI c <;> cases h2:R.largeI c <;> cases h3:R.digitI c
 all_goals
  rw[h1,h2,h3] at a;go_in;go_wp2_with (first
   |(go_at_call 260;refine(j3 _ _).mono ?_;rintro e w' ⟨rfl,rfl⟩)
   |(go_at_call 309;refine(fb _ _).mono ?_;rintro e w' ⟨rfl,rfl⟩)
   |(go_at_call 261;refine(jN _ _).mono ?_;rintro e w' ⟨rfl,rfl⟩))
  go_ret;exact⟨zX (by rw[a.o];simp),rfl⟩
theorem wY (c:Ak)(w:Ag):Am prog 412 #[O Bp c] w fun e w'=>e=Af (Av (R.upI c))/\w'=w:=by
 have a:Y (R.upI c=(R.smallI c || R.digitI c || c == 45 || (false && R.largeI c) || decide (c=46\/c=58))):=rfl
 cases h1:R.smallI c <;> cases h3:R.digitI c
 all_goals
  rw[h1,h3] at a;go_in;go_wp2_with (first
   |(go_at_call 260;refine(j3 _ _).mono ?_;rintro e w' ⟨rfl,rfl⟩)
   |(go_at_call 261;refine(jN _ _).mono ?_;rintro e w' ⟨rfl,rfl⟩))
  all_goals
   go_ret;exact⟨zX (by rw[a.o,Eb];simp;try omega),rfl⟩
structure R.St where
 K:Ad
 bad:Ak
 E:Ak
 at_:Ak
def R.numStep (n:Ak)(c:Ab):Ak:=wrap64 (wrap64 (10*n)+((c.toNat:Ak)-48) % 256)
def R.num (l:A Ab):Ak:=l.foldl R.numStep 0
structure R.Ok (ts:A R.Tok):Prop where
 goes:∀(k:Ad) (t:R.Tok),ts[k]?=V t->t.k≠0->t.k≠120->k+1<Z ts
 len:Z ts<=4000
 strs:∀(k:Ad) (t:R.Tok),ts[k]?=V t->Z t.s<=3000
 nums:∀(k:Ad) (t:R.Tok),ts[k]?=V t->t.k=49->0<=R.num t.s/\R.num t.s<=99999
structure RInv (w:Ag) (rb g cap:Ad) (ts:A R.Tok) (st:R.St) (H:Aj):Prop where
 rd:w.heap[rb]?=V (Ae #[X (V ⟨g,0,S⟩) (Z ts) cap,O Ai st.K,O Ai st.bad,O Ai st.E,O Ai st.at_,H] 113 (0,0))
 tk:∃cur,w.heap[g]?=V (Ae cur 115 (0,0))/\cur.toList.take (Z ts*3)=R.tokCells ts
 ne:g≠rb
 lt:st.K<Z ts
 ok:R.Ok ts
variable {row:Br Ad}
theorem zD {a b c:Ag}(h:a.grownBy b row)(k:b.grownBy c row):a.grownBy c row:=
 ⟨k.os.trans h.os,k.tape.trans h.tape,k.output.trans h.output,Bi h.size k.size,fun i hi hn=>(k.block i (Eh hi h.size) hn).trans (h.block i hi hn)⟩
theorem zT {a b:Ag}(h:a.grownBy b S)(row:Br Ad):a.grownBy b row:=
 ⟨h.os,h.tape,h.output,h.size,fun i hi _=>h.block i hi (by simp)⟩
theorem zP (w:Ag)(row:Br Ad):w.grownBy w row:=⟨rfl,rfl,rfl,Aq _,fun _ _ _=>rfl⟩
variable {w w':Ag}
theorem zt (h:Ms w.heap.size w w'):w.grownBy w' S:=⟨h.os,h.tape,h.output,h.size,fun k hk _=>h.block k hk⟩
theorem qh (h:w.grownBy w' S):Ms w.heap.size w w':=⟨h.os,h.tape,h.output,h.size,fun k hk=>h.block k hk (by simp)⟩
variable {o:Obj}
theorem zO (h:w.heap[b]?=V o):b<w.heap.size:=(Gy.1 h).1
variable {ts:A R.Tok}{st:R.St}{H:Aj}
theorem RInv.keep (h:RInv w rb g a ts st H)(d:w.grownBy w' S):RInv w' rb g a ts st H:=by
 refine⟨?_,?_,h.ne,h.lt,h.ok⟩
 ·rw[d.block rb (zO h.rd) (by simp)];exact h.rd
 ·obtain⟨b,c,f⟩:=h.tk
  exact⟨b,by rw[d.block g (zO c) (by simp)];exact c,f⟩
variable {f:Ad×Ad}
theorem zB {a:Fh Aj}{t:Cs}(h:w.heap[b]?=V (Ae a t f)):w.cell? ⟨b,i,S⟩=a[i]?:=
 cell_of_row w b i a t f h
theorem zG {a:Fh Aj}{t:Cs}(h:w.heap[b]?=V (Ae a t (0,0))):w.frozen? ⟨b,i,S⟩=false:=by
 unfold World.frozen?;simp[h]
theorem zm9 {a:Fh Aj}{t:Cs}(i:Ad)(h:w.heap[b]?=V (Ae a t (0,0))):w.frozen? ⟨b,i,S⟩=false:=zG h
theorem cbi {l:A Aj}{t:Cs}(i:Ad){v:Aj}(h:w.heap[b]?=V (Ae ⟨l⟩ t f))(e:l[i]?=V v:=by exact rfl):w.cell? ⟨b,i,S⟩=V v:=by rw[zB h];simpa using e
theorem pO (ts:A R.Tok)(k:Ad)(h:k<Z ts)(j:Ad)(b:j<3):(R.tokCells ts)[k*3+j]?=(ts[k].cells)[j]?:=by
 induction ts generalizing k with
 |nil=>simp at h
 |cons t ts ih=>
  have e:R.tokCells (t::ts)=t.cells++R.tokCells ts:=by simp[R.tokCells]
  rw[e];have a:Z t.cells=3:=rfl
  match k with
  |0=>rw[Cx (by rw[a];omega)];simp
  |k+1=>
   rw[Cl (by rw[a];omega),a,show(k+1)*3+j-3=k*3+j by omega,ih k (by simpa using h)];rfl
theorem RInv.tok (h:RInv w rb g a ts st H)(k:Ad)(i:k<Z ts)(j:Ad)(f:j<3):w.cell? ⟨g,k*3+j,S⟩=(ts[k].cells)[j]?:=by
 obtain⟨b,c,d⟩:=h.tk;rw[zB c,<-pO ts k i j f,<-d,Gi,Az (by omega)];simp
variable {t:R.Tok}
theorem RInv.tok? (h:RInv w rb g b ts st H)(c:ts[st.K]?=V t):w.cell? ⟨g,st.K*3,S⟩=V (O Bp t.k)/\w.cell? ⟨g,st.K*3+1,S⟩=V (I (R.str t.s))/\w.cell? ⟨g,st.K*3+2,S⟩=V (O Ai t.at_):=by
 have a:=h.lt;have e:ts[st.K]=t:=by rw[Bd a] at c;exact Bc c
 have d:=h.tok st.K a 0 (by omega);have f:=h.tok st.K a 1 (by omega);have i:=h.tok st.K a 2 (by omega);rw[e] at d f i;exact⟨d,f,i⟩
theorem RInv.gl (h:RInv w rb g a ts st H):g<w.heap.size:=by grind[R.Tok,R.St,RInv]
abbrev Fa5 (a b c):=Fe #[O Bp a,I (R.str b),O Ai c]
theorem ur (h:RInv w rb g a ts st H)(b:ts[st.K]?=V t):Am prog 51 #[Al (V ⟨rb,0,S⟩)] w fun e w'=>e=Af (Fa5 t.k t.s t.at_)/\w.grownBy w' S:=by
 have i:=cbi 0 h.rd;have j:=cbi 1 h.rd;obtain⟨l,m,o⟩:=h.tok? b;have d:=h.lt;have c:=zO h.rd;have f:=h.gl;generalize st.K=k at*;generalize (Z ts)=n at*;go_in;go_wp2
 go_region
 go_wp2;exact Et (v:=.agg #[O Bp t.k,I (R.str t.s),O Ai t.at_]) (by simp[Hm,results51,go_sem]) rfl ⟨rfl,zt (((Vw _ _).alloc (Aq _) _).drew)⟩
def R.isB (st:R.St)(t:R.Tok)(s:A Ab):Ee:=decide (st.bad<0) && ((t.k == 119 || t.k == 115) && decide (t.s=s))
theorem ziL {d:Ad}(h:RInv w rb g d ts st H)(i:ts[st.K]?=V t)(s:As):Am prog 89 #[Al (V ⟨rb,0,S⟩),I s] w fun e w'=>e=Af (Av (R.isB st t s.data.toList))/\w.grownBy w' S:=by
 have b:Y (R.isB st t s.data.toList=(decide (st.bad<0) && ((t.k == 119 || t.k == 115) && decide (t.s=s.data.toList)))):=rfl;have m:((R.str t.s).toList == s.toList)=decide (t.s=s.data.toList):=by rw[El,El,R.str_toList,Eb];simp
 generalize decide (t.s=s.data.toList)=b3 at*
 by_cases f:st.bad<0
 ·cases h1:(t.k == 119) <;> cases h2:(t.k == 115)
  all_goals
   rw[h1,h2,Cf f] at b;go_in;go_wp2_with (go_at_call 51;refine(ur h i).mono ?_;rintro e l ⟨rfl,a⟩;have j:=cbi 2 (h.keep a).rd;have c:=zO (h.keep a).rd);go_ret;exact⟨zX (by rw[b.o];try rfl),zt ((qh a).alloc a.size _)⟩
 ·rw[Ce f] at b
  go_in;go_wp2_with (go_at_call 51;refine(ur h i).mono ?_;rintro e l ⟨rfl,a⟩;have j:=cbi 2 (h.keep a).rd;have c:=zO (h.keep a).rd);go_ret;exact⟨zX (by rw[b.o];try rfl),zt ((qh a).alloc a.size _)⟩
def R.overS (t:R.Tok)(st:R.St)(ok:Ee):R.St:=
 if 0<=st.bad then st else if ok then { st with K:=st.K+1 } else { st with bad:=t.at_ }
def R.notS (st:R.St)(ok:Ee)(e a:Ak):R.St:=
 if ok=false/\st.E=0/\st.bad<0 then { st with E:=e,at_:=a } else st
theorem zH {a:Fh Aj}{t:Cs}(h:w.heap[b]?=V (Ae a t f))(v:Aj):(w.setCell ⟨b,i,S⟩ v).heap[b]?=V (Ae (a.setIfInBounds i v) t f):=by
 simp only[Bs,Sy,Az,h];simp
theorem ze7 (a b c:Aj)(w:Ag):(Instr.field 115 (Fe #[a,b,c]) 2).run prog w = .ok c w:=by kernel_rfl
theorem zF (w:Ag)(b i:Ad)(v:Aj):w.grownBy (w.setCell ⟨b,i,S⟩ v) (V b):=by
 refine⟨rfl,rfl,rfl,by simp[Bs],fun k hk hn=>?_⟩;exact Below.heap_setCell _ _ _ _ (fun e=>hn (by rw[e]))
theorem RInv.put {a:R.St}{d:Aj}(h:RInv w rb g b ts st H)(j:w.grownBy w' (V rb))
  (l:w'.heap[rb]?=V (Ae #[X (V ⟨g,0,S⟩) (Z ts) b,O Ai a.K,O Ai a.bad,O Ai a.E,O Ai a.at_,d] 113 (0,0))) (k:a.K<Z ts):RInv w' rb g b ts a d:=by
 refine⟨l,?_,h.ne,k,h.ok⟩;obtain⟨c,f,i⟩:=h.tk;exact⟨c,by rw[j.block g (zO f) (by simpa using h.ne)];exact f,i⟩
theorem oY {c:Ad}(h:RInv w rb g c ts st H)(n:ts[st.K]?=V t)(a:Ee)(f:a=true->st.bad<0->st.K+1<Z ts):Am prog 130 #[Al (V ⟨rb,0,S⟩),Av a] w fun e w'=>e=Af (Cm #[])/\RInv w' rb g c ts (R.overS t st a) H/\w.grownBy w' (V rb):=by
 have p:=cbi 2 h.rd;have o:=cbi 1 h.rd;have r:=zm9 1 h.rd;have j:=h.lt;have m:=h.ok.len
 by_cases i:0<=st.bad
 ·have b:Y (R.overS t st a=st):=by show R.overS t st a=st;unfold R.overS;rw[Az i]
  go_in;go_wp2;exact Et (v:=.tuple #[]) (results_none results130 _ _ _) rfl ⟨rfl,by rw[b.o];exact h,zP _ _⟩
 ·cases a
  ·have b:Y (R.overS t st false={ st with bad:=t.at_ }):=by show R.overS t st false=_;unfold R.overS;rw[Aw i];rfl
   have l:=ze7;go_in;go_wp2_with (go_at_call 51;refine(ur h n).mono ?_;rintro e u ⟨rfl,d⟩;have s:=zm9 2 (h.keep d).rd;have q:=cbi 2 (h.keep d).rd)
   go_end0
   refine⟨rfl,?_,zD (zT d _) (zF _ _ _ _)⟩;rw[b.o];exact(h.keep d).put (zF _ _ _ _) (zH (h.keep d).rd _) j
  ·have k:=J (f rfl (by omega))
   have b:Y (R.overS t st true={ st with K:=st.K+1 }):=by show R.overS t st true=_;unfold R.overS;rw[Aw i];rfl
   go_in;go_wp2
   go_end0
   refine⟨rfl,?_,zF _ _ _ _⟩;rw[b.o];exact h.put (zF _ _ _ _) (zH h.rd _) k.o
theorem j4 {j:Ad}(h:RInv w rb g j ts st H)(q:Ee)(c:Ak)(a b:Aj)(p:Ak):Am prog 85 #[Al (V ⟨rb,0,S⟩),Av q,O Ai c,Fe #[a,b,O Ai p]] w fun e w'=>e=Af (Cm #[])/\RInv w' rb g j ts (R.notS st q c p) H/\w.grownBy w' (V rb):=by
 have s:=cbi 2 h.rd;have t:=cbi 3 h.rd;have u:=cbi 4 h.rd;have v:=zm9 3 h.rd;have x:=zm9 4 h.rd;have l:=zO h.rd;have o:=h.lt;have d:w.grownBy (w.alloc (Ae #[a,b,O Ai p] 115)) S:=Ac _ _ _;have n:=h.keep d
 cases q
 ·by_cases i:st.E=0
  ·have m:(st.E == 0)=true:=by rw[i];rfl
   by_cases r:st.bad<0
   ·have f:Y (R.notS st false c p={ st with E:=c,at_:=p }):=by show R.notS st false c p=_;unfold R.notS;rw[Az ⟨rfl,i,r⟩]
    go_in;go_wp2
    go_end0
    have k:w.grownBy (((w.setCell ⟨rb,3,S⟩ (O Ai c)).setCell ⟨rb,4,S⟩ (O Ai p)).alloc (Ae #[a,b,O Ai p] 115)) (V rb):=
     zD (zD (zF _ _ _ _) (zF _ _ _ _)) (Ac _ _ _)
    refine⟨rfl,?_,k⟩;rw[f.o];refine h.put k ?_ o;rw[Vb _ _ _ (by simp[Bs];exact l)];exact zH (zH h.rd _) _
   ·have f:Y (R.notS st false c p=st):=by show R.notS st false c p=_;unfold R.notS;rw[Aw (fun h=>r h.2.2)]
    go_in;go_wp2
    go_end0
    exact⟨rfl,by rw[f.o];exact n,zT d _⟩
  ·have m:(st.E == 0)=false:=by rw[Ch];exact i
   have f:Y (R.notS st false c p=st):=by show R.notS st false c p=_;unfold R.notS;rw[Aw (fun h=>i h.2.1)]
   go_in;go_wp2
   go_end0
   exact⟨rfl,by rw[f.o];exact n,zT d _⟩
 ·have f:Y (R.notS st true c p=st):=by show R.notS st true c p=_;unfold R.notS;rw[Aw (fun h=>absurd h.1 (by simp))]
  go_in;go_wp2
  go_end0
  exact⟨rfl,by rw[f.o];exact n,zT d _⟩
theorem ql (h:(w.alloc o).grownBy w' row)(a:V w.heap.size≠row):w'.heap[w.heap.size]?=V o:=by
 rw[h.block w.heap.size (by simp) a];exact heap_alloc_new w o
theorem zE (h:w.heap[b]?=V o)(a:w.grownBy w' row)(c:V b≠row):w'.heap[b]?=V o:=by
 rw[a.block b (zO h) c];exact h
theorem World.heap_alloc_size (w:Ag)(o:Obj):(w.alloc o).heap.size=w.heap.size+1:=by simp
theorem RInv.other (h:RInv w rb g a ts st H)(f:w.grownBy w' (V b))(i:b≠rb)(j:b≠g):RInv w' rb g a ts st H:=by
 refine⟨?_,?_,h.ne,h.lt,h.ok⟩
 ·rw[f.block rb (zO h.rd) (by simpa using fun e=>i e.symm)];exact h.rd
 ·obtain⟨c,d,k⟩:=h.tk
  exact⟨c,by rw[f.block g (zO d) (by simpa using fun e=>j e.symm)];exact d,k⟩
theorem ze {a b c:Ag}{k:Ad}(h:a.grownBy b row)(d:b.grownBy c (V k))(f:a.heap.size<=k):a.grownBy c row:=
 ⟨d.os.trans h.os,d.tape.trans h.tape,d.output.trans h.output,Bi h.size d.size,fun i hi hr=>(d.block i (Eh hi h.size) (by simp;omega)).trans (h.block i hi hr)⟩
theorem ziO (h:RInv w rb g b ts st H)(m:ts[st.K]?=V t)(s:As):Am prog 84 #[Al (V ⟨rb,0,S⟩),I s] w fun e w'=>e=Af (Fa5 t.k t.s t.at_)/\RInv w' rb g b ts (R.overS t st (R.isB st t s.data.toList)) H/\w.grownBy w' (V rb):=by
 have j:R.isB st t s.data.toList=true->st.bad<0->st.K+1<Z ts:=by
  intro E _;unfold R.isB at E;simp only[Ez,Sn,Hw] at E;exact h.ok.goes st.K t m (by omega) (by omega)
 have i:=fun {w:Ag} (h:RInv w rb g b ts st H)=>ziL h m s
 generalize R.isB st t s.data.toList=ib at*;have p:=J j;have o:Y _:=@i;have z:=J m;have y:=J h;have aa:=zO h.rd;have bg:=h.gl;go_in;go_wp2_with fail;refine(ur (y.o.keep (Ac _ _ _)) z.o).mono ?_;rintro e x ⟨rfl,c⟩;have B:Y (RInv x rb g b ts st H):=(y.o.keep (Ac _ _ _)).keep c;go_wp2_with fail;refine(o.o (B.o.keep (Ac _ _ _))).mono ?_;rintro e w2 ⟨rfl,a⟩;have Q:Y (RInv w2 rb g b ts st H):=(B.o.keep (Ac _ _ _)).keep a;go_wp2_with fail;refine(oY Q.o z.o ib p.o).mono ?_;rintro e F ⟨rfl,C,d⟩;have J3:=J C;have k1:=c.size;have k2:=a.size;simp only[World.heap_alloc_size] at k1 k2;have n:=zE (ql a (by simp)) d (by simp;omega);have f:=zE (zE (zE (ql c (by simp)) (Ac x _ S) (by simp)) a (by simp)) d (by simp;omega);have ab:=cbi 0 n;have ad:=cbi 1 n;have ae:=cbi 2 n;have q:=cbi 0 f;have r:=cbi 1 f;have u:=cbi 2 f;have f0:=zm9 0 f;have f1:=zm9 1 f;have f2:=zm9 2 f;have N:Y (w.grownBy F (V rb)):=zD (zT (zD (zD (zD (Ac w _ S) c) (Ac x _ S)) a) _) d;go_wp2;have l:=zD (zD (zF F w.heap.size 0 (O Bp t.k)) (zF _ w.heap.size 1 (I (R.str t.s)))) (zF _ w.heap.size 2 (O Ai t.at_));exact Et (v:=.agg #[O Bp t.k,I (R.str t.s),O Ai t.at_]) (by simp[Hm,results84,go_sem,q,r,u]) rfl
  ⟨rfl,J3.o.other l (by omega) (by omega),ze N.o l (Aq _)⟩
theorem ziM {c:Ad}(h:RInv w rb g c ts st H)(p:ts[st.K]?=V t)(k:Ak)(f:k≠0)(i:k≠120):Am prog 86 #[Al (V ⟨rb,0,S⟩),O Bp k] w fun e w'=>e=Af (Fa5 t.k t.s t.at_)/\RInv w' rb g c ts (R.overS t st (t.k == k)) H/\w.grownBy w' (V rb):=by
 have j:(t.k == k)=true->st.bad<0->st.K+1<Z ts:=by
  intro o _;rw[Hw] at o;exact h.ok.goes st.K t p (by rw[o];exact f) (by rw[o];exact i)
 have n:=J j;have z:=J p;have y:=J h;have Q:=zO h.rd;have bg:=h.gl;go_in;go_wp2_with fail;refine(ur (y.o.keep (Ac _ _ _)) z.o).mono ?_;rintro e x ⟨rfl,a⟩;have F:Y (RInv x rb g c ts st H):=(y.o.keep (Ac _ _ _)).keep a;go_wp2_with fail;refine(oY (F.o.keep (Ac _ _ _)) z.o (t.k == k) n.o).mono ?_;rintro e C ⟨rfl,B,b⟩;have N:=J B;have k1:=a.size;have k3:=b.size;simp only[World.heap_alloc_size] at k1 k3;have m:=ql b (by simp;omega);have d:=zE (zE (ql a (by simp)) (Ac x _ S) (by simp)) b (by simp;omega);have aa:=cbi 0 m;have ab:=cbi 1 m;have ad:=cbi 2 m;have q:=cbi 0 d;have r:=cbi 1 d;have u:=cbi 2 d;have f0:=zm9 0 d;have f1:=zm9 1 d;have f2:=zm9 2 d;have E:Y (w.grownBy C (V rb)):=zD (zT (zD (zD (Ac w _ S) a) (Ac x _ S)) _) b;go_wp2;have l:=zD (zD (zF C w.heap.size 0 (O Bp t.k)) (zF _ w.heap.size 1 (I (R.str t.s)))) (zF _ w.heap.size 2 (O Ai t.at_));exact Et (v:=.agg #[O Bp t.k,I (R.str t.s),O Ai t.at_]) (by simp[Hm,results86,go_sem,q,r,u]) rfl
  ⟨rfl,N.o.other l (by omega) (by omega),ze E.o l (Aq _)⟩
theorem zaK (s:As)(k:Ad)(h:k<s.size):R.num (s.data.toList.take (k+1))=R.numStep (R.num (s.data.toList.take k)) s[k]:=by
 rw[R.take_snoc s k h];unfold R.num;rw[Mb];rfl
theorem ut (a c:Aj)(s:As)(w:Ag)(j:s.size<=3000):Am prog 132 #[Fe #[a,I s,c]] w fun e w'=>e=Af (O Ai (R.num s.data.toList))/\w.grownBy w' S:=by
 go_in;go_wp2
 go_loop [3,4] (fun n i=>∃k:Ad,k<=s.size/\i=O Ai k/\n=O Ai (R.num (s.data.toList.take k))) (fun _ i=>s.size-(intOf i).toNat)
 ·exact⟨0,Ax _,rfl,rfl⟩
 ·
  obtain⟨k,h,rfl,rfl⟩:=hrel
  by_cases d:k<s.size
  ·have f:Y _:=zaK s k d
   generalize R.num (s.data.toList.take k)=n at*;generalize g:s[k]=b at*;go_wp2;exact⟨⟨k+1,by omega,by go_num,by rw[f.o];rfl⟩,by simp[intOf];omega⟩
  ·go_wp2
   go_ret;exact⟨by rw[Cc (by rw[R.size_eq];omega)];rfl,Ac _ _ _⟩
theorem zV (w:Ag):w.grownBy w.drew S:=⟨rfl,rfl,rfl,Aq _,fun _ _ _=>rfl⟩
def R.cur (ts:A R.Tok)(st:R.St):R.Tok:=ts.getD st.K ⟨0,[],0⟩
theorem RInv.cur (h:RInv w rb g a ts st H):ts[st.K]?=V (R.cur ts st):=by grind[R.cur,R.Tok,R.St,RInv]
theorem RInv.curlen (h:RInv w rb g a ts st H):(R.str (R.cur ts st).s).size<=3000:=by
 rw[R.str_size];exact h.ok.strs _ _ h.cur
def R.needS (ts:A R.Tok)(st:R.St)(s:A Ab):R.St:=R.overS (R.cur ts st) st (R.isB st (R.cur ts st) s)
def R.kindS (ts:A R.Tok)(st:R.St)(k:Ak):R.St:=R.overS (R.cur ts st) st ((R.cur ts st).k == k)
abbrev Fa2 (a b):=Fe #[O Bp (R.cur a b).k,I (R.str (R.cur a b).s),O Ai (R.cur a b).at_]
theorem qv (h:RInv w rb g a ts st H)(s:As):Am prog 84 #[Al (V ⟨rb,0,S⟩),I s] w fun e w'=>e=Af (Fa2 ts st)/\RInv w' rb g a ts (R.needS ts st s.data.toList) H/\w.grownBy w' (V rb):=
 ziO h h.cur s
theorem kO (h:RInv w rb g a ts st H)(k:Ak)(b:k≠0)(c:k≠120):Am prog 86 #[Al (V ⟨rb,0,S⟩),O Bp k] w fun e w'=>e=Af (Fa2 ts st)/\RInv w' rb g a ts (R.kindS ts st k) H/\w.grownBy w' (V rb):=
 ziM h h.cur k b c
theorem uC (h:RInv w rb g a ts st H)(s:As):Am prog 89 #[Al (V ⟨rb,0,S⟩),I s] w fun e w'=>e=Af (Av (R.isB st (R.cur ts st) s.data.toList))/\w.grownBy w' S:=
 ziL h h.cur s
theorem tokbox {d f:Ag}{a b c:Aj}(i:(d.alloc (Ae #[a,b,c] 115)).grownBy f (V rb))(h:rb<d.heap.size):f.cell? ⟨d.heap.size,0,S⟩=V a/\f.cell? ⟨d.heap.size,1,S⟩=V b/\f.cell? ⟨d.heap.size,2,S⟩=V c:=by
 have g:=ql i (by simp;omega);exact⟨zB g,zB g,zB g⟩
def R.pathS (ts:A R.Tok)(st:R.St):A Ab×R.St:=
 ((R.cur ts st).s,R.notS (R.kindS ts st 34) (R.path (R.cur ts st).s) 4 (R.cur ts st).at_)
theorem oZ (h:RInv w rb g b ts st H):Am prog 133 #[Al (V ⟨rb,0,S⟩)] w fun e w'=>e=Af (I (R.str (R.pathS ts st).1))/\RInv w' rb g b ts (R.pathS ts st).2 H/\w.grownBy w' (V rb):=by
 have q:=h.curlen;have d:(R.str (R.cur ts st).s).size<=Bh:=by unfold Bh;omega
 have i:Y (R.pathS ts st=((R.cur ts st).s,R.notS (R.kindS ts st 34) (R.path (R.cur ts st).s) 4 (R.cur ts st).at_)):=rfl;have l:=J h;have n:=J d;generalize R.pathS ts st=r at*;go_in;go_wp2_with fail;refine(kO l.o 34 (by decide) (by decide)).mono ?_;rintro e z ⟨rfl,f,c⟩;have p:=zO f.rd;have o:=J f;go_wp2_with fail;refine(nc _ _ n.o).mono ?_;rintro e t ⟨rfl,rfl⟩;go_wp2_with fail;refine(j4 (o.o.keep (Ac _ _ _)) _ _ _ _ _).mono ?_;rintro e u ⟨rfl,j,a⟩;obtain⟨v,x,y⟩:=tokbox a p;have k:=J j;have m:Y (w.grownBy u (V rb)):=zD c (zD (Ac _ _ _) a);go_wp2;go_ret;rw[R.str_toList] at k;exact⟨by rw[i.o];rfl,by rw[i.o];exact k.o,m.o⟩
def R.valueS (ts:A R.Tok)(st:R.St):A Ab×R.St:=
 ((R.cur ts (R.needS ts st [61])).s,R.notS (R.kindS ts (R.needS ts st [61]) 34) (R.value (R.cur ts (R.needS ts st [61])).s) 4 (R.cur ts (R.needS ts st [61])).at_)
theorem sW (h:RInv w rb g b ts st H):Am prog 191 #[Al (V ⟨rb,0,S⟩)] w fun e w'=>e=Af (I (R.str (R.valueS ts st).1))/\RInv w' rb g b ts (R.valueS ts st).2 H/\w.grownBy w' (V rb):=by
 have j:Y (R.valueS ts st=((R.cur ts (R.needS ts st [61])).s,R.notS (R.kindS ts (R.needS ts st [61]) 34) (R.value (R.cur ts (R.needS ts st [61])).s) 4 (R.cur ts (R.needS ts st [61])).at_)):=rfl;have n:=J h;generalize R.valueS ts st=r at*;go_in;go_wp2_with fail;refine(qv n.o _).mono ?_;rintro e w0 ⟨rfl,f,c⟩;rw[show(⟨#[61]⟩:As).data.toList=[61] from rfl] at f;have l:=J f;generalize R.needS ts st [61]=st0 at*;have u:=l.o.curlen;have p:Y ((R.str (R.cur ts st0).s).size<=Bh):=by show _<=_;unfold Bh;omega
 go_wp2_with fail;refine(kO l.o 34 (by decide) (by decide)).mono ?_;rintro e C ⟨rfl,i,d⟩;have t:=zO i.rd;have q:=J i;go_wp2_with fail;refine(dj _ _ p.o).mono ?_;rintro e v ⟨rfl,rfl⟩;go_wp2_with fail;refine(j4 (q.o.keep (Ac _ _ _)) _ _ _ _ _).mono ?_;rintro e x ⟨rfl,k,a⟩;obtain⟨y,z,B⟩:=tokbox a t;have m:=J k;have o:Y (w.grownBy x (V rb)):=zD c (zD d (zD (Ac _ _ _) a));go_wp2;go_ret;rw[R.str_toList] at m;exact⟨by rw[j.o];rfl,by rw[j.o];exact m.o,o.o⟩
def R.among (l:A (A Ab))(s:A Ab)(p:Ak)(st:R.St):R.St:=l.foldl (fun st a=>R.notS st (decide (a≠s)) 5 p) st
def R.headerS (ts:A R.Tok)(st:R.St)(l:A (A Ab)):A Ab×R.St:=
 (R.lower (R.cur ts st).s,R.among l (R.lower (R.cur ts st).s) (R.cur ts st).at_ (R.notS (R.kindS ts st 34) (R.header (R.cur ts st).s true) 4 (R.cur ts st).at_))
def zY (l:A (A Ab)):A Aj:=l.map fun s=>I (R.str s)
def StrRow (w:Ag)(v:Aj)(l:A (A Ab)):Prop:=w.ownsRow 0 9 1 v (Z l) (zY l)
theorem bB {f:Ad}(h:RInv w rb g f ts st H)(v:Aj)(l:A (A Ab))(hv:StrRow w v l)(hn:Z l<=10000)(z:v.ownBlock≠V rb):Am prog 190 #[Al (V ⟨rb,0,S⟩),v] w fun e w'=>e=Af (I (R.str (R.headerS ts st l).1))/\RInv w' rb g f ts (R.headerS ts st l).2 H/\w.grownBy w' (V rb):=by
 have hl:=h.curlen;have HL:Y ((R.str (R.cur ts st).s).size<=100000):=by show _<=_;omega
 have B:Y (R.headerS ts st l=(R.lower (R.cur ts st).s,R.among l (R.lower (R.cur ts st).s) (R.cur ts st).at_ (R.notS (R.kindS ts st 34) (R.header (R.cur ts st).s true) 4 (R.cur ts st).at_))):=rfl;have H0:=J h;have HV:=J hv;generalize R.headerS ts st l=r at*;go_in;go_wp2_with fail;refine(kO H0.o 34 (by decide) (by decide)).mono ?_;rintro e Q ⟨rfl,I1,p⟩;have b1:=zO I1.rd;have J1:=J I1;go_wp2_with fail;refine(tz _ _ _ HL.o).mono ?_;rintro e w2 ⟨rfl,n⟩;have c:=zt n;obtain⟨E,F,N⟩:=tokbox (zT c (V rb)) b1;have J2:Y _:=(J1.o.keep (Ac _ _ _)).keep c;go_wp2_with fail;refine(j4 J2.o _ _ _ _ _).mono ?_;rintro e w3 ⟨rfl,I3,q⟩;rw[R.str_toList] at I3;have J3:=J I3;have b:=zD (zT c (V rb)) q;obtain⟨E,F,N⟩:=tokbox b b1;go_wp2_with fail;refine(uV _ _ HL.o).mono ?_;rintro e w4 ⟨rfl,o⟩;have d:=zt o;have J4:Y _:=J3.o.keep d;have ab:=J (zE (ql b (by simp;omega)) d (by simp));have HG:Y (w.grownBy w4 (V rb)):=zD p (zD (zD (Ac Q _ _) b) (zT d _));rw[R.str_toList];have m:=J (HV.o.kept HG.o (Bf z));generalize R.notS (R.kindS ts st 34) (R.header (R.cur ts st).s true) 4 (R.cur ts st).at_=st4 at*;generalize ae:R.lower (R.cur ts st).s=lo at*;generalize R.cur ts st=t at*;go_wp2_with fail
 go_loopw [8] (fun i wr=>∃k:Ad,k<=Z l/\i=O Ai k/\Y (RInv wr rb g f ts (R.among (l.take k) lo t.at_ st4) H)/\Y (w4.grownBy wr (V rb))) (fun i _=>Z l-(intOf i).toNat)
 ·exact⟨0,Ax _,rfl,J4,zP _ _⟩
 ·
  obtain⟨k,hk,rfl,C,j⟩:=hrel;have x:v.ownBlock=S/\l=[]/\v=X S 0 0\/∃gv cv,v=X (V ⟨gv,0,S⟩) (Z l) cv/\w4.ownsRow 0 9 1 (X (V ⟨gv,0,S⟩) (Z l) cv) (Z l) (zY l):=by
   rcases m.o with ⟨h1,h2|⟨gv,cv,cur,rfl,h3⟩⟩
   ·left;refine⟨by rw[h2.1];rfl,?_,h2.1⟩;have:=h2.2;exact Ep.1 this
   ·right;exact⟨gv,cv,rfl,m.o⟩
  rcases x with ⟨_,rfl,rfl⟩|⟨gv,cv,rfl,hrow⟩
  ·have ad:k=0:=by simpa using hk
   subst ad;go_wp2;go_ret;exact⟨by rw[B.o];rfl,by rw[B.o];exact C.o,zD HG.o j.o⟩
  ·by_cases y:k<Z l
   ·have c1:wr.cell? ⟨gv,k,S⟩=V (I (R.str l[k])):=by
     have hc:=hrow.cellAt k (by omega);rw[j.o.cell (a:=⟨gv,k,S⟩) (v:=.string (R.str l[k])) (by rw[hc];unfold zY;simp[y]) (by simpa[Ix] using z)]
    obtain⟨E,F,N⟩:wr.cell? ⟨Q.heap.size,0,S⟩=V (O Bp t.k)/\wr.cell? ⟨Q.heap.size,1,S⟩=V (I (R.str t.s))/\wr.cell? ⟨Q.heap.size,2,S⟩=V (O Ai t.at_):=by
     have n1:=zE ab.o j.o (by simp;omega);exact⟨zB n1,zB n1,zB n1⟩
    have hq:((R.str l[k]).toList == (R.str lo).toList)=decide (l[k]=lo):=by
     rw[toLs,El,R.str_toList]
    have HA:Y (R.among (l.take (k+1)) lo t.at_ st4=R.notS (R.among (l.take k) lo t.at_ st4) (!decide (l[k]=lo)) 5 t.at_):=by
     show R.among _ _ _ _=_;unfold R.among;rw[Co y,Mb,<-Qu];rfl
    generalize decide (l[k]=lo)=bb at*;generalize R.str l[k]=lk at*;generalize R.among (l.take k) lo t.at_ st4=stk at*;go_wp2
    go_region_with (go_at_call 85;refine(j4 (C.o.keep (zV wr)) _ _ _ _ _).mono ?_;rintro e w5 ⟨rfl,I5,u⟩)
    all_goals
     rw[<-HA.o] at I5;have J5:=J I5;have aa:Y _:=zD j.o (zD (zT (zV wr) _) u);go_wp2;exact⟨⟨k+1,by omega,by go_num,J5,aa⟩,by simp[intOf];omega⟩
   ·go_wp2
    go_ret;exact⟨by rw[B.o];rfl,by rw[B.o];rw[Cc (by omega)] at C;exact C.o,zD HG.o j.o⟩
end Go.Proofs.YtfocdefchbnkpaaGreatDoor
namespace Go.Proofs
open Go.Shelf Go.RowKit Go.Lib Tryz
def Tryz.lays137_ren: Ij := ⟨fun|137 => 264|217 => 323|266 => 375|n => n, fun|9 => 9|5 => 5|3 => 3|n => n, fun|n => n⟩
theorem Tryz.lays137: Go.Proofs.Lays.n137 prog Tryz.lays137_ren := {
 mixed:=by kernel_rfl
 f137:=func264.trans (cgk (by kernel_rfl))
 f217:=func323.trans (cgk (by kernel_rfl))
 f266:=func375.trans (cgk (by kernel_rfl))
 t3:=underlying3
 a3:=isAgg3
 z3:=sizeOf3
 v3:=zeroValue3
 t5:=underlying5
 a5:=isAgg5
 z5:=sizeOf5
 v5:=zeroValue5
 t9:=underlying9
 a9:=isAgg9
 z9:=sizeOf9
 v9:=zeroValue9 }
theorem Tryz.strings_IndexByte (s : As) (c : Ak) (w : Ag):Am prog 264 #[I s, O Bp c] w fun e w' => e=Af (O Ai (Mf s.data.toList c.toNat.toUInt8)) ∧ w'=w := Any.strings_IndexByte Tryz.lays137 s c w
def Tryz.lays219_ren: Ij := ⟨fun|219 => 364|217 => 323|225 => 405|224 => 406|267 => 407|266 => 375|314 => 425|n => n, fun|9 => 9|3 => 3|4 => 4|5 => 5|46 => 220|146 => 388|51 => 152|n => n, fun|1 => 0|n => n⟩
theorem Tryz.lays219: Go.Proofs.Lays.n219 prog Tryz.lays219_ren := {
 mixed:=by kernel_rfl
 f217:=func323.trans (cgk (by kernel_rfl))
 f219:=func364.trans (cgk (by kernel_rfl))
 f224:=func406.trans (cgk (by kernel_rfl))
 f225:=func405.trans (cgk (by kernel_rfl))
 f266:=func375.trans (cgk (by kernel_rfl))
 f267:=func407.trans (cgk (by kernel_rfl))
 f314:=func425.trans (cgk (by kernel_rfl))
 t3:=underlying3
 a3:=isAgg3
 z3:=sizeOf3
 v3:=zeroValue3
 t4:=underlying4
 a4:=isAgg4
 z4:=sizeOf4
 v4:=zeroValue4
 t5:=underlying5
 a5:=isAgg5
 z5:=sizeOf5
 v5:=zeroValue5
 t9:=underlying9
 a9:=isAgg9
 z9:=sizeOf9
 v9:=zeroValue9
 t46:=underlying220
 a46:=isAgg220
 z46:=sizeOf220
 v46:=zeroValue220
 t51:=underlying152
 a51:=isAgg152
 z51:=sizeOf152
 v51:=zeroValue152
 t146:=underlying388
 a146:=isAgg388
 z146:=sizeOf388
 v146:=zeroValue388
 g1:=by kernel_rfl }
theorem Tryz.stringslite_Index_one (s : As) (c : Ab) (w : Ag):Am prog 364 #[I s, I ⟨#[c]⟩] w fun e w' => e=Af (O Ai (Mf s.data.toList c)) ∧ w'=w := Any.stringslite_Index_one Tryz.lays219 s c w
def Tryz.lays144_ren: Ij := ⟨fun|144 => 322|143 => 374|219 => 364|217 => 323|225 => 405|224 => 406|267 => 407|266 => 375|314 => 425|n => n, fun|9 => 9|4 => 4|3 => 3|5 => 5|46 => 220|146 => 388|51 => 152|n => n, fun|1 => 0|n => n⟩
theorem Tryz.lays144: Go.Proofs.Lays.n144 prog Tryz.lays144_ren := {
 mixed:=by kernel_rfl
 f143:=func374.trans (cgk (by kernel_rfl))
 f144:=func322.trans (cgk (by kernel_rfl))
 f217:=func323.trans (cgk (by kernel_rfl))
 f219:=func364.trans (cgk (by kernel_rfl))
 f224:=func406.trans (cgk (by kernel_rfl))
 f225:=func405.trans (cgk (by kernel_rfl))
 f266:=func375.trans (cgk (by kernel_rfl))
 f267:=func407.trans (cgk (by kernel_rfl))
 f314:=func425.trans (cgk (by kernel_rfl))
 t3:=underlying3
 a3:=isAgg3
 z3:=sizeOf3
 v3:=zeroValue3
 t4:=underlying4
 a4:=isAgg4
 z4:=sizeOf4
 v4:=zeroValue4
 t5:=underlying5
 a5:=isAgg5
 z5:=sizeOf5
 v5:=zeroValue5
 t9:=underlying9
 a9:=isAgg9
 z9:=sizeOf9
 v9:=zeroValue9
 t46:=underlying220
 a46:=isAgg220
 z46:=sizeOf220
 v46:=zeroValue220
 t51:=underlying152
 a51:=isAgg152
 z51:=sizeOf152
 v51:=zeroValue152
 t146:=underlying388
 a146:=isAgg388
 z146:=sizeOf388
 v146:=zeroValue388
 g1:=by kernel_rfl }
theorem Tryz.strings_Contains_one (s : As) (c : Ab) (w : Ag):Am prog 322 #[I s, I ⟨#[c]⟩] w fun e w' => e=Af (Av (decide (0 ≤ Mf s.data.toList c))) ∧ w'=w := Any.strings_Contains_one Tryz.lays144 s c w
def Tryz.lays172_ren: Ij := ⟨fun|172 => 236|244 => 306|245 => 307|247 => 359|279 => 360|280 => 361|281 => 362|282 => 363|287 => 402|316 => 403|171 => 159|205 => 404|321 => 423|322 => 424|243 => 219|246 => 298|283 => 346|284 => 347|285 => 348|286 => 349|129 => 285|317 => 387|318 => 388|319 => 389|320 => 390|337 => 415|338 => 416|n => n, fun|9 => 9|3 => 3|75 => 270|76 => 271|4 => 4|5 => 5|167 => 421|37 => 32|0 => 0|85 => 422|2 => 2|168 => 424|53 => 60|175 => 451|46 => 220|210 => 454|127 => 215|145 => 466|143 => 464|21 => 21|171 => 415|173 => 417|212 => 441|51 => 152|20 => 20|213 => 442|232 => 469|233 => 470|80 => 58|n => n, fun|15 => 2|16 => 3|17 => 1|18 => 4|19 => 5|n => n⟩
theorem Tryz.lays172: Go.Proofs.Lays.n172 prog Tryz.lays172_ren := {
 mixed:=by kernel_rfl
 f129:=func285.trans (cgk (by kernel_rfl))
 f171:=func159.trans (cgk (by kernel_rfl))
 f172:=func236.trans (cgk (by kernel_rfl))
 f205:=func404.trans (cgk (by kernel_rfl))
 f243:=func219.trans (cgk (by kernel_rfl))
 f244:=func306.trans (cgk (by kernel_rfl))
 f245:=func307.trans (cgk (by kernel_rfl))
 f246:=func298.trans (cgk (by kernel_rfl))
 f247:=func359.trans (cgk (by kernel_rfl))
 f279:=func360.trans (cgk (by kernel_rfl))
 f280:=func361.trans (cgk (by kernel_rfl))
 f281:=func362.trans (cgk (by kernel_rfl))
 f282:=func363.trans (cgk (by kernel_rfl))
 f283:=func346.trans (cgk (by kernel_rfl))
 f284:=func347.trans (cgk (by kernel_rfl))
 f285:=func348.trans (cgk (by kernel_rfl))
 f286:=func349.trans (cgk (by kernel_rfl))
 f287:=func402.trans (cgk (by kernel_rfl))
 f316:=func403.trans (cgk (by kernel_rfl))
 f317:=func387.trans (cgk (by kernel_rfl))
 f318:=func388.trans (cgk (by kernel_rfl))
 f319:=func389.trans (cgk (by kernel_rfl))
 f320:=func390.trans (cgk (by kernel_rfl))
 f321:=func423.trans (cgk (by kernel_rfl))
 f322:=func424.trans (cgk (by kernel_rfl))
 f337:=func415.trans (cgk (by kernel_rfl))
 f338:=func416.trans (cgk (by kernel_rfl))
 t0:=underlying0
 a0:=isAgg0
 z0:=sizeOf0
 v0:=zeroValue0
 t2:=underlying2
 a2:=isAgg2
 z2:=sizeOf2
 v2:=zeroValue2
 t3:=underlying3
 a3:=isAgg3
 z3:=sizeOf3
 v3:=zeroValue3
 t4:=underlying4
 a4:=isAgg4
 z4:=sizeOf4
 v4:=zeroValue4
 t5:=underlying5
 a5:=isAgg5
 z5:=sizeOf5
 v5:=zeroValue5
 t9:=underlying9
 a9:=isAgg9
 z9:=sizeOf9
 v9:=zeroValue9
 t20:=underlying20
 a20:=isAgg20
 z20:=sizeOf20
 v20:=zeroValue20
 t21:=underlying21
 a21:=isAgg21
 z21:=sizeOf21
 v21:=zeroValue21
 t37:=underlying32
 a37:=isAgg32
 z37:=sizeOf32
 v37:=zeroValue32
 t46:=underlying220
 a46:=isAgg220
 z46:=sizeOf220
 v46:=zeroValue220
 t51:=underlying152
 a51:=isAgg152
 z51:=sizeOf152
 v51:=zeroValue152
 t53:=underlying60
 a53:=isAgg60
 z53:=sizeOf60
 v53:=zeroValue60
 t75:=underlying270
 a75:=isAgg270
 z75:=sizeOf270
 v75:=zeroValue270
 t76:=underlying271
 a76:=isAgg271
 z76:=sizeOf271
 v76:=zeroValue271
 t85:=underlying422
 a85:=isAgg422
 z85:=sizeOf422
 v85:=zeroValue422
 t127:=underlying215
 a127:=isAgg215
 z127:=sizeOf215
 v127:=zeroValue215
 t143:=underlying464
 a143:=isAgg464
 z143:=sizeOf464
 v143:=zeroValue464
 t145:=underlying466
 a145:=isAgg466
 z145:=sizeOf466
 v145:=zeroValue466
 t167:=underlying421
 a167:=isAgg421
 z167:=sizeOf421
 v167:=zeroValue421
 t168:=underlying424
 a168:=isAgg424
 z168:=sizeOf424
 v168:=zeroValue424
 t171:=underlying415
 a171:=isAgg415
 z171:=sizeOf415
 v171:=zeroValue415
 t173:=underlying417
 a173:=isAgg417
 z173:=sizeOf417
 v173:=zeroValue417
 t175:=underlying451
 a175:=isAgg451
 z175:=sizeOf451
 v175:=zeroValue451
 t210:=underlying454
 a210:=isAgg454
 z210:=sizeOf454
 v210:=zeroValue454
 t212:=underlying441
 a212:=isAgg441
 z212:=sizeOf441
 v212:=zeroValue441
 t213:=underlying442
 a213:=isAgg442
 z213:=sizeOf442
 t232:=underlying469
 a232:=isAgg469
 z232:=sizeOf469
 v232:=zeroValue469
 t233:=underlying470
 a233:=isAgg470
 z233:=sizeOf470
 v233:=zeroValue470
 g15:=by kernel_rfl
 g16:=by kernel_rfl
 g17:=by kernel_rfl
 g18:=by kernel_rfl
 g19:=by kernel_rfl }
theorem Tryz.strconv_Atoi (s : As) (n : Ak) (hl : s.size ≤ 18) (h : Lib.atoi s.data.toList=V n) (w : Ag):Am prog 236 #[I s] w fun e w' => e=Af (Cm #[O Ai n, .nilIface]) ∧ ∃ t, w'=Na w 5 t := Any.strconv_Atoi Tryz.lays172 s n hl h w
def Tryz.lays99_ren: Ij := ⟨fun|99 => 216|206 => 230|n => n, fun|9 => 9|4 => 4|3 => 3|n => n, fun|n => n⟩
theorem Tryz.lays99: Go.Proofs.Lays.n99 prog Tryz.lays99_ren := {
 mixed:=by kernel_rfl
 f99:=func216.trans (cgk (by kernel_rfl))
 f206:=func230.trans (cgk (by kernel_rfl))
 t3:=underlying3
 a3:=isAgg3
 z3:=sizeOf3
 v3:=zeroValue3
 t4:=underlying4
 a4:=isAgg4
 z4:=sizeOf4
 v4:=zeroValue4
 t9:=underlying9
 a9:=isAgg9
 z9:=sizeOf9
 v9:=zeroValue9 }
theorem Tryz.strings_HasPrefix (s p : As) (w : Ag):Am prog 216 #[I s, I p] w fun e w' => e=Af (Av (Lib.hasPrefix s.data.toList p.data.toList)) ∧ w'=w := Any.strings_HasPrefix Tryz.lays99 s p w
def Tryz.lays101_ren: Ij := ⟨fun|101 => 244|208 => 312|206 => 230|n => n, fun|9 => 9|4 => 4|3 => 3|n => n, fun|n => n⟩
theorem Tryz.lays101: Go.Proofs.Lays.n101 prog Tryz.lays101_ren := {
 mixed:=by kernel_rfl
 f101:=func244.trans (cgk (by kernel_rfl))
 f206:=func230.trans (cgk (by kernel_rfl))
 f208:=func312.trans (cgk (by kernel_rfl))
 t3:=underlying3
 a3:=isAgg3
 z3:=sizeOf3
 v3:=zeroValue3
 t4:=underlying4
 a4:=isAgg4
 z4:=sizeOf4
 v4:=zeroValue4
 t9:=underlying9
 a9:=isAgg9
 z9:=sizeOf9
 v9:=zeroValue9 }
theorem Tryz.strings_TrimPrefix (s p : As) (w : Ag):Am prog 244 #[I s, I p] w fun e w' => e=Af (I ⟨(Lib.trimPrefix s.data.toList p.data.toList).toArray⟩) ∧ w'=w := Any.strings_TrimPrefix Tryz.lays101 s p w
def Tryz.lays160_ren: Ij := ⟨fun|160 => 356|232 => 395|231 => 394|227 => 396|234 => 398|233 => 397|236 => 400|235 => 399|228 => 420|271 => 422|151 => 421|197 => 418|120 => 429|152 => 428|260 => 427|137 => 264|119 => 430|224 => 406|225 => 405|217 => 323|266 => 375|n => n, fun|9 => 9|4 => 4|3 => 3|5 => 5|117 => 447|116 => 446|0 => 0|124 => 450|21 => 21|105 => 460|46 => 220|119 => 472|139 => 475|138 => 474|n => n, fun|3 => 6|4 => 7|n => n⟩
theorem Tryz.lays160: Go.Proofs.Lays.n160 prog Tryz.lays160_ren := {
 mixed:=by kernel_rfl
 f119:=func430.trans (cgk (by kernel_rfl))
 f120:=func429.trans (cgk (by kernel_rfl))
 f137:=func264.trans (cgk (by kernel_rfl))
 f151:=func421.trans (cgk (by kernel_rfl))
 f152:=func428.trans (cgk (by kernel_rfl))
 f160:=func356.trans (cgk (by kernel_rfl))
 f197:=func418.trans (cgk (by kernel_rfl))
 f217:=func323.trans (cgk (by kernel_rfl))
 f224:=func406.trans (cgk (by kernel_rfl))
 f225:=func405.trans (cgk (by kernel_rfl))
 f227:=func396.trans (cgk (by kernel_rfl))
 f228:=func420.trans (cgk (by kernel_rfl))
 f231:=func394.trans (cgk (by kernel_rfl))
 f232:=func395.trans (cgk (by kernel_rfl))
 f233:=func397.trans (cgk (by kernel_rfl))
 f234:=func398.trans (cgk (by kernel_rfl))
 f235:=func399.trans (cgk (by kernel_rfl))
 f236:=func400.trans (cgk (by kernel_rfl))
 f260:=func427.trans (cgk (by kernel_rfl))
 f266:=func375.trans (cgk (by kernel_rfl))
 f271:=func422.trans (cgk (by kernel_rfl))
 t0:=underlying0
 a0:=isAgg0
 z0:=sizeOf0
 v0:=zeroValue0
 t3:=underlying3
 a3:=isAgg3
 z3:=sizeOf3
 v3:=zeroValue3
 t4:=underlying4
 a4:=isAgg4
 z4:=sizeOf4
 v4:=zeroValue4
 t5:=underlying5
 a5:=isAgg5
 z5:=sizeOf5
 v5:=zeroValue5
 t9:=underlying9
 a9:=isAgg9
 z9:=sizeOf9
 v9:=zeroValue9
 t21:=underlying21
 a21:=isAgg21
 z21:=sizeOf21
 v21:=zeroValue21
 t46:=underlying220
 a46:=isAgg220
 z46:=sizeOf220
 v46:=zeroValue220
 t105:=underlying460
 a105:=isAgg460
 z105:=sizeOf460
 v105:=zeroValue460
 t116:=underlying446
 a116:=isAgg446
 z116:=sizeOf446
 t117:=underlying447
 a117:=isAgg447
 z117:=sizeOf447
 v117:=zeroValue447
 t119:=underlying472
 a119:=isAgg472
 z119:=sizeOf472
 t124:=underlying450
 a124:=isAgg450
 z124:=sizeOf450
 v124:=zeroValue450
 t138:=underlying474
 a138:=isAgg474
 z138:=sizeOf474
 v138:=zeroValue474
 t139:=underlying475
 a139:=isAgg475
 z139:=sizeOf475
 v139:=zeroValue475
 g3:=by kernel_rfl
 g4:=by kernel_rfl }
theorem Tryz.strings_Trim_one (s : As) (c : Ab) (hc : c.toNat < 128) (w : Ag) (hs : s.size ≤ 9223372036854775807):Am prog 356 #[I s, I ⟨#[c]⟩] w fun e w' => e=Af (I ⟨(Lib.trimB s.data.toList c).toArray⟩) ∧ (w'=w ∨ w'=w.drew) := Any.strings_Trim_one Tryz.lays160 s c hc w hs
def Tryz.lays146_ren: Ij := ⟨fun|146 => 301|221 => 351|268 => 391|138 => 392|143 => 374|195 => 417|197 => 418|218 => 419|219 => 364|260 => 427|217 => 323|225 => 405|224 => 406|267 => 407|266 => 375|314 => 425|n => n, fun|9 => 9|31 => 22|3 => 3|4 => 4|0 => 0|105 => 460|21 => 21|5 => 5|46 => 220|119 => 472|139 => 475|138 => 474|146 => 388|51 => 152|n => n, fun|1 => 0|3 => 6|4 => 7|n => n⟩
theorem Tryz.lays146: Go.Proofs.Lays.n146 prog Tryz.lays146_ren := {
 mixed:=by kernel_rfl
 f138:=func392.trans (cgk (by kernel_rfl))
 f143:=func374.trans (cgk (by kernel_rfl))
 f146:=func301.trans (cgk (by kernel_rfl))
 f195:=func417.trans (cgk (by kernel_rfl))
 f197:=func418.trans (cgk (by kernel_rfl))
 f217:=func323.trans (cgk (by kernel_rfl))
 f218:=func419.trans (cgk (by kernel_rfl))
 f219:=func364.trans (cgk (by kernel_rfl))
 f221:=func351.trans (cgk (by kernel_rfl))
 f224:=func406.trans (cgk (by kernel_rfl))
 f225:=func405.trans (cgk (by kernel_rfl))
 f260:=func427.trans (cgk (by kernel_rfl))
 f266:=func375.trans (cgk (by kernel_rfl))
 f267:=func407.trans (cgk (by kernel_rfl))
 f268:=func391.trans (cgk (by kernel_rfl))
 f314:=func425.trans (cgk (by kernel_rfl))
 t0:=underlying0
 a0:=isAgg0
 z0:=sizeOf0
 v0:=zeroValue0
 t3:=underlying3
 a3:=isAgg3
 z3:=sizeOf3
 v3:=zeroValue3
 t4:=underlying4
 a4:=isAgg4
 z4:=sizeOf4
 v4:=zeroValue4
 t5:=underlying5
 a5:=isAgg5
 z5:=sizeOf5
 v5:=zeroValue5
 t9:=underlying9
 a9:=isAgg9
 z9:=sizeOf9
 v9:=zeroValue9
 t21:=underlying21
 a21:=isAgg21
 z21:=sizeOf21
 v21:=zeroValue21
 t31:=underlying22
 a31:=isAgg22
 z31:=sizeOf22
 v31:=zeroValue22
 t46:=underlying220
 a46:=isAgg220
 z46:=sizeOf220
 v46:=zeroValue220
 t51:=underlying152
 a51:=isAgg152
 z51:=sizeOf152
 v51:=zeroValue152
 t105:=underlying460
 a105:=isAgg460
 z105:=sizeOf460
 v105:=zeroValue460
 t119:=underlying472
 a119:=isAgg472
 z119:=sizeOf472
 t138:=underlying474
 a138:=isAgg474
 z138:=sizeOf474
 v138:=zeroValue474
 t139:=underlying475
 a139:=isAgg475
 z139:=sizeOf475
 v139:=zeroValue475
 t146:=underlying388
 a146:=isAgg388
 z146:=sizeOf388
 v146:=zeroValue388
 g1:=by kernel_rfl
 g3:=by kernel_rfl
 g4:=by kernel_rfl }
theorem Tryz.strings_Split (s sep : As) (m : Ak) (w : Ag) (hs : s.size < 4294967281) (hm : w.cell? ⟨0, 0, S⟩=V (O Ai m)) (h1 : 1 ≤ sep.size):Am prog 301 #[I s, I sep] w fun e w' =>
      e=Af (X (V ⟨w.heap.size, 0, S⟩) (Oe s sep + 1) (Oe s sep + 1)) ∧ w'=w.alloc (Ae ((Lib.splitB sep 0 (Oe s sep) s).map I).toArray 9) := Any.strings_Split Tryz.lays146 (by kernel_rfl) s sep m w hs hm h1
end Go.Proofs
namespace Go.Proofs.YtfocdefchbnkpaaGreatDoor
open Go.RowKit Tryz
structure P.Tk where
 k:Ak
 at_:Ad
 raw:A Ab
def xm (l:A Ab):Ad×Ak:=if 5<R.span R.digitI l then (0,5) else (R.span R.digitI l,2)
theorem jq (c:Ab)(r:A Ab)(x:Ab):Es (c::r) [x]=if c=x then 0 else if Es r [x] = -1 then -1 else Es r [x]+1:=by
 rw[Es]
 grind[List.isPrefixOf]
theorem wC (l:A Ab)(x:Ab):Mf l x=Es l [x]:=by
 induction l with
 |nil=>rfl
 |cons c r ih=>
  rw[jq,Mf,ih]
  by_cases h:c=x
  ·rw[Az (by rw[h];simp),Az h]
  ·rw[Aw (by simpa using h),Aw h]
   by_cases a:Es r [x] = -1
   ·rw[Az (by rw[a];rfl),Az a]
   ·rw[Aw (by simpa using a),Aw a]
def jm (t:A Ab):Ee:=!(Ca t [34]).2.2 || (decide (24<Z (Ca t [34]).1) || Sx (Ca t [34]).1 [10])
def yD (l:A Ab):Ad×Ak:=if jm (l.drop 1) then (0,5) else (Z (Ca (l.drop 1) [34]).1+2,3)
def qD (l:A Ab):Ad×Ak:=
 match l with
 |[]=>(0,0)
 |c::_=>
  if R.smallI c.toNat then (R.span R.smallI l,1)
  else if R.digitI c.toNat then xm l
  else if c.toNat=34 then yD l
  else if R.signI c.toNat then (1,4) else (0,5)
def qE (l:A Ab)(p:Ad):Ad:=p+R.span xN (l.drop p)
def zg (l:A Ab)(p:Ad):P.Tk:=
 ⟨(qD (l.drop (qE l p))).2,qE l p,(l.drop (qE l p)).take (qD (l.drop (qE l p))).1⟩
theorem zdM (t:A Ab):Z (Ca t [34]).1<=Z t:=by
 unfold Ca;split
 ·simp only[Cq];omega
 ·exact Aq _
theorem zaB (t:A Ab)(h:(Ca t [34]).2.2=true):Z (Ca t [34]).1+1<=Z t:=by
 unfold Ca at h ⊢
 split
 ·rename_i h0
  have:=Lib.index_room t [34] h0;simp only[Cq,Bb,Bu] at this ⊢
  omega
 ·rename_i h0;rw[Aw h0] at h;simp at h
theorem kl (l:A Ab):(qD l).1<=Z l:=by
 unfold qD
 grind[qD,R.span_le,R.smallI,R.digitI,xm,yD,jm,zaB,List.length_cons]
theorem cW (s:As)(w:Ag)(h:s.size<=Bh):Am prog 262 #[I s] w fun e w'=>e=Af (Cm #[O Ai (xm s.data.toList).1,O Ai (xm s.data.toList).2])/\w'=w:=by
 have c:Y (xm s.data.toList=if 5<R.span R.digitI s.data.toList then (0,5) else (R.span R.digitI s.data.toList,2)):=rfl;have f:=fun w=>tQ s w h
 have b:=J f;generalize R.span R.digitI s.data.toList=n at*
 by_cases g:5<n
 ·rw[Az g] at c
  go_in;go_wp2_with fail;refine(b.o _).mono ?_;rintro e d ⟨rfl,a⟩;rw[a];go_wp2
  go_ret2
  exact⟨by rw[c.o];rfl,rfl⟩
 ·rw[Aw g] at c
  go_in;go_wp2_with fail;refine(b.o _).mono ?_;rintro e d ⟨rfl,a⟩;rw[a];go_wp2
  go_ret2
  exact⟨by rw[c.o];rfl,rfl⟩
theorem eO {a b c d:As}{e:Ee}(h:a=c)(f:b=d):Af (Cm #[I a,I b,Av e])=Af (Cm #[I c,I d,Av e]):=by rw[h,f]
theorem ai (s:As)(w:Ag)(i:s.size<=Bh):Am prog 308 #[I s,I ⟨#[34]⟩] w fun e w'=>e=Af (Cm #[I (R.str (Ca s.data.toList [34]).1),I (R.str (Ca s.data.toList [34]).2.1),Av (Ca s.data.toList [34]).2.2])/\w.grownBy w' S:=by
 have c:Y (Ca s.data.toList [34]=if 0<=Es s.data.toList [34] then (s.data.toList.take (Es s.data.toList [34]).toNat,s.data.toList.drop ((Es s.data.toList [34]).toNat+1),true) else (s.data.toList,[],false)):=rfl;have a:0<=Es s.data.toList [34]->Es s.data.toList [34]+1<=s.size:=fun h=>by
  have:=Lib.index_room s.data.toList [34] h;rw[R.size_eq] at this;simpa using this
 have g:Y (∀w,Am prog 364 #[I s,I ⟨#[34]⟩] w fun e w'=>e=Af (O Ai (Es s.data.toList [34]))/\w'=w):=fun w=>by
  rw[<-wC];exact Tryz.stringslite_Index_one s 34 w
 unfold Bh at i;generalize Es s.data.toList [34]=k at*
 by_cases d:0<=k
 ·rw[Az d] at c
  obtain⟨n,rfl⟩:=Sg d;have j:=a d;go_in;go_wp2_with fail;refine(g.o _).mono ?_;rintro e f ⟨rfl,b⟩;rw[b];go_wp2
  go_region
  go_wp2
  go_ret3
  exact⟨by rw[c.o];exact eO (by rw[kB,Vo,Iw];rfl) (by rw[kB,<-R.size_eq,Cc (by rw[Cy];omega)];rfl),zV _⟩
 ·rw[Aw d] at c
  go_in;go_wp2_with fail;refine(g.o _).mono ?_;rintro e f ⟨rfl,b⟩;rw[b];go_wp2
  go_ret3
  exact⟨by rw[c.o,R.str_of];rfl,zP _ _⟩
theorem zkP (s:As)(w:Ag)(d:s.size<=Bh):Am prog 238 #[I s,I ⟨#[34]⟩] w fun e w'=>e=Af (Cm #[I (R.str (Ca s.data.toList [34]).1),I (R.str (Ca s.data.toList [34]).2.1),Av (Ca s.data.toList [34]).2.2])/\w.grownBy w' S:=by
 have a:Y _:=fun w=>ai s w d
 generalize Ca s.data.toList [34]=c at*;go_in;go_wp2_with fail;refine(a.o _).mono ?_;rintro e f ⟨rfl,b⟩;go_wp2
 go_ret3
 exact⟨rfl,b⟩
theorem cY (s:As)(w:Ag)(u:s.size<=1000000000000)(t:1<=s.size):Am prog 263 #[I s] w fun e w'=>e=Af (Cm #[O Ai (yD s.data.toList).1,O Ai (yD s.data.toList).2])/\w.grownBy w' S:=by
 have o:=bW s 1;have l:(s.extract 1 s.size).size<=Bh:=by rw[<-R.size_eq,o,Cy,R.size_eq];unfold Bh;omega
 have n:=fun w=>zkP (s.extract 1 s.size) w l
 rw[o] at n;have b:=J n;have a:Y (yD s.data.toList=if jm (s.data.toList.drop 1) then (0,5) else (Z (Ca (s.data.toList.drop 1) [34]).1+2,3)):=rfl;have m:Y (jm (s.data.toList.drop 1)=(!(Ca (s.data.toList.drop 1) [34]).2.2 || (decide (24<Z (Ca (s.data.toList.drop 1) [34]).1) || Sx (Ca (s.data.toList.drop 1) [34]).1 [10]))):=rfl;have i:=zdM (s.data.toList.drop 1);rw[Cy,R.size_eq] at i;generalize Ca (s.data.toList.drop 1) [34]=c at*;obtain⟨d,rest,h⟩:=c;simp only at m a i;have r:=R.str_size d;have g:Y (∀w,Am prog 322 #[I (R.str d),I ⟨#[10]⟩] w fun e w'=>e=Af (Av (Sx d [10]))/\w'=w):=fun w=>by
  have:=Tryz.strings_Contains_one (R.str d) 10 w;rw[R.str_toList,wC] at this;exact this
 cases h
 ·rw[m.o] at a
  simp only[Bool.not_false,Vu,Gq] at a;go_in;go_wp2_with fail;refine(b.o _).mono ?_;rintro e p ⟨rfl,j⟩;go_wp2
  go_ret2
  exact⟨by rw[a.o];rfl,j⟩
 ·by_cases k:24<Z d
  ·rw[m.o,Cf k] at a
   simp only[Bool.not_true,Vu,Bool.or_true,Gq] at a;go_in;go_wp2_with fail;refine(b.o _).mono ?_;rintro e p ⟨rfl,j⟩;go_wp2
   go_ret2
   exact⟨by rw[a.o];rfl,j⟩
  ·rw[m.o,Ce k] at a
   simp only[Bool.not_true,Qq] at a
   cases hco:Sx d [10]
   ·rw[hco] at a g
    simp only[Ct,Gj] at a;go_in;go_wp2_with fail;refine(b.o _).mono ?_;rintro e p ⟨rfl,j⟩;go_wp2_with fail;refine(g.o _).mono ?_;rintro e q ⟨rfl,f⟩;rw[f];go_wp2
    go_ret2
    exact⟨by rw[a.o];rfl,j⟩
   ·rw[hco] at a g
    simp only[Gq] at a;go_in;go_wp2_with fail;refine(b.o _).mono ?_;rintro e p ⟨rfl,j⟩;go_wp2_with fail;refine(g.o _).mono ?_;rintro e q ⟨rfl,f⟩;rw[f];go_wp2
    go_ret2
    exact⟨by rw[a.o];rfl,j⟩
variable {w w' x y:Ag}{B a n rb g b:Ad}{e:Cs}{v H:Aj}
theorem zQ {b:A Aj}(h:w.ownsRow B e a v n b)(c:w.grownBy w' (V rb))(d:rb<B):w'.ownsRow B e a v n b:=by
 refine h.kept c ?_
 cases hv:v.ownBlock with
 |none=>exact Ay rfl
 |some k=>right;have:=(h.lt k hv).1;simp;omega
def yC:A R.Tok->Ak
 |a::b::r=>if a.k=34/\b.k=49 then R.num b.s+yC (r.drop 1) else 0
 |_=>0
 termination_by l=>Z l
 decreasing_by simp;omega
theorem gG (ts:A R.Tok)(k:Ad)(h:k+1<Z ts)(a:ts[k].k=34)(b:ts[k+1].k=49):yC (ts.drop k)=R.num ts[k+1].s+yC (ts.drop (k+3)):=by grind[List.drop_eq_getElem_cons,yC,List.drop_drop,R.Tok,R.num]
theorem fO (ts:A R.Tok)(k:Ad)(h:¬∃h:k+1<Z ts,ts[k].k=34/\ts[k+1].k=49):yC (ts.drop k)=0:=by
 by_cases b:k+1<Z ts
 ·rw[Ed (by omega),Ed (i:=k+1) (by omega),yC,Aw (fun c=>h ⟨b,c⟩)]
 ·by_cases a:k<Z ts
  ·rw[Ed a,Ga (by omega)];unfold yC;rfl
  ·rw[Ga (by omega)];unfold yC;rfl
variable {ts:A R.Tok}
theorem zkY {q:Ad}{st:R.St}(h:RInv w rb g q ts st H):Am prog 192 #[Al (V ⟨rb,0,S⟩)] w fun e w'=>e=Af (O Ai (yC (ts.drop st.K)))/\w.grownBy w' S:=by
 have Q:=cbi 1 h.rd;have B:=h.lt;have N:=h.ok.len;have u:=J h;go_in;go_wp2
 go_loopw [3,4] (fun n i wr=>∃(k:Ad) (m:Ak),st.K<=k/\k<=Z ts+3/\i=O Ai k/\n=O Ai m/\0<=m/\m<=100000*k/\Y (m+yC (ts.drop k)=yC (ts.drop st.K))/\Y (w.grownBy wr S)) (fun _ i _=>Z ts+3-(intOf i).toNat)
 ·exact⟨st.K,0,Aq _,by omega,rfl,rfl,by omega,by omega,by show _=_;omega,zP _ _⟩
 ·
  obtain⟨k,m,y,z,rfl,rfl,C,E,l,o⟩:=hrel;have f:Y _:=u.o.keep o.o;have d0:=cbi 0 f.o.rd
  by_cases b:k+1<Z ts
  ·have t0:wr.cell? ⟨g,k*3,S⟩=V (O Bp ts[k].k):=f.o.tok k (by omega) 0 (by omega)
   have u0:wr.cell? ⟨g,(k+1)*3,S⟩=V (O Bp ts[k+1].k):=f.o.tok (k+1) b 0 (by omega);have u1:wr.cell? ⟨g,(k+1)*3+1,S⟩=V (I (R.str ts[k+1].s)):=f.o.tok (k+1) b 1 (by omega);have u2:wr.cell? ⟨g,(k+1)*3+2,S⟩=V (O Ai ts[k+1].at_):=f.o.tok (k+1) b 2 (by omega);have p:(k:Ak)+1<Z ts:=by omega
   by_cases a:ts[k].k=34/\ts[k+1].k=49
   ·have t:(ts[k].k == 34)=true:=by rw[a.1];rfl
    have x:(ts[k+1].k == 49)=true:=by rw[a.2];rfl
    have F:=f.o.ok.nums (k+1) ts[k+1] (by rw[Bd b]) a.2;have v:Y ((R.str ts[k+1].s).size<=3000):=by rw[R.str_size];exact f.o.ok.strs (k+1) ts[k+1] (by rw[Bd b])
    have j:Y ((m+R.num ts[k+1].s)+yC (ts.drop (k+3))=yC (ts.drop st.K)):=by
     have:=l.o;rw[gG ts k b a.1 a.2] at this;show _=_;omega
    generalize ts[k]=ta at*;generalize ts[k+1]=tb at*;go_wp2_with (go_at_call 132;refine(ut _ _ _ _ v.o).mono ?_;rintro e w5 ⟨rfl,r⟩;rw[R.str_toList]);exact⟨⟨k+3,m+R.num tb.s,by omega,by omega,by go_num,rfl,by omega,by omega,j,zD o.o r⟩,by simp[intOf];omega⟩
   ·have j:Y (m=yC (ts.drop st.K)):=by
     have:=l.o;rw[fO ts k (fun⟨_,c⟩=>a c)] at this;show _=_;omega
    by_cases d:ts[k].k=34
    ·have t:(ts[k].k == 34)=true:=by rw[d];rfl
     have x:(ts[k+1].k == 49)=false:=by rw[Ch];exact fun c=>a ⟨d,c⟩
     generalize ts[k]=ta at*;generalize ts[k+1]=tb at*;go_wp2;go_ret;exact⟨by rw[<-j.o];rfl,o.o⟩
    ·have t:(ts[k].k == 34)=false:=by rw[Ch];exact d
     generalize ts[k]=ta at*;generalize ts[k+1]=tb at*;go_wp2;go_ret;exact⟨by rw[<-j.o];rfl,o.o⟩
  ·have j:Y (m=yC (ts.drop st.K)):=by
    have:=l.o;rw[fO ts k (fun⟨c,_⟩=>b c)] at this;show _=_;omega
   have p:¬(k:Ak)+1<Z ts:=by omega
   go_wp2;go_ret;exact⟨by rw[<-j.o];rfl,o.o⟩
variable {row:Br Ad}
theorem RInv.away {st:R.St}(h:RInv w rb g a ts st H)(b:w.grownBy w' row)(c:∀k,row=V k->k≠rb/\k≠g):RInv w' rb g a ts st H:=by
 cases row with
 |none=>exact h.keep b
 |some k=>exact h.other b (c k rfl).1 (c k rfl).2
theorem qI {a b c:Ag}{d:Br Ad}(h:a.grownBy b row)(f:b.grownBy c d)(g:∀k,d=V k->a.heap.size<=k):a.grownBy c row:=by
 cases d <;> grind[zD,zT,ze]
def zx (l:A (A Ab×Ak)):A Aj:=(l.map fun t=>[I (R.str t.1),O Ai t.2]).flatten
theorem yn (l:A (A Ab×Ak))(t:A Ab×Ak):zx (l++[t])=zx l++[I (R.str t.1),O Ai t.2]:=by simp[zx]
def qJ (ts : A R.Tok) (st : R.St) (i : Ad) (acc : A (A Ab × Ak)) : R.St × A (A Ab × Ak) :=
  (R.notS (R.notS (R.notS (R.kindS ts (R.kindS ts st 34) 49) (decide ((i : Ak) < 4)) 3 (R.cur ts st).at_) (R.upstream (R.cur ts st).s) 4 (R.cur ts st).at_) (decide (R.num (R.cur ts (R.kindS ts st 34)).s ≤ 1000)) 4 (R.cur ts (R.kindS ts st 34)).at_,
   if 0<R.num (R.cur ts (R.kindS ts st 34)).s then acc ++ [((R.cur ts st).s, R.num (R.cur ts (R.kindS ts st 34)).s)] else acc)
def R.tgLoop (ts:A R.Tok):Ad->R.St->Ad->A (A Ab×Ak)->A (A Ab×Ak)×R.St
 |0,st,_,acc=>(acc,st)
 |n+1,st,i,acc=>
  if st.bad<0 then
   if R.isB (qJ ts st i acc).1 (R.cur ts (qJ ts st i acc).1) [44] then R.tgLoop ts n (R.needS ts (qJ ts st i acc).1 [44]) (i+1) (qJ ts st i acc).2
   else ((qJ ts st i acc).2,(qJ ts st i acc).1)
  else (acc,st)
def R.targetsS (ts : A R.Tok) (st : R.St) : A (A Ab × Ak) × R.St :=
  ((R.tgLoop ts (Z ts + 1) (R.notS (R.needS ts st [116, 111]) (decide (0<yC (ts.drop (R.needS ts st [116, 111]).K))) 4 (R.cur ts st).at_) 0 []).1,
   R.needS ts (R.tgLoop ts (Z ts + 1) (R.notS (R.needS ts st [116, 111]) (decide (0<yC (ts.drop (R.needS ts st [116, 111]).K))) 4 (R.cur ts st).at_) 0 []).2 [59])
theorem uN (t:R.Tok)(st:R.St)(a:Ee):st.K<=(R.overS t st a).K:=by grind[R.overS,R.Tok,R.St]
theorem R.notS_K (st:R.St)(b:Ee)(e a:Ak):(R.notS st b e a).K=st.K:=by
 unfold R.notS;split <;> rfl
theorem fP (ts:A R.Tok)(st:R.St)(i:Ad)(a:A (A Ab×Ak)):st.K<=(qJ ts st i a).1.K:=by
 unfold qJ;simp only[R.notS_K];exact Bi (uN _ _ _) (uN _ _ _)
theorem R.needS_yes {st:R.St}{s:A Ab}(h:R.isB st (R.cur ts st) s=true):R.needS ts st s={ st with K:=st.K+1 }:=by grind[R.needS,R.overS,R.isB,R.Tok,R.St,R.cur]
theorem zd2:(prog.info? 183).map (fun i=>(i.zero,i.size,i.bytes))=V (V (Fe #[I ⟨#[]⟩,O Ai 0]),2,24):=by kernel_rfl
abbrev Fa0 (a b):=R.cur a (R.kindS a b 34)
abbrev Fa1 (a b):=Ae #[O Bp (R.cur a b).k,I (R.str (R.cur a b).s),O Ai (R.cur a b).at_] 115
abbrev Fa3 (a b):=R.needS a b [116,111]
theorem oe {ag:Ad}{st:R.St}(h:RInv w rb g ag ts st H):Am prog 135 #[Al (V ⟨rb,0,S⟩)] w fun e w'=>∃v,e=Af v/\RInv w' rb g ag ts (R.targetsS ts st).2 H/\w.grownBy w' (V rb)/\w'.ownsRow w.heap.size 183 2 v (Z (R.targetsS ts st).1) (zx (R.targetsS ts st).1):=by
 obtain⟨i0,hi,bJ,bK,bL⟩:=Ej zd2;have HP:Y (R.targetsS ts st=((R.tgLoop ts (Z ts+1) (R.notS (Fa3 ts st) (decide (0<yC (ts.drop (Fa3 ts st).K))) 4 (R.cur ts st).at_) 0 []).1,
 R.needS ts (R.tgLoop ts (Z ts+1) (R.notS (Fa3 ts st) (decide (0<yC (ts.drop (Fa3 ts st).K))) 4 (R.cur ts st).at_) 0 []).2 [59])):=rfl
 have H0:=J h;have bP:=zO h.rd;generalize R.targetsS ts st=r at*;go_in;have C0:Y (w.grownBy w (V rb)):=zP _ _;go_wp2_with fail;refine(qv H0.o _).mono ?_;rintro e w1 ⟨rfl,I1,aQ⟩;have J1:=J I1;have b1:=zO J1.o.rd;have G1:=J (aQ);have C1:=J (zD C0.o G1.o);go_wp2_with fail;refine(zkY (J1.o.keep (Ac _ _ _))).mono ?_;rintro e w2 ⟨rfl,an⟩;have ao:=zT an (V rb);have J2:Y _:=((J1.o.keep (Ac _ _ _))).keep an;have G2:Y (w1.grownBy w2 (V rb)):=(zD (Ac _ _ _) ao);have C2:=J (zD C1.o G2.o);have B:Y (w2.heap[w1.heap.size]?=V (Fa1 ts st)):=ql ao (by simp;omega);have b3:=cbi 0 B.o;have b4:=cbi 1 B.o;have b5:=cbi 2 B.o;go_wp2_with fail;refine(j4 J2.o _ _ _ _ _).mono ?_;rintro e w3 ⟨rfl,I3,aR⟩;have J3:=J I3;have G3:=J (aR);have C3:=J (zD C2.o G3.o);generalize R.notS (Fa3 ts st) (decide (0<yC (ts.drop (Fa3 ts st).K))) 4 (R.cur ts st).at_=st3 at*;go_wp2_with fail
 go_loopw [3,6] (fun v iv wr=>∃(i n:Ad) (c:A (A Ab×Ak)) (s:R.St),iv=O Ai i/\i<=s.K/\s.K<Z ts/\(Z c)<=i/\(Z ts)<n+s.K/\Y (R.tgLoop ts n s i c=R.tgLoop ts (Z ts+1) st3 0 [])/\Y (RInv wr rb g ag ts s H)/\Y (w.grownBy wr (V rb))/\Y (wr.ownsRow w.heap.size 183 2 v (Z c) (zx c))) (fun _ iv _=>Z ts+1-(intOf iv).toNat)
 ·exact⟨0,Z ts+1,[],st3,rfl,Ax _,J3.o.lt,Aq _,by omega,rfl,J3,C3,Bk _ _ _ _⟩
 ·
  obtain⟨i,n,c,s,rfl,bS,bQ,bR,hn,HL,IR,HR,HO⟩:=hrel;have c2:=cbi 2 IR.o.rd;have bU:=IR.o.ok.len;obtain⟨n,rfl⟩:∃m,n=m+1:=⟨n-1,by omega⟩;have o:=HL.o;rw[R.tgLoop] at o
  by_cases hb:s.bad<0
  ·rw[Az hb] at o
   have bI:=fP ts s i c;have ak:Y (qJ ts s i c=(R.notS (R.notS (R.notS (R.kindS ts (R.kindS ts s 34) 49) (decide ((i:Ak)<4)) 3 (R.cur ts s).at_) (R.upstream (R.cur ts s).s) 4 (R.cur ts s).at_) (decide (R.num (Fa0 ts s).s<=1000)) 4 (Fa0 ts s).at_,
    if 0<R.num (Fa0 ts s).s then c++[((R.cur ts s).s,R.num (Fa0 ts s).s)] else c)):=rfl
   generalize qJ ts s i c=rr at*;obtain⟨s5,aP⟩:=rr;simp only at o bI;have a:=J o;have HU:=J (IR.o.curlen);have bw:Y ((R.str (R.cur ts s).s).size<=Bh):=by have:=HU.o;show _<=_;unfold Bh;omega
   have bv:Y _:=(Nn ak.o).1;have b:Y _:=(Nn ak.o).2;have bl:=J HO.o;go_wp2_with fail;refine(kO IR.o 34 (by decide) (by decide)).mono ?_;rintro e a6 ⟨rfl,aD,aT⟩;have al:=J aD;have bN:=zO al.o.rd;have au:=J (aT);have a9:=J (zD HR.o au.o);have bm:Y _:=zQ bl.o au.o (by omega);have HW:=J (al.o.curlen);go_wp2_with fail;refine(kO (al.o.keep (Ac _ _ _)) 49 (by decide) (by decide)).mono ?_;rintro e ah ⟨rfl,aE,N⟩;have aM:=J aE;have bO:=zO aM.o.rd;have av:Y (a6.grownBy ah (V rb)):=(zD (Ac _ _ _) N);have ba:=J (zD a9.o av.o);have bn:Y _:=zQ bm.o av.o (by omega);have d:Y (ah.heap[a6.heap.size]?=V (Fa1 ts s)):=ql N (by simp;omega);have bY:=zO d.o;have bV:=cbi 0 d.o;have bW:=cbi 1 d.o;have bX:=cbi 2 d.o;go_wp2_with fail;refine(cp _ _ bw.o).mono ?_;rintro e wX ⟨rfl,a5⟩;rw[a5];rw[R.str_toList];go_wp2_with fail;refine(j4 (aM.o.keep (Ac _ _ _)) _ _ _ _ _).mono ?_;rintro e a7 ⟨rfl,aF,Q⟩;have bz:=J aF;have ai:Y (ah.grownBy a7 (V rb)):=(zD (Ac _ _ _) Q);have bb:=J (zD ba.o ai.o);have bo:Y _:=zQ bn.o ai.o (by omega);have f:=J (zE d.o ai.o (by simp;omega));have bH:Y (a7.heap[ah.heap.size]?=V (Ae #[O Bp (Fa0 ts s).k,I (R.str (Fa0 ts s).s),O Ai (Fa0 ts s).at_] 115)):=ql Q (by simp;omega);have b6:=cbi 0 f.o;have b7:=cbi 1 f.o;have b8:=cbi 2 f.o;go_wp2_with fail;refine(j4 bz.o _ _ _ _ _).mono ?_;rintro e ce ⟨rfl,aG,aU⟩;have bA:=J aG;have ad:=J (aU);have bc:=J (zD bb.o ad.o);have bp:Y _:=zQ bo.o ad.o (by omega);have bE:=J (zE f.o ad.o (by simp;omega));have j:=J (zE bH.o ad.o (by simp;omega));have bZ:=cbi 0 j.o;have b0:=cbi 1 j.o;have b2:=cbi 2 j.o;go_wp2_with fail;refine(ut _ _ _ _ HW.o).mono ?_;rintro e cf ⟨rfl,C⟩;have aV:=zT C (V rb);have bB:Y _:=(bA.o).keep C;have ae:=J (aV);have bd:=J (zD bc.o ae.o);have bq:Y _:=zQ bp.o ae.o (by omega);have bF:=J (zE bE.o ae.o (by simp;omega));have q:=J (zE j.o ae.o (by simp;omega));rw[R.str_toList];have b9:=cbi 0 q.o;have ca:=cbi 1 q.o;have cb:=cbi 2 q.o;go_wp2_with fail;refine(j4 bB.o _ _ _ _ _).mono ?_;rintro e bM ⟨rfl,aH,aW⟩;have af:=J aH;have aj:=J (aW);have ab:=J (zD bd.o aj.o);have cm:=ab.o.size;have p:Y _:=zQ bq.o aj.o (by omega);have bG:=J (zE bF.o aj.o (by simp;omega));rw[<-bv.o] at af;generalize bT:R.num (Fa0 ts s).s=num at*;have cc:=cbi 1 bG.o
   by_cases a4:0<num
   ·rw[Az a4] at b
    go_wp2_with (at_builtin;refine Cu _ rfl _ _ 123 rfl w.heap.size 183 i0 _ 2 24 underlying123 hi bJ bK bL rfl (by decide) _ _ _ rfl (Ao p.o _) ⟨bM.heap.size,0,S⟩ 1 1 [I (R.str (R.cur ts s).s),O Ai num] rfl rfl ?c1 ?c2 ?c3 ?c4 ?c5 ?_)
    ·exact zZ _ #[_,_] _ _ (by simp)
    ·intro u hu;simp at hu;rcases hu with rfl|rfl <;> rfl
    ·unfold Bh;omega
    ·omega
    ·have:=ab.o.size;simp;omega
    intro v9 w9 a3 l _;have bi:Y (w9.ownsRow w.heap.size 183 2 v9 (Z (c++[((R.cur ts s).s,num)])) (zx (c++[((R.cur ts s).s,num)]))):=by rw[yn,Ah];exact a3
    have am:∀k,(u3:Aj).ownBlock=V k->w.heap.size<=k:=fun k hk=>(An p.o k hk).1
    have J9:Y (RInv w9 rb g ag ts s5 H):=(af.o.keep (Ac _ _ _)).away l (fun k hk=>by have h1:=am k hk;have h2:=H0.o.gl;exact⟨by omega,by omega⟩);have C9:Y (w.grownBy w9 (V rb)):=qI (zD ab.o (Ac _ _ _)) l am;go_wp2_with fail;refine(uC J9.o _).mono ?_;rintro e cg ⟨rfl,E⟩;have aX:=zT E (V rb);have aN:Y _:=(J9.o).keep E;have aw:=J (aX);have ap:=J (zD C9.o aw.o);have t:Y _:=zQ bi.o aw.o (by omega)
    cases hmore:R.isB s5 (R.cur ts s5) [44]
    ·rw[Aw (by rw[hmore];simp)] at a
     go_wp2_with fail;refine(qv aN.o _).mono ?_;rintro e ch ⟨rfl,aI,aY⟩;have bC:=J aI;have ax:=J (aY);have be:=J (zD ap.o ax.o);have br:Y _:=zQ t.o ax.o (by omega);go_wp2;go_ret;exact⟨_,rfl,by rw[HP.o,<-a.o];exact bC.o,be.o,by rw[HP.o,<-a.o,b.o];exact br.o⟩
    ·rw[Az (by rw[hmore])] at a
     have aa:=R.needS_yes hmore;go_wp2_with fail;refine(qv aN.o _).mono ?_;rintro e ci ⟨rfl,aJ,aZ⟩;have y:=J aJ;have ay:=J (aZ);have bf:=J (zD ap.o ay.o);have bs:Y _:=zQ t.o ay.o (by omega);rw[show(⟨#[44]⟩:As).data.toList=[44] from rfl] at y;go_wp2
     go_roundw
     ·exact⟨i+1,n,aP,_,by go_num,by rw[aa];simp;omega,y.o.lt,by rw[b.o];simp;omega,by rw[aa];simp;omega,a,y,bf,by rw[b.o];exact bs.o⟩
     ·simp[intOf];omega
   ·rw[Aw a4] at b
    go_wp2_with fail;refine(uC af.o _).mono ?_;rintro e cj ⟨rfl,F⟩;have a0:=zT F (V rb);have aO:Y _:=(af.o).keep F;have az:=J (a0);have aq:=J (zD ab.o az.o);have x:Y _:=zQ p.o az.o (by omega)
    cases hmore:R.isB s5 (R.cur ts s5) [44]
    ·rw[Aw (by rw[hmore];simp)] at a
     go_wp2_with fail;refine(qv aO.o _).mono ?_;rintro e ck ⟨rfl,aK,a1⟩;have bD:=J aK;have aA:=J (a1);have bg:=J (zD aq.o aA.o);have bt:Y _:=zQ x.o aA.o (by omega);go_wp2;go_ret;exact⟨_,rfl,by rw[HP.o,<-a.o];exact bD.o,bg.o,by rw[HP.o,<-a.o,b.o];exact bt.o⟩
    ·rw[Az (by rw[hmore])] at a
     have aa:=R.needS_yes hmore;go_wp2_with fail;refine(qv aO.o _).mono ?_;rintro e cl ⟨rfl,aL,a2⟩;have z:=J aL;have aB:=J (a2);have bh:=J (zD aq.o aB.o);have bu:Y _:=zQ x.o aB.o (by omega);rw[show(⟨#[44]⟩:As).data.toList=[44] from rfl] at z;go_wp2
     go_roundw
     ·exact⟨i+1,n,aP,_,by go_num,by rw[aa];simp;omega,z.o.lt,by rw[b.o];omega,by rw[aa];simp;omega,a,z,bh,by rw[b.o];exact bu.o⟩
     ·simp[intOf];omega
  ·rw[Aw hb] at o
   have a:=J o;have bj:=J HO.o;go_wp2_with fail;refine(qv IR.o _).mono ?_;rintro e cd ⟨rfl,aC,aS⟩;have bx:=J aC;have ar:=J (aS);have a8:=J (zD HR.o ar.o);have bk:Y _:=zQ bj.o ar.o (by omega);go_wp2;go_ret;exact⟨_,rfl,by rw[HP.o,<-a.o];exact bx.o,a8.o,by rw[HP.o,<-a.o];exact bk.o⟩
theorem ez (c:Ab):decide (0<=Mf [123,125,59,61,44] c)=R.signI c.toNat:=by
 have:∀n:Fin 256,decide (0<=Mf [123,125,59,61,44] (Cb n.val))=R.signI (Cb n.val).toNat:=by decide +kernel
 have h:=this ⟨c.toNat,UInt8.toNat_lt c⟩;simp only[UInt8.ofNat_toNat] at h;exact h
theorem zlD (c:Ab):((c.toNat:Ak).toNat).toUInt8=c:=by simp
theorem lx (s:As)(w:Ag)(r:s.size<=1000000000000):Am prog 204 #[I s] w fun e w'=>e=Af (Cm #[O Ai (qD s.data.toList).1,O Ai (qD s.data.toList).2])/\w.grownBy w' S:=by
 have g:s.size<=Bh:=by unfold Bh;omega
 by_cases l:s.size=0
 ·have a:Y (qD s.data.toList=(0,0)):=by
   have:s.data.toList=[]:=Ep.1 (by rw[R.size_eq];exact l);rw[this];rfl
  have n:s=⟨#[]⟩:=by
   apply yt;exact Ep.1 (by rw[R.size_eq];exact l)
  subst n;go_in;go_wp2
  go_ret2
  exact⟨by rw[a.o];rfl,zP _ _⟩
 ·have o:0<s.size:=by omega
  have b:s.data.toList=s[0]::s.data.toList.drop 1:=by
   have:=R.drop_cons s 0 o;rw[Iw] at this;exact this
  have a:Y (qD s.data.toList=if R.smallI s[0].toNat then (R.span R.smallI s.data.toList,(1:Ak)) else if R.digitI s[0].toNat then xm s.data.toList else if s[0].toNat=34 then yD s.data.toList else if R.signI s[0].toNat then (1,4) else (0,5)):=by
   show qD _=_
   conv=>lhs;rw[b]
   rw[qD,<-b]
  have u:(s.toList == [])=false:=by
   rw[El,b];rfl
  have i:Y _:=fun w=>pY s w g
  have h:Y _:=fun w=>cW s w g
  have j:Y _:=fun w=>cY s w r o
  have c:=ez s[0];have f:Y (∀w,Am prog 264 #[I ⟨#[123,125,59,61,44]⟩,O Bp s[0].toNat] w fun e w'=>e=Af (O Ai (Mf [123,125,59,61,44] s[0]))/\w'=w):=fun w=>by
   have:=Tryz.strings_IndexByte ⟨#[123,125,59,61,44]⟩ s[0].toNat w;rw[zlD] at this;exact this
  generalize qD s.data.toList=m at*;generalize xm s.data.toList=mn at*;generalize yD s.data.toList=ms at*;generalize R.span R.smallI s.data.toList=sp at*;generalize Mf [123,125,59,61,44] s[0]=ix at*
  cases ha:R.smallI s[0].toNat
  ·rw[ha] at a
   simp only[Ct,Gj] at a
   cases hd:R.digitI s[0].toNat
   ·rw[hd] at a
    simp only[Ct,Gj] at a
    by_cases d:s[0].toNat=34
    ·rw[Az d] at a
     have k:((s[0].toNat:Ak) == 34)=true:=by rw[d];rfl
     go_in;go_wp2_with (first
      |(go_at_call 260;refine(j3 _ _).mono ?_;rintro e w' ⟨rfl,rfl⟩)
      |(go_at_call 261;refine(jN _ _).mono ?_;rintro e w' ⟨rfl,rfl⟩)
      |(go_at_call 263;refine(j.o _).mono ?_;rintro e v ⟨rfl,t⟩))
     go_ret2
     exact⟨by rw[a.o];rfl,t⟩
    ·rw[Aw d] at a
     have k:((s[0].toNat:Ak) == 34)=false:=by rw[Ch];omega
     cases hsi:R.signI s[0].toNat
     ·rw[hsi] at a c
      simp only[Ct,Gj] at a;have p:¬0<=ix:=by simpa using c
      go_in;go_wp2_with (first
       |(go_at_call 260;refine(j3 _ _).mono ?_;rintro e w' ⟨rfl,rfl⟩)
       |(go_at_call 261;refine(jN _ _).mono ?_;rintro e w' ⟨rfl,rfl⟩)
       |(go_at_call 264;refine(f.o _).mono ?_;rintro e w' ⟨rfl,rfl⟩))
      go_ret2
      exact⟨by rw[a.o];rfl,zP _ _⟩
     ·rw[hsi] at a c
      simp only[Gq] at a;have q:0<=ix:=by simpa using c
      go_in;go_wp2_with (first
       |(go_at_call 260;refine(j3 _ _).mono ?_;rintro e w' ⟨rfl,rfl⟩)
       |(go_at_call 261;refine(jN _ _).mono ?_;rintro e w' ⟨rfl,rfl⟩)
       |(go_at_call 264;refine(f.o _).mono ?_;rintro e w' ⟨rfl,rfl⟩))
      go_ret2
      exact⟨by rw[a.o];rfl,zP _ _⟩
   ·rw[hd] at a
    simp only[Gq] at a;go_in;go_wp2_with (first
     |(go_at_call 260;refine(j3 _ _).mono ?_;rintro e w' ⟨rfl,rfl⟩)
     |(go_at_call 261;refine(jN _ _).mono ?_;rintro e w' ⟨rfl,rfl⟩)
     |(go_at_call 262;refine(h.o _).mono ?_;rintro e w' ⟨rfl,rfl⟩))
    go_ret2
    exact⟨by rw[a.o];rfl,zP _ _⟩
  ·rw[ha] at a
   simp only[Gq] at a;go_in;go_wp2_with (first
    |(go_at_call 260;refine(j3 _ _).mono ?_;rintro e w' ⟨rfl,rfl⟩)
    |(go_at_call 202;refine(i.o _).mono ?_;rintro e w' ⟨rfl,rfl⟩))
   go_ret2
   exact⟨by rw[a.o];rfl,zP _ _⟩
theorem mN (l:A Ab)(p:Ad)(a:p<=Z l):qE l p<=Z l:=by grind[R.span_le,xN,List.length_drop,qE]
theorem mQ (l:A Ab)(p:Ad)(a:p<=Z l):(zg l p).at_+Z (zg l p).raw<=Z l:=by grind[mN,kl,qE,List.length_drop,zg,List.length_take]
theorem tT (s:As)(p:Ad)(w:Ag)(hs:s.size<=1000000000000)(N:p<=s.size):Am prog 146 #[I s,O Ai p] w fun e w'=>e=Af (Fe #[O Ai (zg s.data.toList p).k,O Ai (zg s.data.toList p).at_,I (R.str (zg s.data.toList p).raw)])/\w.grownBy w' S:=by
 have x:=bW s p;have h:(s.extract p s.size).size<=Bh:=by rw[<-R.size_eq,x,Cy,R.size_eq];unfold Bh;omega
 have q:=fun w=>pX (s.extract p s.size) w h
 rw[x] at q;have b:=J q;have f:=mN s.data.toList p (by rw[R.size_eq];exact N);rw[R.size_eq] at f;have r:Y (zg s.data.toList p=⟨(qD (s.data.toList.drop (qE s.data.toList p))).2,qE s.data.toList p,(s.data.toList.drop (qE s.data.toList p)).take (qD (s.data.toList.drop (qE s.data.toList p))).1⟩):=rfl;have d:qE s.data.toList p=p+R.span xN (s.data.toList.drop p):=rfl;generalize R.span xN (s.data.toList.drop p)=n at*;rw[d] at r f;have y:=bW s (p+n);have i:(s.extract (p+n) s.size).size<=1000000000000:=by rw[<-R.size_eq,y,Cy,R.size_eq];omega
 have l:=fun w=>lx (s.extract (p+n) s.size) w i
 rw[y] at l;have o:=J l;have c:=kl (s.data.toList.drop (p+n));rw[Cy,R.size_eq] at c;generalize qD (s.data.toList.drop (p+n))=m at*;obtain⟨j,E⟩:=m;simp only at r c;go_in;go_wp2_with fail;refine(b.o _).mono ?_;rintro e Q ⟨rfl,g⟩;rw[g];go_wp2_with fail;refine(o.o _).mono ?_;rintro e F ⟨rfl,t⟩;have a:=ql t (by simp);have z:=cbi 0 a;have B:=cbi 1 a;have C:=cbi 2 a;have f0:=zm9 0 a;have f1:=zm9 1 a;have f2:=zm9 2 a;have H:Y (w.grownBy F S):=zD (Ac _ _ _) t;go_wp2;have u:=zD (zD (zF F w.heap.size 0 (O Ai E)) (zF _ w.heap.size 1 (O Ai (p+n)))) (zF _ w.heap.size 2 (I (s.extract (p+n) (p+n+j))));refine Et (v:=.agg #[O Ai E,O Ai (p+n),I (s.extract (p+n) (p+n+j))]) (by simp[Hm,results146,go_sem,z,B,C]) rfl ⟨?_,ze H.o u (Aq _)⟩;rw[r.o,kB,show p+n+j-(p+n)=j by omega];simp
structure P.St where
 tok:P.Tk
 broken:Ee
 err:Ak
 fat:Ak
structure PInv (w:Ag) (rb:Ad) (s:As) (st:P.St):Prop where
 rd:w.heap[rb]?=V (Ae #[I s,O Ai st.tok.k,O Ai st.tok.at_,I (R.str st.tok.raw),Av st.broken,O Ai st.err,O Ai st.fat] 204 (0,0))
 len:s.size<=1000000000000
 tok:∃p,p<=s.size/\st.tok=zg s.data.toList p
variable {s:As}{st:P.St}
theorem PInv.bd (h:PInv w rb s st):st.tok.at_+Z st.tok.raw<=s.size:=by
 obtain⟨p,a,e⟩:=h.tok;rw[e,<-R.size_eq];exact mQ _ _ (by rw[R.size_eq];exact a)
theorem PInv.keep (h:PInv w rb s st)(a:w.grownBy w' S):PInv w' rb s st:=
 ⟨by rw[a.block rb (zO h.rd) (by simp)];exact h.rd,h.len,h.tok⟩
theorem PInv.other (h:PInv w rb s st)(c:w.grownBy w' (V b))(a:b≠rb):PInv w' rb s st:=
 ⟨by rw[c.block rb (zO h.rd) (by simpa using fun e=>a e.symm)];exact h.rd,h.len,h.tok⟩
theorem PInv.away (h:PInv w rb s st)(a:w.grownBy w' row)(b:∀k,row=V k->k≠rb):PInv w' rb s st:=by
 cases row with
 |none=>exact h.keep a
 |some k=>exact h.other a (b k rfl)
def ug (l:A Ab)(st:P.St)(p:Ad):P.St:={ st with tok:=zg l p }
theorem zi6 (h:PInv w rb s st)(p:Ad)(f:p<=s.size):Am prog 100 #[Al (V ⟨rb,0,S⟩),O Ai p] w fun e w'=>e=Af (Cm #[])/\PInv w' rb s (ug s.data.toList st p)/\w.grownBy w' (V rb):=by
 have o:=cbi 0 h.rd;have b:=h.len;have i:=J h;have m:Y _:=fun w=>tT s p w b f
 have j:Y (ug s.data.toList st p={ st with tok:=zg s.data.toList p }):=rfl;have d:Y (∃q,q<=s.size/\zg s.data.toList p=zg s.data.toList q):=⟨p,f,rfl⟩;generalize zg s.data.toList p=t at*;go_in;go_wp2_with fail;refine(m.o _).mono ?_;rintro e g ⟨rfl,c⟩;have a:=i.o.keep c;have r:=cbi 1 a.rd;have u:=cbi 2 a.rd;have v:=cbi 3 a.rd;have x:=zm9 1 a.rd;have y:=zm9 2 a.rd;have z:=zm9 3 a.rd;have n:=J a;have l:=J c;go_wp2
 go_end0
 have c:g.grownBy (((g.setCell ⟨rb,1,S⟩ (O Ai t.k)).setCell ⟨rb,2,S⟩ (O Ai t.at_)).setCell ⟨rb,3,S⟩ (I (R.str t.raw))) (V rb):=
  zD (zD (zF _ _ _ _) (zF _ _ _ _)) (zF _ _ _ _)
 refine⟨rfl,?_,zD (zT l.o _) c⟩;rw[j.o];exact⟨zH (zH (zH n.o.rd _) _) _,b,d.o⟩
def qH (st:P.St)(r:A Ab):Ee:=!st.broken && decide (st.tok.raw=r)
theorem vN (h:PInv w rb s st)(r:As):Am prog 147 #[Al (V ⟨rb,0,S⟩),I r] w fun e w'=>e=Af (Av (qH st r.data.toList))/\w.grownBy w' S:=by
 have c:=cbi 3 h.rd;have b:=cbi 4 h.rd;have a:Y (qH st r.data.toList=(!st.broken && decide (st.tok.raw=r.data.toList))):=rfl;have d:((R.str st.tok.raw).toList == r.toList)=decide (st.tok.raw=r.data.toList):=by rw[El,El,R.str_toList,Eb];simp
 generalize decide (st.tok.raw=r.data.toList)=b3 at*
 cases hb:st.broken
 all_goals
  rw[hb] at a b;go_in;go_wp2;go_ret;exact⟨zX (by rw[a.o];try rfl),zP _ _⟩
def qR (l:A Ab)(st:P.St)(fits:Ee):P.St:=
 if fits=true/\st.broken=false then ug l st (st.tok.at_+Z st.tok.raw) else { st with broken:=true }
theorem cZ (h:PInv w rb s st)(a:Ee):Am prog 149 #[Al (V ⟨rb,0,S⟩),Av a] w fun e w'=>e=Af (Av (!(qR s.data.toList st a).broken))/\PInv w' rb s (qR s.data.toList st a)/\w.grownBy w' (V rb):=by
 have o:=cbi 2 h.rd;have p:=cbi 3 h.rd;have k:=cbi 4 h.rd;have q:=zm9 4 h.rd;have f:=h.bd;have c:=h.len;have n:(R.str st.tok.raw).size=Z st.tok.raw:=R.str_size _;have b:Y (qR s.data.toList st a=if a=true/\st.broken=false then ug s.data.toList st (st.tok.at_+Z st.tok.raw) else { st with broken:=true }):=rfl;have d:=J h;generalize qR s.data.toList st a=st' at*
 cases a
 ·rw[Aw (by simp)] at b
  go_in;go_wp2;go_ret;rw[b.o];exact⟨rfl,⟨zH d.o.rd _,c,d.o.tok⟩,zF _ _ _ _⟩
 ·cases hb:st.broken
  ·rw[Az ⟨rfl,hb⟩] at b
   rw[hb] at k;have l:Y (∀w,PInv w rb s st->Am prog 100 #[Al (V ⟨rb,0,S⟩),O Ai (IntKind.i64.wrap ((st.tok.at_:Ak)+(Z st.tok.raw:Ak)))] w fun e w'=>e=Af (Cm #[])/\PInv w' rb s st'/\w.grownBy w' (V rb)):=fun w h=>by
    have:=zi6 h (st.tok.at_+Z st.tok.raw) f;rw[<-b.o,Int.natCast_add] at this;rw[IntWalk.i64_in _ ⟨by omega,by omega⟩];exact this
   have i:Y (st'.broken=false):=by rw[b.o];exact hb
   go_in;go_wp2
   go_region_with (go_at_call 100;refine(l.o _ (d.o.keep (zV w))).mono ?_;rintro e r ⟨rfl,j,g⟩;have m:=cbi 4 j.rd;rw[i.o] at m)
   all_goals
    go_wp2;go_ret;rw[i.o];exact⟨rfl,j,zD (zT (zV w) _) g⟩
  ·rw[Aw (by rw[hb];simp)] at b
   rw[hb] at k;go_in;go_wp2;go_ret;have e:({ st with broken:=true }:P.St)=st:=by cases st;simp at hb ⊢;exact hb
   rw[b.o,e,hb];exact⟨rfl,d.o,zP _ _⟩
def zS (l:A Ab)(st:P.St)(r:A Ab):P.St:=qR l st (decide (st.tok.raw=r))
def jk (l:A Ab)(st:P.St):P.St:=qR l st (st.tok.k == 0)
theorem y8 (h:PInv w rb s st)(r:As):Am prog 206 #[Al (V ⟨rb,0,S⟩),I r] w fun e w'=>e=Af (Cm #[])/\PInv w' rb s (zS s.data.toList st r.data.toList)/\w.grownBy w' (V rb):=by
 have f:=cbi 3 h.rd;have g:((R.str st.tok.raw).toList == r.toList)=decide (st.tok.raw=r.data.toList):=by rw[El,El,R.str_toList,Eb];simp
 have c:Y (zS s.data.toList st r.data.toList=qR s.data.toList st (decide (st.tok.raw=r.data.toList))):=rfl;have b:=J h;generalize decide (st.tok.raw=r.data.toList)=b3 at*;go_in;go_wp2_with fail;refine(cZ b.o b3).mono ?_;rintro e i ⟨rfl,d,a⟩;go_wp2
 go_end0
 exact⟨rfl,by rw[c.o];exact d,a⟩
theorem oC (h:PInv w rb s st):Am prog 102 #[Al (V ⟨rb,0,S⟩)] w fun e w'=>e=Af (Cm #[])/\PInv w' rb s (jk s.data.toList st)/\w.grownBy w' (V rb):=by
 have f:=cbi 1 h.rd;have c:Y (jk s.data.toList st=qR s.data.toList st (st.tok.k == 0)):=rfl;have b:=J h;go_in;go_wp2_with fail;refine(cZ b.o (st.tok.k == 0)).mono ?_;rintro e g ⟨rfl,d,a⟩;go_wp2
 go_end0
 exact⟨rfl,by rw[c.o];exact d,a⟩
theorem gj (l:A Ab)(h:(qD l).2=3):2<=(qD l).1:=by
 unfold qD at h ⊢
 grind[qD,xm,yD]
theorem iC (l:A Ab)(p:Ad)(h:(zg l p).k=3):2<=Z (zg l p).raw:=by grind[zg,gj,kl,qE,List.length_take]
theorem PInv.three (h:PInv w rb s st)(a:st.tok.k=3):2<=Z st.tok.raw:=by grind[iC,P.St,PInv]
def qA (l:A Ab)(st:P.St):A Ab×P.St:=
 (if (qR l st (st.tok.k == 3)).broken then [] else (st.tok.raw.drop 1).take (Z st.tok.raw-2),qR l st (st.tok.k == 3))
theorem zlV {a b:As}{c d:Ak}(h:a=b)(f:c=d):Af (Cm #[I a,O Ai c])=Af (Cm #[I b,O Ai d]):=by rw[h,f]
theorem js (h:PInv w rb s st):Am prog 266 #[Al (V ⟨rb,0,S⟩)] w fun e w'=>e=Af (Cm #[I (R.str (qA s.data.toList st).1),O Ai st.tok.at_])/\PInv w' rb s (qA s.data.toList st).2/\w.grownBy w' (V rb):=by
 have u:=cbi 1 h.rd;have v:=cbi 2 h.rd;have x:=cbi 3 h.rd;have o:=zO h.rd;have p:=h.bd;have m:=h.len;have r:(R.str st.tok.raw).size=Z st.tok.raw:=R.str_size _;have a:Y (qA s.data.toList st=(if (qR s.data.toList st (st.tok.k == 3)).broken then [] else (st.tok.raw.drop 1).take (Z st.tok.raw-2),qR s.data.toList st (st.tok.k == 3))):=rfl;have g:Y ((qR s.data.toList st (st.tok.k == 3)).broken=false->2<=Z st.tok.raw):=fun hb=>by
  apply h.three
  apply Ng;intro q
  unfold qR at hb;rw[Aw (by intro c;exact q (by simpa using c.1))] at hb;simp at hb
 have n:=J h;go_in;go_wp2_with fail;refine(cZ (n.o.keep (Ac _ _ _)) (st.tok.k == 3)).mono ?_;rintro e t ⟨rfl,j,b⟩;have f:=ql b (by simp;omega);have z:=cbi 1 f;have B:=cbi 2 f;have i:Y (w.grownBy t (V rb)):=zD (Ac _ _ _) b;have l:=J j;have d:=g.o;generalize qR s.data.toList st (st.tok.k == 3)=st' at*
 cases hb:st'.broken
 ·rw[hb] at a
  simp only[Ct,Gj] at a;have y:=d hb;go_wp2
  go_region
  go_wp2
  go_ret2
  refine⟨?_,by rw[a.o];exact l.o.keep (zV _),zD i.o (zT (zV _) _)⟩;rw[a.o];exact zlV (by rw[kB,R.str_toList,show (Z st.tok.raw)-1-1=Z st.tok.raw-2 by omega]) rfl
 ·rw[hb] at a
  simp only[Gq] at a;go_wp2
  go_region
  go_wp2
  go_ret2
  exact⟨by rw[a.o];rfl,by rw[a.o];exact l.o.keep (zV _),zD i.o (zT (zV _) _)⟩
theorem zdQ:∀(l:A Ab) (n:Ad),l.all (fun c=>R.digitI c.toNat)=true->(n:Ak)*10 ^ Z l+10 ^ Z l<=1000000000000->∃m:Ad,Lib.decFrom n l=V m/\l.foldl R.numStep n=m/\(m:Ak)<(n+1)*10 ^ Z l:=by
 intro l
 induction l with
 |nil=>intro n _ _;exact⟨n,rfl,rfl,by simp;omega⟩
 |cons c l ih=>
  intro n h k;rw[Xi,Ez] at h;obtain⟨g,j⟩:=h;unfold R.digitI at g;simp only[Ez,Gd] at g;rw[Bb,Int.pow_succ] at k;have s:(1:Ak)<=10 ^ Z l:=Int.pow_pos (by decide);have a:Lib.digitVal c=V (c.toNat-48):=by unfold Lib.digitVal;rw[Az (by omega)]
  have o:(n:Ak)<=100000000000:=by
   have:(n:Ak)*10<=n*(10 ^ Z l*10):=by
    apply Int.mul_le_mul_of_nonneg_left <;> omega
   omega
  have f:R.numStep n c=((n*10+(c.toNat-48):Ad):Ak):=by
   unfold R.numStep;have i:wrap64 (10*(n:Ak))=10*n:=IntWalk.wrap64_in _ ⟨by omega,by omega⟩;rw[i,show((c.toNat:Ak)-48) % 256=c.toNat-48 by omega,IntWalk.wrap64_in _ ⟨by omega,by omega⟩]
   omega
  have d:((n*10+(c.toNat-48):Ad):Ak)+1<=(n+1)*10:=by omega
  have b:((n*10+(c.toNat-48):Ad):Ak)*10 ^ Z l+10 ^ Z l<=(n+1)*10*10 ^ Z l:=by
   have:(((n*10+(c.toNat-48):Ad):Ak)+1)*10 ^ Z l<=((n+1)*10)*10 ^ Z l:=Int.mul_le_mul_of_nonneg_right d (by omega);rw[Int.add_mul,Int.one_mul] at this;exact this
  have p:((n:Ak)+1)*10*10 ^ Z l=n*(10 ^ Z l*10)+10 ^ Z l*10:=by
   rw[Int.mul_assoc,Int.mul_comm 10,Int.add_mul,Int.one_mul]
  obtain⟨m,q,r,u⟩:=ih (n*10+(c.toNat-48)) j (by omega);refine⟨m,?_,?_,?_⟩
  ·rw[Lib.decFrom,a];exact q
  ·rw[Nu,f];exact r
  ·rw[Bb,Int.pow_succ]
   have t:(((n*10+(c.toNat-48):Ad):Ak)+1)*10 ^ Z l<=(n+1)*(10 ^ Z l*10):=by
    rw[Int.add_mul,Int.one_mul];have:((n:Ak)+1)*(10 ^ Z l*10)=(n+1)*10*10 ^ Z l:=by rw[Int.mul_assoc,Int.mul_comm 10]
    rw[this];exact b
   omega
theorem mM (l:A Ab)(o:Z l<=5)(d:1<=Z l)(b:l.all (fun c=>R.digitI c.toNat)=true):Lib.atoi l=V (R.num l)/\0<=R.num l/\R.num l<=99999:=by
 have p:(10:Ak) ^ Z l<=100000:=by
  have:∀n:Fin 6,(10:Ak) ^ n.val<=100000:=by decide
  exact this ⟨Z l,by omega⟩
 obtain⟨m,i,j,k⟩:=zdQ l 0 b (by simp;omega);have f:R.num l=m:=j;refine⟨?_,by omega,by simp at k;omega⟩
 match l,d with
 |c::r,_=>
  have a:R.digitI c.toNat=true:=by rw[Xi,Ez] at b;exact b.1
  unfold R.digitI at a;simp only[Ez,Gd] at a;have g:(c == 45)=false:=by rw[Ch];intro e;subst e;exact absurd a.1 (by decide)
  have h:(c == 43)=false:=by rw[Ch];intro e;subst e;exact absurd a.1 (by decide)
  unfold Lib.atoi;simp only;rw[g,h];simp only[Ct,Gj];unfold Lib.decNat;simp only[List.isEmpty_cons,Ct,Gj];rw[i,f];rfl
theorem pM (l:A Ab)(h:(qD l).2=2):(qD l).1=R.span R.digitI l/\1<=R.span R.digitI l/\R.span R.digitI l<=5:=by
 unfold qD at h ⊢
 grind[qD,xm,R.span,yD,R.digitI]
theorem gn (p:Ak->Ee)(l:A Ab):(l.take (R.span p l)).all (fun c=>p c.toNat)=true:=by
 induction l <;> grind[R.span]
theorem PInv.two (h:PInv w rb s st)(a:st.tok.k=2):Z st.tok.raw<=5/\Lib.atoi st.tok.raw=V (R.num st.tok.raw)/\0<=R.num st.tok.raw/\R.num st.tok.raw<=99999:=by grind[zg,pM,kl,qE,R.span,R.digitI,List.length_take,mM,gn,P.St,PInv,R.num]
def qp (l:A Ab)(st:P.St):Ak×P.St:=
 (if (qR l st (st.tok.k == 2)).broken then 0 else R.num st.tok.raw,qR l st (st.tok.k == 2))
theorem ww (w:Ag)(e:Cs)(s:As):w.grownBy (Na w e s) S:=
 ⟨rfl,rfl,rfl,by rw[Lib.bytesWorld_size];omega,fun k hk _=>Lib.bytesWorld_at_old w e s k hk⟩
theorem fh (h:PInv w rb s st):Am prog 327 #[Al (V ⟨rb,0,S⟩)] w fun e w'=>e=Af (Cm #[O Ai (qp s.data.toList st).1,O Ai st.tok.at_])/\PInv w' rb s (qp s.data.toList st).2/\w.grownBy w' (V rb)/\0<=(qp s.data.toList st).1/\(qp s.data.toList st).1<=99999:=by
 have F:=cbi 1 h.rd;have H:=cbi 2 h.rd;have N:=cbi 3 h.rd;have B:=zO h.rd;have a:Y (qp s.data.toList st=(if (qR s.data.toList st (st.tok.k == 2)).broken then 0 else R.num st.tok.raw,qR s.data.toList st (st.tok.k == 2))):=rfl;have n:Y ((qR s.data.toList st (st.tok.k == 2)).broken=false->Z st.tok.raw<=5/\Lib.atoi st.tok.raw=V (R.num st.tok.raw)/\0<=R.num st.tok.raw/\R.num st.tok.raw<=99999):=fun hb=>by
  apply h.two
  apply Ng;intro C
  unfold qR at hb;rw[Aw (by intro c;exact C (by simpa using c.1))] at hb;simp at hb
 have v:=J h;clear h;go_in;go_wp2_with fail;refine(cZ (v.o.keep (Ac _ _ _)) (st.tok.k == 2)).mono ?_;rintro e u ⟨rfl,p,d⟩;have g:=ql d (by simp;omega);have q1:=cbi 1 g;have q2:=cbi 2 g;have y:=J g;have o:Y (w.grownBy u (V rb)):=zD (Ac _ _ _) d;have q:=J p;have i:=n.o;clear g d p;generalize qR s.data.toList st (st.tok.k == 2)=st' at*
 cases hb:st'.broken
 ·rw[hb] at a
  simp only[Ct,Gj] at a;obtain⟨Q,r,l,m⟩:=i hb;have x:Y (∀w,Am prog 236 #[I (R.str st.tok.raw)] w fun e w'=>e=Af (Cm #[O Ai (R.num st.tok.raw),.nilIface])/\∃t,w'=Na w 5 t):=fun w=>
   Tryz.strconv_Atoi (R.str st.tok.raw) _ (by rw[R.str_size];omega) (by rw[R.str_toList];exact r) w
  clear i hb r;go_wp2_with fail;refine(x.o _).mono ?_;rintro e E ⟨rfl,t,f⟩;have b:u.grownBy E S:=by rw[f];exact ww _ _ _
  have p1:=cbi 1 (zE y.o b (by simp));have z:Y _:=q.o.keep b;have j:Y _:=zD o.o (zT b _);clear f b;go_wp2
  go_region
  go_wp2
  go_ret2
  exact⟨by rw[a.o];rfl,by rw[a.o];exact z.o.keep (zV _),zD j.o (zT (zV _) _),by rw[a.o];exact l,by rw[a.o];exact m⟩
 ·rw[hb] at a
  simp only[Gq] at a;clear i hb;go_wp2
  go_region
  go_wp2
  go_ret2
  exact⟨by rw[a.o];rfl,by rw[a.o];exact q.o.keep (zV _),zD o.o (zT (zV _) _),by rw[a.o];exact Int.le_refl _,by rw[a.o];show(0:Ak)<=99999;decide⟩
def xH (st:P.St)(e a:Ak):P.St:=
 if st.err=0\/a<st.fat\/(a=st.fat/\e<st.err) then { st with err:=e,fat:=a } else st
def zh (st:P.St)(b:Ee)(e a:Ak):P.St:=if b then xH st e a else st
def zy (st:P.St)(have_ most:Ak):P.St:=zh st (decide (most<=have_)) 3 st.tok.at_
theorem PInv.noted {e a:Ak}(h:PInv w rb s st)
  (b:w'.heap[rb]?=V (Ae #[I s,O Ai st.tok.k,O Ai st.tok.at_,I (R.str st.tok.raw),Av st.broken,O Ai e,O Ai a] 204 (0,0))):PInv w' rb s { st with err:=e,fat:=a }:=
 ⟨b,h.len,h.tok⟩
abbrev Fa4 (a b):=Ae #[O Ai a,O Ai b] 202
theorem zi7 (h:PInv w rb s st)(b a:Ak):Am prog 324 #[Al (V ⟨rb,0,S⟩),O Ai b,O Ai a] w fun e w'=>e=Af (Cm #[])/\PInv w' rb s (xH st b a)/\w.grownBy w' (V rb):=by
 have t:=cbi 5 h.rd;have u:=cbi 6 h.rd;have v:=zm9 5 h.rd;have x:=zm9 6 h.rd;have l:=zO h.rd;have j:w.grownBy (w.alloc (Fa4 st.err st.fat)) S:=Ac _ _ _;have n:=J h;clear h;have d:Y (∀w',w'.heap[rb]?=V (Ae #[I s,O Ai st.tok.k,O Ai st.tok.at_,I (R.str st.tok.raw),Av st.broken,O Ai b,O Ai a] 204 (0,0))->PInv w' rb s { st with err:=b,fat:=a }):=fun w' hr=>n.o.noted hr
 by_cases g:st.err=0
 ·have i:Y (xH st b a={ st with err:=b,fat:=a }):=by show xH _ _ _=_;unfold xH;rw[Az (Ay g)]
  have q:(st.err == 0)=true:=by rw[g];rfl
  clear g;go_in;go_wp2
  go_end0
  have f:w.grownBy (((w.setCell ⟨rb,5,S⟩ (O Ai b)).setCell ⟨rb,6,S⟩ (O Ai a)).alloc (Fa4 st.err st.fat)) (V rb):=zD (zD (zF _ _ _ _) (zF _ _ _ _)) (Ac _ _ _);refine⟨rfl,?_,f⟩;rw[i.o]
  apply d.o
  rw[Vb _ _ _ (by simp[Bs];exact l)];exact zH (zH n.o.rd _) _
 ·have q:(st.err == 0)=false:=by rw[Ch];exact g
  by_cases o:a<st.fat
  ·have i:Y (xH st b a={ st with err:=b,fat:=a }):=by show xH _ _ _=_;unfold xH;rw[Az (Bf (Ay o))]
   clear g;go_in;go_wp2
   go_end0
   have f:w.grownBy (((w.setCell ⟨rb,5,S⟩ (O Ai b)).setCell ⟨rb,6,S⟩ (O Ai a)).alloc (Fa4 st.err st.fat)) (V rb):=zD (zD (zF _ _ _ _) (zF _ _ _ _)) (Ac _ _ _);refine⟨rfl,?_,f⟩;rw[i.o]
   apply d.o
   rw[Vb _ _ _ (by simp[Bs];exact l)];exact zH (zH n.o.rd _) _
  ·by_cases m:a=st.fat
   ·have r:(a == st.fat)=true:=by rw[m];simp
    by_cases p:b<st.err
    ·have i:Y (xH st b a={ st with err:=b,fat:=a }):=by show xH _ _ _=_;unfold xH;rw[Az (Bf (Bf ⟨m,p⟩))]
     clear g m;go_in;go_wp2
     go_end0
     have f:w.grownBy (((w.setCell ⟨rb,5,S⟩ (O Ai b)).setCell ⟨rb,6,S⟩ (O Ai a)).alloc (Fa4 st.err st.fat)) (V rb):=zD (zD (zF _ _ _ _) (zF _ _ _ _)) (Ac _ _ _);refine⟨rfl,?_,f⟩;rw[i.o]
     apply d.o
     rw[Vb _ _ _ (by simp[Bs];exact l)];exact zH (zH n.o.rd _) _
    ·have i:Y (xH st b a=st):=by show xH _ _ _=_;unfold xH;rw[Aw (by intro c;rcases c with c|c|c;exact g c;exact o c;exact p c.2)]
     clear g m;go_in;go_wp2
     go_end0
     exact⟨rfl,by rw[i.o];exact n.o.keep j,zT j _⟩
   ·have r:(a == st.fat)=false:=by rw[Ch];exact m
    have i:Y (xH st b a=st):=by show xH _ _ _=_;unfold xH;rw[Aw (by intro c;rcases c with c|c|c;exact g c;exact o c;exact m c.1)]
    clear g m;go_in;go_wp2
    go_end0
    exact⟨rfl,by rw[i.o];exact n.o.keep j,zT j _⟩
theorem yO (h:PInv w rb s st)(b:Ee)(d c:Ak):Am prog 265 #[Al (V ⟨rb,0,S⟩),Av b,O Ai d,O Ai c] w fun e w'=>e=Af (Cm #[])/\PInv w' rb s (zh st b d c)/\w.grownBy w' (V rb):=by
 have a:Y (zh st b d c=if b then xH st d c else st):=rfl;have g:=J h
 cases b
 ·simp only[Ct,Gj] at a
  go_in;go_wp2
  go_end0
  exact⟨rfl,by rw[a.o];exact g.o,zP _ _⟩
 ·simp only[Gq] at a
  go_in;go_wp2_with fail;refine(zi7 g.o _ _).mono ?_;rintro e j ⟨rfl,i,f⟩;go_wp2
  go_end0
  exact⟨rfl,by rw[a.o];exact i,f⟩
theorem vq (h:PInv w rb s st)(n m:Ak):Am prog 205 #[Al (V ⟨rb,0,S⟩),O Ai n,O Ai m] w fun e w'=>e=Af (Cm #[])/\PInv w' rb s (zy st n m)/\w.grownBy w' (V rb):=by
 have f:=cbi 2 h.rd;have c:Y (zy st n m=zh st (decide (m<=n)) 3 st.tok.at_):=rfl;have b:=J h;go_in;go_wp2_with fail;refine(yO b.o _ _ _).mono ?_;rintro e g ⟨rfl,d,a⟩;go_wp2
 go_end0
 exact⟨rfl,by rw[c.o];exact d,a⟩
theorem zJ {c:A Aj}(h:w.ownsRow B e a v n c)(d:w.grownBy w' (V b))(f:∀k,v.ownBlock=V k->k≠b):w'.ownsRow B e a v n c:=by
 refine h.kept d ?_
 grind
theorem zw {o:Obj}(h:w.heap[b]?=V o)(a:w.grownBy w' row)(c:∀k,row=V k->k≠b):w'.heap[b]?=V o:=by grind[zE]
theorem zK {b:A Aj}(h:w.ownsRow B e a v n b)(c:w.grownBy w' row)(d:∀k,v.ownBlock=V k->row≠V k):w'.ownsRow B e a v n b:=by
 refine h.kept c ?_
 cases hv:v.ownBlock <;> grind
def lenOf:Aj->Ad|X _ n _=>n|_=>0
theorem kM {b:A Aj}(h:w.ownsRow B e a v n b):lenOf v=n:=by
 rcases h.2 with ⟨rfl,rfl⟩|⟨g,cap,cur,rfl,_⟩ <;> rfl
variable {d:A Aj}
theorem zL (h:w.ownsRow B e b v n d):∃a c,v=X a n c:=by
 rcases h.2 with ⟨rfl,rfl⟩|⟨g,cap,cur,rfl,_⟩
 ·exact⟨_,_,rfl⟩
 grind
structure R.Mt where
 name:A Ab
 val:A Ab
 ask:Ee
def R.Mt.cells (m:R.Mt):A Aj:=[I (R.str m.name),I (R.str m.val),Av m.ask]
def xC (l:A R.Mt):A Aj:=(l.map R.Mt.cells).flatten
theorem k8 (l:A R.Mt)(m:R.Mt):xC (l++[m])=xC l++m.cells:=by simp[xC]
def qO:A Ab:=[104,101,97,100,101,114]
def jK (ts:A R.Tok)(st:R.St)(n:Ad):A Ab×R.St:=
 R.headerS ts (R.notS (R.needS ts st qO) (decide ((n:Ak)<3)) 3 (R.cur ts st).at_) []
def wj (ts:A R.Tok)(s:R.St):A Ab×R.St:=if R.isB s (R.cur ts s) [61] then R.valueS ts s else ([],s)
def yK (ts : A R.Tok) (st : R.St) (acc : A R.Mt) : R.St × A R.Mt :=
  (R.needS ts (wj ts (jK ts st (Z acc)).2).2 [59],
   acc ++ [⟨(jK ts st (Z acc)).1, (wj ts (jK ts st (Z acc)).2).1, R.isB (jK ts st (Z acc)).2 (R.cur ts (jK ts st (Z acc)).2) [61]⟩])
def R.mtLoop (ts:A R.Tok):Ad->R.St->A R.Mt->A R.Mt×R.St
 |0,st,acc=>(acc,st)
 |n+1,st,acc=>if R.isB st (R.cur ts st) qO then R.mtLoop ts n (yK ts st acc).1 (yK ts st acc).2 else (acc,st)
def R.matchesS (ts:A R.Tok)(st:R.St):A R.Mt×R.St:=R.mtLoop ts (Z ts+1) st []
theorem R.among_K (l:A (A Ab))(s:A Ab)(p:Ak)(st:R.St):(R.among l s p st).K=st.K:=by
 unfold R.among
 induction l generalizing st <;> grind[R.among,R.notS_K,R.St]
theorem fK (ts:A R.Tok)(st:R.St)(l:A (A Ab)):st.K<=(R.headerS ts st l).2.K:=by
 unfold R.headerS;simp only[R.among_K,R.notS_K];exact uN _ _ _
theorem R.needS_K (ts:A R.Tok)(st:R.St)(s:A Ab):st.K<=(R.needS ts st s).K:=uN _ _ _
theorem R.kindS_K (ts:A R.Tok)(st:R.St)(k:Ak):st.K<=(R.kindS ts st k).K:=uN _ _ _
theorem mU (ts:A R.Tok)(st:R.St):st.K<=(R.valueS ts st).2.K:=by grind[R.valueS,R.notS_K,Nat.le_trans,R.needS_K,R.kindS_K,R.Tok,R.St]
theorem fM (ts:A R.Tok)(st:R.St)(a:A R.Mt)(h:R.isB st (R.cur ts st) qO=true):st.K+1<=(yK ts st a).1.K:=by
 have b:=R.needS_yes h;have c:(R.needS ts st qO).K<=(jK ts st (Z a)).2.K:=by
  have:=fK ts (R.notS (R.needS ts st qO) (decide ((Z a:Ak)<3)) 3 (R.cur ts st).at_) []
  rwa[R.notS_K] at this
 have g:(R.needS ts st qO).K=st.K+1:=by rw[b]
 have d:(jK ts st (Z a)).2.K<=(wj ts (jK ts st (Z a)).2).2.K:=by
  unfold wj;split
  ·exact mU _ _
  ·exact Aq _
 have f:=R.needS_K ts (wj ts (jK ts st (Z a)).2).2 [59];unfold yK;simp only
 omega
theorem zcZ:(prog.info? 181).map (fun i=>(i.zero,i.size,i.bytes))=V (V (Fe #[I ⟨#[]⟩,I ⟨#[]⟩,Av false]),3,40):=by kernel_rfl
theorem oX {aa:Ad}{st:R.St}(h:RInv w rb g aa ts st H):Am prog 134 #[Al (V ⟨rb,0,S⟩)] w fun e w'=>∃v,e=Af v/\RInv w' rb g aa ts (R.matchesS ts st).2 H/\w.grownBy w' (V rb)/\w'.ownsRow w.heap.size 181 3 v (Z (R.matchesS ts st).1) (xC (R.matchesS ts st).1):=by
 obtain⟨i0,hi,a2,a3,a4⟩:=Ej zcZ;have HP:Y (R.matchesS ts st=R.mtLoop ts (Z ts+1) st []):=rfl;have H0:=J h;have bC:=zO h.rd;have bH:g<w.heap.size:=h.gl;generalize R.matchesS ts st=r at*;go_in;go_wp2_with fail
 go_loopw [3] (fun v wr=>∃(n:Ad) (a:A R.Mt) (s:R.St),Z a<=s.K/\s.K<Z ts/\(Z ts)<n+s.K/\Y (R.mtLoop ts n s a=r)/\Y (RInv wr rb g aa ts s H)/\Y (w.grownBy wr (V rb))/\Y (wr.ownsRow w.heap.size 181 3 v (Z a) (xC a))) (fun v _=>Z ts+1-lenOf v)
 case atStart=>exact⟨Z ts+1,[],st,Ax _,H0.o.lt,by omega,HP.o.symm,H0,zP _ _,Bk _ _ _ _⟩
 case round=>
  obtain⟨n,a,s,bE,bD,hn,HL,IR,HR,HO⟩:=hrel;have bI:=IR.o.ok.len;obtain⟨n,rfl⟩:∃m,n=m+1:=⟨n-1,by omega⟩;have z:=HL.o;rw[R.mtLoop] at z;have bz:Y (lenOf u3=Z a):=kM HO.o;obtain⟨ua,uc,rfl⟩:=zL HO.o;have bg:=J HO.o;go_wp2_with fail;refine(uC IR.o _).mono ?_;rintro e a5 ⟨rfl,ag⟩;have aT:=zT ag (V rb);have aK:Y _:=(IR.o).keep ag;have ar:Y (wr.grownBy a5 (V rb)):=aT;have am:=J (zD HR.o ar.o);have aB:Y _:=zQ bg.o ar.o (by omega);rw[show(⟨#[104,101,97,100,101,114]⟩:As).data.toList=qO from rfl]
  cases hgo:R.isB s (R.cur ts s) qO
  ·rw[Aw (by rw[hgo];simp)] at z
   go_wp2;go_ret;exact⟨_,rfl,by rw[<-z];exact aK.o,am.o,by rw[<-z];exact aB.o⟩
  ·rw[Az (by rw[hgo])] at z
   have bu:=fM ts s a hgo;have o:Y ((yK ts s a).1=R.needS ts (wj ts (jK ts s (Z a)).2).2 [59]):=rfl;have t:Y ((yK ts s a).2=a++[⟨(jK ts s (Z a)).1,(wj ts (jK ts s (Z a)).2).1,R.isB (jK ts s (Z a)).2 (R.cur ts (jK ts s (Z a)).2) [61]⟩]):=rfl;have bv:Z (yK ts s a).2=Z a+1:=by rw[t.o];simp
   generalize yK ts s a=rr at*;obtain⟨s5,aQ⟩:=rr;simp only at z bu o t bv;have aA:=J z;go_wp2_with fail;refine(qv aK.o _).mono ?_;rintro e a6 ⟨rfl,aE,aU⟩;have bn:=J aE;have au:Y (a5.grownBy a6 (V rb)):=aU;have a8:=J (zD am.o au.o);have bh:Y _:=zQ aB.o au.o (by omega);go_wp2_with fail;refine(j4 (bn.o.keep (Ac _ _ _)) _ _ _ _ _).mono ?_;rintro e a7 ⟨rfl,aF,aV⟩;have af:=J aF;have av:Y (a6.grownBy a7 (V rb)):=(zD (Ac _ _ _) aV);have a9:=J (zD a8.o av.o);have bi:Y _:=zQ bh.o av.o (by omega);go_wp2_with fail;refine(bB af.o (X S 0 0) [] (Bk _ _ _ _) (by simp) (by simp[Ix])).mono ?_;rintro e b ⟨rfl,aG,aW⟩;have aL:=J aG;have bA:=zO aL.o.rd;have aw:Y (a7.grownBy b (V rb)):=aW;have an:=J (zD a9.o aw.o);have bV:=an.o.size;have aC:Y _:=zQ bi.o aw.o (by omega);have JA:Y (RInv b rb g aa ts (jK ts s (Z a)).2 H):=aL;have bf:Y (Z (jK ts s (Z a)).1<=3000):=by show _<=_;unfold jK R.headerS;simp only[kx];exact af.o.ok.strs _ _ af.o.cur
   rw[show(R.headerS ts (R.notS (R.needS ts s (⟨#[104,101,97,100,101,114]⟩:As).data.toList) (decide ((Z a:Ak)<3)) 3 ((R.cur ts s).at_:Ak)) []).1=(jK ts s (Z a)).1 from rfl];generalize jK ts s (Z a)=pa at*;obtain⟨nm,s3⟩:=pa;simp only at JA o t bf ⊢;have aj:∀k,(X ua (Z a) uc:Aj).ownBlock=V k->k<b.heap.size:=fun k hk=>(An aC.o k hk).2
   go_wp2_with fail;refine(uC (JA.o.keep (Ac _ _ _)) _).mono ?_;rintro e c ⟨rfl,ah⟩;have ai:=zT ah (V rb);have aM:Y _:=((JA.o.keep (Ac _ _ _))).keep ah;have ax:Y (b.grownBy c (V rb)):=(zD (Ac _ _ _) ai);have ab:=J (zD an.o ax.o);have bW:=ab.o.size;have aD:Y _:=zQ aC.o ax.o (by omega);have j:Y (c.heap[b.heap.size]?=V (Ae #[I (R.str nm),I ⟨#[]⟩,Av false] 181)):=ql ai (by simp;omega);rw[show(⟨#[61]⟩:As).data.toList=[61] from rfl];have HB:Y (wj ts s3=if R.isB s3 (R.cur ts s3) [61] then R.valueS ts s3 else ([],s3)):=rfl;generalize wj ts s3=pb at*;obtain⟨vl,s4⟩:=pb;simp only at o t;have bJ:=cbi 0 j.o;have bK:=cbi 1 j.o;have bL:=cbi 2 j.o;have bM:=zm9 2 j.o
   cases hask:R.isB s3 (R.cur ts s3) [61]
   ·rw[Aw (by rw[hask];simp)] at HB
    obtain⟨a1,a0⟩:=Nn HB.o;have HV:Y (vl=[]):=a1;have ae:Y (s4=s3):=a0;rw[ae.o] at o;have bo:Y _:=aM.o.other (zF c b.heap.size 2 (Av false)) (by omega) (by omega);have ao:=J (ze ab.o (zF c b.heap.size 2 (Av false)) (by omega));have B:Y _:=zJ aD.o (zF c b.heap.size 2 (Av false)) (fun k hk=>by have:=aj k hk;omega);have bR:c.heap.size<=(Bs c ⟨b.heap.size,2,S⟩ (Av false)).heap.size:=by simp[Bs]
    have bT:(Bs c ⟨b.heap.size,2,S⟩ (Av false)).heap.size<=c.heap.size:=by simp[Bs]
    go_wp2_with (at_builtin;refine Ei _ rfl _ _ 122 rfl (w.heap.size) 181 i0 _ 3 40 underlying122 hi a2 a3 a4 rfl (by decide) _ _ _ rfl (Ao B.o _) ⟨c.heap.size,0,S⟩ 1 1 [I (R.str nm),I (⟨#[]⟩),Av false] rfl rfl ?c1 ?c2 (by decide) ?c3 ?c4 ?c5 (c.heap.size+1) (by simp[Bs]) ?_)
    case c1=>exact zZ _ #[_,_,_] _ _ (by simp[Bs])
    case c2=>intro u hu;simp at hu;rcases hu with rfl|rfl|rfl <;> rfl
    case c3=>unfold Bh;omega
    case c4=>omega
    case c5=>have:=ao.o.size;simp;omega
    intro aR N ak x f bF _;have bj:Y (ak.ownsRow w.heap.size 181 3 (X (V ⟨aR,0,S⟩) (Z a+1) N) (Z (a++[(⟨nm,vl,false⟩:R.Mt)])) (xC (a++[(⟨nm,vl,false⟩:R.Mt)]))):=by rw[k8,Ah];rw[HV.o];exact x
    have p:∀k,(X ua (Z a) uc:Aj).ownBlock=V k->w.heap.size<=k:=fun k hk=>(An B.o k hk).1
    have bp:Y _:=(bo.o.keep (Ac _ _ _)).away f (fun k hk=>by have h1:=p k hk;exact⟨by omega,by omega⟩);have ba:Y (w.grownBy ak (V rb)):=qI (zD ao.o (Ac _ _ _)) f (fun k hk=>by have h1:=p k hk;omega);go_wp2_with fail;refine(qv bp.o _).mono ?_;rintro e bw ⟨rfl,aH,aX⟩;have aN:=J aH;have ay:Y (ak.grownBy bw (V rb)):=aX;have bb:=J (zD ba.o ay.o);have C:Y _:=zQ bj.o ay.o (by omega);go_wp2
    go_roundw
    case rel=>exact⟨n,aQ,s5,by omega,by rw[o.o];exact aN.o.lt,by omega,aA,by rw[o.o];exact aN.o,bb,by rw[t.o,hask];exact C.o⟩
    case measure=>show _<_;rw[show lenOf (X (V ⟨aR,0,S⟩) (Z a+1) N)=Z a+1 from by rw[kM C.o];simp];simp[lenOf];omega
   ·rw[Az (by rw[hask])] at HB
    have HV:Y ((R.valueS ts s3).1=vl):=by rw[<-HB.o];rfl
    have ae:Y ((R.valueS ts s3).2=s4):=by rw[<-HB.o];rfl
    go_wp2_with fail;have bq:Y _:=aM.o.other (zF c b.heap.size 2 (Av true)) (by omega) (by omega);have bc:=J (ze ab.o (zF c b.heap.size 2 (Av true)) (by omega));have bk:Y _:=zJ aD.o (zF c b.heap.size 2 (Av true)) (fun k hk=>by have:=aj k hk;omega);have bt:Y ((Bs c ⟨b.heap.size,2,S⟩ (Av true)).heap[b.heap.size]?=V (Ae #[I (R.str nm),I ⟨#[]⟩,Av true] 181)):=zH j.o (Av true);generalize(Bs c ⟨b.heap.size,2,S⟩ (Av true))=wLyy1 at*;refine(sW bq.o).mono ?_;rintro e d ⟨rfl,aI,aY⟩;have aO:=J aI;have ad:Y (wLyy1.grownBy d (V rb)):=aY;have ap:=J (zD bc.o ad.o);have bX:=ap.o.size;have bl:Y _:=zQ bk.o ad.o (by omega);have l:=J (zE bt.o ad.o (by simp;omega));rw[ae.o] at aO;rw[HV.o];have bN:=cbi 0 l.o;have bO:=cbi 1 l.o;have bQ:=zm9 1 l.o;have bP:=cbi 2 l.o;have br:Y _:=aO.o.other (zF d b.heap.size 1 (I (R.str vl))) (by omega) (by omega);have aq:=J (ze ap.o (zF d b.heap.size 1 (I (R.str vl))) (by omega));have E:Y _:=zJ bl.o (zF d b.heap.size 1 (I (R.str vl))) (fun k hk=>by have:=aj k hk;omega);have bS:d.heap.size<=(Bs d ⟨b.heap.size,1,S⟩ (I (R.str vl))).heap.size:=by simp[Bs]
    have bU:(Bs d ⟨b.heap.size,1,S⟩ (I (R.str vl))).heap.size<=d.heap.size:=by simp[Bs]
    go_wp2_with (at_builtin;refine Ei _ rfl _ _ 122 rfl (w.heap.size) 181 i0 _ 3 40 underlying122 hi a2 a3 a4 rfl (by decide) _ _ _ rfl (Ao E.o _) ⟨d.heap.size,0,S⟩ 1 1 [I (R.str nm),I (R.str vl),Av true] rfl rfl ?c1 ?c2 (by decide) ?c3 ?c4 ?c5 (d.heap.size+1) (by simp[Bs]) ?_)
    case c1=>exact zZ _ #[_,_,_] _ _ (by simp[Bs])
    case c2=>intro u hu;simp at hu;rcases hu with rfl|rfl|rfl <;> rfl
    case c3=>unfold Bh;omega
    case c4=>omega
    case c5=>have:=aq.o.size;simp;omega
    intro aS Q al y i bG _;have bm:Y (al.ownsRow w.heap.size 181 3 (X (V ⟨aS,0,S⟩) (Z a+1) Q) (Z (a++[(⟨nm,vl,true⟩:R.Mt)])) (xC (a++[(⟨nm,vl,true⟩:R.Mt)]))):=by rw[k8,Ah];exact y
    have q:∀k,(X ua (Z a) uc:Aj).ownBlock=V k->w.heap.size<=k:=fun k hk=>(An E.o k hk).1
    have bs:Y _:=(br.o.keep (Ac _ _ _)).away i (fun k hk=>by have h1:=q k hk;exact⟨by omega,by omega⟩);have bd:Y (w.grownBy al (V rb)):=qI (zD aq.o (Ac _ _ _)) i (fun k hk=>by have h1:=q k hk;omega);go_wp2_with fail;refine(qv bs.o _).mono ?_;rintro e bx ⟨rfl,aJ,aZ⟩;have aP:=J aJ;have az:Y (al.grownBy bx (V rb)):=aZ;have be:=J (zD bd.o az.o);have F:Y _:=zQ bm.o az.o (by omega);go_wp2
    go_roundw
    case rel=>exact⟨n,aQ,s5,by omega,by rw[o.o];exact aP.o.lt,by omega,aA,by rw[o.o];exact aP.o,be,by rw[t.o,hask];exact F.o⟩
    case measure=>show _<_;rw[show lenOf (X (V ⟨aS,0,S⟩) (Z a+1) Q)=Z a+1 from by rw[kM F.o];simp];simp[lenOf];omega
structure Kept2 (w w':Ag) (a b:Ad):Prop where
 os:w'.os=w.os
 tape:w'.tape=w.tape
 output:w'.output=w.output
 size:w.heap.size<=w'.heap.size
 block:∀k,k<w.heap.size->k≠a->k≠b->w'.heap[k]?=w.heap[k]?
theorem Kept2.refl (w:Ag)(a b:Ad):Kept2 w w a b:=by grind[Kept2]
theorem Kept2.step (h:Kept2 w x a b)(g:x.grownBy y (V a)):Kept2 w y a b:=
 ⟨g.os.trans h.os,g.tape.trans h.tape,g.output.trans h.output,Bi h.size g.size,fun k hk ha hb=>(g.block k (Eh hk h.size) (by simpa using ha)).trans (h.block k hk ha hb)⟩
theorem Kept2.own (h:Kept2 w x a b)(g:x.grownBy y (V b)):Kept2 w y a b:=
 ⟨g.os.trans h.os,g.tape.trans h.tape,g.output.trans h.output,Bi h.size g.size,fun k hk ha hb=>(g.block k (Eh hk h.size) (by simpa using hb)).trans (h.block k hk ha hb)⟩
theorem Kept2.far (h:Kept2 w x a b)(g:x.grownBy y row)(c:∀k,row=V k->w.heap.size<=k):Kept2 w y a b:=
 ⟨g.os.trans h.os,g.tape.trans h.tape,g.output.trans h.output,Bi h.size g.size,fun k hk ha hb=>(g.block k (Eh hk h.size) (fun e=>by have:=c k e.symm;omega)).trans (h.block k hk ha hb)⟩
theorem Kept2.keep {k:Ad}{o:Obj}(h:Kept2 w w' a b)(f:w.heap[k]?=V o)(c:k≠a)(d:k≠b):w'.heap[k]?=V o:=by grind[Kept2]
theorem qT (h:w.ownsRow B e a v n d):∀k,v.ownBlock=V k->∃c,w.heap[k]?=V (Ae c e (0,0)):=by
 intro k b;rcases h.2 with ⟨rfl,_⟩|⟨g,cap,cur,rfl,_,hg,_⟩
 ·simp[Ix] at b
 ·simp[Ix] at b;subst b;exact⟨cur,hg⟩
theorem qB {d:Ad}{b:Cs}{s i:Ad}{c:Aj}{j a:A Aj}(h:w.ownsRow B e s v n j)(l:w.ownsRow d b i c g a)(f:e≠b):∀k,c.ownBlock=V k->v.ownBlock≠V k:=by grind[qT,Option.some.injEq]
theorem zI {a:Fh Aj}{t:Cs}{f:Ad×Ad}{s:Ad}(h:w.heap[b]?=V (Ae a t f))(g:w.ownsRow B e s v n d)(c:t≠e):∀k,v.ownBlock=V k->k≠b:=by grind[qT,Option.some.injEq]
theorem iV {d b:Aj}{H c:Ad}(f:∀k,d.ownBlock=V k->b.ownBlock≠V k)(g:d.ownBlock=V a\/a=H)(i:∀k,b.ownBlock=V k->k<H):∀k,(X (V ⟨a,0,S⟩) n c).ownBlock=V k->b.ownBlock≠V k:=by
 intro k h j;simp[Ix] at h
 grind
theorem rP {b d:Aj}{H c:Ad}(f:∀k,b.ownBlock=V k->d.ownBlock≠V k)(g:d.ownBlock=V a\/a=H)(i:∀k,b.ownBlock=V k->k<H):∀k,b.ownBlock=V k->(X (V ⟨a,0,S⟩) n c).ownBlock≠V k:=by
 intro k j h;simp[Ix] at h
 grind
theorem zo {s:Ad}{b:A Aj}(h:w.ownsRow B e s v n b)(c:a<=B):w.ownsRow a e s v n b:=by
 refine⟨h.1,?_⟩;rcases h.2 with h2|⟨g,cap,cur,rfl,h3,r⟩
 ·exact Ay h2
 ·exact Bf ⟨g,cap,cur,rfl,by omega,r⟩
def zi (l:A (A Ab×A Ab)):A Aj:=(l.map fun t=>[I (R.str t.1),I (R.str t.2)]).flatten
theorem yW (l:A (A Ab×A Ab))(t:A Ab×A Ab):zi (l++[t])=zi l++[I (R.str t.1),I (R.str t.2)]:=by simp[zi]
theorem xl (l:A (A Ab))(t:A Ab):zY (l++[t])=zY l++[I (R.str t)]:=by simp[zY]
def xX:A Ab:=[115,101,116]
def qy:A Ab:=[100,114,111,112]
def uO (ts:A R.Tok)(st:R.St)(n:Ad)(am:A (A Ab)):A Ab×R.St:=
 R.headerS ts (R.notS (R.needS ts st xX) (decide ((n:Ak)<3)) 3 (R.cur ts st).at_) am
def yL (ts:A R.Tok)(st:R.St)(acc:A (A Ab×A Ab)):R.St×A (A Ab×A Ab):=
 (R.needS ts (R.valueS ts (uO ts st (Z acc) (acc.map Bq)).2).2 [59],acc++[((uO ts st (Z acc) (acc.map Bq)).1,(R.valueS ts (uO ts st (Z acc) (acc.map Bq)).2).1)])
def R.stLoop (ts:A R.Tok):Ad->R.St->A (A Ab×A Ab)->A (A Ab×A Ab)×R.St
 |0,st,acc=>(acc,st)
 |n+1,st,acc=>if R.isB st (R.cur ts st) xX then R.stLoop ts n (yL ts st acc).1 (yL ts st acc).2 else (acc,st)
def fI (ts:A R.Tok)(st:R.St)(n:Ad)(am:A (A Ab)):A Ab×R.St:=
 R.headerS ts (R.notS (R.needS ts st qy) (decide ((n:Ak)<3)) 3 (R.cur ts st).at_) am
def yJ (ts:A R.Tok)(st:R.St)(sets acc:A (A Ab)):R.St×A (A Ab):=
 (R.needS ts (fI ts st (Z acc) (sets++acc)).2 [59],acc++[(fI ts st (Z acc) (sets++acc)).1])
def R.dpLoop (ts:A R.Tok)(sets:A (A Ab)):Ad->R.St->A (A Ab)->A (A Ab)×R.St
 |0,st,acc=>(acc,st)
 |n+1,st,acc=>if R.isB st (R.cur ts st) qy then R.dpLoop ts sets n (yJ ts st sets acc).1 (yJ ts st sets acc).2 else (acc,st)
def R.editsS (ts : A R.Tok) (st : R.St) : (A (A Ab × A Ab) × A (A Ab)) × R.St :=
  (((R.stLoop ts (Z ts + 1) st []).1, (R.dpLoop ts ((R.stLoop ts (Z ts + 1) st []).1.map Bq) (Z ts + 1) (R.stLoop ts (Z ts + 1) st []).2 []).1),
   (R.dpLoop ts ((R.stLoop ts (Z ts + 1) st []).1.map Bq) (Z ts + 1) (R.stLoop ts (Z ts + 1) st []).2 []).2)
theorem fN (ts:A R.Tok)(st:R.St)(a:A (A Ab×A Ab))(h:R.isB st (R.cur ts st) xX=true):st.K+1<=(yL ts st a).1.K:=by grind[R.needS_yes,R.needS,xX,uO,fK,R.notS,R.cur,R.notS_K,mU,R.needS_K,R.valueS,yL,R.Tok,R.St,R.isB]
theorem fJ (ts:A R.Tok)(st:R.St)(a b:A (A Ab))(h:R.isB st (R.cur ts st) qy=true):st.K+1<=(yJ ts st a b).1.K:=by grind[R.needS_yes,R.needS,qy,fI,fK,R.notS,R.cur,R.notS_K,R.needS_K,yJ,R.Tok,R.St,R.isB]
theorem aM:(prog.info? 185).map (fun i=>(i.zero,i.size,i.bytes))=V (V (Fe #[I ⟨#[]⟩,I ⟨#[]⟩]),2,32):=by kernel_rfl
theorem fW:(prog.info? 9).map (fun i=>(i.zero,i.size,i.bytes))=V (V (I ⟨#[]⟩),1,16):=by kernel_rfl
theorem sU {ad:Ad}{st:R.St}(h:RInv w rb g ad ts st H)(o:Ad)(c0 c1 c2 c3 c4 c5:Aj)
  (hu:w.heap[o]?=V (Ae #[c0,c1,c2,c3,c4,c5,X S 0 0,X S 0 0] 126 (0,0))) (dB:o≠rb) (dC:o≠g):Am prog 136 #[Al (V ⟨rb,0,S⟩),Al (V ⟨o,0,S⟩)] w fun e w'=>e=Af (Cm #[])/\RInv w' rb g ad ts (R.editsS ts st).2 H/\Kept2 w w' rb o/\
   ∃vS vD,w'.heap[o]?=V (Ae #[c0,c1,c2,c3,c4,c5,vS,vD] 126 (0,0))/\w'.ownsRow w.heap.size 185 2 vS (Z (R.editsS ts st).1.1) (zi (R.editsS ts st).1.1)/\w'.ownsRow w.heap.size 9 1 vD (Z (R.editsS ts st).1.2) (zY (R.editsS ts st).1.2):=by
 obtain⟨i0,hi,dk,dl,dm⟩:=Ej aM;obtain⟨i1,hj,aU,aV,aW⟩:=Ej fW;have HP:Y (R.editsS ts st=(((R.stLoop ts (Z ts+1) st []).1,(R.dpLoop ts ((R.stLoop ts (Z ts+1) st []).1.map Bq) (Z ts+1) (R.stLoop ts (Z ts+1) st []).2 []).1),
 (R.dpLoop ts ((R.stLoop ts (Z ts+1) st []).1.map Bq) (Z ts+1) (R.stLoop ts (Z ts+1) st []).2 []).2)):=rfl
 have H0:=J h;have cI:=J hu;have ds:=zO h.rd;have dy:g<w.heap.size:=h.gl;generalize R.editsS ts st=r at*;generalize hq:R.stLoop ts (Z ts+1) st []=q at*;have HQ:=J hq;go_in;go_wp2_with fail
 go_loopw [4,5] (fun v iv wr=>∃(n:Ad) (a:A (A Ab×A Ab)) (s:R.St) (vS:Aj),iv=O Ai (Z a)/\(Z a)<=s.K/\s.K<Z ts/\(Z ts)<n+s.K/\Y (R.stLoop ts n s a=q)/\Y (RInv wr rb g ad ts s H)/\Y (Kept2 w wr rb o)/\Y (wr.heap[o]?=V (Ae #[c0,c1,c2,c3,c4,c5,vS,X S 0 0] 126 (0,0)))/\
   Y (wr.ownsRow w.heap.size 185 2 vS (Z a) (zi a))/\Y (wr.ownsRow w.heap.size 9 1 v (Z a) (zY (a.map Bq)))) (fun _ iv _=>Z ts+1-(intOf iv).toNat)
 case atStart=>exact⟨Z ts+1,[],st,_,rfl,Ax _,H0.o.lt,by omega,HQ.o,H0,Kept2.refl _ _ _,cI,Bk _ _ _ _,Bk _ _ _ _⟩
 case round=>
  obtain⟨n,a,s,vS,rfl,du,dh,hn,HL,IR,HR,HU,HS,HA⟩:=hrel;have dA:=IR.o.ok.len;obtain⟨n,rfl⟩:∃m,n=m+1:=⟨n-1,by omega⟩;have x:=HL.o;rw[R.stLoop] at x;have cX:=J HU.o;have cC:=J HS.o;have cg:=J HA.o;go_wp2_with fail;refine(uC IR.o _).mono ?_;rintro e a0 ⟨rfl,aS⟩;have bL:=zT aS (V rb);have bx:Y _:=(IR.o).keep aS;have aq:Y (wr.grownBy a0 (V rb)):=bL;have a3:Y (Kept2 w a0 rb o):=HR.o.step aq.o;have bD:=J (zE cX.o aq.o (by simp;omega));have bj:Y _:=zQ cC.o aq.o (by omega);have a8:Y _:=zQ cg.o aq.o (by omega);rw[show(⟨#[115,101,116]⟩:As).data.toList=xX from rfl]
  cases hgo:R.isB s (R.cur ts s) xX
  ·rw[Aw (by rw[hgo];simp)] at x
   have ct:Y (q.1=a):=by rw[<-x];rfl
   have cu:Y (q.2=s):=by rw[<-x];rfl
   rw[ct.o,cu.o] at HP;generalize bV:R.dpLoop ts (a.map Bq) (Z ts+1) s []=q2 at*;have cv:=J bV;go_wp2_with fail
   go_loopw [4,9] (fun v iv wx=>∃(n2:Ad) (b:A (A Ab)) (s2:R.St) (vD:Aj),iv=O Ai (Z b)/\(Z b)<=s2.K/\s2.K<Z ts/\(Z ts)<n2+s2.K/\Y (R.dpLoop ts (a.map Bq) n2 s2 b=q2)/\Y (RInv wx rb g ad ts s2 H)/\Y (Kept2 w wx rb o)/\Y (wx.heap[o]?=V (Ae #[c0,c1,c2,c3,c4,c5,vS,vD] 126 (0,0)))/\
     Y (wx.ownsRow w.heap.size 185 2 vS (Z a) (zi a))/\Y (wx.ownsRow w.heap.size 9 1 v (Z a+Z b) (zY (a.map Bq++b)))/\Y (wx.ownsRow w.heap.size 9 1 vD (Z b) (zY b))/\Y (∀k,v.ownBlock=V k->vD.ownBlock≠V k)) (fun _ iv _=>Z ts+1-(intOf iv).toNat)
   case atStart=>exact⟨Z ts+1,[],s,_,rfl,Ax _,dh,by omega,cv.o,bx,a3,bD,bj,by rw[Cv];exact a8.o,Bk _ _ _ _,by intro k _ f;simp[Ix] at f⟩
   case round=>
    obtain⟨n2,b,s2,vD,rfl,dv,dt,dz,be,IX,HX,cJ,cw,ca,cl,a4⟩:=hrel;obtain⟨n2,rfl⟩:∃m,n2=m+1:=⟨n2-1,by omega⟩;have x:=be.o;rw[R.dpLoop] at x;have dd:=J cJ.o;have cx:=J cw.o;have cb:=J ca.o;have cm:=J cl.o;go_wp2_with fail;refine(uC IX.o _).mono ?_;rintro e aY ⟨rfl,aR⟩;have bG:=zT aR (V rb);have bv:Y _:=(IX.o).keep aR;have ah:Y (wr.grownBy aY (V rb)):=bG;have a2:Y (Kept2 w aY rb o):=HX.o.step ah.o;have bA:=J (zE dd.o ah.o (by simp;omega));have bf:Y _:=zQ cx.o ah.o (by omega);have cc:Y _:=zQ cb.o ah.o (by omega);have bb:Y _:=zQ cm.o ah.o (by omega);rw[show(⟨#[100,114,111,112]⟩:As).data.toList=qy from rfl]
    cases hgo2:R.isB s2 (R.cur ts s2) qy
    ·rw[Aw (by rw[hgo2];simp)] at x
     have cr:Y (q2.1=b):=by rw[<-x];rfl
     have cs:Y (q2.2=s2):=by rw[<-x];rfl
     go_wp2
     go_end0
     exact⟨rfl,by rw[HP.o,cs.o];exact bv.o,a2.o,_,_,bA.o,by rw[HP.o];exact bf.o,by rw[HP.o,cr.o];exact bb.o⟩
    ·rw[Az (by rw[hgo2])] at x
     have aT:=fJ ts s2 (a.map Bq) b hgo2;have aa:Y ((yJ ts s2 (a.map Bq) b).1=R.needS ts (fI ts s2 (Z b) (a.map Bq++b)).2 [59]):=rfl;have y:Y ((yJ ts s2 (a.map Bq) b).2=b++[(fI ts s2 (Z b) (a.map Bq++b)).1]):=rfl;have ab:Z (yJ ts s2 (a.map Bq) b).2=Z b+1:=by rw[y.o];simp
     generalize yJ ts s2 (a.map Bq) b=rr at*;obtain⟨s5,aQ⟩:=rr;simp only at x aT aa y ab;have aL:=J x;go_wp2_with fail;refine(qv bv.o _).mono ?_;rintro e aZ ⟨rfl,bm,bH⟩;have cK:=J bm;have ai:Y (aY.grownBy aZ (V rb)):=bH;have bY:Y (Kept2 w aZ rb o):=a2.o.step ai.o;have cY:=J (zE bA.o ai.o (by simp;omega));have cy:Y _:=zQ bf.o ai.o (by omega);have cd:Y _:=zQ cc.o ai.o (by omega);have cn:Y _:=zQ bb.o ai.o (by omega);go_wp2_with fail;refine(j4 (cK.o.keep (Ac _ _ _)) _ _ _ _ _).mono ?_;rintro e aC ⟨rfl,bn,bI⟩;have cL:=J bn;have aj:Y (aZ.grownBy aC (V rb)):=(zD (Ac _ _ _) bI);have bZ:Y (Kept2 w aC rb o):=bY.o.step aj.o;have cZ:=J (zE cY.o aj.o (by simp;omega));have cz:Y _:=zQ cy.o aj.o (by omega);have aJ:Y _:=zQ cd.o aj.o (by omega);have co:Y _:=zQ cn.o aj.o (by omega);have aX:Z (a.map Bq++b)<=10000:=by rw[Ah,Bv];omega
     have aN:Y (StrRow aC u4 (a.map Bq++b)):=by show Ib _ _ _ _ _ _ _;rw[Ah,Bv];exact zo aJ.o (Ax _)
     go_wp2_with fail;refine(bB cL.o u4 (a.map Bq++b) aN.o aX (fun c=>by have:=(An aJ.o rb c).1;omega)).mono ?_;rintro e ae ⟨rfl,bo,bJ⟩;have cM:=J bo;have ak:Y (aC.grownBy ae (V rb)):=bJ;have aF:Y (Kept2 w ae rb o):=bZ.o.step ak.o;have dJ:=aF.o.size;have bC:=J (zE cZ.o ak.o (by simp;omega));have bg:Y _:=zQ cz.o ak.o (by omega);have N:Y _:=zQ aJ.o ak.o (by omega);have bc:Y _:=zQ co.o ak.o (by omega);have JA:Y (RInv ae rb g ad ts (fI ts s2 (Z b) (a.map Bq++b)).2 H):=cM;rw[show(R.headerS ts (R.notS (R.needS ts s2 (⟨#[100,114,111,112]⟩:As).data.toList) (decide ((Z b:Ak)<3)) 3 ((R.cur ts s2).at_:Ak)) (a.map Bq++b)).1=(fI ts s2 (Z b) (a.map Bq++b)).1 from rfl];generalize fI ts s2 (Z b) (a.map Bq++b)=pa at*;obtain⟨nm,s3⟩:=pa;simp only at JA aa y ⊢;go_wp2_with (at_builtin;refine Ei _ rfl _ _ 22 rfl (w.heap.size) 9 i1 _ 1 16 underlying22 hj aU aV aW rfl (by decide) _ _ _ rfl (Ao N.o _) ⟨ae.heap.size,0,S⟩ 1 1 [I (R.str nm)] rfl rfl ?c1 ?c2 (by decide) ?c3 ?c4 ?c5 (ae.heap.size+1) (by simp) ?_)
     case c1=>exact zZ _ #[_] _ _ (by simp)
     case c2=>intro u hu;simp at hu;subst hu;rfl
     case c3=>unfold Bh;omega
     case c4=>omega
     case c5=>have:=aF.o.size;simp;omega
     intro df bF af bR j di _;have a6:Y (af.ownsRow w.heap.size 9 1 (X (V ⟨df,0,S⟩) (Z a+Z b+1) bF) (Z a+Z b+1) (zY (a.map Bq++b++[nm]))):=by rw[xl];exact bR
     have ay:∀k,(u4:Aj).ownBlock=V k->w.heap.size<=k:=fun k f=>(An N.o k f).1
     have dn:∀k,(u4:Aj).ownBlock=V k->k<ae.heap.size:=fun k f=>(An N.o k f).2
     have cN:Y _:=(JA.o.keep (Ac _ _ _)).away j (fun k f=>by have h1:=ay k f;exact⟨by omega,by omega⟩);have aG:Y (Kept2 w af rb o):=(aF.o.step (Ac _ _ _)).far j (fun k f=>by have h1:=ay k f;omega);have dK:=aG.o.size;have aO:Y (af.heap[o]?=V (Ae #[c0,c1,c2,c3,c4,c5,vS,vD] 126 (0,0))):=zw (zE bC.o (Ac _ _ S) (by simp)) j (fun k f=>by have h1:=ay k f;have h2:=dn k f;exact zI bC.o N.o (by decide) k f);have bh:Y _:=zK (Ao bg.o _) j (qB N.o bg.o (by decide));have am:Y _:=zK (Ao bc.o _) j (fun k f c=>a4.o k c f);have a5:Y _:=iV (n:=Z a+Z b+1) (c:=bF) a4.o di (fun k f=>by have:=(An bc.o k f).2;omega);have dE:=cbi 7 aO.o;go_wp2_with (at_builtin;refine Ei _ rfl _ _ 22 rfl (w.heap.size) 9 i1 _ 1 16 underlying22 hj aU aV aW rfl (by decide) _ _ _ rfl (Ao am.o _) ⟨af.heap.size,0,S⟩ 1 1 [I (R.str nm)] rfl rfl ?c1 ?c2 (by decide) ?c3 ?c4 ?c5 (af.heap.size+1) (by simp) ?_)
     case c1=>exact zZ _ #[_] _ _ (by simp)
     case c2=>intro u hu;simp at hu;subst hu;rfl
     case c3=>unfold Bh;omega
     case c4=>omega
     case c5=>have:=aG.o.size;simp;omega
     intro z d B bS l dj _;have bd:Y (B.ownsRow w.heap.size 9 1 (X (V ⟨z,0,S⟩) (Z b+1) d) (Z (b++[nm])) (zY (b++[nm]))):=by rw[xl,Ah];exact bS
     have az:∀k,(vD:Aj).ownBlock=V k->w.heap.size<=k:=fun k f=>(An am.o k f).1
     have dp:∀k,(vD:Aj).ownBlock=V k->k<af.heap.size:=fun k f=>(An am.o k f).2
     have cO:Y _:=(cN.o.keep (Ac _ _ _)).away l (fun k f=>by have h1:=az k f;exact⟨by omega,by omega⟩);have b0:Y (Kept2 w B rb o):=(aG.o.step (Ac _ _ _)).far l (fun k f=>by have h1:=az k f;omega);have C:Y (B.heap[o]?=V (Ae #[c0,c1,c2,c3,c4,c5,vS,vD] 126 (0,0))):=zw (zE aO.o (Ac _ _ S) (by simp)) l (fun k f=>by have h1:=az k f;have h2:=dp k f;exact zI aO.o am.o (by decide) k f);have bi:Y _:=zK (Ao bh.o _) l (qB am.o bh.o (by decide));have a7:Y _:=zK (Ao a6.o _) l (a5.o);have b9:Y _:=rP (n:=Z b+1) (c:=d) a5.o dj (fun k f=>by have:=(An a6.o k f).2;omega);have dG:=cbi 7 C.o;have dI:=zm9 7 C.o;go_wp2_with fail;have cP:Y _:=cO.o.other (zF B o 7 (X (V ⟨z,0,S⟩) (Z b+1) d)) (by omega) (by omega);have b1:Y (Kept2 w (Bs B ⟨o,7,S⟩ (X (V ⟨z,0,S⟩) (Z b+1) d)) rb o):=b0.o.own (zF B o 7 (X (V ⟨z,0,S⟩) (Z b+1) d));have c6:Y ((Bs B ⟨o,7,S⟩ (X (V ⟨z,0,S⟩) (Z b+1) d)).heap[o]?=V (Ae #[c0,c1,c2,c3,c4,c5,vS,X (V ⟨z,0,S⟩) (Z b+1) d] 126 (0,0))):=zH C.o (X (V ⟨z,0,S⟩) (Z b+1) d);have cA:Y _:=zJ bi.o (zF B o 7 (X (V ⟨z,0,S⟩) (Z b+1) d)) (zI C.o bi.o (by decide));have ce:Y _:=zJ a7.o (zF B o 7 (X (V ⟨z,0,S⟩) (Z b+1) d)) (zI C.o a7.o (by decide));have cp:Y _:=zJ bd.o (zF B o 7 (X (V ⟨z,0,S⟩) (Z b+1) d)) (zI C.o bd.o (by decide));generalize(Bs B ⟨o,7,S⟩ (X (V ⟨z,0,S⟩) (Z b+1) d))=wDy6 at*;refine(qv cP.o _).mono ?_;rintro e bW ⟨rfl,bp,bK⟩;have bw:=J bp;have al:Y (wDy6.grownBy bW (V rb)):=bK;have b2:Y (Kept2 w bW rb o):=b1.o.step al.o;have c7:=J (zE c6.o al.o (by simp;omega));have cB:Y _:=zQ cA.o al.o (by omega);have cf:Y _:=zQ ce.o al.o (by omega);have cq:Y _:=zQ cp.o al.o (by omega);go_wp2
     go_roundw
     case rel=>exact⟨n2,aQ,s5,_,by rw[ab];go_num,by omega,by rw[aa.o];exact bw.o.lt,by omega,aL,by rw[aa.o];exact bw.o,b2,c7,cB,by rw[ab,y.o,<-Bl];exact cf.o,by rw[y.o];exact cq.o,b9⟩
     case measure=>simp[intOf];omega
  ·rw[Az (by rw[hgo])] at x
   have aT:=fN ts s a hgo;have aa:Y ((yL ts s a).1=R.needS ts (R.valueS ts (uO ts s (Z a) (a.map Bq)).2).2 [59]):=rfl;have y:Y ((yL ts s a).2=a++[((uO ts s (Z a) (a.map Bq)).1,(R.valueS ts (uO ts s (Z a) (a.map Bq)).2).1)]):=rfl;have ab:Z (yL ts s a).2=Z a+1:=by rw[y.o];simp
   generalize yL ts s a=rr at*;obtain⟨s5,aQ⟩:=rr;simp only at x aT aa y ab;have aL:=J x;go_wp2_with fail;refine(qv bx.o _).mono ?_;rintro e a1 ⟨rfl,bq,bM⟩;have cQ:=J bq;have ar:Y (a0.grownBy a1 (V rb)):=bM;have b3:Y (Kept2 w a1 rb o):=a3.o.step ar.o;have c8:=J (zE bD.o ar.o (by simp;omega));have cD:Y _:=zQ bj.o ar.o (by omega);have ch:Y _:=zQ a8.o ar.o (by omega);go_wp2_with fail;refine(j4 (cQ.o.keep (Ac _ _ _)) _ _ _ _ _).mono ?_;rintro e aD ⟨rfl,br,bN⟩;have cR:=J br;have au:Y (a1.grownBy aD (V rb)):=(zD (Ac _ _ _) bN);have b4:Y (Kept2 w aD rb o):=b3.o.step au.o;have c9:=J (zE c8.o au.o (by simp;omega));have cE:Y _:=zQ cD.o au.o (by omega);have aK:Y _:=zQ ch.o au.o (by omega);have aX:Z (a.map Bq)<=10000:=by rw[Bv];omega
   have aN:Y (StrRow aD u4 (a.map Bq)):=by show Ib _ _ _ _ _ _ _;rw[Bv];exact zo aK.o (Ax _)
   go_wp2_with fail;refine(bB cR.o u4 (a.map Bq) aN.o aX (fun c=>by have:=(An aK.o rb c).1;omega)).mono ?_;rintro e ag ⟨rfl,bs,bO⟩;have cS:=J bs;have av:Y (aD.grownBy ag (V rb)):=bO;have aH:Y (Kept2 w ag rb o):=b4.o.step av.o;have dL:=aH.o.size;have bE:=J (zE c9.o av.o (by simp;omega));have bk:Y _:=zQ cE.o av.o (by omega);have Q:Y _:=zQ aK.o av.o (by omega);have JA:Y (RInv ag rb g ad ts (uO ts s (Z a) (a.map Bq)).2 H):=cS;rw[show(R.headerS ts (R.notS (R.needS ts s (⟨#[115,101,116]⟩:As).data.toList) (decide ((Z a:Ak)<3)) 3 ((R.cur ts s).at_:Ak)) (a.map Bq)).1=(uO ts s (Z a) (a.map Bq)).1 from rfl];generalize uO ts s (Z a) (a.map Bq)=pa at*;obtain⟨nm,s3⟩:=pa;simp only at JA aa y ⊢;go_wp2_with (at_builtin;refine Ei _ rfl _ _ 22 rfl (w.heap.size) 9 i1 _ 1 16 underlying22 hj aU aV aW rfl (by decide) _ _ _ rfl (Ao Q.o _) ⟨ag.heap.size,0,S⟩ 1 1 [I (R.str nm)] rfl rfl ?c1 ?c2 (by decide) ?c3 ?c4 ?c5 (ag.heap.size+1) (by simp) ?_)
   case c1=>exact zZ _ #[_] _ _ (by simp)
   case c2=>intro u hu;simp at hu;subst hu;rfl
   case c3=>unfold Bh;omega
   case c4=>omega
   case c5=>have:=aH.o.size;simp;omega
   intro dg de aE bT p dw _;have ci:Y (aE.ownsRow w.heap.size 9 1 (X (V ⟨dg,0,S⟩) (Z a+1) de) (Z a+1) (zY (a.map Bq++[nm]))):=by rw[xl];exact bT
   have aA:∀k,(u4:Aj).ownBlock=V k->w.heap.size<=k:=fun k f=>(An Q.o k f).1
   have dq:∀k,(u4:Aj).ownBlock=V k->k<ag.heap.size:=fun k f=>(An Q.o k f).2
   have cT:Y _:=(JA.o.keep (Ac _ _ _)).away p (fun k f=>by have h1:=aA k f;exact⟨by omega,by omega⟩);have b5:Y (Kept2 w aE rb o):=(aH.o.step (Ac _ _ _)).far p (fun k f=>by have h1:=aA k f;omega);have da:Y (aE.heap[o]?=V (Ae #[c0,c1,c2,c3,c4,c5,vS,X S 0 0] 126 (0,0))):=zw (zE bE.o (Ac _ _ S) (by simp)) p (fun k f=>by have h1:=aA k f;have h2:=dq k f;exact zI bE.o Q.o (by decide) k f);have cF:Y _:=zK (Ao bk.o _) p (qB Q.o bk.o (by decide));go_wp2_with fail;refine(sW cT.o).mono ?_;rintro e ap ⟨rfl,bt,bP⟩;have cU:=J bt;have aw:Y (aE.grownBy ap (V rb)):=bP;have aI:Y (Kept2 w ap rb o):=b5.o.step aw.o;have dM:=aI.o.size;have aP:=J (zE da.o aw.o (by simp;omega));have an:Y _:=zQ cF.o aw.o (by omega);have a9:Y _:=zQ ci.o aw.o (by omega);have dD:=cbi 6 aP.o;go_wp2_with (at_builtin;refine Ei _ rfl _ _ 124 rfl (w.heap.size) 185 i0 _ 2 32 underlying124 hi dk dl dm rfl (by decide) _ _ _ rfl (Ao an.o _) ⟨ap.heap.size,0,S⟩ 1 1 [I (R.str nm),I (R.str (R.valueS ts s3).1)] rfl rfl ?c1 ?c2 (by decide) ?c3 ?c4 ?c5 (ap.heap.size+1) (by simp) ?_)
   case c1=>exact zZ _ #[_,_] _ _ (by simp)
   case c2=>intro u hu;simp at hu;rcases hu with rfl|rfl <;> rfl
   case c3=>unfold Bh;omega
   case c4=>omega
   case c5=>have:=aI.o.size;simp;omega
   intro E i F bU t dx _;have bl:Y (F.ownsRow w.heap.size 185 2 (X (V ⟨E,0,S⟩) (Z a+1) i) (Z (a++[(nm,(R.valueS ts s3).1)])) (zi (a++[(nm,(R.valueS ts s3).1)]))):=by rw[yW,Ah];exact bU
   have aB:∀k,(vS:Aj).ownBlock=V k->w.heap.size<=k:=fun k f=>(An an.o k f).1
   have dr:∀k,(vS:Aj).ownBlock=V k->k<ap.heap.size:=fun k f=>(An an.o k f).2
   have cV:Y _:=(cU.o.keep (Ac _ _ _)).away t (fun k f=>by have h1:=aB k f;exact⟨by omega,by omega⟩);have b6:Y (Kept2 w F rb o):=(aI.o.step (Ac _ _ _)).far t (fun k f=>by have h1:=aB k f;omega);have ao:Y (F.heap[o]?=V (Ae #[c0,c1,c2,c3,c4,c5,vS,X S 0 0] 126 (0,0))):=zw (zE aP.o (Ac _ _ S) (by simp)) t (fun k f=>by have h1:=aB k f;have h2:=dr k f;exact zI aP.o an.o (by decide) k f);have ba:Y _:=zK (Ao a9.o _) t (qB an.o a9.o (by decide));have dF:=cbi 6 ao.o;have dH:=zm9 6 ao.o;go_wp2_with fail;have cW:Y _:=cV.o.other (zF F o 6 (X (V ⟨E,0,S⟩) (Z a+1) i)) (by omega) (by omega);have b7:Y (Kept2 w (Bs F ⟨o,6,S⟩ (X (V ⟨E,0,S⟩) (Z a+1) i)) rb o):=b6.o.own (zF F o 6 (X (V ⟨E,0,S⟩) (Z a+1) i));have db:Y ((Bs F ⟨o,6,S⟩ (X (V ⟨E,0,S⟩) (Z a+1) i)).heap[o]?=V (Ae #[c0,c1,c2,c3,c4,c5,X (V ⟨E,0,S⟩) (Z a+1) i,X S 0 0] 126 (0,0))):=zH ao.o (X (V ⟨E,0,S⟩) (Z a+1) i);have cG:Y _:=zJ bl.o (zF F o 6 (X (V ⟨E,0,S⟩) (Z a+1) i)) (zI ao.o bl.o (by decide));have cj:Y _:=zJ ba.o (zF F o 6 (X (V ⟨E,0,S⟩) (Z a+1) i)) (zI ao.o ba.o (by decide));generalize(Bs F ⟨o,6,S⟩ (X (V ⟨E,0,S⟩) (Z a+1) i))=wLy7 at*;refine(qv cW.o _).mono ?_;rintro e bX ⟨rfl,bu,bQ⟩;have bz:=J bu;have ax:Y (wLy7.grownBy bX (V rb)):=bQ;have b8:Y (Kept2 w bX rb o):=b7.o.step ax.o;have dc:=J (zE db.o ax.o (by simp;omega));have cH:Y _:=zQ cG.o ax.o (by omega);have ck:Y _:=zQ cj.o ax.o (by omega);go_wp2
   go_roundw
   case rel=>exact⟨n,aQ,s5,_,by rw[ab];go_num,by omega,by rw[aa.o];exact bz.o.lt,by omega,aL,by rw[aa.o];exact bz.o,b8,dc,by rw[y.o];exact cH.o,by rw[ab,y.o,Ef];exact ck.o⟩
   case measure=>simp[intOf];omega
end Go.Proofs.YtfocdefchbnkpaaGreatDoor
